import PyProof.Rows.All
import Wide.All
import OpenK.AllK
import Wide.FinOn
import Lean
import PyProof.EqAt
import PyProof.EqKinds
import PyProof.TupleCall
import PyProof.NeKinds
import PyProof.StationsW
import PyProof.RulesAs
import PyProof.ExcArgsOwn
import PyProof.CompFree
import PyProof.ExcInit
import PyProof.ConsumeWalk
import PyProof.Rows.SeqGen
import PyProof.StrWalks
import PyProof.SliceStr2
import PyProof.MeetsStr
import KE.KIntText
import PyProof.Rows.FStr
import PyProof.StrCalls6
import PyProof.StrBlockL
import PyProof.ToksMono
import PyProof.WalkInts
import PyProof.Rows.MinMaxN
import PyProof.StrLawsReplace
import PyProof.StrLawsTight
import PyProof.Rows.StrLawsPart
import PyProof.DictWalks
import KE.KEqDict
import KE.KDictLaws
import KE.KRevIter
import PyProof.ListCopy
import PyProof.CollectIter
import PyProof.Rows.SetFrom
import PyProof.Rows.SortShellK
import PyProof.Rows.SortStr
import PyProof.Rows.SortWalk
import KE.KDictSum
import KE.KSortTup
import PyProof.TupleOfSeq
import PyProof.Rows.SortRuns
import PyProof.FactsAll.tuple_2
import PyProof.WalksEnum
import PyProof.EnumMake
import PyProof.EnumFor
import PyProof.ZipIter
import KE.KDictOf
import PyProof.DictItems
import PyProof.FactsAll.dict_itemiterator_1
import PyProof.Rows.StrMul
import KE.KDictList
import PyProof.Rows.SumAny
import KE.KIsAll
import PyProof.StrLaws
import PyProof.FactsAll.list_3
import KE.KUnpack
import PyProof.Rows.CallKwBuiltin
import PySem.Challenge.RW_stovework_k37_room_and_first_fault
set_option maxHeartbeats 4000000
noncomputable section
abbrev JY:=PySem.Value->PySem.Shared->Prop
abbrev JZ:=PySem.Str->Option PySem.Value
abbrev J1:=List (PySem.Addr×PySem.Obj)
abbrev J3:=Array (Option PySem.Value)
abbrev J4:=List PySem.Str
abbrev J5:=List PySem.Addr
abbrev J6:=List PySem.Value
abbrev J7:=Option PySem.Addr
abbrev J8:=Option PySem.Value
open Array renaming getElem?_eq_some_iff → GS, length_toList → GV
open Bool renaming false_ne_true → FJ, and_eq_true → GN, not_true → GQ, false_or → GR
open Int renaming fmod_nonneg_of_pos → FP, fmod_lt_of_pos → Fo, natCast_mul → GF
open List renaming mem_cons → F4, getElem?_eq_getElem → F6, length_map → F7, mem_cons_of_mem → F8, mem_append_right → F9, mem_singleton → FA, mem_of_getElem? → FB, not_mem_nil → FC, mem_map → FE, map_append → FF, getElem?_map → FG, range → FI, getElem?_eq_some_iff → FL, mem_append → FM, length_cons → FS, mem_cons_self → FW, size_toArray → FX, map_cons → FZ, length_append → Fa, map_map → Fe, append_nil → Fm, cons_append → Fq, mem_iff_getElem? → Ft, getElem?_append_right → Fu, getElem?_append_left → Fx, mem_range → G0, all_eq_true → G1, nodup_cons → G3, length_drop → G6, length_take → GA, nodup_append → GD, append_assoc → GE, take_of_length_le → GG, findIdx?_eq_some_iff_getElem → GJ, nil_append → GK, length_range → GL, flatMap_cons → GM, lookup → GO, mem_append_left → GT, filterMap_cons → GW, range_succ → GZ
open Nat renaming le_refl → F5, le_trans → FH, lt_of_lt_of_le → FK, ne_of_lt → FO, zero_le → G7, lt_of_le_of_lt → GB, ne_of_gt → GC, lt_trans → GP, add_lt_add_left → GX, lt_irrefl → GY
open Option renaming map_eq_some_iff → FQ, isSome_iff_exists → Fd, bind_eq_some_iff → Fp
open Option.some renaming inj → FT
open PyProof.Rows renaming callWith_type1 → G8
open PySem renaming mem_of_lookup → Fs
open PySem.F renaming plainAttrs_list → FY, type_list_append → Fb, slot_list_append → Fc, plainAttrs_str → G4
open PySem.W renaming Frag → F0, kitOne → F3, nsIn → FD, mg_of → FN, findIn → FR, emptyDict → FU, keepIn → Fl, fnOf → Fn, mg_none_of → Fw, kia_one → Fy, subIn → G2, codeIn → G9, callWith_K → GH, instObj → GI, excIn → GU
open PySem.W.Fast renaming te14364793385576792824 → Ff, te14289696077712309145 → Fg, te11892475500146522536 → Fh, te10274390034422433532 → Fi, te10156331382660048174 → Fj, te6613529449190102663 → Fk
namespace Ht
open PySem PySem.W PyProof.Rows
noncomputable def pA (ok:Thread->Bool) (st:SharedT->Thread->Option (SharedT×Thread)) (n:Nat):SharedT->Thread->Option SharedT:=
 Nat.rec (motive:=fun _=>SharedT->Thread->Option SharedT) (fun _ _=>none) (fun _ ih s t=>
  Bool.rec (motive:=fun _=>Option SharedT)
   (Bool.rec (motive:=fun _=>Option SharedT) none (Option.rec (motive:=fun _=>Option SharedT) none (fun r=>Prod.rec (motive:=fun _=>Option SharedT) (fun s' t'=>ih s' t') r) (st s t)) (ok t))
   (some s) (through t)) n
theorem qA {tb:String->Option Builtin} {p:Program} {w:World} {m:Nat} {ann:J8}:∀{n:Nat} {s s':SharedT} {t:Thread},pA (stepOk m ann) (stepT (denote tb) p w) n s t=some s'->topRun tb p w m ann n s.abs t=some s'.abs
 |0,_,_,_,h=>by cases h
 |n+1,s,s',t,h=>by
  unfold topRun;have h':Bool.rec (motive:=fun _=>Option SharedT)
   (Bool.rec (motive:=fun _=>Option SharedT) none (Option.rec (motive:=fun _=>Option SharedT) none (fun r=>Prod.rec (motive:=fun _=>Option SharedT) (fun s' t'=>pA (stepOk m ann) (stepT (denote tb) p w) n s' t') r) (stepT (denote tb) p w s t)) (stepOk m ann t))
   (some s) (through t)=some s':=h
  cases ht:through t with
  |true=>rw[ht] at h';cases h';rfl
  |false=>
   rw[ht] at h';cases hk:stepOk m ann t with
   |false=>rw[hk] at h';cases h'
   |true=>
    rw[hk] at h';cases hs:stepT (denote tb) p w s t with
    |none=>rw[hs] at h';cases h'
    |some r=>
     obtain ⟨s₂,t₂⟩:=r;rw[hs] at h';dsimp only;rw[stepT_spec hs];exact qA h'
noncomputable def grow (l:List Obj):Nat->BT->Option BT:=
 List.rec (motive:=fun _=>Nat->BT->Option BT) (fun _ t=>some t) (fun o _ ih n t=>
  Bool.rec (motive:=fun _=>Option BT) none (ih (n+1) (t.ins n o)) ((t.ins n o).get n).isSome) l
theorem qB {life:Life}:∀{l:List Obj} {n:Nat} {t t':BT},grow l n t=some t'->absHeap t' (n+l.length) life=⟨(absHeap t n life).objs++l.toArray,life⟩
 | [],n,t,t',h=>by
  cases h;simp[absHeap]
 |o::l,n,t,t',h=>by
  have h':Bool.rec (motive:=fun _=>Option BT) none (grow l (n+1) (t.ins n o)) ((t.ins n o).get n).isSome=some t':=h
  cases e:((t.ins n o).get n).isSome with
  |false=>rw[e] at h';cases h'
  |true=>
   rw[e] at h';have z:=qB (life:=life) h';rw[absHeap_ins e] at z;rw[show n+(o::l).length=n+1+l.length by rw[FS];lia,z]
   simp[Heap.push]
noncomputable def treeOf (s:Shared):Option SharedT:=
 Option.rec (motive:=fun _=>Option SharedT) none (fun t=>some ⟨t,s.heap.objs.size,s.heap.life,s.gens,s.drawn,s.toks,s.os⟩) (grow s.heap.objs.toList 0 .nil)
theorem pB {s:Shared} {s':SharedT} (h:treeOf s=some s'):s'.abs=s:=by
 have h':Option.rec (motive:=fun _=>Option SharedT) none (fun t=>some ⟨t,s.heap.objs.size,s.heap.life,s.gens,s.drawn,s.toks,s.os⟩) (grow s.heap.objs.toList 0 .nil)=some s':=h
 cases e:grow s.heap.objs.toList 0 .nil with
 |none=>rw[e] at h';cases h'
 |some t=>
  rw[e] at h';cases h';have z:=qB (life:=s.heap.life) e;obtain ⟨⟨objs,life⟩,gens,drawn,toks,os⟩:=s;simp only[SharedT.abs];have z':absHeap t objs.size life=⟨objs,life⟩:=by
   simpa [absHeap,BT.list] using z
  rw[z']
noncomputable def tW (ok:Nat->J8->Thread->Bool) (st:SharedT->Thread->Option (SharedT×Thread)) (p:Program) (N:Nat) (s₀:Shared):Option Shared:=
 Bool.rec (motive:=fun _=>Option Shared) none
  ((treeOf s₀).bind fun t₀=>(pA (ok s₀.heap.objs.size (s₀.heap.nsMap mainGlobals "__annotations__")) st N t₀ (topStub p)).bind fun t₁=>
   (fun s₁=>Bool.rec (motive:=fun _=>Option Shared) none (some s₁) (staticsOk (importedModules p.main.body) s₀.heap s₁.heap&&namesBound p s₁.heap&&gensDone s₁&&laidKept s₀.heap s₁.heap)) t₁.abs)
  (s₀.heap.isNs mainGlobals&&s₀.gens.size==0)
theorem tX {tb:String->Option Builtin} {p:Program} {w:World} {N:Nat} {s₀ s:Shared} (h:tW stepOk (stepT (denote tb) p w) p N s₀=some s):topFrom tb p w N s₀=some s:=by
 unfold tW at h;unfold topFrom;cases e:s₀.heap.isNs mainGlobals&&s₀.gens.size==0 with
 |false=>rw[e] at h;cases h
 |true=>
  rw[e] at h;obtain ⟨t₀,e0,h⟩:=Fp.mp h;obtain ⟨t₁,e1,h⟩:=Fp.mp h;have r:=qA e1;rw[pB e0] at r;dsimp only;rw[r];dsimp only at h;show (match staticsOk (importedModules p.main.body) s₀.heap t₁.abs.heap&&namesBound p t₁.abs.heap&&gensDone t₁.abs&&laidKept s₀.heap t₁.abs.heap with|true=>some t₁.abs|false=>none)=some s
  cases q:staticsOk (importedModules p.main.body) s₀.heap t₁.abs.heap&&namesBound p t₁.abs.heap&&gensDone t₁.abs&&laidKept s₀.heap t₁.abs.heap with
  |false=>rw[q] at h;cases h
  |true=>rw[q] at h;exact h
noncomputable def kI (ok:Nat->J8->Thread->Bool) (st:SharedT->Thread->Option (SharedT×Thread)) (p:Program) (N:Nat) (s₀:Shared):Option Shared:=
 (treeOf s₀).bind fun t₀=>(pA (ok s₀.heap.objs.size (s₀.heap.nsMap mainGlobals "__annotations__")) st N t₀ (topStub p)).map fun t₁=>t₁.abs
noncomputable def sB (p:Program) (s₀ s₁:Shared):Bool:=(s₀.heap.isNs mainGlobals&&s₀.gens.size==0)&&(staticsOk (importedModules p.main.body) s₀.heap s₁.heap&&namesBound p s₁.heap&&gensDone s₁&&laidKept s₀.heap s₁.heap)
theorem tY {tb:String->Option Builtin} {p:Program} {w:World} {N:Nat} {s₀ s:Shared} (h:kI stepOk (stepT (denote tb) p w) p N s₀=some s) (c:sB p s₀ s=true):topFrom tb p w N s₀=some s:=by
 apply tX;unfold kI at h;obtain ⟨t₀,e0,h⟩:=Fp.mp h;obtain ⟨t₁,e1,rfl⟩:=FQ.mp h;unfold sB at c;rw[GN] at c;unfold tW;rw[c.1];show ((treeOf s₀).bind fun t₀=>_)=_
 rw[e0];show ((pA _ _ N t₀ (topStub p)).bind fun t₁=>_)=_
 rw[e1];show (Bool.rec (motive:=fun _=>Option Shared) none (some t₁.abs) (staticsOk (importedModules p.main.body) s₀.heap t₁.abs.heap&&namesBound p t₁.abs.heap&&gensDone t₁.abs&&laidKept s₀.heap t₁.abs.heap):Option Shared)=_
 rw[c.2]
abbrev Look (p:Program) (N:Nat) {α:Type} (f:Shared->Shared->α) (v:World->α):Prop:=∀w:World,((importEnds treeTable (opening p) w N (start (opening p)).1 (start (opening p)).2).bind fun s=>(fenceModules? p s).bind fun s₀=>(kI stepOk (stepT (denote treeTable) p w) p N s₀).map fun s₁=>f s₀ s₁)=some (v w)
theorem Look.at_ {p:Program} {N:Nat} {α:Type} {f:Shared->Shared->α} {v:World->α} (h:Look p N f v) (w:World) {s s₀ s₁:Shared} (a:importEnds treeTable (opening p) w N (start (opening p)).1 (start (opening p)).2=some s) (b:fenceModules? p s=some s₀) (c:kI stepOk (stepT (denote treeTable) p w) p N s₀=some s₁):f s₀ s₁=v w:=by
 have:=h w;rw[a] at this;replace this:((fenceModules? p s).bind fun s₀=>(kI stepOk (stepT (denote treeTable) p w) p N s₀).map fun s₁=>f s₀ s₁)=some (v w):=this
 rw[b] at this;replace this:((kI stepOk (stepT (denote treeTable) p w) p N s₀).map fun s₁=>f s₀ s₁)=some (v w):=this
 rw[c] at this;injection this
theorem tZ {p q:Program} {loose:J4} {Xt:Shared->Bool} {α:Type} {Yf:Shared->α} {Ya:World->α} {N:Nat} {g0:Bool} (hc:Look p N (fun s₀ s₁=>sB p s₀ s₁) fun _=>true)
  (h1:Look p N (fun _ s=>openSeen q loose (importedModules p.main.body) Xt g0 s) fun _=>openGood q loose) (h2:Look p N (fun _ s=>Yf s) Ya):LeftO p q loose Xt Yf Ya N g0:=fun w=>by
 obtain ⟨s,a,e⟩:=Fp.mp (hc w);obtain ⟨s₀,b,e⟩:=Fp.mp e;obtain ⟨s₁,c,e⟩:=FQ.mp e;have z:openEnds treeTable p w N=some s₁:=by
  unfold openEnds fencedOpening;rw[a];show (fenceModules? p s).bind _=_;rw[b];exact tY c e
 rw[z];show some (_,_)=some (_,_);rw[h1.at_ w a b c,h2.at_ w a b c]
def dD (p:Program) (N:Nat) {α:Type} (f:Shared->Shared->α) (v:World->α) (w:World):Prop:=((importEnds treeTable (opening p) w N (start (opening p)).1 (start (opening p)).2).bind fun s=>(fenceModules? p s).bind fun s₀=>(kI stepOk (stepT (denote treeTable) p w) p N s₀).map fun s₁=>f s₀ s₁)=some (v w)
noncomputable def qC (t:SharedT) (a:Addr):Option Obj:=Bool.rec (motive:=fun _=>Option Obj) none ((fun o=>Bool.rec (motive:=fun _=>Option Obj) (some o) none (Obj.isFreed o)) ((t.tree.get a).getD default)) (Nat.blt a t.n)
theorem sC (t:SharedT) (a:Addr):qC t a=t.abs.heap.get? a:=by
 unfold qC SharedT.abs Heap.get?;dsimp only;rw[absHeap_at];cases h:Nat.blt a t.n with
 |false=>
  rw[if_neg fun z=>by rw[Nat.blt_eq.mpr z] at h;cases h]
 |true=>
  rw[if_pos (Nat.blt_eq.mp h)];obtain ⟨cls,dict,data,slots⟩:=(t.tree.get a).getD default;cases data<;>rfl
theorem sD {p:Program} {N:Nat} {as:J5} {v:World->List (Option Obj)}
  (h:∀w:World,((importEnds treeTable (opening p) w N (start (opening p)).1 (start (opening p)).2).bind fun s=>(fenceModules? p s).bind fun s₀=>(treeOf s₀).bind fun t₀=>(pA (stepOk s₀.heap.objs.size (s₀.heap.nsMap mainGlobals "__annotations__")) (stepT (denote treeTable) p w) N t₀ (topStub p)).map fun t₁=>as.map (qC t₁))=some (v w)):
  Look p N (fun _ s=>as.map s.heap.get?) v:=fun w=>by
 obtain ⟨s,a,e⟩:=Fp.mp (h w);obtain ⟨s₀,b,e⟩:=Fp.mp e;obtain ⟨t₀,c,e⟩:=Fp.mp e;obtain ⟨t₁,d,e⟩:=FQ.mp e;rw[a];show (fenceModules? p s).bind _=_;rw[b];show (kI stepOk (stepT (denote treeTable) p w) p N s₀).map _=_;unfold kI;rw[c];show ((pA _ _ N t₀ (topStub p)).map fun t₁=>t₁.abs).map _=_
 rw[d];show some (as.map t₁.abs.heap.get?)=_;rw[<-e,show (as.map (qC t₁))=as.map t₁.abs.heap.get? from List.map_congr_left fun a _=>sC t₁ a]
theorem y4 {p:Program} {N:Nat} {α β γ δ:Type} {f:Shared->Shared->α×β×γ×δ} {v:World->α×β×γ×δ} (h1:Look p N (fun a b=>((f a b).1,(f a b).2.1,(f a b).2.2.1)) fun w=>((v w).1,(v w).2.1,(v w).2.2.1)) (h2:Look p N (fun a b=>(f a b).2.2.2) fun w=>(v w).2.2.2):Look p N f v:=fun w=>by
 obtain ⟨s,a,e⟩:=Fp.mp (h1 w);obtain ⟨s₀,b,e⟩:=Fp.mp e;obtain ⟨s₁,c,e⟩:=FQ.mp e;have e1:=h1.at_ w a b c;have e2:=h2.at_ w a b c;rw[a];show (fenceModules? p s).bind _=_;rw[b];show (kI stepOk (stepT (denote treeTable) p w) p N s₀).map _=_;rw[c];obtain ⟨f1,f2⟩:=Prod.mk.inj e1;obtain ⟨f2,f3⟩:=Prod.mk.inj f2;have f4:f s₀ s₁=v w:=Prod.ext f1 (Prod.ext f2 (Prod.ext f3 e2));exact congrArg some f4
end Ht
set_option Elab.async false
set_option linter.all false
set_option maxRecDepth 100000
namespace Lk37
open PySem PySem.W PyProof.Rows
noncomputable def qv:Program:={PySem.Challenge.pw_stovework_k37_room_and_first_fault with main:={PySem.Challenge.pw_stovework_k37_room_and_first_fault.main with body:=([0,2,3,4,5,6,7,8,9,11,12,13,15,16,19,20,22,23,24,25,27,28,29,31,32,34,35,36,37,39,40,41,42,44,46,47,48,49,50,51,52,53,54,55,56,57,58,59,60,61,62,63,64,65,66,67,69,70,71,72,73,74,75,76,77,78,79,80,81,82,83,84]:List Nat).filterMap fun i=>PySem.Challenge.pw_stovework_k37_room_and_first_fault.main.body[i]?}}
noncomputable def lo:J4:= ["fraction","BOUNDS","Warm","FORMS"]
theorem head {α:Type} {Yf:Shared->α} {Ya:World->α} {YP:World->Heap->Prop} {d:DefRec} {kwd:List (Str×Expr)} (left:LeftO PySem.Challenge.pw_stovework_k37_room_and_first_fault qv lo (fun s=>xlAt qv [] s&&recOk [] s) Yf Ya 10614)
  (hY:∀w s,Yf s=Ya w->YP w s.heap) (hYk:∀w h h',YP w h->(∀b o,h.get? b=some o->h'.get? b=some o)->YP w h') (hd:defOf qv PySem.Challenge.rw_stovework_k37_room_and_first_fault.row.name=some (d,kwd))
  (hp:PySem.Challenge.rw_stovework_k37_room_and_first_fault.row.prog.theDef PySem.Challenge.rw_stovework_k37_room_and_first_fault.row.name=some (d.params,d.body,d.scope)) (hk:kwWritten? d.params.kwonlyargs d.params.kw_defaults=some kwd)
  (said:PySem.Challenge.rw_stovework_k37_room_and_first_fault.row.wellSaid=true) (hw:PySem.Challenge.rw_stovework_k37_room_and_first_fault.row.toRowW.promised) (call:WalkO qv lo (XL qv []) YP PySem.Challenge.rw_stovework_k37_room_and_first_fault.row.toRowW d kwd fun f vs=>PySem.call f vs):PySem.Challenge.rw_stovework_k37_room_and_first_fault.row.Holds:=
 holds_open left hY hYk (fun s e=>xl_of s (Bool.and_eq_true_iff.mp e).1) XL.keeps hd hp hk (fun s e=>recFacts_of (Bool.and_eq_true_iff.mp e).2) rfl said (by decide+kernel) ⟨rfl,rfl,rfl,rfl,rfl,by decide+kernel⟩ hw call
set_option maxHeartbeats 0 in
theorem EJ:∀w:World,Ht.dD PySem.Challenge.pw_stovework_k37_room_and_first_fault 10614 (fun s₀ s₁=>Ht.sB PySem.Challenge.pw_stovework_k37_room_and_first_fault s₀ s₁) (fun _=>true) (w.withFollow "special-get-raises" false):=by
 intro w;unfold Ht.dD;rw[Fi,Fg,Fk,Fj,Fh,Ff]
 kernel_rfl
set_option maxHeartbeats 0 in
theorem EK:∀w:World,Ht.dD PySem.Challenge.pw_stovework_k37_room_and_first_fault 10614 (fun s₀ s₁=>Ht.sB PySem.Challenge.pw_stovework_k37_room_and_first_fault s₀ s₁) (fun _=>true) (w.withFollow "special-get-raises" true):=by
 intro w;unfold Ht.dD;rw[Fi,Fg,Fk,Fj,Fh,Ff]
 kernel_rfl
theorem la:Ht.Look PySem.Challenge.pw_stovework_k37_room_and_first_fault 10614 (fun s₀ s₁=>Ht.sB PySem.Challenge.pw_stovework_k37_room_and_first_fault s₀ s₁) (fun _=>true):=PySem.W.byRow2 "special-get-raises" EJ EK
set_option maxHeartbeats 0 in
theorem Df:∀w:World,Ht.dD PySem.Challenge.pw_stovework_k37_room_and_first_fault 10614 (fun _ s=>((openSeen qv lo (importedModules PySem.Challenge.pw_stovework_k37_room_and_first_fault.main.body) (fun s=>xlAt qv [] s&&recOk [] s) true s).1,(openSeen qv lo (importedModules PySem.Challenge.pw_stovework_k37_room_and_first_fault.main.body) (fun s=>xlAt qv [] s&&recOk [] s) true s).2.1,(openSeen qv lo (importedModules PySem.Challenge.pw_stovework_k37_room_and_first_fault.main.body) (fun s=>xlAt qv [] s&&recOk [] s) true s).2.2.1)) (fun _=>((openGood qv lo).1,(openGood qv lo).2.1,(openGood qv lo).2.2.1)) (w.withFollow "special-get-raises" false):=by
 intro w;unfold Ht.dD;dsimp only[openSeen,openGood];rw[Fi,Fg,Fk,Fj,Fh,Ff]
 kernel_rfl
set_option maxHeartbeats 0 in
theorem Dg:∀w:World,Ht.dD PySem.Challenge.pw_stovework_k37_room_and_first_fault 10614 (fun _ s=>((openSeen qv lo (importedModules PySem.Challenge.pw_stovework_k37_room_and_first_fault.main.body) (fun s=>xlAt qv [] s&&recOk [] s) true s).1,(openSeen qv lo (importedModules PySem.Challenge.pw_stovework_k37_room_and_first_fault.main.body) (fun s=>xlAt qv [] s&&recOk [] s) true s).2.1,(openSeen qv lo (importedModules PySem.Challenge.pw_stovework_k37_room_and_first_fault.main.body) (fun s=>xlAt qv [] s&&recOk [] s) true s).2.2.1)) (fun _=>((openGood qv lo).1,(openGood qv lo).2.1,(openGood qv lo).2.2.1)) (w.withFollow "special-get-raises" true):=by
 intro w;unfold Ht.dD;dsimp only[openSeen,openGood];rw[Fi,Fg,Fk,Fj,Fh,Ff]
 kernel_rfl
theorem EL:Ht.Look PySem.Challenge.pw_stovework_k37_room_and_first_fault 10614 (fun _ s=>((openSeen qv lo (importedModules PySem.Challenge.pw_stovework_k37_room_and_first_fault.main.body) (fun s=>xlAt qv [] s&&recOk [] s) true s).1,(openSeen qv lo (importedModules PySem.Challenge.pw_stovework_k37_room_and_first_fault.main.body) (fun s=>xlAt qv [] s&&recOk [] s) true s).2.1,(openSeen qv lo (importedModules PySem.Challenge.pw_stovework_k37_room_and_first_fault.main.body) (fun s=>xlAt qv [] s&&recOk [] s) true s).2.2.1)) (fun _=>((openGood qv lo).1,(openGood qv lo).2.1,(openGood qv lo).2.2.1)):=PySem.W.byRow2 "special-get-raises" Df Dg
set_option maxHeartbeats 0 in
theorem Dh:∀w:World,Ht.dD PySem.Challenge.pw_stovework_k37_room_and_first_fault 10614 (fun _ s=>(openSeen qv lo (importedModules PySem.Challenge.pw_stovework_k37_room_and_first_fault.main.body) (fun s=>xlAt qv [] s&&recOk [] s) true s).2.2.2) (fun _=>(openGood qv lo).2.2.2) (w.withFollow "special-get-raises" false):=by
 intro w;unfold Ht.dD;dsimp only[openSeen,openGood];rw[Fi,Fg,Fk,Fj,Fh,Ff]
 kernel_rfl
set_option maxHeartbeats 0 in
theorem Di:∀w:World,Ht.dD PySem.Challenge.pw_stovework_k37_room_and_first_fault 10614 (fun _ s=>(openSeen qv lo (importedModules PySem.Challenge.pw_stovework_k37_room_and_first_fault.main.body) (fun s=>xlAt qv [] s&&recOk [] s) true s).2.2.2) (fun _=>(openGood qv lo).2.2.2) (w.withFollow "special-get-raises" true):=by
 intro w;unfold Ht.dD;dsimp only[openSeen,openGood];rw[Fi,Fg,Fk,Fj,Fh,Ff]
 kernel_rfl
theorem EM:Ht.Look PySem.Challenge.pw_stovework_k37_room_and_first_fault 10614 (fun _ s=>(openSeen qv lo (importedModules PySem.Challenge.pw_stovework_k37_room_and_first_fault.main.body) (fun s=>xlAt qv [] s&&recOk [] s) true s).2.2.2) (fun _=>(openGood qv lo).2.2.2):=PySem.W.byRow2 "special-get-raises" Dh Di
theorem lb:Ht.Look PySem.Challenge.pw_stovework_k37_room_and_first_fault 10614 (fun _ s=>(openSeen qv lo (importedModules PySem.Challenge.pw_stovework_k37_room_and_first_fault.main.body) (fun s=>xlAt qv [] s&&recOk [] s) true s)) (fun _=>(openGood qv lo)):=Ht.y4 EL EM
end Lk37
local macro_rules| `(tactic|o_head $H)=> `(tactic|(refine Lk37.head (Yf:=PySem.W.Hook.obs $H) (Ya:=PySem.W.Hook.val $H) (YP:=PySem.W.Hook.says $H) ?hl (PySem.W.Hook.of $H) (PySem.W.Hook.keeps $H) (by rfl) (by rfl) (by rfl) (by assumption) ?hw ?hc;(case hl=>(refine Ht.tZ Lk37.la Lk37.lb ?c;(case c=>(refine Ht.sD ?c2;(case c2=>(refine PySem.W.byRow2 "special-get-raises" (fun w=>?_) (fun w=>?_)<;>(rw[Fi,Fg,Fk,Fj,Fh,Ff];kernel_rfl)))))))))
namespace PySem.W.Fast
noncomputable def tw3756303157319059055:PySem.Program:=PySem.Challenge.pw_stovework_k37_room_and_first_fault
theorem te3756303157319059055:PySem.Challenge.pw_stovework_k37_room_and_first_fault=tw3756303157319059055:=rfl
end PySem.W.Fast
set_option maxHeartbeats 0 in
open_top Lk37.hd for PySem.Challenge.rw_stovework_k37_room_and_first_fault
namespace L2
open PySem PySem.Spec PyProof.Rows
abbrev Key:=Sum Int Str
noncomputable def kT:Key->Value->Bool
 | .inl k,v=>Value.isInt k v
 | .inr x,v=>Value.isStrOf x v
noncomputable def Dj (w:World):Key->Int
 | .inl k=>hashInt k
 | .inr x=>hashStr w x
theorem bS:∀{k:Key} {v:Value},kT k v=true->(∃i t,k=Sum.inl i/\v=Value.int i t)∨(∃x t,k=Sum.inr x/\v=Value.str x t)
 | .inl i,v,h=>by
  obtain ⟨t,e⟩:=Value.isInt_shape (k:=i) (v:=v) h;exact .inl ⟨i,t,rfl,e⟩
 | .inr x,v,h=>by
  obtain ⟨t,e⟩:=Value.isStrOf_shape (x:=x) (v:=v) h;exact .inr ⟨x,t,rfl,e⟩
theorem sE (i:Int) (t:Tok):kT (.inl i) (.int i t)=true:=by simp[kT,Value.isInt]
theorem sF (x:Str) (t:Tok):kT (.inr x) (.str x t)=true:=by simp[kT,Value.isStrOf]
theorem y6 (a b:Int):decide ((Sum.inl a:Key)=Sum.inl b)=(a==b):=by
 by_cases e:a=b
 ·subst e;simp
 ·have h:¬(Sum.inl a:Key)=Sum.inl b:=fun q=>e (Sum.inl.inj q)
  rw[decide_eq_false h];exact (beq_eq_false_iff_ne.mpr e).symm
theorem y8 (a b:Str):decide ((Sum.inr a:Key)=Sum.inr b)=decide (a=b):=by
 by_cases e:a=b
 ·subst e;simp
 ·have h:¬(Sum.inr a:Key)=Sum.inr b:=fun q=>e (Sum.inr.inj q)
  rw[decide_eq_false h,decide_eq_false e]
theorem y9 (a:Int) (b:Str):decide ((Sum.inl a:Key)=Sum.inr b)=false:=decide_eq_false (fun q=>nomatch q)
theorem za (a:Str) (b:Int):decide ((Sum.inr a:Key)=Sum.inl b)=false:=decide_eq_false (fun q=>nomatch q)
noncomputable def dO (prog:Program) (w:World):PySem.KeyKind prog w Key where
 is:=kT
 hash:=Dj w
 inj:=fun v a b ha hb=>by
  rcases bS ha with ⟨i,t,rfl,rfl⟩|⟨x,t,rfl,rfl⟩
  ·rcases bS hb with ⟨j,u,rfl,e⟩|⟨y,u,rfl,e⟩
   ·injection e with e1 _;rw[e1]
   ·exact nomatch e
  ·rcases bS hb with ⟨j,u,rfl,e⟩|⟨y,u,rfl,e⟩
   ·exact nomatch e
   ·injection e with e1 _;rw[e1]
 byValue:=fun k v h=>by
  rcases bS h with ⟨i,t,rfl,rfl⟩|⟨x,t,rfl,rfl⟩<;>rfl
 pyHash:=fun hv h=>by
  rcases bS hv with ⟨i,t,rfl,rfl⟩|⟨x,t,rfl,rfl⟩
  ·exact wpAny_pyHash_int h
  ·exact wpAny_pyHash_str h
 eqBool:=fun hu hv h=>by
  rcases bS hu with ⟨i,t,rfl,rfl⟩|⟨x,t,rfl,rfl⟩
  ·rcases bS hv with ⟨j,u,rfl,rfl⟩|⟨y,u,rfl,rfl⟩
   ·rw[y6] at h;exact wpAny_eqBool_int h
   ·rw[y9] at h;exact SeqAt.EqAt.int_str i t y u _ _ _ _ h
  ·rcases bS hv with ⟨j,u,rfl,rfl⟩|⟨y,u,rfl,rfl⟩
   ·rw[za] at h;exact SeqAt.EqAt.str_int x t j u _ _ _ _ h
   ·rw[y8] at h;exact wpAny_eqBool_str h
 «strs» :=fun k x t v h=>by
  rcases bS h with ⟨i,u,rfl,e⟩|⟨y,u,rfl,e⟩
  ·exact nomatch e
  ·injection e with e1 _
   subst e1;cases v<;>rfl
theorem nC (prog:Program) (w:World) (i:Int) (t:Tok):(dO prog w).is (.inl i) (.int i t)=true:=sE i t
theorem nD (prog:Program) (w:World) (x:Str) (t:Tok):(dO prog w).is (.inr x) (.str x t)=true:=sF x t
inductive V where
 |non|bl (b:Bool)|int (i:Int)|str (x:Str)|byt (b:Array UInt8)|flt (b:UInt64)|ref (a:Addr)|ty (n:String)|raw (x:Str) (t:Tok)
 deriving DecidableEq
def RelV:V->Value->Prop
 | .non,u=>u=Value.none
 | .bl b,u=>u=Value.bool b
 | .int i,u=>∃t,u=Value.int i t
 | .str x,u=>∃t,u=Value.str x t
 | .byt b,u=>∃t,u=Value.bytes b t
 | .flt b,u=>∃t,u=Value.float b t
 | .ref a,u=>u=Value.ref a
 | .ty n,u=>u=Value.type n
 | .raw x t,u=>u=Value.str x t
abbrev aV:List V->J6->Prop:=Paired RelV
theorem aV.length {xs:List V} {us:J6} (r:aV xs us):xs.length=us.length:=Paired.length r
theorem aV.get:∀{xs:List V} {us:J6} {i:Nat} {x:V},aV xs us->xs[i]?=some x->∃u,us[i]?=some u/\RelV x u
 |_,_,_,_,.nil,e=>by simp at e
 |_,_,0,_,.cons r _,e=>by simp at e;subst e;exact ⟨_,rfl,r⟩
 |_,_,i+1,x,.cons _ t,e=>by
  obtain ⟨u,h1,h2⟩:=aV.get (i:=i) (x:=x) t (by simpa using e)
  exact ⟨u,by simpa using h1,h2⟩
theorem aV.append:∀{xs ys:List V} {us ws:J6},aV xs us->aV ys ws->aV (xs++ys) (us++ws)
 |_,_,_,_,.nil,s=>s
 |_,_,_,_,.cons r t,s=> .cons r (aV.append t s)
theorem aV.take:∀{xs:List V} {us:J6} (n:Nat),aV xs us->aV (xs.take n) (us.take n)
 |_,_,0,_=> .nil
 |_,_,_+1,.nil=> .nil
 |_,_,n+1,.cons r t=> .cons r (aV.take n t)
theorem aV.drop:∀{xs:List V} {us:J6} (n:Nat),aV xs us->aV (xs.drop n) (us.drop n)
 |_,_,0,r=>r
 |_,_,_+1,.nil=> .nil
 |_,_,n+1,.cons _ t=>aV.drop n t
def ma:Option V->J8->Prop
 |some v,some u=>RelV v u
 |none,none=>True
 |_,_=>False
def KV {κ:Type}:List (κ×V)->List (κ×Value)->Prop:=Paired fun (p:κ×V) (q:κ×Value)=>p.1=q.1/\RelV p.2 q.2
noncomputable def kV:Key->V
 | .inl i=> .int i
 | .inr x=> .str x
inductive HO where
  |lst (xs:List V)
  |tup (xs:List V)
  |dK (kvs:List (Key×V))|dT (kvs:List (List Key×V))
  |set (S:Int->Bool) (n:Nat)
  |ins (C dx:Addr) (fs:List (Str×V))
  |own (x:Addr)
  |xd (fs:List (Str×V))
  |met (f x:Addr)
  |rng (lo hi:Int)
  |frz (o:Obj) (u:HO)
  |tbl (ps:Array Value)
  |ext (φ:Heap->Prop)
abbrev Hp:=Addr->Option HO
noncomputable def aL (H:Hp) (a:Addr) (o:HO):Hp:=fun b=>if b=a then some o else H b
theorem ac {H:Hp} {a:Addr} {o:HO}:aL H a o a=some o:=by unfold aL;rw[if_pos rfl]
theorem ar {H:Hp} {a b:Addr} {o:HO} (h:b≠a):aL H a o b=H b:=by unfold aL;rw[if_neg h]
theorem qD {H:Hp} {a:Addr} {o u:HO}:aL (aL H a o) a u=aL H a u:=by
 funext b;unfold aL;split<;>rfl
theorem jR {H:Hp} {a b:Addr} {o u:HO} (h:H a=some o) (h':H b=some u) (d:o≠u):a≠b:=by
 intro e;subst e;rw[h] at h';exact d (FT h')
theorem aM {H:Hp} {a b:Addr} {o:HO} (h:H a=some o) (h':H b=none):a≠b:=by
 intro e;subst e;rw[h] at h';cases h'
section
variable (P:Program) (w:World)
def bJ (H:Hp) (h:Heap) (a:Addr):HO->Prop
 | .lst xs=>xs.length<=sizeLine/\∃(its:J6) (n:Nat),aV xs its/\h.get? a=some {cls:= .type "list",data:= .seq its.toArray n}
 | .tup xs=>xs.length<=sizeLine/\∃its:J6,aV xs its/\IsTup h a its.toArray
 | .dK kvs=>kvs.length<=sizeLine/\(a==sysModules)=false/\∃vs,KV kvs vs/\h.DictOf (dO P w) a vs
 | .dT kvs=>kvs.length<=sizeLine/\(a==sysModules)=false/\∃xs:List (List Key×Addr×Value),
   Paired (fun (p:List Key×V) (q:List Key×Addr×Value)=>p.1=q.1/\H q.2.1=some (.tup (p.1.map kV))/\RelV p.2 q.2.2) kvs xs/\
   ∃o es ep,h.get? a=some o/\o.ExactDict/\o.data= .dict es ep/\es.toList=xs.map (entryOfKey (tupleKind (dO P w)))/\(xs.map (·.1)).Nodup
 | .set S n=>h.SetOf (intKind P w) a S n
 | .ins C dx fs=>H dx=some (.own a)/\fs.length<=1000/\dx≠a/\h.get? a=some (GI C dx)/\
   ∃mA,h.Ns1 dx mA/\(∀f,ma (fs.lookup f) (mA f))/\PySem.Within mA (fs.map (·.1))
 | .own _=>∃o,h.get? a=some o
 | .xd fs=>∃mA,h.Ns1 a mA/\∀f,ma (fs.lookup f) (mA f)
 | .rng lo hi=>∃t u v,h.get? a=some {cls:= .type "range",data:= .fields #[.int lo t,.int hi u,.int 1 v]}
 | .frz o u=>h.get? a=some o/\bJ H h a u
 | .tbl ps=>h.get? a=some {cls:= .none,data:= .fields ps}
 | .met f x=>h.get? a=some (PySem.W.methodObj (.ref f) (.ref x))
 | .ext φ=>φ h/\(∃o,h.get? a=some o)/\∀h1 h2:Heap,φ h1->(∀o,h1.get? a=some o->h2.get? a=some o)->φ h2
def fQ (H:Hp) (h:Heap):Prop:=∀a o,H a=some o->bJ P w H h a o
end
section
variable {P:Program} {w:World} {H H':Hp} {h h':Heap} {a:Addr} {o:HO}
theorem bJ.lt (x:bJ P w H h a o):a<h.objs.size:=by
 cases o with
 |lst xs=>obtain ⟨_,_,_,_,e⟩:=x;exact Heap.lt_size e
 |tup xs=>obtain ⟨_,_,_,p⟩:=x;exact p.lt
 |dK kvs=>obtain ⟨_,_,_,_,o,_,_,e,_⟩:=x;exact Heap.lt_size e
 |dT kvs=>obtain ⟨_,_,_,_,o,_,_,e,_⟩:=x;exact Heap.lt_size e
 |set S n=>obtain ⟨o,_,_,_,e,_⟩:=x;exact Heap.lt_size e
 |ins C dx fs=>obtain ⟨_,_,_,e,_⟩:=x;exact Heap.lt_size e
 |own y=>obtain ⟨_,e⟩:=x;exact Heap.lt_size e
 |xd fs=>obtain ⟨_,⟨_,_,_,e,_⟩,_⟩:=x;exact Heap.lt_size e
 |rng lo hi=>obtain ⟨_,_,_,e⟩:=x;exact Heap.lt_size e
 |frz ob u=>obtain ⟨e,_⟩:=x;exact Heap.lt_size e
 |tbl ps=>exact Heap.lt_size (show h.get? a=some _ from x)
 |met f y=>exact Heap.lt_size (show h.get? a=some _ from x)
 |ext φ=>obtain ⟨_,⟨_,e⟩,_⟩:=x;exact Heap.lt_size e
theorem Paired.mapP {α β:Type} {F G:α->β->Prop}:∀{l₁:List α} {l₂:List β},Paired F l₁ l₂->(∀a b,F a b->G a b)->Paired G l₁ l₂
 |_,_,.nil,_=> .nil
 |_,_,.cons r t,f=> .cons (f _ _ r) (Paired.mapP t f)
theorem bJ.stay (x:bJ P w H h a o) (k:∀b u,(b=a∨H b=some (.own a))->h.get? b=some u->h'.get? b=some u)
  (ho:∀b,H b=some (.own a)->H' b=some (.own a)) (ht:∀b xs,H b=some (.tup xs)->H' b=some (.tup xs)):bJ P w H' h' a o:=by
 induction o with
 |lst xs=>obtain ⟨z,its,n,r,e⟩:=x;exact ⟨z,its,n,r,k _ _ (.inl rfl) e⟩
 |tup xs=>obtain ⟨z,its,r,ob,e,c⟩:=x;exact ⟨z,its,r,ob,k _ _ (.inl rfl) e,c⟩
 |dK kvs=>obtain ⟨z,y,vs,r,ob,es,ep,e,c⟩:=x;exact ⟨z,y,vs,r,ob,es,ep,k _ _ (.inl rfl) e,c⟩
 |dT kvs=>
  obtain ⟨z,y,xs,r,ob,es,ep,e,c⟩:=x;exact ⟨z,y,xs,Paired.mapP r fun p q z=>⟨z.1,ht _ _ z.2.1,z.2.2⟩,ob,es,ep,k _ _ (.inl rfl) e,c⟩
 |set S n=>obtain ⟨ob,es,ep,t,e,c⟩:=x;exact ⟨ob,es,ep,t,k _ _ (.inl rfl) e,c⟩
 |ins C dx fs=>
  obtain ⟨d,z,ne,e,mA,⟨od,es,ep,e2,c⟩,r⟩:=x;exact ⟨ho _ d,z,ne,k _ _ (.inl rfl) e,mA,⟨od,es,ep,k _ _ (.inr d) e2,c⟩,r⟩
 |own y=>obtain ⟨ob,e⟩:=x;exact ⟨ob,k _ _ (.inl rfl) e⟩
 |xd fs=>obtain ⟨mA,⟨od,es,ep,e,c⟩,r⟩:=x;exact ⟨mA,⟨od,es,ep,k _ _ (.inl rfl) e,c⟩,r⟩
 |rng lo hi=>obtain ⟨t,u,v,e⟩:=x;exact ⟨t,u,v,k _ _ (.inl rfl) e⟩
 |frz ob u ih=>obtain ⟨e,q⟩:=x;exact ⟨k _ _ (.inl rfl) e,ih q⟩
 |tbl ps=>
  have e:h.get? a=some {cls:= .none,data:= .fields ps}:=x;show h'.get? a=some {cls:= .none,data:= .fields ps};exact k a _ (.inl rfl) e
 |met f y=>
  have e:h.get? a=some (PySem.W.methodObj (.ref f) (.ref y)):=x;show h'.get? a=some (PySem.W.methodObj (.ref f) (.ref y));exact k a _ (.inl rfl) e
 |ext φ=>obtain ⟨p,⟨o,e⟩,st⟩:=x;exact ⟨st _ _ p fun o q=>k _ _ (.inl rfl) q,⟨o,k _ _ (.inl rfl) e⟩,st⟩
theorem fQ.lt (x:fQ P w H h) (e:H a=some o):a<h.objs.size:=(x a o e).lt
theorem fQ.fresh (x:fQ P w H h) (e:h.objs.size<=a):H a=none:=by
 cases q:H a with
 |none=>rfl
 |some u=>exact absurd (FK (x.lt q) e) (GY _)
theorem fQ.kept (x:fQ P w H h) (k:∀b u,h.get? b=some u->h'.get? b=some u):fQ P w H h':=fun a o e=>
 (x a o e).stay (fun b u _ q=>k b u q) (fun _ q=>q) fun _ _ q=>q
theorem fQ.laid (x:fQ P w H h) (k:∀b u,h.get? b=some u->h'.get? b=some u) (hp:h.objs.size<=a) (new:bJ P w (aL H a o) h' a o):fQ P w (aL H a o) h':=fun b u e=>by
 have hn:=x.fresh hp
 by_cases hb:b=a
 ·subst hb;rw[ac] at e;cases e;exact new
 ·rw[ar hb] at e;exact (x b u e).stay (fun c v _ q=>k c v q) (fun c q=>by rw[ar (aM q hn)];exact q) fun c xs q=>by rw[ar (aM q hn)];exact q
end
def Rd (H:Hp) (a:Addr) (u:HO):Prop:=H a=some u∨∃o,H a=some (.frz o u)
theorem Rd.ok {P:Program} {w:World} {H:Hp} {h:Heap} {a:Addr} {u:HO} (r:Rd H a u) (x:fQ P w H h):bJ P w H h a u:=by
 rcases r with r|⟨o,r⟩
 ·exact x a u r
 ·obtain ⟨_,q⟩:=x a _ r;exact q
def C5:Option HO->Prop
 |some (.lst _)=>True
 |some (.dK _)=>True
 |some (.dT _)=>True
 |some (.set _ _)=>True
 |some (.ins _ _ _)=>True
 |some (.ext _)=>True
 |_=>False
section
variable {P:Program} {w:World} {H:Hp} {h h':Heap} {x e:Addr} {o':HO}
theorem fQ.write (ok:fQ P w H h) (mu:C5 (H x)) (he:e=x∨H e=some (.own x)) (k:∀b u,b≠e->h.get? b=some u->h'.get? b=some u) (heo:∃u,h'.get? e=some u)
  (new:bJ P w (aL H x o') h' x o'):fQ P w (aL H x o') h':=fun b u q=>by
 have nown:∀c y,H c=some (.own y)->c≠x:=fun c y r z=>by subst z;rw[r] at mu;exact mu
 have ntup:∀c xs,H c=some (.tup xs)->c≠x:=fun c xs r z=>by subst z;rw[r] at mu;exact mu
 by_cases hb:b=x
 ·subst hb;rw[ac] at q;cases q;exact new
 ·rw[ar hb] at q
  by_cases hbe:b=e
  ·have q':H b=some (.own x):=by
    rcases he with z|z
    ·exact absurd (hbe.trans z) hb
    ·rw[hbe];exact z
   rw[q] at q';cases q';obtain ⟨v,hv⟩:=heo;exact ⟨v,by rw[hbe];exact hv⟩
  ·refine (ok b u q).stay (fun c v hc r=>k c v ?_ r) (fun c r=>by rw[ar (nown c b r)];exact r) fun c xs r=>by rw[ar (ntup c xs r)];exact r
   rcases hc with rfl|hc
   ·exact hbe
   ·rintro rfl;rcases he with z|z
    ·exact nown c b hc z
    ·rw[hc] at z;cases z;exact hb rfl
end
structure Un (fs ex:J5) (H H':Hp) (h h':Heap):Prop where
 keep:∀b o,h.get? b=some o->H b=none->b∉fs->b∉ex->h'.get? b=some o
 slot:∀b o,h.get? b=some o->H b=none->b∈fs->b∉ex->∃sl,h'.get? b=some {o with slots:=sl}
 free:∀b o,h.get? b=some o->H b=none->b∉ex->H' b=none
 there:∀b o,h.get? b=some o->b∉ex->∃o',h'.get? b=some o'
 tups:∀b xs,H b=some (.tup xs)->H' b=some (.tup xs)
 frzs:∀b o u,H b=some (.frz o u)->H' b=some (.frz o u)
 tbls:∀b ps,H b=some (.tbl ps)->∃more,H' b=some (.tbl (ps++more))
section
variable {fs fs' ex ex':J5} {H H1 H2:Hp} {h h1 h2 h':Heap} {a x e:Addr} {o:HO}
theorem Un.any (u:Un fs ex H H1 h h1) {b:Addr} {ob:Obj} (q:h.get? b=some ob) (n:H b=none) (hx:b∉ex):∃sl,h1.get? b=some {ob with slots:=sl}:=by
 by_cases hb:b∈fs
 ·exact u.slot b ob q n hb hx
 ·exact ⟨ob.slots,u.keep b ob q n hb hx⟩
theorem Un.trans (a:Un fs ex H H1 h h1) (b:Un fs ex H1 H2 h1 h2):Un fs ex H H2 h h2 where
 keep:=fun c ob q n hc hx=>b.keep c ob (a.keep c ob q n hc hx) (a.free c ob q n hx) hc hx
 slot:=fun c ob q n hc hx=>by
  obtain ⟨sl,e1⟩:=a.slot c ob q n hc hx;obtain ⟨sl',e2⟩:=b.slot c _ e1 (a.free c ob q n hx) hc hx;exact ⟨sl',e2⟩
 free:=fun c ob q n hx=>by
  obtain ⟨o',e1⟩:=a.there c ob q hx;exact b.free c o' e1 (a.free c ob q n hx) hx
 there:=fun c ob q hx=>by
  obtain ⟨o',e1⟩:=a.there c ob q hx;exact b.there c o' e1 hx
 tups:=fun c xs q=>b.tups c xs (a.tups c xs q)
 frzs:=fun c ob xs q=>b.frzs c ob xs (a.frzs c ob xs q)
 tbls:=fun c ps q=>by
  obtain ⟨m1,e1⟩:=a.tbls c ps q;obtain ⟨m2,e2⟩:=b.tbls c _ e1;exact ⟨m1++m2,by rw[e2,Array.append_assoc]⟩
theorem Un.kept (k:∀b u,h.get? b=some u->h'.get? b=some u):Un fs ex H H h h':=
 ⟨fun b ob q _ _ _=>k b ob q,fun b ob q _ _ _=>⟨ob.slots,k b ob q⟩,fun _ _ _ n _=>n,fun b ob q _=>⟨ob,k b ob q⟩,fun _ _ q=>q,fun _ _ _ q=>q,fun _ ps q=>⟨#[],by rw[q];simp⟩⟩
theorem Un.refl:Un fs ex H H h h:=Un.kept fun _ _ q=>q
theorem Un.laid (k:∀b u,h.get? b=some u->h'.get? b=some u) (hp:h.objs.size<=a) (hn:H a=none):Un fs ex H (aL H a o) h h' where
 keep:=fun b u q _ _ _=>k b u q
 slot:=fun b u q _ _ _=>⟨u.slots,k b u q⟩
 free:=fun b u q n _=>by rw[ar (FO (FK (Heap.lt_size q) hp))];exact n
 there:=fun b u q _=>⟨u,k b u q⟩
 tups:=fun b xs q=>by rw[ar (aM q hn)];exact q
 frzs:=fun b u xs q=>by rw[ar (aM q hn)];exact q
 tbls:=fun b ps q=>⟨#[],by rw[ar (aM q hn),q];simp⟩
theorem Un.write (mu:C5 (H x)) (he:e=x∨H e=some (.own x)) (k:∀b u,b≠e->h.get? b=some u->h'.get? b=some u) (heo:∃u,h'.get? e=some u):Un fs ex H (aL H x o) h h':=by
 have hx:∀b,H b=none->b≠x:=fun b n z=>by subst z;rw[n] at mu;exact mu
 have hb:∀b,H b=none->b≠e:=fun b n z=>by
  subst z;rcases he with r|r
  ·exact hx b n r
  ·rw[n] at r;cases r
 have hm:∀b u,H b=some u->¬C5 (some u)->b≠x:=fun b u q nm z=>by subst z;rw[q] at mu;exact nm mu
 refine ⟨fun b u q n _ _=>k b u (hb b n) q,fun b u q n _ _=>⟨u.slots,k b u (hb b n) q⟩,fun b u q n _=>by rw[ar (hx b n)];exact n,fun b u q _=>?_,
  fun b xs q=>by rw[ar (hm b _ q fun z=>z)];exact q,fun b u xs q=>by rw[ar (hm b _ q fun z=>z)];exact q,fun b ps q=>⟨#[],by rw[ar (hm b _ q fun z=>z),q];simp⟩⟩
 by_cases hbe:b=e
 ·subst hbe;exact heo
 ·exact ⟨u,k b u hbe q⟩
end
noncomputable def C6 (h:Heap) (H:Hp):J5:=(FI h.objs.size).filter fun a=>(H a).isSome
noncomputable def md (h:Heap) (H:Hp):Heap:=PySem.W.hideAll h (C6 h H)
theorem sG (h:Heap) (H:Hp):(md h H).objs.size=h.objs.size:=PySem.W.hideAll_size _ _
theorem t6 {h:Heap} {H:Hp} {b:Addr} {o:Obj} (e:h.get? b=some o) (n:H b=none):(md h H).get? b=some o:=
 PySem.W.hideAll_get _ e fun hm=>by
  have q:(H b).isSome=true:=(List.mem_filter.mp hm).2;rw[n] at q;simp at q
theorem wE {h:Heap} {H:Hp} {b:Addr} {o:Obj} (e:(md h H).get? b=some o):h.get? b=some o/\H b=none:=by
 have e':h.get? b=some o:=PySem.W.of_hideAll (C6 h H) e;refine ⟨e',?_⟩;cases q:H b with
 |none=>rfl
 |some x=>
  have hm:b∈C6 h H:=List.mem_filter.mpr ⟨G0.mpr (Heap.lt_size e'),by simp[q]⟩
  have z:(md h H).get? b=none:=PySem.W.hideAll_none (C6 h H) hm;rw[z] at e;cases e
structure Mod (K:F0) (mg:JZ) (base:Heap):Prop where
 kin:K.In base
 glob:base.Ns mainGlobals mg
 blt:∃mb,base.Ns builtinsNs mb/\∀x:Str,x≠ "__name__" ->mb x=bootBuiltins x
 nolimit:base.NoLimit
structure Cx where
 prog:Program
 w:World
 K:F0
 mg:Str->J8
 base:Heap
 A:Around
 N:J4
 s₀:Shared
 H₀:Hp
 env:Env
 outer:List Env
 stack:List Env
 ex:J5
 fn:Str->Bool
 calm:Bool
 pn:J1
 xe:Value->Shared->Prop
noncomputable def iX (l:List Env):J5:=l.filterMap (·.frame)
abbrev Cx.fs (X:Cx):J5:=iX X.outer
def C7 (sc:Scope) (x:Str):Prop:=sc.names.lookup x=some .local∨sc.names.lookup x=some .cell∨sc.names.lookup x=some .free
def Loc (sc:Scope) (x:Str):Prop:=sc.names.lookup x=some .local∨sc.names.lookup x=some .cell
def Look (env:Env) (h:Heap) (m:JZ) (x:Str) (u:Value):Prop:=
 (env.kindOf x=some .local/\m x=some u)∨((env.kindOf x=some .cell∨env.kindOf x=some .free)/\∃c,env.cells.lookup x=some c/\h.IsCell c (some u))
structure Cx.Ok (X:Cx):Prop where
 mod:Mod X.K X.mg X.base
 kind:X.env.scope.kind= .function
 glob:X.env.globals=mainGlobals
 blt:X.env.builtins=builtinsNs
 above:X.s₀.heap.objs.size<=X.env.locals
 inj:∀x y c,X.env.cells.lookup x=some c->X.env.cells.lookup y=some c->x=y
 has:∀x,(X.env.kindOf x=some .cell∨X.env.kindOf x=some .free)->∃c,X.env.cells.lookup x=some c
 cab:∀x c,X.fn x=true->X.env.cells.lookup x=some c->X.s₀.heap.objs.size<=c
 hd:X.calm=true->X.A.handled=none
 frames:X.A.frames=some X.stack
 stk:X.stack=X.outer∨(X.stack=X.env::X.outer/\X.env.frame=some X.env.locals)
 exf:∀b∈X.ex,b≠X.env.locals/\∀x c,X.env.cells.lookup x=some c->c≠b
 bs:∀b o,X.base.get? b=some o->X.s₀.heap.get? b=some o/\X.H₀ b=none
 bsz:X.base.objs.size<=X.s₀.heap.objs.size
 noex:∀b o,X.base.get? b=some o->b∉X.ex
 exfs:∀b∈X.ex,b∉X.fs
 funs:X.s₀.heap.FunFrames X.base X.outer
 frf:∀b∈X.fs,X.H₀ b=none
structure aJ (X:Cx) (pins:J1) (σ:List (Option V)) (H:Hp) (s:Shared):Prop where
 ok:X.Ok
 os:s.os=X.s₀.os
 bare:AllBare s.gens
 base:Un X.fs X.ex X.H₀ H X.s₀.heap s.heap
 loc:∃m,s.heap.Ns X.env.locals m/\∀(i:Nat) (x:Str) (v:V),X.N[i]?=some x->σ[i]?=some (some v)->C7 X.env.scope x->∃u,RelV v u/\Look X.env s.heap m x u
 cell:∀x c,X.env.cells.lookup x=some c->∃v,s.heap.IsCell c v
 free:H X.env.locals=none
 freeC:∀x c,X.env.cells.lookup x=some c->H c=none
 pin:∀p∈X.pn++pins,s.heap.get? p.1=some p.2/\H p.1=none/\p.1≠X.env.locals/\p.1∉X.fs/\∀v,p.2.data≠ .cell v
 hok:fQ X.prog X.w H s.heap
 len:σ.length=X.N.length
section
variable {X:Cx} {pins:J1} {σ:List (Option V)} {H H':Hp} {s:Shared} {h':Heap}
theorem Cx.Ok.nofr (ok:X.Ok) {b:Addr} {o:Obj} (e:X.base.get? b=some o):b∉X.fs:=fun hb=>by
 have:=(ok.funs.mem hb).1;rw[e] at this;cases this
theorem aJ.bs (I:aJ X pins σ H s):∀b o,X.base.get? b=some o->s.heap.get? b=some o/\H b=none:=fun b o e=>
 ⟨I.base.keep b o (I.ok.bs b o e).1 (I.ok.bs b o e).2 (I.ok.nofr e) (I.ok.noex b o e),I.base.free b o (I.ok.bs b o e).1 (I.ok.bs b o e).2 (I.ok.noex b o e)⟩
theorem aJ.bk (I:aJ X pins σ H s):∀b o,X.base.get? b=some o->s.heap.get? b=some o:=fun b o e=>(I.bs b o e).1
theorem aJ.mod (I:aJ X pins σ H s):Mod X.K X.mg X.base:=I.ok.mod
theorem aJ.kIn (I:aJ X pins σ H s):X.K.In s.heap:=I.ok.mod.kin.keeps I.bk
theorem aJ.lt (I:aJ X pins σ H s):X.env.locals<s.heap.objs.size:=let ⟨_,hn,_⟩:=I.loc;hn.lt
theorem aJ.sz (I:aJ X pins σ H s):X.s₀.heap.objs.size<=s.heap.objs.size:=FH I.ok.above (Nat.le_of_lt I.lt)
theorem aJ.nofs (I:aJ X pins σ H s) {a:Addr} (h:s.heap.objs.size<=a):a∉X.fs:=fun hb=>by
 obtain ⟨_,o,ho,_⟩:=I.ok.funs.mem hb;exact absurd (FK (Heap.lt_size ho) (FH I.sz h)) (GY _)
theorem aJ.cne (I:aJ X pins σ H s):∀x c,X.env.cells.lookup x=some c->c≠X.env.locals:=fun x c e z=>by
 obtain ⟨v,o,ho,hd⟩:=I.cell x c e;obtain ⟨m,⟨o',es,ep,ho',hd',_⟩,_⟩:=I.loc;rw[z,ho'] at ho;cases ho;rw[hd'] at hd;cases hd
theorem aJ.funs (I:aJ X pins σ H s):s.heap.FunFrames X.base X.outer:=by
 have all:∀(l:List Env),(∀b∈iX l,b∈X.fs)->X.s₀.heap.FunFrames X.base l->s.heap.FunFrames X.base l:=by
  intro l
  induction l with
  |nil=>intro _ _;trivial
  |cons env r ih=>
   intro hs hl;obtain ⟨hk,⟨L,o,hf,hn,ho,hd⟩,hr⟩:=hl;have hL:L∈X.fs:=hs L (by unfold iX;rw[GW,hf];exact FW)
   obtain ⟨sl,e⟩:=I.base.slot L o ho (I.ok.frf L hL) hL fun z=>I.ok.exfs L z hL
   exact ⟨hk,⟨L,_,hf,hn,e,hd⟩,ih (fun b hb=>hs b (by unfold iX;rw[GW,hf];exact F8 _ hb)) hr⟩
 exact all X.outer (fun _ hb=>hb) I.ok.funs
theorem aJ.stack (I:aJ X pins σ H s):s.heap.FunFrames X.base X.stack:=by
 rcases I.ok.stk with e|⟨e,hf⟩
 ·rw[e];exact I.funs
 ·rw[e];obtain ⟨m,hn,_⟩:=I.loc;refine .cons (by rw[I.ok.kind];decide) hf hn ?_ I.funs
  exact Heap.get?_none_of_le (FH I.ok.bsz I.ok.above)
theorem aJ.stkSub (I:aJ X pins σ H s):∀b∈iX X.stack,b∈X.env.locals::X.fs:=fun b hb=>by
 rcases I.ok.stk with e|⟨e,hf⟩
 ·rw[e] at hb;exact F8 _ hb
 ·rw[e] at hb;unfold iX at hb;rw[GW,hf] at hb;exact hb
theorem aJ.stkFree (I:aJ X pins σ H s):∀b∈iX X.stack,H b=none:=fun b hb=>by
 rcases F4.mp (I.stkSub b hb) with e|hb
 ·rw[e];exact I.free
 ·obtain ⟨_,o,ho,_⟩:=I.ok.funs.mem hb;exact I.base.free b o ho (I.ok.frf b hb) fun z=>I.ok.exfs b z hb
theorem aJ.step {g':Array GenState} {t':Nat} {d':Drawn} {ch:J5} (I:aJ X pins σ H s)
  (hch:∀b∈ch,(b∈X.ex∨X.s₀.heap.objs.size<=b)/\b≠X.env.locals/\(∀x c,X.env.cells.lookup x=some c->c≠b)/\∀p∈X.pn++pins,p.1≠b)
  (keep:∀b o,b≠X.env.locals->b∉X.fs->b∉ch->s.heap.get? b=some o->H b=none->h'.get? b=some o)
  (slot:∀b o,b≠X.env.locals->b∈X.fs->b∉ch->s.heap.get? b=some o->H b=none->∃sl,h'.get? b=some {o with slots:=sl}) (free:∀b o,b∉ch->s.heap.get? b=some o->H b=none->H' b=none)
  (there:∀b o,b∉ch->s.heap.get? b=some o->∃o',h'.get? b=some o')
  (tups:∀b xs,H b=some (.tup xs)->H' b=some (.tup xs)) (frzs:∀b o u,H b=some (.frz o u)->H' b=some (.frz o u)) (tbls:∀b ps,H b=some (.tbl ps)->∃more,H' b=some (.tbl (ps++more)))
  (ns:∀m,s.heap.Ns X.env.locals m->h'.Ns X.env.locals m) (hok:fQ X.prog X.w H' h') (hg:AllBare g'):
  aJ X pins σ H' {s with heap:=h',gens:=g',drawn:=d',toks:=t'}:=by
 have neL:∀b o,X.s₀.heap.get? b=some o->b≠X.env.locals:=fun b o e=>FO (FK (Heap.lt_size e) I.ok.above)
 have neC:∀b o,X.s₀.heap.get? b=some o->b∉X.ex->b∉ch:=fun b o e hx hb=>by
  rcases (hch b hb).1 with z|z
  ·exact hx z
  ·exact absurd (FK (Heap.lt_size e) z) (GY _)
 have cellK:∀x c,X.env.cells.lookup x=some c->∀v,s.heap.IsCell c v->h'.IsCell c v:=fun x c e v ⟨o,ho,hd⟩=>by
  have nch:c∉ch:=fun z=>(hch c z).2.2.1 x c e rfl
  by_cases hc:c∈X.fs
  ·obtain ⟨sl,q⟩:=slot c o (I.cne x c e) hc nch ho (I.freeC x c e);exact ⟨_,q,hd⟩
  ·exact ⟨o,keep c o (I.cne x c e) hc nch ho (I.freeC x c e),hd⟩
 refine ⟨I.ok,I.os,hg,⟨fun b o e n hb hx=>?_,fun b o e n hb hx=>?_,fun b o e n hx=>?_,fun b o e hx=>?_,fun b xs e=>tups b xs (I.base.tups b xs e),fun b o xs e=>frzs b o xs (I.base.frzs b o xs e),fun b ps e=>?_⟩,?_,fun x c e=>?_,?_,fun x c e=>?_,fun p hp=>?_,hok,I.len⟩
 ·exact keep b o (neL b o e) hb (neC b o e hx) (I.base.keep b o e n hb hx) (I.base.free b o e n hx)
 ·obtain ⟨sl,e1⟩:=I.base.slot b o e n hb hx;obtain ⟨sl',e2⟩:=slot b _ (neL b o e) hb (neC b o e hx) e1 (I.base.free b o e n hx);exact ⟨sl',e2⟩
 ·obtain ⟨o',e1⟩:=I.base.there b o e hx;exact free b o' (neC b o e hx) e1 (I.base.free b o e n hx)
 ·obtain ⟨o',e1⟩:=I.base.there b o e hx;exact there b o' (neC b o e hx) e1
 ·obtain ⟨m1,e1⟩:=I.base.tbls b ps e;obtain ⟨m2,e2⟩:=tbls b _ e1;exact ⟨m1++m2,by rw[e2,Array.append_assoc]⟩
 ·obtain ⟨m,hn,hl⟩:=I.loc;refine ⟨m,ns m hn,fun i x v e1 e2 e3=>?_⟩
  obtain ⟨u,r,l⟩:=hl i x v e1 e2 e3;refine ⟨u,r,?_⟩;rcases l with l|⟨k,c,e,z⟩
  ·exact .inl l
  ·exact .inr ⟨k,c,e,cellK x c e _ z⟩
 ·obtain ⟨v,z⟩:=I.cell x c e;exact ⟨v,cellK x c e v z⟩
 ·obtain ⟨m,⟨o,_,_,ho,_⟩,_⟩:=I.loc;exact free _ o (fun z=>(hch _ z).2.1 rfl) ho I.free
 ·obtain ⟨v,o,ho,hd⟩:=I.cell x c e;exact free c o (fun z=>(hch c z).2.2.1 x c e rfl) ho (I.freeC x c e)
 ·obtain ⟨e,n,ne,nf,d⟩:=I.pin p hp;have nch:p.1∉ch:=fun z=>(hch p.1 z).2.2.2 p hp rfl
  exact ⟨keep p.1 p.2 ne nf nch e n,free p.1 p.2 nch e n,ne,nf,d⟩
theorem aJ.un {t':Nat} (I:aJ X pins σ H s) (u:Un X.fs [] H H' s.heap h') (hok:fQ X.prog X.w H' h'):aJ X pins σ H' {s with heap:=h',toks:=t'}:=by
 obtain ⟨m,⟨o,es,ep,ho,r⟩,_⟩:=id I.loc;obtain ⟨sl,hL⟩:=u.any ho I.free (by simp)
 exact I.step (g':=s.gens) (d':=s.drawn) (ch:= []) (fun _ z=>nomatch z) (fun b o _ hb _ e n=>u.keep b o e n hb (by simp)) (fun b o _ hb _ e n=>u.slot b o e n hb (by simp)) (fun b o _ e n=>u.free b o e n (by simp)) (fun b o _ e=>u.there b o e (by simp)) u.tups u.frzs u.tbls (fun m' hm=>by
  obtain ⟨o',es',ep',ho',r'⟩:=hm;rw[ho] at ho';cases ho';exact ⟨_,es',ep',hL,r'⟩) hok I.bare
theorem aJ.call {g':Array GenState} {t':Nat} {d':Drawn} {ch:J5} (I:aJ X pins σ H s) (u:Un (iX X.stack) ch H H' s.heap h') (hok:fQ X.prog X.w H' h') (hg:AllBare g')
  (hch:∀b∈ch,(b∈X.ex∨X.s₀.heap.objs.size<=b)/\b≠X.env.locals/\(∀x c,X.env.cells.lookup x=some c->c≠b)/\∀p∈X.pn++pins,p.1≠b):
  aJ X pins σ H' {s with heap:=h',gens:=g',drawn:=d',toks:=t'}:=by
 obtain ⟨m,⟨o,es,ep,ho,r⟩,_⟩:=id I.loc;obtain ⟨sl,hL⟩:=u.any ho I.free fun z=>(hch _ z).2.1 rfl
 exact I.step (ch:=ch) hch (fun b o hL hb hc e n=>u.keep b o e n (fun z=>(F4.mp (I.stkSub b z)).elim hL hb) hc) (fun b o _ _ hc e n=>u.any e n hc) (fun b o hc e n=>u.free b o e n hc) (fun b o hc e=>u.there b o e hc) u.tups u.frzs u.tbls (fun m' hm=>by
  obtain ⟨o',es',ep',ho',r'⟩:=hm;rw[ho] at ho';cases ho';exact ⟨_,es',ep',hL,r'⟩) hok hg
theorem aJ.turned {t':Nat} {it:Addr} (I:aJ X pins σ H s) (k:∀b o,b≠it->s.heap.get? b=some o->h'.get? b=some o) (hn:H it=none) (hL:it≠X.env.locals)
  (h1:it∈X.ex∨X.s₀.heap.objs.size<=it) (h2:∀x c,X.env.cells.lookup x=some c->c≠it) (h3:∀p∈X.pn++pins,p.1≠it):aJ X pins σ H {s with heap:=h',toks:=t'}:=by
 have nit:∀b u,H b=some u->b≠it:=fun b u e z=>by rw[z,hn] at e;cases e
 refine I.step (g':=s.gens) (d':=s.drawn) (ch:= [it]) (fun b hb=>?_) (fun b o _ _ hc e _=>k b o (fun z=>hc (by simp[z])) e) (fun b o _ _ hc e _=>⟨o.slots,k b o (fun z=>hc (by simp[z])) e⟩) (fun _ _ _ _ n=>n)
  (fun b o hc e=>⟨o,k b o (fun z=>hc (by simp[z])) e⟩) (fun _ _ e=>e) (fun _ _ _ e=>e) (fun b ps e=>⟨#[],by rw[e];simp⟩) (fun m hm=>?_) (fun b u e=>?_) I.bare
 ·have e:b=it:=by simpa using hb
  subst e;exact ⟨h1,hL,h2,h3⟩
 ·obtain ⟨o,es,ep,ho,r⟩:=hm;exact ⟨o,es,ep,k _ o (Ne.symm hL) ho,r⟩
 ·refine (I.hok b u e).stay (fun c v hc q=>k c v ?_ q) (fun _ q=>q) fun _ _ q=>q
  rcases hc with z|z
  ·rw[z];exact nit b u e
  ·exact nit c _ z
theorem aJ.tok (I:aJ X pins σ H s) (t:Nat):aJ X pins σ H {s with toks:=t}:=I.un (h':=s.heap) (t':=t) Un.refl I.hok
theorem aJ.kept {t':Nat} (I:aJ X pins σ H s) (k:∀b u,s.heap.get? b=some u->h'.get? b=some u):aJ X pins σ H {s with heap:=h',toks:=t'}:=I.un (Un.kept k) (I.hok.kept k)
theorem aJ.laid {a:Addr} {o:HO} {t':Nat} (I:aJ X pins σ H s) (k:∀b u,s.heap.get? b=some u->h'.get? b=some u) (hp:s.heap.objs.size<=a) (new:bJ X.prog X.w (aL H a o) h' a o):
  aJ X pins σ (aL H a o) {s with heap:=h',toks:=t'}:=I.un (Un.laid k hp (I.hok.fresh hp)) (I.hok.laid k hp new)
theorem aJ.write {x e:Addr} {o:HO} {t':Nat} (I:aJ X pins σ H s) (mu:C5 (H x)) (he:e=x∨H e=some (.own x)) (k:∀b u,b≠e->s.heap.get? b=some u->h'.get? b=some u) (heo:∃u,h'.get? e=some u)
  (new:bJ X.prog X.w (aL H x o) h' x o):aJ X pins σ (aL H x o) {s with heap:=h',toks:=t'}:=I.un (Un.write mu he k heo) (I.hok.write mu he k heo new)
theorem aJ.pins_of {pins':J1} (I:aJ X pins σ H s) (h:∀p∈pins',s.heap.get? p.1=some p.2/\H p.1=none/\p.1≠X.env.locals/\p.1∉X.fs/\∀v,p.2.data≠ .cell v):aJ X pins' σ H s:=
 ⟨I.ok,I.os,I.bare,I.base,I.loc,I.cell,I.free,I.freeC,fun p hp=>(FM.mp hp).elim (fun z=>I.pin p (GT _ z)) (h p),I.hok,I.len⟩
theorem jS {N:J4} (hN:N.Nodup) {i j:Nat} {x:Str} (a:N[i]?=some x) (b:N[j]?=some x):i=j:=by
 obtain ⟨h1,e1⟩:=FL.mp a;obtain ⟨h2,e2⟩:=FL.mp b;exact (List.getElem_inj hN).mp (e1.trans e2.symm)
theorem sH {M:Model} {A:Around} {E:JY} {i:Nat} {x:Str} {v:V} {u:Value} {Q:Unit->Shared->Prop} (I:aJ X pins σ H s) (hN:X.N.Nodup) (hi:X.N[i]?=some x) (hx:Loc X.env.scope x) (r:RelV v u)
  (h:∀s',aJ X pins (σ.set i (some v)) H s'->(∃a,Heap.SameBut a s.heap s'.heap/\(a=X.env.locals∨X.env.cells.lookup x=some a))->Q () s') (hf:X.fn x=true∨X.env.scope.names.lookup x=some .local:=by first|exact .inl rfl|exact .inr rfl|assumption):wpAny M A (storeName X.env x u) Q E s:=by
 obtain ⟨m,hn,hl⟩:=id I.loc;have hcls:(X.env.scope.kind== .class||(X.env.scope.kind== .module&&X.env.locals !=X.env.globals))=false:=by rw[I.ok.kind];rfl
 have hiσ:i<σ.length:=by rw[I.len];exact (FL.mp hi).1
 have cne:=I.cne;have tracked:∀{a:Addr} {h':Heap},(∃o,s.heap.get? a=some o/\H a=none)->Heap.SameBut a s.heap h'->fQ X.prog X.w H h':=fun {a h'} ha hs b ob e=>by
  obtain ⟨_,_,hfree⟩:=ha;refine (I.hok b ob e).stay (fun c w' hc q=>(hs.2 c ?_).trans q) (fun _ q=>q) fun _ _ q=>q
  rintro rfl;rcases hc with rfl|hc
  ·rw[hfree] at e;cases e
  ·rw[hfree] at hc;cases hc
 rcases hx with hk|hk
 ·refine wpAny_storeName_local hk hn (fun h' hn' hs=>?_) hcls
  obtain ⟨oL,_,_,hoL,_⟩:=id hn;refine h _ ⟨I.ok,I.os,I.bare,⟨fun b o e n hb hx=>?_,fun b o e n hb hx=>?_,I.base.free,fun b o e hx=>?_,I.base.tups,I.base.frzs,I.base.tbls⟩,⟨_,hn',fun j y v' e1 e2 e3=>?_⟩,fun y c e=>?_,I.free,I.freeC,fun p hp=>?_,tracked ⟨oL,hoL,I.free⟩ hs,by simpa using I.len⟩ ⟨_,hs,.inl rfl⟩
  ·exact (hs.2 b (FO (FK (Heap.lt_size e) I.ok.above))).trans (I.base.keep b o e n hb hx)
  ·obtain ⟨sl,e1⟩:=I.base.slot b o e n hb hx;exact ⟨sl,(hs.2 b (FO (FK (Heap.lt_size e) I.ok.above))).trans e1⟩
  ·obtain ⟨o',e1⟩:=I.base.there b o e hx;exact ⟨o',(hs.2 b (FO (FK (Heap.lt_size e) I.ok.above))).trans e1⟩
  ·by_cases hj:j=i
   ·subst hj;rw[hi] at e1;cases e1;rw[List.getElem?_set_self hiσ] at e2;cases e2;exact ⟨u,r,.inl ⟨hk,by simp⟩⟩
   ·rw[List.getElem?_set_ne (Ne.symm hj)] at e2;obtain ⟨u',r',q⟩:=hl j y v' e1 e2 e3;refine ⟨u',r',?_⟩;rcases q with ⟨k,e⟩|⟨k,c,e,z⟩
    ·refine .inl ⟨k,?_⟩;have:y≠x:=fun e=>hj (jS hN e1 (e▸hi))
     simp[this,e]
    ·exact .inr ⟨k,c,e,z.sameBut hs (cne y c e)⟩
  ·obtain ⟨w',z⟩:=I.cell y c e;exact ⟨w',z.sameBut hs (cne y c e)⟩
  ·obtain ⟨e,n,ne,nf,d⟩:=I.pin p hp;exact ⟨(hs.2 p.1 ne).trans e,n,ne,nf,d⟩
 ·have hfn:X.fn x=true:=by
   rcases hf with z|z
   ·exact z
   ·rw[z] at hk;cases hk
  obtain ⟨c,hc⟩:=I.ok.has x (.inl hk);obtain ⟨w',z⟩:=I.cell x c hc;refine wpAny_storeName_cell I.ok.kind hk hc z (fun h' hc' hs=>?_)
  obtain ⟨oc,hoc,hocd⟩:=id z;refine h {s with heap:=h'} ⟨I.ok,I.os,I.bare,⟨fun b o e n hb hx=>?_,fun b o e n hb hx=>?_,I.base.free,fun b o e hx=>?_,I.base.tups,I.base.frzs,I.base.tbls⟩,⟨m,hn.sameBut hs (Ne.symm (cne x c hc)),fun j y v' e1 e2 e3=>?_⟩,fun y c' e=>?_,I.free,I.freeC,fun p hp=>?_,tracked ⟨oc,hoc,I.freeC x c hc⟩ hs,by simpa using I.len⟩ ⟨c,hs,.inr hc⟩
  ·exact (hs.2 b (FO (FK (Heap.lt_size e) (I.ok.cab x c hfn hc)))).trans (I.base.keep b o e n hb hx)
  ·obtain ⟨sl,e1⟩:=I.base.slot b o e n hb hx;exact ⟨sl,(hs.2 b (FO (FK (Heap.lt_size e) (I.ok.cab x c hfn hc)))).trans e1⟩
  ·obtain ⟨o',e1⟩:=I.base.there b o e hx;exact ⟨o',(hs.2 b (FO (FK (Heap.lt_size e) (I.ok.cab x c hfn hc)))).trans e1⟩
  ·by_cases hj:j=i
   ·subst hj;rw[hi] at e1;cases e1;rw[List.getElem?_set_self hiσ] at e2;cases e2;exact ⟨u,r,.inr ⟨.inl hk,c,hc,hc'⟩⟩
   ·rw[List.getElem?_set_ne (Ne.symm hj)] at e2;obtain ⟨u',r',q⟩:=hl j y v' e1 e2 e3;refine ⟨u',r',?_⟩;rcases q with q|⟨k,c',e,z'⟩
    ·exact .inl q
    ·refine .inr ⟨k,c',e,z'.sameBut hs ?_⟩;rintro rfl;exact hj (jS hN e1 (I.ok.inj _ _ _ e hc▸hi))
  ·by_cases hcc:c'=c
   ·subst hcc;exact ⟨_,hc'⟩
   ·obtain ⟨w2,z2⟩:=I.cell y c' e;exact ⟨w2,z2.sameBut hs hcc⟩
  ·obtain ⟨e,n,ne,nf,d⟩:=I.pin p hp;refine ⟨(hs.2 p.1 ?_).trans e,n,ne,nf,d⟩;intro q;rw[q,hoc] at e;have q':oc=p.2:=FT e;exact d w' (by rw[<-q'];exact hocd)
theorem iu {M:Model} {A:Around} {E:JY} {i:Nat} {x:Str} {v:V} {u:Value} {Q:Unit->Shared->Prop} (I:aJ X pins σ H s) (hN:X.N.Nodup) (hi:X.N[i]?=some x) (hx:Loc X.env.scope x) (r:RelV v u)
  (h:∀s',aJ X pins (σ.set i (some v)) H s'->Q () s') (hf:X.fn x=true∨X.env.scope.names.lookup x=some .local:=by first|exact .inl rfl|exact .inr rfl|assumption):wpAny M A (storeName X.env x u) Q E s:=
 sH I hN hi hx r (fun s' I' _=>h s' I') hf
theorem aJ.call' {s':Shared} {ch:J5} (I:aJ X pins σ H s) (ho:s'.os=s.os) (u:Un (iX X.stack) ch H H' s.heap s'.heap) (hok:fQ X.prog X.w H' s'.heap) (hg:AllBare s'.gens)
  (hch:∀b∈ch,(b∈X.ex∨X.s₀.heap.objs.size<=b)/\b≠X.env.locals/\(∀x c,X.env.cells.lookup x=some c->c≠b)/\∀p∈X.pn++pins,p.1≠b):aJ X pins σ H' s':=by
 obtain ⟨h',g',d',t',o'⟩:=s';have e:o'=s.os:=ho;subst e;exact I.call (g':=g') (t':=t') (d':=d') u hok hg hch
end
abbrev XK:=Value->J7->Hp->Prop
abbrev St:=List (Option V)
abbrev VK:=V->Hp->Prop
abbrev TE:=St->Hp->VK->Prop
abbrev TT:=St->Hp->(Bool->Hp->Prop)->Prop
abbrev TA:=St->Hp->(List V->Hp->Prop)->Prop
structure Ends where
 nx:St->Hp->Prop
 rt:VK
 bk:St->Hp->Prop:=fun _ _=>False
 ct:St->Hp->Prop:=fun _ _=>False
abbrev TS:=Ends->St->Hp->Prop
def EP (X:Cx) (pins:J1) (σ:St) (Q:VK) (u:Value) (s':Shared):Prop:=∃v H',aJ X pins σ H' s'/\RelV v u/\Q v H'
def TP (X:Cx) (pins:J1) (σ:St) (Q:Bool->Hp->Prop) (b:Bool) (s':Shared):Prop:=∃H',aJ X pins σ H' s'/\Q b H'
def AP (X:Cx) (pins:J1) (σ:St) (Q:List V->Hp->Prop) (us:J6) (s':Shared):Prop:=∃vs H',aJ X pins σ H' s'/\aV vs us/\Q vs H'
def SP (X:Cx) (pins:J1) (D:Ends) (f:Flow) (s':Shared):Prop:=
 match f with
 | .next=>∃σ' H',aJ X pins σ' H' s'/\D.nx σ' H'
 | .brk=>∃σ' H',aJ X pins σ' H' s'/\D.bk σ' H'
 | .cont=>∃σ' H',aJ X pins σ' H' s'/\D.ct σ' H'
 | .ret u=>∃v σ' H',aJ X pins σ' H' s'/\RelV v u/\D.rt v H'
def PE (X:Cx) (e:Expr) (t:TE):Prop:=
 ∀(pins:J1) (s:Shared) (σ:St) (H:Hp) (Q:VK),aJ X pins σ H s->t σ H Q->wpAny (model X.prog X.w) X.A (eval e X.env) (EP X pins σ Q) X.xe s
def PT (X:Cx) (e:Expr) (t:TT):Prop:=
 ∀(pins:J1) (s:Shared) (σ:St) (H:Hp) (Q:Bool->Hp->Prop),aJ X pins σ H s->t σ H Q->wpAny (model X.prog X.w) X.A (isTrue e X.env (eval e X.env)) (TP X pins σ Q) X.xe s
def PW (X:Cx) (e:Expr) (t:TT):Prop:=
 ∀(whole:Sem Value) (pins:J1) (s:Shared) (σ:St) (H:Hp) (Q:Bool->Hp->Prop),aJ X pins σ H s->t σ H Q->wpAny (model X.prog X.w) X.A (isTrue e X.env whole) (TP X pins σ Q) X.xe s
theorem PW.pt {X:Cx} {e:Expr} {t:TT} (h:PW X e t):PT X e t:=h _
def PA (X:Cx) (es:List Expr) (t:TA):Prop:=
 ∀(pos:Pos) (pins:J1) (s:Shared) (σ:St) (H:Hp) (Q:List V->Hp->Prop),aJ X pins σ H s->t σ H Q->wpAny (model X.prog X.w) X.A (spliced (backTo pos (starEach es X.env))) (AP X pins σ Q) X.xe s
def PS (X:Cx) (st:Stmt) (t:TS):Prop:=
 ∀(pins:J1) (s:Shared) (σ:St) (H:Hp) (D:Ends),aJ X pins σ H s->t D σ H->wpAny (model X.prog X.w) X.A (exec st X.env) (SP X pins D) X.xe s
def jA (X:Cx) (st:List Stmt) (t:TS):Prop:=
 ∀(pins:J1) (s:Shared) (σ:St) (H:Hp) (D:Ends),aJ X pins σ H s->t D σ H->wpAny (model X.prog X.w) X.A (execs st X.env) (SP X pins D) X.xe s
theorem bo {α:Type} {t:Sem α} {Q Q':α->Shared->Prop} {M:Model} {A:Around} {E:JY} {s:Shared} (h:wpAny M A t Q E s) (hQ:∀a s,Q a s->Q' a s):wpAny M A t Q' E s:=wpAny_mono h hQ fun _ _ x=>x
section
variable {X:Cx}
def sI (i:Nat):TE:=fun σ H Q=>∃v,σ[i]?=some (some v)/\Q v H
def tC (v:V):TE:=fun _ H Q=>Q v H
theorem zb {i:Nat} {x:Str} {pos:Pos} (hN:X.N[i]?=some x) (hv:C7 X.env.scope x) (hd:(x==("__debug__" :Str))=false:=by decide) (hcd:(x==("__classdict__" :Str))=false:=by decide):PE X (.Name x pos) (sI i):=by
 intro pins s σ H Q I h;obtain ⟨v,e,h⟩:=h;obtain ⟨m,hn,hl⟩:=I.loc;obtain ⟨u,r,l⟩:=hl i x v hN e hv;have fin:EP X pins σ Q u s:=⟨v,H,I,r,h⟩;rcases l with ⟨hk,hm⟩|⟨hk,c,hc,hcell⟩
 ·exact wpAny_Name (wpAny_loadName_local I.ok.kind hk hn hm fin) hd
 ·rcases hk with hk|hk
  ·exact wpAny_Name (wpAny_loadName_cell I.ok.kind hk hc hcell fin) hd
  ·exact wpAny_Name (wpAny_loadName_free I.ok.kind hk hc hcell fin hcd) hd
theorem ae {i j pos}:PE X (.Constant (.int i) j pos) (tC (.int i)):=fun _ _ _ H _ I h=>wpAny_Constant_int ⟨.int i,H,I.tok _,⟨_,rfl⟩,h⟩
theorem kU {b j pos}:PE X (.Constant (.bool b) j pos) (tC (.bl b)):=fun _ _ _ H _ I h=>Constant_bool ⟨.bl b,H,I,rfl,h⟩
theorem br {j pos}:PE X (.Constant .none j pos) (tC .non):=fun _ _ _ H _ I h=>Constant_none ⟨.non,H,I,rfl,h⟩
theorem ao {x j pos}:PE X (.Constant (.str x) j pos) (tC (.str x)):=fun _ _ _ H _ I h=>Calls.Constant_str ⟨.str x,H,I.tok _,⟨_,rfl⟩,h⟩
def Gl (X:Cx) (x:Str):Prop:=X.env.kindOf x=some .globalImplicit
theorem cV {E:JY} {pins:J1} {s:Shared} {σ:St} {H:Hp} {x:Str} {u:Value} {pos:Pos} {Q:JY} (I:aJ X pins σ H s) (hg:Gl X x) (hm:X.mg x=some u) (h:Q u s)
  (hd:(x==("__debug__" :Str))=false:=by decide):wpAny (model X.prog X.w) X.A (eval (.Name x pos) X.env) Q E s:=
 Calls.Name_function_global I.ok.kind hg (Calls.loadGlobal_global (by rw[I.ok.glob];exact I.mod.glob.keeps I.bk) hm h) hd
theorem fm {E:JY} {pins:J1} {s:Shared} {σ:St} {H:Hp} {x:Str} {u:Value} {pos:Pos} {Q:JY} (I:aJ X pins σ H s) (hg:Gl X x) (hm:X.mg x=none) (hv:bootBuiltins x=some u) (h:Q u s)
  (hn:x≠ "__name__" :=by decide) (hd:(x==("__debug__" :Str))=false:=by decide):wpAny (model X.prog X.w) X.A (eval (.Name x pos) X.env) Q E s:=by
 obtain ⟨mb,h1,h2⟩:=I.mod.blt;exact Calls.Name_function_global I.ok.kind hg (Calls.loadGlobal_builtin (by rw[I.ok.glob];exact I.mod.glob.keeps I.bk) hm (by rw[I.ok.blt];exact h1.keeps I.bk) ((h2 x hn).trans hv) h) hd
theorem bY {x:Str} {v:V} {u:Value} {pos:Pos} (hg:Gl X x) (hm:X.mg x=some u) (r:RelV v u) (hd:(x==("__debug__" :Str))=false:=by decide):PE X (.Name x pos) (tC v):=
 fun _ _ _ H _ I h=>cV I hg hm ⟨v,H,I,r,h⟩ hd
theorem eE {x:Str} {v:V} {u:Value} {pos:Pos} (hg:Gl X x) (hm:X.mg x=none) (hv:bootBuiltins x=some u) (r:RelV v u) (hn:x≠ "__name__" :=by decide) (hd:(x==("__debug__" :Str))=false:=by decide):PE X (.Name x pos) (tC v):=
 fun _ _ _ H _ I h=>fm I hg hm hv ⟨v,H,I,r,h⟩ hn hd
variable {a b:Expr} {ta tb:TE} {pos:Pos}
def tB (t:TE):TT:=fun σ H Q=>t σ H fun x H1=>∃c,x= .bl c/\Q c H1
theorem cX {e:Expr} {t:TE} (h:PE X e t) (he:∀whole,isTrue e X.env whole=(do let v<-whole;standAt e.pos;holding [v] (truthy v)):=by intro _;rfl):PT X e (tB t):=by
 intro pins s σ H Q I hw;refine isTrue_plain (bo (h pins s σ H _ I hw) fun v s1 ⟨x,H1,I1,r1,q1⟩=>?_) (he _)
 obtain ⟨d,rfl,q⟩:=q1;cases r1;exact wpAny_truthy_bool ⟨H1,I1,q⟩
variable {tA tB':TT} {rest:List Expr}
def Dk (t u:TT):TT:=fun σ H Q=>t σ H fun c H1=>if c=true then u σ H1 Q else Q false H1
def EN (t u:TT):TT:=fun σ H Q=>t σ H fun c H1=>if c=true then Q true H1 else u σ H1 Q
def Dl (t:TT):TT:=fun σ H Q=>t σ H fun c H1=>Q (!c) H1
theorem wF (ha:PT X a tA):PW X (.BoolOp .And [a] pos) tA:=by
 intro wh pins s σ H Q I h;refine isTrue_and (bo (ha pins s σ H Q I h) fun c s1 e=>?_)
 cases c with
 |true=>exact isTrue_and_nil e
 |false=>exact e
theorem cO (ha:PT X a tA):PW X (.BoolOp .Or [a] pos) tA:=by
 intro wh pins s σ H Q I h;refine isTrue_or (bo (ha pins s σ H Q I h) fun c s1 e=>?_)
 cases c with
 |false=>exact isTrue_or_nil e
 |true=>exact e
theorem zc (ha:PT X a tA) (hb:PW X (.BoolOp .And (b::rest) pos) tB'):PW X (.BoolOp .And (a::b::rest) pos) (Dk tA tB'):=by
 intro wh pins s σ H Q I h;refine isTrue_and (bo (ha pins s σ H _ I h) fun c s1 ⟨H1,I1,q1⟩=>?_)
 cases c with
 |true=>exact hb wh pins s1 σ H1 Q I1 q1
 |false=>exact ⟨H1,I1,q1⟩
theorem cY (ha:PT X a tA) (hb:PW X (.BoolOp .Or (b::rest) pos) tB'):PW X (.BoolOp .Or (a::b::rest) pos) (EN tA tB'):=by
 intro wh pins s σ H Q I h;refine isTrue_or (bo (ha pins s σ H _ I h) fun c s1 ⟨H1,I1,q1⟩=>?_)
 cases c with
 |true=>exact ⟨H1,I1,q1⟩
 |false=>exact hb wh pins s1 σ H1 Q I1 q1
theorem fR (ha:PT X a tA):PT X (.UnaryOp .Not a pos) (Dl tA):=by
 intro pins s σ H Q I h;exact isTrue_not (ha pins s σ H (fun c H1=>Q (!c) H1) I h)
def Be (ta tb:TE):TE:=fun σ H Q=>ta σ H fun x H1=>∃c,x= .bl c/\if c=true then tb σ H1 Q else Q (.bl false) H1
def Bf (ta:TE):TE:=fun σ H Q=>ta σ H fun x H1=>∃c,x= .bl c/\Q (.bl (!c)) H1
theorem pC {op} {t:TE} (h:PE X a t):PE X (.BoolOp op [a] pos) t:=fun pins s σ H Q I hw=>BoolOp_one (h pins s σ H Q I hw)
theorem pD (ha:PE X a ta) (hb:PE X (.BoolOp .And (b::rest) pos) tb):PE X (.BoolOp .And (a::b::rest) pos) (Be ta tb):=by
 intro pins s σ H Q I h;refine BoolOp_and (bo (ha pins s σ H _ I h) fun v s1 ⟨x,H1,I1,r1,q1⟩=>?_)
 obtain ⟨c,rfl,q1⟩:=q1;cases r1;refine wpAny_truthy_bool ?_;cases c with
 |true=>exact hb pins s1 σ H1 Q I1 q1
 |false=>exact ⟨.bl false,H1,I1,rfl,q1⟩
theorem t8 (ha:PE X a ta):PE X (.UnaryOp .Not a pos) (Bf ta):=by
 intro pins s σ H Q I h;refine UnaryOp_ (bo (ha pins s σ H _ I h) fun v s1 ⟨x,H1,I1,r1,q1⟩=>?_)
 obtain ⟨c,rfl,q1⟩:=q1;cases r1;exact not_of (wpAny_truthy_bool ⟨.bl (!c),H1,I1,rfl,q1⟩)
def EO (t:TT) (ta tb:TE):TE:=fun σ H Q=>t σ H fun c H1=>if c=true then ta σ H1 Q else tb σ H1 Q
theorem eU {c:Expr} (hc:PT X c tA) (ha:PE X a ta) (hb:PE X b tb):PE X (.IfExp c a b pos) (EO tA ta tb):=by
 intro pins s σ H Q I h;refine wpAny_IfExp (bo (hc pins s σ H _ I h) fun d s1 ⟨H1,I1,q1⟩=>?_)
 cases d with
 |true=>exact ha pins s1 σ H1 Q I1 q1
 |false=>exact hb pins s1 σ H1 Q I1 q1
end
noncomputable def nR:V->Bool
 | .raw _ _=>false
 |_=>true
def aI (K:F0) (H:Hp) (a:Addr) (xs:List V):Prop:=
 Rd H a (.lst xs)∨
  ∃(o:Obj) (its:Array Value) (n:Nat),K.lookup a=some o/\o.cls= .type "list" /\o.dict=none/\o.data= .seq its n/\its.size<=sizeLine/\aV xs its.toList/\xs.all nR=true
def cM (K:F0) (H:Hp) (a:Addr) (xs:List V):Prop:=
 Rd H a (.tup xs)∨
  ∃(o:Obj) (its:Array Value) (n:Nat),K.lookup a=some o/\o.cls= .type "tuple" /\o.data= .seq its n/\its.size<=sizeLine/\aV xs its.toList/\xs.all nR=true
noncomputable def Dm:Value->Option V
 | .none=>some .non
 | .bool b=>some (.bl b)
 | .int i _=>some (.int i)
 | .str x _=>some (.str x)
 | .bytes b _=>some (.byt b)
 | .float b _=>some (.flt b)
 | .ref a=>some (.ref a)
 | .type n=>some (.ty n)
 |_=>none
theorem RelV.abs {x:V} {u:Value} (r:RelV x u) (n:nR x=true):Dm u=some x:=by
 cases x with
 |non=>cases r;rfl
 |bl _=>cases r;rfl
 |int _=>obtain ⟨t,rfl⟩:=r;rfl
 |str _=>obtain ⟨t,rfl⟩:=r;rfl
 |byt _=>obtain ⟨t,rfl⟩:=r;rfl
 |flt _=>obtain ⟨t,rfl⟩:=r;rfl
 |ref _=>cases r;rfl
 |ty _=>cases r;rfl
 |raw _ _=>cases n
theorem RelV.inj {x y:V} {u:Value} (r:RelV x u) (q:RelV y u) (n:nR x=true) (m:nR y=true):x=y:=FT ((r.abs n).symm.trans (q.abs m))
theorem aV.inj:∀{xs ys:List V} {us:J6},aV xs us->aV ys us->xs.all nR=true->ys.all nR=true->xs=ys
 |_,_,_,.nil,.nil,_,_=>rfl
 |_,_,_,.cons r t,.cons r' t',n,m=>by
  rw[List.all_cons,GN] at n m;rw[r.inj r' n.1 m.1,aV.inj t t' n.2 m.2]
section
variable {X:Cx} {pins:J1} {σ:St} {H:Hp} {s:Shared} {a:Addr} {xs ys:List V}
theorem aI.of {K:F0} (h:H a=some (.lst xs)):aI K H a xs:= .inl (.inl h)
theorem cM.of {K:F0} (h:H a=some (.tup xs)):cM K H a xs:= .inl (.inl h)
theorem aJ.list (I:aJ X pins σ H s) (h:aI X.K H a xs):∃its:J6,aV xs its/\PlainL s.heap a its.toArray/\xs.length<=sizeLine:=by
 rcases h with h|⟨o,its,n,hk,hc,hd,hs,hz,r,_⟩
 ·obtain ⟨z,its,n,r,e⟩:=h.ok I.hok;exact ⟨its,r,⟨_,n,e,rfl,rfl,rfl⟩,z⟩
 ·refine ⟨its.toList,r,⟨o,n,I.kIn a o hk,hc,hd,by simpa using hs⟩,?_⟩
  have e:=r.length;simp only[GV] at e
  lia
theorem aJ.tuple (I:aJ X pins σ H s) (h:cM X.K H a xs):∃its:J6,aV xs its/\IsTup s.heap a its.toArray/\xs.length<=sizeLine:=by
 rcases h with h|⟨o,its,n,hk,hc,hs,hz,r,_⟩
 ·obtain ⟨z,its,r,p⟩:=h.ok I.hok;exact ⟨its,r,p,z⟩
 ·refine ⟨its.toList,r,⟨o,I.kIn a o hk,hc,n,by simpa using hs⟩,?_⟩
  have e:=r.length;simp only[GV] at e
  lia
theorem aJ.list_inj (I:aJ X pins σ H s) (h:aI X.K H a xs) (h':aI X.K H a ys):xs=ys:=by
 rcases h with h|⟨o,its,n,hk,_,_,hd,_,r,m⟩
 ·rcases h' with h'|⟨o',its',n',hk',_,_,hd',_,r',m'⟩
  ·rcases h with h|⟨o,h⟩<;>rcases h' with h'|⟨o',h'⟩<;>(rw[h] at h';cases h')<;>rfl
  ·have:=(I.bs a o' (I.ok.mod.kin a o' hk')).2;rcases h with h|⟨o,h⟩<;>(rw[h] at this;cases this)
 ·rcases h' with h'|⟨o',its',n',hk',_,_,hd',_,r',m'⟩
  ·have:=(I.bs a o (I.ok.mod.kin a o hk)).2;rcases h' with h'|⟨o',h'⟩<;>(rw[h'] at this;cases this)
  ·rw[hk] at hk';cases hk';rw[hd] at hd';injection hd' with d1 _
   subst d1;exact r.inj r' m m'
theorem aJ.tuple_inj (I:aJ X pins σ H s) (h:cM X.K H a xs) (h':cM X.K H a ys):xs=ys:=by
 rcases h with h|⟨o,its,n,hk,_,hd,_,r,m⟩
 ·rcases h' with h'|⟨o',its',n',hk',_,hd',_,r',m'⟩
  ·rcases h with h|⟨o,h⟩<;>rcases h' with h'|⟨o',h'⟩<;>(rw[h] at h';cases h')<;>rfl
  ·have:=(I.bs a o' (I.ok.mod.kin a o' hk')).2;rcases h with h|⟨o,h⟩<;>(rw[h] at this;cases this)
 ·rcases h' with h'|⟨o',its',n',hk',_,hd',_,r',m'⟩
  ·have:=(I.bs a o (I.ok.mod.kin a o hk)).2;rcases h' with h'|⟨o',h'⟩<;>(rw[h'] at this;cases this)
  ·rw[hk] at hk';cases hk';rw[hd] at hd';injection hd' with d1 _
   subst d1;exact r.inj r' m m'
end
abbrev Cx.wish (X:Cx) (E:JY):Cx:={X with xe:=E}
abbrev Cx.nox (X:Cx):Cx:=X.wish fun _ _=>False
theorem Cx.Ok.wish {X:Cx} (ok:X.Ok) (E:JY):(X.wish E).Ok:=
 ⟨ok.mod,ok.kind,ok.glob,ok.blt,ok.above,ok.inj,ok.has,ok.cab,ok.hd,ok.frames,ok.stk,ok.exf,ok.bs,ok.bsz,ok.noex,ok.exfs,ok.funs,ok.frf⟩
theorem Cx.Ok.unwish {X:Cx} {E:JY} (ok:(X.wish E).Ok):X.Ok:=
 ⟨ok.mod,ok.kind,ok.glob,ok.blt,ok.above,ok.inj,ok.has,ok.cab,ok.hd,ok.frames,ok.stk,ok.exf,ok.bs,ok.bsz,ok.noex,ok.exfs,ok.funs,ok.frf⟩
section
variable {X:Cx} {pins:J1} {σ:St} {H:Hp} {s:Shared} {E:JY}
theorem aJ.wish (I:aJ X pins σ H s) (E:JY):aJ (X.wish E) pins σ H s:=⟨I.ok.wish E,I.os,I.bare,I.base,I.loc,I.cell,I.free,I.freeC,I.pin,I.hok,I.len⟩
theorem aJ.unwish (I:aJ (X.wish E) pins σ H s):aJ X pins σ H s:=⟨I.ok.unwish,I.os,I.bare,I.base,I.loc,I.cell,I.free,I.freeC,I.pin,I.hok,I.len⟩
theorem SP.unwish {D:Ends} {f:Flow} {s':Shared} (h:SP (X.wish E) pins D f s'):SP X pins D f s':=by
 cases f with
 |next=>obtain ⟨σ',H',I,q⟩:=h;exact ⟨σ',H',I.unwish,q⟩
 |brk=>obtain ⟨σ',H',I,q⟩:=h;exact ⟨σ',H',I.unwish,q⟩
 |cont=>obtain ⟨σ',H',I,q⟩:=h;exact ⟨σ',H',I.unwish,q⟩
 |ret u=>obtain ⟨v,σ',H',I,r,q⟩:=h;exact ⟨v,σ',H',I.unwish,r,q⟩
theorem jA.nox {st:List Stmt} {t:TS} (h:jA X.nox st t):jA X st t:=fun pins s σ H D I hw=>
 wpAny_mono (h pins s σ H D (I.wish _) hw) (fun _ _ q=>q.unwish) fun _ _ z=>False.elim z
end
section
variable {X:Cx} {st:Stmt} {rest:List Stmt} {t u:TS} {e:Expr} {te:TE} {pos:Pos}
def b6:TS:=fun D σ H=>D.nx σ H
def wG (t u:TS):TS:=fun D σ H=>t {D with nx:=u D} σ H
theorem aC:jA X [] b6:=fun _ _ σ H _ I h=>wpAny_execs_nil ⟨σ,H,I,h⟩
theorem ag (h1:PS X st t) (h2:jA X rest u):jA X (st::rest) (wG t u):=by
 intro pins s σ H D I h;refine wpAny_execs_cons (bo (h1 pins s σ H {D with nx:=u D} I h) fun f s1 q=>?_)
 cases f with
 |next=>
  obtain ⟨σ',H',I',q⟩:=q;exact h2 pins s1 σ' H' D I' q
 |ret v=>exact q
 |brk=>exact q
 |cont=>exact q
theorem ai (h1:PS X st t):jA X [st] t:=by
 intro pins s σ H D I h;refine wpAny_execs_cons (bo (h1 pins s σ H D I h) fun f s1 q=>?_)
 cases f with
 |next=>exact wpAny_execs_nil q
 |ret v=>exact q
 |brk=>exact q
 |cont=>exact q
theorem aJ.quiet {pins:J1} {σ:St} {H:Hp} {s:Shared} (I:aJ X pins σ H s):interactive X.env=false:=by simp[interactive,I.ok.kind]
def Bg (te:TE):TS:=fun D σ H=>te σ H fun _ H1=>D.nx σ H1
theorem bi (he:PE X e te) (hs:swapsWith e none pos.line X.env=pure false:=by rfl):PS X (.Expr e pos) (Bg te):=by
 intro pins s σ H D I h;exact wpAny_Expr_any (bo (he pins s σ H _ I h) fun v s1 ⟨x,H1,I1,r1,q1⟩=>⟨σ,H1,I1,q1⟩) I.quiet hs
def ze (te:TE):TS:=fun D σ H=>te σ H D.rt
theorem ay (he:PE X e te):PS X (.Return (some e) pos) (ze te):=by
 intro pins s σ H D I h;exact wpAny_Return_some (bo (he pins s σ H _ I h) fun v s1 ⟨x,H1,I1,r1,q1⟩=>⟨x,σ,H1,I1,r1,q1⟩)
def Dn (c:TT) (t u:TS):TS:=fun D σ H=>c σ H fun b H1=>if b=true then t D σ H1 else u D σ H1
theorem aO {c:Expr} {a b:List Stmt} {tc:TT} (hc:PT X c tc) (ha:jA X a t) (hb:jA X b u):PS X (.If c a b pos) (Dn tc t u):=by
 intro pins s σ H D I h;refine wpAny_If (bo (hc pins s σ H _ I h) fun d s1 ⟨H1,I1,q1⟩=>?_)
 cases d with
 |true=>exact ha pins s1 σ H1 D I1 q1
 |false=>exact hb pins s1 σ H1 D I1 q1
def zg:TS:=fun _ _ _=>False
theorem nE:PS X st zg:=fun _ _ _ _ _ _ h=>h.elim
end
abbrev TG:=V->St->Hp->(St->Hp->Prop)->Prop
abbrev yq:=List V->St->Hp->(St->Hp->Prop)->Prop
def PG (X:Cx) (target:Expr) (t:TG):Prop:=
 ∀(pins:J1) (s:Shared) (σ:St) (H:Hp) (v:V) (u:Value) (Q:St->Hp->Prop),aJ X pins σ H s->RelV v u->t v σ H Q->
  wpAny (model X.prog X.w) X.A (assign target X.env u) (fun _ s'=>∃σ' H',aJ X pins σ' H' s'/\Q σ' H') X.xe s
def Bh (X:Cx) (ts:List Expr) (t:yq):Prop:=
 ∀(pins:J1) (s:Shared) (σ:St) (H:Hp) (vs:List V) (us:J6) (Q:St->Hp->Prop),aJ X pins σ H s->aV vs us->t vs σ H Q->
  wpAny (model X.prog X.w) X.A (assignInOrder ((assignEach ts X.env).map (·.2)) us) (fun _ s'=>∃σ' H',aJ X pins σ' H' s'/\Q σ' H') X.xe s
section
variable {X:Cx} {pos:Pos}
def bK (i:Nat):TG:=fun v σ H Q=>Q (σ.set i (some v)) H
theorem jC {i:Nat} {x:Str} (hN:X.N.Nodup) (hi:X.N[i]?=some x) (hx:Loc X.env.scope x) (hf:X.fn x=true∨X.env.scope.names.lookup x=some .local:=by first|exact .inl rfl|exact .inr rfl|assumption):PG X (.Name x pos) (bK i):=by
 intro pins s σ H v u Q I r h;exact wpAny_assign_Name (iu I hN hi hx r (fun s' I'=>⟨_,H,I',h⟩) hf)
def Do:yq:=fun vs σ H Q=>vs= []/\Q σ H
def Bi (t:TG) (u:yq):yq:=fun vs σ H Q=>∃v r,vs=v::r/\t v σ H fun σ' H'=>u r σ' H' Q
theorem gC:Bh X [] Do:=by
 intro pins s σ H vs us Q I r h;obtain ⟨e,h⟩:=h;subst e;cases r;exact assignInOrder_nil ⟨σ,H,I,h⟩
theorem cf {e:Expr} {es:List Expr} {t:TG} {u:yq} (h1:PG X e t) (h2:Bh X es u)
  (hs:(assignEach (e::es) X.env).map (·.2)=assign e X.env::(assignEach es X.env).map (·.2):=by rfl):Bh X (e::es) (Bi t u):=by
 intro pins s σ H vs us Q I r h;obtain ⟨v,vr,e1,h⟩:=h;subst e1;cases r with
 |cons r rr=>
  rw[hs];refine assignInOrder_cons (bo (h1 pins s σ H _ _ _ I r h) fun _ s1 ⟨σ1,H1,I1,q1⟩=>?_)
  exact h2 pins s1 σ1 H1 _ _ Q I1 rr q1
def Bj (K:F0) (n:Nat) (t:yq):TG:=fun v σ H Q=>∃a xs,v= .ref a/\cM K H a xs/\xs.length=n/\t xs σ H Q
theorem iY {es:List Expr} {k:Nat} {t:yq} {n:Nat} (hc:X.calm=true) (h:Bh X es t)
  (hn:(assignEach es X.env).length=n:=by rfl) (hst:(assignEach es X.env).findIdx? (·.1)=none:=by rfl):PG X (.Tuple es k pos) (Bj X.K n t):=by
 intro pins s σ H v u Q I r hw;obtain ⟨a,xs,e1,hq,hl,hw⟩:=hw;subst e1;cases r;obtain ⟨its,rv,ht,hz⟩:=I.tuple hq;refine assign_Tuple_tuple (I.ok.hd hc) ht (by simp[hn,<-hl,rv.length]) hst fun h' hx=>?_
 have I1:aJ X pins σ H {s with heap:=h'}:=I.kept (t':=s.toks) fun b o e=>hx b o (FO (Heap.lt_size e)) e
 exact h pins _ σ H xs _ Q I1 (by simpa using rv) hw
def wH (te:TE) (g:TG):TS:=fun D σ H=>te σ H fun x H1=>g x σ H1 D.nx
theorem t9 {tg e:Expr} {te:TE} {g:TG} (he:PE X e te) (hg:PG X tg g) (hs:swapsWithSole [tg] e pos.line X.env=pure false:=by rfl) (hw:swappedStores [tg] e X.env=pure none:=by rfl)
  (h1:(assignEach [tg] X.env).map (·.2)= [assign tg X.env]:=by rfl):PS X (.Assign [tg] e pos) (wH te g):=by
 intro pins s σ H D I h;refine wpAny_Assign_stores (bo (he pins s σ H _ I h) fun v s1 ⟨x,H1,I1,r1,q1⟩=>?_) hs hw
 rw[h1];exact bo (hg pins s1 σ H1 x v _ I1 r1 q1) fun _ s2 q=>q
theorem pE {i:Nat} {x:Str} {e:Expr} {te:TE} {pos':Pos} (hN:X.N.Nodup) (hi:X.N[i]?=some x) (hx:Loc X.env.scope x) (he:PE X e te) (hs:swapsWith e (some (.Name x pos')) pos.line X.env=pure false:=by rfl) (hf:X.fn x=true∨X.env.scope.names.lookup x=some .local:=by first|exact .inl rfl|exact .inr rfl|assumption):
  PS X (.Assign [.Name x pos'] e pos) (wH te (bK i)):=by
 intro pins s σ H D I h;refine wpAny_Assign_Name (bo (he pins s σ H _ I h) fun v s1 ⟨y,H1,I1,r1,q1⟩=>?_) hs
 exact iu I1 hN hi hx r1 (fun s2 I2=>⟨_,H1,I2,q1⟩) hf
end
section
variable {X:Cx} {pos:Pos}
def uc (c:TT) (tb:TS):TS:=fun D σ H=>∃W:Nat->St->Hp->Prop,(∃m,W m σ H)/\∀m σ H,W m σ H->
 c σ H fun b H1=>if b=true then ∃N:St->Hp->Prop,(∀σ' H',N σ' H'->∃m',m'<m/\W m' σ' H')/\tb {D with nx:=N,ct:=N,bk:=D.nx} σ H1 else D.nx σ H1
theorem ud {c:Expr} {body:List Stmt} {tc:TT} {tb:TS} (hp:PassesOwn (model X.prog X.w) X.A X.env X.xe) (hc:PT X c tc) (hb:jA X body tb):PS X (.While c body [] pos) (uc tc tb):=by
 intro pins s σ H D I h;obtain ⟨W,⟨m0,w0⟩,turn⟩:=h;refine wpAny_While (codeAny_whileLoop (fun n s'=>∃σ' H',aJ X pins σ' H' s'/\W n σ' H') ?_ m0 ⟨σ,H,I,w0⟩)
 rintro n s1 ⟨σ1,H1,I1,w1⟩;refine wpAny_passesOwn hp (bo (hc pins s1 σ1 H1 _ I1 (turn n σ1 H1 w1)) fun b s2 ⟨H2,I2,q2⟩=>?_)
 cases b with
 |true=>
  obtain ⟨N,hN,q2⟩:=q2;rw[if_pos rfl];refine wpAny_passesOwn hp (bo (hb pins s2 σ1 H2 _ I2 q2) fun f s3 q3=>?_)
  cases f with
  |next=>
   obtain ⟨σ3,H3,I3,n3⟩:=q3;obtain ⟨m',hm,w3⟩:=hN σ3 H3 n3;exact ⟨m',hm,σ3,H3,I3,w3⟩
  |cont=>
   obtain ⟨σ3,H3,I3,n3⟩:=q3;obtain ⟨m',hm,w3⟩:=hN σ3 H3 n3;exact ⟨m',hm,σ3,H3,I3,w3⟩
  |brk=>exact q3
  |ret v=>exact q3
 |false=>
  rw[if_neg FJ];exact wpAny_execs_nil ⟨σ1,H2,I2,q2⟩
end
structure It where
 go:Nat->Hp->Prop
 yld:Nat->Hp->V->Hp->Prop
 stop:Nat->Hp->Prop
def dE (X:Cx) (pins:J1) (H:Hp) (b:Addr):Prop:=
 H b=none/\b≠X.env.locals/\b∉X.fs/\(b∈X.ex∨X.s₀.heap.objs.size<=b)/\(∀x c,X.env.cells.lookup x=some c->c≠b)/\∀p∈X.pn++pins,p.1≠b
theorem aJ.fpOk {X:Cx} {pins:J1} {σ:St} {H H':Hp} {s:Shared} {b:Addr} (I:aJ X pins σ H s) (hb:s.heap.objs.size<=b) (hn:H' b=none):dE X pins H' b:=by
 refine ⟨hn,GC (FK I.lt hb),I.nofs hb,.inr (FH I.sz hb),fun x c e z=>?_,fun p hp z=>?_⟩
 ·obtain ⟨v,q⟩:=I.cell x c e;exact absurd (FK q.lt (by rw[z];exact hb)) (GY _)
 ·exact absurd (FK (Heap.lt_size (I.pin p hp).1) (by rw[z];exact hb)) (GY _)
structure Turn (P:Program) (w:World) (K:F0) (tg:Expr) (J:It) (fp:J5) (it:Addr) (tn:Nat->Heap->Prop):Prop where
 mem:it∈fp
 obj:∀i h,tn i h->∀b∈fp,∃o,h.get? b=some o/\∀v,o.data≠ .cell v
 keep:∀i h h',tn i h->(∀b∈fp,∀o,h.get? b=some o->h'.get? b=some o)->tn i h'
 item:∀(X:Cx),X.prog=P->X.w=w->X.K=K->X.calm=true->∀(i:Nat) (pins:J1) (s:Shared) (σ:St) (H:Hp) (E:JY),aJ X pins σ H s->(∀b∈fp,dE X pins H b)->tn i s.heap->J.go i H->
  wpAny (model P w) X.A (pyNext (.ref it)) (fun r s1=>∃u,r=some u/\
   wpAny (model P w) X.A (letOwnedTupleGo tg (.ref it) u) (fun _ s2=>∃x H',aJ X pins σ H' s2/\RelV x u/\J.yld i H x H'/\tn (i+1) s2.heap/\∀b∈fp,H' b=none) E s1) E s
 done:∀(X:Cx),X.prog=P->X.w=w->X.K=K->X.calm=true->∀(i:Nat) (pins:J1) (s:Shared) (σ:St) (H:Hp) (E:JY),aJ X pins σ H s->(∀b∈fp,dE X pins H b)->tn i s.heap->J.stop i H->
  wpAny (model P w) X.A (pyNext (.ref it)) (fun r s1=>r=none/\aJ X pins σ H s1) E s
 self:∀(A:Around) (i:Nat) (s:Shared) (Q:JY) (E:JY),tn i s.heap->Q (.ref it) s->wpAny (model P w) A (pyIter (.ref it)) Q E s
abbrev TI:=St->Hp->(It->Hp->Prop)->Prop
def Dp (X:Cx) (pins:J1) (σ:St) (tg:Expr) (R:It->Hp->Prop) (itv:Value) (s2:Shared):Prop:=
 ∃(it:Addr) (fp:J5) (tn:Nat->Heap->Prop) (J:It) (H':Hp),itv= .ref it/\aJ X pins σ H' s2/\Turn X.prog X.w X.K tg J fp it tn/\tn 0 s2.heap/\(∀b∈fp,dE X pins H' b)/\R J H'
def PI (X:Cx) (tg iter:Expr) (wi:TI):Prop:=
 ∀(pins:J1) (s:Shared) (σ:St) (H:Hp) (R:It->Hp->Prop),aJ X pins σ H s->wi σ H R->
  wpAny (model X.prog X.w) X.A (eval iter X.env) (fun v s1=>wpAny (model X.prog X.w) X.A (pyIter v) (Dp X pins σ tg R) X.xe s1) X.xe s
theorem qE {M:Model} {A:Around} {E:JY} {s:Shared} {tg:Expr} {it:Addr} {u:Value} {o:Obj} {n:String} {vs:Array Value} {Q:Unit->Shared->Prop} (ho:s.heap.get? it=some o) (hc:o.cls= .type n) (hd:o.data= .fields vs)
    (hn: ["enumerate","zip","dict_itemiterator","dict_reverseitemiterator","odict_iterator","itertools.zip_longest","itertools.pairwise"].contains n=false) (hQ:Q () s):wpAny M A (letOwnedTupleGo tg (.ref it) u) Q E s:=by
  unfold letOwnedTupleGo;cases tg<;>first
    |exact wpAny_pure hQ
    | (cases u<;>first
        |exact wpAny_pure hQ
        | (refine wpAny_bind (wpAny_load ho ?_)
           rw[hc,hd];show wpAny M A (if (["enumerate","zip","dict_itemiterator","dict_reverseitemiterator","odict_iterator","itertools.zip_longest","itertools.pairwise"].contains n&&vs[0]?==some (rawInt _))=true then _ else _) Q E s
           rw[if_neg (by intro h;rw[hn,Bool.false_and] at h;cases h)]
           exact wpAny_pure hQ))
noncomputable def Bk (K:F0) (a:Addr):It:=
 ⟨fun i H=>∃xs x,aI K H a xs/\xs[i]?=some x,fun i H x H'=>H'=H/\∀xs,aI K H a xs->xs[i]?=some x,fun i H=>∃xs,aI K H a xs/\xs.length<=i⟩
noncomputable def wI (lo:Int) (n:Nat):It:=⟨fun i _=>i<n,fun i H x H'=>H'=H/\x= .int (lo+i),fun i _=>n<=i⟩
theorem sJ {P:Program} {w:World} {K:F0} {tg:Expr} (a it:Addr):Turn P w K tg (Bk K a) [it] it (fun i h=>h.IsListIter it a i) where
 mem:=by simp
 obj:=fun i h st b hb=>by
  have e:b=it:=by simpa using hb
  subst e;obtain ⟨o,e,c,d⟩:=st;exact ⟨o,e,fun v z=>by rw[d] at z;cases z⟩
 keep:=fun i h h' st k=>st.at fun o e=>k it (by simp) o e
 item:=by
  intro X hP hw hK hc i pins s σ H E I hf st hg;subst hP hw hK;obtain ⟨xs,x,hq,hx⟩:=hg;obtain ⟨its,rv,p,hz⟩:=I.list hq;obtain ⟨u,hu,ru⟩:=rv.get hx;obtain ⟨f0,f1,f2,f3,f4,f5⟩:=hf it (by simp)
  refine wpAny_pyNext_list_item st p.isList (x:=u) (by simpa using hu) fun h' st' sb=>?_
  have I1:aJ X pins σ H {s with heap:=h'}:=I.turned (t':=s.toks) (fun b o hb e=>(sb.2 b hb).trans e) f0 f1 f3 f4 f5
  obtain ⟨o,e,c,d⟩:=id st';exact ⟨u,rfl,qE (s:={s with heap:=h'}) e c d (by decide) ⟨x,H,I1,ru,⟨rfl,fun ys hy=>by rw[I.list_inj hy hq];exact hx⟩,st',fun b hb=>(hf b hb).1⟩⟩
 done:=by
  intro X hP hw hK hc i pins s σ H E I hf st hg;subst hP hw hK;obtain ⟨xs,hq,hx⟩:=hg;obtain ⟨its,rv,p,hz⟩:=I.list hq;obtain ⟨f0,f1,f2,f3,f4,f5⟩:=hf it (by simp)
  have hl:=rv.length;exact wpAny_pyNext_list_end (I.ok.hd hc) st p.isList (by simp;lia) fun h' eb=>⟨rfl,I.turned (t':=s.toks) (fun b o hb e=>eb b o hb e) f0 f1 f3 f4 f5⟩
 self:=fun _ _ _ _ _ st h=>wpAny_pyIter_listiter st h
theorem pF {P:Program} {w:World} {K:F0} {tg:Expr} (it:Addr) (lo:Int) (n:Nat):Turn P w K tg (wI lo n) [it] it (fun i h=>IsRangeIter h it (lo+(i:Nat)*1) ((n:Int)-(i:Nat)) 1) where
 mem:=by simp
 obj:=fun i h st b hb=>by
  have e:b=it:=by simpa using hb
  subst e;exact ⟨_,st,fun v z=>by
   have z':Data.fields _=Data.cell v:=z;cases z'⟩
 keep:=fun i h h' st k=>k it (by simp) _ st
 item:=by
  intro X hP hw hK hc i pins s σ H E I hf st hg;subst hP hw hK;obtain ⟨f0,f1,f2,f3,f4,f5⟩:=hf it (by simp)
  have W:=Walks.range (prog:=X.prog) (w:=X.w) (I.ok.hd hc) it lo 1 n;refine W.item i s _ _ hg st fun v h' tk hv st' kk=>?_
  obtain ⟨t,rfl⟩:=hv;have I1:aJ X pins σ H {s with heap:=h',toks:=tk}:=I.turned (fun b o hb e=>kk b o (by simpa using hb) e) f0 f1 f3 f4 f5
  refine ⟨_,rfl,qE (s:={s with heap:=h',toks:=tk}) (n:= "range_iterator") st' rfl rfl (by decide) ⟨.int (lo+i),H,I1,⟨t,?_⟩,⟨rfl,rfl⟩,st',fun b hb=>(hf b hb).1⟩⟩
  rw[Int.mul_one]
 done:=by
  intro X hP hw hK hc i pins s σ H E I hf st hg;subst hP hw hK;obtain ⟨f0,f1,f2,f3,f4,f5⟩:=hf it (by simp)
  exact wpAny_pyNext_range_end (I.ok.hd hc) st (by have:n<=i:=hg;lia) fun h' eb=>⟨rfl,I.turned (t':=s.toks) (fun b o hb e=>eb b o hb e) f0 f1 f3 f4 f5⟩
 self:=fun _ _ _ _ _ st h=>wpAny_pyIter_rangeiter st h
variable {X:Cx} {tg:Expr}
def Bl (K:F0) (tl:TE):TI:=fun σ H R=>tl σ H fun x H1=>∃a,x= .ref a/\(∃xs,aI K H1 a xs)/\R (Bk K a) H1
theorem dP {l:Expr} {tl:TE} (hl:PE X l tl):PI X tg l (Bl X.K tl):=by
 intro pins s σ H R I h;refine bo (hl pins s σ H _ I h) fun v s1 ⟨x,H1,I1,r1,q1⟩=>?_
 obtain ⟨a,e,⟨xs,hq⟩,q⟩:=q1;subst e;cases r1;obtain ⟨its,rv,p,hz⟩:=I1.list hq;refine wpAny_pyIter_list p.isList ?_;refine ⟨s1.heap.objs.size,[s1.heap.objs.size],_,_,H1,rfl,I1.kept (t':=s1.toks) fun b o e=>Heap.get?_push_of_some _ e,sJ a _,⟨_,Heap.get?_push_size _ rfl,rfl,rfl⟩,fun b hb=>?_,q⟩
 have e:b=s1.heap.objs.size:=by simpa using hb
 subst e;exact I1.fpOk (F5 _) (I1.hok.fresh (F5 _))
theorem ue {pins:J1} {σ:St} {H:Hp} {s:Shared} {R:It->Hp->Prop} {E:JY} {lo hi:Int} {t u v:Tok} {tk:Nat} (I:aJ X pins σ H s) (h1: -(2^62)<=lo) (h2:lo<2^62) (h3: -(2^62)<=hi) (h4:hi<2^62)
  (q:R (wI lo (hi-lo).toNat) H):wpAny (model X.prog X.w) X.A (pyIter (.ref s.heap.objs.size)) (Dp X pins σ tg R) E {s with heap:=s.heap.push {cls:= .type "range",data:= .fields #[.int lo t,.int hi u,.int 1 v]},toks:=tk}:=by
 refine wpAny_pyIter_range (IsRange.new ..) (small_one h1 h2 h3 h4) ?_;have I1:aJ X pins σ H {s with heap:=s.heap.push {cls:= .type "range",data:= .fields #[.int lo t,.int hi u,.int 1 v]},toks:=tk}:=I.kept fun b o e=>Heap.get?_push_of_some _ e
 refine ⟨(s.heap.push {cls:= .type "range",data:= .fields #[.int lo t,.int hi u,.int 1 v]}).objs.size,[(s.heap.push {cls:= .type "range",data:= .fields #[.int lo t,.int hi u,.int 1 v]}).objs.size],_,_,H,rfl,
  I1.kept (t':=tk) fun b o e=>Heap.get?_push_of_some _ e,pF _ lo (hi-lo).toNat,?_,fun b hb=>?_,q⟩
 ·have e1:lo+((0:Nat):Int)*1=lo:=by simp
  have e2:(((hi-lo).toNat:Nat):Int)-((0:Nat):Int)=Builtin.Range.rangeSize lo hi 1:=by rw[rangeSize_one];split<;>lia
  show IsRangeIter _ _ (lo+((0:Nat):Int)*1) ((((hi-lo).toNat:Nat):Int)-((0:Nat):Int)) 1;rw[e1,e2];exact Heap.get?_push_size _ rfl
 ·have e:b=(s.heap.push {cls:= .type "range",data:= .fields #[.int lo t,.int hi u,.int 1 v]}).objs.size:=by simpa using hb
  subst e;exact I1.fpOk (F5 _) (I1.hok.fresh (F5 _))
def Bm (ta:TA):TI:=fun σ H R=>ta σ H fun vs H1=>∃j:Int,vs= [.int j]/\ -(2^62)<=j/\j<2^62/\R (wI 0 j.toNat) H1
theorem kW {a:Expr} {ta:TA} {p pos:Pos} (hg:Gl X "range") (hm:X.mg "range" =none) (ha:PA X [a] ta) (hs:starEach [a] X.env= [(false,eval a X.env)]:=by rfl):PI X tg (.Call (.Name "range" p) [a] [] pos) (Bm ta):=by
 intro pins s σ H R I h;refine Call_ (fm I hg hm boot_range (G8 (bo (ha pos pins s σ H _ I h) fun us s1 ⟨vs,H1,I1,r1,q1⟩=>?_) hs rfl))
 obtain ⟨j,e,q1,q2,q⟩:=q1;subst e;cases r1 with
 |cons r rr=>
  cases rr;obtain ⟨t,rfl⟩:=r;exact call_range_1 (ue I1 (by lia) (by lia) q1 q2 (by simpa using q))
def Dq (wi:TI) (g:TG) (tb:TS):TS:=fun D σ H=>wi σ H fun J H1=>∃W:Nat->Nat->St->Hp->Prop,(∃m,W 0 m σ H1)/\∀i m σ H,W i m σ H->
 (J.stop i H/\D.nx σ H)∨(J.go i H/\∃N:St->Hp->Prop,(∀σ' H',N σ' H'->∃m',m'<m/\W (i+1) m' σ' H')/\∀x H',J.yld i H x H'->g x σ H' fun σ2 H2=>tb {D with nx:=N,ct:=N,bk:=D.nx} σ2 H2)
noncomputable def me (fp:J5) (h:Heap):J1:=fp.filterMap fun b=>(h.get? b).map fun o=>(b,o)
theorem bX {fp:J5} {h:Heap} {b:Addr} {o:Obj} (hb:b∈fp) (e:h.get? b=some o):(b,o)∈me fp h:=List.mem_filterMap.mpr ⟨b,hb,by rw[e];rfl⟩
theorem sK {fp:J5} {h:Heap} {p:Addr×Obj} (hp:p∈me fp h):p.1∈fp/\h.get? p.1=some p.2:=by
 obtain ⟨b,hb,e⟩:=List.mem_filterMap.mp hp;cases q:h.get? b with
 |none=>rw[q] at e;cases e
 |some o=>
  rw[q] at e;have e':(b,o)=p:=FT e;subst e';exact ⟨hb,q⟩
theorem aJ.pinned {pins:J1} {σ:St} {H:Hp} {s:Shared} {fp:J5} (I:aJ X pins σ H s) (hf:∀b∈fp,dE X pins H b) (ho:∀b∈fp,∃o,s.heap.get? b=some o/\∀v,o.data≠ .cell v):aJ X (pins++me fp s.heap) σ H s:=
 I.pins_of fun p hp=>(FM.mp hp).elim (fun z=>I.pin p (F9 _ z)) fun z=>by
  obtain ⟨hb,e⟩:=sK z;obtain ⟨f0,f1,f2,_⟩:=hf p.1 hb;obtain ⟨o,e',d⟩:=ho p.1 hb;rw[e] at e';cases e';exact ⟨e,f0,f1,f2,d⟩
theorem aJ.unpinned {pins pl:J1} {σ:St} {H:Hp} {s:Shared} (I:aJ X (pins++pl) σ H s):aJ X pins σ H s:=I.pins_of fun p hp=>I.pin p (F9 _ (GT _ hp))
theorem iZ {iter:Expr} {body:List Stmt} {wi:TI} {g:TG} {tb:TS} {pos:Pos} (hp:PassesOwn (model X.prog X.w) X.A X.env X.xe) (hc:X.calm=true) (hi:PI X tg iter wi) (hg:PG X tg g) (hb:jA X body tb)
  (hs:∀x,foldedSetIterable iter X.env x=pure x:=by intro _;rfl):PS X (.For tg iter body [] pos) (Dq wi g tb):=by
 intro pins s σ H D I h;refine wpAny_For (bo (hi pins s σ H _ I h) fun v s1 h1=>bo h1 fun itv s2 h2=>?_) hs
 obtain ⟨it,fp,tn,J,H2,e,I2,T,st2,f2,W,⟨m0,w0⟩,turn⟩:=h2;subst e;have stat:∀{H':Hp},(∀b∈fp,H' b=none)->∀b∈fp,dE X pins H' b:=fun hn b hb=>⟨hn b hb,(f2 b hb).2⟩
 refine codeAny_forLoop_any (fun n s'=>∃i σ' H',aJ X pins σ' H' s'/\tn i s'.heap/\(∀b∈fp,H' b=none)/\W i n σ' H') ?_ m0 ⟨0,σ,H2,I2,st2,fun b hb=>(f2 b hb).1,w0⟩
 rintro n s3 ⟨i,σ3,H3,I3,st3,fr3,w3⟩;rcases turn i n σ3 H3 w3 with ⟨stop,qn⟩|⟨go,N,hN,step⟩
 ·refine wpAny_passesOwn hp (bo (T.done X rfl rfl rfl hc i pins s3 σ3 H3 X.xe I3 (stat fr3) st3 stop) fun r s4 ⟨hr,I4⟩=>?_)
  subst hr;exact wpAny_execs_nil ⟨σ3,H3,I4,qn⟩
 ·refine wpAny_passesOwn hp (bo (T.item X rfl rfl rfl hc i pins s3 σ3 H3 X.xe I3 (stat fr3) st3 go) fun r s4 ⟨u,hr,h4⟩=>?_)
  subst hr;refine wpAny_passesOwn hp (bo h4 fun _ s5 ⟨x,H5,I5,r5,y5,st5,fr5⟩=>?_)
  have I5':=I5.pinned (stat fr5) (T.obj _ _ st5);refine wpAny_passesOwn hp (bo (hg _ s5 σ3 H5 x u _ I5' r5 (step x H5 y5)) fun _ s6 ⟨σ6,H6,I6,q6⟩=>?_)
  refine wpAny_passesOwn hp (bo (hb _ s6 σ6 H6 _ I6 q6) fun f s7 q7=>?_)
  have again:∀{σ7:St} {H7:Hp},aJ X (pins++me fp s5.heap) σ7 H7 s7->N σ7 H7->∃m,m<n/\∃i σ' H',aJ X pins σ' H' s7/\tn i s7.heap/\(∀b∈fp,H' b=none)/\W i m σ' H':=fun {σ7 H7} I7 n7=>by
   obtain ⟨m',hm,w7⟩:=hN σ7 H7 n7;refine ⟨m',hm,i+1,σ7,H7,I7.unpinned,T.keep _ _ _ st5 fun b hb o e=>(I7.pin (b,o) (F9 _ (F9 _ (bX hb e)))).1,fun b hb=>?_,w7⟩
   obtain ⟨o,e,d⟩:=T.obj _ _ st5 b hb;exact (I7.pin (b,o) (F9 _ (F9 _ (bX hb e)))).2.1
  cases f with
  |next=>obtain ⟨σ7,H7,I7,n7⟩:=q7;exact again I7 n7
  |cont=>obtain ⟨σ7,H7,I7,n7⟩:=q7;exact again I7 n7
  |brk=>obtain ⟨σ7,H7,I7,q7⟩:=q7;exact ⟨σ7,H7,I7.unpinned,q7⟩
  |ret v=>obtain ⟨x7,σ7,H7,I7,r7,q7⟩:=q7;exact ⟨x7,σ7,H7,I7.unpinned,r7,q7⟩
theorem sM {lo:Int} {n:Nat} {g:TG} {tb:TS} {D:Ends} {σ:St} {H:Hp} (Pv:Nat->St->Hp->Prop) (h0:Pv 0 σ H)
  (hs:∀i σ H,i<n->Pv i σ H->g (.int (lo+i)) σ H fun σ2 H2=>tb {D with nx:=Pv (i+1),ct:=Pv (i+1),bk:=D.nx} σ2 H2) (hd:∀σ H,Pv n σ H->D.nx σ H):
  ∃W:Nat->Nat->St->Hp->Prop,(∃m,W 0 m σ H)/\∀i m σ H,W i m σ H->
   ((wI lo n).stop i H/\D.nx σ H)∨((wI lo n).go i H/\∃N:St->Hp->Prop,(∀σ' H',N σ' H'->∃m',m'<m/\W (i+1) m' σ' H')/\∀x H',(wI lo n).yld i H x H'->g x σ H' fun σ2 H2=>tb {D with nx:=N,ct:=N,bk:=D.nx} σ2 H2):=by
 refine ⟨fun i m σ H=>m=n-i/\i<=n/\Pv i σ H,⟨n,by simp,G7 _,h0⟩,?_⟩
 rintro i m σ H ⟨rfl,hi,p⟩
 by_cases hlt:i<n
 ·refine .inr ⟨hlt,Pv (i+1),fun σ' H' p'=>⟨n-(i+1),by lia,rfl,hlt,p'⟩,fun x H' y=>?_⟩
  obtain ⟨e,y⟩:=y;subst e y;exact hs i σ _ hlt p
 ·have e:i=n:=by lia
  subst e;exact .inl ⟨F5 _,hd σ H p⟩
theorem uf {c:TT} {tb:TS} {D:Ends} {σ:St} {H:Hp} (Pv:St->Hp->Prop) (μ:St->Hp->Nat) (h0:Pv σ H)
  (hs:∀σ H,Pv σ H->c σ H fun b H1=>if b=true then tb {D with nx:=fun σ' H'=>Pv σ' H'/\μ σ' H'<μ σ H,ct:=fun σ' H'=>Pv σ' H'/\μ σ' H'<μ σ H,bk:=D.nx} σ H1 else D.nx σ H1)
  (mono:∀σ H Q Q',(∀b H1,Q b H1->Q' b H1)->c σ H Q->c σ H Q'):uc c tb D σ H:=by
 refine ⟨fun m σ H=>m=μ σ H/\Pv σ H,⟨_,rfl,h0⟩,?_⟩
 rintro m σ H ⟨rfl,p⟩;refine mono σ H _ _ (fun b H1 q=>?_) (hs σ H p)
 cases b with
 |true=>exact ⟨_,fun σ' H' ⟨p',l⟩=>⟨_,l,rfl,p'⟩,q⟩
 |false=>exact q
abbrev R2:=V->V->Hp->VK->Prop
def i0 (X:Cx) (f:Value->Value->Sem Value) (r:R2):Prop:=
 ∀(pins:J1) (s:Shared) (σ:St) (H:Hp) (x y:V) (v u:Value) (Q:VK),aJ X pins σ H s->RelV x v->RelV y u->r x y H Q->
  wpAny (model X.prog X.w) X.A (f v u) (EP X pins σ Q) X.xe s
def Dr (X:Cx) (f:Value->Sem Value) (r:V->Hp->VK->Prop):Prop:=
 ∀(pins:J1) (s:Shared) (σ:St) (H:Hp) (x:V) (v:Value) (Q:VK),aJ X pins σ H s->RelV x v->r x H Q->
  wpAny (model X.prog X.w) X.A (f v) (EP X pins σ Q) X.xe s
def dJ (X:Cx) (f:Value) (r:List V->Hp->VK->Prop):Prop:=
 ∀(pins:J1) (s:Shared) (σ:St) (H:Hp) (xs:List V) (us:J6) (Q:VK),aJ X pins σ H s->aV xs us->r xs H Q->
  wpAny (model X.prog X.w) X.A (call f us) (EP X pins σ Q) X.xe s
def yr (r:R2) (ta tb:TE):TE:=fun σ H Q=>ta σ H fun x H1=>tb σ H1 fun y H2=>r x y H2 Q
def EQ (r:V->Hp->VK->Prop) (ta:TE):TE:=fun σ H Q=>ta σ H fun x H1=>r x H1 Q
def rI (C:Int->Int->Prop) (g:Int->Int->V):R2:=fun x y H Q=>∃i j,x= .int i/\y= .int j/\C i j/\Q (g i j) H
def wJ (g:Int->Int->V):R2:=fun x y H Q=>∃i j,x= .int i/\y= .int j/\Q (g i j) H
def rU (g:Int->V):V->Hp->VK->Prop:=fun x H Q=>∃i,x= .int i/\Q (g i) H
section
variable {a b c:Expr} {ta tb tc:TE} {pos:Pos}
theorem zh (ha:PE X a ta) (hb:PE X b tb) {pins:J1} {s:Shared} {σ:St} {H:Hp} {R:V->V->Hp->Prop} (I:aJ X pins σ H s)
  (h:ta σ H fun x H1=>tb σ H1 fun y H2=>R x y H2) {Q:JY} {f:Value->Value->Sem Value}
  (hf:∀v u s2 x y H2,aJ X pins σ H2 s2->RelV x v->RelV y u->R x y H2->wpAny (model X.prog X.w) X.A (f v u) Q X.xe s2):
  wpAny (model X.prog X.w) X.A (eval a X.env) (fun v s₁=>wpAny (model X.prog X.w) X.A (eval b X.env) (fun u s₂=>wpAny (model X.prog X.w) X.A (f v u) Q X.xe s₂) X.xe s₁) X.xe s:=by
 refine bo (ha pins s σ H _ I h) fun v s1 ⟨x,H1,I1,r1,q1⟩=>?_
 refine bo (hb pins s1 σ H1 _ I1 q1) fun u s2 ⟨y,H2,I2,r2,q2⟩=>?_
 exact hf v u s2 x y H2 I2 r1 r2 q2
theorem au {op:Operator} {r:R2} (ho:i0 X (binaryOp op) r) (ha:PE X a ta) (hb:PE X b tb):PE X (.BinOp a op b pos) (yr r ta tb):=by
 intro pins s σ H Q I h;exact wpAny_BinOp (zh ha hb I h fun v u s2 x y H2 I2 rx ry q=>ho pins s2 σ H2 x y v u Q I2 rx ry q)
theorem jo {op:UnaryOp} {r:V->Hp->VK->Prop} (ho:Dr X (unaryOp op) r) (ha:PE X a ta):PE X (.UnaryOp op a pos) (EQ r ta):=by
 intro pins s σ H Q I h;exact UnaryOp_ (bo (ha pins s σ H _ I h) fun v s1 ⟨x,H1,I1,r1,q1⟩=>ho pins s1 σ H1 x v Q I1 r1 q1)
theorem Ds {f:Value->Value->Sem Value} {C:Int->Int->Prop} {g:Int->Int->Int}
  (rule:∀(i j:Int) (t u:Tok) (s:Shared) (Q:JY) (E:JY),C i j->Q (.int (g i j) s.toks) {s with toks:=s.toks+1}->wpAny (model X.prog X.w) X.A (f (.int i t) (.int j u)) Q E s):
  i0 X f (rI C fun i j=> .int (g i j)):=by
 intro pins s σ H x y v u Q I rx ry h;obtain ⟨i,j,rfl,rfl,hc,q⟩:=h;obtain ⟨t,rfl⟩:=rx;obtain ⟨t',rfl⟩:=ry;exact rule i j t t' s _ _ hc ⟨.int (g i j),H,I.tok _,⟨_,rfl⟩,q⟩
theorem Bo {f:Value->Value->Sem Value} {g:Int->Int->Int}
  (rule:∀(i j:Int) (t u:Tok) (s:Shared) (Q:JY) (E:JY),Q (.int (g i j) s.toks) {s with toks:=s.toks+1}->wpAny (model X.prog X.w) X.A (f (.int i t) (.int j u)) Q E s):
  i0 X f (wJ fun i j=> .int (g i j)):=by
 intro pins s σ H x y v u Q I rx ry h;obtain ⟨i,j,rfl,rfl,q⟩:=h;obtain ⟨t,rfl⟩:=rx;obtain ⟨t',rfl⟩:=ry;exact rule i j t t' s _ _ ⟨.int (g i j),H,I.tok _,⟨_,rfl⟩,q⟩
theorem wK {f:Value->Value->Sem Value} {g:Int->Int->Bool}
  (rule:∀(i j:Int) (t u:Tok) (s:Shared) (Q:JY) (E:JY),Q (.bool (g i j)) s->wpAny (model X.prog X.w) X.A (f (.int i t) (.int j u)) Q E s):
  i0 X f (wJ fun i j=> .bl (g i j)):=by
 intro pins s σ H x y v u Q I rx ry h;obtain ⟨i,j,rfl,rfl,q⟩:=h;obtain ⟨t,rfl⟩:=rx;obtain ⟨t',rfl⟩:=ry;exact rule i j t t' s _ _ ⟨.bl (g i j),H,I,rfl,q⟩
theorem cw:i0 X (binaryOp .Add) (wJ fun i j=> .int (i+j)):=Bo fun _ _ _ _ _ _ _ q=>add_int q
theorem pG:i0 X (binaryOp .Sub) (wJ fun i j=> .int (i-j)):=Bo fun _ _ _ _ _ _ _ q=>sub_int q
theorem bj:i0 X (binaryOp .Mod) (rI (fun _ j=>j≠0) fun i j=> .int (i.fmod j)):=Ds fun _ _ _ _ _ _ _ hc q=>mod_int' hc q
theorem ER {f:Value->Sem Value} {g:Int->Int}
  (rule:∀(i:Int) (t:Tok) (s:Shared) (Q:JY) (E:JY),Q (.int (g i) s.toks) {s with toks:=s.toks+1}->wpAny (model X.prog X.w) X.A (f (.int i t)) Q E s):
  Dr X f (rU fun i=> .int (g i)):=by
 intro pins s σ H x v Q I rx h;obtain ⟨i,rfl,q⟩:=h;obtain ⟨t,rfl⟩:=rx;exact rule i t s _ _ ⟨.int (g i),H,I.tok _,⟨_,rfl⟩,q⟩
theorem fS:Dr X (unaryOp .USub) (rU fun i=> .int (-i)):=ER fun _ _ _ _ _ q=>neg_int q
end
noncomputable def Bp:V->V->Bool
 | .non,.non=>true| .non,.int _=>true| .int _,.non=>true| .non,.bl _=>true| .bl _,.non=>true| .non,.str _=>true| .str _,.non=>true
 | .int _,.int _=>true| .bl _,.bl _=>true| .str _,.str _=>true| .byt _,.byt _=>true
 | .int _,.str _=>true| .str _,.int _=>true| .bl _,.str _=>true| .str _,.bl _=>true
 |_,_=>false
def ES:R2:=fun x y H Q=>Bp x y=true/\Q (.bl (decide (x=y))) H
def ET:R2:=fun x y H Q=>Bp x y=true/\Q (.bl (!decide (x=y))) H
theorem qF {i j:Int}:decide (V.int i=V.int j)=(i==j):=by
 rw[Bool.eq_iff_iff];simp
theorem ug {i j:Bool}:decide (V.bl i=V.bl j)=(i==j):=by
 rw[Bool.eq_iff_iff];simp
theorem qG {i j:Str}:decide (V.str i=V.str j)=(i==j):=by
 rw[Bool.eq_iff_iff];simp
theorem qH {i j:Array UInt8}:decide (V.byt i=V.byt j)=(i.toList==j.toList):=by
 rw[Bool.eq_iff_iff];cases i;cases j;simp
section
variable {a b c:Expr} {ta tb tc:TE} {pos:Pos}
theorem bh {pins:J1} {σ:St} {H:Hp} {s:Shared} {Q:VK} {k k':Bool} (I:aJ X pins σ H s) (q:Q (.bl k) H) (e:k=k'):EP X pins σ Q (.bool k') s:=by
 subst e;exact ⟨.bl k,H,I,rfl,q⟩
theorem bv:i0 X (compareOp .Eq) ES:=by
 intro pins s σ H x y v u Q I rx ry h;obtain ⟨hs,q⟩:=h;cases x with
 |non=>
  cases rx;cases y with
  |non=>cases ry;exact PySem.EqNone.eq_none_none (bh I q (by simp))
  |bl j=>cases ry;exact PySem.EqNone.eq_none_bool (bh I q (by simp))
  |int j=>obtain ⟨t',rfl⟩:=ry;exact PySem.EqNone.eq_none_int (bh I q (by simp))
  |str j=>obtain ⟨t',rfl⟩:=ry;exact PySem.EqNone.eq_none_str (bh I q (by simp))
  |_=>exact absurd (show false=true from hs) FJ
 |bl i=>
  cases rx;cases y with
  |non=>cases ry;exact PySem.EqNone.eq_bool_none (bh I q (by simp))
  |bl j=>cases ry;exact eq_bool (bh I q ug)
  |str j=>obtain ⟨t',rfl⟩:=ry;exact PySem.EqMixed.eq_bool_str (bh I q (by simp))
  |_=>exact absurd (show false=true from hs) FJ
 |int i=>
  obtain ⟨t,rfl⟩:=rx;cases y with
  |non=>cases ry;exact PySem.EqNone.eq_int_none (bh I q (by simp))
  |int j=>obtain ⟨t',rfl⟩:=ry;exact eq_int (bh I q qF)
  |str j=>obtain ⟨t',rfl⟩:=ry;exact PySem.EqMixed.eq_int_str (bh I q (by simp))
  |_=>exact absurd (show false=true from hs) FJ
 |str i=>
  obtain ⟨t,rfl⟩:=rx;cases y with
  |non=>cases ry;exact PySem.EqNone.eq_str_none (bh I q (by simp))
  |bl j=>cases ry;exact PySem.EqMixed.eq_str_bool (bh I q (by simp))
  |int j=>obtain ⟨t',rfl⟩:=ry;exact PySem.EqMixed.eq_str_int (bh I q (by simp))
  |str j=>obtain ⟨t',rfl⟩:=ry;exact eq_str (bh I q qG)
  |_=>exact absurd (show false=true from hs) FJ
 |byt i=>
  obtain ⟨t,rfl⟩:=rx;cases y with
  |byt j=>obtain ⟨t',rfl⟩:=ry;exact PySem.W.eq_bytes (bh I q qH)
  |_=>exact absurd (show false=true from hs) FJ
 |_=>cases y<;>exact absurd (show false=true from hs) FJ
theorem jT:i0 X (compareOp .NotEq) ET:=by
 intro pins s σ H x y v u Q I rx ry h;obtain ⟨hs,q⟩:=h;cases x with
 |non=>
  cases rx;cases y with
  |non=>cases ry;exact PySem.EqNone.ne_none_none (bh I q (by simp))
  |bl j=>cases ry;exact PySem.EqNone.ne_none_bool (bh I q (by simp))
  |int j=>obtain ⟨t',rfl⟩:=ry;exact PySem.EqNone.ne_none_int (bh I q (by simp))
  |str j=>obtain ⟨t',rfl⟩:=ry;exact PySem.EqNone.ne_none_str (bh I q (by simp))
  |_=>exact absurd (show false=true from hs) FJ
 |bl i=>
  cases rx;cases y with
  |non=>cases ry;exact PySem.EqNone.ne_bool_none (bh I q (by simp))
  |bl j=>cases ry;exact ne_bool (bh I q (congrArg not ug))
  |str j=>obtain ⟨t',rfl⟩:=ry;exact PySem.EqMixed.ne_bool_str (bh I q (by simp))
  |_=>exact absurd (show false=true from hs) FJ
 |int i=>
  obtain ⟨t,rfl⟩:=rx;cases y with
  |non=>cases ry;exact PySem.EqNone.ne_int_none (bh I q (by simp))
  |int j=>obtain ⟨t',rfl⟩:=ry;exact ne_int (bh I q (congrArg not qF))
  |str j=>obtain ⟨t',rfl⟩:=ry;exact PySem.EqMixed.ne_int_str (bh I q (by simp))
  |_=>exact absurd (show false=true from hs) FJ
 |str i=>
  obtain ⟨t,rfl⟩:=rx;cases y with
  |non=>cases ry;exact PySem.EqNone.ne_str_none (bh I q (by simp))
  |bl j=>cases ry;exact PySem.EqMixed.ne_str_bool (bh I q (by simp))
  |int j=>obtain ⟨t',rfl⟩:=ry;exact PySem.EqMixed.ne_str_int (bh I q (by simp))
  |str j=>obtain ⟨t',rfl⟩:=ry;exact ne_str (bh I q (congrArg not qG))
  |_=>exact absurd (show false=true from hs) FJ
 |byt i=>
  obtain ⟨t,rfl⟩:=rx;cases y with
  |byt j=>obtain ⟨t',rfl⟩:=ry;exact PySem.W.ne_bytes (bh I q (congrArg not qH))
  |_=>exact absurd (show false=true from hs) FJ
 |_=>cases y<;>exact absurd (show false=true from hs) FJ
theorem jU:i0 X (compareOp .Lt) (wJ fun i j=> .bl (decide (i<j))):=wK fun _ _ _ _ _ _ _ q=>lt_int q
theorem Bq:i0 X (compareOp .LtE) (wJ fun i j=> .bl (decide (i<=j))):=wK fun _ _ _ _ _ _ _ q=>le_int q
theorem uh:i0 X (compareOp .Gt) (wJ fun i j=> .bl (decide (j<i))):=wK fun _ _ _ _ _ _ _ q=>gt_int q
theorem Br:i0 X (compareOp .GtE) (wJ fun i j=> .bl (decide (j<=i))):=wK fun _ _ _ _ _ _ _ q=>ge_int q
theorem df:i0 X (compareOp .Is) (fun x y H Q=>y= .non/\Q (.bl (decide (x= .non))) H):=by
 intro pins s σ H x y v u Q I rx ry h;obtain ⟨rfl,q⟩:=h;cases ry;refine is_none_gen (bh I q ?_);cases x<;>first
  |(cases rx;rfl)
  |(obtain ⟨t,rfl⟩:=rx;rfl)
theorem wL:i0 X (compareOp .IsNot) (fun x y H Q=>y= .non/\Q (.bl (!decide (x= .non))) H):=by
 intro pins s σ H x y v u Q I rx ry h;obtain ⟨rfl,q⟩:=h;cases ry;refine isnot_none_gen (bh I q ?_);cases x<;>first
  |(cases rx;rfl)
  |(obtain ⟨t,rfl⟩:=rx;rfl)
theorem aE (b:Expr) {op:CmpOp} (h:op≠ .In:=by decide) (h2:op≠ .NotIn:=by decide):behindInMarks op b=false:=by
 have e1:(op==CmpOp.In)=false:=by cases op<;>first|rfl|exact absurd rfl h
 have e2:(op==CmpOp.NotIn)=false:=by cases op<;>first|rfl|exact absurd rfl h2
 cases b<;>simp[behindInMarks,e1,e2]
theorem eG {op:CmpOp} {r:R2} (ho:i0 X (compareOp op) r) (ha:PE X a ta) (hb:PE X b tb) (hm:behindInMarks op b=false):PE X (.Compare a [op] [b] pos) (yr r ta tb):=by
 intro pins s σ H Q I h;exact wpAny_Compare1 (zh ha hb I h fun v u s2 x y H2 I2 rx ry q=>ho pins s2 σ H2 x y v u Q I2 rx ry q) hm
def Bs (t:TE):TT:=fun σ H Q=>t σ H fun x H'=>∃k,x= .bl k/\Q k H'
theorem aw {op:CmpOp} {r:R2} (ho:i0 X (compareOp op) r) (ha:PE X a ta) (hb:PE X b tb) (hm:behindInMarks op b=false):PT X (.Compare a [op] [b] pos) (Bs (yr r ta tb)):=by
 intro pins s σ H Q I h;refine wpAny_isTrue_Compare1 (bo (ha pins s σ H _ I h) fun v s1 ⟨x,H1,I1,r1,q1⟩=>bo (hb pins s1 σ H1 _ I1 q1) fun u s2 ⟨y,H2,I2,r2,q2⟩=>
  bo (ho pins s2 σ H2 x y v u _ I2 r1 r2 q2) fun c s3 ⟨z,H3,I3,r3,k,e,q3⟩=>?_) hm
 subst e;cases r3;exact wpAny_truthy_bool ⟨H3,I3,q3⟩
theorem i3:(sizeLine:Nat)<2^63:=by rw[sizeLine_eq];decide
theorem aj:i0 X (binaryOp .Add) (fun x y H Q=>∃i j,x= .str i/\y= .str j/\i.length+j.length<=sizeLine/\Q (.str (i++j)) H):=by
 intro pins s σ H x y v u Q I rx ry h;obtain ⟨i,j,rfl,rfl,hz,q⟩:=h;obtain ⟨t,rfl⟩:=rx;obtain ⟨t',rfl⟩:=ry;exact add_str (fun t' tk=>⟨.str (i++j),H,I.tok _,⟨_,rfl⟩,q⟩) hz
theorem vals1 {x:V} {us:J6} (r:aV [x] us):∃u,us= [u]/\RelV x u:=by
 cases r with
 |cons r1 r2=>cases r2;exact ⟨_,rfl,r1⟩
theorem vals2 {x y:V} {us:J6} (r:aV [x,y] us):∃u w',us= [u,w']/\RelV x u/\RelV y w':=by
 cases r with
 |cons r1 r2=>
  cases r2 with
  |cons r3 r4=>cases r4;exact ⟨_,_,rfl,r1,r3⟩
theorem nG:dJ X (.builtin "abs") (fun xs H Q=>∃i,xs= [.int i]/\Q (.int (if i<0 then-i else i)) H):=by
 intro pins s σ H xs us Q I r h;obtain ⟨i,rfl,q⟩:=h;obtain ⟨u,rfl,t,rfl⟩:=vals1 r;exact call_abs_int fun u tk=>⟨.int (if i<0 then-i else i),H,I.tok _,⟨_,rfl⟩,q⟩
theorem b9:dJ X (.type "str") (fun xs H Q=>∃i,xs= [.int i]/\i.natAbs.log2<1920/\Q (.str (toString i)) H):=by
 intro pins s σ H xs us Q I r h;obtain ⟨i,rfl,hz,q⟩:=h;obtain ⟨u,rfl,t,rfl⟩:=vals1 r;exact PySem.P.str_of_int hz ⟨.str _,H,I.tok _,⟨_,rfl⟩,q⟩
end
structure sN (h:Heap) (x dx C:Addr) (mA:JZ):Prop where
 obj:h.get? x=some (GI C dx)
 ns:h.Ns1 dx mA
 ne:dx≠x
theorem kX {h:Heap} {dx:Addr} {mA:JZ} (n:h.Ns1 dx mA):∃od,h.get? dx=some od/\∀name,PySem.W.lookIn name od=some (mA name):=by
 obtain ⟨o,es,ep,ho,hd,hk,_,hm⟩:=n;refine ⟨o,ho,fun name=>?_⟩
 have e:=hm name;unfold nsFind findBy at e;rw[<-Array.find?_toList] at e;unfold PySem.W.lookIn;rw[hd];dsimp only
 split
 ·rename_i y q;rw[q] at e;exact congrArg some e
 ·rename_i q;rw[q] at e;have a:es.toList.any (·.refKey)=false:=by
   rw[List.any_eq_false];intro y hy;obtain ⟨z,t,hkey⟩:=hk y (Array.mem_toList_iff.mp hy);simp[DictEntry.refKey,hkey]
  have a':¬es.toList.any (·.refKey)=true:=by rw[a];exact FJ
  rw[if_neg a'];exact congrArg some e
theorem sN.look {h:Heap} {x dx C:Addr} {mA:JZ} (I:sN h x dx C mA):∃od,PySem.W.InstAt h x (GI C dx) C (some od)/\∀name,PySem.W.lookIn name od=some (mA name):=
 let ⟨od,ho,hl⟩:=kX I.ns
 ⟨od,⟨I.obj,rfl,rfl,ho⟩,hl⟩
section
variable {prog:Program} {w:World} {A:Around} {E:JY} {s:Shared} {K:F0} {x dx C f:Addr} {mA:JZ} {name:Str} {v:Value}
theorem wM {expr:Bool} {Q:JY} (X:K.In s.heap) (I:sN s.heap x dx C mA) (hg:PySem.W.plainGet K C name=true) (hh:PySem.W.hasDictIn K C=true)
  (ha:FR K (.ref C) name=some none) (hv:mA name=some v) (hv':PySem.W.handedIn v=true) (h:Q v {s with toks:=s.toks+1}):
  wpAny (model prog w) A (getAttr (.ref x) name expr) Q E s:=by
 obtain ⟨od,J,hl⟩:=I.look;exact PySem.W.get_value X J (PySem.W.plainGet_of hg).1 (PySem.W.findObj_own hh ha rfl (by rw[hl,hv])) hv' h
theorem wN {ns:J4} {Q:Unit->Shared->Prop} (X:K.In s.heap) (I:sN s.heap x dx C mA)
  (hs:FR K (.ref C) "__setattr__" =some (some (.builtin "object.__setattr__"))) (hp:PySem.W.plainOver K C=true) (ht:PySem.W.takerIn K C name=some none) (hh:PySem.W.hasDictIn K C=true)
  (hw:PySem.Within mA ns) (hsz:ns.length<=sizeLine)
  (h:∀h',sN h' x dx C (fun y=>if y=name then some v else mA y)->Heap.SameBut dx s.heap h'->Q () {s with heap:=h',toks:=s.toks+2}):
  wpAny (model prog w) A (setAttr (.ref x) name v) Q E s:=by
 obtain ⟨od,J,hl⟩:=I.look;refine PySem.W.set_plain X J hs (PySem.W.osa_open (s:={s with toks:=s.toks+1}) (r:=none) X J hp ht fun b=>?_)
 obtain ⟨cd,hc,hd'⟩:=PySem.W.any_some hh;have hx:s.heap.get? x=some ⟨.ref C,some dx,.plain,#[]⟩:=I.obj;refine wpAny_bind (wpAny_pure (wpAny_bind (wpAny_bind (wpAny_loadPart hx (wpAny_bind (PySem.W.Looks.here (s:={s with toks:=s.toks+1}) (PySem.W.looks_clsIn X hc) ?_))))))
 rw[hd'];refine wpAny_pure (a:=some dx) (wpAny_bind (wpAny_pure (wpAny_bind ?_)));refine wpAny_nsSet1 (s:={s with toks:=s.toks+1}) I.ns fun h' hn2 hs2=>?_
 obtain ⟨oD,esD,epD,hoD,hdD,hcD⟩:=hn2.count (PySem.Within.cons name v hw);refine wpAny_bind (wpAny_lookBehind hoD (by rw[hdD];exact pastItsLine_dict (FH hcD (by rw[FS];lia))) ?_)
 exact wpAny_pure (h _ ⟨(hs2.2 _ (Ne.symm I.ne)).trans I.obj,hn2,I.ne⟩ hs2)
theorem ui {R:Result->Shared->Prop} {vs:J6} {kw:List (Str×Value)} (X:K.In s.heap) (hm:PySem.W.makesIn K C=true)
  (hi:FR K (.ref C) "__init__" =some (some (.ref f))) (hf:PySem.W.typeIn K (.ref f)=some (.type "function"))
  (h:codeAny (model prog w) (A.under (.builtin "type.__call__" ⟨.ref C::vs,kw⟩)) (.call (.ref f) ⟨.ref (s.heap.objs.size+1)::vs,kw⟩) (PySem.W.InitBack (s.heap.objs.size+1) R)
   {s with heap:=(s.heap.push FU).push (GI C s.heap.objs.size)}):
  codeAny (model prog w) A (.call (.ref C) ⟨vs,kw⟩) R s:=by
 obtain ⟨hh,g,d,t,os⟩:=s;exact PySem.W.make_core (PySem.W.makes_of X hm) (PySem.W.looks_findIn X hi) (fun self=>PySem.W.bind_fn X self hf) (.inl rfl) h
end
noncomputable def aK (f:Str) (v:V):List (Str×V)->List (Str×V)
 | []=> [(f,v)]
 |(g,x)::r=>if g=f then (g,v)::r else (g,x)::aK f v r
theorem a9 (f g:Str) (v:V):∀fs:List (Str×V),(aK f v fs).lookup g=if g=f then some v else fs.lookup g
 | []=>by
  show GO g [(f,v)]=_
  by_cases h:g=f
  ·have hb:(g==f)=true:=beq_iff_eq.mpr h;simp only[GO,hb,if_pos h]
  ·have hb:(g==f)=false:=beq_eq_false_iff_ne.mpr h;simp only[GO,hb,if_neg h]
 |(k,x)::r=>by
  have ih:=a9 f g v r;rw[show aK f v ((k,x)::r)=(if k=f then (k,v)::r else (k,x)::aK f v r) from rfl]
  by_cases hk:k=f
  ·rw[if_pos hk]
   by_cases h:g=k
   ·have hb:(g==k)=true:=beq_iff_eq.mpr h;simp only[GO,hb,if_pos (h.trans hk)]
   ·have hb:(g==k)=false:=beq_eq_false_iff_ne.mpr h;simp only[GO,hb,if_neg (fun e:g=f=>h (e.trans hk.symm))]
  ·rw[if_neg hk]
   by_cases h:g=k
   ·have hb:(g==k)=true:=beq_iff_eq.mpr h;simp only[GO,hb,if_neg (fun e:g=f=>hk (h.symm.trans e))]
   ·have hb:(g==k)=false:=beq_eq_false_iff_ne.mpr h;simp only[GO,hb];exact ih
theorem i4 (f:Str) (v:V):∀fs:List (Str×V),f∈(aK f v fs).map (·.1)/\∀g,g∈fs.map (·.1)->g∈(aK f v fs).map (·.1)
 | []=>⟨by simp[aK],fun g h=>by simp at h⟩
 |(k,x)::r=>by
  obtain ⟨i1,i2⟩:=i4 f v r;rw[show aK f v ((k,x)::r)=(if k=f then (k,v)::r else (k,x)::aK f v r) from rfl]
  by_cases hk:k=f
  ·rw[if_pos hk];subst hk;exact ⟨by simp,fun g h=>by simpa using h⟩
  ·rw[if_neg hk];refine ⟨?_,fun g h=>?_⟩
   ·rw[FZ];exact F8 _ i1
   ·rw[FZ] at h⊢;rcases F4.mp h with e|e
    ·exact F4.mpr (.inl e)
    ·exact F8 _ (i2 g e)
theorem aP (f:Str) (v:V):∀fs:List (Str×V),(aK f v fs).length<=fs.length+1
 | []=>by simp[aK]
 |(k,x)::r=>by
  have ih:=aP f v r;rw[show aK f v ((k,x)::r)=(if k=f then (k,v)::r else (k,x)::aK f v r) from rfl]
  by_cases hk:k=f
  ·rw[if_pos hk,FS,FS];lia
  ·rw[if_neg hk,FS,FS];lia
theorem ma.some_of {v:V} {o:J8} (r:ma (some v) o):∃u,o=some u/\RelV v u:=by
 cases o with
 |none=>exact (show False from r).elim
 |some u=>exact ⟨u,rfl,r⟩
theorem kY {v:V} {u:Value} (r:RelV v u):PySem.W.handedIn u=true:=by
 cases v with
 |non=>cases (show u=Value.none from r);rfl
 |bl b=>cases (show u=Value.bool b from r);rfl
 |int i=>obtain ⟨t,e⟩:=(show ∃t,u=Value.int i t from r);cases e;rfl
 |str x=>obtain ⟨t,e⟩:=(show ∃t,u=Value.str x t from r);cases e;rfl
 |byt b=>obtain ⟨t,e⟩:=(show ∃t,u=Value.bytes b t from r);cases e;rfl
 |flt b=>obtain ⟨t,e⟩:=(show ∃t,u=Value.float b t from r);cases e;rfl
 |ref a=>cases (show u=Value.ref a from r);rfl
 |ty n=>cases (show u=Value.type n from r);rfl
 |raw x t=>cases (show u=Value.str x t from r);rfl
section
variable {P:Program} {w:World} {H H':Hp} {h h':Heap} {a C dx:Addr} {fs fs':List (Str×V)}
theorem mf (hok:fQ P w H h) (e:H a=some (.ins C dx fs)):∃mA,sN h a dx C mA/\(∀f,ma (fs.lookup f) (mA f))/\PySem.Within mA (fs.map (·.1))/\fs.length<=1000/\H dx=some (.own a):=by
 obtain ⟨d,z,ne,ob,mA,n,r,q⟩:=(show bJ P w H h a (.ins C dx fs) from hok a _ e)
 exact ⟨mA,⟨ob,n,ne⟩,r,q,z,d⟩
end
structure mh (K:F0) (C:Addr):Prop where
 pg:PySem.W.plainGet K C Str.empty=true
 hd:PySem.W.hasDictIn K C=true
 po:PySem.W.plainOver K C=true
 sa:FR K (.ref C) "__setattr__" =some (some (.builtin "object.__setattr__"))
theorem mh.get {K:F0} {C:Addr} (c:mh K C) (f:Str):PySem.W.plainGet K C f=true:=c.pg
def aD (K:F0) (C:Addr) (f:Str):Prop:=FR K (.ref C) f=some none
theorem aD.taker {K:F0} {C:Addr} {f:Str} (n:aD K C f):PySem.W.takerIn K C f=some none:=by
 unfold PySem.W.takerIn;rw[show FR K (.ref C) f=some none from n]
 rfl
section
variable {pins:J1} {σ:St} {H:Hp} {s:Shared} {a C dx:Addr} {fs:List (Str×V)} {f:Str} {v:V} {A:Around} {E:JY}
theorem pH {b:Bool} {Q:JY} (I:aJ X pins σ H s) (e:H a=some (.ins C dx fs)) (c:mh X.K C) (n:aD X.K C f) (l:fs.lookup f=some v)
  (h:∀u s',aJ X pins σ H s'->RelV v u->Q u s'):wpAny (model X.prog X.w) A (getAttr (.ref a) f b) Q E s:=by
 obtain ⟨mA,O,r,_,_,_⟩:=mf I.hok e;obtain ⟨u,hu,ru⟩:=ma.some_of (v:=v) (o:=mA f) (by rw[<-l];exact r f)
 exact wM I.kIn O (c.get f) c.hd n hu (kY ru) (h u _ (I.tok _) ru)
theorem pI {y:V} {u:Value} {Q:Unit->Shared->Prop} (I:aJ X pins σ H s) (e:H a=some (.ins C dx fs)) (c:mh X.K C) (n:aD X.K C f) (hl:fs.length<1000) (ry:RelV y u)
  (h:∀s',aJ X pins σ (aL H a (.ins C dx (aK f y fs))) s'->Q () s'):wpAny (model X.prog X.w) A (setAttr (.ref a) f u) Q E s:=by
 obtain ⟨mA,O,r,wi,_,ho⟩:=mf I.hok e;have hz:(fs.map (·.1)).length<=sizeLine:=by rw[F7,sizeLine_eq];lia
 refine wN I.kIn O c.sa c.po n.taker c.hd wi hz fun h' O' sb=>h _ ?_
 have hd:∃o,h'.get? dx=some o:=let ⟨o,_,_,e',_⟩:=O'.ns;⟨o,e'⟩;refine I.write (x:=a) (e:=dx) (by rw[e];exact True.intro) (.inr ho) (fun b q hb z=>(sb.2 b hb).trans z) hd ?_
 refine ⟨by rw[ar O.ne];exact ho,?_,O.ne,O'.obj,_,O'.ns,fun g=>?_,fun g hg=>?_⟩
 ·have:=aP f y fs;lia
 ·show ma ((aK f y fs).lookup g) (if g=f then some u else mA g)
  rw[a9]
  by_cases q:g=f
  ·rw[if_pos q,if_pos q];exact ry
  ·rw[if_neg q,if_neg q];exact r g
 ·by_cases q:g=f
  ·rw[q];exact (i4 f y fs).1
  ·refine (i4 f y fs).2 g (wi g fun z=>hg ?_)
   show (if g=f then some u else mA g)=none
   rw[if_neg q];exact z
theorem aJ.made (I:aJ X pins σ H s):aJ X pins σ (aL (aL H s.heap.objs.size (.own (s.heap.objs.size+1))) (s.heap.objs.size+1) (.ins C s.heap.objs.size []))
  {s with heap:=(s.heap.push FU).push (GI C s.heap.objs.size)}:=by
 have e1:(s.heap.push FU).get? s.heap.objs.size=some FU:=Heap.get?_push_size s.heap rfl;have e2:((s.heap.push FU).push (GI C s.heap.objs.size)).get? (s.heap.objs.size+1)=some (GI C s.heap.objs.size):=by
  have:=Heap.get?_push_size (s.heap.push FU) (o:=GI C s.heap.objs.size) rfl
  rwa [Heap.size_push] at this
 have e3:(s.heap.push FU).Ns s.heap.objs.size (fun _=>none):=⟨FU,#[],_,e1,rfl,(fun e he=>absurd he (by simp)),fun _=>rfl⟩
 have I1:=I.laid (a:=s.heap.objs.size) (o:= .own (s.heap.objs.size+1)) (h':=s.heap.push FU) (t':=s.toks) (fun b u q=>Heap.get?_push_of_some _ q) (F5 _) ⟨_,e1⟩
 refine I1.laid (a:=s.heap.objs.size+1) (o:= .ins C s.heap.objs.size []) (t':=s.toks) (fun b u q=>Heap.get?_push_of_some _ q) (Nat.le_of_eq (Heap.size_push _ _)) ?_
 have ne:s.heap.objs.size≠s.heap.objs.size+1:=FO (Nat.lt_succ_self _);refine ⟨by rw[ar ne,ac],G7 _,ne,e2,fun _=>none,(Heap.Ns1.of_empty e3).at fun o q=>Heap.get?_push_of_some _ q,fun _=>True.intro,fun y hy=>absurd rfl hy⟩
theorem qI {prog:Program} {w:World} {env:Env} {e:Expr} {f:Str} {pos:Pos} {s:Shared} {Q:JY} (hb:attributeBase e f env (eval e env)=eval e env)
  (h:wpAny (model prog w) A (eval e env) (fun o s₁=>wpAny (model prog w) A (getAttr o f true) Q E s₁) E s):wpAny (model prog w) A (eval (.Attribute e f pos) env) Q E s:=
 Attribute_any_ h (by rw[arm_eval_Attribute,hb])
end
def Bt (K:F0) (ta:TE) (f:Str):TE:=fun σ H Q=>ta σ H fun x H1=>∃a C dx fs v,x= .ref a/\H1 a=some (.ins C dx fs)/\mh K C/\aD K C f/\fs.lookup f=some v/\Q v H1
def Dt (K:F0) (ta tv:TE) (f:Str):TS:=fun D σ H=>tv σ H fun y H1=>ta σ H1 fun x H2=>∃a C dx fs,x= .ref a/\H2 a=some (.ins C dx fs)/\mh K C/\aD K C f/\fs.length<1000/\
 D.nx σ (aL H2 a (.ins C dx (aK f y fs)))
section
variable {o e value:Expr} {f:Str} {pos pos' tpos:Pos} {ta tv:TE}
theorem bI (he:PE X e ta) (hb:attributeBase e f X.env (eval e X.env)=eval e X.env):PE X (.Attribute e f pos) (Bt X.K ta f):=by
 intro pins s σ H Q I h;refine qI hb (bo (he pins s σ H _ I h) fun u s1 ⟨x,H1,I1,rx,a,C,dx,fs,v,ex,ea,c,n,l,q⟩=>?_)
 subst ex;obtain rfl:u=Value.ref a:=rx;exact pH I1 ea c n l fun u' s2 I2 ru=>⟨v,H1,I2,ru,q⟩
theorem dG (ha:PE X o ta) (hv:PE X value tv) (hs:swapsWith value (some (.Attribute o f pos')) pos.line X.env=pure false):PS X (.Assign [.Attribute o f pos'] value pos) (Dt X.K ta tv f):=by
 intro pins s σ H D I h;refine plainObj_wpAny_Assign_Attribute (bo (hv pins s σ H _ I h) fun u s1 ⟨y,H1,I1,ry,q⟩=>bo (ha pins s1 σ H1 _ I1 q) fun ov s2 ⟨x,H2,I2,rx,a,C,dx,fs,ex,ea,c,n,l,q2⟩=>?_) hs
 subst ex;obtain rfl:ov=Value.ref a:=rx;exact pI I2 ea c n l ry fun s3 I3=>⟨σ,_,I3,q2⟩
end
section
variable {pins:J1} {σ:St} {H:Hp} {s:Shared} {A:Around} {E:JY} {Q:JY} {c:Value} {b:Bool}
inductive iw (K:F0) (H:Hp):V->Value->Prop where
 |non:iw K H .non (.type "NoneType")
 |bl (x:Bool):iw K H (.bl x) (.type "bool")
 |int (i:Int):iw K H (.int i) (.type "int")
 |str (x:Str):iw K H (.str x) (.type "str")
 |flt (x:UInt64):iw K H (.flt x) (.type "float")
 |lst {a:Addr} {xs:List V} (e:H a=some (.lst xs)):iw K H (.ref a) (.type "list")
 |frz {a:Addr} {o:Obj} {xs:List V} (e:H a=some (.frz o (.lst xs))):iw K H (.ref a) (.type "list")
 |tup {a:Addr} {xs:List V} (e:H a=some (.tup xs)):iw K H (.ref a) (.type "tuple")
 |dK {a:Addr} {kvs:List (Key×V)} (e:H a=some (.dK kvs)):iw K H (.ref a) (.type "dict")
 |dT {a:Addr} {kvs:List (List Key×V)} (e:H a=some (.dT kvs)):iw K H (.ref a) (.type "dict")
 |ins {a C dx:Addr} {fs:List (Str×V)} (e:H a=some (.ins C dx fs)) (cl:mh K C) (ha:FR K (.ref C) "__class__" =some (some (.builtin "object.__class__")))
   (hn:PySem.W.specialIn K (.builtin "object.__class__") "__get__" =some (some (.builtin "getset_descriptor.__get__"))) (htk:PySem.W.takesIn K (.builtin "object.__class__")=some true)
   (hm:PySem.W.mroIn K C (.type "object")=some true):iw K H (.ref a) (.ref C)
theorem sO {x:V} {u t:Value} (I:aJ X pins σ H s) (rx:RelV x u) (ty:iw X.K H x t) (e:F3 X.K t c=some b) (h:∀tk,Q (.bool b) {s with toks:=tk}):
  wpAny (model X.prog X.w) A (call (.builtin "isinstance") [u,c]) Q E s:=by
 cases ty with
 |non=>cases (show u=Value.none from rx);exact Fy PySem.W.kitx_none I.kIn True.intro e (fun z=>nomatch z) h
 |bl y=>cases (show u=Value.bool y from rx);exact Fy PySem.W.kitx_bool I.kIn True.intro e (fun z=>nomatch z) h
 |int i=>obtain ⟨t,q⟩:=(show ∃t,u=Value.int i t from rx);cases q;exact Fy PySem.W.kitx_int I.kIn True.intro e (fun z=>nomatch z) h
 |str y=>obtain ⟨t,q⟩:=(show ∃t,u=Value.str y t from rx);cases q;exact Fy PySem.W.kitx_str I.kIn True.intro e (fun z=>nomatch z) h
 |flt y=>obtain ⟨t,q⟩:=(show ∃t,u=Value.float y t from rx);cases q;exact Fy PySem.W.kitx_float I.kIn True.intro e (fun z=>nomatch z) h
 | @lst a xs ea=>
  cases (show u=Value.ref a from rx)
  obtain ⟨_,_,n,_,h1⟩:=(show bJ X.prog X.w H s.heap a (.lst xs) from I.hok a _ ea)
  exact Fy PySem.W.kitx_list I.kIn ⟨_,h1,rfl⟩ e (fun z=>nomatch z) h
 | @frz a ob xs ea=>
  cases (show u=Value.ref a from rx)
  obtain ⟨_,_,_,n,_,h1⟩:=(show bJ X.prog X.w H s.heap a (.frz ob (.lst xs)) from I.hok a _ ea)
  exact Fy PySem.W.kitx_list I.kIn ⟨_,h1,rfl⟩ e (fun z=>nomatch z) h
 | @tup a xs ea=>
  cases (show u=Value.ref a from rx)
  obtain ⟨_,_,_,p⟩:=(show bJ X.prog X.w H s.heap a (.tup xs) from I.hok a _ ea)
  obtain ⟨o,h1,h2,_⟩:=p;exact Fy PySem.W.kitx_tuple I.kIn ⟨o,h1,h2⟩ e (fun z=>nomatch z) h
 | @dK a kvs ea=>
  cases (show u=Value.ref a from rx)
  obtain ⟨_,_,vs,_,p⟩:=(show bJ X.prog X.w H s.heap a (.dK kvs) from I.hok a _ ea)
  obtain ⟨o,es,ep,h1,h2,_⟩:=p;exact Fy PySem.W.kitx_dict I.kIn ⟨o,h1,h2.1⟩ e (fun z=>nomatch z) h
 | @dT a kvs ea=>
  cases (show u=Value.ref a from rx)
  obtain ⟨_,_,xs,_,o,es,ep,h1,h2,_⟩:=(show bJ X.prog X.w H s.heap a (.dT kvs) from I.hok a _ ea)
  exact Fy PySem.W.kitx_dict I.kIn ⟨o,h1,h2.1⟩ e (fun z=>nomatch z) h
 | @ins a C dx fs ea cl ha hn htk hm=>
  cases (show u=Value.ref a from rx)
  obtain ⟨mA,O,_⟩:=mf I.hok ea;obtain ⟨od,J,_⟩:=O.look;exact Fy (PySem.W.kitx_own (cl.get _) cl.hd ha hn htk hm) I.kIn J e (fun z=>nomatch z) h
end
structure bT (k:Nat) (A:Around):Prop where
 hd:A.handled=none
 dp:A.depth+3*k+5<recursionLimit
 un:A.units+16*k+200<cLine
theorem bT.mono {j k:Nat} {A:Around} (r:bT k A) (h:j<=k):bT j A:=⟨r.hd,by have:=r.dp;lia,by have:=r.un;lia⟩
theorem bT.deeper {k:Nat} {A:Around} (r:bT (k+1) A) (env:Env):bT k (A.deeper env):=
 ⟨r.hd,by have:=r.dp;show A.depth+1+3*k+5<_;lia,by have:=r.un;show A.units+3+16*k+200<_;lia⟩
theorem pJ {A:Around} {C:Addr} {us:J6} {kw:List (Str×Value)}:(A.under (.builtin "type.__call__" ⟨.ref C::us,kw⟩)).depth=A.depth+1:=by
 first|rfl|simp[Around.under,Code.weight,Code.isCreation,Code.isGuard,Code.isCaller,Code.frames,Code.isFrame,guardIds]
theorem pK {A:Around} {C:Addr} {us:J6} {kw:List (Str×Value)}:(A.under (.builtin "type.__call__" ⟨.ref C::us,kw⟩)).units=A.units+1:=by
 first|rfl|simp[Around.under,Code.cUnits,Code.frames,Code.isFrame]
theorem bT.make {k:Nat} {A:Around} (r:bT (k+1) A) (C:Addr) (us:J6) (kw:List (Str×Value)):bT k (A.under (.builtin "type.__call__" ⟨.ref C::us,kw⟩)):=
 ⟨r.hd,by have:=r.dp;rw[pJ];lia,by have:=r.un;rw[pK];lia⟩
theorem bT.depth {k:Nat} {A:Around} (r:bT k A):A.depth<recursionLimit:=by have:=r.dp;lia
theorem bT.units {k:Nat} {A:Around} (r:bT k A):A.units+64<cLine:=by have:=r.un;lia
def zi:TA:=fun _ H Q=>Q [] H
def qJ (ta:TE) (tr:TA):TA:=fun σ H Q=>ta σ H fun x H1=>tr σ H1 fun xs H2=>Q (x::xs) H2
section
variable {e:Expr} {es:List Expr} {te:TE} {t:TA} {pos:Pos}
theorem af:PA X [] zi:=fun _ _ _ _ H Q I h=>Calls.spliced_nil ⟨[],H,I,.nil,h⟩
theorem aa (ha:PE X e te) (hr:PA X es t) (hs:starEach (e::es) X.env=(false,eval e X.env)::starEach es X.env:=by rfl):PA X (e::es) (qJ te t):=by
 intro pos pins s σ H Q I h;rw[hs];show wpAny _ _ (spliced ((false,eval e X.env)::backTo pos (starEach es X.env))) _ _ s;refine Calls.spliced_cons (bo (ha pins s σ H _ I h) fun u s1 ⟨x,H1,I1,r1,q1⟩=>?_)
 exact bo (hr pos pins s1 σ H1 _ I1 q1) fun us s2 ⟨xs,H2,I2,r2,q2⟩=>⟨x::xs,H2,I2,.cons r1 r2,q2⟩
def Bu (t:TA):TE:=fun σ H Q=>t σ H fun xs H1=>xs.length<=sizeLine/\∀p,H1 p=none->Q (.ref p) (aL H1 p (.tup xs))
def Bv (t:TA):TE:=fun σ H Q=>t σ H fun xs H1=>xs.length<=sizeLine/\∀p,H1 p=none->Q (.ref p) (aL H1 p (.lst xs))
theorem bM {x1} (h:PA X es t):PE X (.Tuple es x1 pos) (Bu t):=by
 intro pins s σ H Q I hq;refine wpAny_Tuple_spliced (bo (h pos pins s σ H _ I hq) fun us s1 ⟨xs,H1,I1,r,z,q⟩=>⟨by rw[<-r.length];exact z,?_⟩)
 have hf:H1 s1.heap.objs.size=none:=I1.hok.fresh (F5 _);refine ⟨.ref s1.heap.objs.size,aL H1 s1.heap.objs.size (.tup xs),I1.laid (t':=s1.toks) (fun b u e=>Heap.get?_push_of_some _ e) (F5 _) ?_,rfl,q _ hf⟩
 exact ⟨z,us,r,⟨_,Heap.get?_push_size _ rfl,rfl,_,rfl⟩⟩
theorem bw (h:PA X es t):PE X (.List es pos) (Bv t):=by
 intro pins s σ H Q I hq;refine wpAny_List_spliced (bo (h pos pins s σ H _ I hq) fun us s1 ⟨xs,H1,I1,r,z,q⟩=>⟨by rw[<-r.length];exact z,?_⟩)
 have hf:H1 s1.heap.objs.size=none:=I1.hok.fresh (F5 _);refine ⟨.ref s1.heap.objs.size,aL H1 s1.heap.objs.size (.lst xs),I1.laid (t':=s1.toks) (fun b u e=>Heap.get?_push_of_some _ e) (F5 _) ?_,rfl,q _ hf⟩
 exact ⟨z,us,0,r,Heap.get?_push_size _ rfl⟩
end
abbrev Sp:=List V->Hp->VK->XK->Prop
abbrev pL:=List Env->Hp->Shared->XK->Value->Shared->Prop
structure jV (P:Program) (w:World) (K:F0) (mg:JZ) (base:Heap) (A:Around) (outer:List Env) (s:Shared) (H:Hp):Prop where
 frames:A.frames=some outer
 mod:Mod K mg base
 bs:∀b o,base.get? b=some o->s.heap.get? b=some o/\H b=none
 bsz:base.objs.size<=s.heap.objs.size
 funs:s.heap.FunFrames base outer
 frf:∀b∈iX outer,H b=none
 hok:fQ P w H s.heap
 bare:AllBare s.gens
def CE (outer:List Env) (P:Program) (w:World) (H:Hp) (s:Shared) (Q:VK) (u:Value) (s':Shared):Prop:=
 ∃v H',s'.os=s.os/\AllBare s'.gens/\Un (iX outer) [] H H' s.heap s'.heap/\fQ P w H' s'.heap/\RelV v u/\Q v H'
def CR (CX:pL) (outer:List Env) (P:Program) (w:World) (H:Hp) (s:Shared) (Q:VK) (E:XK) (r:Result) (s':Shared):Prop:=
 match r with
 | .ok (.ret u)=>CE outer P w H s Q u s'
 | .ok _=>False
 | .error e=>CX outer H s E e s'
structure aY (P:Program) (w:World) (K:F0) (mg:JZ) (base:Heap) (CX:pL) (k:Nat) (f:Addr) (fd:FuncData) (ps:J4) (sp:Sp):Prop where
 len:∀vs H Q E,sp vs H Q E->vs.length=ps.length
 run:∀(A:Around) (outer:List Env) (s:Shared) (H:Hp) (args:Args) (us:J6) (vs:List V) (Q:VK) (E:XK),bT k A->jV P w K mg base A outer s H->BindsTo s fd args (ps.zip us)->aV vs us->sp vs H Q E->
  codeAny (model P w) A (.call (.ref f) args) (CR CX outer P w H s Q E) s
theorem jV.make {P:Program} {w:World} {K:F0} {mg:JZ} {base:Heap} {A:Around} {outer:List Env} {s:Shared} {H:Hp} (e:jV P w K mg base A outer s H) (C:Addr) (us:J6) (kw:List (Str×Value)):
  jV P w K mg base (A.under (.builtin "type.__call__" ⟨.ref C::us,kw⟩)) outer s H:=⟨by first|exact e.frames|(simpa [Around.under,Code.envs,Code.isFrame,pushEnvs] using e.frames),e.mod,e.bs,e.bsz,e.funs,e.frf,e.hok,e.bare⟩
section
variable {pins:J1} {σ:St} {H:Hp} {s s':Shared}
theorem aJ.env0 (I:aJ X pins σ H s):jV X.prog X.w X.K X.mg X.base X.A X.stack s H:=
 ⟨I.ok.frames,I.ok.mod,I.bs,FH I.ok.bsz I.sz,I.stack,I.stkFree,I.hok,I.bare⟩
theorem aJ.after {Q:VK} {u:Value} (I:aJ X pins σ H s) (h:CE X.stack X.prog X.w H s Q u s'):EP X pins σ Q u s':=by
 obtain ⟨v,H',os,bare,un,hok,r,q⟩:=h;obtain ⟨hh,g,d,t,os'⟩:=s';obtain rfl:os'=s.os:=os;exact ⟨v,H',I.call (h':=hh) (g':=g) (d':=d) (t':=t) (ch:= []) un hok bare (fun b z=>absurd z (by simp)),r,q⟩
end
def kZ (sp:Sp) (dvs:List V) (E:XK) (t:TA):TE:=fun σ H Q=>t σ H fun vs H1=>sp (vs++dvs) H1 Q E
def uj (C:Addr) (sp:Sp) (dvs:List V) (E:XK) (t:TA):TE:=fun σ H Q=>t σ H fun vs H1=>∀x dx,H1 x=none->H1 dx=none->dx≠x->
 sp (.ref x::(vs++dvs)) (aL (aL H1 dx (.own x)) x (.ins C dx [])) (fun v H2=>v= .non/\Q (.ref x) H2) E
def Binds (K:F0) (fd:FuncData) (ps:J4) (ds:J6):Prop:=
 ∀(s:Shared) (us:J6),K.In s.heap->(us++ds).length=ps.length->BindsTo s fd ⟨us,[]⟩ (ps.zip (us++ds))
theorem Binds.all {K:F0} {fd:FuncData} {ps:J4} (h:∀us:J6,us.length=ps.length->bindArgs fd ⟨us,[]⟩=pure (ps.zip us)):Binds K fd ps []:=fun s us _ hl=>by
 rw[Fm] at hl⊢;exact .of_eq (h us hl)
def jW (CX:pL) (X:Cx) (E:XK):Prop:=∀(pins:J1) (σ:St) (H:Hp) (s:Shared) (e:Value) (s':Shared),aJ X pins σ H s->CX X.stack H s E e s'->X.xe e s'
section
variable {CX:pL} {k:Nat} {f C:Addr} {fd:FuncData} {ps:J4} {sp:Sp} {dvs:List V} {ds:J6} {E:XK} {x m:Str} {p pos apos:Pos} {e o:Expr} {es:List Expr} {ta:TE} {t:TA}
theorem uk {pins:J1} {σ:St} {H:Hp} {s:Shared} {Q:VK} {us:J6} {vs:List V} (F:aY X.prog X.w X.K X.mg X.base CX k f fd ps sp) (hr:bT k X.A) (hb:Binds X.K fd ps ds) (hd:aV dvs ds) (hx:jW CX X E)
  (I:aJ X pins σ H s) (r:aV vs us) (h:sp (vs++dvs) H Q E):wpAny (model X.prog X.w) X.A (call (.ref f) us) (EP X pins σ Q) X.xe s:=by
 have r2:aV (vs++dvs) (us++ds):=r.append hd;have hl:(us++ds).length=ps.length:=by rw[<-r2.length];exact F.len _ _ _ _ h
 refine wpAny_call (codeAny_mono (F.run X.A X.stack s H ⟨us,[]⟩ (us++ds) (vs++dvs) Q E hr I.env0 (hb s us I.kIn hl) r2 h) fun r s' hq=>?_)
 cases r with
 |error e=>exact hx pins σ H s e s' I hq
 |ok fl=>
  cases fl with
  |ret u=>exact I.after hq
  |next=>exact False.elim hq
  |brk=>exact False.elim hq
  |cont=>exact False.elim hq
theorem wO (F:aY X.prog X.w X.K X.mg X.base CX k f fd ps sp) (hr:bT k X.A) (hg:Gl X x) (hm:X.mg x=some (.ref f)) (hk:Fl X.K (.ref f)=true) (hb:Binds X.K fd ps ds) (hd:aV dvs ds) (hx:jW CX X E)
  (ha:PA X (e::es) t) (hdb:(x==("__debug__" :Str))=false:=by decide) (he:starEach (e::es) X.env=(false,eval e X.env)::starEach es X.env:=by rfl) (hpl:(backTo pos (starEach es X.env)).any (·.1)=false:=by rfl):
  PE X (.Call (.Name x p) (e::es) [] pos) (kZ sp dvs E t):=by
 intro pins s σ H Q I h;refine wpAny_Call_Name_kw (cV I hg hm ?_ hdb);refine GH (h₀:=X.base) I.ok.mod.kin hk (bo (ha pos pins s σ H _ I h) fun us s1 ⟨vs,H1,I1,r,q⟩=>⟨I1.kIn,?_⟩) he hpl
 exact uk F hr hb hd hx I1 r q
structure Mk (K:F0) (C f:Addr):Prop where
 makes:PySem.W.makesIn K C=true
 init:FR K (.ref C) "__init__" =some (some (.ref f))
 fn:PySem.W.isFn K (.ref f)=true
 kp:Fl K (.ref C)=true
theorem um {pins:J1} {σ:St} {H:Hp} {s:Shared} {Q:VK} {us:J6} {vs:List V} (M:Mk X.K C f) (F:aY X.prog X.w X.K X.mg X.base CX k f fd ps sp) (hr:bT (k+1) X.A) (hb:Binds X.K fd ps ds) (hd:aV dvs ds)
  (hx:jW CX X E) (I:aJ X pins σ H s) (r:aV vs us)
  (h:∀x dx,H x=none->H dx=none->dx≠x->sp (.ref x::(vs++dvs)) (aL (aL H dx (.own x)) x (.ins C dx [])) (fun v H2=>v= .non/\Q (.ref x) H2) E):
  wpAny (model X.prog X.w) X.A (call (.ref C) us) (EP X pins σ Q) X.xe s:=by
 have hq:=h (s.heap.objs.size+1) s.heap.objs.size (I.hok.fresh (Nat.le_succ _)) (I.hok.fresh (F5 _)) (FO (Nat.lt_succ_self _));have I2:=aJ.made (C:=C) I;have r2:aV (V.ref (s.heap.objs.size+1)::(vs++dvs)) (Value.ref (s.heap.objs.size+1)::(us++ds)):= .cons rfl (r.append hd);have hl:(Value.ref (s.heap.objs.size+1)::us++ds).length=ps.length:=by
  have e:=r2.length;rw[F.len _ _ _ _ hq] at e;exact e.symm
 refine wpAny_call (ui (f:=f) I.kIn M.makes M.init (beq_iff_eq.mp M.fn) (codeAny_mono (F.run _ X.stack _ _ ⟨Value.ref (s.heap.objs.size+1)::us,[]⟩ (Value.ref (s.heap.objs.size+1)::(us++ds)) _ _ E (hr.make C us [])
  (I2.env0.make C us []) (hb _ (Value.ref (s.heap.objs.size+1)::us) I2.kIn hl) r2 hq) fun r s' hq'=>?_))
 cases r with
 |error e=>exact hx pins σ _ _ e s' I2 hq'
 |ok fl=>
  cases fl with
  |ret u=>
   obtain ⟨v,H',I3,rv,ev,q3⟩:=I2.after hq';subst ev;exact ⟨rv,⟨V.ref (s.heap.objs.size+1),H',I3,rfl,q3⟩⟩
  |next=>exact False.elim hq'
  |brk=>exact False.elim hq'
  |cont=>exact False.elim hq'
theorem qK (M:Mk X.K C f) (F:aY X.prog X.w X.K X.mg X.base CX k f fd ps sp) (hr:bT (k+1) X.A) (hg:Gl X x) (hm:X.mg x=some (.ref C)) (hb:Binds X.K fd ps ds) (hd:aV dvs ds) (hx:jW CX X E)
  (ha:PA X (e::es) t) (hdb:(x==("__debug__" :Str))=false:=by decide) (he:starEach (e::es) X.env=(false,eval e X.env)::starEach es X.env:=by rfl) (hpl:(backTo pos (starEach es X.env)).any (·.1)=false:=by rfl):
  PE X (.Call (.Name x p) (e::es) [] pos) (uj C sp dvs E t):=by
 intro pins s σ H Q I h;refine wpAny_Call_Name_kw (cV I hg hm ?_ hdb);refine GH (h₀:=X.base) I.ok.mod.kin M.kp (bo (ha pos pins s σ H _ I h) fun us s1 ⟨vs,H1,I1,r,q⟩=>⟨I1.kIn,?_⟩) he hpl
 exact um M F hr hb hd hx I1 r q
end
structure aB (N P:J4) (sc:Scope):Prop where
 kind:sc.kind= .function
 co:sc.isCoroutine=false
 gen:sc.isGenerator=false
 nd:N.Nodup
 pre:N.take P.length=P
 par:∀x∈P,sc.names.lookup x=some .local∨sc.names.lookup x=some .cell
 nofree:∀y∈sc.names,y.2≠ .free
theorem k8 {kindOf:Str->Option NameKind} {x:Str}:∀{binds:List (Str×Value)} {m:JZ},(∀v,(x,v)∉binds)->bindL kindOf binds m x=m x
 | [],_,_=>rfl
 |(n,v)::r,m,h=>by
  unfold bindL;rw[k8 fun w hw=>h w (F8 _ hw)]
  split
  ·have:x≠n:=by rintro rfl;exact h v FW
   simp[this]
  ·rfl
theorem k9 {kindOf:Str->Option NameKind} {x:Str}:∀{binds:List (Str×Value)} {m:JZ},(∀v,(x,v)∉binds)->bindC kindOf binds m x=m x
 | [],_,_=>rfl
 |(n,v)::r,m,h=>by
  unfold bindC;rw[k9 fun w hw=>h w (F8 _ hw)]
  split
  ·rfl
  ·have:x≠n:=by rintro rfl;exact h v FW
   simp[this]
theorem ld {kindOf:Str->Option NameKind} {x:Str} {v:Value}:∀{P:J4} {vs:J6} {i:Nat} {m:JZ},P.Nodup->P[i]?=some x->vs[i]?=some v->kindOf x=some .local->
  bindL kindOf (P.zip vs) m x=some v
 | [],_,_,_,_,h,_,_=>by simp at h
 |_::_,[],_,_,_,_,h,_=>by simp at h
 |p::P,w::vs,0,m,nd,h1,h2,hk=>by
  simp at h1 h2;subst h1;subst h2;show bindL kindOf ((p,w)::P.zip vs) m p=_;unfold bindL;rw[k8 fun v hv=>(G3.mp nd).1 (List.of_mem_zip hv).1,if_pos hk]
  simp
 |p::P,w::vs,i+1,m,nd,h1,h2,hk=>by
  show bindL kindOf ((p,w)::P.zip vs) m x=_;unfold bindL;exact ld (i:=i) (G3.mp nd).2 (by simpa using h1) (by simpa using h2) hk
theorem lh {kindOf:Str->Option NameKind} {x:Str} {v:Value}:∀{P:J4} {vs:J6} {i:Nat} {m:JZ},P.Nodup->P[i]?=some x->vs[i]?=some v->kindOf x≠some .local->
  bindC kindOf (P.zip vs) m x=some v
 | [],_,_,_,_,h,_,_=>by simp at h
 |_::_,[],_,_,_,_,h,_=>by simp at h
 |p::P,w::vs,0,m,nd,h1,h2,hk=>by
  simp at h1 h2;subst h1;subst h2;show bindC kindOf ((p,w)::P.zip vs) m p=_;unfold bindC;rw[k9 fun v hv=>(G3.mp nd).1 (List.of_mem_zip hv).1,if_neg hk]
  simp
 |p::P,w::vs,i+1,m,nd,h1,h2,hk=>by
  show bindC kindOf ((p,w)::P.zip vs) m x=_;unfold bindC;exact lh (i:=i) (G3.mp nd).2 (by simpa using h1) (by simpa using h2) hk
noncomputable def start (N:J4) (vs:List V):St:=vs.map some++List.replicate (N.length-vs.length) none
noncomputable def fO (CX:pL) (P:Program) (w:World) (K:F0) (mg:JZ) (base:Heap) (N:J4) (qual:Str) (scope:Scope) (f:Addr) (cd:Value) (A:Around) (outer:List Env) (s:Shared) (H:Hp) (E:XK):Cx where
 prog:=P
 w:=w
 K:=K
 mg:=mg
 base:=base
 A:=A.deeper (envOfC qual scope s.heap.objs.size f cd)
 N:=N
 s₀:=s
 H₀:=H
 env:=envOfC qual scope s.heap.objs.size f cd
 outer:=outer
 stack:=envOfC qual scope s.heap.objs.size f cd::outer
 ex:= []
 calm:=true
 fn:=fun _=>true
 pn:= []
 xe:=fun e s'=>wpAny (model P w) (A.deeper (envOfC qual scope s.heap.objs.size f cd)) (leaving (envOfC qual scope s.heap.objs.size f cd) e) (fun _ s''=>CX outer H s E e s'') (fun e' s''=>CX outer H s E e' s'') s'
theorem nH {sc:Scope} {n:Nat} {x:Str} (h:sc.names.lookup x=some .cell):∃c,(cellsFrom n sc.names []).lookup x=some c:=by
 have q:=PySem.W.cellsFrom_some sc.names n [] (.inl h);exact Fd.mp q
theorem i6 {CX:pL} {P:Program} {w:World} {K:F0} {mg:JZ} {base:Heap} {N ps:J4} {qual:Str} {scope:Scope} {f:Addr} {cd:Value} {A:Around} {outer:List Env} {s s1:Shared} {H:Hp} {E:XK} {us:J6} {vs:List V}
  (S:aB N ps scope) (hd:A.handled=none) (e0:jV P w K mg base A outer s H) (hl:vs.length=ps.length) (r:aV vs us)
  (x:InCallC s s.heap.objs.size (bindL (envOfC qual scope s.heap.objs.size f cd).kindOf (ps.zip us) fun _=>none) (cellsFrom (s.heap.objs.size+1) scope.names []) (bindC (envOfC qual scope s.heap.objs.size f cd).kindOf (ps.zip us) fun _=>none) s1):
  aJ (fO CX P w K mg base N qual scope f cd A outer s H E) [] (start N vs) H s1:=by
 have hpl:ps.length<=N.length:=by have:=congrArg List.length S.pre;rw[GA] at this;lia
 obtain ⟨h1,tk,rfl,hk⟩:=x.done;have noA:∀b:Addr,b∉(fO CX P w K mg base N qual scope f cd A outer s H E).ex:=fun b z=>absurd (show b∈([]:J5) from z) (by simp)
 refine ⟨⟨e0.mod,S.kind,rfl,rfl,F5 _,fun y z c h1 h2=>?_,fun y hy=>?_,fun y c _ h=>?_,fun _=>hd,Around.frames_deeper e0.frames,.inr ⟨rfl,rfl⟩,fun b z=>absurd z (noA b),e0.bs,e0.bsz,fun b _ _=>noA b,fun b z=>absurd z (noA b),e0.funs,e0.frf⟩,
  rfl,e0.bare,Un.kept hk,⟨_,x.toInCall.ns,fun i y v h1 h2 h3=>?_⟩,fun y c h=>⟨_,x.cell y c h⟩,e0.hok.fresh (F5 _),fun y c h=>?_,fun p hp=>absurd (show p∈([]:J1) from hp) (by simp),e0.hok.kept hk,?_⟩
 ·exact name_of_addr x.apart (Fs h1) (Fs h2)
 ·have hy:scope.names.lookup y=some .cell∨scope.names.lookup y=some .free:=hy;rcases hy with hy|hy
  ·exact nH hy
  ·exact absurd rfl (S.nofree _ (Fs hy))
 ·exact Nat.le_of_lt (x.above y c (Fs h))
 ·have hi:i<vs.length:=by
   unfold start at h2
   by_cases hi:i<vs.length
   ·exact hi
   ·rw[Fu (by simpa using hi)] at h2
    rw[List.getElem?_replicate] at h2
    split at h2<;>cases h2
  have ha:vs[i]?=some v:=by
   unfold start at h2;rw[Fx (by simpa using hi),FG] at h2
   cases e:vs[i]? with
   |none=>rw[e] at h2;cases h2
   |some a=>rw[e] at h2;cases h2;rfl
  obtain ⟨u,hu,rv⟩:=r.get ha;have hp:ps[i]?=some y:=by
   rw[<-S.pre,List.getElem?_take_of_lt (by lia)];exact h1
  have ndP:ps.Nodup:=by rw[<-S.pre];exact S.nd.sublist (List.take_sublist _ _)
  refine ⟨u,rv,?_⟩;rcases S.par y (FB hp) with k|k
  ·exact .inl ⟨k,ld ndP hp hu k⟩
  ·obtain ⟨c,e⟩:=nH (n:=s.heap.objs.size+1) k;refine .inr ⟨.inl k,c,e,?_⟩;have q:=x.cell y c e;rw[lh ndP hp hu (by show scope.names.lookup y≠_;rw[k];decide)] at q
   exact q
 ·exact e0.hok.fresh (Nat.le_of_lt (x.above y c (Fs h)))
 ·unfold start;show _=N.length;rw[Fa,F7,List.length_replicate]
  lia
theorem yt {CX:pL} {P:Program} {w:World} {K:F0} {mg:JZ} {base:Heap} {k:Nat} {f:Addr} {name qual:Str} {params:Arguments} {body:List Stmt} {scope:Scope} {dV kV doc pm cdv ct oc:Value} {an od:J7}
  {osl:J3} {N ps:J4} {sp:Sp} (lk:K.lookup f=some ⟨oc,od,.func (Fn name qual params body scope dV kV doc pm an cdv ct),osl⟩) (hcd:G9 K cdv qual=true) (S:aB N ps scope)
  (len:∀vs H Q E,sp vs H Q E->vs.length=ps.length)
  (hbody:∀(A:Around) (outer:List Env) (s:Shared) (H:Hp) (vs:List V) (Q:VK) (E:XK),bT k (A.deeper (envOfC qual scope s.heap.objs.size f cdv))->sp vs H Q E->
   ∃t,jA (fO CX P w K mg base N qual scope f cdv A outer s H E) body t/\t {nx:=fun _ H'=>Q .non H',rt:=Q} (start N vs) H):
  aY P w K mg base CX (k+1) f (Fn name qual params body scope dV kV doc pm an cdv ct) ps sp:=by
 refine ⟨len,fun A outer s H args us vs Q E hr e0 hb r hsp=>?_⟩
 have hl:=len _ _ _ _ hsp;have KX:K.In s.heap:=e0.mod.kin.keeps fun b o e=>(e0.bs b o e).1
 have lim:s.heap.NoLimit:=e0.mod.nolimit.keeps fun b o e=>(e0.bs b o e).1
 have hkind:∀y∈ps.zip us,scope.names.lookup y.1=some .local∨(scope.names.lookup y.1=some .cell/\((cellsFrom (s.heap.objs.size+1) scope.names []).lookup y.1).isSome=true):=fun ⟨n,v⟩ hy=>by
  rcases S.par n (List.of_mem_zip hy).1 with q|q
  ·exact .inl q
  ·exact .inr ⟨q,PySem.W.cellsFrom_some _ _ _ (.inl q)⟩
 refine codeAny_call_function hr.depth (KX _ _ lk) rfl S.co S.gen rfl (PySem.W.codeRec_of KX hcd) (hb _ _ _ _ ?_);refine wpAny_newFunctionEnv_cells S.kind hkind fun env he s1 x=>?_
 subst he;refine ⟨lim.keeps x.toInCall.keep,codeAny_func ?_⟩;obtain ⟨t,ht,hq⟩:=hbody A outer s H vs Q E (hr.deeper _) hsp;have I:aJ (fO CX P w K mg base N qual scope f cdv A outer s H E) [] (start N vs) H s1:=i6 S hr.hd e0 hl r x;refine wpAny_mono (ht [] s1 (start N vs) H _ I hq) (fun fl s' hs=>?_) fun e s' hs=>hs
 have fin:∀{σ':St} {H':Hp} {v:V} {u:Value},aJ (fO CX P w K mg base N qual scope f cdv A outer s H E) [] σ' H' s'->RelV v u->Q v H'->CE outer P w H s Q u s':=
  fun {σ' H' v u} J rv q=>⟨v,H',J.os,J.bare,J.base,J.hok,rv,q⟩
 cases fl with
 |ret u=>
  obtain ⟨v,σ',H',J,rv,q⟩:=hs;exact fin J rv q
 |next=>
  obtain ⟨σ',H',J,q⟩:=hs;exact fin (v:=V.non) (u:=Value.none) J rfl q
 |brk=>
  obtain ⟨_,_,_,q⟩:=hs;exact False.elim q
 |cont=>
  obtain ⟨_,_,_,q⟩:=hs;exact False.elim q
section
variable {x:Str} {p pos:Pos} {e:Expr} {es:List Expr} {t:TA} {id T:String} {r:List V->Hp->VK->Prop}
def Ex (r:List V->Hp->VK->Prop) (t:TA):TE:=fun σ H Q=>t σ H fun vs H1=>r vs H1 Q
theorem aU (hc:dJ X (.builtin id) r) (hg:Gl X x) (hm:X.mg x=none) (hv:bootBuiltins x=some (.builtin id)) (ha:PA X (e::es) t) (hn:x≠ "__name__" :=by decide) (hdb:(x==("__debug__" :Str))=false:=by decide)
  (he:starEach (e::es) X.env=(false,eval e X.env)::starEach es X.env:=by rfl) (hpl:(backTo pos (starEach es X.env)).any (·.1)=false:=by rfl):PE X (.Call (.Name x p) (e::es) [] pos) (Ex r t):=by
 intro pins s σ H Q I h;refine wpAny_Call_Name_kw (fm I hg hm hv ?_ hn hdb);exact PyProof.Rows.callWith_builtin1 (bo (ha pos pins s σ H _ I h) fun us s1 ⟨vs,H1,I1,r1,q1⟩=>hc pins s1 σ H1 vs us Q I1 r1 q1) he hpl
theorem bx (hc:dJ X (.type T) r) (hg:Gl X x) (hm:X.mg x=none) (hv:bootBuiltins x=some (.type T)) (ha:PA X (e::es) t) (hn:x≠ "__name__" :=by decide) (hdb:(x==("__debug__" :Str))=false:=by decide)
  (he:starEach (e::es) X.env=(false,eval e X.env)::starEach es X.env:=by rfl) (hpl:(backTo pos (starEach es X.env)).any (·.1)=false:=by rfl):PE X (.Call (.Name x p) (e::es) [] pos) (Ex r t):=by
 intro pins s σ H Q I h;refine wpAny_Call_Name_kw (fm I hg hm hv ?_ hn hdb);exact G8 (bo (ha pos pins s σ H _ I h) fun us s1 ⟨vs,H1,I1,r1,q1⟩=>hc pins s1 σ H1 vs us Q I1 r1 q1) he hpl
end
end L2
open Lean in
local macro_rules|`(⟨$xs,*⟩)=>do
 let mut y:Array (TSyntax `term):=#[]
 let mut c:=false
 for x in xs.getElems do
  if x.raw.getId== `ν then
   c:=true
   y:=(y.push (←`(_))).push (←`(rfl))
  else if x.raw.getId== `ω then
   c:=true
   y:=(((y.push (←`(_))).push (←`(_))).push (←`(rfl))).push (←`(rfl))
  else y:=y.push x
 if c then `(⟨$y,*⟩) else Macro.throwUnsupported
local macro_rules|`($a<*>$b)=>`(@L2.aa _ _ _ _ _ $a $b rfl)
set_option hygiene false in
local macro_rules|`(tactic|and_intros)=>`(tactic|refine F.ok sc (fun vs H Q E h=>?_) (fun cdv A outer s H vs Q E hr h=>?_))
namespace HT
open PySem PyProof.Rows
section
variable {prog:Program} {w:World} {A:Around} {E:JY} {s:Shared}
noncomputable def du (n d:Nat):Option Int->Nat
 |none=>d
 |some v=>if v<0 then (v+(n:Int)).toNat else min v.toNat n
end
end HT
namespace L2
open PySem PySem.Spec PyProof.Rows
abbrev TO:=St->Hp->(Option Int->Hp->Prop)->Prop
def PO (X:Cx) (e:Option Expr) (t:TO):Prop:=
 ∀(pins:J1) (s:Shared) (σ:St) (H:Hp) (Q:Option Int->Hp->Prop),aJ X pins σ H s->t σ H Q->
  wpAny (model X.prog X.w) X.A (evalPart e X.env) (fun u s'=>∃o H',aJ X pins σ H' s'/\IsPart u o/\Q o H') X.xe s
def wP:TO:=fun _ H Q=>Q none H
def Bw (t:TE):TO:=fun σ H Q=>t σ H fun x H1=>∃i,x= .int i/\Q (some i) H1
section
variable {X:Cx} {e:Expr} {te:TE} {lo hi:Option Expr} {tl th:TO} {pos p2:Pos}
theorem gD:PO X none wP:=by
 intro pins s σ H Q I h;rw[evalPart_none];exact wpAny_pure ⟨none,H,I,.none,h⟩
theorem eH (h:PE X e te):PO X (some e) (Bw te):=by
 intro pins s σ H Q I hw;rw[evalPart_some];refine bo (h pins s σ H _ I hw) fun u s1 ⟨x,H1,I1,r1,q1⟩=>?_
 obtain ⟨i,rfl,q⟩:=q1;obtain ⟨t,rfl⟩:=r1;exact ⟨some i,H1,I1,.int i t,q⟩
def Ey (X:Cx) (r:V->Option Int->Option Int->Hp->VK->Prop):Prop:=
 ∀(pins:J1) (s:Shared) (σ:St) (H:Hp) (x:V) (v vl vu:Value) (lo hi:Option Int) (sl:Addr) (Q:VK),aJ X pins σ H s->RelV x v->s.heap.IsSliceOf sl vl vu .none->IsPart vl lo->IsPart vu hi->r x lo hi H Q->
  ∃T id,typeLookup (.type T) "__getitem__" =pure (some (.builtin id))/\s.TypeIs v T/\wpAny (model X.prog X.w) X.A (getItem v (.ref sl)) (EP X pins σ Q) X.xe s
def EU (r:V->Option Int->Option Int->Hp->VK->Prop) (te:TE) (tl th:TO):TE:=fun σ H Q=>te σ H fun x H1=>tl σ H1 fun l H2=>th σ H2 fun u H3=>r x l u H3 Q
theorem fT {r:V->Option Int->Option Int->Hp->VK->Prop} (hr:Ey X r) (he:PE X e te) (hl:PO X lo tl) (hu:PO X hi th):PE X (.Subscript e (.Slice lo hi none p2) pos) (EU r te tl th):=by
 intro pins s σ H Q I h;refine Subscript_ (bo (he pins s σ H _ I h) fun v s1 ⟨x,H1,I1,r1,q1⟩=>?_)
 refine wpAny_Slice (bo (hl pins s1 σ H1 _ I1 q1) fun vl s2 ⟨l,H2,I2,pl,q2⟩=>bo (hu pins s2 σ H2 _ I2 q2) fun vu s3 ⟨u,H3,I3,pu,q3⟩=>?_)
 rw[evalPart_none];refine wpAny_pure ?_;have I4:aJ X pins σ H3 {s3 with heap:=s3.heap.push {cls:= .type "slice",data:= .fields #[vl,vu,.none]}}:=I3.kept (t':=s3.toks) fun b ob q=>Heap.get?_push_of_some _ q
 obtain ⟨T,id,hT,ht,hg⟩:=hr pins {s3 with heap:=s3.heap.push {cls:= .type "slice",data:= .fields #[vl,vu,.none]}} σ H3 x v vl vu l u s3.heap.objs.size Q I4 r1 (Heap.IsSliceOf.new ..) pl pu q3
 show wpAny (model X.prog X.w) X.A (subscriptTail e (.Slice lo hi none p2) v (.ref s3.heap.objs.size)) (EP X pins σ Q) X.xe {s3 with heap:=s3.heap.push {cls:= .type "slice",data:= .fields #[vl,vu,.none]}}
 exact tail_any (ops:= [.ref s3.heap.objs.size,v]) ht hT hg (by with_unfolding_all rfl)
noncomputable def dQ (xs:List V) (lo hi:Option Int):List V:=(xs.drop (HT.du xs.length 0 lo)).take (HT.du xs.length xs.length hi-HT.du xs.length 0 lo)
theorem nI (xs:List V) (lo hi:Option Int):(dQ xs lo hi).length<=xs.length:=by
 unfold dQ;rw[GA,G6]
 lia
end
noncomputable def A5 (n:Nat) (i:Int):Option Nat:=if 0<=i then (if i<n then some i.toNat else none) else if-(n:Int)<=i then some (i+n).toNat else none
noncomputable def kH {α:Type} (xs:List α) (i:Int):Option α:=(A5 xs.length i).bind fun j=>xs[j]?
theorem wQ {n:Nat} {i:Int} {j:Nat} (h:A5 n i=some j):seqIndex? i n=some j/\j<n/\ -(n:Int)<=i/\i<n:=by
 unfold A5 at h
 by_cases h0:0<=i
 ·rw[if_pos h0] at h
  by_cases h1:i<n
  ·rw[if_pos h1] at h;have e:i.toNat=j:=FT h;exact ⟨by rw[seqIndex_of h0 h1,e],by lia,by lia,h1⟩
  ·rw[if_neg h1] at h;cases h
 ·rw[if_neg h0] at h
  by_cases h1: -(n:Int)<=i
  ·rw[if_pos h1] at h;have e:(i+n).toNat=j:=FT h;exact ⟨by rw[seqIndex_neg (by lia) h1,e],by lia,h1,by lia⟩
  ·rw[if_neg h1] at h;cases h
theorem jD {α:Type} {xs:List α} {i:Int} {v:α} (h:kH xs i=some v):∃j,seqIndex? i xs.length=some j/\xs[j]?=some v/\j<xs.length/\ -(xs.length:Int)<=i/\i<xs.length:=by
 unfold kH at h;cases e:A5 xs.length i with
 |none=>rw[e] at h;cases h
 |some j=>
  rw[e] at h;obtain ⟨h1,h2,h3,h4⟩:=wQ e;exact ⟨j,h1,h,h2,h3,h4⟩
theorem aG {α:Type} {xs:List α} {j:Nat} {v:α} (h:xs[j]?=some v):kH xs (j:Int)=some v:=by
 have hj:j<xs.length:=(FL.mp h).1;have e:A5 xs.length (j:Int)=some j:=by
  unfold A5;rw[if_pos (by lia),if_pos (by lia)];simp
 unfold kH;rw[e];exact h
def qL (b:Expr):Prop:=∀o i,subscripted b false o i=operate [o,i] (getItem o i)
def A6 (X:Cx) (r:R2):Prop:=
 ∀(value slice:Expr) (pins:J1) (s:Shared) (σ:St) (H:Hp) (x y:V) (v u:Value) (Q:VK),aJ X pins σ H s->RelV x v->RelV y u->r x y H Q->
  subscripted slice false v u=operate [v,u] (getItem v u)->wpAny (model X.prog X.w) X.A (subscriptTail value slice v u) (EP X pins σ Q) X.xe s
def yu (X:Cx) (id:String) (r:V->List V->Hp->VK->Prop):Prop:=
 ∀(pins:J1) (s:Shared) (σ:St) (H:Hp) (x:V) (xs:List V) (v:Value) (us:J6) (Q:VK),aJ X pins σ H s->RelV x v->aV xs us->r x xs H Q->
  wpAny (model X.prog X.w) X.A (call (.builtin id) (v::us)) (EP X pins σ Q) X.xe s
section
variable {X:Cx} {a b:Expr} {ta tb:TE} {pos:Pos}
theorem av {r:R2} (hr:A6 X r) (ha:PE X a ta) (hb:PE X b tb) (hs:qL b):PE X (.Subscript a b pos) (yr r ta tb):=by
 intro pins s σ H Q I h;exact Subscript_ (zh ha hb I h fun v u s2 x y H2 I2 rx ry q=>hr a b pins s2 σ H2 x y v u Q I2 rx ry q (hs _ _))
def uo (K:F0):R2:=fun x y H Q=>∃p xs i v,x= .ref p/\y= .int i/\aI K H p xs/\kH xs i=some v/\Q v H
def By (K:F0):R2:=fun x y H Q=>∃p xs i v,x= .ref p/\y= .int i/\cM K H p xs/\kH xs i=some v/\Q v H
def Du:R2:=fun x y H Q=>∃z i c,x= .str z/\y= .int i/\z.length<=sizeLine/\kH z.cps.toList i=some c/\Q (.str ⟨#[c]⟩) H
theorem ak:A6 X (uo X.K):=by
 intro value slice pins s σ H x y v u Q I rx ry h hs;obtain ⟨p,xs,i,z,rfl,rfl,hq,he,q⟩:=h;cases rx;obtain ⟨t,rfl⟩:=ry;obtain ⟨its,r,pl,hz⟩:=I.list hq;obtain ⟨j,h1,h2,h3,h4,h5⟩:=jD he;obtain ⟨w,ew,rw'⟩:=r.get h2;have hl:=r.length;have hn:=i3;have fin:EP X pins σ Q w s:=⟨z,H,I,rw',q⟩
 by_cases h0:0<=i
 ·have hj:i.toNat=j:=by
   rw[seqIndex_of h0 h5] at h1;exact FT h1
  exact item_listR pl.isList h0 (by lia) (by rw[hj];simpa using ew) fin hs
 ·have hj:(i+(its.toArray.size:Int)).toNat=j:=by
   rw[seqIndex_neg (by lia) h4] at h1
   rw[FX,<-hl];exact FT h1
  exact subscriptTail_builtinR (x:=w) pl.isList.typeIs slot_list_getitem.lookup
   (wpAny_getItem_list_neg (Q:=fun r s'=>r=w/\EP X pins σ Q r s') pl.isList (by lia) (by rw[FX]<;>lia) (by lia) (by rw[hj];simpa using ew) ⟨rfl,fin⟩) hs
theorem bN:A6 X (By X.K):=by
 intro value slice pins s σ H x y v u Q I rx ry h hs;obtain ⟨p,xs,i,z,rfl,rfl,hq,he,q⟩:=h;cases rx;obtain ⟨t,rfl⟩:=ry;obtain ⟨its,r,pl,hz⟩:=I.tuple hq;obtain ⟨j,h1,h2,h3,h4,h5⟩:=jD he;obtain ⟨w,ew,rw'⟩:=r.get h2;have hl:=r.length;have hn:=i3;have fin:EP X pins σ Q w s:=⟨z,H,I,rw',q⟩;exact subscriptTail_builtinR (x:=w) pl.typeIs slot_tuple_getitem.lookup
  (getItem_tuple (j:=j) (Q:=fun r s'=>r=w/\EP X pins σ Q r s') pl (by lia) (by lia) (by rw[FX,<-hl];exact h1) (by simpa using ew) ⟨rfl,fin⟩) hs
theorem uq:A6 X Du:=by
 intro value slice pins s σ H x y v u Q I rx ry h hs;obtain ⟨z,i,c,rfl,rfl,hz,he,q⟩:=h;obtain ⟨t,rfl⟩:=rx;obtain ⟨t',rfl⟩:=ry;obtain ⟨j,h1,h2,h3,h4,h5⟩:=jD he;have hl:z.cps.toList.length=z.length:=by simp[Str.length]
 rw[hl] at h1 h4 h5;have hn:=i3;exact tail_any (typeIs_str s z t) slot_str_getitem.lookup (getItem_str (c:=c) (by
  have e1:decide (i< -(2^63:Int))=false:=decide_eq_false (by lia)
  have e2:decide (i≥2^63)=false:=decide_eq_false (by lia)
  rw[e1,e2,Bool.or_false]) (by rw[h1];simpa using h2) ⟨.str ⟨#[c]⟩,H,I.tok _,⟨_,rfl⟩,q⟩) hs
theorem mi (lo hi:Option Int) (n:Nat):(sliceBounds lo hi none n).1=((HT.du n 0 lo:Nat):Int)/\(sliceBounds lo hi none n).2.1=((HT.du n n hi:Nat):Int)/\(sliceBounds lo hi none n).2.2=1:=by
 refine ⟨?_,?_,rfl⟩
 ·cases lo with
  |none=>simp[sliceBounds,HT.du]
  |some i=>
   simp only[sliceBounds,HT.du,Option.getD_none,show (1:Int)>0 by decide,if_true]
   by_cases h:i<0
   ·simp only[h,if_true]<;>lia
   ·simp only[h,if_false]<;>lia
 ·cases hi with
  |none=>simp[sliceBounds,HT.du]
  |some i=>
   simp only[sliceBounds,HT.du,Option.getD_none,show (1:Int)>0 by decide,if_true]
   by_cases h:i<0
   ·simp only[h,if_true]<;>lia
   ·simp only[h,if_false]<;>lia
theorem kJ (its:J6) (lo hi:Option Int):slicePick its.toArray lo hi none=((its.drop (HT.du its.length 0 lo)).take (HT.du its.length its.length hi-HT.du its.length 0 lo)).toArray:=by
 obtain ⟨h1,h2,h3⟩:=mi lo hi its.toArray.size;unfold slicePick;rw[h1,h2,h3];simp only[sliceRange_one,pick_run,FX]<;>rfl
def Dv (K:F0):V->Option Int->Option Int->Hp->VK->Prop:=fun x lo hi H Q=>∃a xs,x= .ref a/\aI K H a xs/\∀p,H p=none->Q (.ref p) (aL H p (.lst (dQ xs lo hi)))
theorem ix:Ey X (Dv X.K):=by
 intro pins s σ H x v vl vu lo hi sl Q I rx hs pl pu h;obtain ⟨a,xs,rfl,hx,q⟩:=h;cases rx;obtain ⟨its,r,ht,hz⟩:=I.list hx;have hlen:=r.length;refine ⟨"list",_,slot_list_getitem.lookup,ht.isList.typeIs,?_⟩;refine wpAny_getItem_list_slice ht.isList hs pl pu .none (by simp) ?_ (by rw[FX]<;>lia)
 rw[kJ,<-hlen];refine ⟨.ref s.heap.objs.size,_,I.laid (t':=s.toks) (o:= .lst (dQ xs lo hi)) (fun b ob q=>Heap.get?_push_of_some _ q) (F5 _) ?_,rfl,q _ (I.hok.fresh (F5 _))⟩
 exact ⟨FH (nI xs lo hi) hz,_,0,(r.drop (HT.du xs.length 0 lo)).take (HT.du xs.length xs.length hi-HT.du xs.length 0 lo),Heap.get?_push_size _ rfl⟩
noncomputable def iy:V->Bool
 | .non=>true
 | .bl _=>true
 | .int _=>true
 | .str _=>true
 |_=>false
noncomputable def wR:V->V->Bool
 | .non,.non=>true
 | .bl a,.bl b=>a==b
 | .bl a,.int b=>(if a then 1 else 0)==b
 | .int a,.bl b=>a==(if b then 1 else 0)
 | .int a,.int b=>a==b
 | .str a,.str b=>a==b
 |_,_=>false
theorem zj {A:Around} {s:Shared} {y x:V} {u v:Value} (ry:RelV y u) (rx:RelV x v) (fy:iy y=true) (fx:iy x=true):SeqAt.EqAt A s u v (wR y x):=by
 cases y with
 |non=>
  cases ry;cases x with
  |non=>cases rx;exact SeqAt.EqAt.same _
  |bl b=>cases rx;exact SeqAt.EqAt.none_bool b
  |int b=>obtain ⟨t,rfl⟩:=rx;exact SeqAt.EqAt.none_int b t
  |str b=>obtain ⟨t,rfl⟩:=rx;exact SeqAt.EqAt.none_str b t
  |_=>exact absurd (show false=true from fx) FJ
 |bl a=>
  cases ry;cases x with
  |non=>cases rx;exact SeqAt.EqAt.bool_none a
  |bl b=>cases rx;exact SeqAt.EqAt.bool_bool a b
  |int b=>obtain ⟨t,rfl⟩:=rx;exact SeqAt.EqAt.bool_int a b t
  |str b=>obtain ⟨t,rfl⟩:=rx;exact SeqAt.EqAt.bool_str a b t
  |_=>exact absurd (show false=true from fx) FJ
 |int a=>
  obtain ⟨t',rfl⟩:=ry;cases x with
  |non=>cases rx;exact SeqAt.EqAt.int_none a t'
  |bl b=>cases rx;exact SeqAt.EqAt.int_bool a t' b
  |int b=>obtain ⟨t,rfl⟩:=rx;exact SeqAt.EqAt.int_int a t' b t
  |str b=>obtain ⟨t,rfl⟩:=rx;exact SeqAt.EqAt.int_str a t' b t
  |_=>exact absurd (show false=true from fx) FJ
 |str a=>
  obtain ⟨t',rfl⟩:=ry;cases x with
  |non=>cases rx;exact SeqAt.EqAt.str_none a t'
  |bl b=>cases rx;exact SeqAt.EqAt.str_bool a t' b
  |int b=>obtain ⟨t,rfl⟩:=rx;exact SeqAt.EqAt.str_int a t' b t
  |str b=>obtain ⟨t,rfl⟩:=rx;exact SeqAt.EqAt.str_str a t' b t
  |_=>exact absurd (show false=true from fx) FJ
 |_=>exact absurd (show false=true from fy) FJ
noncomputable def wS (x:V) (u:Value):Bool:=match u with
 | .none=>wR .non x
 | .bool b=>wR (.bl b) x
 | .int i _=>wR (.int i) x
 | .str z _=>wR (.str z) x
 |_=>false
theorem ur {x y:V} {u:Value} (r:RelV y u) (f:iy y=true):wS x u=wR y x:=by
 cases y with
 |non=>cases r;rfl
 |bl b=>cases r;rfl
 |int i=>obtain ⟨t,rfl⟩:=r;rfl
 |str z=>obtain ⟨t,rfl⟩:=r;rfl
 |_=>exact absurd (show false=true from f) FJ
theorem mm {x:V}:∀{xs:List V} {us:J6},aV xs us->xs.all iy=true->us.any (wS x)=xs.any fun y=>wR y x
 |_,_,.nil,_=>rfl
 |y::xs,u::us,.cons r t,f=>by
  rw[List.all_cons,GN] at f;rw[List.any_cons,List.any_cons,ur r f.1,mm t f.2]
theorem jX {A:Around} {s:Shared} {x:V} {v:Value} (rx:RelV x v) (fx:iy x=true):∀{xs:List V} {us:J6},aV xs us->xs.all iy=true->∀u∈us,SeqAt.EqAt A s u v (wS x u)
 |_,_,.nil,_=>fun u hu=>by cases hu
 |y::xs,u::us,.cons r t,f=>fun u' hu=>by
  rw[List.all_cons,GN] at f;rcases F4.mp hu with rfl|hu
  ·rw[ur r f.1];exact zj r rx f.1 fx
  ·exact jX rx fx t f.2 u' hu
noncomputable def A7 (x:V) (xs:List V):Bool:=xs.any fun y=>wR y x
def EV (K:F0) (neg:Bool):R2:=fun x y H Q=>∃p xs,y= .ref p/\(aI K H p xs∨cM K H p xs)/\iy x=true/\xs.all iy=true/\Q (.bl (if neg then !A7 x xs else A7 x xs)) H
theorem dZ:i0 X (compareOp .In) (EV X.K false):=by
 intro pins s σ H x y v u Q I rx ry h;obtain ⟨p,xs,rfl,hq,fx,fs,q⟩:=h;cases ry;rcases hq with hq|hq
 ·obtain ⟨its,r,pl,hz⟩:=I.list hq;refine SeqAt.in_listAt (wS x) pl.isList (fun w hw=>jX rx fx r fs w (by simpa using hw)) ⟨.bl _,H,I,rfl,?_⟩
  rw[show its.toArray.any (wS x)=its.any (wS x) by simp,mm r fs]
  exact q
 ·obtain ⟨its,r,pl,hz⟩:=I.tuple hq;refine SeqAt.in_tupleAt (wS x) pl (fun w hw=>jX rx fx r fs w (by simpa using hw)) ⟨.bl _,H,I,rfl,?_⟩
  rw[show its.toArray.any (wS x)=its.any (wS x) by simp,mm r fs]
  exact q
theorem dR:i0 X (compareOp .NotIn) (fun x y H Q=>∃i j,x= .str i/\y= .str j/\Q (.bl (!(!(Builtin.Str.occurrences j i 0 j.length 1).isEmpty))) H):=by
 intro pins s σ H x y v u Q I rx ry h;obtain ⟨i,j,rfl,rfl,q⟩:=h;obtain ⟨t,rfl⟩:=rx;obtain ⟨t',rfl⟩:=ry;exact notIn_str ⟨.bl _,H,I,rfl,q⟩
theorem cB:dJ X (.builtin "len") (fun xs H Q=>∃p ys,xs= [.ref p]/\(aI X.K H p ys∨cM X.K H p ys)/\Q (.int ys.length) H):=by
 intro pins s σ H xs us Q I r h;obtain ⟨p,ys,rfl,hq,q⟩:=h;obtain ⟨u,rfl,rx⟩:=vals1 r;cases rx;have hn:=i3;rcases hq with hq|hq
 ·obtain ⟨its,r',pl,hz⟩:=I.list hq;have hlen:=r'.length;exact Calls.call_len_list pl.isList (by simp only[FX]<;>lia) ⟨.int ys.length,H,I.tok _,⟨s.toks+1,by rw[FX,hlen]⟩,q⟩
 ·obtain ⟨its,r',pl,hz⟩:=I.tuple hq;have hlen:=r'.length;exact len_tuple pl (by simp only[FX]<;>lia) ⟨.int ys.length,H,I.tok _,⟨s.toks+1,by rw[FX,hlen]⟩,q⟩
theorem dS:dJ X (.builtin "len") (fun xs H Q=>∃z,xs= [.str z]/\z.length<=sizeLine/\Q (.int z.length) H):=by
 intro pins s σ H xs us Q I r h;obtain ⟨z,rfl,hz,q⟩:=h;obtain ⟨u,rfl,t,rfl⟩:=vals1 r;have hn:=i3;exact len_str (by lia) ⟨.int z.length,H,I.tok _,⟨ν⟩,q⟩
theorem cD:dJ X (.type "list") (fun xs H Q=>∃p ys,xs= [.ref p]/\(aI X.K H p ys∨cM X.K H p ys)/\∀l,H l=none->Q (.ref l) (aL H l (.lst ys))):=by
 intro pins s σ H xs us Q I r h;obtain ⟨p,ys,rfl,hq,q⟩:=h;obtain ⟨u,rfl,rx⟩:=vals1 r;cases rx;have fin:∀(its:J6),aV ys its->ys.length<=sizeLine->∀(h':Heap) (c':Nat),(∀b o',s.heap.get? b=some o'->h'.get? b=some o')->
   h'.get? s.heap.objs.size=some {cls:= .type "list",dict:=none,data:= .seq its.toArray c',slots:= #[]}->EP X pins σ Q (.ref s.heap.objs.size) {s with heap:=h'}:=fun its r' hz h' c' kp e=>
  ⟨.ref s.heap.objs.size,_,I.laid (t':=s.toks) kp (F5 _) (show bJ X.prog X.w _ h' _ (.lst ys) from ⟨hz,its,c',r',e⟩),rfl,q _ (I.hok.fresh (F5 _))⟩
 rcases hq with hq|hq
 ·obtain ⟨its,r',pl,hz⟩:=I.list hq;have hlen:=r'.length;obtain ⟨o,ho,hc,n,hd⟩:=pl.isList;exact call_list_seq p (.inl rfl) ho hc hd (fun h' c' kp e=>fin its r' hz h' c' kp e) (by simp only[FX]<;>lia)
 ·obtain ⟨its,r',pl,hz⟩:=I.tuple hq;have hlen:=r'.length;obtain ⟨o,ho,hc,n,hd⟩:=pl;exact call_list_seq p (.inr rfl) ho hc hd (fun h' c' kp e=>fin its r' hz h' c' kp e) (by simp only[FX]<;>lia)
def C8 (K:F0) (T:String) (x:V) (H:Hp):Prop:=match x with
 | .str _=>T= "str"
 | .int _=>T= "int"
 | .ref p=>(T= "list" /\∃xs,aI K H p xs)∨(T= "tuple" /\∃o,K.lookup p=some o/\o.cls= .type "tuple" /\o.dict=none)∨
   (T= "dict" /\((∃kvs,H p=some (.dK kvs))∨∃kvs,H p=some (.dT kvs)))∨(T= "set" /\∃S n,H p=some (.set S n))
 |_=>False
theorem pM {pins:J1} {σ:St} {H:Hp} {s:Shared} {T:String} {x:V} {v:Value} (I:aJ X pins σ H s) (r:RelV x v) (ty:C8 X.K T x H):
  s.TypeIs v T/\∀a,v= .ref a->∃ob,s.heap.get? a=some ob/\ob.dict=none:=by
 cases x with
 |str z=>
  obtain ⟨t,rfl⟩:=r;cases (show T= "str" from ty)
  exact ⟨typeIs_str s z t,fun _ e=>nomatch e⟩
 |int i=>
  obtain ⟨t,rfl⟩:=r;cases (show T= "int" from ty)
  exact ⟨typeIs_int s i t,fun _ e=>nomatch e⟩
 |ref p=>
  cases r;rcases ty with ⟨rfl,xs,hq⟩|⟨rfl,o,hk,hc,hd⟩|⟨rfl,hk⟩|⟨rfl,S,n,hk⟩
  ·obtain ⟨its,_,pl,_⟩:=I.list hq;refine ⟨pl.isList.typeIs,fun a e=>?_⟩
   cases e;obtain ⟨o,n,e,c,hd,_⟩:=pl;exact ⟨o,e,hd⟩
  ·refine ⟨⟨o,I.kIn p o hk,hc⟩,fun a e=>?_⟩
   cases e;exact ⟨o,I.kIn _ o hk,hd⟩
  ·have z:∃o,s.heap.get? p=some o/\o.ExactDict:=by
    rcases hk with ⟨kvs,hk⟩|⟨kvs,hk⟩
    ·obtain ⟨_,_,_,_,o,_,_,e,ex,_⟩:=I.hok p _ hk;exact ⟨o,e,ex⟩
    ·obtain ⟨_,_,_,_,o,_,_,e,ex,_⟩:=I.hok p _ hk;exact ⟨o,e,ex⟩
   obtain ⟨o,e,ex⟩:=z;refine ⟨⟨o,e,ex.1⟩,fun a e2=>?_⟩
   cases e2;exact ⟨o,e,ex.2.1⟩
  ·obtain ⟨o,_,_,_,e,ex,_⟩:=I.hok p _ hk;refine ⟨⟨o,e,ex.1⟩,fun a e2=>?_⟩
   cases e2;exact ⟨o,e,ex.2.1⟩
 |_=>exact False.elim ty
def Ez (K:F0) (T:String) (r:V->List V->Hp->VK->Prop) (to:TE) (t:TA):TE:=fun σ H Q=>to σ H fun x H1=>C8 K T x H1/\t σ H1 fun xs H2=>r x xs H2 Q
variable {o e:Expr} {es:List Expr} {to:TE} {t:TA} {name:Str} {apos cpos:Pos} {T id:String} {r:V->List V->Hp->VK->Prop}
theorem cZ (pa:PlainAttrs T) (slot:Slot T name id) (hty:typeOf (.builtin id)=pure (.type "method_descriptor")) (hm:yu X id r) (ho:PE X o to) (ha:PA X (e::es) t)
  (hbase:attributeBase o name X.env (eval o X.env)=eval o X.env:=by rfl)
  (hfew:((backTo cpos (starEach (e::es) X.env)).all (fun x=> !x.1)&&(backToKw cpos (keywordEach [] X.env)).all (fun x=>x.1.isSome)
   &&decide ((e::es).length+([]:List Keyword).length+(if ([]:List Keyword).isEmpty then 0 else 1)<30))=true:=by rfl)
  (hline:(apos.endLine==cpos.line)=true:=by rfl) (hs:starEach (e::es) X.env=(false,eval e X.env)::starEach es X.env:=by rfl) (hplain:(backTo cpos (starEach es X.env)).any (·.1)=false:=by rfl):
  PE X (.Call (.Attribute o name apos) (e::es) [] cpos) (Ez X.K T r to t):=by
 intro pins s σ H Q I h;refine wpAny_Call_method_late hbase hfew hline rfl (bo (ho pins s σ H _ I h) fun v s1 ⟨x,H1,I1,r1,ty,q1⟩=>?_)
 obtain ⟨h1,h2⟩:=pM I1 r1 ty;refine ⟨T,id,pa,slot,hty,h1,h2,?_⟩;have hA:=ha cpos pins s1 σ H1 _ I1 q1;rw[hs] at hA⊢;refine Calls.callWith_builtin (by show (false||(backTo cpos (starEach es X.env)).any (·.1))=false;rw[hplain]<;>rfl) (Calls.evalArgs_plain ?_)
 exact bo hA fun us s2 ⟨vs,H2,I2,r2,q2⟩=>hm pins s2 σ H2 x vs v us Q I2 r1 r2 q2
end
def EW (X:Cx) (id:String) (r:V->List V->Hp->VK->Prop):Prop:=
 ∀(pins:J1) (s:Shared) (σ:St) (H:Hp) (x:V) (xs:List V) (v:Value) (us:J6) (Q:VK),aJ X pins σ H s->RelV x v->aV xs us->r x xs H Q->
  wpAny (model X.prog X.w) X.A (call (.builtin id) (v::us)) (EP X pins σ Q) X.xe s
theorem aV.one:∀{x:V} {us:J6},aV [x] us->∃u,us= [u]/\RelV x u
 |_,_,.cons r .nil=>⟨_,rfl,r⟩
section
variable {X:Cx} {pins:J1} {σ:St} {H:Hp} {s:Shared} {l b:Addr} {xs ys zs:List V}
theorem aJ.lset {its its':J6} {n:Nat} {f:Array Value->Array Value} {t':Nat} (I:aJ X pins σ H s) (hH:H l=some (.lst xs))
  (e:s.heap.get? l=some {cls:= .type "list",data:= .seq its.toArray n}) (hf:f its.toArray=its'.toArray) (hv:aV ys its') (hz:ys.length<=sizeLine):
  aJ X pins σ (aL H l (.lst ys)) {s with heap:=s.heap.update l (Obj.mapSeq f),toks:=t'}:=by
 have q:=PySem.IsL.update e f;rw[hf] at q;refine I.write (x:=l) (e:=l) (by rw[hH];exact trivial) (.inl rfl) (fun b' u hb hu=>(Heap.get?_update_other s.heap (Obj.mapSeq f) (Ne.symm hb)).trans hu) ⟨_,q⟩ ?_
 exact ⟨hz,its',_,hv,q⟩
theorem aJ.lnew {its:J6} {t':Nat} (I:aJ X pins σ H s) (hv:aV ys its) (hz:ys.length<=sizeLine):
  aJ X pins σ (aL H s.heap.objs.size (.lst ys)) {s with heap:=s.heap.push {cls:= .type "list",data:= .seq its.toArray},toks:=t'}:=
 I.laid (fun _ _ q=>Heap.get?_push_of_some _ q) (F5 _) ⟨hz,its,0,hv,Heap.get?_push_size _ rfl⟩
theorem aJ.fresh (I:aJ X pins σ H s):H s.heap.objs.size=none:=I.hok.fresh (F5 _)
theorem aJ.lstM (I:aJ X pins σ H s) (hH:H l=some (.lst xs)):xs.length<=sizeLine/\∃(its:J6) (n:Nat),aV xs its/\xs.length=its.length/\s.heap.get? l=some {cls:= .type "list",data:= .seq its.toArray n}:=by
 obtain ⟨z,its,n,r,e⟩:=I.hok l _ hH;exact ⟨z,its,n,r,r.length,e⟩
end
variable {X:Cx}
def wT:V->List V->Hp->VK->Prop:=fun x vs H Q=>∃l xs y,x= .ref l/\vs= [y]/\H l=some (.lst xs)/\xs.length<sizeLine/\Q .non (aL H l (.lst (xs++ [y])))
theorem bG:EW X "list.append" wT:=by
 intro pins s σ H x vs v us Q I rx rv h;obtain ⟨l,xs,y,rfl,rfl,hH,hz,q⟩:=h;cases rx;obtain ⟨u,rfl,ru⟩:=rv.one;obtain ⟨z,its,n,r,hl,e⟩:=I.lstM hH;refine call_meets F.slot_list_append ⟨_,e,rfl⟩ F.entry_list_append (F.args_list_append_2 _ _) (PySem.list_append l its.toArray n u (by rw[FX];lia)) ⟨e,?_⟩
 refine ⟨.non,_,I.lset (its':=its++ [u]) hH e (by simp) (r.append (.cons ru .nil)) ?_,rfl,q⟩
 rw[Fa,List.length_singleton]
 lia
def Dw:R2:=fun x y H Q=>∃l b xs zs,x= .ref l/\y= .ref b/\H l=some (.lst xs)/\H b=some (.lst zs)/\xs.length+zs.length<=sizeLine/\∀p,H p=none->Q (.ref p) (aL H p (.lst (xs++zs)))
theorem fu:i0 X (binaryOp .Add) Dw:=by
 intro pins s σ H x y v u Q I rx ry h;obtain ⟨l,b,xs,zs,rfl,rfl,hH,hB,hz,q⟩:=h;cases rx;cases ry;obtain ⟨z,its,n,r,hl,e⟩:=I.lstM hH;obtain ⟨z2,its2,n2,r2,hl2,e2⟩:=I.lstM hB;refine PySem.P.add_list e e2 ?_ (by rw[FX,FX];lia)
 have ea:its.toArray++its2.toArray=(its++its2).toArray:=by simp
 rw[ea];exact ⟨.ref _,_,I.lnew (t':=s.toks) (r.append r2) (by rw[Fa];lia),rfl,q _ I.fresh⟩
theorem qM {P:Program} {w:World} {k:Key} {u:Value} (r:RelV (kV k) u):(dO P w).is k u=true:=by
 cases k with
 |inl i=>obtain ⟨t,e⟩:=(show ∃t,u=Value.int i t from r);subst e;exact nC P w i t
 |inr x=>obtain ⟨t,e⟩:=(show ∃t,u=Value.str x t from r);subst e;exact nD P w x t
def Bz (i:Expr):Prop:=∀ov iv,subscripted i false ov iv=operate [ov,iv] (getItem ov iv)
theorem wU {prog:Program} {w:World} {A:Around} {E:JY} {s:Shared} {env:Env} {value slice:Expr} {pos:Pos} {T id:String} {Q:JY}
  (hl:typeLookup (.type T) "__getitem__" =pure (some (.builtin id))) (hs:Bz slice)
  (h:wpAny (model prog w) A (eval value env) (fun o s₁=>wpAny (model prog w) A (eval slice env) (fun i s₂=>s₂.TypeIs o T/\wpAny (model prog w) A (getItem o i) Q E s₂) E s₁) E s):
  wpAny (model prog w) A (eval (.Subscript value slice pos) env) Q E s:=by
 refine Subscript_ (wpAny_mono h (fun o s₁ h₁=>wpAny_mono h₁ (fun i s₂ h₂=>?_) fun _ _ x=>x) fun _ _ x=>x)
 obtain ⟨hT,h₂⟩:=h₂;unfold subscriptTail;refine wpAny_bind ?_;rw[getitemInPython_of_ne hT.not_modules];refine wpAny_bind (wpAny_specialOf hT hl ?_);have fin:wpAny (model prog w) A (subscripted slice false o i) (fun r s₃=>wpAny (model prog w) A (letTemporaryGo value o r>>=fun _=>pure r) Q E s₃) E s₂:=by
  rw[hs o i];exact wpAny_operating (wpAny_mono h₂ (fun r s₃ h₃=>wpAny_bind (wpAny_letTemporaryGo (wpAny_pure h₃))) fun _ _ x=>x)
 first
  |exact wpAny_pure (wpAny_bind fin)
  |exact wpAny_bind (wpAny_pure (wpAny_bind fin))
  |exact wpAny_bind fin
end L2
namespace Att
open PySem PySem.W PySem.Calls PyProof.Rows
theorem jw {P:Params} {h:Heap}:∀(ns:List Int) (vs:J6),WellAll P h vs (ns.map WData.int)->IntsAre vs ns:=by
 intro ns
 induction ns with
 |nil=>
  intro vs w;rw[List.map_nil] at w;cases w;exact .nil
 |cons n ns ih=>
  intro vs w;rw[FZ] at w;cases w with
  |cons a b=>
   cases a;exact .cons _ _ (ih _ b)
theorem sP {l:OpenLaw} {n:Nat} (hn:l.most=some n) {P:Params} {h:Heap} {args:List WData} {vals:J6}
  (hpre:l.row.toRowW.claim.pre args=true) (hwl:WellAll P h vals args):
  ∃a vs ns,vals= [Value.ref a]/\args= [WData.list (ns.map WData.int)]/\h.get? a=some {cls:= .type "list",data:= .seq vs.toArray}/\IntsAre vs ns/\ns.length<=n:=by
 have hsh:WShape.hasAll [] args [.list .int]=true:=(pre_splitW hpre).1;have hc:l.pre.holds [] {args:=args}=true:=(pre_splitW hpre).2;obtain ⟨d,r,rfl,h1,h2⟩:=hasAllW_cons hsh;obtain rfl:=hasAllW_nil h2;obtain ⟨xs,rfl,h3⟩:=hasW_list h1;obtain ⟨ns,rfl⟩:=items_int h3;have hlen:ns.length<=n:=by
  unfold OpenLaw.pre at hc;have h4:(WTm.not (.lt (.lit (.int (n:Int))) (.len (.arg 0)))).holds [] {args:= [.list (ns.map .int)]}=true:=by
   have h4:=(holds_andW hc).1;rw[hn] at h4;exact h4
  have h5:=condW_of h4 (w_not (w_lt w_lit (w_len_list (w_arg rfl))));rw[F7] at h5;refine Nat.le_of_not_lt fun q=>?_
  have q':(n:Int)<((ns.length:Nat):Int):=by lia
  first
   |(rw[decide_eq_true q'] at h5;exact absurd h5 (by decide))
   |(simp at h5;lia)
 cases hwl with
 |cons w1 w2=>
  cases w2;cases w1 with
  |list ho hall=>exact ⟨_,_,ns,rfl,rfl,ho,jw ns _ hall,hlen⟩
theorem sQ (l:OpenLaw) (args:List WData):l.row.toRowW.claim.post args (.bool true) args=true:=
 postW_of (r:=l.row.toRowW) (X:=(true==true))
  (show WShape.has [] (.bool true) .bool=true by first|rfl|decide|simp[WShape.has,WShape.arms,WShape.armsAll])
  (show (WTm.eq .res (.lit (.bool true))).value [] {args:=args,res:=some (.bool true),after:=args}=some (.bool (true==true)) from w_eq_bool (w_res rfl) w_lit) rfl
theorem nJ {l:OpenLaw} {n:Nat} {q:Program} {loose:J4} {XP:JZ->Heap->Prop} {YP:World->Heap->Prop} {d:DefRec}
  (hn:l.most=some n) (hdf:d.params.defaults= [])
  (call:∀(w:World) (s₀ s₁:Shared) (mg mb:JZ) (fa:Addr) (o:Obj) (pm cd doc:Value) (a:Addr) (vs:J6) (ns:List Int),
   Ground q loose [] XP w s₀ mg mb s₁.heap->YP w s₁.heap->
   s₁.heap.get? fa=some o->o.data= .func (docDef d.name d.params d.body d.scope pm cd doc)->s₁.heap.CodeRec cd d.name->mg d.name=some (.ref fa)->
   s₁.heap.get? a=some {cls:= .type "list",data:= .seq vs.toArray}->IntsAre vs ns->ns.length<=n->s₁.gens= #[]->
   codeAny (model l.prog w) callerA (.call (.ref fa) ⟨[.ref a],[]⟩) (fun r s'=>r= .ok (.ret (.bool true))/\OldK s₁.heap s'.heap/\s'.os=s₁.os/\AllBare s'.gens) s₁):
  WalkO q loose XP YP l.row.toRowW d [] (fun f vs=>PySem.call f vs):=by
 intro w s₀ s₁ mg mb G Y fa o pm cd doc dV kV ho hd hcd hD hmg hg args vals as hpre hlay hrd hwl hlo;obtain rfl:dV= .none:=Dflts.none hD hdf;obtain rfl:kV= .none:=Dflts.noKw hD;obtain ⟨a,vs,ns,rfl,rfl,hobj,hints,hlen⟩:=sP hn hpre hwl;refine enter_call (codeAny_mono (call w s₀ s₁ mg mb fa o pm cd doc a vs ns G Y ho (fd_plain hd) hcd hmg hobj hints hlen hg) fun r s' hq=>?_)
 obtain ⟨rfl,h2,h3,h4⟩:=hq;exact ⟨.inl ⟨.bool true,.bool true,[],rfl,fun _=>rfl,.bool true,sQ l _,fun _=>⟨List.Pairwise.nil,fun _ hm=>(nomatch hm)⟩⟩,h2,h3,h4⟩
end Att
namespace L2
open PySem PySem.Spec PyProof.Rows
theorem lj:∀{vs:J6} {ns:List Int},IntsAre vs ns->aV (ns.map V.int) vs
 |_,_,.nil=> .nil
 |_,_,.cons n t h=> .cons ⟨t,rfl⟩ (lj h)
def zk (H:Hp):Prop:=∀b,H b=none∨∃o xs,H b=some (.frz o (.lst xs))
theorem ut {P:Program} {w:World} {K:F0} {mg mb:JZ} {CX:pL} {k:Nat} {fa a:Addr} {fd:FuncData} {x:Str} {sp:Sp} {s₁:Shared} {vs:J6} {ns:List Int}
  (KX:K.In s₁.heap) (hns:s₁.heap.Ns mainGlobals mg) (hb:s₁.heap.Ns builtinsNs mb) (hbb:∀x:Str,x≠ "__name__" ->mb x=bootBuiltins x) (hlim:s₁.heap.NoLimit) (hg:s₁.gens= #[])
  (ha:s₁.heap.get? a=some {cls:= .type "list",data:= .seq vs.toArray}) (hi:IntsAre vs ns) (hl:ns.length<=sizeLine) (hr:bT k callerA)
  (F:∀base:Heap,K.In base->base.Ns mainGlobals mg->aY P w K mg base CX k fa fd [x] sp) (hbind:∀(s:Shared) (u:Value),BindsTo s fd ⟨[u],[]⟩ [(x,u)])
  (hsp:∀H:Hp,zk H->aI K H a (ns.map V.int)->sp [.ref a] H (fun v _=>v= .bl true) fun _ _ _=>False)
  (hCX:∀H e s',CX [] H s₁ (fun _ _ _=>False) e s'->False):
  codeAny (model P w) callerA (.call (.ref fa) ⟨[.ref a],[]⟩) (fun r s'=>r= .ok (.ret (.bool true))/\OldK s₁.heap s'.heap/\s'.os=s₁.os/\AllBare s'.gens) s₁:=by
 have rv:=lj hi;have lenV:=hi.length;have core:∀H:Hp,zk H->aI K H a (ns.map V.int)->fQ P w H s₁.heap->(∀b,H b≠none->b=a)->(H a≠none->K.lookup a=none)->
   codeAny (model P w) callerA (.call (.ref fa) ⟨[.ref a],[]⟩) (fun r s'=>r= .ok (.ret (.bool true))/\OldK s₁.heap s'.heap/\s'.os=s₁.os/\AllBare s'.gens) s₁:=by
  intro H hO hS hok hA hK;have base_of:∀{b:Addr} {o:Obj},s₁.heap.get? b=some o->H b=none->(md s₁.heap H).get? b=some o:=fun e n=>t6 e n
  have noA:∀{b:Addr} {o:Obj} {es:Array DictEntry} {ep:Nat},s₁.heap.get? b=some o->o.data= .dict es ep->H b=none:=fun {b o es ep} e d=>by
   cases q:H b with
   |none=>rfl
   |some u=>
    have e':b=a:=hA b (by rw[q];simp)
    subst e';rw[ha] at e;cases e;have d':Data.seq vs.toArray _=Data.dict es ep:=d;cases d'
  have nsK:∀{b:Addr} {m:JZ},s₁.heap.Ns b m->(md s₁.heap H).Ns b m:=fun {b m} ⟨o,es,ep,e,d,r⟩=>⟨o,es,ep,base_of e (noA e d),d,r⟩
  have hKb:K.In (md s₁.heap H):=fun b o e=>base_of (KX b o e) (by
   cases q:H b with
   |none=>rfl
   |some u=>
    have e':b=a:=hA b (by rw[q];simp)
    subst e';rw[hK (by rw[q];simp)] at e;cases e)
  have hM:Mod K mg (md s₁.heap H):=⟨hKb,nsK hns,⟨mb,nsK hb,hbb⟩,let ⟨mc,h1,h2⟩:=hlim;⟨mc,nsK h1,h2⟩⟩;have e0:jV P w K mg (md s₁.heap H) callerA [] s₁ H:=⟨rfl,hM,fun b o e=>wE e,Nat.le_of_eq (sG _ _),trivial,fun b hb=>absurd (show b∈([]:J5) from hb) (by simp),hok,.of_eq hg⟩
  refine codeAny_mono ((F _ hKb (nsK hns)).run callerA [] s₁ H ⟨[.ref a],[]⟩ [.ref a] [.ref a] _ _ hr e0 (hbind s₁ (.ref a)) (.cons rfl .nil) (hsp H hO hS)) fun r s' h=>?_
  cases r with
  |error e=>exact (hCX H e s' h).elim
  |ok fl=>
   cases fl with
   |next=>exact False.elim h
   |brk=>exact False.elim h
   |cont=>exact False.elim h
   |ret u=>
    obtain ⟨v,H',os,bare,un,hok',r',q⟩:=h;have q':v= .bl true:=q;subst q';obtain rfl:u=Value.bool true:=r';refine ⟨rfl,OldK.of_keep fun b o e=>?_,os,bare⟩
    cases q:H b with
    |none=>exact un.keep b o e q (by intro z;exact absurd (show b∈([]:J5) from z) (by simp)) (by simp)
    |some u=>
     rcases hO b with z|⟨ob,xs,z⟩
     ·rw[q] at z;cases z
     ·have z2:=un.frzs b ob _ z;obtain ⟨e1,_⟩:=hok b _ z;obtain ⟨e2,_⟩:=hok' b _ z2;rw[e] at e1;cases e1;exact e2
 cases hk:K.lookup a with
 |some o=>
  have e:=KX a o hk;rw[ha] at e;cases e;refine core (fun _=>none) (fun _=> .inl rfl) (.inr ⟨_,vs.toArray,_,hk,rfl,rfl,rfl,by rw[FX,lenV];exact hl,⟨by simpa using rv,G1.mpr fun v hv=>(by obtain ⟨x,_,rfl⟩:=FE.mp hv;rfl)⟩⟩) (fun b u z=>by have z':(none:Option HO)=some u:=z;cases z') (fun b z=>absurd rfl z) fun z=>absurd rfl z
 |none=>
  refine core (fun b=>if b=a then some (.frz {cls:= .type "list",data:= .seq vs.toArray} (.lst (ns.map V.int))) else none) (fun b=>?_) (.inl (.inr ⟨{cls:= .type "list",data:= .seq vs.toArray},if_pos rfl⟩)) (fun b u z=>?_) (fun b z=>?_) fun _=>hk
  ·by_cases hb:b=a
   ·exact .inr ⟨_,_,if_pos hb⟩
   ·exact .inl (if_neg hb)
  ·by_cases hb:b=a
   ·have z':=(if_pos hb).symm.trans z;cases z';subst hb;exact ⟨ha,by rw[F7];exact hl,vs,_,rv,ha⟩
   ·have z':=(if_neg hb).symm.trans z;cases z'
  ·by_cases hb:b=a
   ·exact hb
   ·exact absurd (if_neg hb) z
theorem wV {l:PySem.W.OpenLaw} {n k:Nat} {q:Program} {loose:J4} {XP:JZ->Heap->Prop} {YP:World->Heap->Prop} {d:DefRec} {K:Params->F0} {CX:World->pL} {sp:World->Sp} {x:Str}
  (hn:l.most=some n) (hn2:n<=sizeLine) (hdf:d.params.defaults= []) (hr:bT k callerA)
  (hY:∀(w:World) (h:Heap),YP w h->(K w.params).In h)
  (F:∀(w:World) (mg:JZ) (fa:Addr) (h:Heap),(K w.params).In h->h.Ns mainGlobals mg->mg d.name=some (.ref fa)->
   ∃fd:FuncData,(∀(s:Shared) (u:Value),BindsTo s fd ⟨[u],[]⟩ [(x,u)])/\
    ∀base:Heap,(K w.params).In base->base.Ns mainGlobals mg->aY l.prog w (K w.params) mg base (CX w) k fa fd [x] (sp w))
  (hsp:∀(w:World) (H:Hp) (a:Addr) (ns:List Int),ns.length<=n->zk H->aI (K w.params) H a (ns.map V.int)->sp w [.ref a] H (fun v _=>v= .bl true) fun _ _ _=>False)
  (hCX:∀(w:World) (H:Hp) (s:Shared) (e:Value) (s':Shared),CX w [] H s (fun _ _ _=>False) e s'->False):
  PySem.W.WalkO q loose XP YP l.row.toRowW d [] (fun f vs=>PySem.call f vs):=by
 refine Att.nJ hn hdf fun w s₀ s₁ mg mb fa o pm cd doc a vs ns G Y ho hd hcd hmg hobj hints hlen hg=>?_
 have KX:=hY w _ Y;obtain ⟨fd,hb,hF⟩:=F w mg fa _ KX G.T.g hmg;exact ut KX G.T.g G.T.b G.T.builtins G.T.nolimit hg hobj hints (FH hlen hn2) hr hF hb (fun H hO hS=>hsp w H a ns hlen hO hS) fun H e s'=>hCX w H s₁ e s'
noncomputable def cN (s:Stmt):Arguments:=match s with
 | .FunctionDef _ a _ _ _ _ _ _ _ _=>a
 |_=>{posonlyargs:= [],args:= [],vararg:=none,kwonlyargs:= [],kw_defaults:= [],kwarg:=none,defaults:= []}
noncomputable def bZ (s:Stmt):List Stmt:=match s with
 | .FunctionDef _ _ b _ _ _ _ _ _ _=>b
 |_=> []
noncomputable def aq (s:Stmt):Scope:=match s with
 | .FunctionDef _ _ _ _ _ _ sc _ _ _=>sc
 |_=>{kind:= .function,names:= [],isGenerator:=false,isCoroutine:=false}
abbrev bu:pL:=fun _ _ _ _ _ _=>False
abbrev E0:XK:=fun _ _ _=>False
theorem qN {X:Cx}:jW bu X E0:=fun _ _ _ _ _ _ _ h=>h.elim
theorem BA {A:Around} {k:Nat} (hr:bT k A):A.units+1<cLine:=GB (Nat.add_le_add_left (by decide:1<=64) _) hr.units
variable {X:Cx}
theorem pv (i:Nat) {x:Str} {pos:Pos} (hN:X.N[i]?=some x:=by rfl) (hv:C7 X.env.scope x:=by first|exact Or.inl rfl|exact Or.inr (Or.inl rfl)|exact Or.inr (Or.inr rfl)) (hd:(x==("__debug__" :Str))=false:=by decide)
  (hcd:(x==("__classdict__" :Str))=false:=by decide):PE X (.Name x pos) (sI i):=zb hN hv hd hcd
theorem cg {A B:Prop} (h:B):if false=true then A else B:=by
 rw[if_neg FJ];exact h
theorem fU {A B:Prop} (h:A):if true=true then A else B:=by
 rw[if_pos rfl];exact h
def ax (H H':Hp):Prop:=∀b o,H b=some o->H' b=some o
theorem ax.refl (H:Hp):ax H H:=fun _ _ h=>h
theorem ax.trans {H H1 H2:Hp} (a:ax H H1) (b:ax H1 H2):ax H H2:=fun c o h=>b c o (a c o h)
theorem ax.free {H H':Hp} (e:ax H H') {l:Addr} (h:H' l=Option.none):H l=Option.none:=by
 cases q:H l with
 |none=>rfl
 |some o=>
  rw[e l o q] at h;cases h
theorem ax.seq {K:F0} {H H':Hp} {a:Addr} {xs:List V} (e:ax H H') (h:aI K H a xs):aI K H' a xs:=by
 rcases h with (h|⟨o,h⟩)|h
 ·exact .inl (.inl (e _ _ h))
 ·exact .inl (.inr ⟨o,e _ _ h⟩)
 ·exact .inr h
theorem gE:i0 X (binaryOp .Mult) (rI (fun i j=>IntMulOk i j) fun i j=> .int (i*j)):=Ds fun _ _ _ _ _ _ _ hc q=>mul_int q hc
theorem eV:i0 X (binaryOp .FloorDiv) (rI (fun i j=>j≠0/\Builtin.divisionGoesByPylong i j=false) fun i j=> .int (i.fdiv j)):=Ds fun _ _ _ _ _ _ _ hc q=>floordiv_int hc.1 q (.inl hc.2)
theorem nK:dJ X (.builtin "isinstance") (fun xs H Q=>∃i,xs= [.int i,.ty "int"]/\Q (.bl true) H):=by
 intro pins s σ H xs us Q I r h;obtain ⟨i,rfl,q⟩:=h;obtain ⟨u,w',rfl,⟨t,rfl⟩,e2⟩:=vals2 r;cases e2;exact PySem.call_isinstance (PySem.isinstance_true (Tx:= "int") PySem.F.isi_meta_int PySem.F.isi_self_int) ⟨rfl,⟨.bl true,H,I,rfl,q⟩⟩
theorem mn:dJ X (.builtin "isinstance") (fun xs H Q=>∃i,xs= [.int i,.ty "bool"]/\Q (.bl false) H):=by
 intro pins s σ H xs us Q I r h;obtain ⟨i,rfl,q⟩:=h;obtain ⟨u,w',rfl,⟨t,rfl⟩,e2⟩:=vals2 r;cases e2;exact PySem.call_isinstance (PySem.isinstance_false_int (T:= "bool") (by decide) PySem.F.isi_meta_bool PySem.F.sub_int_bool) ⟨.bl false,H,I.tok _,rfl,q⟩
theorem nL:dJ X (.builtin "isinstance") (fun xs H Q=>∃i,xs= [.bl i,.ty "bool"]/\Q (.bl true) H):=by
 intro pins s σ H xs us Q I r h;obtain ⟨i,rfl,q⟩:=h;obtain ⟨u,w',rfl,e1,e2⟩:=vals2 r;cases e1;cases e2;exact PySem.call_isinstance (PySem.isinstance_true (Tx:= "bool") PySem.F.isi_meta_bool PySem.F.isi_self_bool) ⟨rfl,⟨.bl true,H,I,rfl,q⟩⟩
theorem nM:dJ X (.builtin "isinstance") (fun xs H Q=>∃a ys,xs= [.ref a,.ty "tuple"]/\cM X.K H a ys/\Q (.bl true) H):=by
 intro pins s σ H xs us Q I r h;obtain ⟨a,ys,rfl,hs,q⟩:=h;obtain ⟨u,w',rfl,e1,e2⟩:=vals2 r;cases e1;cases e2;obtain ⟨its,_,p1,_⟩:=I.tuple hs;exact PySem.call_isinstance (PySem.isinstance_true (Tx:= "tuple") PySem.F.isi_meta_tuple PySem.F.isi_self_tuple) ⟨p1.typeIs,⟨.bl true,H,I,rfl,q⟩⟩
end L2
namespace Sw
open PySem
def Bd (n:Nat) (x:Int):Prop:=x.natAbs<2^n
theorem Bd.mono {m n:Nat} {x:Int} (h:Bd m x) (e:m<=n):Bd n x:=FK h (Nat.pow_le_pow_right (by decide) e)
theorem Bd.of_le {n:Nat} {x y:Int} (h:Bd n y) (e:x.natAbs<=y.natAbs):Bd n x:=GB e h
theorem Bd.mul {m n:Nat} {x y:Int} (h:Bd m x) (g:Bd n y):Bd (m+n) (x*y):=by
 unfold Bd at*;rw[Int.natAbs_mul,Nat.pow_add];exact Nat.mul_lt_mul_of_lt_of_le h (Nat.le_of_lt g) (GB (G7 _) g)
theorem Bd.add {k:Nat} {x y:Int} (h:Bd k x) (g:Bd k y):Bd (k+1) (x+y):=by
 unfold Bd at*;rw[Nat.pow_succ];generalize 2^k=p at h g⊢
 lia
theorem Bd.ok {m n:Nat} {x y:Int} (h:Bd m x) (g:Bd n y) (e:m+n<=134217728:=by decide):IntMulOk x y:=
 IntMulOk.of_le (intBits_le_iff.mpr h) (intBits_le_iff.mpr g) e
theorem Bd.div {n:Nat} {x y:Int} (h:Bd n y) (y0:y≠0) (e:n<=9000:=by decide):Builtin.divisionGoesByPylong x y=false:=by
 refine PyProof.noPylong_of_log2 ((Nat.log2_lt (by lia)).mpr ?_)
 exact FK h (Nat.pow_le_pow_right (by decide) e)
noncomputable def cm (a b:Int):Int:=((Int.gcd a b:Nat):Int)
theorem wW (a b:Int):0<=cm a b:=Int.natCast_nonneg _
theorem pN (a b:Int):cm (-a) b=cm a b:=by unfold cm;rw[Int.neg_gcd]
theorem pO (a b:Int):cm a (-b)=cm a b:=by unfold cm;rw[Int.gcd_neg]
theorem sR {g l:Int} (hl:0<l):cm l (g.fmod l)=cm g l:=by
 unfold cm;have e:g.fmod l=g-(g.fdiv l)*l:=by rw[Int.fmod_def,Int.mul_comm]
 rw[e,Int.gcd_comm l,Int.gcd_sub_mul_right_left]
noncomputable def uu (i:Int):Int:=if i<0 then-i else i
theorem qO (i:Int):0<=uu i:=by unfold uu;split<;>lia
theorem uw (a b:Int):cm (uu a) (uu b)=cm a b:=by
 unfold uu
 split<;>split<;>simp only[pN,pO]
theorem sS {g:Int} (h:0<=g):cm g 0=g:=by
 unfold cm;rw[Int.gcd_zero_right];lia
theorem iA {a b:Int} (h:cm a b=0):a=0/\b=0:=by
 unfold cm at h;exact Int.gcd_eq_zero_iff.mp (by lia)
theorem jY (a b:Int):cm a b∣a:=Int.gcd_dvd_left ..
theorem ig (a b:Int):cm a b∣b:=Int.gcd_dvd_right ..
structure Fr (p q a b:Int):Prop where
 pos:0<q
 low:cm p q=1
 same:p*b=a*q
 bt:p.natAbs<=a.natAbs
 bb:q.natAbs<=b.natAbs
structure C9 (p q:Int):Prop where
 pos:0<q
 low:cm p q=1
theorem Fr.to {p q a b:Int} (h:Fr p q a b):C9 p q:=⟨h.pos,h.low⟩
theorem jp {p q k:Int} (h:cm p q=1) (d:q∣p*k):q∣k:=by
 have c:Int.gcd q p=1:=by unfold cm at h;rw[Int.gcd_comm];lia
 have d':q.natAbs∣p.natAbs*k.natAbs:=by rw[<-Int.natAbs_mul];exact Int.natAbs_dvd_natAbs.mpr d
 exact Int.natAbs_dvd_natAbs.mp (Nat.Coprime.dvd_of_dvd_mul_left (show Nat.Coprime q.natAbs p.natAbs from c) d')
theorem pP {p q p' q':Int} (h:C9 p q) (h':C9 p' q') (e:p*q'=p'*q):p=p'/\q=q':=by
 have d1:q∣q':=jp h.low (by rw[e];exact Int.dvd_mul_left ..)
 have d2:q'∣q:=jp h'.low (by rw[<-e];exact Int.dvd_mul_left ..)
 have eq:q=q':=by
  have n1:=Int.le_of_dvd h'.pos d1;have n2:=Int.le_of_dvd h.pos d2
  lia
 subst eq;exact ⟨Int.eq_of_mul_eq_mul_right (by have:=h.pos;lia) e,rfl⟩
noncomputable def ll (a b:Int):Int:=if b<0 then-cm a b else cm a b
theorem uy {a b:Int} (h:b≠0):ll a b≠0:=by
 have g:cm a b≠0:=fun z=>h (iA z).2
 unfold ll;split<;>lia
theorem BB {a b:Int} (h:b≠0):Fr (a.fdiv (ll a b)) (b.fdiv (ll a b)) a b:=by
 have g:cm a b≠0:=fun z=>h (iA z).2
 have p:0<cm a b:=by have:=wW a b;lia
 have c0:=uy (a:=a) h;have da:ll a b∣a:=by
  unfold ll;split
  ·exact Int.neg_dvd.mpr (jY a b)
  ·exact jY a b
 have db:ll a b∣b:=by
  unfold ll;split
  ·exact Int.neg_dvd.mpr (ig a b)
  ·exact ig a b
 obtain ⟨x,hx⟩:=da;obtain ⟨y,hy⟩:=db;have ex:a.fdiv (ll a b)=x:=by
  conv=>lhs;arg 1;rw[hx]
  exact Int.mul_fdiv_cancel_left x c0
 have ey:b.fdiv (ll a b)=y:=by
  conv=>lhs;arg 1;rw[hy]
  exact Int.mul_fdiv_cancel_left y c0
 rw[ex,ey];have yp:0<y:=by
  have e:=hy;unfold ll at e;rcases (by lia:y<0∨y=0∨0<y) with q|q|q
  ·exfalso
   split at e
   ·rename_i hb;have:=Int.mul_neg_of_pos_of_neg p q;rw[Int.neg_mul] at e
    lia
   ·have:=Int.mul_neg_of_pos_of_neg p q
    lia
  ·rw[q] at hy;lia
  ·exact q
 have lowx:cm x y=1:=by
  have m:cm (ll a b*x) (ll a b*y)=cm a b*cm x y:=by
   show ((Int.gcd _ _:Nat):Int)=_*((Int.gcd x y:Nat):Int);rw[Int.gcd_mul_left,GF]
   congr 1
   unfold ll;split<;>lia
  rw[<-hx,<-hy] at m;exact Int.eq_one_of_mul_eq_self_right g m.symm
 refine ⟨yp,lowx,?_,?_,?_⟩
 ·conv=>lhs;rw[hy]
  conv=>rhs;rw[hx]
  rw[<-Int.mul_assoc,Int.mul_comm x]
 ·have:a.natAbs=(ll a b).natAbs*x.natAbs:=by conv=>lhs;rw[hx];rw[Int.natAbs_mul]
  rw[this];exact Nat.le_mul_of_pos_left _ (by lia)
 ·have:b.natAbs=(ll a b).natAbs*y.natAbs:=by conv=>lhs;rw[hy];rw[Int.natAbs_mul]
  rw[this];exact Nat.le_mul_of_pos_left _ (by lia)
end Sw
namespace L2
open PySem
inductive BC (K:F0) (H:Hp):V->String->Bool->Prop where
 |ii (i:Int):BC K H (.int i) "int" true
 |ib (i:Int):BC K H (.int i) "bool" false
 |bb (b:Bool):BC K H (.bl b) "bool" true
 |tt (a:Addr) (ys:List V) (h:cM K H a ys):BC K H (.ref a) "tuple" true
theorem iB {X:Cx}:dJ X (.builtin "isinstance") (fun xs H Q=>∃x T b,xs= [x,.ty T]/\BC X.K H x T b/\Q (.bl b) H):=by
 intro pins s σ H xs us Q I r h;obtain ⟨x,T,b,rfl,i,q⟩:=h;cases i with
 |ii i=>exact nK pins s σ H _ us Q I r ⟨i,rfl,q⟩
 |ib i=>exact mn pins s σ H _ us Q I r ⟨i,rfl,q⟩
 |bb i=>exact nL pins s σ H _ us Q I r ⟨i,rfl,q⟩
 |tt a ys h=>exact nM pins s σ H _ us Q I r ⟨a,ys,rfl,h,q⟩
end L2
namespace Sw
open PySem L2
theorem dT {p A B:Prop} [Decidable p] (h:p) (a:A):if decide p=true then A else B:=by rw[if_pos (decide_eq_true h)];exact a
theorem dF {p A B:Prop} [Decidable p] (h:¬p) (b:B):if decide p=true then A else B:=by rw[if_neg (by simp[h])];exact b
theorem d2 {p A B:Prop} [Decidable p] (h1:p->A) (h2:¬p->B):if decide p=true then A else B:=by
 by_cases h:p
 ·exact dT h (h1 h)
 ·exact dF h (h2 h)
theorem nT {p A B:Prop} [Decidable p] (h:¬p) (a:A):if (!decide p)=true then A else B:=by rw[if_pos (by simp[h])];exact a
theorem nF {p A B:Prop} [Decidable p] (h:p) (b:B):if (!decide p)=true then A else B:=by rw[if_neg (by simp[h])];exact b
theorem vi {a b:Int} (h:a=b):V.int a=V.int b:=by rw[h]
theorem vj {a b:Int} (h:V.int a=V.int b):a=b:=by cases h;rfl
theorem jE {a b:Int} {A B:Prop} (h1:a=b->A) (h2:a≠b->B):if decide (V.int a=V.int b)=true then A else B:=d2 (fun h=>h1 (vj h)) fun h=>h2 fun e=>h (vi e)
theorem EX {a b:Int} {A B:Prop} (h1:a≠b->A) (h2:a=b->B):if (!decide (V.int a=V.int b))=true then A else B:=by
 by_cases h:a=b
 ·exact nF (vi h) (h2 h)
 ·exact nT (fun e=>h (vj e)) (h1 h)
theorem EY {a b:Int} {A B:Prop} (h:a≠b) (x:B):if decide (V.int a=V.int b)=true then A else B:=dF (fun e=>h (vj e)) x
def yw:Sp:=fun vs H Q _=>∃a b:Int,vs= [.int a,.int b]/\Q (.int (cm a b)) H
def uz (K:F0):Sp:=fun vs H Q _=>∃(a:Addr) (ns:List Int) (k:Int),vs= [.ref a,.int k]/\aI K H a (ns.map V.int)/\0<=k/\∀v:Int,Q (.int v) H
def gF:Sp:=fun vs H Q _=>∃v:Int,vs= [.int v]/\Q (.bl true) H
def qP (K:F0):Sp:=fun vs H Q _=>∃(a:Addr) (ns:List Int),vs= [.ref a]/\aI K H a (ns.map V.int)/\ns.length<=63/\∀H',Q (.bl true) H'
theorem qQ {ns:List Int} {k:Int} (h0:0<=k) (h:k<(((ns.map V.int).length:Nat):Int)):∃v:Int,kH (ns.map V.int) k=some (.int v):=by
 rw[F7] at h;have hk:k.toNat<ns.length:=by lia
 have ek:k=((k.toNat:Nat):Int):=by lia
 have q:kH (ns.map V.int) ((k.toNat:Nat):Int)=some (.int ns[k.toNat]):=aG (by rw[FG,F6 hk]<;>rfl)
 rw[<-ek] at q;exact ⟨_,q⟩
theorem cut {t u:TS} {D:Ends} {σ:L2.St} {H:Hp} (I:L2.St->Hp->Prop) (h1:∀N:L2.St->Hp->Prop,(∀σ H,I σ H->N σ H)->t {D with nx:=N} σ H) (h2:∀σ H,I σ H->u D σ H):wG t u D σ H:=h1 _ h2
theorem ah {H:Hp} {p:Addr} (h:H p=none) (o:HO):ax H (aL H p o):=fun b u q=>by rw[ar (aM q h)];exact q
theorem zm {n:Nat} {a b:Int} (b0:b≠0) (h:Bd n b):Bd n (ll a b):=by
 have d:cm a b∣b:=ig a b;have k:=Nat.le_of_dvd (by lia) (Int.natAbs_dvd_natAbs.mpr d)
 refine h.of_le ?_;unfold ll
 split<;>lia
def Pair (H:Hp) (Q:VK) (p q:Int):Prop:=∀(t:Addr) (H':Hp),ax H H'->H' t=some (.tup [.int p,.int q])->Q (.ref t) H'
def wX:Sp:=fun vs H Q _=>∃a b:Int,vs= [.int a,.int b]/\b≠0/\Bd 8500 b/\∀p q:Int,Fr p q a b->Pair H Q p q
structure jx (K:F0) (n:Nat) (H:Hp) (t:Addr) (p q:Int):Prop where
 at_:cM K H t [.int p,.int q]
 pos:0<q
 bp:Bd n p
 bq:Bd n q
theorem jx.mono {K:F0} {m n:Nat} {H:Hp} {t:Addr} {p q:Int} (h:jx K m H t p q) (e:m<=n):jx K n H t p q:=⟨h.at_,h.pos,h.bp.mono e,h.bq.mono e⟩
theorem jx.of {K:F0} {n:Nat} {H:Hp} {t:Addr} {p q a b:Int} (f:Fr p q a b) (ha:Bd n a) (hb:Bd n b) (e:H t=some (.tup [.int p,.int q])):jx K n H t p q:=⟨cM.of e,f.pos,ha.of_le f.bt,hb.of_le f.bb⟩
def uA (K:F0):Sp:=fun vs H Q _=>∃(t:Addr) (p q:Int),vs= [.ref t]/\jx K 8000 H t p q/\Q (.int (p.fdiv q)) H
structure a6 (K:F0) (x qual:Str) (st:Stmt) (dV:Value) (f:Addr) (fd:FuncData):Prop where
 ex:∃(oc:Value) (od:J7) (kV doc pm:Value) (an:J7) (cdv ct:Value) (osl:J3),
  fd=Fn x qual (cN st) (bZ st) (aq st) dV kV doc pm an cdv ct/\K.lookup f=some ⟨oc,od,.func fd,osl⟩/\G9 K cdv qual=true
 kp:Fl K (.ref f)=true
section
variable {P:Program} {w:World} {K:F0} {mg:JZ} {base:Heap}
theorem a6.ok {x qual:Str} {st:Stmt} {dV:Value} {f:Addr} {fd:FuncData} {N ps:J4} {k:Nat} {sp:Sp} (F:a6 K x qual st dV f fd) (S:aB N ps (aq st)) (len:∀vs H Q E,sp vs H Q E->vs.length=ps.length)
  (hbody:∀(cdv:Value) (A:Around) (outer:List Env) (s:Shared) (H:Hp) (vs:List V) (Q:VK) (E:XK),bT k (A.deeper (PyProof.Rows.envOfC qual (aq st) s.heap.objs.size f cdv))->sp vs H Q E->
   ∃t,jA (fO bu P w K mg base N qual (aq st) f cdv A outer s H E).nox (bZ st) t/\t {nx:=fun _ H'=>Q .non H',rt:=Q} (start N vs) H):aY P w K mg base bu (k+1) f fd ps sp:=by
 obtain ⟨oc,od,kV,doc,pm,an,cdv,ct,osl,rfl,lk,hcd⟩:=F.ex;refine yt lk hcd S len fun A outer s H vs Q E hr hsp=>?_
 obtain ⟨t,h,q⟩:=hbody cdv A outer s H vs Q E hr hsp;exact ⟨t,h.nox,q⟩
theorem a6.binds {x qual:Str} {st:Stmt} {T:Addr} {f:Addr} {fd:FuncData} {ps:J4} {o:Obj} {items:Array Value} {n:Nat} {ds:J6} (F:a6 K x qual st (.ref T) f fd) (ho:K.lookup T=some o) (hs:o.data= .seq items n)
  (h:∀(kV doc pm:Value) (an:J7) (cdv ct:Value) (us:J6),(us++ds).length=ps.length->∃k:Option (Array Value)->Sem (List (Str×Value)),bindArgs (Fn x qual (cN st) (bZ st) (aq st) (.ref T) kV doc pm an cdv ct) ⟨us,[]⟩=seqItems? (.ref T)>>=k/\k (some items)=pure (ps.zip (us++ds))):Binds K fd ps ds:=by
 obtain ⟨oc,od,kV,doc,pm,an,cdv,ct,osl,rfl,lk,hcd⟩:=F.ex;intro s us KX hl;obtain ⟨k,h1,h2⟩:=h kV doc pm an cdv ct us hl;exact PySem.W.binds_K KX rfl ho hs h1 h2
theorem a6.binds0 {x qual:Str} {st:Stmt} {dV:Value} {f:Addr} {fd:FuncData} {ps:J4} (F:a6 K x qual st dV f fd)
  (h:∀(kV doc pm:Value) (an:J7) (cdv ct:Value) (us:J6),us.length=ps.length->bindArgs (Fn x qual (cN st) (bZ st) (aq st) dV kV doc pm an cdv ct) ⟨us,[]⟩=pure (ps.zip us)):Binds K fd ps []:=by
 obtain ⟨oc,od,kV,doc,pm,an,cdv,ct,osl,rfl,lk,hcd⟩:=F.ex;exact .all (h kV doc pm an cdv ct)
theorem dU {x qual:Str} {st:Stmt} {f:Addr} {oc dV:Value} {od an:J7} {osl:J3} {kV doc pm cdv ct:Value} (l:K.lookup f=some ⟨oc,od,.func (Fn x qual (cN st) (bZ st) (aq st) dV kV doc pm an cdv ct),osl⟩)
  (c:G9 K cdv qual=true) (k:Fl K (.ref f)=true):a6 K x qual st dV f (Fn x qual (cN st) (bZ st) (aq st) dV kV doc pm an cdv ct):=⟨⟨oc,od,kV,doc,pm,an,cdv,ct,osl,rfl,l,c⟩,k⟩
end
def uB (K:F0):Sp:=fun vs H Q _=>∃(t t':Addr) (p q p' q':Int),vs= [.ref t,.ref t']/\jx K 4000 H t p q/\jx K 4000 H t' p' q'/\∀r s:Int,Fr r s (p*q'+p'*q) (q*q')->Pair H Q r s
theorem zn {x y k:Int} (h:x*k=y*k) (k0:k≠0):x=y:=Int.eq_of_mul_eq_mul_right k0 h
theorem uC {x y:Int} (h:0<x) (g:0<y):x*y≠0:=by have:=Int.mul_pos h g;lia
theorem uD {p q p' q' a b c d r s:Int} (h1:p*b=a*q) (h2:p'*d=c*q') (q0:0<q) (q1:0<q') (h:r*(q*q')=(p*q'+p'*q)*s):r*(b*d)=(a*d+c*b)*s:=by
 refine zn (k:=q*q') ?_ (uC q0 q1)
 grind
end Sw
namespace XH
open PySem
structure Mv (fs ch:J5) (h h':Heap):Prop where
 keep:∀b o,b∉fs->b∉ch->h.get? b=some o->h'.get? b=some o
 slot:∀b o,b∈fs->b∉ch->h.get? b=some o->∃sl,h'.get? b=some {o with slots:=sl}
 there:∀b o,h.get? b=some o->∃o',h'.get? b=some o'
theorem Mv.refl (fs ch:J5) (h:Heap):Mv fs ch h h:=⟨fun _ _ _ _ q=>q,fun _ o _ _ q=>⟨o.slots,q⟩,fun _ o q=>⟨o,q⟩⟩
theorem Mv.trans {fs c1 c2 ch:J5} {h h1 h2:Heap} (x:Mv fs c1 h h1) (y:Mv fs c2 h1 h2) (k1:∀b,b∈c1->b∈ch) (k2:∀b,b∈c2->b∈ch):Mv fs ch h h2 where
 keep:=fun b o hf hc q=>y.keep b o hf (fun z=>hc (k2 b z)) (x.keep b o hf (fun z=>hc (k1 b z)) q)
 slot:=fun b o hf hc q=>by
  obtain ⟨sl,q1⟩:=x.slot b o hf (fun z=>hc (k1 b z)) q
  obtain ⟨sl2,q2⟩:=y.slot b _ hf (fun z=>hc (k2 b z)) q1
  exact ⟨sl2,q2⟩
 there:=fun b o q=>by
  obtain ⟨o1,q1⟩:=x.there b o q;exact y.there b o1 q1
inductive yx where
 |new
 |fl (v:Value)
def yx.Is (F:Addr->Prop) (h:Heap) (e:Addr) (vs:Array Value):yx->Prop
 | .new=>vs[1]?=some .none
 | .fl v=>∃T oT ts,vs[1]?=some (.ref T)/\F T/\T≠e/\h.get? T=some oT/\oT.data= .fields ts/\ts[3]?=some v
def Fz (vs:Array Value):Prop:=1<vs.size/\vs[2]?=some .none
theorem Fz.set {vs:Array Value} (h:Fz vs) (v:Value):Fz (vs.setIfInBounds 1 v):=⟨by simpa using h.1,by rw[Array.getElem?_setIfInBounds];simp[h.2]⟩
structure XO (F:Addr->Prop) (h:Heap) (e:Addr) (cls:Value) (dx:J7) (st:yx):Prop where
 ex:∃oe vs,h.get? e=some oe/\oe.cls=cls/\oe.dict=dx/\oe.data= .fields vs/\Fz vs/\st.Is F h e vs
 fr:F e
theorem XO.mono {F G:Addr->Prop} {h:Heap} {e:Addr} {cls:Value} {dx:J7} {st:yx} (x:XO F h e cls dx st) (k:∀b,F b->G b):XO G h e cls dx st:=by
 obtain ⟨⟨oe,vs,a,b,c,d,f,g⟩,fr⟩:=x;refine ⟨⟨oe,vs,a,b,c,d,f,?_⟩,k _ fr⟩;cases st with
 |new=>exact g
 |fl v=>
  obtain ⟨T,oT,ts,g1,g2,g3⟩:=g;exact ⟨T,oT,ts,g1,k _ g2,g3⟩
theorem lq (o:Obj) (f:Array Value->Array Value):(o.mapFields f).dict=o.dict:=by
 obtain ⟨c,d,dt,sl⟩:=o;cases dt<;>rfl
section
variable {M:Model} {A:Around} {E:JY} {s:Shared}
theorem nN {base:Heap} {env:Env} {outer:List Env} {L e:Addr} {oe:Obj} {vs:Array Value} {head:Value} {had:Bool} {Q:Unit->Shared->Prop}
  (hfr:A.frames=some (env::outer)) (hl:s.heap.FunFrames base (env::outer)) (hf:env.frame=some L) (he:s.heap.get? e=some oe) (hd:oe.data= .fields vs) (hsz:1<vs.size)
  (h:∀h' T,Mv ((env::outer).filterMap (·.frame)) [e] s.heap h'->s.heap.get? T=none->T≠e->h'.get? e=some (oe.mapFields (·.setIfInBounds 1 (.ref T)))->
   (∃oT ts,h'.get? T=some oT/\oT.data= .fields ts/\ts[3]?=some (rawInt L))->Q () {s with heap:=h'}):
  wpAny M A (do let a<-frameOf env;let pl<-entryPlaceOf L had;let b<-EntryCells.newEntry head a .none (rawInt L) .none pl;setField (.ref e) 1 b) Q E s:=by
 have hne:e∉(env::outer).filterMap (·.frame):=by
  intro hm;obtain ⟨_,o,ho,hnf⟩:=hl.mem hm;rw[he] at ho;cases ho;exact hnf vs hd
 apply wpAny_bind;apply wpAny_frameOf_fun hfr hl hf;intro h1 hs;apply wpAny_bind;apply wpAny_entryPlaceOf;intro pl hpl;unfold EntryCells.newEntry newFields;apply wpAny_bind;refine wpAny_newObj_type ?_ (hpl.sizeOk5 ..);have e1:h1.get? e=some oe:=(hs.2.1 e hne).trans he;generalize hob:({cls:= .type "traceback",dict:=none,data:= .fields ([head,.ref L,.none,rawInt L,.none]++(if pl.isEmpty then List.replicate 6 Value.none else pl)).toArray}:Obj)=ob
 have e2:=Heap.get?_push_of_some (h:=h1) ob e1;refine wpAny_setField e2 hd hsz ?_;have hTe:h1.objs.size≠e:=GC (Heap.lt_size e1);have d3:=Obj.data_mapFields hd (·.setIfInBounds 1 (Value.ref h1.objs.size));have e3:=Heap.get?_update_self (Obj.mapFields (·.setIfInBounds 1 (Value.ref h1.objs.size))) e2 (Obj.isFreed_of_fields d3);have kp:∀b o,b≠e->h1.get? b=some o->((h1.push ob).update e (Obj.mapFields (·.setIfInBounds 1 (Value.ref h1.objs.size)))).get? b=some o:=by
  intro b o hb q;rw[Heap.get?_update_other _ _ (Ne.symm hb)];exact Heap.get?_push_of_some _ q
 have t3:((h1.push ob).update e (Obj.mapFields (·.setIfInBounds 1 (Value.ref h1.objs.size)))).get? h1.objs.size=some ob:=by
  rw[Heap.get?_update_other _ _ (Ne.symm hTe)];exact Heap.get?_push_size h1 (by rw[<-hob];rfl)
 refine h _ h1.objs.size ⟨?_,?_,?_⟩ ?_ hTe e3 ?_
 ·intro b o hb hc q;exact kp b o (fun z=>hc (by rw[z];exact FA.mpr rfl)) ((hs.2.1 b hb).trans q)
 ·intro b o hb hc q;obtain ⟨sl,q1⟩:=hs.2.2 b o q;exact ⟨sl,kp b _ (fun z=>hc (by rw[z];exact FA.mpr rfl)) q1⟩
 ·intro b o q
  by_cases hb:b=e
  ·subst hb;exact ⟨_,e3⟩
  ·obtain ⟨sl,q1⟩:=hs.2.2 b o q;exact ⟨_,kp b _ hb q1⟩
 ·exact Heap.get?_none_of_le (by rw[hs.1];exact F5 _)
 ·subst hob;refine ⟨_,_,t3,rfl,?_⟩;rcases hpl with rfl|⟨_,_,_,_,_,_,_,rfl⟩<;>simp
theorem sT {F:Addr->Prop} {e:Addr} {cls v:Value} {dx fl:J7} {Q:Unit->Shared->Prop} (x:XO F s.heap e cls dx (.fl v))
  (h:∀h' T,F T->Mv [] [T] s.heap h'->XO F h' e cls dx (.fl (fl.elim .none fun f=>rawInt f))->Q () {s with heap:=h'}):wpAny M A (setFlight (.ref e) fl) Q E s:=by
 obtain ⟨⟨oe,vs,he,hc,hdx,hd,hsz,T,oT,ts,h1,hF,hTe,hT,hdT,h3⟩,fr⟩:=x;have z3:3<ts.size:=(GS.mp h3).1;have oth:∀b,b≠T->(s.heap.update T (Obj.mapFields (·.setIfInBounds 3 (fl.elim Value.none fun f=>rawInt f)))).get? b=s.heap.get? b:=fun b hb=>Heap.get?_update_other _ _ (Ne.symm hb)
 have t4:=Heap.get?_update_self (Obj.mapFields (·.setIfInBounds 3 (fl.elim Value.none fun f=>rawInt f))) hT (Obj.isFreed_of_fields (Obj.data_mapFields hdT _))
 unfold setFlight;apply wpAny_bind;apply wpAny_field he hd h1;rw[if_pos (by simp)]
 apply wpAny_setField hT hdT z3;refine h _ T hF ⟨?_,fun b o hb=>absurd hb (by simp),?_⟩ ⟨⟨oe,vs,(oth e (Ne.symm hTe)).trans he,hc,hdx,hd,hsz,T,_,_,h1,hF,hTe,t4,Obj.data_mapFields hdT _,by simp[z3]⟩,fr⟩
 ·intro b o _ hb q;exact (oth b (fun z=>hb (by rw[z];exact FA.mpr rfl))).trans q
 ·intro b o q
  by_cases hb:b=T
  ·subst hb;exact ⟨_,t4⟩
  ·exact ⟨o,(oth b hb).trans q⟩
theorem wY {F:Addr->Prop} {base:Heap} {env:Env} {outer:List Env} {L e:Addr} {cls:Value} {dx:J7} {st:yx} {Q:Unit->Shared->Prop}
  (hfr:A.frames=some (env::outer)) (hl:s.heap.FunFrames base (env::outer)) (hf:env.frame=some L) (x:XO F s.heap e cls dx st)
  (h:∀h' ch,(∀b∈ch,F b)->Mv ((env::outer).filterMap (·.frame)) ch s.heap h'->XO (fun b=>F b∨s.heap.get? b=none) h' e cls dx (.fl (rawInt L))->Q () {s with heap:=h'}):wpAny M A (noteFrame (.ref e) env) Q E s:=by
 obtain ⟨⟨oe,vs,he,hc,hdx,hd,hsz,hst⟩,fr⟩:=x;unfold noteFrame;simp only[hf];cases st with
 |new=>
  apply wpAny_bind;apply wpAny_field he hd hst;rw[if_neg (by decide)]
  refine nN hfr hl hf he hd hsz.1 fun h' T mv tn tne he' ⟨oT,ts,hT,hdT,h3⟩=>?_
  refine h h' [e] (fun b hb=>by rw[FA.mp hb];exact fr) mv ⟨⟨_,_,he',?_,?_,Obj.data_mapFields hd _,hsz.set _,T,oT,ts,by simp[hsz.1],.inr tn,tne,hT,hdT,h3⟩,.inl fr⟩
  ·rw[Obj.cls_mapFields];exact hc
  ·rw[lq];exact hdx
 |fl v=>
  obtain ⟨T,oT,ts,h1,hF,hTe,hT,hdT,h3⟩:=hst;have z3:3<ts.size:=(GS.mp h3).1;apply wpAny_bind;apply wpAny_field he hd h1;rw[if_pos (by simp)]
  apply wpAny_bind;apply wpAny_field hT hdT h3
  by_cases hv:(v==rawInt L)=true
  ·rw[if_pos hv];have ev:v=rawInt L:=beq_iff_eq.mp hv;subst ev;refine wpAny_pure (h s.heap [] (fun b hb=>absurd hb (by simp)) (.refl ..) ⟨⟨oe,vs,he,hc,hdx,hd,hsz,T,oT,ts,h1,.inl hF,hTe,hT,hdT,h3⟩,.inl fr⟩)
  ·rw[if_neg hv];apply wpAny_bind;apply wpAny_setField hT hdT z3;have oth:∀b,b≠T->(s.heap.update T (Obj.mapFields (·.setIfInBounds 3 Value.none))).get? b=s.heap.get? b:=fun b hb=>Heap.get?_update_other _ _ (Ne.symm hb)
   have t4:=Heap.get?_update_self (Obj.mapFields (·.setIfInBounds 3 Value.none)) hT (Obj.isFreed_of_fields (Obj.data_mapFields hdT _));have nrec:∀b o,s.heap.get? b=some o->(∀vs,o.data≠ .fields vs)->b≠T:=by
    intro b o hb hn z;rw[z,hT] at hb;cases hb;exact hn ts hdT
   have mv1:Mv ((env::outer).filterMap (·.frame)) [T] s.heap (s.heap.update T (Obj.mapFields (·.setIfInBounds 3 Value.none))):=by
    refine ⟨fun b o _ hb q=>(oth b (fun z=>hb (by rw[z];exact FA.mpr rfl))).trans q,fun b o _ hb q=>⟨o.slots,(oth b (fun z=>hb (by rw[z];exact FA.mpr rfl))).trans q⟩,fun b o q=>?_⟩
    by_cases hb:b=T
    ·subst hb;exact ⟨_,t4⟩
    ·exact ⟨o,(oth b hb).trans q⟩
   refine nN (s:={s with heap:=s.heap.update T (Obj.mapFields (·.setIfInBounds 3 Value.none))}) hfr (hl.of_keeps fun b o hb hn=>⟨o,(oth b (nrec b o hb hn)).trans hb,rfl⟩) hf ((oth e (Ne.symm hTe)).trans he) hd hsz.1 fun h' T2 mv tn tne he' ⟨oT2,ts2,hT2,hdT2,h32⟩=>?_
   refine h h' [T,e] ?_ (mv1.trans mv (fun b hb=>by simp at hb;simp[hb]) (fun b hb=>by simp at hb;simp[hb])) ⟨⟨_,_,he',?_,?_,Obj.data_mapFields hd _,hsz.set _,T2,oT2,ts2,by simp[hsz.1],.inr ?_,tne,hT2,hdT2,h32⟩,.inl fr⟩
   ·intro b hb;simp at hb;rcases hb with rfl|rfl
    ·exact hF
    ·exact fr
   ·rw[Obj.cls_mapFields];exact hc
   ·rw[lq];exact hdx
   ·cases q:s.heap.get? T2 with
    |none=>rfl
    |some o=>
     obtain ⟨o',q'⟩:=mv1.there T2 o q;rw[q'] at tn;cases tn
end
end XH
namespace L2
open PySem PySem.Spec PyProof.Rows XH
structure fV (P:Program) (w:World) (outer:List Env) (H:Hp) (s:Shared) (a:Addr) (H':Hp) (cls:Value) (dx:J7) (st:yx) (s':Shared):Prop where
 os:s'.os=s.os
 bare:AllBare s'.gens
 un:Un (iX outer) [] H H' s.heap s'.heap
 hok:fQ P w H' s'.heap
 xo:XO (fun b=>s.heap.get? b=none/\H' b=none) s'.heap a cls dx st
def d0 (P:Program) (w:World):pL:=fun outer H s E e s'=>∃a H' cls dx st,e= .ref a/\fV P w outer H s a H' cls dx st s'/\E cls dx H'
section
variable {P:Program} {w:World} {H H':Hp} {h h' h0:Heap} {fs ch:J5} {a:Addr} {o:HO}
theorem bJ.there (x:bJ P w H h a o):∃u,h.get? a=some u:=by
 cases o with
 |lst xs=>obtain ⟨_,_,_,_,e⟩:=x;exact ⟨_,e⟩
 |tup xs=>obtain ⟨_,_,_,_,e,_⟩:=x;exact ⟨_,e⟩
 |dK kvs=>obtain ⟨_,_,_,_,_,_,_,e,_⟩:=x;exact ⟨_,e⟩
 |dT kvs=>obtain ⟨_,_,_,_,_,_,_,e,_⟩:=x;exact ⟨_,e⟩
 |set S n=>obtain ⟨_,_,_,_,e,_⟩:=x;exact ⟨_,e⟩
 |ins C dx fs=>obtain ⟨_,_,_,e,_⟩:=x;exact ⟨_,e⟩
 |own y=>exact x
 |xd fs=>obtain ⟨_,⟨_,_,_,e,_⟩,_⟩:=x;exact ⟨_,e⟩
 |rng lo hi=>obtain ⟨_,_,_,e⟩:=x;exact ⟨_,e⟩
 |frz ob u=>obtain ⟨e,_⟩:=x;exact ⟨_,e⟩
 |tbl ps=>exact ⟨_,show h.get? a=some _ from x⟩
 |met f y=>exact ⟨_,show h.get? a=some _ from x⟩
 |ext φ=>obtain ⟨_,⟨_,e⟩,_⟩:=x;exact ⟨_,e⟩
theorem fQ.none_of (k:fQ P w H h) (q:h.get? a=none):H a=none:=by
 cases r:H a with
 |none=>rfl
 |some o=>
  obtain ⟨u,e⟩:=(k a o r).there;rw[q] at e;cases e
theorem yy (u:Un fs [] H H' h0 h) (m:Mv fs ch h h') (hc:∀b∈ch,h0.get? b=none):Un fs [] H H' h0 h' where
 keep:=fun b o q n hb hx=>m.keep b o hb (fun z=>by rw[hc b z] at q;cases q) (u.keep b o q n hb hx)
 slot:=fun b o q n hb hx=>by
  obtain ⟨sl,q1⟩:=u.slot b o q n hb hx;obtain ⟨sl2,q2⟩:=m.slot b _ hb (fun z=>by rw[hc b z] at q;cases q) q1
  exact ⟨sl2,q2⟩
 free:=u.free
 there:=fun b o q hx=>by
  obtain ⟨o1,q1⟩:=u.there b o q hx;exact m.there b o1 q1
 tups:=u.tups
 frzs:=u.frzs
 tbls:=u.tbls
theorem uE (k:fQ P w H h) (m:Mv fs ch h h') (hc:∀b∈ch,H b=none) (hf:∀b∈fs,H b=none):fQ P w H h':=fun a o e=>
 (k a o e).stay (fun b u hb q=>by
  have t:H b≠none:=by
   rcases hb with z|z
   ·rw[z,e];exact fun y=>nomatch y
   ·rw[z];exact fun y=>nomatch y
  exact m.keep b u (fun z=>t (hf b z)) (fun z=>t (hc b z)) q) (fun _ q=>q) fun _ _ q=>q
theorem _root_.XH.Mv.wider (m:Mv [] ch h h'):Mv fs ch h h':=⟨fun b o _ hc q=>m.keep b o (by simp) hc q,fun b o _ hc q=>⟨o.slots,m.keep b o (by simp) hc q⟩,m.there⟩
theorem qR {base:Heap} (u:Un fs [] H H' h h'):∀{l:List Env},h.FunFrames base l->(∀b∈iX l,b∈fs/\H b=none)->h'.FunFrames base l
 | [],_,_=>trivial
 |env::r,⟨hk,⟨L,o,hf,hn,ho,hd⟩,hr⟩,hs=>by
  have hL:L∈iX (env::r):=by unfold iX;rw[GW,hf];exact FW
  obtain ⟨sl,e⟩:=u.slot L o ho (hs L hL).2 (hs L hL).1 (by simp)
  exact ⟨hk,⟨L,_,hf,hn,e,hd⟩,qR u hr fun b hb=>hs b (by unfold iX;rw[GW,hf];exact F8 _ hb)⟩
end
section
variable {P:Program} {w:World} {H H':Hp} {s s':Shared} {a L:Addr} {cls v:Value} {dx:J7} {st:yx} {env:Env} {outer:List Env} {base:Heap} {M:Model} {A:Around} {Z:JY} {Q:Unit->Shared->Prop}
theorem fV.frees (c:fV P w outer H s a H' cls dx st s') (hl:s.heap.FunFrames base outer) (hH:∀b∈iX outer,H b=none):∀b∈iX outer,H' b=none:=fun b hb=>by
 obtain ⟨_,o,ho,_⟩:=hl.mem hb;exact c.un.free b o ho (hH b hb) (by simp)
theorem fV.note (c:fV P w (env::outer) H s a H' cls dx st s') (hfr:A.frames=some (env::outer)) (hf:env.frame=some L) (hl:s.heap.FunFrames base (env::outer)) (hH:∀b∈iX (env::outer),H b=none)
  (h:∀s'',fV P w (env::outer) H s a H' cls dx (.fl (rawInt L)) s''->Q () s''):wpAny M A (noteFrame (.ref a) env) Q Z s':=by
 refine wY hfr (qR c.un hl fun b hb=>⟨hb,hH b hb⟩) hf c.xo fun h' ch hch mv x=>h _ ?_
 refine ⟨c.os,c.bare,yy c.un mv fun b hb=>(hch b hb).1,uE c.hok mv (fun b hb=>(hch b hb).2) (c.frees hl hH),x.mono ?_⟩
 rintro b (q|q)
 ·exact q
 ·refine ⟨?_,c.hok.none_of q⟩;cases r:s.heap.get? b with
  |none=>rfl
  |some o=>
   obtain ⟨o',r'⟩:=c.un.there b o r (by simp)
   rw[r'] at q;cases q
theorem fV.flight {fl:J7} (c:fV P w outer H s a H' cls dx (.fl v) s') (hl:s.heap.FunFrames base outer) (hH:∀b∈iX outer,H b=none)
  (h:∀s'',fV P w outer H s a H' cls dx (.fl (fl.elim .none fun f=>rawInt f)) s''->Q () s''):wpAny M A (setFlight (.ref a) fl) Q Z s':=by
 refine sT c.xo fun h' T hT mv x=>h _ ⟨c.os,c.bare,yy c.un mv.wider fun b hb=>?_,uE c.hok (mv.wider (fs:=iX outer)) (fun b hb=>?_) (c.frees hl hH),x⟩
 ·rw[FA.mp hb];exact hT.1
 ·rw[FA.mp hb];exact hT.2
end
def XS (X:Cx) (E:St->XK):Value->Shared->Prop:=fun e s'=>∃σ H0 s0,aJ X [] σ H0 s0/\d0 X.prog X.w X.stack H0 s0 (E σ) e s'
def jZ (X:Cx) (E:St->XK):Prop:=∀(pins:J1) (σ:St) (H:Hp) (s:Shared) (e:Value) (s':Shared),aJ X pins σ H s->d0 X.prog X.w X.stack H s (E σ) e s'->X.xe e s'
theorem bP {X:Cx} {E:St->XK}:jZ (X.wish (XS X E)) E:=fun pins σ H s e s' I c=>⟨σ,H,s,I.unwish.pins_of (fun p hp=>absurd hp (by simp)),c⟩
def uF (sp:Sp) (dvs:List V) (E:St->XK) (t:TA):TE:=fun σ H Q=>t σ H fun vs H1=>sp (vs++dvs) H1 Q (E σ)
section
variable {X:Cx} {k:Nat} {f C:Addr} {fd:FuncData} {ps:J4} {sp:Sp} {dvs:List V} {ds:J6} {E:St->XK} {x m:Str} {p pos apos:Pos} {e o:Expr} {es:List Expr} {ta:TE} {t:TA}
theorem wZ {pins:J1} {σ:St} {H:Hp} {s:Shared} {Q:VK} {us:J6} {vs:List V} (F:aY X.prog X.w X.K X.mg X.base (d0 X.prog X.w) k f fd ps sp) (hr:bT k X.A) (hb:Binds X.K fd ps ds) (hd:aV dvs ds) (hx:jZ X E)
  (I:aJ X pins σ H s) (r:aV vs us) (h:sp (vs++dvs) H Q (E σ)):wpAny (model X.prog X.w) X.A (call (.ref f) us) (EP X pins σ Q) X.xe s:=by
 have r2:aV (vs++dvs) (us++ds):=r.append hd;have hl:(us++ds).length=ps.length:=by rw[<-r2.length];exact F.len _ _ _ _ h
 refine wpAny_call (codeAny_mono (F.run X.A X.stack s H ⟨us,[]⟩ (us++ds) (vs++dvs) Q (E σ) hr I.env0 (hb s us I.kIn hl) r2 h) fun r s' hq=>?_)
 cases r with
 |error e=>exact hx pins σ H s e s' I hq
 |ok fl=>
  cases fl with
  |ret u=>exact I.after hq
  |next=>exact False.elim hq
  |brk=>exact False.elim hq
  |cont=>exact False.elim hq
theorem uG (F:aY X.prog X.w X.K X.mg X.base (d0 X.prog X.w) k f fd ps sp) (hr:bT k X.A) (hg:Gl X x) (hm:X.mg x=some (.ref f)) (hk:Fl X.K (.ref f)=true) (hb:Binds X.K fd ps ds) (hd:aV dvs ds) (hx:jZ X E)
  (ha:PA X (e::es) t) (hdb:(x==("__debug__" :Str))=false:=by decide) (he:starEach (e::es) X.env=(false,eval e X.env)::starEach es X.env:=by rfl) (hpl:(backTo pos (starEach es X.env)).any (·.1)=false:=by rfl):
  PE X (.Call (.Name x p) (e::es) [] pos) (uF sp dvs E t):=by
 intro pins s σ H Q I h;refine wpAny_Call_Name_kw (cV I hg hm ?_ hdb);refine GH (h₀:=X.base) I.ok.mod.kin hk (bo (ha pos pins s σ H _ I h) fun us s1 ⟨vs,H1,I1,r,q⟩=>⟨I1.kIn,?_⟩) he hpl
 exact wZ F hr hb hd hx I1 r q
end
theorem jA.toX {X:Cx} {E':JY} {st:List Stmt} {t:TS} (h:jA (X.wish E') st t) (k:∀e s,E' e s->X.xe e s):jA X st t:=fun pins s σ H D I hw=>
 wpAny_mono (h pins s σ H D (I.wish _) hw) (fun _ _ q=>q.unwish) fun e s z=>k e s z
section
variable {P:Program} {w:World} {K:F0} {mg:JZ} {base:Heap}
theorem uH {N:J4} {qual:Str} {scope:Scope} {f:Addr} {cd:Value} {A:Around} {outer:List Env} {s:Shared} {H:Hp} {E:XK} {e:Value} {s':Shared}
  (h:XS (fO (d0 P w) P w K mg base N qual scope f cd A outer s H E) (fun _=>E) e s'):(fO (d0 P w) P w K mg base N qual scope f cd A outer s H E).xe e s':=by
 obtain ⟨σ,H0,s0,I,a,H',cls,dx,st,rfl,c,hE⟩:=h;show wpAny (model P w) (A.deeper (envOfC qual scope s.heap.objs.size f cd)) (leaving (envOfC qual scope s.heap.objs.size f cd) (.ref a)) (fun _ s''=>d0 P w outer H s E (.ref a) s'') (fun e' s''=>d0 P w outer H s E e' s'') s'
 unfold leaving;apply wpAny_bind;refine c.note (L:=s.heap.objs.size) I.ok.frames rfl I.stack I.stkFree fun s1 c1=>?_
 refine c1.flight I.stack I.stkFree fun s2 c2=>?_
 have J:=I.call' c2.os c2.un c2.hok c2.bare (fun b z=>absurd z (by simp))
 refine ⟨a,H',cls,dx,ν,⟨J.os,c2.bare,J.base,c2.hok,c2.xo.mono fun b q=>⟨?_,q.2⟩⟩,hE⟩
 cases r:s.heap.get? b with
 |none=>rfl
 |some o=>
  obtain ⟨o',r'⟩:=I.base.there b o r (fun z=>absurd (show b∈([]:J5) from z) (by simp))
  rw[q.1] at r';cases r'
theorem zo {k:Nat} {f:Addr} {name qual:Str} {params:Arguments} {body:List Stmt} {scope:Scope} {dV kV doc pm cdv ct oc:Value} {an od:J7}
  {osl:J3} {N ps:J4} {sp:Sp} (lk:K.lookup f=some ⟨oc,od,.func (Fn name qual params body scope dV kV doc pm an cdv ct),osl⟩) (hcd:G9 K cdv qual=true) (S:aB N ps scope)
  (len:∀vs H Q E,sp vs H Q E->vs.length=ps.length)
  (hbody:∀(A:Around) (outer:List Env) (s:Shared) (H:Hp) (vs:List V) (Q:VK) (E:XK),bT k (A.deeper (envOfC qual scope s.heap.objs.size f cdv))->sp vs H Q E->
   ∃t,jA ((fO (d0 P w) P w K mg base N qual scope f cdv A outer s H E).wish (XS (fO (d0 P w) P w K mg base N qual scope f cdv A outer s H E) fun _=>E)) body t/\t {nx:=fun _ H'=>Q .non H',rt:=Q} (start N vs) H):
  aY P w K mg base (d0 P w) (k+1) f (Fn name qual params body scope dV kV doc pm an cdv ct) ps sp:=by
 refine yt lk hcd S len fun A outer s H vs Q E hr hsp=>?_
 obtain ⟨t,h,q⟩:=hbody A outer s H vs Q E hr hsp;exact ⟨t,h.toX fun e s' z=>uH z,q⟩
theorem aY.noraise {k:Nat} {f:Addr} {fd:FuncData} {ps:J4} {sp sp0:Sp} (F:aY P w K mg base (d0 P w) k f fd ps sp) (h:∀vs H Q E,sp0 vs H Q E->sp vs H Q E0):aY P w K mg base bu k f fd ps sp0:=
 ⟨fun vs H Q E q=>F.len vs H Q E0 (h _ _ _ _ q),fun A outer s H args us vs Q E hr he hb hv hs=>codeAny_mono (F.run A outer s H args us vs Q E0 hr he hb hv (h _ _ _ _ hs)) fun r s' hq=>by
  cases r with
  |error e=>obtain ⟨_,_,_,_,_,_,_,z⟩:=hq;exact z.elim
  |ok fl=>cases fl<;>exact hq⟩
end
abbrev Cx.tried (X:Cx) (pins:J1):Cx:={X with pn:=X.pn++pins}
abbrev Cx.suite (X:Cx) (pins:J1) (a:Addr):Cx:={X with A:=X.A.mark (some (.ref a)),calm:=false,pn:=X.pn++pins,xe:=fun _ _=>False}
noncomputable def c8 (n:Bool) (a:Addr) (cls:Value) (dx:J7):HO:= .ext fun h=>∃ox vs,h.get? a=some ox/\ox.cls=cls/\ox.dict=dx/\ox.data= .fields vs/\vs[2]?=some .none/\(n=true->1<vs.size/\vs[1]?=some .none)
abbrev dW:=c8 false
theorem mq {P:Program} {w:World} {H:Hp} {h:Heap} {n:Bool} {a:Addr} {cls:Value} {dx:J7} {ox:Obj} {vs:Array Value} (h1:h.get? a=some ox) (h2:ox.cls=cls) (h3:ox.dict=dx) (h4:ox.data= .fields vs) (h6:vs[2]?=some .none) (h5:n=true->1<vs.size/\vs[1]?=some .none):bJ P w H h a (c8 n a cls dx):=
 ⟨⟨ox,vs,h1,h2,h3,h4,h6,h5⟩,⟨ox,h1⟩,fun _ _ ⟨oy,ws,q,r⟩ kp=>⟨oy,ws,kp _ q,r⟩⟩
abbrev TH:=Ends->St->Value->J7->Hp->Addr->Prop
def PH (X:Cx) (hs:List ExceptHandler) (th:TH):Prop:=
 ∀(pins:J1) (σ:St) (H0:Hp) (s0:Shared) (D:Ends) (a:Addr) (H':Hp) (cls v:Value) (dx:J7) (s':Shared),aJ X pins σ H0 s0->fV X.prog X.w X.stack H0 s0 a H' cls dx (.fl v) s'->th D σ cls dx H' a->
  wpAny (model X.prog X.w) X.A (handleBy (.ref a) X.env hs) (SP X pins D) X.xe s'
section
variable {X:Cx} {pins:J1} {σ:St} {H H':Hp} {s s':Shared}
theorem aJ.tried (I:aJ X pins σ H s):aJ (X.tried pins) [] σ H s:=
 ⟨⟨I.ok.mod,I.ok.kind,I.ok.glob,I.ok.blt,I.ok.above,I.ok.inj,I.ok.has,I.ok.cab,I.ok.hd,I.ok.frames,I.ok.stk,I.ok.exf,I.ok.bs,I.ok.bsz,I.ok.noex,I.ok.exfs,I.ok.funs,I.ok.frf⟩,
  I.os,I.bare,I.base,I.loc,I.cell,I.free,I.freeC,fun p hp=>I.pin p (by simpa using hp),I.hok,I.len⟩
theorem aJ.untried (I:aJ (X.tried pins) [] σ H s):aJ X pins σ H s:=
 ⟨⟨I.ok.mod,I.ok.kind,I.ok.glob,I.ok.blt,I.ok.above,I.ok.inj,I.ok.has,I.ok.cab,I.ok.hd,I.ok.frames,I.ok.stk,I.ok.exf,I.ok.bs,I.ok.bsz,I.ok.noex,I.ok.exfs,I.ok.funs,I.ok.frf⟩,
  I.os,I.bare,I.base,I.loc,I.cell,I.free,I.freeC,fun p hp=>I.pin p (by simpa using hp),I.hok,I.len⟩
theorem aJ.insuite (I:aJ X pins σ H s) (a:Addr):aJ (X.suite pins a) [] σ H s:=
 ⟨⟨I.ok.mod,I.ok.kind,I.ok.glob,I.ok.blt,I.ok.above,I.ok.inj,I.ok.has,I.ok.cab,fun z=>(Bool.noConfusion z),I.ok.frames,I.ok.stk,I.ok.exf,I.ok.bs,I.ok.bsz,I.ok.noex,I.ok.exfs,I.ok.funs,I.ok.frf⟩,
  I.os,I.bare,I.base,I.loc,I.cell,I.free,I.freeC,fun p hp=>I.pin p (by simpa using hp),I.hok,I.len⟩
theorem aJ.outsuite {a:Addr} (ok:X.Ok) (I:aJ (X.suite pins a) [] σ H s):aJ X pins σ H s:=
 ⟨ok,I.os,I.bare,I.base,I.loc,I.cell,I.free,I.freeC,fun p hp=>I.pin p (by simpa using hp),I.hok,I.len⟩
theorem aJ.unbound {n:Str} {i:Nat} {h':Heap} {m:JZ} {v:J8} {t':Nat} (I:aJ X pins σ H s) (hi:X.N[i]?=some n) (hN:X.N.Nodup)
  (hm:∀(j:Nat) (x:Str) (v:V),X.N[j]?=some x->σ[j]?=some (some v)->C7 X.env.scope x->∃u,RelV v u/\Look X.env s.heap m x u)
  (hn:h'.Ns X.env.locals (fun x=>if x=n then v else m x)) (hs:Heap.SameBut X.env.locals s.heap h'):aJ X pins (σ.set i none) H {s with heap:=h',toks:=t'}:=by
 obtain ⟨m0,hn0,_⟩:=id I.loc;obtain ⟨oL,_,_,hoL,_⟩:=id hn0;have cne:=I.cne;have low:∀b o,X.s₀.heap.get? b=some o->b≠X.env.locals:=fun b o e=>FO (FK (Heap.lt_size e) I.ok.above)
 refine ⟨I.ok,I.os,I.bare,⟨fun b o e n hb hx=>?_,fun b o e n hb hx=>?_,I.base.free,fun b o e hx=>?_,I.base.tups,I.base.frzs,I.base.tbls⟩,⟨_,hn,fun j y v' e1 e2 e3=>?_⟩,fun y c e=>?_,I.free,I.freeC,fun p hp=>?_,fun b ob e=>?_,by simpa using I.len⟩
 ·exact (hs.2 b (low b o e)).trans (I.base.keep b o e n hb hx)
 ·obtain ⟨sl,e1⟩:=I.base.slot b o e n hb hx;exact ⟨sl,(hs.2 b (low b o e)).trans e1⟩
 ·obtain ⟨o',e1⟩:=I.base.there b o e hx;exact ⟨o',(hs.2 b (low b o e)).trans e1⟩
 ·by_cases hj:j=i
  ·subst hj;rw[List.getElem?_set] at e2;simp at e2
  ·rw[List.getElem?_set_ne (Ne.symm hj)] at e2;obtain ⟨u',r',q⟩:=hm j y v' e1 e2 e3;refine ⟨u',r',?_⟩;rcases q with ⟨k,e⟩|⟨k,c,e,z⟩
   ·refine .inl ⟨k,?_⟩;have:y≠n:=fun e=>hj (jS hN e1 (e▸hi))
    simp[this,e]
   ·exact .inr ⟨k,c,e,z.sameBut hs (cne y c e)⟩
 ·obtain ⟨w',z⟩:=I.cell y c e;exact ⟨w',z.sameBut hs (cne y c e)⟩
 ·obtain ⟨e,n,ne,nf,d⟩:=I.pin p hp;exact ⟨(hs.2 p.1 ne).trans e,n,ne,nf,d⟩
 ·refine (I.hok b ob e).stay (fun c w' hc q=>(hs.2 c ?_).trans q) (fun _ q=>q) fun _ _ q=>q
  rintro rfl;rcases hc with rfl|hc
  ·rw[I.free] at e;cases e
  ·rw[I.free] at hc;cases hc
theorem j3 {fs:J5} {h0 h:Heap} {a:Addr} {o:HO} (u:Un fs [] H H' h0 h) (n0:h0.get? a=none) (na:H' a=none):Un fs [] H (aL H' a o) h0 h where
 keep:=u.keep
 slot:=u.slot
 free:=fun b ob q n hx=>by
  have:b≠a:=fun z=>by rw[z,n0] at q;cases q
  rw[ar this];exact u.free b ob q n hx
 there:=u.there
 tups:=fun b xs e=>by
  have q:=u.tups b xs e;rw[ar (aM q na)];exact q
 frzs:=fun b o' w' e=>by
  have q:=u.frzs b o' w' e;rw[ar (aM q na)];exact q
 tbls:=fun b ps e=>by
  obtain ⟨mo,q⟩:=u.tbls b ps e;exact ⟨mo,by rw[ar (aM q na)];exact q⟩
theorem ly {P:Program} {w:World} {h:Heap} {a:Addr} {o:HO} (k:fQ P w H h) (na:H a=none) (new:bJ P w (aL H a o) h a o):fQ P w (aL H a o) h:=fun b u e=>by
 by_cases hb:b=a
 ·subst hb;rw[ac] at e;cases e;exact new
 ·rw[ar hb] at e;exact (k b u e).stay (fun c v _ q=>q) (fun c q=>by rw[ar (aM q na)];exact q) fun c xs q=>by rw[ar (aM q na)];exact q
theorem fV.caughtN {a:Addr} {cls:Value} {dx:J7} (I:aJ X pins σ H s) (c:fV X.prog X.w X.stack H s a H' cls dx .new s'):aJ X pins σ (aL H' a (c8 true a cls dx)) s':=by
 obtain ⟨⟨oe,vs,he,hc,hd,hda,hz,hn⟩,n0,na⟩:=c.xo;refine I.call' c.os (j3 c.un n0 na) (ly c.hok na (mq he hc hd hda hz.2 fun _=>⟨hz.1,hn⟩)) c.bare fun b z=>absurd z (by simp)
theorem fV.caught {a:Addr} {cls:Value} {dx:J7} {st:yx} (I:aJ X pins σ H s) (c:fV X.prog X.w X.stack H s a H' cls dx st s'):aJ X pins σ (aL H' a (dW a cls dx)) s':=by
 obtain ⟨⟨oe,vs,he,hc,hd,hda,hz,_⟩,n0,na⟩:=c.xo;refine I.call' c.os (j3 c.un n0 na) (ly c.hok na (mq he hc hd hda hz.2 fun z=>nomatch z)) c.bare fun b z=>absurd z (by simp)
end
section
variable {X:Cx} {body:List Stmt} {h₀:ExceptHandler} {hs:List ExceptHandler} {pos:Pos} {th:TH}
def Dy (tb:(St->XK)->TS) (th:TH):TS:=fun D σ H=>tb (fun σ' cls dx H'=>∀a,H' a=none->th D σ' cls dx H' a) D σ H
theorem SP.untried {pins:J1} {E:JY} {D:Ends} {f:Flow} {s':Shared} (h:SP ((X.tried pins).wish E) [] D f s'):SP X pins D f s':=by
 cases f with
 |next=>obtain ⟨σ',H',I,q⟩:=h;exact ⟨σ',H',I.unwish.untried,q⟩
 |brk=>obtain ⟨σ',H',I,q⟩:=h;exact ⟨σ',H',I.unwish.untried,q⟩
 |cont=>obtain ⟨σ',H',I,q⟩:=h;exact ⟨σ',H',I.unwish.untried,q⟩
 |ret u=>obtain ⟨v,σ',H',I,r,q⟩:=h;exact ⟨v,σ',H',I.unwish.untried,r,q⟩
theorem uI {tb:(St->XK)->TS} (hstk:X.stack=X.env::X.outer) (hfm:X.env.frame=some X.env.locals)
  (hb:∀(pins:J1) (E:St->XK),jA ((X.tried pins).wish (XS (X.tried pins) E)) body (tb E)) (hh:PH X (h₀::hs) th):PS X (.Try body (h₀::hs) [] [] pos) (Dy tb th):=by
 intro pins s σ H D I h;refine wpAny_Try_except ?_;refine wpAny_mono (hb pins _ [] s σ H D (I.tried.wish _) h) (fun f s1 q=>?_) fun e s1 hx=>?_
 ·have q:=q.untried;cases f with
  |next=>exact wpAny_execs_nil q
  |brk=>exact q
  |cont=>exact q
  |ret u=>exact q
 ·obtain ⟨σ',H0,s0,I0,a,H',cls,dx,st,rfl,c,hE⟩:=hx;have c':fV X.prog X.w (X.env::X.outer) H0 s0 a H' cls dx st s1:=hstk▸c;have J:=I0.untried;have fr:X.A.frames=some (X.env::X.outer):=by rw[<-hstk];exact J.ok.frames
  have st1:s0.heap.FunFrames X.base (X.env::X.outer):=by rw[<-hstk];exact J.stack
  have sf:∀b∈iX (X.env::X.outer),H0 b=none:=by rw[<-hstk];exact J.stkFree
  refine c'.note fr hfm st1 sf fun s2 c2=>?_
  refine c2.flight st1 sf fun s3 c3=>?_
  exact hh pins σ' H0 s0 D a H' cls _ dx s3 J (hstk▸c3) (hE a c3.xo.fr.2)
theorem uJ:PH X [] (fun _ _ _ _ _ _=>False):=fun _ _ _ _ _ _ _ _ _ _ _ _ _ h=>h.elim
end
structure XT (K:F0) (C:Addr):Prop where
 ty:PySem.W.typeIn K (.ref C)=some (.type "type")
 cl:(PySem.W.clsIn K C).isSome=true
 ex:G2 K (.ref C) (.type "BaseException")=some true
theorem iC {K:F0} {M:Model} {h:Heap} {C:Addr} (X:K.In h) (e:(PySem.W.clsIn K C).isSome=true):PySem.W.Looks M h (isType (.ref C)) true:=by
 unfold PySem.W.clsIn at e
 split at e
 ·rename_i ho;intro A' Q' E' s' k q;unfold isType loadHead;exact wpAny_bind (wpAny_loadPart (k _ _ (X _ _ ho)) (wpAny_pure q))
 ·cases e
structure XG (K:F0) (C:Addr):Prop where
 ga:FR K (.ref C) "__getattribute__" =some (some (.builtin "BaseException.__getattribute__"))
 gt:FR K (.ref C) "__getattr__" =some none
 be:PySem.W.mroIn K C (.type "BaseException")=some true
section
variable {prog:Program} {w:World} {A:Around} {E:JY} {K:F0} {h:Heap} {g:Array GenState} {d:Drawn} {t:Nat} {os:OsState} {x C:Addr} {ox:Obj} {od:Option Obj} {name:Str}
open PySem.W in
theorem sU {nameV:Value} {Q:Unit->Shared->Prop} (X:K.In h) (I:InstAt h x ox C od) (G:XG K C) (hq:Q () ⟨h,g,d,t,os⟩):
  wpAny (model prog w) A (checkBuiltinCall "BaseException.__getattribute__" ⟨[.ref x,nameV],[]⟩) Q E ⟨h,g,d,t,os⟩:=by
 have hk:builtinKind "BaseException.__getattribute__" =some .slot:=by decide+kernel
 have hs:splitId "BaseException.__getattribute__" =some ("BaseException","__getattribute__"):=by decide+kernel
 have l0:=I.type (M:=model prog w);have l1:=looks_mroIn (M:=model prog w) X G.be;have ha:=F.args_bexc_ga (.ref x) nameV;have l2:Looks (model prog w) h (isInstance (.ref x) (.type "BaseException")) true:=l0.andThen l1;simp only[checkBuiltinCall,hk,hs];refine wpAny_bind ?_;unfold isInstance;have hx:=I.at_;have hc:=I.cls
 repeat (first|(with_reducible refine wpAny_loadPart_at hx ?_;rw[hc])|with_reducible refine l1.at ?_|wp_step)
 exact hq
open PySem.W in
theorem jy {tk:Tok} {v:Value} {Q:Fin->Shared->Prop} (X:K.In h) (I:InstAt h x ox C od) (hf:findObj K C od name=some (.value v)) (hq:Q (.done (.ret v)) ⟨h,g,d,t,os⟩):
  wpAny (model prog w) A (Builtin.«object.__getattribute__» ⟨[.ref x,.str name tk],[]⟩) Q E ⟨h,g,d,t,os⟩:=by
 have l0:=I.type (M:=model prog w);have l1:=looks_find (M:=model prog w) X I hf;unfold Builtin.«object.__getattribute__»;refine wpAny_bind (wpAny_pure (wpAny_bind (wpAny_pure (wpAny_bind (l0.at (wpAny_bind (l1.at ?_)))))));exact wpAny_pure hq
open PySem.W in
theorem j4 {tk:Tok} {gv a:Value} {Q:Fin->Shared->Prop} (X:K.In h) (I:InstAt h x ox C od) (hf:findObj K C od name=some (.bind gv a))
  (hq:wpAny (model prog w) A (call gv [a,.ref x,.ref C]) (fun v s'=>Q (.done (.ret v)) s') E ⟨h,g,d,t,os⟩):
  wpAny (model prog w) A (Builtin.«object.__getattribute__» ⟨[.ref x,.str name tk],[]⟩) Q E ⟨h,g,d,t,os⟩:=by
 have l0:=I.type (M:=model prog w);have l1:=looks_find (M:=model prog w) X I hf;unfold Builtin.«object.__getattribute__»;refine wpAny_bind (wpAny_pure (wpAny_bind (wpAny_pure (wpAny_bind (l0.at (wpAny_bind (l1.at ?_)))))));show wpAny _ _ (holding [a] (call gv [a,.ref x,.ref C])>>=ret) _ _ _;exact wpAny_bind (wpAny_holding (wpAny_mono hq (fun v s' z=>wpAny_pure z) fun _ _ z=>z))
open PySem.W in
theorem uK {tk:Tok} {fill expr:Bool} {Q:JY} (X:K.In h) (I:InstAt h x ox C od) (G:XG K C)
  (hq:∀A':Around,wpAny (model prog w) A' (Builtin.«object.__getattribute__» ⟨[.ref x,.str name tk],[]⟩) (fun fin s'=>match fin with| .done (.ret v)=>wpAny (model prog w) A (handedOut v) Q E s'|_=>False) (fun _ _=>False) ⟨h,g,d,t,os⟩):
  wpAny (model prog w) A (getAttrBy (.ref x) (.str name tk) fill expr) Q E ⟨h,g,d,t,os⟩:=by
 have l0:=I.type (M:=model prog w);have l1:=looks_findIn (M:=model prog w) X G.ga;have l2:=looks_findIn (M:=model prog w) X G.gt;have fb:=F.attrBase_ValueError;have f3:=fb.ga.bind (.ref x);unfold getAttrBy;refine wpAny_holding (wpAny_bind (l0.at (wpAny_bind (l1.at ?_))));have hx2:(Value.builtin "BaseException.__getattribute__" ==Value.builtin "object.__getattribute__")=false:=by decide+kernel
 simp only[hx2,Bool.and_false,Bool.false_eq_true,if_false];unfold getAttrByItsOwn hookBefore;refine wpAny_bind ?_;rw[if_pos (show onTheHeap (.ref C)=true from rfl)]
 refine l2.at ?_;refine wpAny_bind (wpAny_attempt (wpAny_holding ?_));unfold callGetattribute;rw[if_neg (by cases expr<;>exact FJ)]
 unfold boundAndCalled;refine wpAny_bind (wpAny_of_eq f3 ?_);refine wpAny_call (codeAny_call_builtin fb.ga.plain F.entry_bexc_ga (sU X I G (wpAny_mono (hq _) (fun fin s' z=>?_) fun _ _ z=>z.elim)))
 rcases fin with (_|_|_|_)|_<;>first|exact z.elim|exact z
end
section
variable {prog:Program} {w:World} {A:Around} {E:JY} {K:F0}
theorem j5 {h:Heap} {g:Array GenState} {d:Drawn} {t:Nat} {os:OsState} {e C C':Addr} {oe:Obj} {b:Bool} {Q:Bool->Shared->Prop} (KX:K.In h) (he:h.get? e=some oe) (hc:oe.cls= .ref C) (T:XT K C')
  (hsub:G2 K (.ref C) (.ref C')=some b) (hq:Q b ⟨h,g,d,t,os⟩):wpAny (model prog w) A (excMatches (.ref e) (.ref C')) Q E ⟨h,g,d,t,os⟩:=by
 have l1:=PySem.W.looks_typeIn (M:=model prog w) KX T.ty;have l2:=PySem.W.looks_subIn (M:=model prog w) KX T.ex;have l3:=PySem.W.looks_subIn (M:=model prog w) KX hsub;have l4:=iC (M:=model prog w) KX T.cl;have l5:PySem.W.Looks (model prog w) h (isInstance (.ref C') (.type "tuple")) false:=l1.andThen (PySem.W.Looks.of_pure tc_notTuple);have l6:PySem.W.Looks (model prog w) h (isExcClass (.ref C')) true:=by
  unfold isExcClass;refine l4.andThen ?_;exact l2
 unfold excMatches
 repeat (first|with_reducible refine wpAny_bind (l5.at ?_)|with_reducible refine wpAny_bind (l6.at ?_)|with_reducible refine wpAny_bind (l3.at ?_)|(with_reducible refine wpAny_loadPart_at he ?_;rw[hc])|wp_step)
 cases b<;>(wp_walk;exact hq)
end
noncomputable def BD (i:Nat) (D:Ends):Ends:={nx:=fun σ H=>D.nx (σ.set i none) H,rt:=D.rt,bk:=fun σ H=>D.bk (σ.set i none) H,ct:=fun σ H=>D.ct (σ.set i none) H}
def Dz (K:F0) (C':Addr) (t:TS) (r:TH):TH:=fun D σ cls dx H a=>∃C b,cls= .ref C/\G2 K (.ref C) (.ref C')=some b/\
 if b=true then t D σ (aL H a (dW a cls dx)) else r D σ cls dx H a
section
variable {X:Cx} {x n:Str} {np pos:Pos} {b0:Stmt} {suite:List Stmt} {rest:List ExceptHandler} {i:Nat} {C':Addr} {t:TS} {th:TH}
theorem xc {pins:J1} {a:Addr} {D:Ends} {f:Flow} {s:Shared} {M:Model} {A:Around} {E:JY} (ok:X.Ok) (hN:X.N.Nodup) (hi:X.N[i]?=some n) (hloc:X.env.scope.names.lookup n=some .local)
  (q:SP (X.suite pins a) [] (BD i D) f s):wpAny M A (do bindName X.env n .none;unbindBehindTheSuite X.env n pos) (fun _ s'=>SP X pins D f s') E s:=by
 have hcls:(X.env.scope.kind== .class||(X.env.scope.kind== .module&&X.env.locals !=X.env.globals))=false:=by rw[ok.kind];rfl
 cases f with
 |next=>
  obtain ⟨σ,H,I,q⟩:=q;have J:=I.outsuite ok;obtain ⟨m,hn,hl⟩:=id J.loc;exact wpAny_nameGoes_keeps hloc hn hcls fun h' v hn' hs=>⟨_,H,J.unbound hi hN hl hn' hs,q⟩
 |brk=>
  obtain ⟨σ,H,I,q⟩:=q;have J:=I.outsuite ok;obtain ⟨m,hn,hl⟩:=id J.loc;exact wpAny_nameGoes_keeps hloc hn hcls fun h' v hn' hs=>⟨_,H,J.unbound hi hN hl hn' hs,q⟩
 |cont=>
  obtain ⟨σ,H,I,q⟩:=q;have J:=I.outsuite ok;obtain ⟨m,hn,hl⟩:=id J.loc;exact wpAny_nameGoes_keeps hloc hn hcls fun h' v hn' hs=>⟨_,H,J.unbound hi hN hl hn' hs,q⟩
 |ret u=>
  obtain ⟨v,σ,H,I,r,q⟩:=q;have J:=I.outsuite ok;obtain ⟨m,hn,hl⟩:=id J.loc;exact wpAny_nameGoes_keeps hloc hn hcls fun h' v' hn' hs=>⟨v,_,H,J.unbound hi hN hl hn' hs,r,q⟩
theorem SP.outsuite {pins:J1} {a:Addr} {D:Ends} {f:Flow} {s:Shared} (ok:X.Ok) (h:SP (X.suite pins a) [] D f s):SP X pins D f s:=by
 cases f with
 |next=>obtain ⟨σ',H',I,q⟩:=h;exact ⟨σ',H',I.outsuite ok,q⟩
 |brk=>obtain ⟨σ',H',I,q⟩:=h;exact ⟨σ',H',I.outsuite ok,q⟩
 |cont=>obtain ⟨σ',H',I,q⟩:=h;exact ⟨σ',H',I.outsuite ok,q⟩
 |ret u=>obtain ⟨v,σ',H',I,r,q⟩:=h;exact ⟨v,σ',H',I.outsuite ok,r,q⟩
theorem BE (T:XT X.K C') (hg:Gl X x) (hm:X.mg x=some (.ref C'))
  (hs:∀(pins:J1) (a:Addr),jA (X.suite pins a) (b0::suite) t) (hrest:PH X rest th) (hd:(x==("__debug__" :Str))=false:=by decide):
  PH X (.ExceptHandler (some (.Name x np)) none (b0::suite) pos::rest) (Dz X.K C' t th):=by
 intro pins σ H0 s0 D a H' cls v dx s' I c h;obtain ⟨C,b,rfl,hsub,h⟩:=h;have J:aJ X pins σ H' s':=I.call' c.os c.un c.hok c.bare (fun b z=>absurd z (by simp))
 obtain ⟨oe,vs,he,hc,_,_,_⟩:=c.xo.ex;refine wpAny_handleBy_cons (codeAny_handlers_test (cV (X:=X.suite pins a) (J.insuite a) hg hm ?_ hd)) (by intro q;cases q)
 have KX:=J.kIn;obtain ⟨hh,g,d,tk,os⟩:=s';refine j5 KX he hc T hsub ?_;cases b with
 |false=>exact hrest pins σ H0 s0 D a H' _ v dx _ I c h
 |true=>
  refine codeAny_handlers_suite ?_;refine c.flight I.stack I.stkFree fun s2 c2=>?_
  have J2:=(c2.caught I).insuite a;refine wpAny_mono (hs pins a [] s2 _ _ _ J2 h) (fun f s4 q=>?_) fun _ _ z=>z.elim
  exact q.outsuite I.ok
theorem uL {E:St->XK} (hstk:X.stack=X.env::X.outer) (hfm:X.env.frame=some X.env.locals):PassesOwn (model X.prog X.w) X.A X.env (XS X E):=by
 intro e s1 hx;obtain ⟨σ',H0,s0,J,a,H',cls,dx,st,rfl,c,hE⟩:=hx;have c':fV X.prog X.w (X.env::X.outer) H0 s0 a H' cls dx st s1:=hstk▸c;have fr:X.A.frames=some (X.env::X.outer):=by rw[<-hstk];exact J.ok.frames
 have st1:s0.heap.FunFrames X.base (X.env::X.outer):=by rw[<-hstk];exact J.stack
 have sf:∀b∈iX (X.env::X.outer),H0 b=none:=by rw[<-hstk];exact J.stkFree
 unfold notedBy;refine c'.note fr hfm st1 sf fun s2 c2=>?_
 unfold cameBackBy;obtain ⟨oe,vs,he,_,_,hd,_,T,_,_,h1,_⟩:=c2.xo.ex;apply wpAny_bind;apply wpAny_field he hd h1;rw[if_neg (by simp)]
 refine c2.flight st1 sf fun s3 c3=>?_
 exact ⟨σ',H0,s0,J,a,H',cls,dx,ν,hstk▸c3,hE⟩
end
noncomputable def wz:J6:= [.type "ValueError",.type "Exception",.type "BaseException",.type "object"]
theorem zp {K:F0} {h:Heap} {C:Addr} {bmB:J6} {nw:String} (X:K.In h) (q:GU K C bmB nw=true):
  ∃bm N nm qn bs hdct sn sub ab col dd k0 k1 k2 k3 k5 mN,h.get? C=some (excClassObj nm qn C N bs bm hdct sn sub ab col dd k0 k1 k2 k3 k5 nw)/\h.Ns N mN/\mN "__init__" =none/\OwnTail h bmB bm:=by
 unfold GU at q
 split at q
 ·rename_i dd cd sl ho
  split at q
  ·rename_i C' bm k0 k1 k2 k3 n k5 hm hs;simp only[GN,beq_iff_eq,Bool.not_eq_true'] at q;obtain ⟨⟨⟨⟨⟨e1,e2⟩,hdel⟩,ht⟩,hok⟩,hni⟩:=q;subst e1 e2;obtain ⟨nm,bs,mro,ns,qn,hd,sn,sub,ab,col,del⟩:=cd;dsimp only at hm hdel hok hni;subst hm hdel;obtain ⟨l⟩:=sl;have hl:l= [k0,k1,k2,k3,some (.builtin n),k5]:=hs;subst hl;exact ⟨bm,ns,nm,qn,bs,hd,sn,sub,ab,col,dd,k0,k1,k2,k3,k5,_,X _ _ ho,.of_isNs (PySem.W.isNs_of_in X hok),PySem.W.nsMap_none_of_in X hok hni,PySem.W.tail_of_in X ht⟩
  ·cases q
 ·cases q
def zq (C:Addr) (E:St->XK) (t:TA):TS:=fun _ σ H=>t σ H fun vs H1=>vs.length<=sizeLine/\E σ (.ref C) none H1
section
variable {X:Cx} {x:Str} {np cpos pos:Pos} {e₀:Expr} {rest:List Expr} {C:Addr} {t:TA} {E:St->XK}
theorem qS {pins:J1} {σ:St} {H:Hp} {s:Shared} {h':Heap} {e:Addr} {us:J6} (I:aJ X pins σ H s) (mk:Heap.MadeExcOf s.heap h' e (.ref C) us):fV X.prog X.w X.stack H s e H (.ref C) none .new {s with heap:=h'}:=by
 obtain ⟨t,ht,_,_⟩:=mk.there;exact ⟨rfl,I.bare,Un.kept mk.keeps,I.hok.kept mk.keeps,⟨⟨_,_,ht,rfl,rfl,rfl,⟨by show 1<6;decide,rfl⟩,rfl⟩,mk.new,I.hok.none_of mk.new⟩⟩
theorem j6 (q:GU X.K C wz "ValueError.__new__" =true) (hg:Gl X x) (hm:X.mg x=some (.ref C)) (hc:X.calm=true) (hp:jZ X E) (ha:PA X (e₀::rest) t) (hd:(x==("__debug__" :Str))=false:=by decide)
  (he:starEach (e₀::rest) X.env=(false,eval e₀ X.env)::starEach rest X.env:=by rfl) (hpl:(backTo cpos (starEach rest X.env)).any (·.1)=false:=by rfl):
  PS X (.Raise (some (.Call (.Name x np) (e₀::rest) [] cpos)) none pos) (zq C E t):=by
 intro pins s σ H D I h;obtain ⟨bm,N,nm,qn,bs,hdct,sn,sub,ab,col,dd,k0,k1,k2,k3,k5,mN,hC,hN,hni,TL⟩:=zp I.ok.mod.kin q;have F:=PySem.F.excBase_ValueError;have W:=ha cpos pins s σ H _ I h;refine wpAny_Raise_call_subT (C:=C) (nm:=nm) (q:=qn) (N:=N) (bs:=bs) (bm:=bm) (hdct:=hdct) (sn:=sn) (sub:=sub) (ab:=ab) (col:=col) (dd:=dd) (k0:=k0) (k1:=k1) (k2:=k2) (k3:=k3) (k5:=k5) (mN:=mN)
  F (TL.hasType F.hasBase) (I.ok.hd hc) (by rw[he];exact hpl) hni (cV I hg hm ⟨rfl,?_⟩ hd)
 rw[he] at W⊢;refine Calls.evalArgs_plain (bo W fun us s2 ⟨vs,H1,I1,r,hl,z⟩=>⟨rfl,by rw[<-r.length];exact hl,I1.bk _ _ hC,hN.keeps I1.bk,TL.keeps I1.bk,fun h' e mk=>?_⟩)
 exact hp pins σ H1 s2 _ _ I1 ⟨e,H1,.ref C,none,.new,rfl,qS I1 mk,z⟩
end
structure XI (K:F0) (C:Addr):Prop where
 gg:XG K C
 cl:(PySem.W.clsIn K C).isSome=true
 at_:FR K (.ref C) "__class__" =some (some (.builtin "object.__class__"))
 gt:PySem.W.specialIn K (.builtin "object.__class__") "__get__" =some (some (.builtin "getset_descriptor.__get__"))
 tk:PySem.W.takesIn K (.builtin "object.__class__")=some true
 ob:PySem.W.mroIn K C (.type "object")=some true
theorem findObj_cls {K:F0} {C:Addr} {od:Option Obj} (x:XI K C):PySem.W.findObj K C od "__class__" =some (.bind (.builtin "getset_descriptor.__get__") (.builtin "object.__class__")):=by
 obtain ⟨cd,hc⟩:=Fd.mp x.cl;unfold PySem.W.findObj;rw[hc,Option.bind_some,x.at_,Option.bind_some];simp[x.gt,x.tk]
theorem nO {K:F0} {a C:Addr} (x:XI K C):PySem.W.KitX K (.ref a) (.ref C) (fun h=>∃ox od,PySem.W.InstAt h a ox C od) where
 ty:=fun _ _ _ ⟨_,_,I⟩=>I.type
 it:=fun _ _ X _=>iC X x.cl
 ne:=fun h tp dd its n sl X htp=>by
  refine Bool.eq_false_iff.mpr fun q=>?_
  have e:C=tp:=Value.ref.inj (beq_iff_eq.mp q);subst e;have c:=x.cl;unfold PySem.W.clsIn at c
  split at c
  ·rename_i ho;have z:=(X _ _ ho).symm.trans htp;cases z
  ·cases c
 ca:=fun {_ _ _ _ _ s} X I k=>by
  obtain ⟨ox,od,I⟩:=I;obtain ⟨hh,g,d,t,os⟩:=s;unfold getAttr? getAttrBy?;refine wpAny_bind (wpAny_mkText (wpAny_bind (wpAny_attempt (uK (h:=hh) X I x.gg fun A'=>j4 X I (findObj_cls x) ?_))))
  exact wpAny_call (PySem.W.class_get (s:=⟨hh,g,d,t+1,os⟩) (ox:=ox) (od:=od) X I x.ob (PySem.W.handed_on rfl (wpAny_pure k)))
def yA (H:Hp) (dx:J7):Prop:=match dx with
 |none=>True
 |some d=>∃fs,H d=some (.xd fs)
theorem qT {X:Cx} {pins:J1} {σ:St} {H:Hp} {s:Shared} {a C:Addr} {n:Bool} {dx:J7} (I:aJ X pins σ H s) (e:H a=some (c8 n a (.ref C) dx)) (d:yA H dx):∃ox od,PySem.W.InstAt s.heap a ox C od:=by
 obtain ⟨⟨ox,vs,h1,h2,h3,h4,_⟩,_⟩:=(show bJ X.prog X.w H s.heap a (c8 n a (.ref C) dx) from I.hok a _ e)
 have nc:PySem.W.notCls ox=true:=by unfold PySem.W.notCls;rw[h4]
 cases dx with
 |none=>exact ⟨ox,none,h1,h2,nc,by rw[h3];trivial⟩
 |some d'=>
  obtain ⟨fs,hd⟩:=d;obtain ⟨mA,⟨o,es,ep,e',_⟩,_⟩:=(show bJ X.prog X.w H s.heap d' (.xd fs) from I.hok d' _ hd)
  exact ⟨ox,some o,h1,h2,nc,by rw[h3];exact e'⟩
inductive DA (K:F0) (C:Addr):V->Bool->Prop where
 |own {D:Addr} {b:Bool} (h:F3 K (.ref C) (.ref D)=some b):DA K C (.ref D) b
 |ty {T:String} {b:Bool} (h:F3 K (.ref C) (.type T)=some b):DA K C (.ty T) b
theorem cQ {X:Cx} {K:F0} (hK:X.K=K):dJ X (.builtin "isinstance") (fun xs H Q=>∃a C dx c b,xs= [.ref a,c]/\(∃n,H a=some (c8 n a (.ref C) dx))/\yA H dx/\XI K C/\DA K C c b/\Q (.bl b) H):=by
 subst hK;intro pins s σ H xs us Q I r h;obtain ⟨a,C,dx,c,b,rfl,⟨n,e⟩,d,xi,xs,q⟩:=h;obtain ⟨u,w',rfl,e1,e2⟩:=vals2 r;cases e1;cases xs with
 |own h=>
  cases e2;exact Fy (nO xi) I.kIn (qT I e d) h (fun z=>nomatch z) fun tk=>⟨.bl b,H,I.tok tk,rfl,q⟩
 |ty h=>
  cases e2;exact Fy (nO xi) I.kIn (qT I e d) h (fun z=>nomatch z) fun tk=>⟨.bl b,H,I.tok tk,rfl,q⟩
abbrev Cx.block (X:Cx) (scope:Scope) (cl:List (Str×Addr)) (C:Addr) (N:J4) (own:Str) (fp:J5) (s:Shared) (H:Hp):Cx:=
 {X with env:=compEnvC scope cl C X.env,N:=N,s₀:=s,H₀:=H,outer:=X.stack,stack:=X.stack,ex:=fp,fn:=fun y=>y==own,pn:= [],xe:=fun _ _=>False}
structure i7 (X:Cx) (scope:Scope) (cl:List (Str×Addr)) (own:Str) (ys:J4) (js:List Nat):Prop where
 clos:closureFor scope X.env=pure cl
 nocell:(scope.names.all fun p=> !(p.2== .cell))=true
 kind:scope.kind= .function
 loc:(scope.names.all fun p=> !(p.2== .local)||scope.names.lookup p.1==some .local)=true
 ownL:scope.names.lookup own=some .local
 sub:∀p∈cl,X.env.cells.lookup p.1=some p.2
 has:((relabel scope X.env).names.all fun p=> !(p.2== .cell||p.2== .free)||(cl.lookup p.1).isSome)=true
 noown:cl.lookup own=none
 nd:(own::ys).Nodup
 at_:∀(i:Nat) (y:Str),ys[i]?=some y->∃j:Nat,js[i]?=some j/\X.N[j]?=some y/\(X.env.scope.names.lookup y=some .cell∨X.env.scope.names.lookup y=some .free)/\((relabel scope X.env).names.lookup y=some .cell∨(relabel scope X.env).names.lookup y=some .free)
 len:js.length=ys.length
noncomputable def a7 (js:List Nat) (σ:St):St:=js.map fun j=>(σ[j]?).getD none
def lA (js:List Nat) (te:TE) (σ:St) (Q:VK):It->Hp->Prop:=fun J H1=>∀p,H1 p=none->∃W:Nat->Nat->List V->Hp->Prop,(∃m,W 0 m [] (aL H1 p (.lst [])))/\
 ∀i m ys H2,W i m ys H2->H2 p=some (.lst ys)/\((J.stop i H2/\Q (.ref p) H2)∨(J.go i H2/\ys.length<sizeLine/\∀x H3,J.yld i H2 x H3->te (some x::a7 js σ) H3 fun y H4=>H4 p=some (.lst ys)/\∃m',m'<m/\W (i+1) m' (ys++ [y]) (aL H4 p (.lst (ys++ [y])))))
def qU (wi:TI) (js:List Nat) (te:TE):TE:=fun σ H Q=>wi σ H (lA js te σ Q)
theorem lookup_all {α:Type} {f:Str×α->Bool} {x:Str} {a:α}:∀{l:List (Str×α)},l.all f=true->l.lookup x=some a->f (x,a)=true:=by
 intro l h e;exact G1.mp h _ (Fs e)
section
variable {prog:Program} {w:World} {A:Around} {R:Result->Shared->Prop} {s:Shared}
theorem fv {elt target iter:Expr} {scope:Scope} {pos:Pos} {it acc:Value} {env:Env} (I:Nat->Shared->Prop)
  (turn:∀n s,I n s->wpAny (model prog w) A (pyNext it) (fun r s1=>match r with
   |none=>R (.ok .next) s1
   |some v=>wpAny (model prog w) A (letOwnedTupleGo target it v) (fun _ s2=>wpAny (model prog w) A (assign target env v) (fun _ s3=>wpAny (model prog w) A (eval elt env) (fun x s4=>
     wpAny (model prog w) A (call (.builtin "list.append") [acc,x]) (fun _ s5=>∃m,m<n/\I m s5) (fun _ _=>False) s4) (fun _ _=>False) s3) (fun _ _=>False) s2) (fun _ _=>False) s1) (fun _ _=>False) s)
  (n:Nat) (h:I n s):codeAny (model prog w) A (.compLoop (.ListComp elt [⟨target,iter,[],0⟩] scope pos) 0 it acc env) R s:=by
 apply codeAny_loop rfl I ?_ n h;intro n s hI;show wpAny _ _ ((compTurn (.ListComp elt [⟨target,iter,[],0⟩] scope pos) 0 it acc env).onRaise _) _ _ s;apply wpAny_noted;rw[compTurn_list1];apply wpAny_bind;apply wpAny_standAt;apply wpAny_bind;refine wpAny_mono (turn n s hI) (fun r s1 h1=>?_) fun _ _ z=>z.elim
 cases r with
 |none=>exact wpAny_pure h1
 |some v=>
  apply wpAny_bind;refine wpAny_mono h1 (fun _ s2 h2=>?_) fun _ _ z=>z.elim
  apply wpAny_bind;refine wpAny_mono h2 (fun _ s3 h3=>?_) fun _ _ z=>z.elim
  apply wpAny_bind;apply wpAny_bind;refine wpAny_mono h3 (fun x s4 h4=>?_) fun _ _ z=>z.elim
  apply wpAny_bind;refine wpAny_mono h4 (fun _ s5 h5=>?_) fun _ _ z=>z.elim
  exact wpAny_pure (wpAny_pure ⟨rfl,h5⟩)
end
section
variable {X:Cx} {scope:Scope} {cl:List (Str×Addr)} {own:Str} {ys:J4} {js:List Nat} {fp:J5} {pins:J1} {σ:St} {H:Hp} {s s4:Shared}
theorem jq {h1:Heap} (ok:i7 X scope cl own ys js) (I:aJ X pins σ H s) (hf:∀b∈fp,dE X pins H b) (hlt:∀b∈fp,b<s.heap.objs.size) (hns:h1.Ns s.heap.objs.size (fun _=>none))
  (hk:∀b o,s.heap.get? b=some o->h1.get? b=some o) (tk:Nat):
  aJ (X.block scope cl s.heap.objs.size (own::ys) own fp s H) [] (none::a7 js σ) H {s with heap:=h1,toks:=tk}:=by
 have sub:∀y c,cl.lookup y=some c->X.env.cells.lookup y=some c:=fun y c e=>ok.sub (y,c) (Fs e)
 refine ⟨⟨I.ok.mod,ok.kind,I.ok.glob,I.ok.blt,F5 _,fun x y c e1 e2=>I.ok.inj x y c (sub x c e1) (sub y c e2),fun x hx=>?_,fun x c e1 e2=>?_,I.ok.hd,I.ok.frames,.inl rfl,fun b hb=>⟨FO (hlt b hb),fun x c e=>(hf b hb).2.2.2.2.1 x c (sub x c e)⟩,
  I.bs,FH I.ok.bsz I.sz,fun b o e hb=>?_,fun b hb z=>?_,I.stack,I.stkFree⟩,rfl,I.bare,Un.kept hk,⟨_,hns,fun i y v e1 e2 e3=>?_⟩,fun y c e=>?_,I.hok.fresh (F5 _),fun y c e=>I.freeC y c (sub y c e),fun p hp=>absurd (show p∈([]:J1) from hp) (by simp),I.hok.kept hk,?_⟩
 ·have hx':(relabel scope X.env).names.lookup x=some .cell∨(relabel scope X.env).names.lookup x=some .free:=hx;rcases hx' with z|z
  ·have q:=lookup_all ok.has z;simp only[beq_self_eq_true,Bool.true_or,GQ,GR] at q;exact Fd.mp q
  ·have q:=lookup_all ok.has z;simp only[beq_self_eq_true,Bool.or_true,GQ,GR] at q;exact Fd.mp q
 ·have e1':(x==own)=true:=e1;have e:x=own:=beq_iff_eq.mp e1';have e2':cl.lookup x=some c:=e2;rw[e,ok.noown] at e2';cases e2'
 ·rcases (hf b hb).2.2.2.1 with z|z
  ·exact I.ok.noex b o e z
  ·exact absurd (FK (Heap.lt_size (I.ok.bs b o e).1) z) (GY _)
 ·rcases F4.mp (I.stkSub b z) with q|q
  ·exact (hf b hb).2.1 q
  ·exact (hf b hb).2.2.1 q
 ·cases i with
  |zero=>cases e2
  |succ i=>
   have e1':ys[i]?=some y:=e1;obtain ⟨j,hj,hN,hX,hc⟩:=ok.at_ i y e1';have e2':(a7 js σ)[i]?=some (some v):=e2;unfold a7 at e2';rw[FG,hj] at e2';have hs:σ[j]?=some (some v):=by
    cases q:σ[j]? with
    |none=>rw[Option.map_some,q] at e2';cases e2'
    |some o=>rw[Option.map_some,q] at e2';exact e2'
   obtain ⟨m,hn,hl⟩:=I.loc;obtain ⟨u,r,l⟩:=hl j y v hN hs (hX.elim (fun z=> .inr (.inl z)) fun z=> .inr (.inr z))
   refine ⟨u,r,.inr ⟨hc,?_⟩⟩;rcases l with ⟨k,_⟩|⟨k,c,hcl,hcell⟩
   ·have k':X.env.scope.names.lookup y=some .local:=k;rcases hX with z|z<;>(rw[z] at k';cases k')
   ·have ex:∃c',cl.lookup y=some c':=by
     rcases hc with z|z
     ·have q:=lookup_all ok.has z;simp only[beq_self_eq_true,Bool.true_or,GQ,GR] at q;exact Fd.mp q
     ·have q:=lookup_all ok.has z;simp only[beq_self_eq_true,Bool.or_true,GQ,GR] at q;exact Fd.mp q
    obtain ⟨c',hc'⟩:=ex;have e:=sub y c' hc';rw[hcl] at e;cases e;obtain ⟨oc,hoc,hd⟩:=hcell;exact ⟨c,hc',oc,hk _ _ hoc,hd⟩
 ·obtain ⟨v,oc,hoc,hd⟩:=I.cell y c (sub y c e);exact ⟨v,oc,hk _ _ hoc,hd⟩
 ·show (none::a7 js σ).length=(own::ys).length;simp[a7,ok.len]
theorem lB {H':Hp} {h':Heap} {σ':St} (I:aJ X pins σ H s) (hf:∀b∈fp,dE X pins H b) (J:aJ (X.block scope cl s.heap.objs.size (own::ys) own fp s H) [] σ' H' s4) (hs:Heap.SameBut s.heap.objs.size s4.heap h'):
  aJ X pins σ H' {s4 with heap:=h'}:=by
 have low:∀b o,s.heap.get? b=some o->b≠s.heap.objs.size:=fun b o e=>FO (Heap.lt_size e)
 have B:=J.base;have u:Un (iX X.stack) fp H H' s.heap h':={
  keep:=fun b o q n hb hx=>(hs.2 b (low b o q)).trans (B.keep b o q n hb hx)
  slot:=fun b o q n hb hx=>by
   obtain ⟨sl,e⟩:=B.slot b o q n hb hx;exact ⟨sl,(hs.2 b (low b o q)).trans e⟩
  free:=B.free
  there:=fun b o q hx=>by
   obtain ⟨o',e⟩:=B.there b o q hx;exact ⟨o',(hs.2 b (low b o q)).trans e⟩
  tups:=B.tups
  frzs:=B.frzs
  tbls:=B.tbls}
 have hn:H' s.heap.objs.size=none:=J.free;have hk:fQ X.prog X.w H' h':=fun a o e=>(J.hok a o e).stay (fun b v hb q=>(hs.2 b (by
  intro z;rcases hb with z'|z'
  ·rw[<-z',z,hn] at e;cases e
  ·rw[z,hn] at z';cases z')).trans q) (fun _ q=>q) fun _ _ q=>q
 exact I.call' (s':={s4 with heap:=h'}) (ch:=fp) J.os u hk J.bare fun b hb=>⟨(hf b hb).2.2.2.1,(hf b hb).2.1,(hf b hb).2.2.2.2.1,(hf b hb).2.2.2.2.2⟩
end
section
variable {X:Cx} {scope:Scope} {cl:List (Str×Addr)} {own:Str} {ys:J4} {js:List Nat} {elt iter:Expr} {px pos:Pos} {wi:TI} {te:TE}
theorem sV (hc:X.calm=true) (ok:i7 X scope cl own ys js) (hi:PI X (.Name own px) iter wi)
  (he:∀(C:Addr) (fp:J5) (s:Shared) (H:Hp),PE (X.block scope cl C (own::ys) own fp s H) elt te)
  (hs:∀x,foldedSetIterable iter X.env x=pure x)
  {pins:J1} {s:Shared} {σ:St} {H:Hp} {Q:VK} {use:Option (Value->Sem Unit)} {QQ:JY} {pp:Pos} (I:aJ X pins σ H s) (h:(qU wi js te) σ H Q)
  (fin:∀(p C:Addr) (s6:Shared) (H5:Hp) (v:Flow),(∃m,s6.heap.Ns C m)->(∀h',Heap.SameBut C s6.heap h'->aJ X pins σ H5 {s6 with heap:=h'})->dE X pins H5 C->Q (.ref p) H5->compPost (model X.prog X.w) X.A X.xe use QQ (.ref p) C (.ok v) s6):
  wpAny (model X.prog X.w) X.A (comprehension (.ListComp elt [⟨.Name own px,iter,[],0⟩] scope pos) scope X.env pp (newList []) false (eval iter X.env) use) QQ X.xe s:=by
 have ncell:∀y∈scope.names,y.2≠ .cell:=fun y hy z=>by
  have q:=G1.mp ok.nocell y hy;rw[z] at q;simp at q
 have nloc:∀y∈scope.names,y.2= .local->scope.names.lookup y.1=some .local:=fun y hy z=>by
  have q:=G1.mp ok.loc y hy;rw[z] at q
  simpa using q
 refine wpAny_comprehension_free rfl hs ok.clos ok.kind nloc (bo (hi pins s σ H _ I h) fun v s1 h1=>bo h1 fun itv s2 h2=>?_)
 obtain ⟨it,fp,tn,J,H2,rfl,I2,T,st2,f2,q2⟩:=h2;obtain ⟨W,⟨m0,w0⟩,turn⟩:=q2 s2.heap.objs.size (I2.hok.fresh (F5 _));refine wpAny_newObj_type (wpAny_newFunctionEnv ncell (by intro y hy;simp at hy) (fun h1 hns hsb=>?_) ok.kind)
 have I3:=I2.laid (a:=s2.heap.objs.size) (o:= .lst []) (h':=s2.heap.push {cls:= .type "list",dict:=none,data:= .seq ([]:J6).toArray}) (t':=s2.toks) (fun b u q=>Heap.get?_push_of_some _ q) (F5 _)
  ⟨G7 _,[],0,.nil,Heap.get?_push_size _ rfl⟩
 have fpo:∀b∈fp,b<s2.heap.objs.size:=fun b hb=>by
  obtain ⟨o,e,_⟩:=T.obj 0 _ st2 b hb;exact Heap.lt_size e
 have f3:∀b∈fp,dE X pins (aL H2 s2.heap.objs.size (.lst [])) b:=fun b hb=>⟨by rw[ar (FO (fpo b hb))];exact (f2 b hb).1,(f2 b hb).2⟩
 generalize hs3:({s2 with heap:=s2.heap.push {cls:= .type "list",dict:=none,data:= .seq ([]:J6).toArray},toks:=s2.toks}:Shared)=s3 at I3
 have e3:s3.heap=s2.heap.push {cls:= .type "list",dict:=none,data:= .seq ([]:J6).toArray}:=by rw[<-hs3]
 have lt3:∀b∈fp,b<s3.heap.objs.size:=fun b hb=>by rw[e3,Heap.size_push];exact Nat.lt_succ_of_lt (fpo b hb)
 dsimp only at hns hsb⊢;rw[<-e3] at hns hsb;have hk:∀b o,s3.heap.get? b=some o->h1.get? b=some o:=fun b o e=>hsb.extBut b o (FO (Heap.lt_size e)) (Heap.get?_push_of_some _ e)
 have J0:=jq (h1:=h1) ok I3 f3 lt3 hns hk (s2.toks+0);have t0:tn 0 h1:=T.keep 0 _ _ st2 fun b hb o e=>hk b o (by rw[e3];exact Heap.get?_push_of_some _ e)
 have fpB:∀{H':Hp},(∀b∈fp,H' b=none)->∀b∈fp,dE (X.block scope cl s3.heap.objs.size (own::ys) own fp s3 (aL H2 s2.heap.objs.size (.lst []))) [] H' b:=fun {H'} hn b hb=>
  ⟨hn b hb,FO (lt3 b hb),fun z=>(F4.mp (I3.stkSub b z)).elim (f3 b hb).2.1 (f3 b hb).2.2.1,.inl hb,fun x c e=>(f3 b hb).2.2.2.2.1 x c (ok.sub (x,c) (Fs e)),fun p hp=>absurd (show p∈([]:J1) from hp) (by simp)⟩
 have loop:codeAny (model X.prog X.w) X.A (.compLoop (.ListComp elt [⟨.Name own px,iter,[],0⟩] scope pos) 0 (.ref it) (.ref s2.heap.objs.size) (compEnvC scope cl s3.heap.objs.size X.env))
   (compPost (model X.prog X.w) X.A X.xe use QQ (.ref s2.heap.objs.size) s3.heap.objs.size) {s3 with heap:=h1,toks:=s2.toks+0}:=by
  refine fv (fun n s'=>∃i zs o0 H',aJ (X.block scope cl s3.heap.objs.size (own::ys) own fp s3 (aL H2 s2.heap.objs.size (.lst []))) [] (o0::a7 js σ) H' s'/\tn i s'.heap/\(∀b∈fp,H' b=none)/\W i n zs H') ?_ m0
   ⟨0,[],none,_,J0,t0,fun b hb=>(f3 b hb).1,w0⟩
  rintro n s5 ⟨i,zs,o0,H5,I5,t5,n5,w5⟩;obtain ⟨hD,hw⟩:=turn i n zs H5 w5;rcases hw with ⟨stop,qn⟩|⟨go,hz,step⟩
  ·refine bo (T.done (X.block scope cl s3.heap.objs.size (own::ys) own fp s3 (aL H2 s2.heap.objs.size (.lst []))) rfl rfl rfl hc i [] s5 _ H5 (fun _ _=>False) I5 (fpB n5) t5 stop) fun r s6 ⟨hr,I6⟩=>?_
   subst hr;obtain ⟨m,hn,_⟩:=id I6.loc;exact fin _ _ s6 H5 _ ⟨m,hn⟩ (fun h' hs'=>lB I3 f3 I6 hs') (I3.fpOk (F5 _) (show H5 s3.heap.objs.size=none from I6.free)) qn
  ·refine bo (T.item (X.block scope cl s3.heap.objs.size (own::ys) own fp s3 (aL H2 s2.heap.objs.size (.lst []))) rfl rfl rfl hc i [] s5 _ H5 (fun _ _=>False) I5 (fpB n5) t5 go) fun r s6 ⟨u,hr,h6⟩=>?_
   subst hr;refine bo h6 fun _ s7 ⟨x,H7,I7,r7,y7,t7,n7⟩=>?_
   have I7':=I7.pinned (fpB n7) (T.obj _ _ t7);have hst:=step x H7 y7;have own':(relabel scope X.env).names.lookup own=some .local:=lookup_relabel_local ok.ownL;refine bo (jC (X:=X.block scope cl s3.heap.objs.size (own::ys) own fp s3 (aL H2 s2.heap.objs.size (.lst []))) (i:=0) (x:=own) (pos:=px) ok.nd rfl (.inl own') (.inr own') _ s7 _ H7 x u (fun σ' H'=>σ'=some x::a7 js σ/\H'=H7) I7' r7 ⟨rfl,rfl⟩) fun _ s8 ⟨σ8,H8,I8,e8,eH8⟩=>?_
   subst e8 eH8;refine bo (he _ _ _ _ _ s8 _ H8 _ I8 hst) fun yv s9 ⟨y,H9,I9,r9,hD9,m',hm,w9⟩=>?_
   refine bo (bG _ s9 _ H9 (.ref s2.heap.objs.size) [y] (.ref s2.heap.objs.size) [yv] (fun _ H'=>H'=aL H9 s2.heap.objs.size (.lst (zs++ [y]))) I9 rfl (.cons r9 .nil) ⟨_,zs,y,rfl,rfl,hD9,hz,rfl⟩) fun _ s10 ⟨_,H10,I10,_,e10⟩=>?_
   subst e10;refine ⟨m',hm,i+1,zs++ [y],some x,_,I10.unpinned,T.keep _ _ _ t7 fun b hb o e=>(I10.pin (b,o) (F9 _ (F9 _ (bX hb e)))).1,fun b hb=>?_,w9⟩
   obtain ⟨o,e,d⟩:=T.obj _ _ t7 b hb;exact (I10.pin (b,o) (F9 _ (F9 _ (bX hb e)))).2.1
 subst hs3;exact codeAny_compStart_list loop (T.self _ 0 _ _ _ t0 loop)
theorem eI (hc:X.calm=true) (ok:i7 X scope cl own ys js) (hi:PI X (.Name own px) iter wi)
  (he:∀(C:Addr) (fp:J5) (s:Shared) (H:Hp),PE (X.block scope cl C (own::ys) own fp s H) elt te)
  (hs:∀x,foldedSetIterable iter X.env x=pure x:=by intro _;rfl):PE X (.ListComp elt [⟨.Name own px,iter,[],0⟩] scope pos) (qU wi js te):=fun pins s σ H Q I h=>by
 rw[eval_ListComp];exact sV hc ok hi he hs I h fun p C s6 H5 v ⟨m,hn⟩ J _ q=>⟨m,hn,fun h' hs'=>⟨.ref p,H5,J h' hs',rfl,q⟩⟩
end
open PySem.Builtin PySem.Builtin.ObjectAttr
structure XA (K:F0) (C S:Addr):Prop where
 sa:FR K (.ref C) "__setattr__" =some (some (.builtin "object.__setattr__"))
 mro:(PySem.W.clsIn K C).map (·.mro)=some (.ref C:: .ref S::wz)
 dct:PySem.W.hasDictIn K C=true
 ob:PySem.W.mroIn K C (.type "object")=some true
theorem uM (self:Value) (C S:Addr):refuseLoop self "__setattr__" (.ref C:: .ref S::wz)=pure ():=by
 rw[refuseLoop_ref,refuseLoop_ref]
 kernel_rfl
section
variable {prog:Program} {w:World} {A:Around} {E:JY} {s:Shared} {K:F0} {x C S:Addr} {ox:Obj} {od:Option Obj} {name:Str} {v:Value}
open PySem.W in
theorem xf {R:Result->Shared->Prop} {tk:Tok} (X:K.In s.heap) (I:InstAt s.heap x ox C od) (N:XA K C S) (hn:findIn K (.ref C) name=some none)
  (h:wpAny (model prog w) A.in1 (storeInOwnDict (.ref x) (.ref C) (.str name tk) name v false) (fun fin s'=>match fin with| .done f=>R (.ok f) s'| .again c'=>c'.quiet=true/\codeAny (model prog w) A c' R s') (fun e s'=>R (.error e) s') s):
  codeAny (model prog w) A (.call (.builtin "object.__setattr__") ⟨[.ref x,.str name tk,v],[]⟩) R s:=by
 have so:=PySem.F.store_object;obtain ⟨cd,hc,hm⟩:=FQ.mp N.mro;have sub:Looks (model prog w) s.heap (isInstance (.ref x) (.type "object")) true:=I.type.andThen (looks_mroIn X N.ob);have lm:Looks (model prog w) s.heap (mroOf (.ref C)) cd.mro:=(looks_clsIn X hc).andThen .now;have ck:∀{A':Around} {Q':Unit->Shared->Prop} {E':JY},Q' () s->wpAny (model prog w) A' (checkBuiltinCall "object.__setattr__" ⟨[.ref x,.str name tk,v],[]⟩) Q' E' s:=fun {A' Q' E'} q=>
  check_slot (M:=model prog w) (A:=A') (E:=E') (s:=s) (i:= "object.__setattr__") (owner:= "object") (n:= "__setattr__") (self:= .ref x) (rest:= [.str name tk,v]) (kw:= []) (Q:=Q') so.kind so.split sub (so.args (.ref x) (.str name tk) v) q
 refine codeAny_call_builtin so.slot.plain so.entry (ck ?_);rw[osa_eq,refuse_eq];refine wpAny_bind (wpAny_bind (I.type.here ?_));refine wpAny_bind (lm.here ?_);rw[hm,uM];refine wpAny_pure (wpAny_bind ?_);refine I.type.here (wpAny_bind ?_);refine (looks_findIn X hn).here (wpAny_bind (wpAny_pure ?_));exact h
open PySem.W in
theorem xg {vs:Array Value} {Q:Unit->Shared->Prop} (X:K.In s.heap) (he:s.heap.get? x=some ox) (hc:ox.cls= .ref C) (hdx:ox.dict=none) (hda:ox.data= .fields vs) (N:XA K C S) (hn:findIn K (.ref C) name=some none)
  (h:∀h',(∀b o,b≠x->s.heap.get? b=some o->h'.get? b=some o)->h'.get? x=some {ox with dict:=some s.heap.objs.size}->h'.Ns1 s.heap.objs.size (fun y=>if y=name then some v else none)->
   Q () {s with heap:=h',toks:=s.toks+2}):wpAny (model prog w) A (setAttr (.ref x) name v) Q E s:=by
 have I:InstAt s.heap x ox C none:=⟨he,hc,by unfold notCls;rw[hda],by rw[hdx];trivial⟩
 apply set_plain X I N.sa;have I2:InstAt ({s with toks:=s.toks+1}:Shared).heap x ox C none:=I
 apply xf (s:={s with toks:=s.toks+1}) X I2 N hn
 obtain ⟨cd,hcd,hd⟩:=any_some N.dct;obtain ⟨oc,odi,oda,osl⟩:=ox;dsimp only at hc hdx hda;subst hc hdx hda;refine wpAny_bind (wpAny_pure (wpAny_bind (wpAny_bind (wpAny_loadPart he ?_))));refine wpAny_bind (Looks.here (s:={s with toks:=s.toks+1}) (looks_clsIn X hcd) ?_)
 rw[hd];show wpAny _ _ (alloc {cls:= .type "dict",data:= .dict #[]}>>=fun d=>update x (fun o=>{o with dict:=some d})>>=fun _=>dictMade (.ref C) x d) _ _ _
 refine wpAny_bind (wpAny_alloc ?_);have lt:=Heap.lt_size he;have hne:x≠s.heap.objs.size:=FO lt;have he1:=Heap.get?_push_of_some (h:=s.heap) {cls:= .type "dict",data:= .dict #[]} he;have e1:(s.heap.push FU).get? s.heap.objs.size=some FU:=Heap.get?_push_size s.heap rfl;have e2:(s.heap.push FU).Ns s.heap.objs.size (fun _=>none):=⟨FU,#[],_,e1,rfl,(fun e he=>absurd he (by simp)),fun _=>rfl⟩
 refine wpAny_bind (wpAny_update he1 ?_);refine wpAny_pure ?_;have up:∀b,b≠x->((s.heap.push FU).update x (fun o=>{o with dict:=some s.heap.objs.size})).get? b=(s.heap.push FU).get? b:=fun b hb=>Heap.get?_update_other _ _ (Ne.symm hb)
 have e3:((s.heap.push FU).update x (fun o=>{o with dict:=some s.heap.objs.size})).Ns1 s.heap.objs.size (fun _=>none):=(Heap.Ns1.of_empty e2).at fun o q=>(up _ (Ne.symm hne)).trans q
 have e4:((s.heap.push FU).update x (fun o=>{o with dict:=some s.heap.objs.size})).get? x=some ⟨.ref C,some s.heap.objs.size,.fields vs,osl⟩:=Heap.get?_update_self _ he1 rfl
 refine wpAny_bind (wpAny_pure (wpAny_bind ?_));refine wpAny_nsSet1 (s:=⟨(s.heap.push FU).update x (fun o=>{o with dict:=some s.heap.objs.size}),s.gens,s.drawn,s.toks+1,s.os⟩) e3 fun h' hn2 hs2=>?_
 obtain ⟨oD,esD,epD,hoD,hdD,hcD⟩:=hn2.count (ns:= [name]) (PySem.Within.cons (ns:= []) name v (fun y hy=>absurd rfl hy))
 refine wpAny_bind (wpAny_lookBehind hoD (by rw[hdD];exact pastItsLine_dict (FH hcD (by show 1<=sizeLine+1;decide))) ?_)
 refine wpAny_pure (h h' (fun b o hb q=>?_) ((hs2.2 x hne).trans e4) hn2)
 have hbd:b≠s.heap.objs.size:=FO (Heap.lt_size q);exact (hs2.2 b hbd).trans ((up b hb).trans (Heap.get?_push_of_some _ q))
end
def BF (K:F0) (ta tv:TE) (f:Str):TS:=fun D σ H=>tv σ H fun y H1=>ta σ H1 fun x H2=>∃a C S n,x= .ref a/\H2 a=some (c8 n a (.ref C) none)/\XA K C S/\FR K (.ref C) f=some none/\
 ∀d,H2 d=none->D.nx σ (aL (aL H2 d (.xd [(f,y)])) a (c8 n a (.ref C) (some d)))
section
variable {X:Cx} {o value:Expr} {f:Str} {pos pos':Pos} {ta tv:TE}
theorem xh {pins:J1} {σ:St} {H:Hp} {s:Shared} {a C S:Addr} {y:V} {u:Value} {n:Bool} {A:Around} {E:JY} {Q:Unit->Shared->Prop} (I:aJ X pins σ H s) (e:H a=some (c8 n a (.ref C) none)) (N:XA X.K C S)
  (hn:FR X.K (.ref C) f=some none) (ry:RelV y u) (h:∀d s',H d=none->aJ X pins σ (aL (aL H d (.xd [(f,y)])) a (c8 n a (.ref C) (some d))) s'->Q () s'):
  wpAny (model X.prog X.w) A (setAttr (.ref a) f u) Q E s:=by
 obtain ⟨⟨ox,vs,h1,h2,h3,h4,h6,h5⟩,_⟩:=(show bJ X.prog X.w H s.heap a (c8 n a (.ref C) none) from I.hok a _ e)
 refine xg I.kIn h1 h2 h3 h4 N hn fun h' kp ha hd=>?_
 have nd:H s.heap.objs.size=none:=I.hok.fresh (F5 _);have ad:a≠s.heap.objs.size:=aM e nd;refine h s.heap.objs.size _ nd ?_;have ne:∀b o,H b=some o->b≠s.heap.objs.size:=fun b o q=>aM q nd
 have nea:∀b,H b=none->b≠a:=fun b q z=>by rw[z,e] at q;cases q
 refine I.un (t':=s.toks+2) (h':=h') ⟨?_,?_,?_,?_,?_,?_,?_⟩ ?_
 ·intro b o q n hb _;exact kp b o (nea b n) q
 ·intro b o q n hb _;exact ⟨o.slots,kp b o (nea b n) q⟩
 ·intro b o q n _;rw[ar (nea b n),ar (FO (Heap.lt_size q))];exact n
 ·intro b o q _
  by_cases hb:b=a
  ·subst hb;exact ⟨_,ha⟩
  ·exact ⟨o,kp b o hb q⟩
 ·intro b xs q;have hb:b≠a:=jR q e (by intro z;cases z)
  rw[ar hb,ar (ne b _ q)];exact q
 ·intro b o' u' q;have hb:b≠a:=jR q e (by intro z;cases z)
  rw[ar hb,ar (ne b _ q)];exact q
 ·intro b ps q;have hb:b≠a:=jR q e (by intro z;cases z)
  exact ⟨#[],by rw[ar hb,ar (ne b _ q),q];simp⟩
 ·intro b ob q
  by_cases hb:b=a
  ·subst hb;rw[ac] at q;cases q;exact mq ha h2 rfl h4 h6 h5
  ·rw[ar hb] at q
   by_cases hbd:b=s.heap.objs.size
   ·subst hbd;rw[ac] at q;cases q;refine ⟨_,hd,fun g=>?_⟩
    show ma (GO g [(f,y)]) (if g=f then some u else none)
    by_cases hg:g=f
    ·subst hg;rw[if_pos rfl];simp only[GO,beq_self_eq_true];exact ry
    ·rw[if_neg hg];have:(g==f)=false:=beq_eq_false_iff_ne.mpr hg;simp only[GO,this]
     trivial
   ·rw[ar hbd] at q;refine (I.hok b ob q).stay (fun c v hc z=>kp c v (fun y=>?_) z) (fun c z=>?_) fun c xs z=>?_
    ·rcases hc with z'|z'
     ·exact hb (z'.symm.trans y)
     ·rw[y,e] at z';cases z'
    ·have hc:c≠a:=jR z e (by intro z;cases z)
     rw[ar hc,ar (ne c _ z)];exact z
    ·have hc:c≠a:=jR z e (by intro z;cases z)
     rw[ar hc,ar (ne c _ z)];exact z
end
section
variable {X:Cx} {o e value:Expr} {f:Str} {pos pos':Pos} {ta tv:TE}
theorem ms {K:F0} (hK:X.K=K) (ha:PE X o ta) (hv:PE X value tv) (hs:swapsWith value (some (.Attribute o f pos')) pos.line X.env=pure false):PS X (.Assign [.Attribute o f pos'] value pos) (BF K ta tv f):=by
 subst hK;intro pins s σ H D I h;refine plainObj_wpAny_Assign_Attribute (bo (hv pins s σ H _ I h) fun u s1 ⟨y,H1,I1,ry,q⟩=>bo (ha pins s1 σ H1 _ I1 q) fun ov s2 ⟨x,H2,I2,rx,a,C,S,nb,ex,ea,n,hn,q2⟩=>?_) hs
 subst ex;obtain rfl:ov=Value.ref a:=rx;exact xh I2 ea n hn ry fun d s3 nd I3=>⟨σ,_,I3,q2 d nd⟩
structure XF (K:F0) (C:Addr) (f:Str):Prop where
 gg:XG K C
 dct:PySem.W.hasDictIn K C=true
 no:FR K (.ref C) f=some none
def BG (K:F0) (ta:TE) (f:Str):TE:=fun σ H Q=>ta σ H fun x H1=>∃a C d fs v n,x= .ref a/\H1 a=some (c8 n a (.ref C) (some d))/\H1 d=some (.xd fs)/\XF K C f/\fs.lookup f=some v/\Q v H1
theorem qV {K:F0} (hK:X.K=K) (he:PE X e ta) (hb:attributeBase e f X.env (eval e X.env)=eval e X.env):PE X (.Attribute e f pos) (BG K ta f):=by
 subst hK;intro pins s σ H Q I h;refine qI hb (bo (he pins s σ H _ I h) fun ov s1 ⟨x,H1,I1,rx,a,C,d,fs,v,nb,ex,ea,ed,n,l,q⟩=>?_)
 subst ex;obtain rfl:ov=Value.ref a:=rx;obtain ⟨⟨ox,vs,h1,h2,h3,h4,_⟩,_⟩:=(show bJ X.prog X.w H1 s1.heap a (c8 nb a (.ref C) (some d)) from I1.hok a _ ea)
 obtain ⟨mA,ns,rel⟩:=(show bJ X.prog X.w H1 s1.heap d (.xd fs) from I1.hok d _ ed)
 obtain ⟨od,hod,lk⟩:=kX ns;obtain ⟨u,hu,ru⟩:=ma.some_of (v:=v) (o:=mA f) (by rw[<-l];exact rel f)
 have J:PySem.W.InstAt s1.heap a ox C (some od):=⟨h1,h2,by unfold PySem.W.notCls;rw[h4],by rw[h3];exact hod⟩
 have KX:=I1.kIn;have I2:=I1.tok (s1.toks+1);obtain ⟨hh,g,dr,t,os⟩:=s1;unfold getAttr;refine wpAny_bind (wpAny_mkText (uK (h:=hh) KX J n.gg fun A'=>jy KX J (PySem.W.findObj_own n.dct n.no rfl (by rw[lk,hu])) ?_))
 exact PySem.W.handed_on (kY ru) ⟨v,H1,I2,ru,q⟩
end
theorem xj {K:F0} {h:Heap} {N:Addr} {mg:JZ} {n:Str} {v:Value} (X:K.In h) (G:h.Ns N mg) (e:FD K N n=some (some v)):mg n=some v:=by
 obtain ⟨o,es,ep,ho,hd,_,hf⟩:=G;unfold FD at e
 split at e
 ·rename_i q;have z:=X _ _ q;rw[ho] at z;cases z;cases hd
  split at e
  ·rename_i he;cases e;rw[<-hf];unfold nsFind findBy;rw[<-Array.find?_toList,he]
   rfl
  ·split at e<;>cases e
 ·cases e
structure A8 (K:F0) (C f:Addr):Prop where
 ex:∃bm N nm q bs hdct sn sub ab col dd k0 k1 k2 k3 k5,K.lookup C=some (excClassObj nm q C N bs bm hdct sn sub ab col dd k0 k1 k2 k3 k5 "ValueError.__new__")/\PySem.W.nsOkIn K N=true/\FD K N "__init__" =some (some (.ref f))/\PySem.W.tailIn K wz bm=true
 fn:PySem.W.typeIn K (.ref f)=some (.type "function")
 kp:Fl K (.ref C)=true
section
variable {prog:Program} {w:World} {A:Around} {E:JY} {h:Heap} {g:Array GenState} {d:Drawn} {t:Nat} {os:OsState}
variable {nm q:Str} {C N:Addr} {bs bm:J6} {hdct:Bool} {sn:J4} {sub:J6} {ab:Bool} {col:Option Bool} {dd:J7} {k0 k1 k2 k3 k5:J8}
theorem j7 {mN:JZ} {rest:J6} {fI:Addr} {oI:Obj} {Q:Fin->Shared->Prop} (tl:OwnTail h wz bm)
  (cl:h.get? C=some (excClassObj nm q C N bs bm hdct sn sub ab col dd k0 k1 k2 k3 k5 "ValueError.__new__")) (nn:h.Ns N mN) (ni:mN "__init__" =some (.ref fI)) (gI:h.get? fI=some oI) (cI:oI.cls= .type "function")
  (kq:∀h' e,Heap.MadeExcOf h h' e (.ref C) rest->wpAny (model prog w) A (call (.ref fI) (.ref e::rest)) (fun r s'=>r= .none/\Q (.done (.ret (.ref e))) s') E ⟨h',g,d,t,os⟩) (lr:rest.length<=sizeLine):
  wpAny (model prog w) A (Builtin.«type.__call__» ⟨.ref C::rest,[]⟩) Q E ⟨h,g,d,t,os⟩:=by
 have FV:=PySem.F.excBase_ValueError
 repeat (first|with_reducible refine wpAny_loadPart_at cl ?_|with_reducible refine wpAny_madeBy_exc cl ?_|wp_step)
 refine codeAny_call_builtin_code (Code.quiet_builtin _ FV.quiet) (wpAny_check_new_subT FV tl cl ?_);refine codeAny_exc_new_subT FV tl cl ?_ lr;show wpAny _ _ _ _ _ _;generalize hp:(h.push {cls:= .type "tuple",data:= .seq rest.toArray}).push {cls:= .ref C,data:= .fields #[.ref h.objs.size,.none,.none,.none,.bool false,.none]}=h2;have kp:∀b o,h.get? b=some o->h2.get? b=some o:=fun b o z=>by rw[<-hp];exact Heap.get?_push_of_some _ (Heap.get?_push_of_some _ z)
 have ge:h2.get? (h.objs.size+1)=some {cls:= .ref C,data:= .fields #[.ref h.objs.size,.none,.none,.none,.bool false,.none]}:=by rw[<-hp];heap_get
 have gt:h2.get? h.objs.size=some {cls:= .type "tuple",data:= .seq rest.toArray}:=by rw[<-hp];exact Heap.get?_push_of_some _ (Heap.get?_push_at rfl rfl)
 have cl2:=kp _ _ cl;have nn2:h2.Ns N mN:=nn.keeps kp;have self:(Value.ref C::bm).contains (.ref C)=true:=by simp
 unfold isInstance
 repeat (first|with_reducible refine wpAny_loadPart_at ge ?_|(with_reducible refine wpAny_isSubtype_exc cl2 ?_;rw[self])|wp_step)
 show wpAny _ _ (typeLookup (.ref C) _) _ _ _;refine wpAny_typeLookup_tail cl2 nn2 (tl.keeps kp) FV.mroIs FV.init.lookup ?_;rw[ni];refine wpAny_holding (wpAny_bind ?_);unfold bindSpecial;refine wpAny_bind (wpAny_typeOf (T:= "function") ⟨_,kp _ _ gI,cI⟩ ?_);rw[if_pos (by decide)]
 refine wpAny_pure (wpAny_bind ?_);refine wpAny_mono (kq h2 (h.objs.size+1) ⟨kp,Heap.get?_none_of_le (Nat.le_succ _),h.objs.size,ge,Heap.get?_none_of_le (F5 _),gt⟩) (fun r s' hr=>?_) fun _ _ z=>z
 obtain ⟨rfl,z⟩:=hr
 wp_walk
 exact z
theorem sW {mN:JZ} {rest:J6} {fI:Addr} {oI:Obj} {Q:JY} (tl:OwnTail h wz bm)
  (cl:h.get? C=some (excClassObj nm q C N bs bm hdct sn sub ab col dd k0 k1 k2 k3 k5 "ValueError.__new__")) (nn:h.Ns N mN) (ni:mN "__init__" =some (.ref fI)) (gI:h.get? fI=some oI) (cI:oI.cls= .type "function")
  (kq:∀h' e,Heap.MadeExcOf h h' e (.ref C) rest->wpAny (model prog w) (A.under (.builtin "type.__call__" ⟨.ref C::rest,[]⟩)) (call (.ref fI) (.ref e::rest)) (fun r s'=>r= .none/\Q (.ref e) s') E ⟨h',g,d,t,os⟩) (lr:rest.length<=sizeLine):
  wpAny (model prog w) A (call (.ref C) rest) Q E ⟨h,g,d,t,os⟩:=by
 have a1:=tc_lookup;have a2:=tc_bind (.ref C);have ty:(⟨h,g,d,t,os⟩:Shared).TypeIs (.ref C) "type" :=⟨_,cl,rfl⟩;refine wpAny_call (codeAny_of_tree ?_);show wpAny _ _ (callAny (.ref C) _) _ _ _
 repeat (any_goals (first|assumption|with_reducible refine wpAny_loadPart_at cl ?_|wp_step))
 refine ⟨rfl,?_⟩;refine codeAny_call_builtin_at (Code.quiet_builtin _ (by decide+kernel)) entry_typeCall (wpAny_check_type_call_sub cl ?_)
 exact j7 tl cl nn ni gI cI (fun h' e mk=>kq h' e mk) lr
end
section
variable {X:Cx} {x:Str} {p pos:Pos} {e:Expr} {es:List Expr} {C fI:Addr} {t:TA} {k:Nat} {fd:FuncData} {ps:J4} {sp:Sp}
theorem uN {pins:J1} {σ:St} {H:Hp} {s:Shared} {Q:JY} {us:J6} {vs:List V} {E:JY} {R:Addr->Hp->Prop} (M:A8 X.K C fI) (F:aY X.prog X.w X.K X.mg X.base bu k fI fd ps sp) (hr:bT (k+1) X.A) (hb:Binds X.K fd ps [])
  (I:aJ X pins σ H s) (r:aV vs us) (lr:vs.length<=sizeLine) (h:∀a,H a=none->sp (.ref a::vs) (aL H a (c8 true a (.ref C) none)) (fun v H2=>v= .non/\R a H2) E0)
  (hq:∀a h' H2 s2,Heap.MadeExcOf s.heap h' a (.ref C) us->s2.os=s.os->AllBare s2.gens->Un (iX X.stack) [] H H2 s.heap s2.heap->fQ X.prog X.w H2 s2.heap->R a H2->Q (.ref a) s2):
  wpAny (model X.prog X.w) X.A (call (.ref C) us) Q E s:=by
 obtain ⟨bm,N,nm,qn,bs,hdct,sn,sub,ab,col,dd,k0,k1,k2,k3,k5,lk,ok,ini,tl⟩:=M.ex;have KX:=I.kIn;have lr':us.length<=sizeLine:=by rw[<-r.length];exact lr
 have fn:=M.fn;unfold PySem.W.typeIn at fn;obtain ⟨oI,gI,cI⟩:=FQ.mp fn;have nn:s.heap.Ns N (s.heap.nsMap N):= .of_isNs (PySem.W.isNs_of_in KX ok);have key:=fun h' a (mk:Heap.MadeExcOf s.heap h' a (.ref C) us)=>(qS I mk).caughtN I
 have un:=fun h' a (mk:Heap.MadeExcOf s.heap h' a (.ref C) us)=>j3 (o:=c8 true a (.ref C) none) (Un.kept (fs:=iX X.stack) (ex:= []) (H:=H) mk.keeps) mk.new (I.hok.none_of mk.new)
 obtain ⟨hh,g,d,tk,os⟩:=s;refine sW (PySem.W.tail_of_in KX tl) (KX _ _ lk) nn (xj KX nn ini) (KX _ _ gI) cI (fun h' a mk=>?_) lr'
 have I2:=key h' a mk;have na:H a=none:=I.hok.none_of mk.new;have hs:=h a na;have r2:aV (V.ref a::vs) (Value.ref a::us):= .cons rfl r;have hl:(Value.ref a::us++ []).length=ps.length:=by
  rw[Fm,<-r2.length];exact F.len _ _ _ _ hs
 have hb':=hb ⟨h',g,d,tk,os⟩ (Value.ref a::us) I2.kIn hl;rw[Fm] at hb';refine wpAny_call (codeAny_mono (F.run _ X.stack _ _ ⟨Value.ref a::us,[]⟩ (Value.ref a::us) _ _ E0 (hr.make C us []) (I2.env0.make C us []) hb' r2 hs) fun rr s' hq'=>?_)
 cases rr with
 |error z=>exact hq'.elim
 |ok fl=>
  cases fl with
  |ret u=>
   obtain ⟨v,H2,os',bare,un2,hok,rv,ev,q2⟩:=hq';subst ev;exact ⟨rv,hq a h' H2 s' mk os' bare ((un h' a mk).trans un2) hok q2⟩
  |next=>exact False.elim hq'
  |brk=>exact False.elim hq'
  |cont=>exact False.elim hq'
end
section
variable {M:Model} {A:Around} {E:JY} {env:Env}
variable {nm q:Str} {C N:Addr} {bs bm:J6} {hdct:Bool} {sn:J4} {sub:J6} {ab:Bool} {col:Option Bool} {dd:J7} {k0 k1 k2 k3 k5:J8} {nw:String}
theorem sX {s:Shared} {x:Sem Value} {Q:Flow->Shared->Prop} (hb:bm.contains (.type "BaseException")=true) (hh:A.handled=none)
  (h:wpAny M A x (fun v s1=>∃e dx ws sl,v= .ref e/\s1.heap.get? C=some (excClassObj nm q C N bs bm hdct sn sub ab col dd k0 k1 k2 k3 k5 nw)/\s1.heap.get? e=some ⟨.ref C,dx,.fields ws,sl⟩/\ws[1]?=some .none/\E (.ref e) s1) E s):
  wpAny M A (raiseStmt env (some x) none) Q E s:=by
 have cb:(Value.ref C::bm).contains (.type "BaseException")=true:=by rw[List.contains_cons,hb,Bool.or_true]
 unfold raiseStmt;apply wpAny_bind;refine wpAny_mono h (fun v s1 h1=>?_) fun _ _ z=>z
 obtain ⟨e,dx,ws,sl,rfl,cl,ge,n1,he⟩:=h1;obtain ⟨hp,g,d,tk,os⟩:=s1
 repeat (first|with_reducible refine wpAny_loadPart_at ge ?_|with_reducible refine wpAny_loadPart_at cl ?_|(with_reducible refine wpAny_isSubtype_exc cl ?_;rw[cb])|wp_step)
 rw[n1];refine wpAny_pure ?_;rw[if_neg (by decide)]
 exact wpAny_pure (wpAny_raiseNew_none hh he)
end
noncomputable def del (H:Hp) (a:Addr):Hp:=fun b=>if b=a then none else H b
theorem fw {H:Hp} {a b:Addr} (h:b≠a):del H a b=H b:=if_neg h
theorem j8 {H:Hp} {a:Addr}:del H a a=none:=if_pos rfl
theorem zr {fs:J5} {H H2:Hp} {h0 h:Heap} {a:Addr} (u:Un fs [] H H2 h0 h) (na:H a=none):Un fs [] H (del H2 a) h0 h where
 keep:=u.keep
 slot:=u.slot
 free:=fun b o q n hx=>by
  by_cases hb:b=a
  ·rw[hb,j8]
  ·rw[fw hb];exact u.free b o q n hx
 there:=u.there
 tups:=fun b xs e=>by rw[fw (aM e na)];exact u.tups b xs e
 frzs:=fun b o w e=>by rw[fw (aM e na)];exact u.frzs b o w e
 tbls:=fun b ps e=>by rw[fw (aM e na)];exact u.tbls b ps e
theorem xm {P:Program} {w:World} {H:Hp} {h:Heap} {a:Addr} {φ:Heap->Prop} (k:fQ P w H h) (e:H a=some (.ext φ)):fQ P w (del H a) h:=fun b o q=>by
 by_cases hb:b=a
 ·rw[hb,j8] at q;cases q
 ·rw[fw hb] at q;refine (k b o q).stay (fun c v _ z=>z) (fun c z=>?_) fun c xs z=>?_
  ·rw[fw (jR z e (by intro y;cases y))];exact z
  ·rw[fw (jR z e (by intro y;cases y))];exact z
def qW (C:Addr) (sp:Sp) (E:St->XK) (t:TA):TS:=fun _ σ H=>t σ H fun vs H1=>vs.length<=sizeLine/\∀a,H1 a=none->sp (.ref a::vs) (aL H1 a (c8 true a (.ref C) none)) (fun v H2=>v= .non/\∃d,H2 a=some (c8 true a (.ref C) (some d))/\E σ (.ref C) (some d) (del H2 a)) E0
section
variable {X:Cx} {x:Str} {np cpos pos:Pos} {e₀:Expr} {rest:List Expr} {C fI:Addr} {t:TA} {k:Nat} {fd:FuncData} {ps:J4} {sp:Sp} {E:St->XK}
theorem sY (M:A8 X.K C fI) (F:aY X.prog X.w X.K X.mg X.base bu k fI fd ps sp) (hr:bT (k+1) X.A) (hg:Gl X x) (hm:X.mg x=some (.ref C)) (hb:Binds X.K fd ps []) (hc:X.calm=true) (hp:jZ X E) (ha:PA X (e₀::rest) t) (hd:(x==("__debug__" :Str))=false:=by decide)
  (he:starEach (e₀::rest) X.env=(false,eval e₀ X.env)::starEach rest X.env:=by rfl) (hpl:(backTo cpos (starEach rest X.env)).any (·.1)=false:=by rfl):
  PS X (.Raise (some (.Call (.Name x np) (e₀::rest) [] cpos)) none pos) (qW C sp E t):=by
 intro pins s σ H D I h;obtain ⟨bm,N,nm,qn,bs,hdct,sn,sub,ab,col,dd,k0,k1,k2,k3,k5,lk,ok,ini,tl⟩:=M.ex;have bb:bm.contains (.type "BaseException")=true:=(PySem.W.tail_of_in I.kIn tl).hasType PySem.F.excBase_ValueError.hasBase;have body:wpAny (model X.prog X.w) X.A (eval (.Call (.Name x np) (e₀::rest) [] cpos) X.env) (fun v s1=>∃e dx ws sl,v= .ref e/\s1.heap.get? C=some (excClassObj nm qn C N bs bm hdct sn sub ab col dd k0 k1 k2 k3 k5 "ValueError.__new__")/\s1.heap.get? e=some ⟨.ref C,dx,.fields ws,sl⟩/\ws[1]?=some .none/\X.xe (.ref e) s1) X.xe s:=by
  refine wpAny_Call_Name_kw (cV I hg hm ?_ hd);refine GH (h₀:=X.base) I.ok.mod.kin M.kp (bo (ha cpos pins s σ H _ I h) fun us s1 ⟨vs,H1,I1,r,lr,q⟩=>⟨I1.kIn,?_⟩) he hpl
  refine uN M F hr hb I1 r lr q fun a h' H2 s2 mk os bare un hok q2=>?_
  obtain ⟨d,ed,hE⟩:=q2;have I2:=I1.call' os un hok bare (fun b z=>absurd z (by simp))
  obtain ⟨⟨ox,ws,g1,g2,g3,g4,g6,g5⟩,_⟩:=(show bJ X.prog X.w H2 s2.heap a (c8 true a (.ref C) (some d)) from hok a _ ed)
  have na:=I1.hok.none_of mk.new;obtain ⟨oc,odx,oda,osl⟩:=ox;dsimp only at g2 g3 g4;subst g2 g3 g4;refine ⟨a,some d,ws,osl,rfl,I2.kIn _ _ lk,g1,(g5 rfl).2,hp pins σ H1 s1 _ _ I1 ⟨a,del H2 a,.ref C,some d,.new,rfl,⟨os,bare,zr un na,xm hok ed,⟨⟨_,ws,g1,rfl,rfl,rfl,⟨(g5 rfl).1,g6⟩,(g5 rfl).2⟩,mk.new,j8⟩⟩,hE⟩⟩
 rw[arm_exec_Raise];apply wpAny_bind;apply wpAny_standAt;refine sX (C:=C) (nm:=nm) (q:=qn) (N:=N) (bs:=bs) (bm:=bm) (hdct:=hdct) (sn:=sn) (sub:=sub) (ab:=ab) (col:=col) (dd:=dd) (k0:=k0) (k1:=k1) (k2:=k2) (k3:=k3) (k5:=k5) (nw:= "ValueError.__new__") bb (I.ok.hd hc) ?_;apply wpAny_bind;refine wpAny_mono body (fun v s1 h1=>?_) fun _ _ z=>z
 apply wpAny_bind;apply wpAny_standAt;exact wpAny_pure h1
end
theorem kK:entryFor table "proto.unchain" =some Builtin.«proto.unchain» :=entryFor_of_fast (by kernel_rfl)
def i8 (hd:J8) (H:Hp):Prop:=∀v,hd=some v->∃a n cls dx,v= .ref a/\H a=some (c8 n a cls dx)
theorem i8.no {H:Hp}:i8 none H:=fun _ z=>nomatch z
section
variable {prog:Program} {w:World} {A:Around} {E:JY} {s:Shared}
theorem pQ {it hx:Addr} {ox:Obj} {vs:Array Value} {x left step:Int} {Q:J8->Shared->Prop} (hh:A.handled=some (.ref hx)) (ho:s.heap.get? hx=some ox) (hd:ox.data= .fields vs) (h2:vs[2]?=some .none)
  (hit:IsRangeIter s.heap it x left step) (hleft:left<=0) (hQ:∀h',Heap.ExtBut it s.heap h'->Q none {s with heap:=h'}):wpAny (model prog w) A (pyNext (.ref it)) Q E s:=by
 have hT:s.TypeIs (.ref it) "range_iterator" :=⟨_,hit,rfl⟩;unfold pyNext;refine wpAny_bind (wpAny_attempt (wpAny_callSpecial?_slot (name:=Str.ofString "__next__") hT F.slot_range_iterator_next
  (wpAny_call_entry F.slot_range_iterator_next hT F.entry_range_iterator_next ?_ (F.args_range_iterator_next_1 _))))
 show wpAny _ _ (field (.ref it) 0>>=_) _ _ s;refine wpAny_bind (wpAny_field hit rfl (x:=rawInt x) rfl ?_);show wpAny _ _ (field (.ref it) 1>>=_) _ _ s;refine wpAny_bind (wpAny_field hit rfl (x:=rawInt left) rfl ?_);show wpAny _ _ (field (.ref it) 2>>=_) _ _ s;refine wpAny_bind (wpAny_field hit rfl (x:=rawInt step) rfl ?_);show wpAny _ _ (if left<=0 then _ else _) _ _ s
 rw[if_pos hleft];refine wpAny_bind (wpAny_rule ?_);refine wpAny_bind ?_;show wpAny _ _ (newExc (.type "StopIteration") []>>=_) _ _ _;refine wpAny_bind ?_;simp only[newExc,newTuple];refine wpAny_bind (wpAny_newObj_type ?_ (by size_fits))
 refine wpAny_bind (m:=firstArgMember _ _) (wpAny_of_eq (a:=Value.none) (by first|rfl|(simp only[firstArgMember];rfl)) ?_)
 refine wpAny_newObj_type ?_ (by size_fits)
 simp only[raiseNew];refine wpAny_bind (wpAny_handled ?_);rw[show A.in1.handled=some (.ref hx) from hh]
 have g0:s.heap.get? (s.heap.push {cls:= .type "tuple",dict:=none,data:= .seq ([]:J6).toArray}).objs.size=none:=Heap.get?_none_of_le (by rw[Heap.size_push];lia)
 have ne:hx≠(s.heap.push {cls:= .type "tuple",dict:=none,data:= .seq ([]:J6).toArray}).objs.size:=fun z=>by
  rw[z,g0] at ho;cases ho
 dsimp only;rw[if_pos (bne_iff_ne.mpr fun z=>ne (Value.ref.inj z))]
 refine wpAny_bind (wpAny_holding (wpAny_runValue (codeAny_builtin kK ?_)));show wpAny _ _ (field (.ref hx) 2>>=_) _ _ _;refine wpAny_bind (wpAny_field (Heap.get?_push_of_some _ (Heap.get?_push_of_some _ ho)) hd h2 ?_);rw[if_pos (by rfl)]
 refine wpAny_bind (wpAny_pure (wpAny_pure ?_));refine wpAny_bind (m:=updateField _ 2 _) (wpAny_setField (Heap.get?_push_size _ rfl) rfl (by show 2<6;decide) ?_)
 refine wpAny_throw ?_;refine wpAny_bind (wpAny_isInstance (T:= "StopIteration") (b:=true) ⟨_,Heap.get?_update_self _ (Heap.get?_push_size _ rfl) rfl,rfl⟩ isSubtype_stop ?_);refine wpAny_pure (hQ _ fun b o hb e=>?_)
 rw[Heap.get?_update_other _ _ (by
  intro z;rw[z] at g0;rw[g0] at e;cases e)]
 exact Heap.get?_push_of_some _ (Heap.get?_push_of_some _ e)
end
structure yB (hd:J8) (P:Program) (w:World) (K:F0) (tg:Expr) (J:It) (fp:J5) (it:Addr) (tn:Nat->Heap->Prop):Prop where
 mem:it∈fp
 obj:∀i h,tn i h->∀b∈fp,∃o,h.get? b=some o/\∀v,o.data≠ .cell v
 keep:∀i h h',tn i h->(∀b∈fp,∀o,h.get? b=some o->h'.get? b=some o)->tn i h'
 item:∀(X:Cx),X.prog=P->X.w=w->X.K=K->X.A.handled=hd->∀(i:Nat) (pins:J1) (s:Shared) (σ:St) (H:Hp) (E:JY),aJ X pins σ H s->(∀b∈fp,dE X pins H b)->tn i s.heap->J.go i H->
  wpAny (model P w) X.A (pyNext (.ref it)) (fun r s1=>∃u,r=some u/\
   wpAny (model P w) X.A (letOwnedTupleGo tg (.ref it) u) (fun _ s2=>∃x H',aJ X pins σ H' s2/\RelV x u/\J.yld i H x H'/\tn (i+1) s2.heap/\∀b∈fp,H' b=none) E s1) E s
 done:∀(X:Cx),X.prog=P->X.w=w->X.K=K->X.A.handled=hd->∀(i:Nat) (pins:J1) (s:Shared) (σ:St) (H:Hp) (E:JY),aJ X pins σ H s->(∀b∈fp,dE X pins H b)->tn i s.heap->J.stop i H->
  wpAny (model P w) X.A (pyNext (.ref it)) (fun r s1=>r=none/\aJ X pins σ H s1) E s
 self:∀(A:Around) (i:Nat) (s:Shared) (Q:JY) (E:JY),tn i s.heap->Q (.ref it) s->wpAny (model P w) A (pyIter (.ref it)) Q E s
def BH (hd:J8) (X:Cx) (pins:J1) (σ:St) (tg:Expr) (R:It->Hp->Prop) (itv:Value) (s2:Shared):Prop:=
 ∃(it:Addr) (fp:J5) (tn:Nat->Heap->Prop) (J:It) (H':Hp),itv= .ref it/\aJ X pins σ H' s2/\yB hd X.prog X.w X.K tg J fp it tn/\tn 0 s2.heap/\(∀b∈fp,dE X pins H' b)/\R J H'
def DB (hd:J8) (X:Cx) (tg iter:Expr) (wi:TI):Prop:=
 ∀(pins:J1) (s:Shared) (σ:St) (H:Hp) (R:It->Hp->Prop),aJ X pins σ H s->wi σ H R->
  wpAny (model X.prog X.w) X.A (eval iter X.env) (fun v s1=>wpAny (model X.prog X.w) X.A (pyIter v) (BH hd X pins σ tg R) X.xe s1) X.xe s
noncomputable def uO (hd:J8) (lo:Int) (n:Nat):It:=⟨fun i _=>i<n,fun i H x H'=>H'=H/\x= .int (lo+i),fun i H=>n<=i/\i8 hd H⟩
theorem nP {hd:J8} {P:Program} {w:World} {K:F0} {tg:Expr} (it:Addr) (lo:Int) (n:Nat):yB hd P w K tg (uO hd lo n) [it] it (fun i h=>IsRangeIter h it (lo+(i:Nat)*1) ((n:Int)-(i:Nat)) 1) where
 mem:=by simp
 obj:=fun i h st b hb=>by
  have e:b=it:=by simpa using hb
  subst e;exact ⟨_,st,fun v z=>by
   have z':Data.fields _=Data.cell v:=z;cases z'⟩
 keep:=fun i h h' st k=>k it (by simp) _ st
 item:=by
  intro X hP hw hK hA i pins s σ H E I hf st hg;subst hP hw hK;obtain ⟨f0,f1,f2,f3,f4,f5⟩:=hf it (by simp)
  have hg':i<n:=hg;refine wpAny_pyNext_range_item st (by lia) fun h' st' sb=>?_
  have I1:aJ X pins σ H {s with heap:=h',toks:=s.toks+1}:=I.turned (fun b o hb e=>(sb.2 b hb).trans e) f0 f1 f3 f4 f5
  have st2:IsRangeIter h' it (lo+((i+1:Nat):Int)*1) ((n:Int)-((i+1:Nat):Int)) 1:=by
   have e1:lo+((i+1:Nat):Int)*1=lo+(i:Int)*1+1:=by push_cast;lia
   have e2:(n:Int)-((i+1:Nat):Int)=(n:Int)-(i:Int)-1:=by push_cast;lia
   rw[e1,e2];exact st'
  refine ⟨_,rfl,qE (s:={s with heap:=h',toks:=s.toks+1}) (n:= "range_iterator") st2 rfl rfl (by decide) ⟨.int (lo+i),H,I1,⟨s.toks,?_⟩,⟨rfl,rfl⟩,st2,fun b hb=>(hf b hb).1⟩⟩
  rw[Int.mul_one]
 done:=by
  intro X hP hw hK hA i pins s σ H E I hf st hg;subst hP hw hK;obtain ⟨f0,f1,f2,f3,f4,f5⟩:=hf it (by simp)
  obtain ⟨hl,hk⟩:=hg;cases hd with
  |none=>exact wpAny_pyNext_range_end hA st (by lia) fun h' eb=>⟨rfl,I.turned (t':=s.toks) (fun b o hb e=>eb b o hb e) f0 f1 f3 f4 f5⟩
  |some v=>
   obtain ⟨a,m,cls,dx,rfl,e⟩:=hk v rfl;obtain ⟨⟨ox,vs,h1,h2,h3,h4,h6,h5⟩,_⟩:=(show bJ X.prog X.w H s.heap a (c8 m a cls dx) from I.hok a _ e)
   exact pQ hA h1 h4 h6 st (by lia) fun h' eb=>⟨rfl,I.turned (t':=s.toks) (fun b o hb e=>eb b o hb e) f0 f1 f3 f4 f5⟩
 self:=fun _ _ _ _ _ st h=>wpAny_pyIter_rangeiter st h
def BI (hd:J8) (ta:TA):TI:=fun σ H R=>ta σ H fun vs H1=>∃j:Int,vs= [.int j]/\ -(2^62)<=j/\j<2^62/\R (uO hd 0 j.toNat) H1
section
variable {X:Cx} {tg:Expr} {hd:J8}
theorem sZ {pins:J1} {σ:St} {H:Hp} {s:Shared} {R:It->Hp->Prop} {E:JY} {lo hi:Int} {t u v:Tok} {tk:Nat} (I:aJ X pins σ H s) (h1: -(2^62)<=lo) (h2:lo<2^62) (h3: -(2^62)<=hi) (h4:hi<2^62)
  (q:R (uO hd lo (hi-lo).toNat) H):wpAny (model X.prog X.w) X.A (pyIter (.ref s.heap.objs.size)) (BH hd X pins σ tg R) E {s with heap:=s.heap.push {cls:= .type "range",data:= .fields #[.int lo t,.int hi u,.int 1 v]},toks:=tk}:=by
 refine wpAny_pyIter_range (IsRange.new ..) (small_one h1 h2 h3 h4) ?_;have I1:aJ X pins σ H {s with heap:=s.heap.push {cls:= .type "range",data:= .fields #[.int lo t,.int hi u,.int 1 v]},toks:=tk}:=I.kept fun b o e=>Heap.get?_push_of_some _ e
 refine ⟨(s.heap.push {cls:= .type "range",data:= .fields #[.int lo t,.int hi u,.int 1 v]}).objs.size,[(s.heap.push {cls:= .type "range",data:= .fields #[.int lo t,.int hi u,.int 1 v]}).objs.size],_,_,H,rfl,
  I1.kept (t':=tk) fun b o e=>Heap.get?_push_of_some _ e,nP _ lo (hi-lo).toNat,?_,fun b hb=>?_,q⟩
 ·have e1:lo+((0:Nat):Int)*1=lo:=by simp
  have e2:(((hi-lo).toNat:Nat):Int)-((0:Nat):Int)=Builtin.Range.rangeSize lo hi 1:=by rw[rangeSize_one];split<;>lia
  show IsRangeIter _ _ (lo+((0:Nat):Int)*1) ((((hi-lo).toNat:Nat):Int)-((0:Nat):Int)) 1;rw[e1,e2];exact Heap.get?_push_size _ rfl
 ·have e:b=(s.heap.push {cls:= .type "range",data:= .fields #[.int lo t,.int hi u,.int 1 v]}).objs.size:=by simpa using hb
  subst e;exact I1.fpOk (F5 _) (I1.hok.fresh (F5 _))
theorem eW {a:Expr} {ta:TA} {p pos:Pos} (hg:Gl X "range") (hm:X.mg "range" =none) (ha:PA X [a] ta) (hs:starEach [a] X.env= [(false,eval a X.env)]:=by rfl):DB hd X tg (.Call (.Name "range" p) [a] [] pos) (BI hd ta):=by
 intro pins s σ H R I h;refine Call_ (fm I hg hm boot_range (G8 (bo (ha pos pins s σ H _ I h) fun us s1 ⟨vs,H1,I1,r1,q1⟩=>?_) hs rfl))
 obtain ⟨j,e,q1,q2,q⟩:=q1;subst e;cases r1 with
 |cons r rr=>
  cases rr;obtain ⟨t,rfl⟩:=r;exact call_range_1 (sZ I1 (by lia) (by lia) q1 q2 (by simpa using q))
end
section
variable {X:Cx} {scope:Scope} {cl:List (Str×Addr)} {own:Str} {ys:J4} {js:List Nat} {elt iter:Expr} {px pos:Pos} {wi:TI} {te:TE} {hd:J8}
theorem pR (hA:X.A.handled=hd) (ok:i7 X scope cl own ys js) (hi:DB hd X (.Name own px) iter wi)
  (he:∀(C:Addr) (fp:J5) (s:Shared) (H:Hp),PE (X.block scope cl C (own::ys) own fp s H) elt te)
  (hs:∀x,foldedSetIterable iter X.env x=pure x)
  {pins:J1} {s:Shared} {σ:St} {H:Hp} {Q:VK} {use:Option (Value->Sem Unit)} {QQ:JY} {pp:Pos} (I:aJ X pins σ H s) (h:(qU wi js te) σ H Q)
  (fin:∀(p C:Addr) (s6:Shared) (H5:Hp) (v:Flow),(∃m,s6.heap.Ns C m)->(∀h',Heap.SameBut C s6.heap h'->aJ X pins σ H5 {s6 with heap:=h'})->dE X pins H5 C->Q (.ref p) H5->compPost (model X.prog X.w) X.A X.xe use QQ (.ref p) C (.ok v) s6):
  wpAny (model X.prog X.w) X.A (comprehension (.ListComp elt [⟨.Name own px,iter,[],0⟩] scope pos) scope X.env pp (newList []) false (eval iter X.env) use) QQ X.xe s:=by
 have ncell:∀y∈scope.names,y.2≠ .cell:=fun y hy z=>by
  have q:=G1.mp ok.nocell y hy;rw[z] at q;simp at q
 have nloc:∀y∈scope.names,y.2= .local->scope.names.lookup y.1=some .local:=fun y hy z=>by
  have q:=G1.mp ok.loc y hy;rw[z] at q
  simpa using q
 refine wpAny_comprehension_free rfl hs ok.clos ok.kind nloc (bo (hi pins s σ H _ I h) fun v s1 h1=>bo h1 fun itv s2 h2=>?_)
 obtain ⟨it,fp,tn,J,H2,rfl,I2,T,st2,f2,q2⟩:=h2;obtain ⟨W,⟨m0,w0⟩,turn⟩:=q2 s2.heap.objs.size (I2.hok.fresh (F5 _));refine wpAny_newObj_type (wpAny_newFunctionEnv ncell (by intro y hy;simp at hy) (fun h1 hns hsb=>?_) ok.kind)
 have I3:=I2.laid (a:=s2.heap.objs.size) (o:= .lst []) (h':=s2.heap.push {cls:= .type "list",dict:=none,data:= .seq ([]:J6).toArray}) (t':=s2.toks) (fun b u q=>Heap.get?_push_of_some _ q) (F5 _)
  ⟨G7 _,[],0,.nil,Heap.get?_push_size _ rfl⟩
 have fpo:∀b∈fp,b<s2.heap.objs.size:=fun b hb=>by
  obtain ⟨o,e,_⟩:=T.obj 0 _ st2 b hb;exact Heap.lt_size e
 have f3:∀b∈fp,dE X pins (aL H2 s2.heap.objs.size (.lst [])) b:=fun b hb=>⟨by rw[ar (FO (fpo b hb))];exact (f2 b hb).1,(f2 b hb).2⟩
 generalize hs3:({s2 with heap:=s2.heap.push {cls:= .type "list",dict:=none,data:= .seq ([]:J6).toArray},toks:=s2.toks}:Shared)=s3 at I3
 have e3:s3.heap=s2.heap.push {cls:= .type "list",dict:=none,data:= .seq ([]:J6).toArray}:=by rw[<-hs3]
 have lt3:∀b∈fp,b<s3.heap.objs.size:=fun b hb=>by rw[e3,Heap.size_push];exact Nat.lt_succ_of_lt (fpo b hb)
 dsimp only at hns hsb⊢;rw[<-e3] at hns hsb;have hk:∀b o,s3.heap.get? b=some o->h1.get? b=some o:=fun b o e=>hsb.extBut b o (FO (Heap.lt_size e)) (Heap.get?_push_of_some _ e)
 have J0:=jq (h1:=h1) ok I3 f3 lt3 hns hk (s2.toks+0);have t0:tn 0 h1:=T.keep 0 _ _ st2 fun b hb o e=>hk b o (by rw[e3];exact Heap.get?_push_of_some _ e)
 have fpB:∀{H':Hp},(∀b∈fp,H' b=none)->∀b∈fp,dE (X.block scope cl s3.heap.objs.size (own::ys) own fp s3 (aL H2 s2.heap.objs.size (.lst []))) [] H' b:=fun {H'} hn b hb=>
  ⟨hn b hb,FO (lt3 b hb),fun z=>(F4.mp (I3.stkSub b z)).elim (f3 b hb).2.1 (f3 b hb).2.2.1,.inl hb,fun x c e=>(f3 b hb).2.2.2.2.1 x c (ok.sub (x,c) (Fs e)),fun p hp=>absurd (show p∈([]:J1) from hp) (by simp)⟩
 have loop:codeAny (model X.prog X.w) X.A (.compLoop (.ListComp elt [⟨.Name own px,iter,[],0⟩] scope pos) 0 (.ref it) (.ref s2.heap.objs.size) (compEnvC scope cl s3.heap.objs.size X.env))
   (compPost (model X.prog X.w) X.A X.xe use QQ (.ref s2.heap.objs.size) s3.heap.objs.size) {s3 with heap:=h1,toks:=s2.toks+0}:=by
  refine fv (fun n s'=>∃i zs o0 H',aJ (X.block scope cl s3.heap.objs.size (own::ys) own fp s3 (aL H2 s2.heap.objs.size (.lst []))) [] (o0::a7 js σ) H' s'/\tn i s'.heap/\(∀b∈fp,H' b=none)/\W i n zs H') ?_ m0
   ⟨0,[],none,_,J0,t0,fun b hb=>(f3 b hb).1,w0⟩
  rintro n s5 ⟨i,zs,o0,H5,I5,t5,n5,w5⟩;obtain ⟨hD,hw⟩:=turn i n zs H5 w5;rcases hw with ⟨stop,qn⟩|⟨go,hz,step⟩
  ·refine bo (T.done (X.block scope cl s3.heap.objs.size (own::ys) own fp s3 (aL H2 s2.heap.objs.size (.lst []))) rfl rfl rfl hA i [] s5 _ H5 (fun _ _=>False) I5 (fpB n5) t5 stop) fun r s6 ⟨hr,I6⟩=>?_
   subst hr;obtain ⟨m,hn,_⟩:=id I6.loc;exact fin _ _ s6 H5 _ ⟨m,hn⟩ (fun h' hs'=>lB I3 f3 I6 hs') (I3.fpOk (F5 _) (show H5 s3.heap.objs.size=none from I6.free)) qn
  ·refine bo (T.item (X.block scope cl s3.heap.objs.size (own::ys) own fp s3 (aL H2 s2.heap.objs.size (.lst []))) rfl rfl rfl hA i [] s5 _ H5 (fun _ _=>False) I5 (fpB n5) t5 go) fun r s6 ⟨u,hr,h6⟩=>?_
   subst hr;refine bo h6 fun _ s7 ⟨x,H7,I7,r7,y7,t7,n7⟩=>?_
   have I7':=I7.pinned (fpB n7) (T.obj _ _ t7);have hst:=step x H7 y7;have own':(relabel scope X.env).names.lookup own=some .local:=lookup_relabel_local ok.ownL;refine bo (jC (X:=X.block scope cl s3.heap.objs.size (own::ys) own fp s3 (aL H2 s2.heap.objs.size (.lst []))) (i:=0) (x:=own) (pos:=px) ok.nd rfl (.inl own') (.inr own') _ s7 _ H7 x u (fun σ' H'=>σ'=some x::a7 js σ/\H'=H7) I7' r7 ⟨rfl,rfl⟩) fun _ s8 ⟨σ8,H8,I8,e8,eH8⟩=>?_
   subst e8 eH8;refine bo (he _ _ _ _ _ s8 _ H8 _ I8 hst) fun yv s9 ⟨y,H9,I9,r9,hD9,m',hm,w9⟩=>?_
   refine bo (bG _ s9 _ H9 (.ref s2.heap.objs.size) [y] (.ref s2.heap.objs.size) [yv] (fun _ H'=>H'=aL H9 s2.heap.objs.size (.lst (zs++ [y]))) I9 rfl (.cons r9 .nil) ⟨_,zs,y,rfl,rfl,hD9,hz,rfl⟩) fun _ s10 ⟨_,H10,I10,_,e10⟩=>?_
   subst e10;refine ⟨m',hm,i+1,zs++ [y],some x,_,I10.unpinned,T.keep _ _ _ t7 fun b hb o e=>(I10.pin (b,o) (F9 _ (F9 _ (bX hb e)))).1,fun b hb=>?_,w9⟩
   obtain ⟨o,e,d⟩:=T.obj _ _ t7 b hb;exact (I10.pin (b,o) (F9 _ (F9 _ (bX hb e)))).2.1
 subst hs3;exact codeAny_compStart_list loop (T.self _ 0 _ _ _ t0 loop)
theorem fW (hA:X.A.handled=hd) (ok:i7 X scope cl own ys js) (hi:DB hd X (.Name own px) iter wi)
  (he:∀(C:Addr) (fp:J5) (s:Shared) (H:Hp),PE (X.block scope cl C (own::ys) own fp s H) elt te)
  (hs:∀x,foldedSetIterable iter X.env x=pure x:=by intro _;rfl):PE X (.ListComp elt [⟨.Name own px,iter,[],0⟩] scope pos) (qU wi js te):=fun pins s σ H Q I h=>by
 rw[eval_ListComp];exact pR hA ok hi he hs I h fun p C s6 H5 v ⟨m,hn⟩ J _ q=>⟨m,hn,fun h' hs'=>⟨.ref p,H5,J h' hs',rfl,q⟩⟩
end
def BJ (K:F0) (C':Addr) (i:Nat) (t:Addr->TS) (r:TH):TH:=fun D σ cls dx H a=>∃C b,cls= .ref C/\G2 K (.ref C) (.ref C')=some b/\
 if b=true then t a (BD i D) (σ.set i (some (.ref a))) (aL H a (dW a cls dx)) else r D σ cls dx H a
section
variable {X:Cx} {x n:Str} {np pos:Pos} {b0:Stmt} {suite:List Stmt} {rest:List ExceptHandler} {i:Nat} {C':Addr} {tA:Addr->TS} {th:TH}
theorem zu (T:XT X.K C') (hg:Gl X x) (hm:X.mg x=some (.ref C')) (hN:X.N.Nodup) (hi:X.N[i]?=some n) (hloc:X.env.scope.names.lookup n=some .local)
  (hs:∀(pins:J1) (a:Addr),jA (X.suite pins a) (b0::suite) (tA a)) (hrest:PH X rest th) (hd:(x==("__debug__" :Str))=false:=by decide):
  PH X (.ExceptHandler (some (.Name x np)) (some n) (b0::suite) pos::rest) (BJ X.K C' i tA th):=by
 intro pins σ H0 s0 D a H' cls v dx s' I c h;obtain ⟨C,b,rfl,hsub,h⟩:=h;have J:aJ X pins σ H' s':=I.call' c.os c.un c.hok c.bare (fun b z=>absurd z (by simp))
 obtain ⟨oe,vs,he,hc,_,_,_⟩:=c.xo.ex;refine wpAny_handleBy_cons (codeAny_handlers_test (cV (X:=X.suite pins a) (J.insuite a) hg hm ?_ hd)) (by intro q;cases q)
 have KX:=J.kIn;obtain ⟨hh,g,d,tk,os⟩:=s';refine j5 KX he hc T hsub ?_;cases b with
 |false=>exact hrest pins σ H0 s0 D a H' _ v dx _ I c h
 |true=>
  refine codeAny_handlers_suite_as ?_;refine c.flight I.stack I.stkFree fun s2 c2=>?_
  have J2:=(c2.caught I).insuite a;refine iu (X:=X.suite pins a) (v:=V.ref a) J2 hN hi (.inl hloc) (show RelV (V.ref a) (Value.ref a) from rfl) (fun s3 I3=>?_) (.inr hloc)
  refine wpAny_mono (hs pins a [] s3 _ _ _ I3 h) (fun f s4 q=>?_) fun _ _ z=>z.elim
  exact xc I.ok hN hi hloc q
end
structure dL (hd:J8) (k:Nat) (A:Around):Prop where
 hd:A.handled=hd
 dp:A.depth+3*k+5<recursionLimit
 un:A.units+16*k+200<cLine
theorem dL.mono {hd:J8} {j k:Nat} {A:Around} (r:dL hd k A) (h:j<=k):dL hd j A:=⟨r.hd,by have:=r.dp;lia,by have:=r.un;lia⟩
theorem dL.deeper {hd:J8} {k:Nat} {A:Around} (r:dL hd (k+1) A) (env:Env):dL hd k (A.deeper env):=
 ⟨r.hd,by have:=r.dp;show A.depth+1+3*k+5<_;lia,by have:=r.un;show A.units+3+16*k+200<_;lia⟩
theorem dL.depth {hd:J8} {k:Nat} {A:Around} (r:dL hd k A):A.depth<recursionLimit:=by have:=r.dp;lia
theorem bT.h {k:Nat} {A:Around} (r:bT k A):dL none k A:=⟨r.hd,r.dp,r.un⟩
theorem bT.suite {k:Nat} {A:Around} (r:bT k A) (v:Value):dL (some v) k (A.mark (some v)):=⟨rfl,r.dp,r.un⟩
structure yC (hd:J8) (P:Program) (w:World) (K:F0) (mg:JZ) (base:Heap) (k:Nat) (f:Addr) (fd:FuncData) (ps:J4) (sp:Sp):Prop where
 len:∀vs H Q E,sp vs H Q E->vs.length=ps.length
 run:∀(A:Around) (outer:List Env) (s:Shared) (H:Hp) (args:Args) (us:J6) (vs:List V) (Q:VK) (E:XK),dL hd k A->jV P w K mg base A outer s H->BindsTo s fd args (ps.zip us)->aV vs us->sp vs H Q E->
  codeAny (model P w) A (.call (.ref f) args) (CR bu outer P w H s Q E) s
section
variable {P:Program} {w:World} {K:F0} {mg:JZ} {base:Heap} {hd:J8}
theorem yC.calm {k:Nat} {f:Addr} {fd:FuncData} {ps:J4} {sp:Sp} (F:yC none P w K mg base k f fd ps sp):aY P w K mg base bu k f fd ps sp:=
 ⟨F.len,fun A outer s H args us vs Q E hr=>F.run A outer s H args us vs Q E hr.h⟩
noncomputable def zv (hd:J8) (P:Program) (w:World) (K:F0) (mg:JZ) (base:Heap) (N:J4) (qual:Str) (scope:Scope) (f:Addr) (cd:Value) (A:Around) (outer:List Env) (s:Shared) (H:Hp) (E:XK):Cx:=
 {fO bu P w K mg base N qual scope f cd A outer s H E with calm:=hd.isNone}
theorem pS {N ps:J4} {qual:Str} {scope:Scope} {f:Addr} {cd:Value} {A:Around} {outer:List Env} {s s1:Shared} {H:Hp} {E:XK} {us:J6} {vs:List V}
  (S:aB N ps scope) (hA:A.handled=hd) (e0:jV P w K mg base A outer s H) (hl:vs.length=ps.length) (r:aV vs us)
  (x:InCallC s s.heap.objs.size (bindL (envOfC qual scope s.heap.objs.size f cd).kindOf (ps.zip us) fun _=>none) (cellsFrom (s.heap.objs.size+1) scope.names []) (bindC (envOfC qual scope s.heap.objs.size f cd).kindOf (ps.zip us) fun _=>none) s1):
  aJ (zv hd P w K mg base N qual scope f cd A outer s H E) [] (start N vs) H s1:=by
 have e0':jV P w K mg base {A with handled:=none} outer s H:=⟨e0.frames,e0.mod,e0.bs,e0.bsz,e0.funs,e0.frf,e0.hok,e0.bare⟩
 have I:=i6 (CX:=bu) (E:=E) S (A:={A with handled:=none}) rfl e0' hl r x
 have hh:(zv hd P w K mg base N qual scope f cd A outer s H E).calm=true->(zv hd P w K mg base N qual scope f cd A outer s H E).A.handled=none:=fun z=>by
  cases hd with
  |none=>exact hA
  |some v=>cases (show false=true from z)
 exact ⟨⟨I.ok.mod,I.ok.kind,I.ok.glob,I.ok.blt,I.ok.above,I.ok.inj,I.ok.has,I.ok.cab,hh,I.ok.frames,I.ok.stk,I.ok.exf,I.ok.bs,I.ok.bsz,I.ok.noex,I.ok.exfs,I.ok.funs,I.ok.frf⟩,
  I.os,I.bare,I.base,I.loc,I.cell,I.free,I.freeC,I.pin,I.hok,I.len⟩
theorem zw {k:Nat} {f:Addr} {name qual:Str} {params:Arguments} {body:List Stmt} {scope:Scope} {dV kV doc pm cdv ct oc:Value} {an od:J7}
  {osl:J3} {N ps:J4} {sp:Sp} (lk:K.lookup f=some ⟨oc,od,.func (Fn name qual params body scope dV kV doc pm an cdv ct),osl⟩) (hcd:G9 K cdv qual=true) (S:aB N ps scope)
  (len:∀vs H Q E,sp vs H Q E->vs.length=ps.length)
  (hbody:∀(A:Around) (outer:List Env) (s:Shared) (H:Hp) (vs:List V) (Q:VK) (E:XK),dL hd k (A.deeper (envOfC qual scope s.heap.objs.size f cdv))->sp vs H Q E->
   ∃t,jA (zv hd P w K mg base N qual scope f cdv A outer s H E) body t/\t {nx:=fun _ H'=>Q .non H',rt:=Q} (start N vs) H):
  yC hd P w K mg base (k+1) f (Fn name qual params body scope dV kV doc pm an cdv ct) ps sp:=by
 refine ⟨len,fun A outer s H args us vs Q E hr e0 hb r hsp=>?_⟩
 have hl:=len _ _ _ _ hsp;have KX:K.In s.heap:=e0.mod.kin.keeps fun b o e=>(e0.bs b o e).1
 have lim:s.heap.NoLimit:=e0.mod.nolimit.keeps fun b o e=>(e0.bs b o e).1
 have hkind:∀y∈ps.zip us,scope.names.lookup y.1=some .local∨(scope.names.lookup y.1=some .cell/\((cellsFrom (s.heap.objs.size+1) scope.names []).lookup y.1).isSome=true):=fun ⟨n,v⟩ hy=>by
  rcases S.par n (List.of_mem_zip hy).1 with q|q
  ·exact .inl q
  ·exact .inr ⟨q,PySem.W.cellsFrom_some _ _ _ (.inl q)⟩
 refine codeAny_call_function hr.depth (KX _ _ lk) rfl S.co S.gen rfl (PySem.W.codeRec_of KX hcd) (hb _ _ _ _ ?_);refine wpAny_newFunctionEnv_cells S.kind hkind fun env he s1 x=>?_
 subst he;refine ⟨lim.keeps x.toInCall.keep,codeAny_func ?_⟩;obtain ⟨t,ht,hq⟩:=hbody A outer s H vs Q E (hr.deeper _) hsp;have I:aJ (zv hd P w K mg base N qual scope f cdv A outer s H E) [] (start N vs) H s1:=pS S hr.hd e0 hl r x;refine wpAny_mono (ht [] s1 (start N vs) H _ I hq) (fun fl s' hs=>?_) fun e s' hs=>hs
 have fin:∀{σ':St} {H':Hp} {v:V} {u:Value},aJ (zv hd P w K mg base N qual scope f cdv A outer s H E) [] σ' H' s'->RelV v u->Q v H'->CE outer P w H s Q u s':=
  fun {σ' H' v u} J rv q=>⟨v,H',J.os,J.bare,J.base,J.hok,rv,q⟩
 cases fl with
 |ret u=>
  obtain ⟨v,σ',H',J,rv,q⟩:=hs;exact fin J rv q
 |next=>
  obtain ⟨σ',H',J,q⟩:=hs;exact fin (v:=V.non) (u:=Value.none) J rfl q
 |brk=>
  obtain ⟨_,_,_,q⟩:=hs;exact False.elim q
 |cont=>
  obtain ⟨_,_,_,q⟩:=hs;exact False.elim q
end
section
variable {X:Cx} {k:Nat} {f:Addr} {fd:FuncData} {ps:J4} {sp:Sp} {dvs:List V} {ds:J6} {x:Str} {p pos:Pos} {e:Expr} {es:List Expr} {t:TA} {hd:J8}
theorem xn {pins:J1} {σ:St} {H:Hp} {s:Shared} {Q:VK} {us:J6} {vs:List V} (F:yC hd X.prog X.w X.K X.mg X.base k f fd ps sp) (hr:dL hd k X.A) (hb:Binds X.K fd ps ds) (hv:aV dvs ds)
  (I:aJ X pins σ H s) (r:aV vs us) (h:sp (vs++dvs) H Q E0):wpAny (model X.prog X.w) X.A (call (.ref f) us) (EP X pins σ Q) X.xe s:=by
 have r2:aV (vs++dvs) (us++ds):=r.append hv;have hl:(us++ds).length=ps.length:=by rw[<-r2.length];exact F.len _ _ _ _ h
 refine wpAny_call (codeAny_mono (F.run X.A X.stack s H ⟨us,[]⟩ (us++ds) (vs++dvs) Q E0 hr I.env0 (hb s us I.kIn hl) r2 h) fun r s' hq=>?_)
 cases r with
 |error e=>exact False.elim hq
 |ok fl=>
  cases fl with
  |ret u=>exact I.after hq
  |next=>exact False.elim hq
  |brk=>exact False.elim hq
  |cont=>exact False.elim hq
theorem uP (F:yC hd X.prog X.w X.K X.mg X.base k f fd ps sp) (hr:dL hd k X.A) (hg:Gl X x) (hm:X.mg x=some (.ref f)) (hk:Fl X.K (.ref f)=true) (hb:Binds X.K fd ps ds) (hv:aV dvs ds)
  (ha:PA X (e::es) t) (hdb:(x==("__debug__" :Str))=false:=by decide) (he:starEach (e::es) X.env=(false,eval e X.env)::starEach es X.env:=by rfl) (hpl:(backTo pos (starEach es X.env)).any (·.1)=false:=by rfl):
  PE X (.Call (.Name x p) (e::es) [] pos) (kZ sp dvs E0 t):=by
 intro pins s σ H Q I h;refine wpAny_Call_Name_kw (cV I hg hm ?_ hdb);refine GH (h₀:=X.base) I.ok.mod.kin hk (bo (ha pos pins s σ H _ I h) fun us s1 ⟨vs,H1,I1,r,q⟩=>⟨I1.kIn,?_⟩) he hpl
 exact xn F hr hb hv I1 r q
end
end L2
namespace Sw
open PySem L2 XH
structure Dx (P:Program) (w:World) (K:F0) (mg:JZ) (base:Heap) (CX:pL) (k:Nat) (x:Str) (ps:J4) (dvs:List V) (sp:Sp) where
 f:Addr
 fd:FuncData
 ok:aY P w K mg base CX k f fd ps sp
 m:mg x=some (.ref f)
 q:Fl K (.ref f)=true
 b:Binds K fd ps []
 bd:∃ds,Binds K fd ps ds/\aV dvs ds
noncomputable def Dx.calm {P:Program} {w:World} {K:F0} {mg:JZ} {base:Heap} {k:Nat} {x:Str} {ps:J4} {dvs:List V} {sp sp0:Sp} (D:Dx P w K mg base (d0 P w) k x ps dvs sp) (h:∀vs H Q E,sp0 vs H Q E->sp vs H Q E0):Dx P w K mg base bu k x ps dvs sp0:=
 ⟨D.f,D.fd,D.ok.noraise h,D.m,D.q,D.b,D.bd⟩
section
variable {X:Cx} {k j:Nat} {x:Str} {ps:J4} {sp:Sp} {p pos:Pos} {e:Expr} {es:List Expr} {t:TA} {dvs:List V} {E:St->XK}
theorem zx (D:Dx X.prog X.w X.K X.mg X.base bu k x ps dvs sp) (hr:bT j X.A) (hk:k<=j) (hg:Gl X x) (ha:PA X (e::es) t) (hdb:(x==("__debug__" :Str))=false:=by decide)
  (he:starEach (e::es) X.env=(false,eval e X.env)::starEach es X.env:=by rfl) (hpl:(backTo pos (starEach es X.env)).any (·.1)=false:=by rfl):
  PE X (.Call (.Name x p) (e::es) [] pos) (kZ sp [] E0 t):=
 wO D.ok (hr.mono hk) hg D.m D.q D.b .nil qN ha hdb he hpl
theorem b3 (D:Dx X.prog X.w X.K X.mg X.base (d0 X.prog X.w) k x ps dvs sp) (hr:bT j X.A) (hk:k<=j) (hg:Gl X x) (hx:jZ X E) (ha:PA X (e::es) t) (hdb:(x==("__debug__" :Str))=false:=by decide)
  (he:starEach (e::es) X.env=(false,eval e X.env)::starEach es X.env:=by rfl) (hpl:(backTo pos (starEach es X.env)).any (·.1)=false:=by rfl):
  PE X (.Call (.Name x p) (e::es) [] pos) (uF sp [] E t):=
 uG D.ok (hr.mono hk) hg D.m D.q D.b .nil hx ha hdb he hpl
end
theorem a6.okX {P:Program} {w:World} {K:F0} {mg:JZ} {base:Heap} {x qual:Str} {st:Stmt} {dV:Value} {f:Addr} {fd:FuncData} {N ps:J4} {k:Nat} {sp:Sp} (F:a6 K x qual st dV f fd) (S:aB N ps (aq st)) (len:∀vs H Q E,sp vs H Q E->vs.length=ps.length)
  (hbody:∀(cdv:Value) (A:Around) (outer:List Env) (s:Shared) (H:Hp) (vs:List V) (Q:VK) (E:XK),bT k (A.deeper (PyProof.Rows.envOfC qual (aq st) s.heap.objs.size f cdv))->sp vs H Q E->
   ∃t,jA ((fO (d0 P w) P w K mg base N qual (aq st) f cdv A outer s H E).wish (XS (fO (d0 P w) P w K mg base N qual (aq st) f cdv A outer s H E) fun _=>E)) (bZ st) t/\t {nx:=fun _ H'=>Q .non H',rt:=Q} (start N vs) H):aY P w K mg base (d0 P w) (k+1) f fd ps sp:=by
 obtain ⟨oc,od,kV,doc,pm,an,cdv,ct,osl,rfl,lk,hcd⟩:=F.ex;exact zo lk hcd S len fun A outer s H vs Q E hr hsp=>hbody cdv A outer s H vs Q E hr hsp
end Sw
namespace L2
open PySem PySem.Spec PyProof.Rows XH
theorem i9 {X:Cx} {K:F0} (hK:X.K=K):dJ X (.builtin "isinstance") (fun xs H Q=>∃x t T b,xs= [x,.ty T]/\iw K H x t/\F3 K t (.type T)=some b/\Q (.bl b) H):=by
 subst hK;intro pins s σ H xs us Q I r h;obtain ⟨x,t,T,b,rfl,ty,e,q⟩:=h;obtain ⟨u,w',rfl,e1,e2⟩:=vals2 r;cases e2;exact sO I e1 ty e fun tk=>⟨.bl b,H,I.tok tk,rfl,q⟩
end L2
namespace Sw
open PySem L2 XH
end Sw
namespace L2
open PySem PySem.Spec PyProof.Rows XH
def DC:V->Prop
 | .bl _=>True
 | .int _=>True
 | .str _=>True
 | .non=>True
 |_=>False
theorem uQ {A:Around} {s:Shared} {v:V} {u w:Value} (h:DC v) (r1:RelV v u) (r2:RelV v w):SeqAt.EqAt A s u w true:=by
 cases v with
 |bl b=>
  cases r1;cases r2;have z:=SeqAt.EqAt.bool_bool (A:=A) (s:=s) b b;rw[beq_self_eq_true] at z;exact z
 |int i=>
  obtain ⟨t,rfl⟩:=r1;obtain ⟨t',rfl⟩:=r2;have z:=SeqAt.EqAt.int_int (A:=A) (s:=s) i t i t';rw[beq_self_eq_true] at z;exact z
 |str i=>
  obtain ⟨t,rfl⟩:=r1;obtain ⟨t',rfl⟩:=r2;have z:=SeqAt.EqAt.str_str (A:=A) (s:=s) i t i t';rw[beq_self_eq_true] at z;exact z
 |non=>
  cases r1;cases r2;exact SeqAt.EqAt.same _
 |_=>exact absurd h (fun z=>z)
end L2
namespace Sw
open PySem L2 XH PyProof.Rows
structure BK (hd:J8) (P:Program) (w:World) (K:F0) (mg:JZ) (base:Heap) (k:Nat) (x:Str) (ps:J4) (sp:Sp) where
 f:Addr
 fd:FuncData
 ok:yC hd P w K mg base k f fd ps sp
 m:mg x=some (.ref f)
 q:Fl K (.ref f)=true
 b:Binds K fd ps []
noncomputable def BK.calm {P:Program} {w:World} {K:F0} {mg:JZ} {base:Heap} {k:Nat} {x:Str} {ps:J4} {sp:Sp} (D:BK none P w K mg base k x ps sp):Dx P w K mg base bu k x ps [] sp:=
 ⟨D.f,D.fd,D.ok.calm,D.m,D.q,D.b,⟨[],D.b,.nil⟩⟩
structure wA (P:Program) (w:World) (K:F0) (mg:JZ) (base:Heap) (k:Nat) (C:Addr) (ps:J4) (sp:Sp) where
 f:Addr
 fd:FuncData
 ok:aY P w K mg base bu k f fd ps sp
 ci:A8 K C f
 b:Binds K fd ps []
section
variable {X:Cx} {k j:Nat} {x:Str} {ps:J4} {sp:Sp} {p np pos cpos:Pos} {e:Expr} {es:List Expr} {t:TA} {hd:J8} {C:Addr} {E:L2.St->XK}
theorem zy (D:BK hd X.prog X.w X.K X.mg X.base k x ps sp) (hr:dL hd j X.A) (hk:k<=j) (hg:Gl X x) (ha:PA X (e::es) t) (hdb:(x==("__debug__" :Str))=false:=by decide)
  (he:starEach (e::es) X.env=(false,eval e X.env)::starEach es X.env:=by rfl) (hpl:(backTo pos (starEach es X.env)).any (·.1)=false:=by rfl):
  PE X (.Call (.Name x p) (e::es) [] pos) (kZ sp [] E0 t):=
 uP D.ok (hr.mono hk) hg D.m D.q D.b .nil ha hdb he hpl
theorem fz (D:wA X.prog X.w X.K X.mg X.base k C ps sp) (hr:bT j X.A) (hk:k+1<=j) (hg:Gl X x) (hm:X.mg x=some (.ref C)) (hc:X.calm=true) (hp:jZ X E) (ha:PA X (e::es) t) (hdb:(x==("__debug__" :Str))=false:=by decide)
  (he:starEach (e::es) X.env=(false,eval e X.env)::starEach es X.env:=by rfl) (hpl:(backTo cpos (starEach es X.env)).any (·.1)=false:=by rfl):
  PS X (.Raise (some (.Call (.Name x np) (e::es) [] cpos)) none pos) (qW C sp E t):=
 sY D.ci D.ok (hr.mono hk) hg hm D.b hc hp ha hdb he hpl
end
theorem a6.okH {hd:J8} {P:Program} {w:World} {K:F0} {mg:JZ} {base:Heap} {x qual:Str} {st:Stmt} {dV:Value} {f:Addr} {fd:FuncData} {N ps:J4} {k:Nat} {sp:Sp} (F:a6 K x qual st dV f fd) (S:aB N ps (aq st)) (len:∀vs H Q E,sp vs H Q E->vs.length=ps.length)
  (hbody:∀(cdv:Value) (A:Around) (outer:List Env) (s:Shared) (H:Hp) (vs:List V) (Q:VK) (E:XK),dL hd k (A.deeper (envOfC qual (aq st) s.heap.objs.size f cdv))->sp vs H Q E->
   ∃t,jA (zv hd P w K mg base N qual (aq st) f cdv A outer s H E) (bZ st) t/\t {nx:=fun _ H'=>Q .non H',rt:=Q} (start N vs) H):yC hd P w K mg base (k+1) f fd ps sp:=by
 obtain ⟨oc,od,kV,doc,pm,an,cdv,ct,osl,rfl,lk,hcd⟩:=F.ex;exact zw lk hcd S len fun A outer s H vs Q E hr hsp=>hbody cdv A outer s H vs Q E hr hsp
theorem uR {hd:J8} {H H':Hp} (h:i8 hd H) (g:ax H H'):i8 hd H':=fun v e=>by
 obtain ⟨a,n,cls,dx,e1,e2⟩:=h v e;exact ⟨a,n,cls,dx,e1,g _ _ e2⟩
theorem ja {H H':Hp} {p:Addr} (g:ax H H') (h:H p=none) (o:HO):ax H (aL H' p o):=fun b u q=>by
 rw[ar (aM q h)];exact g b u q
theorem iD {hd:J8} {n:Nat} {js:List Nat} {te:TE} {σ:L2.St} {H1:Hp} {Q:VK} (P:Nat->V->Prop) (hok:i8 hd H1) (hn:n<=sizeLine)
  (step:∀i,i<n->∀H3,ax H1 H3->∀Q':VK,(∀y H4,P i y->ax H3 H4->Q' y H4)->te (some (.int (0+(i:Int)))::a7 js σ) H3 Q')
  (fin:∀p ys H',H1 p=none->ys.length=n->(∀i y,ys[i]?=some y->P i y)->ax H1 H'->H' p=some (.lst ys)->Q (.ref p) H'):
  lA js te σ Q (uO hd 0 n) H1:=by
 intro p hp;refine ⟨fun i m ys H2=>i<=n/\m=n-i/\ys.length=i/\(∀j y,ys[j]?=some y->P j y)/\ax H1 H2/\H2 p=some (.lst ys),⟨n,G7 _,rfl,rfl,fun j y e=>by simp at e,ah hp _,ac⟩,?_⟩
 rintro i m ys H2 ⟨hi,rfl,hl,hP,g,e⟩;refine ⟨e,?_⟩
 by_cases hin:i<n
 ·refine .inr ⟨hin,by lia,fun x H3 hy=>?_⟩
  obtain ⟨rfl,rfl⟩:=hy;refine step i hin H3 g _ fun y H4 py g4=>⟨g4 _ _ e,n-(i+1),by lia,hin,rfl,by simp[hl],fun j z ez=>?_,ja (g.trans g4) hp _,ac⟩
  by_cases hj:j<ys.length
  ·rw[Fx hj] at ez;exact hP j z ez
  ·rw[Fu (by lia)] at ez
   have h0:j-ys.length=0:=by
    rcases Nat.eq_zero_or_pos (j-ys.length) with q|q
    ·exact q
    ·rw[List.getElem?_eq_none (by simp;lia)] at ez;cases ez
   rw[h0] at ez;have hji:j=i:=by lia
   subst hji;cases ez;exact py
 ·have e2:i=n:=by lia
  subst e2;exact .inl ⟨⟨F5 _,uR hok g⟩,fin p ys H2 hp hl hP g e⟩
def jb (X:Cx) (scope:Scope) (ys:J4) (js:List Nat):Prop:=∀(i:Nat) (y:Str),ys[i]?=some y->∃j:Nat,js[i]?=some j/\X.N[j]?=some y/\(X.env.scope.names.lookup y=some .cell∨X.env.scope.names.lookup y=some .free)/\((relabel scope X.env).names.lookup y=some .cell∨(relabel scope X.env).names.lookup y=some .free)
theorem qX {X:Cx} {scope:Scope}:jb X scope [] []:=fun i y h=>by simp at h
theorem wB {X:Cx} {scope:Scope} {ys:J4} {js:List Nat} {y:Str} {j:Nat} (t:jb X scope ys js) (h1:X.N[j]?=some y:=by rfl) (h2:X.env.scope.names.lookup y=some .cell∨X.env.scope.names.lookup y=some .free:=by first|exact Or.inl rfl|exact Or.inr rfl)
  (h3:(relabel scope X.env).names.lookup y=some .cell∨(relabel scope X.env).names.lookup y=some .free:=by first|exact Or.inl rfl|exact Or.inr rfl):jb X scope (y::ys) (j::js):=fun i z h=>by
 cases i with
 |zero=>
  cases h;exact ⟨j,rfl,h1,h2,h3⟩
 |succ i=>exact t i z h
inductive pT (X:Cx):List (Str×Addr)->Prop where
 |nil:pT X []
 |cons {y:Str} {c:Addr} {cl:List (Str×Addr)} (h:X.env.cells.lookup y=some c) (t:pT X cl):pT X ((y,c)::cl)
theorem pT.all {X:Cx} {cl:List (Str×Addr)} (h:pT X cl):∀p∈cl,X.env.cells.lookup p.1=some p.2:=by
 induction h with
 |nil=>intro p hp;simp at hp
 |cons h _ ih=>
  intro p hp;rcases F4.mp hp with e|e
  ·rw[e];exact h
  ·exact ih p e
theorem tj {X:Cx} {scope:Scope} {cl:List (Str×Addr)} {own:Str} {ys:J4} {js:List Nat} (a:jb X scope ys js) (s:pT X cl) (nd:(own::ys).Nodup) (len:js.length=ys.length) (clos:closureFor scope X.env=pure cl) (nocell:(scope.names.all fun p=> !(p.2== .cell))=true) (kind:scope.kind= .function)
  (loc:(scope.names.all fun p=> !(p.2== .local)||scope.names.lookup p.1==some .local)=true) (ownL:scope.names.lookup own=some .local) (has:((relabel scope X.env).names.all fun p=> !(p.2== .cell||p.2== .free)||(cl.lookup p.1).isSome)=true) (noown:cl.lookup own=none):i7 X scope cl own ys js:=
 ⟨clos,nocell,kind,loc,ownL,s.all,has,noown,nd,a,len⟩
def dh (C:Addr) (f:Str):Sp:=fun vs H Q _=>∃a y n,vs= [.ref a,y]/\H a=some (c8 n a (.ref C) none)/\∀d,H d=none->Q .non (L2.aL (L2.aL H d (.xd [(f,y)])) a (c8 n a (.ref C) (some d)))
theorem eJ {H:Hp} {Q:VK} {a C:Addr} {f:Str} {y:V} (na:H a=none) (h:∀d H2,ax H H2->H2 a=some (c8 true a (.ref C) (some d))->H2 d=some (.xd [(f,y)])->d≠a->ax H (del H2 a)->del H2 a d=some (.xd [(f,y)])->Q .non H2) {E:XK}:
  dh C f [.ref a,y] (L2.aL H a (c8 true a (.ref C) none)) Q E:=by
 refine ⟨a,y,true,rfl,ac,fun d hd=>?_⟩
 have ne:d≠a:=by
  intro z;rw[z,ac] at hd;cases hd
 have nd:H d=none:=by rwa [ar ne] at hd
 have g:ax H (L2.aL (L2.aL (L2.aL H a (c8 true a (.ref C) none)) d (.xd [(f,y)])) a (c8 true a (.ref C) (some d))):=ja (ja (ja (fun _ _ q=>q) na _) nd _) na _
 have e2:L2.aL (L2.aL (L2.aL H a (c8 true a (.ref C) none)) d (.xd [(f,y)])) a (c8 true a (.ref C) (some d)) d=some (.xd [(f,y)]):=by rw[ar ne,ac]
 exact h d _ g ac e2 ne (fun b o q=>by rw[fw (aM q na)];exact g b o q) (by rw[fw ne];exact e2)
structure wC (P:Program) (w:World) (K:F0) (mg:JZ) (base:Heap) (CX:pL) (k:Nat) (f:Addr) (ps:J4) (dvs:List V) (sp:Sp) where
 fd:FuncData
 ok:aY P w K mg base CX k f fd ps sp
 b:Binds K fd ps []
 bd:∃ds,Binds K fd ps ds/\aV dvs ds
structure zB (K:F0) (C:Addr) (m:Str) (f:Addr):Prop where
 sp:PySem.W.specialIn K (.ref C) "__getattribute__" =some (some (.builtin "type.__getattribute__"))
 rd:PySem.W.readsIn K C (.type "type")=true
 fc:PySem.W.findCls K (.ref C) (.type "type") m=some (.val (.ref f))
 kp:Fl K (.ref f)=true
section
variable {X:Cx} {k j:Nat} {f C:Addr} {ps:J4} {sp:Sp} {dvs:List V} {x m:Str} {p pos apos:Pos} {e o:Expr} {es:List Expr} {ta tb:TE} {t:TA}
theorem zC (M:Mk X.K C f) (D:wC X.prog X.w X.K X.mg X.base bu k f ps dvs sp) (hr:bT j X.A) (hk:k+1<=j) (hg:Gl X x) (hm:X.mg x=some (.ref C)) (ha:PA X (e::es) t) (hdb:(x==("__debug__" :Str))=false:=by decide)
  (he:starEach (e::es) X.env=(false,eval e X.env)::starEach es X.env:=by rfl) (hpl:(backTo pos (starEach es X.env)).any (·.1)=false:=by rfl):PE X (.Call (.Name x p) (e::es) [] pos) (uj C sp [] E0 t):=
 qK M D.ok (hr.mono hk) hg hm D.b .nil qN ha hdb he hpl
theorem mw (M:Mk X.K C f) (D:wC X.prog X.w X.K X.mg X.base bu k f ps dvs sp) (hr:bT j X.A) (hk:k+1<=j) (hg:Gl X x) (hm:X.mg x=some (.ref C)) (ha:PA X (e::es) t) (hdb:(x==("__debug__" :Str))=false:=by decide)
  (he:starEach (e::es) X.env=(false,eval e X.env)::starEach es X.env:=by rfl) (hpl:(backTo pos (starEach es X.env)).any (·.1)=false:=by rfl):PE X (.Call (.Name x p) (e::es) [] pos) (uj C sp dvs E0 t):=by
 obtain ⟨ds,hb,hv⟩:=D.bd;exact qK M D.ok (hr.mono hk) hg hm hb hv qN ha hdb he hpl
theorem BL {pl:Sem Bool} (M:zB X.K C m f) (D:wC X.prog X.w X.K X.mg X.base bu k f ps dvs sp) (hr:bT j X.A) (hk:k<=j) (hg:Gl X x) (hm:X.mg x=some (.ref C)) (ha:PA X (e::es) t) (hdb:(x==("__debug__" :Str))=false:=by decide)
  (hst:starEach (e::es) X.env=(false,eval e X.env)::starEach es X.env:=by rfl) (hpl:(backTo pos (starEach es X.env)).any (·.1)=false:=by rfl)
  (ht:eval (.Call (.Attribute (.Name x p) m apos) (e::es) [] pos) X.env=(do
   let ov<-eval (.Name x p) X.env
   standAt apos.atName
   let (f,first)<-holding [ov] (getMethod ov m pl)
   callWith pos f first (backTo pos (starEach (e::es) X.env)) (backToKw pos (keywordEach [] X.env))):=by rfl):
  PE X (.Call (.Attribute (.Name x p) m apos) (e::es) [] pos) (kZ sp [] E0 t):=by
 intro pins s σ H Q I h;refine PySem.W.methodCall_KW (pl:=pl) (cV I hg hm ?_ hdb) ht;refine PySem.W.method_cls I.kIn M.sp (PySem.W.cls_value I.kIn M.rd M.fc rfl ?_);have I1:=I.tok (s.toks+1);refine GH (first:= []) (h₀:=X.base) I.ok.mod.kin M.kp (bo (ha pos pins _ σ H _ I1 h) fun us s2 ⟨vs,H2,I2,r,q2⟩=>⟨I2.kIn,?_⟩) hst hpl
 exact uk D.ok (hr.mono hk) D.b .nil qN I2 r q2
end
end Sw
namespace L2
open PySem PySem.Spec PyProof.Rows
section
variable {X:Cx} {pins:J1} {σ:St} {H:Hp} {s:Shared} {h':Heap}
theorem aJ.turnedNew {ch:J5} {T:Addr} {o:HO} {t':Nat} (I:aJ X pins σ H s) (hf:∀b∈ch,dE X pins H b) (k:∀b u,b∉ch->s.heap.get? b=some u->h'.get? b=some u) (hp:s.heap.objs.size<=T) (new:bJ X.prog X.w (aL H T o) h' T o):
  aJ X pins σ (aL H T o) {s with heap:=h',toks:=t'}:=by
 have nT:H T=none:=I.hok.fresh hp;have ne:∀b u,H b=some u->b≠T:=fun b u e z=>by rw[z,nT] at e;cases e
 have nch:∀b u,H b=some u->b∉ch:=fun b u e z=>by rw[(hf b z).1] at e;cases e
 have up:∀b u,H b=some u->aL H T o b=some u:=fun b u e=>by rw[ar (ne b u e)];exact e
 refine I.step (g':=s.gens) (d':=s.drawn) (ch:=ch) (fun b hb=>?_) (fun b u _ _ hc e _=>k b u hc e) (fun b u _ _ hc e _=>⟨u.slots,k b u hc e⟩) (fun b u _ e n=>?_)
  (fun b u hc e=>⟨u,k b u hc e⟩) (fun b xs e=>up b _ e) (fun b u v e=>up b _ e) (fun b ps e=>⟨#[],by rw[up b _ e];simp⟩) (fun m hm=>?_) (fun b u e=>?_) I.bare
 ·obtain ⟨f0,f1,f2,f3,f4,f5⟩:=hf b hb;exact ⟨f3,f1,f4,f5⟩
 ·have:b≠T:=FO (FK (Heap.lt_size e) hp);rw[ar this];exact n
 ·obtain ⟨u,es,ep,ho,r⟩:=hm;exact ⟨u,es,ep,k _ u (fun z=>(hf _ z).2.1 rfl) ho,r⟩
 ·by_cases c:b=T
  ·subst c;rw[ac] at e;cases e;exact new
  ·rw[ar c] at e;refine (I.hok b u e).stay (fun c' v hc q=>k c' v ?_ q) (fun _ q=>up _ _ q) fun _ _ q=>up _ _ q
   rcases hc with z|z
   ·rw[z];exact nch b u e
   ·exact nch c' _ z
theorem aJ.turnedAll {ch:J5} {t':Nat} (I:aJ X pins σ H s) (hf:∀b∈ch,dE X pins H b) (k:∀b u,b∉ch->s.heap.get? b=some u->h'.get? b=some u):aJ X pins σ H {s with heap:=h',toks:=t'}:=by
 have nch:∀b u,H b=some u->b∉ch:=fun b u e z=>by rw[(hf b z).1] at e;cases e
 refine I.step (g':=s.gens) (d':=s.drawn) (ch:=ch) (fun b hb=>?_) (fun b u _ _ hc e _=>k b u hc e) (fun b u _ _ hc e _=>⟨u.slots,k b u hc e⟩) (fun b u _ e n=>n)
  (fun b u hc e=>⟨u,k b u hc e⟩) (fun b xs e=>e) (fun b u v e=>e) (fun b ps e=>⟨#[],by rw[e];simp⟩) (fun m hm=>?_) (fun b u e=>?_) I.bare
 ·obtain ⟨f0,f1,f2,f3,f4,f5⟩:=hf b hb;exact ⟨f3,f1,f4,f5⟩
 ·obtain ⟨u,es,ep,ho,r⟩:=hm;exact ⟨u,es,ep,k _ u (fun z=>(hf _ z).2.1 rfl) ho,r⟩
 ·refine (I.hok b u e).stay (fun c' v hc q=>k c' v ?_ q) (fun _ q=>q) fun _ _ q=>q
  rcases hc with z|z
  ·rw[z];exact nch b u e
  ·exact nch c' _ z
end
noncomputable def BM (K:F0) (l:Addr):It:=
 ⟨fun i H=>∃xs x,aI K H l xs/\xs[i]?=some x,fun i H v H'=>∃(T:Addr) (x:V),v= .ref T/\H T=none/\(∀xs,aI K H l xs->xs[i]?=some x)/\H'=aL H T (.tup [.int i,x]),fun i H=>∃xs,aI K H l xs/\xs.length<=i⟩
theorem tm {P:Program} {w:World} {K:F0} {elts:List Expr} {k:Nat} {pos:Pos} (l e it:Addr) (ne:e≠it):Turn P w K (.Tuple elts k pos) (BM K l) [e,it] e (fun i h=>(∃old,IsEnum h e it i old)/\h.IsListIter it l i) where
 mem:=by simp
 obj:=fun i h st b hb=>by
  obtain ⟨⟨old,he⟩,o,e1,c,d⟩:=st;rcases F4.mp hb with z|z
  ·subst z;exact ⟨_,he,fun v z=>by cases z⟩
  ·rw[FA.mp z];exact ⟨o,e1,fun v z=>by rw[d] at z;cases z⟩
 keep:=fun i h h' st k=>⟨let ⟨old,he⟩:=st.1;⟨old,k e (by simp) _ he⟩,st.2.at fun o q=>k it (by simp) o q⟩
 item:=by
  intro X hP hw hK hc i pins s σ H E I hf st hg;subst hP hw hK;obtain ⟨xs,x,hq,hx⟩:=hg;obtain ⟨its,rv,p,hz⟩:=I.list hq;obtain ⟨u,hu,ru⟩:=rv.get hx;obtain ⟨⟨old,he⟩,hit⟩:=st;refine wpAny_pyNext_enum_item he hit p.isList (x:=u) (by simpa using hu) ne fun h1 ho hit' hT hsz hk=>?_
  refine ⟨_,rfl,wpAny_letOwnedTupleGo_enum (s:={s with heap:=h1,toks:=s.toks+1}) ho fun h2 he2 hs2=>?_⟩
  have nT:H s.heap.objs.size=none:=I.hok.fresh (F5 _);have el:e<s.heap.objs.size:=Heap.lt_size he;have il:it<s.heap.objs.size:=by obtain ⟨_,q,_⟩:=hit;exact Heap.lt_size q
  have hT2:h2.get? s.heap.objs.size=some {cls:= .type "tuple",data:= .seq #[.int i s.toks,u]}:=(hs2.2 _ (GC el)).trans hT;have kp:∀b o,b∉ [e,it]->s.heap.get? b=some o->h2.get? b=some o:=fun b o hb q=>by
   simp at hb;exact (hs2.2 b hb.1).trans (hk b o hb.1 hb.2 q)
  refine ⟨.ref s.heap.objs.size,aL H s.heap.objs.size (.tup [.int i,x]),I.turnedNew (t':=s.toks+1) (ch:= [e,it]) hf kp (F5 _) ⟨by show 2<=sizeLine;decide,[.int i s.toks,u],.cons ⟨ν⟩ (.cons ru .nil),⟨_,hT2,rfl,0,rfl⟩⟩,rfl,
   ⟨_,x,rfl,nT,fun ys hy=>by rw[I.list_inj hy hq];exact hx,rfl⟩,⟨⟨u,?_⟩,?_⟩,fun b hb=>?_⟩
  ·simpa using he2
  ·exact hit'.at fun o q=>(hs2.2 it (Ne.symm ne)).trans q
  ·have bl:b≠s.heap.objs.size:=by
    rcases F4.mp hb with z|z
    ·rw[z];exact FO el
    ·rw[FA.mp z];exact FO il
   rw[ar bl];exact (hf b hb).1
 done:=by
  intro X hP hw hK hc i pins s σ H E I hf st hg;subst hP hw hK;obtain ⟨xs,hq,hx⟩:=hg;obtain ⟨its,rv,p,hz⟩:=I.list hq;obtain ⟨⟨old,he⟩,hit⟩:=st;have hl:=rv.length;exact wpAny_pyNext_enum_end (I.ok.hd hc) he hit p.isList (by simp;lia) fun h' eb=>⟨rfl,I.turnedAll (t':=s.toks) (ch:= [e,it]) hf fun b o hb q=>eb b o (fun z=>hb (by simp[z])) q⟩
 self:=fun _ _ _ _ _ st h=>let ⟨_,he⟩:=st.1;wpAny_pyIter_enum he h
def BN (K:F0) (ta:TA):TI:=fun σ H R=>ta σ H fun vs H1=>∃l:Addr,vs= [.ref l]/\(∃xs,aI K H1 l xs)/\R (BM K l) H1
theorem boot_enumerate:bootBuiltins "enumerate" =some (.type "enumerate"):=by kernel_rfl
theorem xq {X:Cx} {a:Expr} {ta:TA} {elts:List Expr} {k:Nat} {tp p pos:Pos} (hg:Gl X "enumerate") (hm:X.mg "enumerate" =none) (ha:PA X [a] ta) (hs:starEach [a] X.env= [(false,eval a X.env)]:=by rfl):PI X (.Tuple elts k tp) (.Call (.Name "enumerate" p) [a] [] pos) (BN X.K ta):=by
 intro pins s σ H R I h;refine Call_ (fm I hg hm boot_enumerate (G8 (bo (ha pos pins s σ H _ I h) fun us s1 ⟨vs,H1,I1,r1,q1⟩=>?_) hs rfl))
 obtain ⟨l,e,⟨xs,hq⟩,q⟩:=q1;subst e;cases r1 with
 |cons r rr=>
  cases rr;cases r;obtain ⟨its,rv,p1,hz⟩:=I1.list hq;refine call_enumerate_list p1.isList fun h' he hit hsz hk=>?_
  refine wpAny_pyIter_enum (s:={s1 with heap:=h'}) he ?_
  have I2:aJ X pins σ H1 {s1 with heap:=h'}:=I1.kept (t':=s1.toks) hk
  refine ⟨s1.heap.objs.size+1,[s1.heap.objs.size+1,s1.heap.objs.size],_,_,H1,rfl,I2,tm l _ _ (Nat.succ_ne_self _),⟨⟨_,by simpa using he⟩,hit⟩,fun b hb=>?_,q⟩
  have bl:s1.heap.objs.size<=b:=by
   rcases F4.mp hb with z|z
   ·rw[z];exact Nat.le_succ _
   ·rw[FA.mp z];exact F5 _
  exact I1.fpOk bl (I1.hok.fresh bl)
theorem uS {K:F0} {a:Addr} {xs:List V} {g:TG} {tb:TS} {D:Ends} {σ:St} {H:Hp} (Pv:Nat->St->Hp->Prop) (h0:Pv 0 σ H) (hl:∀i σ H,i<=xs.length->Pv i σ H->aI K H a xs)
  (hs:∀i x σ H (T:Addr),xs[i]?=some x->Pv i σ H->H T=none->g (.ref T) σ (aL H T (.tup [.int i,x])) fun σ2 H2=>tb {D with nx:=Pv (i+1),ct:=Pv (i+1),bk:=D.nx} σ2 H2) (hd:∀σ H,Pv xs.length σ H->D.nx σ H):
  ∃W:Nat->Nat->St->Hp->Prop,(∃m,W 0 m σ H)/\∀i m σ H,W i m σ H->
   ((BM K a).stop i H/\D.nx σ H)∨((BM K a).go i H/\∃N:St->Hp->Prop,(∀σ' H',N σ' H'->∃m',m'<m/\W (i+1) m' σ' H')/\∀x H',(BM K a).yld i H x H'->g x σ H' fun σ2 H2=>tb {D with nx:=N,ct:=N,bk:=D.nx} σ2 H2):=by
 refine ⟨fun i m σ H=>m=xs.length-i/\i<=xs.length/\Pv i σ H,⟨xs.length,by simp,G7 _,h0⟩,?_⟩
 rintro i m σ H ⟨rfl,hi,p⟩;have q:=hl i σ H hi p
 by_cases hlt:i<xs.length
 ·refine .inr ⟨⟨xs,xs[i],q,by simp[hlt]⟩,Pv (i+1),fun σ' H' p'=>⟨xs.length-(i+1),by lia,rfl,hlt,p'⟩,fun x H' y=>?_⟩
  obtain ⟨T,z,rfl,nT,hz,rfl⟩:=y;exact hs i z σ H T (hz xs q) p nT
 ·have e:i=xs.length:=by lia
  subst e;exact .inl ⟨⟨xs,q,F5 _⟩,hd σ H p⟩
theorem iE {h:Heap} {l b:Addr} {its:Array Value} {o:Obj} {n:String} (hl:h.IsList l its) (e:h.get? b=some o) (c:o.cls= .type n) (ne:n≠ "list"):l≠b:=fun z=>by
 obtain ⟨o',e',c',_⟩:=hl;rw[z,e] at e';cases e';rw[c] at c';injection c' with c'
 exact ne c'
theorem zD (n:Nat): [n+4,n+2,n+3,n,n+1].Nodup:=by
 simp
theorem boot_zip:bootBuiltins "zip" =some (.type "zip"):=by kernel_rfl
open XH
noncomputable def BO (x:Str):It:=⟨fun i _=>i<x.cps.size,fun i H v H'=>H'=H/\∃c,x.cps[i]?=some c/\v= .str ⟨#[c]⟩,fun i _=>i=x.cps.size⟩
theorem uT {P:Program} {w:World} {K:F0} {tg:Expr} {ty:String} (hty:ty= "str_ascii_iterator" ∨ty= "str_iterator") (it:Addr) (x:Str) (t:Tok):Turn P w K tg (BO x) [it] it (fun i h=>h.IsStrIter it ty x t i) where
 mem:=by simp
 obj:=fun i h st b hb=>by
  have e:b=it:=by simpa using hb
  subst e;obtain ⟨o,e,c,d⟩:=st;exact ⟨o,e,fun v z=>by rw[d] at z;cases z⟩
 keep:=fun i h h' st k=>by
  obtain ⟨o,e,c,d⟩:=st;exact ⟨o,k it (by simp) o e,c,d⟩
 item:=by
  intro X hP hw hK hc i pins s σ H E I hf st hg;subst hP hw hK;obtain ⟨f0,f1,f2,f3,f4,f5⟩:=hf it (by simp)
  have W:Walks X.prog X.w X.A it [it] [it] x.cps.size (SignAt x) (fun i h=>h.IsStrIter it ty x t i):=by
   rcases hty with rfl|rfl
   ·exact Walks.strAscii (I.ok.hd hc) it x t
   ·exact Walks.strWide (I.ok.hd hc) it x t
  refine W.item i s _ _ hg st fun v h' tk hv st' kk=>?_
  obtain ⟨c,u,hc',rfl⟩:=hv;have I1:aJ X pins σ H {s with heap:=h',toks:=tk}:=I.turned (fun b o hb e=>kk b o (by simpa using hb) e) f0 f1 f3 f4 f5
  obtain ⟨o,e,c1,d1⟩:=id st';refine ⟨_,rfl,qE (s:={s with heap:=h',toks:=tk}) (n:=ty) e c1 d1 (by rcases hty with rfl|rfl<;>decide) ⟨.str ⟨#[c]⟩,H,I1,⟨u,rfl⟩,⟨rfl,c,hc',rfl⟩,st',fun b hb=>(hf b hb).1⟩⟩
 done:=by
  intro X hP hw hK hc i pins s σ H E I hf st hg;subst hP hw hK;obtain ⟨f0,f1,f2,f3,f4,f5⟩:=hf it (by simp)
  have W:Walks X.prog X.w X.A it [it] [it] x.cps.size (SignAt x) (fun i h=>h.IsStrIter it ty x t i):=by
   rcases hty with rfl|rfl
   ·exact Walks.strAscii (I.ok.hd hc) it x t
   ·exact Walks.strWide (I.ok.hd hc) it x t
  have hg':i=x.cps.size:=hg;subst hg';exact W.done s _ _ st fun h' tk kk=>⟨rfl,I.turned (fun b o hb e=>kk b o (by simpa using hb) e) f0 f1 f3 f4 f5⟩
 self:=fun _ _ _ _ _ st h=>by
  rcases hty with rfl|rfl
  ·exact wpAny_pyIter_striter_ascii st h
  ·exact wpAny_pyIter_striter_wide st h
def DD (tl:TE):TI:=fun σ H R=>tl σ H fun x H1=>∃z,x= .str z/\R (BO z) H1
variable {X:Cx} {tg:Expr}
theorem uU {l:Expr} {tl:TE} (hl:PE X l tl):PI X tg l (DD tl):=by
 intro pins s σ H R I h;refine bo (hl pins s σ H _ I h) fun v s1 ⟨x,H1,I1,r1,q1⟩=>?_
 obtain ⟨z,rfl,q⟩:=q1;obtain ⟨t,rfl⟩:=r1;have fin:∀{ty:String} {o:Obj},(ty= "str_ascii_iterator" ∨ty= "str_iterator")->(s1.heap.push o).IsStrIter s1.heap.objs.size ty z t 0->Dp X pins σ tg R (.ref s1.heap.objs.size) {s1 with heap:=s1.heap.push o}:=fun {ty o} hty st=>by
  refine ⟨s1.heap.objs.size,[s1.heap.objs.size],_,_,H1,rfl,I1.kept (t':=s1.toks) fun b o e=>Heap.get?_push_of_some _ e,uT hty _ z t,st,fun b hb=>?_,q⟩
  have e:b=s1.heap.objs.size:=by simpa using hb
  subst e;exact I1.fpOk (F5 _) (I1.hok.fresh (F5 _))
 cases ha:z.cps.all (· <128)
 ·exact wpAny_pyIter_wide ha (fin (.inr rfl) ⟨_,Heap.get?_push_size _ rfl,rfl,rfl⟩)
 ·exact wpAny_pyIter_ascii ha (fin (.inl rfl) ⟨_,Heap.get?_push_size _ rfl,rfl,rfl⟩)
theorem qY {z:Str} {g:TG} {tb:TS} {D:Ends} {σ:St} {H:Hp} (Pv:Nat->St->Hp->Prop) (h0:Pv 0 σ H)
  (hs:∀i c σ H,z.cps[i]?=some c->Pv i σ H->g (.str ⟨#[c]⟩) σ H fun σ2 H2=>tb {D with nx:=Pv (i+1),ct:=Pv (i+1),bk:=D.nx} σ2 H2) (hd:∀σ H,Pv z.cps.size σ H->D.nx σ H):
  ∃W:Nat->Nat->St->Hp->Prop,(∃m,W 0 m σ H)/\∀i m σ H,W i m σ H->
   ((BO z).stop i H/\D.nx σ H)∨((BO z).go i H/\∃N:St->Hp->Prop,(∀σ' H',N σ' H'->∃m',m'<m/\W (i+1) m' σ' H')/\∀x H',(BO z).yld i H x H'->g x σ H' fun σ2 H2=>tb {D with nx:=N,ct:=N,bk:=D.nx} σ2 H2):=by
 refine ⟨fun i m σ H=>m=z.cps.size-i/\i<=z.cps.size/\Pv i σ H,⟨z.cps.size,by simp,G7 _,h0⟩,?_⟩
 rintro i m σ H ⟨rfl,hi,p⟩
 by_cases hlt:i<z.cps.size
 ·refine .inr ⟨hlt,Pv (i+1),fun σ' H' p'=>⟨z.cps.size-(i+1),by lia,rfl,hlt,p'⟩,fun x H' y=>?_⟩
  obtain ⟨e,c,hc,rfl⟩:=y;subst e;exact hs i c σ _ hc p
 ·have e:i=z.cps.size:=by lia
  subst e;exact .inl ⟨rfl,hd σ H p⟩
noncomputable def iF (x:Str) (lo hi:Option Int):Str:=⟨((x.cps.toList.drop (HT.du x.length 0 lo)).take (HT.du x.length x.length hi-HT.du x.length 0 lo)).toArray⟩
theorem BP (lo hi:Option Int) (n:Nat):Builtin.Str.strSliceIndices lo hi 1 n=(FI (HT.du n n hi-HT.du n 0 lo)).map (HT.du n 0 lo+ ·):=by
 have h1:(match lo with|none=>(0:Int)|some i=>max 0 (min (if i<0 then i+(n:Int) else i) n))=((HT.du n 0 lo:Nat):Int):=by
  cases lo with
  |none=>simp[HT.du]
  |some i=>
   simp only[HT.du]
   by_cases h:i<0
   ·simp only[h,if_true]<;>lia
   ·simp only[h,if_false]<;>lia
 have h2:(match hi with|none=>(n:Int)|some i=>max 0 (min (if i<0 then i+(n:Int) else i) n))=((HT.du n n hi:Nat):Int):=by
  cases hi with
  |none=>simp[HT.du]
  |some i=>
   simp only[HT.du]
   by_cases h:i<0
   ·simp only[h,if_true]<;>lia
   ·simp only[h,if_false]<;>lia
 rw[<-sliceRange_one,<-h1,<-h2];cases lo<;>cases hi<;>rfl
theorem nQ (x:Str) (l u:Option (Int×Tok)):(⟨((slicePicked x l u none).filterMap (x.cps[·]?)).toArray⟩:Str)=iF x (l.map (·.1)) (u.map (·.1)):=by
 show (⟨((Builtin.Str.strSliceIndices (l.map (·.1)) (u.map (·.1)) 1 x.length).filterMap (x.cps[·]?)).toArray⟩:Str)=_;rw[BP,pick_run]
 rfl
theorem fX (x:Str) (lo hi:Option Int):(iF x lo hi).length<=x.length:=by
 show ((x.cps.toList.drop _).take _).toArray.size<=x.cps.size;rw[FX,GA,G6];simp only[GV]
 lia
theorem pU (x:Str) (l u:Option (Int×Tok)) (h:(slicePicked x l u none).length=x.length):iF x (l.map (·.1)) (u.map (·.1))=x:=by
 have h':(Builtin.Str.strSliceIndices (l.map (·.1)) (u.map (·.1)) 1 x.length).length=x.length:=h;rw[BP,F7,GL] at h';have hs:HT.du x.length x.length (u.map (·.1))<=x.length∨x.length<HT.du x.length x.length (u.map (·.1)):=by lia
 have hu:HT.du x.length x.length (u.map (·.1))<=x.length:=by
  cases u with
  |none=>exact F5 _
  |some p=>
   show (if p.1<0 then (p.1+(x.length:Int)).toNat else min p.1.toNat x.length)<=x.length
   by_cases hp:p.1<0
   ·rw[if_pos hp];lia
   ·rw[if_neg hp];lia
 unfold iF
 by_cases hx:x.length=0
 ·have e:x.cps.toList= []:=by
   have:x.cps.toList.length=0:=by rw[GV];exact hx
   exact List.eq_nil_of_length_eq_zero this
  rw[e,List.drop_nil,List.take_nil];obtain ⟨c⟩:=x;have e':c= #[]:=Array.toList_inj.mp (by simpa using e)
  rw[e']
 ·have h0:HT.du x.length 0 (l.map (·.1))=0:=by lia
  rw[h0,List.drop_zero,GG (by rw[GV];show x.length<=_;lia)]
theorem part_of {v:Value} {o:Option Int} (p:IsPart v o):∃l:Option (Int×Tok),partValue l=v/\l.map (·.1)=o:=by
 cases p with
 |none=>exact ⟨none,rfl,rfl⟩
 |int i t=>exact ⟨some (i,t),rfl,rfl⟩
open Builtin.Str in
noncomputable def qZ (z y:Str):List V:=match occurrences z y 0 z.length 1 with
 |i::_=> [.str (strSub z 0 i),.str y,.str (strSub z (i+y.length) z.length)]
 | []=> [.str z,.str Str.empty,.str Str.empty]
theorem iG {X:Cx}:yu X "str.partition" (fun x vs H Q=>∃z y,x= .str z/\vs= [.str y]/\y.length≠0/\z.length<=sizeLine/\∀p,H p=none->Q (.ref p) (aL H p (.tup (qZ z y)))):=by
 intro pins s σ H x vs v us Q I rx rv h;obtain ⟨z,y,rfl,rfl,hy,hz,q⟩:=h;obtain ⟨t,rfl⟩:=rx;cases rv with
 |cons r rr=>
  cases rr;obtain ⟨u,rfl⟩:=r;refine call_meets F.slot_str_partition (typeIs_str s z t) F.entry_str_partition (F.args_str_partition_2 _ _) (meets_str_partition z y t u (by simpa using hy) hz) ?_
  have q':=q s.heap.objs.size (I.hok.fresh (F5 _));unfold qZ at q';cases ho:Builtin.Str.occurrences z y 0 z.length 1 with
  |nil=>
   rw[ho] at q';refine ⟨.ref s.heap.objs.size,_,I.laid (t':=s.toks+1) (fun b ob e=>Heap.get?_push_of_some _ e) (F5 _) ?_,rfl,q'⟩
   exact ⟨by show 3<=sizeLine;decide,_,.cons ⟨ν⟩ (.cons ⟨ν⟩ (.cons ⟨ν⟩ .nil)),_,Heap.get?_push_size _ rfl,rfl,0,rfl⟩
  |cons i r=>
   rw[ho] at q';refine ⟨.ref s.heap.objs.size,_,I.laid (t':=s.toks+1+1) (fun b ob e=>Heap.get?_push_of_some _ e) (F5 _) ?_,rfl,q'⟩
   exact ⟨by show 3<=sizeLine;decide,_,.cons ⟨ν⟩ (.cons ⟨ν⟩ (.cons ⟨ν⟩ .nil)),_,Heap.get?_push_size _ rfl,rfl,0,rfl⟩
end L2
namespace Sw
open PySem PySem.NumText
noncomputable def dg (n:Nat):List Nat:=(Nat.toDigits 10 n).map Char.toNat
theorem my (n:Nat):digitsVal (dg n)=n:=PySem.W.KIN.val_back n
theorem eA {n:Nat} (h:n<10):dg n= [48+n]:=by
 unfold dg;rw[Nat.toDigits_of_lt_base h]
 revert h
 revert n
 decide
theorem mB {n:Nat} (h:10<=n):dg n=dg (n/10)++ [48+n % 10]:=by
 have hm:n % 10<10:=Nat.mod_lt _ (by decide)
 rw[<-eA hm];unfold dg;rw[<-FF,Nat.toDigits_append_toDigits (by decide) (by lia) hm,Nat.div_add_mod]
theorem c5 (n:Nat):AllDigits (dg n):=by
 induction n using Nat.strongRecOn with
 |_ n ih=>
  by_cases h:n<10
  ·rw[eA h];intro c hc;simp at hc
   lia
  ·rw[mB (by lia)]
   intro c hc;rcases FM.mp hc with z|z
   ·exact ih (n/10) (by lia) c z
   ·simp at z
    lia
theorem q8 (n:Nat):dg n≠ []:=by
 by_cases h:n<10
 ·rw[eA h];simp
 ·rw[mB (by lia)];simp
theorem q9 (n:Nat):(dg n).head?=some 48->n=0:=by
 induction n using Nat.strongRecOn with
 |_ n ih=>
  intro e
  by_cases h:n<10
  ·rw[eA h] at e;simp at e;exact e
  ·rw[mB (by lia),List.head?_append] at e
   cases q:(dg (n/10)).head? with
   |none=>exact absurd (List.head?_eq_none_iff.mp q) (q8 _)
   |some c=>
    rw[q] at e;simp at e;subst e;have:=ih (n/10) (by lia) q
    lia
theorem mC:dg 0= [48]:=eA (by decide)
theorem uV:dg 1= [49]:=eA (by decide)
theorem j9 {n:Nat}:∀{k:Nat},n<10^(k+1)->(dg n).length<=k+1:=by
 induction n using Nat.strongRecOn with
 |_ n ih=>
  intro k hk
  by_cases h:n<10
  ·rw[eA h];simp
  ·rw[mB (by lia),Fa]
   cases k with
   |zero=>lia
   |succ k=>
    have h1:n/10<10^(k+1):=by
     rw[Nat.pow_succ 10 (k+1)] at hk;generalize 10^(k+1)=m at*
     lia
    have:=ih (n/10) (by lia) h1
    simp;omega
theorem BQ {l:List Nat} (h:AllDigits l) (ne:l≠ []) (hd:l.head?≠some 48∨l= [48]):dg (digitsVal l)=l:=by
 rcases hd with hd|hd
 ·cases l with
  |nil=>exact absurd rfl ne
  |cons c r=>
   have hc:=h.head;have c9:49<=c:=by
    simp at hd
    lia
   unfold dg;rw[toDigits_digitsVal r.length (c::r) rfl h (.inr ⟨c,r,rfl,c9⟩),Fe];refine (List.map_congr_left fun x hx=>?_).trans (List.map_id _)
   have hx':=h x hx;have:∀y,y<58->(Char.ofNat y).toNat=y:=by decide
   exact this x (by lia)
 ·subst hd;exact mC
theorem fY {n c:Nat} (h:c<48):c∉dg n:=fun z=>by have:=(c5 n c z).1;lia
def xr (l:List Nat):Prop:=1<=l.length/\l.length<=30/\(l.head?≠some 48∨l= [48])/\AllDigits l
open Classical in
noncomputable def de (l:List Nat):Option Nat:=if xr l then some (digitsVal l) else none
theorem ka {l:List Nat} {n:Nat} (h:de l=some n):l=dg n/\(dg n).length<=30:=by
 unfold de at h
 split at h
 ·rename_i f;obtain ⟨h1,h2,h3,h4⟩:=f;have e:dg (digitsVal l)=l:=BQ h4 (fun z=>by rw[z] at h1;simp at h1) h3
  cases h;rw[e];exact ⟨rfl,h2⟩
 ·cases h
theorem fZ {n:Nat} (h:(dg n).length<=30):de (dg n)=some n:=by
 unfold de;rw[if_pos,my];refine ⟨?_,h,?_,c5 n⟩
 ·have:=q8 n;cases q:dg n with
  |nil=>exact absurd q this
  |cons=>simp
 ·by_cases z:(dg n).head?=some 48
  ·exact .inr (by rw[q9 n z];exact mC)
  ·exact .inl z
theorem f6 {n:Nat} (h:30<(dg n).length):de (dg n)=none:=by
 unfold de;rw[if_neg];rintro ⟨_,h2,_⟩
 lia
theorem pV {l:List Nat} (h:xr l):de l=some (digitsVal l):=if_pos h
theorem gJ {l:List Nat} (h:¬xr l):de l=none:=if_neg h
theorem jc {l:List Nat} {n:Nat} (h:de l=some n):n<10^30:=by
 obtain ⟨e,hl⟩:=ka h;rw[<-my n];have gen:∀(l:List Nat) (a:Nat),AllDigits l->l.foldl (fun acc c=>acc*10+(c-48)) a<(a+1)*10^l.length:=by
  intro l
  induction l with
  |nil=>intro a _;simp
  |cons c l ih=>
   intro a h;have h1:=ih (a*10+(c-48)) h.tail;have h2:=h.head;rw[List.foldl_cons,FS,Nat.pow_succ];refine FK h1 ?_;rw[Nat.mul_comm (10^l.length) 10,<-Nat.mul_assoc];exact Nat.mul_le_mul_right _ (by lia)
 have g:=gen _ 0 (c5 n);rw[Nat.zero_add,Nat.one_mul] at g;exact FK g (Nat.pow_le_pow_right (by decide) hl)
noncomputable def cq (c:Nat) (l:List Nat):List Nat×List Nat:=(l.takeWhile (· !=c),(l.dropWhile (· !=c)).tail)
theorem dX {c:Nat} {a b:List Nat} (h:c∉a):cq c (a++c::b)=(a,b):=by
 unfold cq;have p:∀x∈a,(x !=c)=true:=fun x hx=>by
  rw[bne_iff_ne];exact fun z=>h (z▸hx)
 rw[List.takeWhile_append_of_pos p,List.dropWhile_append_of_pos p];simp
theorem ra {c:Nat}:∀{l:List Nat},c∈l->l=(cq c l).1++c::(cq c l).2/\c∉(cq c l).1:=by
 intro l h;obtain ⟨a,b,e⟩:=List.append_of_mem h
 induction l generalizing a b with
 |nil=>simp at h
 |cons x l ih=>
  by_cases z:x=c
  ·subst z;have:=dX (c:=x) (a:= []) (b:=l) (by simp)
   simp only[GK] at this;rw[this];simp
  ·have hl:c∈l:=by
    rcases F4.mp h with q|q
    ·exact absurd q.symm z
    ·exact q
   obtain ⟨a',b',e'⟩:=List.append_of_mem hl;obtain ⟨i1,i2⟩:=ih hl a' b' e';have ex:cq c (x::l)=(x::(cq c l).1,(cq c l).2):=by
    unfold cq;rw[List.takeWhile_cons_of_pos (by simpa using z),List.dropWhile_cons_of_pos (by simpa using z)]
   rw[ex];refine ⟨?_,?_⟩
   ·show x::l=x::((cq c l).1++c::(cq c l).2);rw[<-i1]
   ·show c∉x::(cq c l).1;intro q;rcases F4.mp q with q|q
    ·exact z q.symm
    ·exact i2 q
noncomputable def cS (a b:List Nat):Option (Nat×Nat):=match de a,de b with
 |some n,some m=>if m=0 then none else some (n,m)
 |_,_=>none
noncomputable def cT (l:List Nat):Option (Nat×Nat):=if 47∈l then cS (cq 47 l).1 (cq 47 l).2 else cS l [49]
noncomputable def mD (x y:Option (Nat×Nat)):Option (Nat×Nat):=match x,y with
 |some (n,m),some (n',m')=>some (n*m'+n'*m,m*m')
 |_,_=>none
noncomputable def di (l:List Nat):Option (Nat×Nat):=if 43∈l then mD (cT (cq 43 l).1) (cT (cq 43 l).2) else cT l
noncomputable def dv (p q:Nat):List Nat:=if p % q=0 then dg (p/q) else if p/q=0 then dg (p % q)++47::dg q else dg (p/q)++43::(dg (p % q)++47::dg q)
structure Reads (l:List Nat) (p q:Nat):Prop where
 pos:0<q
 low:Nat.gcd p q=1
 ex:∃n m,di l=some (n,m)/\p*m=n*q
 wr:dv p q=l
noncomputable def Da (a:Nat) (r:List Nat):Option (Nat×Nat):=match de (cq 47 r).1,de (cq 47 r).2 with
 |some t,some b=>if t=0∨b<=t∨Nat.gcd b t≠1 then none else some (a*b+t,b)
 |_,_=>none
noncomputable def xu (l:List Nat):Option (Nat×Nat):=if 43∈l then
    (match de (cq 43 l).1 with
     |some a=>if a=0 then none else if 47∈(cq 43 l).2 then Da a (cq 43 l).2 else none
     |none=>none)
  else if 47∈l then Da 0 l else (de l).map fun n=>(n,1)
theorem uW (n:Nat):cT (dg n)=(de (dg n)).map fun n=>(n,1):=by
 unfold cT;rw[if_neg (fY (by decide))]
 unfold cS;have e:de [49]=some 1:=by rw[<-uV];exact fZ (by rw[uV];decide)
 rw[e];cases de (dg n)<;>simp
theorem rc (t b:Nat):cT (dg t++47::dg b)=cS (dg t) (dg b):=by
 unfold cT;rw[if_pos (by simp),dX (fY (by decide))]
theorem mE (n:Nat):di (dg n)=(de (dg n)).map fun n=>(n,1):=by
 unfold di;rw[if_neg (fY (by decide)),uW]
theorem re (t b:Nat):43∉dg t++47::dg b:=by
 intro z;rcases FM.mp z with q|q
 ·exact fY (by decide) q
 ·rcases F4.mp q with q|q
  ·cases q
  ·exact fY (by decide) q
theorem uX (t b:Nat):di (dg t++47::dg b)=cS (dg t) (dg b):=by
 unfold di;rw[if_neg (re t b),rc]
theorem tq (w t b:Nat):di (dg w++43::(dg t++47::dg b))=mD ((de (dg w)).map fun n=>(n,1)) (cS (dg t) (dg b)):=by
 unfold di;rw[if_pos (by simp),dX (fY (by decide)),uW,rc]
theorem lC {t b:Nat} (h:30<(dg t).length∨30<(dg b).length):cS (dg t) (dg b)=none:=by
 unfold cS;rcases h with h|h
 ·rw[f6 h]
 ·rw[f6 h];cases de (dg t)<;>rfl
theorem lD {t b n m:Nat} (h:cS (dg t) (dg b)=some (n,m)):(dg t).length<=30/\(dg b).length<=30:=by
 by_cases h1:30<(dg t).length
 ·rw[lC (.inl h1)] at h;cases h
 ·by_cases h2:30<(dg b).length
  ·rw[lC (.inr h2)] at h;cases h
  ·lia
theorem yD {a t b:Nat} (ht:(dg t).length<=30) (hb:(dg b).length<=30) (t0:t≠0) (hlt:t<b) (g:Nat.gcd b t=1):Da a (dg t++47::dg b)=some (a*b+t,b):=by
 unfold Da;rw[dX (fY (by decide)),fZ ht,fZ hb]
 simp only;rw[if_neg];rintro (z|z|z)
 ·exact t0 z
 ·lia
 ·exact z g
theorem lE {l:List Nat} {p q:Nat} (h:Reads l p q):xu l=some (p,q):=by
 obtain ⟨q0,g,⟨n,m,hl,hv⟩,w⟩:=h;unfold dv at w
 split at w
 ·rename_i z;have q1:q=1:=by
   have d:q∣p:=Nat.dvd_of_mod_eq_zero z;have:Nat.gcd p q=q:=Nat.gcd_eq_right d
   lia
  subst q1;rw[Nat.div_one] at w;subst w;rw[mE] at hl;have hp:(dg p).length<=30:=by
   apply Nat.le_of_not_lt;intro y;rw[f6 y] at hl;cases hl
  unfold xu;rw[if_neg (fY (by decide)),if_neg (fY (by decide)),fZ hp]
  rfl
 ·rename_i z
  split at w
  ·rename_i z2;have hlt:p<q:=(Nat.div_eq_zero_iff_lt q0).mp z2;rw[Nat.mod_eq_of_lt hlt] at w z;subst w;rw[uX] at hl;obtain ⟨h1,h2⟩:=lD hl;unfold xu;rw[if_neg (re p q),if_pos (by simp),yD h1 h2 z hlt (by rw[Nat.gcd_comm];exact g)]
   simp
  ·rename_i z2;subst w;rw[tq] at hl;have hw:(dg (p/q)).length<=30:=by
    apply Nat.le_of_not_lt;intro y;rw[f6 y] at hl;cases hl
   have hp:∃a b,cS (dg (p % q)) (dg q)=some (a,b):=by
    cases y:cS (dg (p % q)) (dg q) with
    |none=>rw[y] at hl;rw[fZ hw] at hl;cases hl
    |some ab=>exact ⟨ab.1,ab.2,rfl⟩
   obtain ⟨a,b,hp⟩:=hp;obtain ⟨h1,h2⟩:=lD hp;have hlt:p % q<q:=Nat.mod_lt _ q0;unfold xu;rw[if_pos (by simp),dX (fY (by decide)),fZ hw]
   simp only;rw[if_neg z2,if_pos (by simp),yD h1 h2 z hlt (by rw[Nat.gcd_comm,<-Nat.gcd_rec,Nat.gcd_comm]<;>exact g),Nat.mul_comm,Nat.div_add_mod]
end Sw
namespace L2
open PySem PySem.Spec PyProof.Rows XH
section
variable {X:Cx} {a b e o:Expr} {es:List Expr} {t te to:TE} {ta:TA} {pos apos cpos:Pos} {x y:Str}
def DE (t:TE):TE:=fun σ H Q=>t σ H fun x H1=>(∃i,x= .int i/\i.natAbs.log2<1920/\Q (.str (toString i)) H1)∨∃z,x= .str z/\z.length<=sizeLine/\Q (.str z) H1
theorem ik (h:PE X e t):PE X (.FormattedValue e (-1) none pos) (DE t):=by
 intro pins s σ H Q I q;refine FormattedValue_plain (bo (h pins s σ H _ I q) fun v s1 ⟨x,H1,I1,r1,q1⟩=>?_)
 rcases q1 with ⟨i,rfl,hi,q⟩|⟨z,rfl,hz,q⟩
 ·obtain ⟨t,rfl⟩:=r1;exact formatField_int_small hi ⟨.str _,H1,I1.tok _,⟨ν⟩,q⟩
 ·obtain ⟨t,rfl⟩:=r1;exact formatField_str (fun t' tk=>⟨.str z,H1,I1.tok _,⟨ν⟩,q⟩) hz
def PJ (X:Cx) (es:List Expr) (t:Str->TE):Prop:=∀(out:Str) (pins:J1) (s:Shared) (σ:St) (H:Hp) (Q:VK),aJ X pins σ H s->t out σ H Q->
 wpAny (model X.prog X.w) X.A (joinParts out (evalEach es X.env)) (EP X pins σ Q) X.xe s
def DF:Str->TE:=fun out σ H Q=>out.length<=sizeLine/\Q (.str out) H
theorem mF:PJ X [] DF:=fun out pins s σ H Q I h=>joinParts_nil ⟨.str out,H,I.tok _,⟨_,rfl⟩,h.2⟩ h.1
def BR (te:TE) (tr:Str->TE):Str->TE:=fun out σ H Q=>te σ H fun x H1=>∃y,x= .str y/\(out++y).length<=sizeLine/\tr (out++y) σ H1 Q
theorem cE {tr:Str->TE} (he:PE X e te) (hr:PJ X es tr):PJ X (e::es) (BR te tr):=by
 intro out pins s σ H Q I h;refine joinParts_cons (bo (he pins s σ H _ I h) fun v s1 ⟨x,H1,I1,r1,y,e,hz,q⟩=>?_)
 subst e;obtain ⟨t,rfl⟩:=r1;exact ⟨hz,hr _ pins s1 σ H1 Q I1 q⟩
def BS (t:Str->TE):TE:=t Str.empty
theorem jF {t:Str->TE} (h:PJ X (a::b::es) t):PE X (.JoinedStr (a::b::es) pos) (BS t):=fun pins s σ H Q I q=>JoinedStr_many (h Str.empty pins s σ H Q I q)
theorem mG:dJ X (.type "int") (fun xs H Q=>∃z n,xs= [.str z]/\intText? z=some n/\z.length<=640/\Q (.int n) H):=by
 intro pins s σ H xs us Q I r h;obtain ⟨z,n,rfl,hn,hl,q⟩:=h;obtain ⟨u,rfl,t,rfl⟩:=vals1 r;exact PySem.W.KIN.call_text hn hl ⟨.int n,H,I.tok _,⟨ν⟩,q⟩
theorem nS {z:Str} {p:Pos} (hg:Gl X x) (h:∃t,X.mg x=some (.str z t)) (hd:(x==("__debug__" :Str))=false:=by decide):PE X (.Name x p) (tC (.str z)):=by
 obtain ⟨t,h⟩:=h;exact bY hg h ⟨t,rfl⟩ hd
theorem eY {i:Int} {p:Pos} (hg:Gl X x) (h:∃t,X.mg x=some (.int i t)) (hd:(x==("__debug__" :Str))=false:=by decide):PE X (.Name x p) (tC (.int i)):=by
 obtain ⟨t,h⟩:=h;exact bY hg h ⟨t,rfl⟩ hd
theorem lF:∀(l:J4) (n:Nat),aV (l.map V.str) (strsFrom n l)
 | [],_=> .nil
 |x::l,n=> .cons ⟨_,rfl⟩ (lF l (n+1))
theorem nU:yu X "str.split" (fun x vs H Q=>∃z c,x= .str z/\vs= [.str ⟨#[c]⟩]/\z.length+2<=sizeLine/\∀p,H p=none->Q (.ref p) (aL H p (.lst ((Txt.split z ⟨#[c]⟩).map V.str)))):=by
 intro pins s σ H x vs v us Q I rx rv h;obtain ⟨z,c,rfl,rfl,hz,q⟩:=h;obtain ⟨t,rfl⟩:=rx;obtain ⟨u,rfl,t',rfl⟩:=vals1 rv;have q':=q s.heap.objs.size (I.hok.fresh (F5 _));have hn:(Builtin.Str.occurrences z ⟨#[c]⟩ 0 z.length (z.length+1)).length<=z.length+1:=StrLaws.occ_length_le _ _ _ _ _;unfold Txt.split at q';cases h1:(decide (z.length<(⟨#[c]⟩:Str).length)||decide (Builtin.Str.strKind z<Builtin.Str.strKind ⟨#[c]⟩)) with
 |true=>
  rw[h1] at q';refine call_meets F.slot_str_split (typeIs_str s z t) F.entry_str_split (F.args_str_split_2 _ _) (meets_str_split_cannot_occur z ⟨#[c]⟩ t t' h1) ?_;exact ⟨.ref s.heap.objs.size,_,I.laid (o:= .lst [.str z]) (t':=s.toks) (fun b ob e=>Heap.get?_push_of_some _ e) (F5 _) ⟨by show 1<=sizeLine;decide,[.str z t],0,.cons ⟨ν⟩ .nil,Heap.get?_push_size _ rfl⟩,rfl,q'⟩
 |false=>
  rw[h1] at q';cases hf:(Builtin.Str.occurrences z ⟨#[c]⟩ 0 z.length (z.length+1)).isEmpty with
  |true=>
   rw[hf] at q';refine call_meets F.slot_str_split (typeIs_str s z t) F.entry_str_split (F.args_str_split_2 _ _) (meets_str_split_not_found z ⟨#[c]⟩ t t' h1 rfl hf) ?_;exact ⟨.ref s.heap.objs.size,_,I.laid (o:= .lst [.str z]) (t':=s.toks) (fun b ob e=>Heap.get?_push_of_some _ e) (F5 _) ⟨by show 1<=sizeLine;decide,[.str z t],0,.cons ⟨ν⟩ .nil,Heap.get?_push_size _ rfl⟩,rfl,q'⟩
  |false=>
   rw[hf] at q';have hp:(Builtin.Str.partsBetween z (Builtin.Str.occurrences z ⟨#[c]⟩ 0 z.length (z.length+1)) (⟨#[c]⟩:Str).length).length<=sizeLine:=by
    unfold Builtin.Str.partsBetween;simp only[F7,List.length_zip,FS,Fa,List.length_nil]
    lia
   refine call_meets F.slot_str_split (typeIs_str s z t) F.entry_str_split (F.args_str_split_2 _ _) (meets_str_split_sep z ⟨#[c]⟩ t t' h1 rfl hf (by lia) hp) ?_
   exact ⟨.ref s.heap.objs.size,_,I.laid (o:= .lst ((Builtin.Str.partsBetween z (Builtin.Str.occurrences z ⟨#[c]⟩ 0 z.length (z.length+1)) (⟨#[c]⟩:Str).length).map V.str)) (fun b ob e=>Heap.get?_push_of_some _ e) (F5 _) ⟨by rw[F7];exact hp,_,0,lF _ _,Heap.get?_push_size _ rfl⟩,rfl,q'⟩
end
end L2
namespace So
open PySem PyProof.Rows
end So
namespace Sw
open PySem L2 XH PySem.NumText
noncomputable def sL (z:Str):List Nat:=z.cps.toList
noncomputable def bE (l:List Nat):Str:=⟨l.toArray⟩
theorem aT (l:List Nat):sL (bE l)=l:=by simp[sL,bE]
theorem uY (z:Str):bE (sL z)=z:=by simp[sL,bE]
theorem cP {x y:Str} (h:sL x=sL y):x=y:=by rw[<-uY x,<-uY y,h]
theorem cr (z:Str):(sL z).length=z.length:=by simp[sL,Str.length]
theorem cG (l:List Nat):(bE l).length=l.length:=by rw[<-cr,aT]
theorem a8 (x y:Str):sL (x++y)=sL x++sL y:=by
 show (x.cps++y.cps).toList=_;rw[Array.toList_append]
 rfl
theorem uZ (a b:List Nat):bE a++bE b=bE (a++b):=cP (by rw[a8,aT,aT,aT])
theorem jG (n:Nat):Str.ofString (toString ((n:Nat):Int))=bE (dg n):=cP (by rw[aT];exact PySem.W.KIN.signs_num n)
theorem nV:Str.empty=bE []:=rfl
theorem pW (c:Nat):(⟨#[c]⟩:Str)=bE [c]:=rfl
theorem eZ:(Str.ofString "/")=bE [47]:=by decide
theorem iH:(Str.ofString "+")=bE [43]:=by decide
theorem nW (z:Str) (c:Nat):qZ z (bE [c])=if c∈sL z then [.str (bE (cq c (sL z)).1),.str (bE [c]),.str (bE (cq c (sL z)).2)] else [.str z,.str Str.empty,.str Str.empty]:=by
 unfold qZ;rcases StrLaws.occ_head z (bE [c]) 1 (F5 _) with ⟨h0,hn⟩|⟨i,r,h0,ha,hn⟩
 ·rw[h0,if_neg];intro hc;obtain ⟨i,hi⟩:=Ft.mp hc;exact hn i ((StrLaws.subAt_one z c i).mpr hi)
 ·have hi:(sL z)[i]?=some c:=(StrLaws.subAt_one z c i).mp ha;have hlt:i<(sL z).length:=(FL.mp hi).1;have hc:c∈sL z:=FB hi;have hno:c∉(sL z).take i:=by
   intro q;obtain ⟨k,hk⟩:=Ft.mp q;have kl:k<i:=by
    have:=(FL.mp hk).1;rw[GA] at this
    lia
   rw[List.getElem?_take_of_lt kl] at hk;exact hn k kl ((StrLaws.subAt_one z c k).mpr hk)
  have e:sL z=(sL z).take i++c::(sL z).drop (i+1):=by
   have:=(FL.mp hi).2;rw[<-this,List.getElem_cons_drop hlt,List.take_append_drop]
  have ec:cq c (sL z)=((sL z).take i,(sL z).drop (i+1)):=by
   conv=>lhs;rw[e]
   exact dX hno
  rw[h0,if_pos hc,ec];have e1:Builtin.Str.strSub z 0 i=bE ((sL z).take i):=cP (by
   rw[aT];show (Builtin.Str.strSub z 0 i).cps.toList=_;rw[StrLaws.strSub_toList,List.drop_zero,Nat.sub_zero]
   rfl)
  have e2:Builtin.Str.strSub z (i+(bE [c]).length) z.length=bE ((sL z).drop (i+1)):=cP (by
   rw[aT];show (Builtin.Str.strSub z (i+1) z.length).cps.toList=_;rw[StrLaws.strSub_toList,GG]
   ·rfl
   ·rw[G6];exact F5 _)
  show [V.str (Builtin.Str.strSub z 0 i),V.str (bE [c]),V.str (Builtin.Str.strSub z (i+(bE [c]).length) z.length)]=_;rw[e1,e2]
theorem jd (z:Str) (c:Nat):(!(Builtin.Str.occurrences z (bE [c]) 0 z.length 1).isEmpty)=decide (c∈sL z):=StrLaws.found_one z c
theorem fA (s x y:Str) (r:J4):Str.join s (x::y::r)=x++s++Str.join s (y::r):=rfl
theorem nX (c:Nat):∀(xs ys:J4),xs≠ []->ys≠ []->(∀x∈xs,c∉sL x)->(∀y∈ys,c∉sL y)->Str.join (bE [c]) xs=Str.join (bE [c]) ys->xs=ys
 | [],_,h,_,_,_,_=>absurd rfl h
 |_,[],_,h,_,_,_=>absurd rfl h
 | [x],[y],_,_,_,_,e=>by
  have e':x=y:=e;rw[e']
 | [x],y::z::r,_,_,hx,_,e=>by
  exfalso;have e':x=y++bE [c]++Str.join (bE [c]) (z::r):=e;refine hx x (by simp) ?_
  rw[e',a8,a8,aT];simp
 |x::z::r,[y],_,_,_,hy,e=>by
  exfalso;have e':x++bE [c]++Str.join (bE [c]) (z::r)=y:=e;refine hy y (by simp) ?_
  rw[<-e',a8,a8,aT];simp
 |x::x'::r,y::y'::r',_,_,hx,hy,e=>by
  rw[fA,fA] at e;have e1:=congrArg sL e;rw[a8,a8,a8,a8,aT,GE,GE] at e1;have e2:=congrArg (cq c) e1;simp only[Fq,GK] at e2;rw[dX (hx x (by simp)),dX (hy y (by simp))] at e2
  injection e2 with e3 e4
  have ih:=nX c (x'::r) (y'::r') (by simp) (by simp) (fun z hz=>hx z (by simp at hz⊢;exact .inr hz)) (fun z hz=>hy z (by simp at hz⊢;exact .inr hz)) (cP e4)
  rw[cP e3,ih]
theorem kb (x:Str) (c:Nat):Txt.split x (bE [c])≠ []:=by
 unfold Txt.split
 split
 ·simp
 ·split
  ·simp
  ·rw[StrLaws.partsBetween_eq];obtain ⟨p,r,e⟩:=StrLaws.partsFrom_ne x (bE [c]).length 0 (Builtin.Str.occurrences x (bE [c]) 0 x.length (x.length+1));rw[e];simp
theorem iI {c:Nat} {ws:J4} (ne:ws≠ []) (free:∀w∈ws,c∉sL w):Txt.split (Str.join (bE [c]) ws) (bE [c])=ws:=
 nX c _ _ (kb _ c) ne (StrLaws.split_free _ c) free (StrLaws.join_split _ _)
theorem pX {c:Nat} {w:Str} (h:c∉sL w):Txt.split w (bE [c])= [w]:=iI (ws:= [w]) (by simp) (by simpa using h)
theorem xv {c:Nat} {ws:J4} (z:Str) (ne:ws≠ []) (free:∀w∈ws,c∉sL w):Txt.replace (Str.join (bE [c]) ws) (bE [c]) z=Str.join z ws:=by
 show Txt.replace (Str.join (bE [c]) ws) ⟨#[c]⟩ z=_;rw[StrLaws.replace_one];show Str.join z (Txt.split _ (bE [c]))=_;rw[iI ne free]
theorem lG {c:Nat} {w:Str} (z:Str) (h:c∉sL w):Txt.replace w (bE [c]) z=w:=xv (ws:= [w]) z (by simp) (by simpa using h)
noncomputable def zE:Str:= "0123456789"
theorem rf (c:Nat):(!(Builtin.Str.occurrences zE (bE [c]) 0 zE.length 1).isEmpty)=decide (48<=c/\c<=57):=by
 rw[jd];have e:sL zE= [48,49,50,51,52,53,54,55,56,57]:=by decide
 rw[e,decide_eq_decide];simp;omega
def pY:Sp:=fun vs H Q _=>∃z:Str,vs= [.str z]/\z.length<=1000000/\(de (sL z)=none->Q .non H)/\∀n:Nat,de (sL z)=some n->Q (.int n) H
def u0:Sp:=fun vs H Q _=>∃z:Str,vs= [.str z]/\z.length<=900000/\(cT (sL z)=none->∀H',ax H H'->Q .non H')/\∀(n m:Nat) (p q:Int),cT (sL z)=some (n,m)->m≠0->n<10^30->m<10^30->Fr p q n m->Pair H Q p q
def rh:Sp:=fun vs H Q _=>∃z:Str,vs= [.str z]/\z.length<=800000/\(di (sL z)=none->∀H',ax H H'->Q .non H')/\
 ∀(n m:Nat) (p q:Int),di (sL z)=some (n,m)->C9 p q->p*m=n*q->m≠0->Bd 400 p->Bd 400 q->Pair H Q p q
def yE (K:F0):Sp:=fun vs H Q _=>∃(t:Addr) (p q:Nat),vs= [.ref t]/\jx K 1900 H t p q/\Q (.str (bE (dv p q))) H
def pZ (c:Addr):Sp:=fun vs H Q E=>∃z:Str,vs= [.str z]/\z.length<=800000/\(∀p q:Nat,Reads (sL z) p q->Pair H Q p q)/\((∀p q,¬Reads (sL z) p q)->∀H',ax H H'->E (.ref c) none H')
def rj:Sp:=fun vs H Q _=>∃z:Str,vs= [.str z]/\z.length<=800000/\∃p q:Nat,Reads (sL z) p q/\Pair H Q p q
theorem gK {l:List Nat} {p q p' q':Nat} (h:Reads l p q) (h':Reads l p' q'):p=p'/\q=q':=by
 have e:=(lE h).symm.trans (lE h');cases e;exact ⟨rfl,rfl⟩
theorem u9 {c:Addr}:∀vs H Q E,rj vs H Q E->pZ c vs H Q E0:=by
 rintro vs H Q E ⟨z,e,hz,p,q,r,k⟩;refine ⟨z,e,hz,fun p' q' r'=>?_,fun n=>absurd r (n p q)⟩
 obtain ⟨rfl,rfl⟩:=gK r r';exact k
theorem int_text {z:Str} (h:xr (sL z)):intText? z=some ((digitsVal (sL z):Nat):Int):=by
 refine intText_digits h.2.2.2 (fun e=>?_) ?_
 ·have:=h.1;rw[show sL z= [] from e] at this
  simp at this
 ·have:=h.2.1;rw[cr] at this
  lia
theorem va {a b:Str} {A B:Prop} (h1:a≠b->A) (h2:a=b->B):if (!decide (V.str a=V.str b))=true then A else B:=by
 by_cases e:a=b
 ·exact nF (by rw[e]) (h2 e)
 ·exact nT (fun z=>by cases z;exact e rfl) (h1 e)
theorem zF {a b:Str} {A B:Prop} (h1:a=b->A) (h2:a≠b->B):if decide (V.str a=V.str b)=true then A else B:=by
 by_cases e:a=b
 ·exact dT (by rw[e]) (h1 e)
 ·exact dF (fun z=>by cases z;exact e rfl) (h2 e)
theorem Db {b:Bool} {A B:Prop} (h1:b=false->A) (h2:b=true->B):if (!b)=true then A else B:=by
 cases b with
 |false=>exact fU (h1 rfl)
 |true=>exact cg (h2 rfl)
theorem jH:(Str.ofString "0")=bE [48]:=by decide
theorem lg {n:Nat} (h:n<2^1900):(n:Int).natAbs.log2<1920:=by
 rw[Int.natAbs_natCast]
 by_cases z:n=0
 ·subst z;decide
 ·exact GP ((Nat.log2_lt z).mpr h) (by decide)
theorem iJ {n:Nat} (h:n<2^1900):(dg n).length<=600:=j9 (k:=599) (FK h (by decide))
theorem vb (p q:Nat):(p:Int).fdiv q=((p/q:Nat):Int):=by
 rw[Int.fdiv_eq_ediv_of_nonneg _ (Int.natCast_nonneg q)]
 rfl
theorem xw (p q:Nat):(p:Int)-((p/q:Nat):Int)*(q:Int)=((p % q:Nat):Int):=by
 have h:=Nat.div_add_mod p q;have e:(((p/q:Nat):Int)*(q:Int))=((q*(p/q):Nat):Int):=by rw[Nat.mul_comm,GF]
 rw[e]
 lia
theorem EA {n:Nat} {k:Nat} (h:n<2^k):Bd k (n:Int):=by
 show (n:Int).natAbs<2^k;rw[Int.natAbs_natCast];exact h
theorem BU {n k:Nat} (h:Bd k (n:Int)):n<2^k:=by
 have h:(n:Int).natAbs<2^k:=h;rw[Int.natAbs_natCast] at h;exact h
theorem gL {n:Nat} (h:n<10^30):Bd 100 (n:Int):=EA (GP h (by decide))
structure Am (p q:Nat) (ns:List Nat):Prop where
 pos:0<q
 low:Nat.gcd p q=1
 bp:p<2^1900
 bq:q<2^1900
 ne:ns≠ []
 spl:Txt.split (Txt.replace (bE (dv p q)) (bE [43]) (bE [47])) (bE [47])=ns.map fun n=>bE (dg n)
 len:(dv p q).length<=2000
 rl:(Txt.replace (bE (dv p q)) (bE [43]) (bE [47])).length<=2000
 few:ns.length<=3
 bd:∀n∈ns,n<2^1900
 ok:(∀n∈ns,(dg n).length<=30)->Reads (dv p q) p q
 no:∀n∈ns,30<(dg n).length->∀p' q',¬Reads (dv p q) p' q'
theorem rn {c n:Nat} (h:c<48):c∉sL (bE (dg n)):=by rw[aT];exact fY h
theorem kc (w:Nat):dv w 1=dg w:=by
 unfold dv;rw[Nat.mod_one,if_pos rfl,Nat.div_one]
theorem BV {w:Nat} (h:w<2^1900):Am w 1 [w] where
 pos:=by decide
 low:=Nat.gcd_one_right _
 bp:=h
 bq:=by decide
 ne:=by simp
 spl:=by rw[kc,lG _ (rn (by decide)),pX (rn (by decide))];rfl
 len:=by rw[kc];have:=iJ h;lia
 rl:=by rw[kc,lG _ (rn (by decide)),cG];have:=iJ h;lia
 few:=by simp
 bd:=by intro n hn;simp at hn;rw[hn];exact h
 ok:=fun k=>⟨by decide,Nat.gcd_one_right _,⟨w,1,by rw[kc,mE,fZ (k w (by simp))];rfl,rfl⟩,rfl⟩
 no:=fun n hn l p' q' r=>by
  have e:n=w:=by simpa using hn
  subst e;obtain ⟨a,b,e,_⟩:=r.ex;rw[kc,mE,f6 l] at e;cases e
end Sw
namespace L2
open PySem PySem.Spec PyProof.Rows XH
end L2
namespace Sw
open PySem L2
end Sw
namespace L2
open PySem PySem.Spec PyProof.Rows XH
end L2
namespace Sw
open PySem L2 PyProof.Rows
end Sw
namespace L2
open PySem PySem.Spec PyProof.Rows XH Sw So
end L2
namespace So
open PySem PySem.Spec PyProof.Rows
end So
namespace L2
open PySem PySem.Spec PyProof.Rows XH Sw So
end L2
namespace Hm
open PySem PySem.SeqAt PySem.MeetsSeq
end Hm
namespace L2
open PySem PySem.Spec PyProof.Rows XH Sw So Hm
variable {X:Cx}
theorem nY:∀{ws:J4} {us:J6},aV (ws.map V.str) us->StrsAre us ws
 | [],_,h=>by cases h;exact .nil
 |w::ws,_,h=>by
  cases h with
  |cons r rr=>
   obtain ⟨t,rfl⟩:=r;exact .cons _ _ (nY rr)
theorem jI:yu X "str.join" (fun x vs H Q=>∃z a ws,x= .str z/\vs= [.ref a]/\aI X.K H a (ws.map V.str)/\z.length<=16/\(ws.map (fun x=>x.length)).sum+ws.length<=1048576/\Q (.str (Txt.join z ws)) H):=by
 intro pins s σ H x vs v us Q I rx rv h;obtain ⟨z,a,ws,rfl,rfl,hS,hz,hl,q⟩:=h;obtain ⟨t,rfl⟩:=rx;obtain ⟨u,rfl,ru⟩:=vals1 rv;cases ru;obtain ⟨its,r,p,_⟩:=I.list hS;exact join_listW p.isList (by simpa using nY r) hz hl fun t' k=>⟨.str _,H,I.tok _,⟨ν⟩,q⟩
theorem vc {K:F0} {a:Addr} {xs:List V} {js:List Nat} {te:TE} {σ:L2.St} {H1:Hp} {Q:VK} (P:V->V->Prop) (hS:aI K H1 a xs) (hz:xs.length<=sizeLine)
  (step:∀x∈xs,∀H3,ax H1 H3->∀Q':VK,(∀y H4,P x y->ax H3 H4->Q' y H4)->te (some x::a7 js σ) H3 Q')
  (fin:∀(p:Addr) (ys:List V) (H':Hp),H1 p=none->ys.length=xs.length->(∀(i:Nat) (x y:V),xs[i]?=some x->ys[i]?=some y->P x y)->ax H1 H'->H' p=some (.lst ys)->Q (.ref p) H'):lA js te σ Q (Bk K a) H1:=by
 intro p hp;refine ⟨fun i m ys H2=>i<=xs.length/\m=xs.length-i/\ys.length=i/\(∀(i:Nat) (x y:V),xs[i]?=some x->ys[i]?=some y->P x y)/\ax H1 H2/\H2 p=some (.lst ys),⟨xs.length,G7 _,rfl,rfl,fun j x y _ e=>by simp at e,Sw.ah hp _,ac⟩,?_⟩
 rintro i m ys H2 ⟨hi,rfl,hl,hP,g,e⟩;refine ⟨e,?_⟩;have S2:=g.seq hS
 by_cases hin:i<xs.length
 ·refine .inr ⟨⟨xs,xs[i],S2,F6 hin⟩,by lia,fun x H3 hy=>?_⟩
  obtain ⟨rfl,hx⟩:=hy;have ex:=hx xs S2;refine step x (FB ex) H3 g _ fun y H4 py g4=>⟨g4 _ _ e,xs.length-(i+1),by lia,hin,rfl,by simp[hl],fun j x' y' e1 e2=>?_,Sw.ja (g.trans g4) hp _,ac⟩
  by_cases hj:j<ys.length
  ·rw[Fx hj] at e2;exact hP j x' y' e1 e2
  ·have ej:j=i:=by
    have:=(FL.mp e2).1;simp at this
    lia
   subst ej;rw[Fu (by lia),hl] at e2
   simp at e2;subst e2;rw[ex] at e1;cases e1;exact py
 ·have e2:i=xs.length:=by lia
  subst e2;exact .inl ⟨⟨xs,S2,F5 _⟩,fin p ys H2 hp hl hP g e⟩
end L2
namespace Sw
open PySem L2 XH PySem.NumText
theorem iK (sep:Str) (ws:J4):(Txt.join sep ws).length=(ws.map (fun x=>x.length)).sum+(ws.length-1)*sep.length:=PySem.size_glued sep ws
def rq:Sp:=fun vs H Q _=>∃z:Str,vs= [.str z]/\z.length<=1000/\(Str.empty∈Txt.split z (bE [32])->∀H',ax H H'->Q .non H')/\(Str.empty∉Txt.split z (bE [32])->∀(l:Addr) (H':Hp),ax H H'->H' l=some (.lst ((Txt.split z (bE [32])).map V.str))->Q (.ref l) H')
def ke:Sp:=fun vs H Q _=>∃c m:Int,vs= [.int c,.int m]/\0<=m/\m<=50/\∀(l:Addr) (H':Hp) (xs:List Int),ax H H'->H' l=some (.lst (xs.map V.int))->(xs.length:Int)=m->(∀x∈xs,0<=x/\x<2^31)->Q (.ref l) H'
def rz:Sp:=fun vs H Q _=>∃(z:Str) (lo hi:Int),vs= [.str z,.int lo,.int hi]/\z.length<=1000000/\(de (sL z)=none->Q .non H)/\∀n:Nat,de (sL z)=some n->Q (if (n:Int)<lo∨hi<(n:Int) then .non else .int n) H
theorem xx (x:Str) (gs:J4):A7 (.str x) (gs.map V.str)=decide (x∈gs):=by
 unfold A7;rw[Bool.eq_iff_iff];simp[wR]
theorem lH (gs:J4):(gs.map V.str).all iy=true:=by
 rw[G1];intro x hx;obtain ⟨g,_,rfl⟩:=FE.mp hx
 rfl
theorem A9 {x:Str} {gs:J4} {A B:Prop} (h1:x∈gs->A) (h2:x∉gs->B):if (if false=true then !A7 (.str x) (gs.map V.str) else A7 (.str x) (gs.map V.str))=true then A else B:=by
 rw[if_neg (by decide:¬false=true),xx]
 exact d2 h1 h2
theorem vd {xs:List V} (h:1<=xs.length):dQ xs (some 1) none=xs.drop 1:=by
 have e1:HT.du xs.length 0 (some 1)=1:=by
  unfold HT.du;simp;omega
 have e2:HT.du xs.length xs.length none=xs.length:=rfl;unfold dQ;rw[e1,e2,GG (by rw[G6];lia)]
structure Dc (X:Cx) (es:List Expr) (t:TA):Prop where
 h:PA X es t
theorem rA {X:Cx}:Dc X [] zi:=⟨af⟩
theorem cF {X:Cx} {z:Str} {p:Pos} {j} {es:List Expr} {t:TA} (h:Dc X es t):Dc X (.Constant (.str z) j p::es) (qJ (tC (.str z)) t):=⟨aa ao h.h⟩
theorem rB {X:Cx} {es:List Expr} {t:TA} {pos:Pos} (h:Dc X es t):PE X (.List es pos) (Bv t):=bw h.h
end Sw
namespace L2
open PySem PySem.Spec PyProof.Rows XH Sw So Hm
theorem ve {xs:List V} {c:Nat} (h:c<=xs.length):dQ xs (some (c:Int)) none=xs.drop c:=by
 have e1:HT.du xs.length 0 (some (c:Int))=c:=by
  show (if (c:Int)<0 then ((c:Int)+(xs.length:Int)).toNat else min (c:Int).toNat xs.length)=c
  rw[if_neg (by lia)]
  lia
 have e2:HT.du xs.length xs.length none=xs.length:=rfl;unfold dQ;rw[e1,e2,GG (by rw[G6];lia)]
end L2
namespace Sw
open PySem L2 XH Hm
end Sw
namespace L2
open PySem PySem.Spec PyProof.Rows XH Sw Hm
end L2
namespace Sw
open PySem L2 XH Hm
end Sw
namespace L2
open PySem PySem.Spec PyProof.Rows XH
theorem rC {X:Cx} {K:F0} (h:X.K=K):A6 X (By K):=by
 subst h;exact bN
theorem f7 {X:Cx} {K:F0} (h:X.K=K):A6 X (uo K):=by
 subst h;exact ak
theorem im {X:Cx} {K:F0} (h:X.K=K):dJ X (.type "list") (fun xs H Q=>∃p ys,xs= [.ref p]/\(aI K H p ys∨cM K H p ys)/\∀l,H l=none->Q (.ref l) (aL H l (.lst ys))):=by
 subst h;exact cD
end L2
namespace Sw
open PySem L2 XH Hm
end Sw
namespace L2
open PySem PySem.Spec PyProof.Rows XH
abbrev Cx.blockT (X:Cx) (scope:Scope) (cl:List (Str×Addr)) (C:Addr) (N:J4) (os:J4) (fp:J5) (s:Shared) (H:Hp):Cx:=
 {X with env:=compEnvC scope cl C X.env,N:=N,s₀:=s,H₀:=H,outer:=X.stack,stack:=X.stack,ex:=fp,fn:=fun y=>os.contains y,pn:= [],xe:=fun _ _=>False}
structure jJ (X:Cx) (scope:Scope) (cl:List (Str×Addr)) (os:J4) (ys:J4) (js:List Nat):Prop where
 clos:closureFor scope X.env=pure cl
 nocell:(scope.names.all fun p=> !(p.2== .cell))=true
 kind:scope.kind= .function
 loc:(scope.names.all fun p=> !(p.2== .local)||scope.names.lookup p.1==some .local)=true
 sub:∀p∈cl,X.env.cells.lookup p.1=some p.2
 has:((relabel scope X.env).names.all fun p=> !(p.2== .cell||p.2== .free)||(cl.lookup p.1).isSome)=true
 noown:∀x∈os,cl.lookup x=none
 at_:Sw.jb X scope ys js
 len:js.length=ys.length
def vf (n:Nat) (g:TG) (js:List Nat) (te:TE) (σ:St) (Q:VK):It->Hp->Prop:=fun J H1=>∀p,H1 p=none->∃W:Nat->Nat->List V->Hp->Prop,(∃m,W 0 m [] (aL H1 p (.lst [])))/\
 ∀i m ys H2,W i m ys H2->H2 p=some (.lst ys)/\((J.stop i H2/\Q (.ref p) H2)∨(J.go i H2/\ys.length<sizeLine/\∀x H3,J.yld i H2 x H3->∀o:St,o.length=n->g x (o++a7 js σ) H3 fun σ4 H4=>(∃o':St,o'.length=n/\σ4=o'++a7 js σ)/\
  te σ4 H4 fun y H5=>H5 p=some (.lst ys)/\∃m',m'<m/\W (i+1) m' (ys++ [y]) (aL H5 p (.lst (ys++ [y])))))
def vg (wi:TI) (n:Nat) (g:TG) (js:List Nat) (te:TE):TE:=fun σ H Q=>wi σ H (vf n g js te σ Q)
section
variable {X:Cx} {scope:Scope} {cl:List (Str×Addr)} {os:J4} {ys:J4} {js:List Nat} {fp:J5} {pins:J1} {σ:St} {H:Hp} {s s4:Shared}
theorem mH {h1:Heap} (ok:jJ X scope cl os ys js) (I:aJ X pins σ H s) (hf:∀b∈fp,dE X pins H b) (hlt:∀b∈fp,b<s.heap.objs.size) (hns:h1.Ns s.heap.objs.size (fun _=>none))
  (hk:∀b o,s.heap.get? b=some o->h1.get? b=some o) (tk:Nat):
  aJ (X.blockT scope cl s.heap.objs.size (os++ys) os fp s H) [] (os.map (fun _=>none)++a7 js σ) H {s with heap:=h1,toks:=tk}:=by
 have sub:∀y c,cl.lookup y=some c->X.env.cells.lookup y=some c:=fun y c e=>ok.sub (y,c) (Fs e)
 refine ⟨⟨I.ok.mod,ok.kind,I.ok.glob,I.ok.blt,F5 _,fun x y c e1 e2=>I.ok.inj x y c (sub x c e1) (sub y c e2),fun x hx=>?_,fun x c e1 e2=>?_,I.ok.hd,I.ok.frames,.inl rfl,fun b hb=>⟨FO (hlt b hb),fun x c e=>(hf b hb).2.2.2.2.1 x c (sub x c e)⟩,
  I.bs,FH I.ok.bsz I.sz,fun b o e hb=>?_,fun b hb z=>?_,I.stack,I.stkFree⟩,rfl,I.bare,Un.kept hk,⟨_,hns,fun i y v e1 e2 e3=>?_⟩,fun y c e=>?_,I.hok.fresh (F5 _),fun y c e=>I.freeC y c (sub y c e),fun p hp=>absurd (show p∈([]:J1) from hp) (by simp),I.hok.kept hk,?_⟩
 ·have hx':(relabel scope X.env).names.lookup x=some .cell∨(relabel scope X.env).names.lookup x=some .free:=hx;rcases hx' with z|z
  ·have q:=lookup_all ok.has z;simp only[beq_self_eq_true,Bool.true_or,GQ,GR] at q;exact Fd.mp q
  ·have q:=lookup_all ok.has z;simp only[beq_self_eq_true,Bool.or_true,GQ,GR] at q;exact Fd.mp q
 ·have e1':os.contains x=true:=e1;have e2':cl.lookup x=some c:=e2;rw[ok.noown x (List.contains_iff_mem.mp e1')] at e2';cases e2'
 ·rcases (hf b hb).2.2.2.1 with z|z
  ·exact I.ok.noex b o e z
  ·exact absurd (FK (Heap.lt_size (I.ok.bs b o e).1) z) (GY _)
 ·rcases F4.mp (I.stkSub b z) with q|q
  ·exact (hf b hb).2.1 q
  ·exact (hf b hb).2.2.1 q
 ·by_cases hi:i<os.length
  ·have e2':(os.map (fun _=>(none:Option V))++a7 js σ)[i]?=some (some v):=e2
   rw[Fx (by rw[F7];exact hi),FG,F6 hi] at e2'
   cases e2'
  ·have e1'':(os++ys)[i]?=some y:=e1;have e2'':(os.map (fun _=>(none:Option V))++a7 js σ)[i]?=some (some v):=e2
   rw[Fu (by lia)] at e1''
   rw[Fu (by rw[F7];lia),F7] at e2''
   have e1':=e1'';have e2:=e2'';clear e1 e1'' e2'';generalize i-os.length=i at e1' e2;obtain ⟨j,hj,hN,hX,hc⟩:=ok.at_ i y e1';have e2':(a7 js σ)[i]?=some (some v):=e2;unfold a7 at e2';rw[FG,hj] at e2';have hs:σ[j]?=some (some v):=by
    cases q:σ[j]? with
    |none=>rw[Option.map_some,q] at e2';cases e2'
    |some o=>rw[Option.map_some,q] at e2';exact e2'
   obtain ⟨m,hn,hl⟩:=I.loc;obtain ⟨u,r,l⟩:=hl j y v hN hs (hX.elim (fun z=> .inr (.inl z)) fun z=> .inr (.inr z))
   refine ⟨u,r,.inr ⟨hc,?_⟩⟩;rcases l with ⟨k,_⟩|⟨k,c,hcl,hcell⟩
   ·have k':X.env.scope.names.lookup y=some .local:=k;rcases hX with z|z<;>(rw[z] at k';cases k')
   ·have ex:∃c',cl.lookup y=some c':=by
     rcases hc with z|z
     ·have q:=lookup_all ok.has z;simp only[beq_self_eq_true,Bool.true_or,GQ,GR] at q;exact Fd.mp q
     ·have q:=lookup_all ok.has z;simp only[beq_self_eq_true,Bool.or_true,GQ,GR] at q;exact Fd.mp q
    obtain ⟨c',hc'⟩:=ex;have e:=sub y c' hc';rw[hcl] at e;cases e;obtain ⟨oc,hoc,hd⟩:=hcell;exact ⟨c,hc',oc,hk _ _ hoc,hd⟩
 ·obtain ⟨v,oc,hoc,hd⟩:=I.cell y c (sub y c e);exact ⟨v,oc,hk _ _ hoc,hd⟩
 ·show (os.map (fun _=>(none:Option V))++a7 js σ).length=(os++ys).length
  simp[a7,ok.len]
theorem p6 {H':Hp} {h':Heap} {σ':St} (I:aJ X pins σ H s) (hf:∀b∈fp,dE X pins H b) (J:aJ (X.blockT scope cl s.heap.objs.size (os++ys) os fp s H) [] σ' H' s4) (hs:Heap.SameBut s.heap.objs.size s4.heap h'):
  aJ X pins σ H' {s4 with heap:=h'}:=by
 have low:∀b o,s.heap.get? b=some o->b≠s.heap.objs.size:=fun b o e=>FO (Heap.lt_size e)
 have B:=J.base;have u:Un (iX X.stack) fp H H' s.heap h':={
  keep:=fun b o q n hb hx=>(hs.2 b (low b o q)).trans (B.keep b o q n hb hx)
  slot:=fun b o q n hb hx=>by
   obtain ⟨sl,e⟩:=B.slot b o q n hb hx;exact ⟨sl,(hs.2 b (low b o q)).trans e⟩
  free:=B.free
  there:=fun b o q hx=>by
   obtain ⟨o',e⟩:=B.there b o q hx;exact ⟨o',(hs.2 b (low b o q)).trans e⟩
  tups:=B.tups
  frzs:=B.frzs
  tbls:=B.tbls}
 have hn:H' s.heap.objs.size=none:=J.free;have hk:fQ X.prog X.w H' h':=fun a o e=>(J.hok a o e).stay (fun b v hb q=>(hs.2 b (by
  intro z;rcases hb with z'|z'
  ·rw[<-z',z,hn] at e;cases e
  ·rw[z,hn] at z';cases z')).trans q) (fun _ q=>q) fun _ _ q=>q
 exact I.call' (s':={s4 with heap:=h'}) (ch:=fp) J.os u hk J.bare fun b hb=>⟨(hf b hb).2.2.2.1,(hf b hb).2.1,(hf b hb).2.2.2.2.1,(hf b hb).2.2.2.2.2⟩
end
section
variable {X:Cx} {scope:Scope} {cl:List (Str×Addr)} {os:J4} {ys:J4} {js:List Nat} {elt iter tg:Expr} {px pos:Pos} {wi:TI} {te:TE} {g:TG}
theorem p7 (hc:X.calm=true) (ok:jJ X scope cl os ys js) (hi:PI X tg iter wi)
  (hg:∀(C:Addr) (fp:J5) (s:Shared) (H:Hp),PG (X.blockT scope cl C (os++ys) os fp s H) tg g)
  (he:∀(C:Addr) (fp:J5) (s:Shared) (H:Hp),PE (X.blockT scope cl C (os++ys) os fp s H) elt te)
  (hs:∀x,foldedSetIterable iter X.env x=pure x)
  {pins:J1} {s:Shared} {σ:St} {H:Hp} {Q:VK} {use:Option (Value->Sem Unit)} {QQ:JY} {pp:Pos} (I:aJ X pins σ H s) (h:(vg wi os.length g js te) σ H Q)
  (fin:∀(p C:Addr) (s6:Shared) (H5:Hp) (v:Flow),(∃m,s6.heap.Ns C m)->(∀h',Heap.SameBut C s6.heap h'->aJ X pins σ H5 {s6 with heap:=h'})->dE X pins H5 C->Q (.ref p) H5->compPost (model X.prog X.w) X.A X.xe use QQ (.ref p) C (.ok v) s6):
  wpAny (model X.prog X.w) X.A (comprehension (.ListComp elt [⟨tg,iter,[],0⟩] scope pos) scope X.env pp (newList []) false (eval iter X.env) use) QQ X.xe s:=by
 have ncell:∀y∈scope.names,y.2≠ .cell:=fun y hy z=>by
  have q:=G1.mp ok.nocell y hy;rw[z] at q;simp at q
 have nloc:∀y∈scope.names,y.2= .local->scope.names.lookup y.1=some .local:=fun y hy z=>by
  have q:=G1.mp ok.loc y hy;rw[z] at q
  simpa using q
 refine wpAny_comprehension_free rfl hs ok.clos ok.kind nloc (bo (hi pins s σ H _ I h) fun v s1 h1=>bo h1 fun itv s2 h2=>?_)
 obtain ⟨it,fp,tn,J,H2,rfl,I2,T,st2,f2,q2⟩:=h2;obtain ⟨W,⟨m0,w0⟩,turn⟩:=q2 s2.heap.objs.size (I2.hok.fresh (F5 _));refine wpAny_newObj_type (wpAny_newFunctionEnv ncell (by intro y hy;simp at hy) (fun h1 hns hsb=>?_) ok.kind)
 have I3:=I2.laid (a:=s2.heap.objs.size) (o:= .lst []) (h':=s2.heap.push {cls:= .type "list",dict:=none,data:= .seq ([]:J6).toArray}) (t':=s2.toks) (fun b u q=>Heap.get?_push_of_some _ q) (F5 _)
  ⟨G7 _,[],0,.nil,Heap.get?_push_size _ rfl⟩
 have fpo:∀b∈fp,b<s2.heap.objs.size:=fun b hb=>by
  obtain ⟨o,e,_⟩:=T.obj 0 _ st2 b hb;exact Heap.lt_size e
 have f3:∀b∈fp,dE X pins (aL H2 s2.heap.objs.size (.lst [])) b:=fun b hb=>⟨by rw[ar (FO (fpo b hb))];exact (f2 b hb).1,(f2 b hb).2⟩
 generalize hs3:({s2 with heap:=s2.heap.push {cls:= .type "list",dict:=none,data:= .seq ([]:J6).toArray},toks:=s2.toks}:Shared)=s3 at I3
 have e3:s3.heap=s2.heap.push {cls:= .type "list",dict:=none,data:= .seq ([]:J6).toArray}:=by rw[<-hs3]
 have lt3:∀b∈fp,b<s3.heap.objs.size:=fun b hb=>by rw[e3,Heap.size_push];exact Nat.lt_succ_of_lt (fpo b hb)
 dsimp only at hns hsb⊢;rw[<-e3] at hns hsb;have hk:∀b o,s3.heap.get? b=some o->h1.get? b=some o:=fun b o e=>hsb.extBut b o (FO (Heap.lt_size e)) (Heap.get?_push_of_some _ e)
 have J0:=mH (h1:=h1) ok I3 f3 lt3 hns hk (s2.toks+0);have t0:tn 0 h1:=T.keep 0 _ _ st2 fun b hb o e=>hk b o (by rw[e3];exact Heap.get?_push_of_some _ e)
 have fpB:∀{H':Hp},(∀b∈fp,H' b=none)->∀b∈fp,dE (X.blockT scope cl s3.heap.objs.size (os++ys) os fp s3 (aL H2 s2.heap.objs.size (.lst []))) [] H' b:=fun {H'} hn b hb=>
  ⟨hn b hb,FO (lt3 b hb),fun z=>(F4.mp (I3.stkSub b z)).elim (f3 b hb).2.1 (f3 b hb).2.2.1,.inl hb,fun x c e=>(f3 b hb).2.2.2.2.1 x c (ok.sub (x,c) (Fs e)),fun p hp=>absurd (show p∈([]:J1) from hp) (by simp)⟩
 have loop:codeAny (model X.prog X.w) X.A (.compLoop (.ListComp elt [⟨tg,iter,[],0⟩] scope pos) 0 (.ref it) (.ref s2.heap.objs.size) (compEnvC scope cl s3.heap.objs.size X.env))
   (compPost (model X.prog X.w) X.A X.xe use QQ (.ref s2.heap.objs.size) s3.heap.objs.size) {s3 with heap:=h1,toks:=s2.toks+0}:=by
  refine fv (fun n s'=>∃i zs o0 H',aJ (X.blockT scope cl s3.heap.objs.size (os++ys) os fp s3 (aL H2 s2.heap.objs.size (.lst []))) [] (o0++a7 js σ) H' s'/\o0.length=os.length/\tn i s'.heap/\(∀b∈fp,H' b=none)/\W i n zs H') ?_ m0
   ⟨0,[],os.map (fun _=>none),_,J0,F7 _,t0,fun b hb=>(f3 b hb).1,w0⟩
  rintro n s5 ⟨i,zs,o0,H5,I5,l5,t5,n5,w5⟩;obtain ⟨hD,hw⟩:=turn i n zs H5 w5;rcases hw with ⟨stop,qn⟩|⟨go,hz,step⟩
  ·refine bo (T.done (X.blockT scope cl s3.heap.objs.size (os++ys) os fp s3 (aL H2 s2.heap.objs.size (.lst []))) rfl rfl rfl hc i [] s5 _ H5 (fun _ _=>False) I5 (fpB n5) t5 stop) fun r s6 ⟨hr,I6⟩=>?_
   subst hr;obtain ⟨m,hn,_⟩:=id I6.loc;exact fin _ _ s6 H5 _ ⟨m,hn⟩ (fun h' hs'=>p6 I3 f3 I6 hs') (I3.fpOk (F5 _) (show H5 s3.heap.objs.size=none from I6.free)) qn
  ·refine bo (T.item (X.blockT scope cl s3.heap.objs.size (os++ys) os fp s3 (aL H2 s2.heap.objs.size (.lst []))) rfl rfl rfl hc i [] s5 _ H5 (fun _ _=>False) I5 (fpB n5) t5 go) fun r s6 ⟨u,hr,h6⟩=>?_
   subst hr;refine bo h6 fun _ s7 ⟨x,H7,I7,r7,y7,t7,n7⟩=>?_
   have I7':=I7.pinned (fpB n7) (T.obj _ _ t7);have hst:=step x H7 y7;refine bo (hg _ _ _ _ _ s7 _ H7 x u _ I7' r7 (hst o0 l5)) fun _ s8 ⟨σ8,H8,I8,⟨o8,l8,e8⟩,hst⟩=>?_
   subst e8;refine bo (he _ _ _ _ _ s8 _ H8 _ I8 hst) fun yv s9 ⟨y,H9,I9,r9,hD9,m',hm,w9⟩=>?_
   refine bo (bG _ s9 _ H9 (.ref s2.heap.objs.size) [y] (.ref s2.heap.objs.size) [yv] (fun _ H'=>H'=aL H9 s2.heap.objs.size (.lst (zs++ [y]))) I9 rfl (.cons r9 .nil) ⟨_,zs,y,rfl,rfl,hD9,hz,rfl⟩) fun _ s10 ⟨_,H10,I10,_,e10⟩=>?_
   subst e10;refine ⟨m',hm,i+1,zs++ [y],o8,_,I10.unpinned,l8,T.keep _ _ _ t7 fun b hb o e=>(I10.pin (b,o) (F9 _ (F9 _ (bX hb e)))).1,fun b hb=>?_,w9⟩
   obtain ⟨o,e,d⟩:=T.obj _ _ t7 b hb;exact (I10.pin (b,o) (F9 _ (F9 _ (bX hb e)))).2.1
 subst hs3;exact codeAny_compStart_list loop (T.self _ 0 _ _ _ t0 loop)
theorem vh (hc:X.calm=true) (ok:jJ X scope cl os ys js) (hi:PI X tg iter wi)
  (hg:∀(C:Addr) (fp:J5) (s:Shared) (H:Hp),PG (X.blockT scope cl C (os++ys) os fp s H) tg g)
  (he:∀(C:Addr) (fp:J5) (s:Shared) (H:Hp),PE (X.blockT scope cl C (os++ys) os fp s H) elt te)
  (hs:∀x,foldedSetIterable iter X.env x=pure x:=by intro _;rfl):PE X (.ListComp elt [⟨tg,iter,[],0⟩] scope pos) (vg wi os.length g js te):=fun pins s σ H Q I h=>by
 rw[eval_ListComp];exact p7 hc ok hi hg he hs I h fun p C s6 H5 v ⟨m,hn⟩ J _ q=>⟨m,hn,fun h' hs'=>⟨.ref p,H5,J h' hs',rfl,q⟩⟩
end
end L2
namespace Sw
open PySem L2 XH
theorem DG {X:Cx} {scope:Scope} {cl:List (Str×Addr)} {os ys:J4} {js:List Nat} (a:jb X scope ys js) (s:pT X cl) (len:js.length=ys.length) (clos:closureFor scope X.env=pure cl) (nocell:(scope.names.all fun p=> !(p.2== .cell))=true) (kind:scope.kind= .function)
  (loc:(scope.names.all fun p=> !(p.2== .local)||scope.names.lookup p.1==some .local)=true) (has:((relabel scope X.env).names.all fun p=> !(p.2== .cell||p.2== .free)||(cl.lookup p.1).isSome)=true) (noown:(os.all fun x=>(cl.lookup x).isNone)=true):jJ X scope cl os ys js:=
 ⟨clos,nocell,kind,loc,s.all,has,fun x hx=>by have:=G1.mp noown x hx;simpa using this,a,len⟩
theorem xy {X:Cx} {K:F0} {es:List Expr} {k:Nat} {t:yq} {n:Nat} {pos:Pos} (hK:X.K=K) (hc:X.calm=true) (h:Bh X es t) (hn:(assignEach es X.env).length=n:=by rfl) (hst:(assignEach es X.env).findIdx? (·.1)=none:=by rfl):PG X (.Tuple es k pos) (Bj K n t):=by
 subst hK;exact iY hc h hn hst
theorem nZ {X:Cx} {scope:Scope} {cl:List (Str×Addr)} {C:Addr} {fp:J5} {s:Shared} {H:Hp} {os ys:J4} {i:Nat} {x:Str} {pos:Pos} (nd:(os++ys).Nodup) (hi:(os++ys)[i]?=some x) (hl:(relabel scope X.env).names.lookup x=some .local):PG (X.blockT scope cl C (os++ys) os fp s H) (.Name x pos) (bK i):=
 jC (X:=X.blockT scope cl C (os++ys) os fp s H) nd hi (.inl hl) (.inr hl)
end Sw
namespace L2
open PySem PySem.Spec PyProof.Rows XH
end L2
namespace Sw
open PySem L2 XH
end Sw
namespace L2
open PySem PySem.Spec PyProof.Rows
end L2
namespace Sw
open PySem L2 XH
end Sw
namespace L2
open PySem PySem.Spec PyProof.Rows
end L2
namespace Sw
open PySem L2 XH
noncomputable def hW (nm l m u s:V):List (Str×V):=aK "second" s (aK "uses" u (aK "most" m (aK "least" l (aK "name" nm []))))
noncomputable def warmF (nm l m u s f:V):List (Str×V):=aK "fill" f (hW nm l m u s)
theorem vm {nm l m u s:V} {g:Str} (h:g≠ "second" /\g≠ "uses" /\g≠ "most" /\g≠ "least" /\g≠ "name"):(hW nm l m u s).lookup g=none:=by
 unfold hW;rw[a9,if_neg h.1,a9,if_neg h.2.1,a9,if_neg h.2.2.1,a9,if_neg h.2.2.2.1,a9,if_neg h.2.2.2.2]
 rfl
theorem p9 {nm l m u s f:V}:(warmF nm l m u s f).lookup ("fill" :Str)=some f:=by
 unfold warmF;rw[a9,if_pos rfl]
theorem gM {nm l m u s:V}:(hW nm l m u s).length<=5:=by
 unfold hW;have h1:=aP "name" nm [];have h2:=aP "least" l (aK "name" nm []);have h3:=aP "most" m (aK "least" l (aK "name" nm []));have h4:=aP "uses" u (aK "most" m (aK "least" l (aK "name" nm [])));have h5:=aP "second" s (aK "uses" u (aK "most" m (aK "least" l (aK "name" nm []))));simp at h1
 lia
def Kept (H H':Hp) (a:Addr):Prop:=∀b o,H b=some o->b≠a->H' b=some o
theorem Kept.refl (H:Hp) (a:Addr):Kept H H a:=fun _ _ h _=>h
theorem Kept.put {H H':Hp} {a:Addr} (k:Kept H H' a) (o:HO):Kept H (aL H' a o) a:=fun b u h n=>by rw[ar n];exact k b u h n
theorem Kept.new {H H':Hp} {a p:Addr} (k:Kept H H' a) (hp:H' p=none) (o:HO):Kept H (aL H' p o) a:=fun b u h n=>by
 have e:=k b u h n;rw[ar (aM e hp)];exact e
theorem gO {H H':Hp} {x dx C:Addr} (nx:H x=none) (nd:H dx=none) (k:Kept (aL (aL H dx (.own x)) x (.ins C dx [])) H' x):ax H H':=fun b o h=>by
 have n1:=aM h nx;exact k b o (by rw[ar n1,ar (aM h nd)];exact h) n1
structure kf (K:F0) (C:Addr):Prop where
 cl:mh K C
 name:aD K C "name"
 least:aD K C "least"
 most:aD K C "most"
 uses:aD K C "uses"
 second:aD K C "second"
end Sw
namespace L2
open PySem PySem.Spec PyProof.Rows XH
def kL (R:V->V->Prop):List V->List V->Prop
 | [],[]=>True
 |x::xs,y::ys=>R x y/\kL R xs ys
 |_,_=>False
theorem kL.len {R:V->V->Prop}:∀{xs ys:List V},kL R xs ys->xs.length=ys.length
 | [],[],_=>rfl
 |_::_,_::_,h=>by simp[kL.len h.2]
 | [],_::_,h=>h.elim
 |_::_,[],h=>h.elim
def zG (K:F0) (H:Hp):Nat->V->V->Prop
 |0,x,y=>x=y/\DC x
 |n+1,x,y=>zG K H n x y∨∃a b xs ys,x= .ref a/\y= .ref b/\((cM K H a xs/\cM K H b ys)∨(aI K H a xs/\aI K H b ys))/\kL (zG K H n) xs ys
theorem iL {A:Around} {s:Shared} {R:V->V->Prop} (hR:∀x y u w,R x y->RelV x u->RelV y w->SeqAt.EqAt A s u w true):∀{xs ys:List V} {us ws:J6},kL R xs ys->aV xs us->aV ys ws->∀j (h1:j<us.length) (h2:j<ws.length),SeqAt.EqAt A s us[j] ws[j] true
 | [],[],_,_,_,.nil,.nil,j,h1,_=>absurd h1 (by simp)
 |_::_,_::_,_,_,h,.cons r1 _,.cons r2 _,0,_,_=>hR _ _ _ _ h.1 r1 r2
 |_::_,_::_,_,_,h,.cons _ t1,.cons _ t2,j+1,h1,h2=>iL hR h.2 t1 t2 j (by simpa using h1) (by simpa using h2)
theorem mI {X:Cx} {pins:J1} {σ:St} {H:Hp} {s:Shared} (I:aJ X pins σ H s):∀(n:Nat) (A:Around) (x y:V) (u w:Value),A.units+n<cLine->zG X.K H n x y->RelV x u->RelV y w->SeqAt.EqAt A s u w true
 |0,A,x,y,u,w,_,h,r1,r2=>by
  obtain ⟨rfl,hs⟩:=h;exact uQ hs r1 r2
 |n+1,A,x,y,u,w,hu,h,r1,r2=>by
  rcases h with h|⟨a,b,xs,ys,rfl,rfl,hq,hA⟩
  ·exact mI I n A x y u w (by lia) h r1 r2
  cases r1;cases r2
  by_cases e:a=b
  ·subst e;exact SeqAt.EqAt.same _
  refine SeqAt.EqAt.of_refs e ?_;have ih:=fun x y u w=>mI I n A.in1 x y u w (by show A.units+1+n<_;lia)
  rcases hq with ⟨h1,h2⟩|⟨h1,h2⟩
  ·obtain ⟨i1,v1,p1,_⟩:=I.tuple h1;obtain ⟨i2,v2,p2,_⟩:=I.tuple h2;have k:=SeqAt.RcAt.tuples (A:=A) (e:=fun _=>true) p1 p2 (by lia) fun j g1 g2=>iL (A:=A.in1) (s:=s) ih hA v1 v2 j (by simpa using g1) (by simpa using g2)
   have e1:∀m,((FI m).all fun _=>true)=true:=fun m=>by simp
   rw[e1] at k
   simpa [<-v1.length,<-v2.length,hA.len] using k
  ·obtain ⟨i1,v1,p1,_⟩:=I.list h1;obtain ⟨i2,v2,p2,_⟩:=I.list h2;have k:=SeqAt.RcAt.lists (A:=A) (e:=fun _=>true) p1.isList p2.isList (by simp[<-v1.length,<-v2.length,hA.len]) (by lia) fun j g1 g2=>iL (A:=A.in1) (s:=s) ih hA v1 v2 j (by simpa using g1) (by simpa using g2)
   have e1:∀m,((FI m).all fun _=>true)=true:=fun m=>by simp
   rw[e1] at k;exact k
theorem zH {X:Cx} (n:Nat) (hu:X.A.units+(n+1)<cLine):i0 X (compareOp .Eq) (fun x y H Q=>∃a b xs ys,x= .ref a/\y= .ref b/\aI X.K H a xs/\aI X.K H b ys/\kL (zG X.K H n) xs ys/\Q (.bl true) H):=by
 intro pins s σ H x y v u Q I rx ry h;obtain ⟨a,b,xs,ys,rfl,rfl,h1,h2,hA,hq⟩:=h;cases rx;cases ry;obtain ⟨i1,v1,p1,_⟩:=I.list h1;obtain ⟨i2,v2,p2,_⟩:=I.list h2;refine SeqAt.eq_listAt (e:=fun _=>true) p1.isList p2.isList (by simp[<-v1.length,<-v2.length,hA.len]) (by lia) (fun j g1 g2=>?_) ?_
 ·exact iL (A:=X.A.in1) (s:=s) (fun x y u w=>mI I n X.A.in1 x y u w (by show X.A.units+1+n<_;lia)) hA v1 v2 j (by simpa using g1) (by simpa using g2)
 ·exact ⟨.bl true,H,I,by show Value.bool _=Value.bool _;simp,hq⟩
end L2
namespace Sw
open PySem L2 XH
noncomputable def mJ (nm p t s l:V):List (Str×V):=aK "links" l (aK "steps" s (aK "takes" t (aK "plates" p (aK "name" nm []))))
structure DH (K:F0) (C:Addr):Prop where
 cl:mh K C
 name:aD K C "name"
 plates:aD K C "plates"
 takes:aD K C "takes"
 steps:aD K C "steps"
 links:aD K C "links"
end Sw
namespace L2
open PySem PySem.Spec PyProof.Rows XH Sw So
theorem jK {X:Cx} (n:Nat) (hu:X.A.units+(n+1)<cLine):i0 X (compareOp .Eq) (fun x y H Q=>∃a b xs ys,x= .ref a/\y= .ref b/\cM X.K H a xs/\cM X.K H b ys/\kL (zG X.K H n) xs ys/\Q (.bl true) H):=by
 intro pins s σ H x y v u Q I rx ry h;obtain ⟨a,b,xs,ys,rfl,rfl,h1,h2,hA,hq⟩:=h;cases rx;cases ry;obtain ⟨i1,v1,p1,_⟩:=I.tuple h1;obtain ⟨i2,v2,p2,_⟩:=I.tuple h2;refine SeqAt.eq_tupleAt (e:=fun _=>true) p1 p2 (by lia) (fun j g1 g2=>?_) ?_
 ·exact iL (A:=X.A.in1) (s:=s) (fun x y u w=>mI I n X.A.in1 x y u w (by show X.A.units+1+n<_;lia)) hA v1 v2 j (by simpa using g1) (by simpa using g2)
 ·exact ⟨.bl true,H,I,by show Value.bool _=Value.bool _;simp[<-v1.length,<-v2.length,hA.len],hq⟩
end L2
namespace Sw
open PySem L2 XH Hm
end Sw
namespace L2
open PySem PySem.Spec PyProof.Rows XH Sw Hm
end L2
namespace Sw
open PySem L2 XH Hm
theorem BW {α:Type} {xs:List α} {i:Nat} {v d:α} (h:xs[i]?=some v):xs.getD i d=v:=by rw[List.getD_eq_getElem?_getD,h];rfl
theorem mK {R:V->V->Prop}:∀{xs ys:List V},xs.length=ys.length->(∀(i:Nat) (x y:V),xs[i]?=some x->ys[i]?=some y->R x y)->kL R xs ys
 | [],[],_,_=>trivial
 |x::xs,y::ys,hl,h=>⟨h 0 x y rfl rfl,mK (by simpa using hl) fun i a b e1 e2=>h (i+1) a b (by simpa using e1) (by simpa using e2)⟩
 | [],_::_,hl,_=>by simp at hl
 |_::_,[],hl,_=>by simp at hl
end Sw
namespace L2
open PySem PySem.Spec PyProof.Rows XH Sw Hm
end L2
namespace Sw
open PySem L2 XH Hm
end Sw
namespace L2
open PySem PySem.Spec PyProof.Rows XH Sw Hm
theorem lI {xs:List V} {c:Nat}:dQ xs (some (c:Int)) none=xs.drop c:=by
 by_cases h:c<=xs.length
 ·exact ve h
 ·rw[List.drop_eq_nil_of_le (by lia)]
  apply List.eq_nil_of_length_eq_zero;unfold dQ;rw[GA,G6];have:HT.du xs.length 0 (some (c:Int))=xs.length:=by
   show (if (c:Int)<0 then ((c:Int)+(xs.length:Int)).toNat else min (c:Int).toNat xs.length)=xs.length
   rw[if_neg (by lia)]
   lia
  rw[this]
  lia
end L2
namespace Sw
open PySem L2 XH Hm
end Sw
namespace L2
open PySem PySem.Spec PyProof.Rows XH Sw Hm
end L2
namespace Sw
open PySem L2 XH Hm
theorem cx {α:Type} {P:List α->Prop} (h:∀a,P [a]):∀us:List α,us.length=1->P us
 | [a],_=>h a
theorem eP {α:Type} {P:List α->Prop} (h:∀a b,P [a,b]):∀us:List α,us.length=2->P us
 | [a,b],_=>h a b
theorem cH {α:Type} {P:List α->Prop} (h:∀a b c,P [a,b,c]):∀us:List α,us.length=3->P us
 | [a,b,c],_=>h a b c
theorem zI {α:Type} {P:List α->Prop} (h:∀a b c d,P [a,b,c,d]):∀us:List α,us.length=4->P us
 | [a,b,c,d],_=>h a b c d
theorem zJ {α:Type} {P:List α->Prop} (h:∀a b c d e f,P [a,b,c,d,e,f]):∀us:List α,us.length=6->P us
 | [a,b,c,d,e,f],_=>h a b c d e f
abbrev FnAt (K:F0) (f:Addr) (n q:Str) (st:Stmt) (dV:Value):Prop:=∃(oc:Value) (od:J7) (kV dc pm:Value) (an:J7) (cd ct:Value) (sl:J3),K.lookup f=some ⟨oc,od,.func (Fn n q (cN st) (bZ st) (aq st) dV kV dc pm an cd ct),sl⟩/\G9 K cd q=true/\Fl K (.ref f)=true
abbrev bR (K:F0) (f:Addr) (x:Str) (st:Stmt) (dV:Value):Prop:=FD K mainGlobals x=some (some (.ref f))/\FnAt K f x x st dV
abbrev BX (K:F0) (c f:Addr) (m q:Str) (st:Stmt) (dV:Value):Prop:=FR K (.ref c) m=some (some (.ref f))/\FnAt K f m q st dV
abbrev zK (n q:Str) (st:Stmt) (dV:Value) (ps:J4):Prop:=∀(kV doc pm:Value) (an:J7) (cdv ct:Value) (us:J6),us.length=ps.length->bindArgs (Fn n q (cN st) (bZ st) (aq st) dV kV doc pm an cdv ct) ⟨us,[]⟩=pure (ps.zip us)
theorem dC {N P:J4} {sc:Scope} (h:N.Nodup/\(∀x∈P,sc.names.lookup x=some .local∨sc.names.lookup x=some .cell)/\∀y∈sc.names,y.2≠ .free) (h1:sc.kind= .function:=by rfl) (h2:sc.isCoroutine=false:=by rfl) (h3:sc.isGenerator=false:=by rfl) (h4:N.take P.length=P:=by rfl):aB N P sc:=⟨h1,h2,h3,h.1,h4,h.2.1,h.2.2⟩
section
variable {P:Program} {w:World} {K:F0} {mg:JZ} {base h:Heap} {CX:pL} {k:Nat} {f c:Addr} {x m q:Str} {st:Stmt} {ps:J4} {sp:Sp}
theorem FnAt.ex {n q:Str} {dV:Value} (a:FnAt K f n q st dV):∃fd,a6 K n q st dV f fd/\Fl K (.ref f)=true:=by
 obtain ⟨_,_,_,_,_,_,_,_,_,l,c,k⟩:=a;exact ⟨_,dU (st:=st) l c k,k⟩
structure Bx (P:Program) (w:World) (base:Heap):Prop
noncomputable def fe (_:Bx P w base) (X:K.In h) (G:h.Ns mainGlobals mg) (a:bR K f x st .none) (b:zK x x st .none ps) (ok:∀{fd:FuncData},a6 K x x st .none f fd->aY P w K mg base CX k f fd ps sp):Dx P w K mg base CX k x ps [] sp:=
 have e:=a.2.ex
 ⟨f,e.choose,ok e.choose_spec.1,FN X G a.1,e.choose_spec.2,e.choose_spec.1.binds0 b,[],e.choose_spec.1.binds0 b,.nil⟩
noncomputable def EZ (_:Bx P w base) (a:BX K c f m q st .none) (b:zK m q st .none ps) (ok:∀{fd:FuncData},a6 K m q st .none f fd->aY P w K mg base CX k f fd ps sp):wC P w K mg base CX k f ps [] sp:=
 have e:=a.2.ex
 ⟨e.choose,ok e.choose_spec.1,e.choose_spec.1.binds0 b,[],e.choose_spec.1.binds0 b,.nil⟩
end
end Sw
namespace L2
open PySem PySem.Spec PyProof.Rows XH
open Sw So
end L2
namespace Sw
open PySem L2 XH Hm
noncomputable def DI:HO->Bool
 | .lst _=>true
 | .tup _=>true
 |_=>false
abbrev RA (α:Type):=(Addr->Prop)->Hp->V->α->Prop
def An:Addr->Prop:=fun _=>True
class Mv {α:Type} (R:RA α):Prop where
 mv:∀{P P':Addr->Prop} {H H':Hp} {v:V} {x:α},(∀a o,P a->DI o=true->H a=some o->P' a/\H' a=some o)->R P H v x->R P' H' v x
theorem BY {α:Type} {R:RA α} [Mv R] {P:Addr->Prop} {H H':Hp} {v:V} {x:α} (h:R P H v x) (g:ax H H'):R P H' v x:=Mv.mv (fun a o p _ e=>⟨p,g a o e⟩) h
theorem DJ {α:Type} {R:RA α} [Mv R] {P P':Addr->Prop} {H:Hp} {v:V} {x:α} (h:R P H v x) (g:∀a,P a->P' a):R P' H v x:=Mv.mv (fun a o p _ e=>⟨g a p,e⟩) h
theorem EB {α:Type} {R:RA α} [Mv R] {P:Addr->Prop} {H:Hp} {v:V} {x:α} {l:Addr} (h:R P H v x) (n:¬P l) (o:HO):R P (aL H l o) v x:=Mv.mv (fun a u p _ e=>⟨p,by
  have:a≠l:=fun z=>n (by rw[<-z];exact p)
  rw[ar this];exact e⟩) h
def A2 {α:Type} (R:V->α->Prop) (vs:List V) (xs:List α):Prop:=vs.length=xs.length/\∀(i:Nat) (v:V) (x:α),vs[i]?=some v->xs[i]?=some x->R v x
theorem A2.imp {α:Type} {R S:V->α->Prop} {vs:List V} {xs:List α} (h:A2 R vs xs) (f:∀v x,R v x->S v x):A2 S vs xs:=⟨h.1,fun i v x e1 e2=>f v x (h.2 i v x e1 e2)⟩
theorem A2.get {α:Type} {R:V->α->Prop} {vs:List V} {xs:List α} (h:A2 R vs xs) {i:Nat} {x:α} (e:xs[i]?=some x):∃v,vs[i]?=some v/\R v x:=by
 have il:i<vs.length:=by rw[h.1];exact (FL.mp e).1
 exact ⟨_,F6 il,h.2 i _ x (F6 il) e⟩
theorem A2.at_ {α:Type} {R:V->α->Prop} {vs:List V} {xs:List α} (h:A2 R vs xs) {i:Nat} {v:V} (e:vs[i]?=some v):∃x,xs[i]?=some x/\R v x:=by
 have il:i<xs.length:=by rw[<-h.1];exact (FL.mp e).1
 exact ⟨_,F6 il,h.2 i v _ e (F6 il)⟩
theorem A2.nil {α:Type} {R:V->α->Prop}:A2 R [] ([]:List α):=⟨rfl,fun i a x e=>by simp at e⟩
theorem A2.append {α:Type} {R:V->α->Prop} {as bs:List V} {xs ys:List α} (h:A2 R as xs) (k:A2 R bs ys):A2 R (as++bs) (xs++ys):=by
 refine ⟨by simp[h.1,k.1],fun i a x e1 e2=>?_⟩
 by_cases c:i<as.length
 ·rw[Fx c] at e1;rw[Fx (by rw[<-h.1];exact c)] at e2
  exact h.2 i a x e1 e2
 ·rw[Fu (by lia)] at e1
  rw[Fu (by rw[<-h.1];lia),<-h.1] at e2
  exact k.2 _ a x e1 e2
theorem A2.one {α:Type} {R:V->α->Prop} {v:V} {x:α} (h:R v x):A2 R [v] [x]:=⟨rfl,fun i a y e1 e2=>by
 cases i with
 |zero=>simp at e1 e2;subst e1 e2;exact h
 |succ n=>simp at e1⟩
theorem A2.snoc {α:Type} {R:V->α->Prop} {vs:List V} {xs:List α} (h:A2 R vs xs) {v:V} {x:α} (r:R v x):A2 R (vs++ [v]) (xs++ [x]):=h.append (.one r)
def pq {α:Type} (R:RA α) (P:Addr->Prop) (H:Hp) (l:Addr) (xs:List α):Prop:=∃vs,H l=some (.lst vs)/\A2 (R P H) vs xs
def qa {α:Type} (f:α->List V):RA α:=fun P H v x=>∃t,v= .ref t/\P t/\H t=some (.tup (f x))
instance {α:Type} {f:α->List V}:Mv (qa f) where
 mv:=fun {P P' H H' v x} g h=>by
  obtain ⟨t,rfl,p,e⟩:=h;obtain ⟨p',e'⟩:=g t _ p rfl e;exact ⟨t,rfl,p',e'⟩
def vn {α:Type} (f:α->V):RA α:=fun _ _ v x=>v=f x
instance {α:Type} {f:α->V}:Mv (vn f) where
 mv:=fun _ h=>h
theorem A2.val {α:Type} {f:α->V} {P:Addr->Prop} {H:Hp} {vs:List V} {xs:List α} (h:A2 (vn f P H) vs xs):vs=xs.map f:=by
 apply List.ext_getElem (by rw[F7];exact h.1)
 intro i h1 h2;rw[List.getElem_map];exact h.2 i _ _ (F6 h1) (F6 (by rw[F7] at h2;exact h2))
theorem pq.same {α:Type} {R:RA α} [Mv R] {P:Addr->Prop} {H H':Hp} {l:Addr} {xs:List α} (h:pq R P H l xs) (g:ax H H'):pq R P H' l xs:=let ⟨vs,e,r⟩:=h;⟨vs,g _ _ e,r.imp fun _ _ q=>BY q g⟩
end Sw
namespace L2
open PySem PySem.Spec PyProof.Rows XH Sw Hm
theorem vo {J:It} {β:Type} {n:Nat} {js:List Nat} {te:TE} {σ:L2.St} {H1:Hp} {Q:VK} (R:RA β) [Mv R] (Z:Addr->Prop) (f:Nat->β) (hz:n<=sizeLine) (hZ:∀a,Z a->H1 a≠none)
  (hgo:∀i H2,ax H1 H2->i<n->J.go i H2) (hst:∀H2,ax H1 H2->J.stop n H2)
  (step:∀i,i<n->∀H2 x H3,ax H1 H2->J.yld i H2 x H3->H3=H2/\∀Q':VK,(∀y H5,ax H2 H5->R (fun a=>H2 a=none∨Z a) H5 y (f i)->Q' y H5)->te (some x::a7 js σ) H2 Q')
  (fin:∀p H',H1 p=none->ax H1 H'->pq R (fun a=>a≠p/\(H1 a=none∨Z a)) H' p ((FI n).map f)->Q (.ref p) H'):lA js te σ Q J H1:=by
 intro p hp;refine ⟨fun i m ys H2=>i<=n/\m=n-i/\ax H1 H2/\H2 p=some (.lst ys)/\A2 (R (fun a=>a≠p/\(H1 a=none∨Z a)) H2) ys ((FI i).map f),⟨n,G7 _,rfl,Sw.ah hp _,ac,A2.nil⟩,?_⟩
 rintro i m ys H2 ⟨hi,rfl,g,e,r⟩;refine ⟨e,?_⟩
 by_cases hin:i<n
 ·refine .inr ⟨hgo i H2 g hin,?_,fun x H3 hy=>?_⟩
  ·have:=r.1;rw[F7,GL] at this
   lia
  obtain ⟨rfl,h2⟩:=step i hin H2 x H3 g hy;refine h2 _ fun y H5 g5 ry=>⟨g5 _ _ e,n-(i+1),by lia,hin,rfl,Sw.ja (g.trans g5) hp _,ac,?_⟩
  rw[GZ,FF];have np:¬(p≠p/\(H1 p=none∨Z p)):=fun z=>z.1 rfl
  refine ((r.imp fun v b q=>BY q g5).snoc (DJ ry fun a ha=>?_)).imp fun v b q=>EB q np _
  rcases ha with h|h
  ·exact ⟨(fun z=>by rw[z,e] at h;cases h),.inl (g.free h)⟩
  ·exact ⟨fun z=>hZ a h (z▸hp),.inr h⟩
 ·have e2:i=n:=by lia
  subst e2;exact .inl ⟨hst H2 g,fin p H2 hp g ⟨ys,e,r⟩⟩
section
variable {K:F0} {β:Type} {a:Addr} {xs:List V} {n:Nat} {js:List Nat} {tc:TT} {te:TE} {σ:L2.St} {H1:Hp} {Q:VK}
theorem fB (R:RA β) [Mv R] (Z:Addr->Prop) (f:Nat->β) (hS:aI K H1 a xs) (hz:xs.length<=sizeLine) (hZ:∀a,Z a->H1 a≠none)
  (s2:∀i x,xs[i]?=some x->∀H2,ax H1 H2->∀Q':VK,(∀y H5,ax H2 H5->R (fun a=>H2 a=none∨Z a) H5 y (f i)->Q' y H5)->te (some x::a7 js σ) H2 Q')
  (fin:∀p H',H1 p=none->ax H1 H'->pq R (fun a=>a≠p/\(H1 a=none∨Z a)) H' p ((FI xs.length).map f)->Q (.ref p) H'):lA js te σ Q (Bk K a) H1:=by
 refine vo R Z f hz hZ (fun i H2 g hi=>⟨xs,xs[i],g.seq hS,F6 hi⟩) (fun H2 g=>⟨xs,g.seq hS,F5 _⟩) (fun i hi H2 x H3 g hy=>?_) fin
 obtain ⟨rfl,hx⟩:=hy;exact ⟨rfl,s2 i x (hx xs (g.seq hS)) _ g⟩
theorem vp {hd:J8} (R:RA β) [Mv R] (Z:Addr->Prop) (f:Nat->β) (hok:i8 hd H1) (hz:n<=sizeLine) (hZ:∀a,Z a->H1 a≠none)
  (s2:∀i:Nat,i<n->∀H2,ax H1 H2->∀Q':VK,(∀y H5,ax H2 H5->R (fun a=>H2 a=none∨Z a) H5 y (f i)->Q' y H5)->te (some (.int (0+(i:Int)))::a7 js σ) H2 Q')
  (fin:∀p H',H1 p=none->ax H1 H'->pq R (fun a=>a≠p/\(H1 a=none∨Z a)) H' p ((FI n).map f)->Q (.ref p) H'):lA js te σ Q (uO hd 0 n) H1:=by
 refine vo R Z f hz hZ (fun i H2 g hi=>hi) (fun H2 g=>⟨F5 n,uR hok g⟩) (fun i hi H2 x H3 g hy=>?_) fin
 obtain ⟨rfl,rfl⟩:=hy;exact ⟨rfl,s2 i hi _ g⟩
end
end L2
namespace Sw
open PySem L2 XH Hm
def vq (xs:List V):Prop:=∀x∈xs,DC x
theorem n8 {K:F0} {H:Hp} {xs:List V} (h:vq xs):kL (zG K H 0) xs xs:=mK rfl fun i x y h1 h2=>by
 rw[h1] at h2;cases h2;exact ⟨rfl,h x (FB h1)⟩
open PySem.NumText
noncomputable def zL:Str:= "abcdefghijklmnopqrstuvwxyz"
def Nm (z:Str):Prop:=1<=(sL z).length/\(sL z).length<=12/\∀c∈sL z,97<=c/\c<=122
theorem rD (c:Nat):(!(Builtin.Str.occurrences zL (bE [c]) 0 zL.length 1).isEmpty)=decide (97<=c/\c<=122):=by
 rw[jd];have e:sL zL=(FI 26).map (97+ ·):=by decide
 rw[e];apply decide_eq_decide.mpr;constructor
 ·intro h;obtain ⟨i,hi,rfl⟩:=FE.mp h;have:=G0.mp hi
  lia
 ·intro h;exact FE.mpr ⟨c-97,G0.mpr (by lia),by lia⟩
def n9 (K:F0):Sp:=fun vs H Q _=>∃x:V,vs= [x]/\((∃z:Str,x= .str z/\z.length<=1000000/\(Nm z->Q (.bl true) H)/\(¬Nm z->Q (.bl false) H))∨∃ty,iw K H x ty/\F3 K ty (.type "str")=some false/\Q (.bl false) H)
end Sw
namespace L2
open PySem PySem.Spec PyProof.Rows XH Sw
end L2
namespace Sw
open PySem L2 XH Hm
theorem vv {α:Type} (xs:List α) (d:α):(FI xs.length).map (fun i=>xs.getD i d)=xs:=by
 apply List.ext_getElem
 ·rw[F7,GL]
 ·intro i h1 h2;rw[List.getElem_map,List.getElem_range,BW (F6 h2)]
open PyProof.Rows So
structure yF (fs:List (Str×V)) (nm l m u s:V):Prop where
 name:fs.lookup ("name" :Str)=some nm
 least:fs.lookup ("least" :Str)=some l
 most:fs.lookup ("most" :Str)=some m
 uses:fs.lookup ("uses" :Str)=some u
 second:fs.lookup ("second" :Str)=some s
 word:fs.lookup ("word" :Str)=none
 span:fs.lookup ("span" :Str)=none
 grown:fs.lookup ("grown" :Str)=none
 way:fs.lookup ("grown_way" :Str)=none
 rounds:fs.lookup ("rounds" :Str)=none
theorem kg {nm l m u s:V}:yF (hW nm l m u s) nm l m u s:=by
 constructor
 all_goals
  first
   |exact vm (by decide+kernel)
   |(unfold hW;simp only[a9];(repeat rw[if_neg (by decide+kernel)]);simp)
theorem vw {nm l m u s f:V}:yF (warmF nm l m u s f) nm l m u s:=by
 have h:=kg (nm:=nm) (l:=l) (m:=m) (u:=u) (s:=s);have k:∀{g:Str},g≠ "fill" ->(warmF nm l m u s f).lookup g=(hW nm l m u s).lookup g:=fun {g} hg=>by
  unfold warmF;rw[a9,if_neg hg]
 exact ⟨(k (by decide+kernel)).trans h.name,(k (by decide+kernel)).trans h.least,(k (by decide+kernel)).trans h.most,(k (by decide+kernel)).trans h.uses,(k (by decide+kernel)).trans h.second,(k (by decide+kernel)).trans h.word,(k (by decide+kernel)).trans h.span,(k (by decide+kernel)).trans h.grown,(k (by decide+kernel)).trans h.way,(k (by decide+kernel)).trans h.rounds⟩
abbrev BZ:=Option (Int×Int×J5)
def yG (H:Hp) (s:V):BZ->Prop
 |none=>s= .non
 |some (x,y,vs)=>∃t l2,s= .ref t/\H t=some (.tup [.int x,.int y,.ref l2])/\H l2=some (.lst (vs.map V.ref))
def vx (H0 H:Hp) (s:V):BZ->Prop
 |none=>s= .non
 |some (x,y,vs)=>∃t l2,s= .ref t/\H t=some (.tup [.int x,.int y,.ref l2])/\H l2=some (.lst (vs.map V.ref))/\H0 t=none/\H0 l2=none
def yH (H:Hp) (u:V) (us:J5):Prop:=(u= .non/\us= [])∨∃l,u= .ref l/\H l=some (.lst (us.map V.ref))
def jL (K:F0):Sp:=fun vs H Q _=>∃(a C dx:Addr) (nm:Str) (l m:Int) (uv sv:V) (us:J5) (c:BZ),vs= [.ref a,.str nm,.int l,.int m,uv,sv]/\H a=some (.ins C dx [])/\kf K C/\yH H uv us/\yG H sv c/\
 ∀(u:Addr) (s:V) (H':Hp),Kept H H' a->u≠a->H u=none->H' u=some (.lst (us.map V.ref))->vx H H' s c->H' a=some (.ins C dx (hW (.str nm) (.int l) (.int m) (.ref u) s))->Q .non H'
def mL (K:F0):Sp:=fun vs H Q _=>∃(a C dx:Addr) (nm:Str) (l m:Int) (fl uv sv:V) (us:J5) (c:BZ),vs= [.ref a,.str nm,.int l,.int m,fl,uv,sv]/\H a=some (.ins C dx [])/\kf K C/\aD K C "fill" /\yH H uv us/\yG H sv c/\
 ∀(u:Addr) (s:V) (H':Hp),Kept H H' a->u≠a->H u=none->H' u=some (.lst (us.map V.ref))->vx H H' s c->H' a=some (.ins C dx (warmF (.str nm) (.int l) (.int m) (.ref u) s fl))->Q .non H'
theorem vx.self {H0 H:Hp} {a C dx:Addr} {fs:List (Str×V)} {o:HO} {s:V} (ea:H a=some (.ins C dx fs)):∀{c:BZ},vx H0 H s c->vx H0 (aL H a o) s c
 |none,h=>h
 |some (_,_,_),⟨t,l2,h1,h2,h3,h4,h5⟩=>⟨t,l2,h1,by rw[ar (fun z=>by rw[z,ea] at h2;cases h2)];exact h2,by rw[ar (fun z=>by rw[z,ea] at h3;cases h3)];exact h3,h4,h5⟩
end Sw
namespace L2
open PySem PySem.Spec PyProof.Rows XH Sw
end L2
namespace Sw
open PySem L2 XH PyProof.Rows
structure wD (K:F0) (C:Addr):Prop where
 ha:FR K (.ref C) "__class__" =some (some (.builtin "object.__class__"))
 hn:PySem.W.specialIn K (.builtin "object.__class__") "__get__" =some (some (.builtin "getset_descriptor.__get__"))
 htk:PySem.W.takesIn K (.builtin "object.__class__")=some true
 hm:PySem.W.mroIn K C (.type "object")=some true
theorem iM {H:Hp} {x dx C:Addr} (nx:H x=none) (nd:H dx=none):ax H (aL (aL H dx (.own x)) x (.ins C dx [])):=fun b o h=>by
 rw[ar (aM h nx),ar (aM h nd)];exact h
theorem vy {α:Type} {n:Nat} {g:Nat->α} (h:∀i j,i<n->j<n->g i=g j->i=j):((FI n).map g).Nodup:=by
 refine List.pairwise_map.mpr (List.Pairwise.imp_of_mem (fun {a b} ha hb hne e=>hne ?_) List.nodup_range)
 exact h a b (G0.mp ha) (G0.mp hb) e
noncomputable def qc:Str:= "abcdefghijklmnopqrstuvwxyz"
theorem zM:∀i:Nat,i<26->qc.cps.toList[i]?=some (97+i):=by decide
theorem rE {v:Int} (h0:0<=v) (h:v<26):kH qc.cps.toList v=some (97+v.toNat):=by
 have:=zM v.toNat (by lia)
 have e:v=((v.toNat:Nat):Int):=by lia
 rw[e];exact aG this
theorem f8 {ys:List V} {n:Nat} {g:Nat->Str} (hl:ys.length=n) (h:∀(i:Nat) (y:V),ys[i]?=some y->y= .str (g i)):ys=((FI n).map g).map V.str:=by
 apply List.ext_getElem?;intro i;cases e:ys[i]? with
 |none=>
  have:=List.getElem?_eq_none_iff.mp e;rw[List.getElem?_eq_none (by simp;lia)]
 |some y=>
  have il:=(FL.mp e).1;rw[h i y e,FG,FG,List.getElem?_range (by lia)]
  rfl
end Sw
namespace L2
open PySem PySem.Spec PyProof.Rows XH Sw
theorem mM {X:Cx} {e:Expr} {ta:TE} {f:Str} {pos:Pos} {K:F0} (hK:X.K=K) (he:PE X e ta) (hb:attributeBase e f X.env (eval e X.env)=eval e X.env):PE X (.Attribute e f pos) (Bt K ta f):=by
 subst hK;exact bI he hb
end L2
namespace Sw
open PySem L2 XH PyProof.Rows
def Lt (z:Str):Prop:=∀c∈sL z,97<=c/\c<=122
theorem Lt.app {x y:Str} (h:Lt x) (k:Lt y):Lt (x++y):=fun c hc=>by
 rw[a8] at hc;rcases FM.mp hc with q|q
 ·exact h c q
 ·exact k c q
theorem Lt.cut {x:Str} (h:Lt x) (lo hi:Option Int):Lt (iF x lo hi):=fun c hc=>by
 have hc':c∈((sL x).drop (HT.du x.length 0 lo)).take (HT.du x.length x.length hi-HT.du x.length 0 lo):=by simpa [sL,iF] using hc
 exact h c (List.mem_of_mem_drop (List.mem_of_mem_take hc'))
theorem Lt.nil:Lt "" :=fun c hc=>by
 have:c∈([]:List Nat):=hc;simp at this
theorem Lt.one {c:Nat} (h:97<=c/\c<=122):Lt ⟨#[c]⟩:=fun d hd=>by
 have:d∈ [c]:=hd;rw[FA.mp this];exact h
theorem rF {x:Str} {i:Int} (h:0<=i):(iF x none (some i)).length=min i.toNat x.length:=by
 have e1:HT.du x.length 0 none=0:=rfl;have e2:HT.du x.length x.length (some i)=min i.toNat x.length:=by
  unfold HT.du;simp;omega
 show ((x.cps.toList.drop _).take _).toArray.size=_;rw[e1,e2,FX,GA,G6];have:x.cps.toList.length=x.length:=by simp[Str.length]
 lia
theorem Lt.nm {z:Str} (h:Lt z) (h1:1<=z.length) (h2:z.length<=12):Nm z:=⟨by rw[cr];exact h1,by rw[cr];exact h2,h⟩
end Sw
namespace L2
open PySem PySem.Spec PyProof.Rows XH Sw
end L2
namespace Sw
open PySem L2 XH Hm PySem.NumText
end Sw
namespace L2
open PySem PySem.Spec PyProof.Rows XH Sw
end L2
namespace Sw
open PySem L2 XH Hm
end Sw
namespace L2
open PySem PySem.Spec PyProof.Rows XH Sw Hm
end L2
namespace Sw
open PySem L2 XH Hm
end Sw
namespace L2
open PySem PySem.Spec PyProof.Rows XH Sw
end L2
namespace Sw
open PySem L2 XH Hm
open PySem.NumText
theorem Lt.join:∀{ws:J4},(∀w∈ws,Lt w)->Lt (Str.join Str.empty ws)
 | [],_=>Lt.nil
 | [x],h=>h x (by simp)
 |x::y::r,h=>by
  have ih:=Lt.join (ws:=y::r) fun w hw=>h w (F8 _ hw)
  show Lt (x++Str.empty++Str.join Str.empty (y::r));exact ((h x (by simp)).app Lt.nil).app ih
theorem Lt.tjoin {ws:J4} (h:∀w∈ws,Lt w):Lt (Txt.join "" ws):=by
 have:Txt.join "" ws=Str.join Str.empty ws:=StrLaws.glued_eq_join _ ws;rw[this];exact Lt.join h
end Sw
namespace L2
open PySem
end L2
namespace Sw
open PySem L2 XH Hm PySem.NumText
end Sw
namespace L2
open PySem
end L2
namespace Sw
open PySem L2 XH Hm PySem.NumText
end Sw
namespace L2
open PySem
end L2
namespace Sw
open PySem L2 XH Hm PySem.NumText
end Sw
namespace L2
open PySem PySem.Spec PyProof.Rows XH
end L2
namespace Sw
open PySem L2 XH Hm PySem.NumText
end Sw
namespace L2
open PySem PySem.Spec PyProof.Rows XH Sw Hm
end L2
namespace Sw
open PySem L2 XH Hm PySem.NumText
end Sw
namespace L2
open PySem PySem.Spec PyProof.Rows XH Sw Hm
end L2
namespace Sw
open PySem L2 XH Hm PySem.NumText
end Sw
namespace L2
open PySem PySem.Spec PyProof.Rows XH Sw Hm
end L2
namespace Sw
open PySem L2 XH Hm PySem.NumText
end Sw
namespace L2
open PySem PySem.Spec PyProof.Rows XH Sw
noncomputable def mO:Value->Bool
 | .none=>true
 |_=>false
theorem tu {a b:Str} {p q:Prop} (h1:a=b->p) (h2:a≠b->q):if decide (V.str a=V.str b)=true then p else q:=by
 by_cases e:a=b
 ·subst e;rw[if_pos (by simp)];exact h1 rfl
 ·rw[if_neg (by simp[e])];exact h2 e
end L2
namespace Sw
open PySem L2 XH Hm PySem.NumText
noncomputable def aA (n:Nat):Str:=bE (dg n)
noncomputable def vN (n:Nat):V:= .int (n:Int)
noncomputable def cv:Str:=bE [32]
noncomputable def fC:Str:=bE [10]
noncomputable def zN (l:List Nat):Bool:=decide (1<=l.length)&&decide (l.length<=30)&&(decide (l.head?≠some 48)||decide (l= [48]))&&l.all fun c=>decide (48<=c/\c<=57)
noncomputable def Ba (z:Str):Bool:=decide (1<=(sL z).length)&&decide ((sL z).length<=12)&&(sL z).all fun c=>decide (97<=c/\c<=122)
theorem iN (z:Str):Ba z=true↔Nm z:=by
 unfold Ba Nm;simp[and_assoc]
def oa (K:F0) (a:Addr) (xs:J4):Prop:=∃(o:Obj) (its:Array Value) (n:Nat),K.lookup a=some o/\o.cls= .type "tuple" /\o.data= .seq its n/\its.size<=sizeLine/\aV (xs.map V.str) its.toList
theorem oa.sq {K:F0} {a:Addr} {xs:J4} (h:oa K a xs) (H:Hp):cM K H a (xs.map V.str):= .inr (let ⟨o,its,m,h1,h2,h3,h4,h5⟩:=h;⟨o,its,m,h1,h2,h3,h4,h5,G1.mpr fun v hv=>(by obtain ⟨x,_,rfl⟩:=FE.mp hv;rfl)⟩)
theorem fh {n:Nat} (h:n<=999999999):(aA n).length<=9:=by
 have:=j9 (n:=n) (k:=8) (by lia)
 rw[<-cr,aA,aT];exact this
theorem zO {n:Nat} (h:n<=999999999):(n:Int).natAbs.log2<1920:=lg (GB h (by decide))
theorem iO {m:Nat}:∀{ws:J4},(∀w∈ws,w.length<=m)->(ws.map fun x=>x.length).sum<=m*ws.length
 | [],_=>F5 _
 |w::ws,h=>by
  have h1:=h w FW;have h2:=iO (ws:=ws) fun x hx=>h x (F8 _ hx)
  rw[FZ,List.sum_cons,FS,Nat.mul_add]
  lia
theorem map_getD {α β:Type} (f:α->β) (xs:List α) (d:α):(FI xs.length).map (fun i=>f (xs.getD i d))=xs.map f:=by
 conv=>rhs;rw[<-vv xs d,Fe]
 rfl
def DK (ws:J4):Prop:=ws.length<=100000/\∀w∈ws,w.length<=10000
theorem kh (l:List Nat):zN l=true↔xr l:=by
 unfold zN xr AllDigits;simp[and_assoc]
theorem xz {z:Str} {c:Nat} (h:z.length<=10000):DK (Txt.split z (bE [c])):=by
 have j:=congrArg Str.length (StrLaws.join_split z (bE [c]));rw[<-StrLaws.glued_eq_join,PySem.size_glued,cG] at j;have one:∀{ws:J4} {w:Str},w∈ws->w.length<=(ws.map fun x=>x.length).sum:=fun {ws w} hw=>by
  induction ws with
  |nil=>cases hw
  |cons x ws ih=>
   rw[FZ,List.sum_cons];rcases F4.mp hw with rfl|hw
   ·lia
   ·have:=ih hw;lia
 refine ⟨?_,fun w hw=>?_⟩
 ·simp at j
  lia
 ·have:=one hw
  lia
abbrev bU:=Str×Nat×Nat
abbrev dM:=Nat×Nat
structure SV where
 w:Str
 n:Str
 lo:Nat
 hi:Nat
 fill:Option dM
 uses:List bU
 sec:Option (Nat×Nat×List bU)
abbrev xA:=Str×Nat×Nat×Nat
structure Md where
 takes:List (Str×dM)
 steps:List SV
 links:List xA
noncomputable def nA (a:dM):Str:=bE (dv a.1 a.2)
noncomputable def vz:Option dM->J4
 |none=> []
 |some a=> [nA a]
noncomputable def vA (w n:Str) (u:bU):J4:= [w,n,u.1,aA u.2.1,aA u.2.2]
noncomputable def vB (n:Str) (lo hi:Nat):J4:= ["or",n,aA lo,aA hi]
noncomputable def f9 (w a b:Str) (t:Nat):J4:= [w,a,b]++if w= "within" then [aA t] else []
noncomputable def jB (ws:J4):Str:=Txt.join cv ws
noncomputable def kM (ss:List SV) (i:Nat):Str:=(ss.map fun s=>s.n).getD i ""
noncomputable def aZ (n:Str) (p:Nat):Str:=jB ["dish",n,aA p]
structure zP (a:dM):Prop where
 pos:0<a.1
 rd:Reads (dv a.1 a.2) a.1 a.2
 bp:a.1<10^40
 bq:a.2<10000
 len:(dv a.1 a.2).length<=40
def B0 (lo hi:Nat):Prop:=1<=lo/\lo<=hi/\hi<=100000
def DL (w:Str):Prop:=w= "cut" ∨w= "rest" ∨w= "warm"
def EC (w:Str):Prop:=w= "after" ∨w= "within" ∨w= "apart"
def B1 (w:Str):Option dM->Prop
 |none=>w≠ "warm"
 |some a=>w= "warm" /\zP a
inductive pw where
 |twice
 |nostep
 |full
inductive Rr where
 |take (g:Str) (a:dM)
 |step (w n:Str) (lo hi:Nat) (f:Option dM)
 |sec (n:Str) (lo hi:Nat)
 |use (o:Bool) (n:Str) (u:bU)
 |link (w a b:Str) (t:Nat)
noncomputable def jz:Rr->J4
 | .take g a=> ["take",g,nA a]
 | .step w n lo hi f=> [w,n,aA lo,aA hi]++vz f
 | .sec n lo hi=>vB n lo hi
 | .use o n u=>vA (if o=true then "orwith" else "with") n u
 | .link w a b t=>f9 w a b t
noncomputable def bD (r:Rr):Str:=jB (jz r)
def eD:Rr->Prop
 | .take g a=>Nm g/\zP a
 | .step w n lo hi f=>DL w/\Nm n/\B0 lo hi/\B1 w f
 | .sec n lo hi=>Nm n/\B0 lo hi
 | .use _ n u=>Nm n/\Nm u.1/\1<=u.2.1/\u.2.1<=8/\u.2.2<=1000
 | .link w a b t=>EC w/\Nm a/\Nm b/\a≠b/\t<=100000/\(w≠ "within" ->t=0)
noncomputable def place (M:Md) (n:Str):Option Nat:=M.steps.findIdx? fun s=>decide (s.n=n)
noncomputable def cJ (M:Md) (n:Str) (f:SV->Except pw SV):Except pw Md:=match place M n with
 |none=> .error .nostep
 |some i=>match M.steps[i]? with
  |none=> .error .nostep
  |some s=>match f s with
   | .error e=> .error e
   | .ok s'=> .ok {M with steps:=M.steps.set i s'}
noncomputable def je (us:List bU) (u:bU):Except pw (List bU):=if u.1∈us.map (fun x=>x.1) then .error .twice else if us.length=12 then .error .full else .ok (us++ [u])
noncomputable def bF (M:Md):Rr->Except pw Md
 | .take g a=>if g∈M.takes.map (fun x=>x.1) then .error .twice else if M.takes.length=12 then .error .full else .ok {M with takes:=M.takes++ [(g,a)]}
 | .step w n lo hi f=>if n∈M.steps.map (fun s=>s.n) then .error .twice else if M.steps.length=12 then .error .full else .ok {M with steps:=M.steps++ [⟨w,n,lo,hi,f,[],none⟩]}
 | .sec n lo hi=>cJ M n fun s=>match s.sec with
  |some _=> .error .twice
  |none=> .ok {s with sec:=some (lo,hi,[])}
 | .use false n u=>cJ M n fun s=>match je s.uses u with
  | .error e=> .error e
  | .ok us=> .ok {s with uses:=us}
 | .use true n u=>cJ M n fun s=>match s.sec with
  |none=> .error .nostep
  |some (lo,hi,us)=>match je us u with
   | .error e=> .error e
   | .ok us=> .ok {s with sec:=some (lo,hi,us)}
 | .link w a b t=>match place M a with
  |none=> .error .nostep
  |some i=>match place M b with
   |none=> .error .nostep
   |some j=>if M.links.length=24 then .error .full else .ok {M with links:=M.links++ [(w,i,j,t)]}
theorem cy {α:Type} {xs:List α} {i:Nat} {x:α} (h:xs[i]?=some x):i<xs.length:=(FL.mp h).1
variable {zs:J4} {room:Nat} {M:Md}
theorem xB {α:Type} {xs:List α} {y x:α} {i:Nat} (h:(xs++ [y])[i]?=some x):xs[i]?=some x∨(i=xs.length/\x=y):=by
 by_cases c:i<xs.length
 ·rw[Fx c] at h;exact .inl h
 ·have:=cy h;simp at this;have e:i=xs.length:=by lia
  subst e;simp at h;exact .inr ⟨rfl,h.symm⟩
theorem aF (a b:Str) (r:J4):jB (a::b::r)=a++cv++jB (b::r):=by
 show Builtin.Str.glued cv (a::b::r)=a++cv++Builtin.Str.glued cv (b::r);rw[StrLaws.glued_eq_join,StrLaws.glued_eq_join]
 rfl
theorem aW (a b c:Str):a++b++c=a++(b++c):=cP (by rw[a8,a8,a8,a8,GE])
theorem kN (a:Str):jB [a]=a:=rfl
theorem qf (ws:J4) {m:Nat} (h:∀w∈ws,w.length<=m):(jB ws).length<=(m+1)*ws.length:=by
 have:=iO h;unfold jB;rw[iK,show cv.length=1 from rfl,Nat.add_mul]
 lia
theorem xC {a:dM} (h:zP a):(nA a).length<=40:=by unfold nA;rw[cG];exact h.len
theorem Nm.len {z:Str} (h:Nm z):z.length<=12:=by have:=h.2.1;rwa [cr] at this
noncomputable def B2 (u:bU):List V:= [.str u.1,vN u.2.1,vN u.2.2]
noncomputable def yI (a:dM):List V:= [vN a.1,vN a.2]
noncomputable def DM (k:xA):List V:= [.str k.1,vN k.2.1,vN k.2.2.1,vN k.2.2.2]
def lJ:RA (Str×dM):=fun P H v x=>∃t b,v= .ref t/\P t/\P b/\H t=some (.tup [.str x.1,.ref b])/\H b=some (.tup (yI x.2))
instance:Mv lJ where
 mv:=fun {P P' H H' v x} g h=>by
  obtain ⟨t,b,rfl,pt,pb,e1,e2⟩:=h;exact ⟨t,b,rfl,(g t _ pt rfl e1).1,(g b _ pb rfl e2).1,(g t _ pt rfl e1).2,(g b _ pb rfl e2).2⟩
abbrev Uz (H:Hp) (u:Addr) (us:List bU):Prop:=pq (qa B2) An H u us
def Kp (F:J5) (H H':Hp):Prop:=∀b o,H b=some o->b∉F->H' b=some o
theorem Kp.put {F:J5} {H H1:Hp} {x:Addr} (h:Kp F H H1) (hx:x∈F) (o:HO):Kp F H (aL H1 x o):=fun b u e n=>by
 have nb:b≠x:=fun z=>n (by rw[z];exact hx)
 rw[ar nb];exact h b u e n
theorem Kp.refl (F:J5) (H:Hp):Kp F H H:=fun _ _ e _=>e
theorem zQ {H H':Hp} (g:ax H H'):Kp [] H H':=fun b o e _=>g _ _ e
section
variable {G H H':Hp} {m lt ls lk:Addr} {ks:List Sk}
noncomputable def less (H:Hp) (F:J5):Hp:=fun a=>by classical exact if a∈F then none else H a
theorem tw (H:Hp) (F:J5):ax (less H F) H:=fun b o e=>by
 unfold less at e
 split at e
 ·cases e
 ·exact e
theorem rG {H:Hp} {F:J5} {a:Addr} (n:a∉F):less H F a=H a:=if_neg n
theorem km {x:Addr} (g:ax G H) (nx:G x=none) (o:HO):ax G (aL H x o):=fun b u e=>by rw[ar (aM e nx)];exact g _ _ e
end
end Sw
namespace L2
open PySem PySem.Spec PyProof.Rows XH Sw
end L2
namespace Sw
open PySem L2 XH Hm PySem.NumText
def DN (H:Hp) (v:V):Option (Nat×Nat×List bU)->Prop
 |none=>v= .non
 |some (lo,hi,us)=>∃t l,v= .ref t/\H t=some (.tup [vN lo,vN hi,.ref l])/\Uz H l us
def iP (H:Hp) (ff:List (Str×V)):Option dM->Prop
 |none=>True
 |some a=>∃t,ff.lookup ("fill" :Str)=some (.ref t)/\H t=some (.tup (yI a))
def ko (cC cR cW:Addr) (w:Str) (C:Addr):Prop:=(w= "cut" /\C=cC)∨(w= "rest" /\C=cR)∨(w= "warm" /\C=cW)
def ED (cC cR cW:Addr) (H:Hp) (x:Addr) (s:SV):Prop:=∃(C dx u:Addr) (sv:V) (ff:List (Str×V)),H x=some (.ins C dx ff)/\ko cC cR cW s.w C/\yF ff (.str s.n) (vN s.lo) (vN s.hi) (.ref u) sv/\iP H ff s.fill/\Uz H u s.uses/\DN H sv s.sec
theorem iP.same {H H':Hp} (g:ax H H') {ff:List (Str×V)}:∀{o:Option dM},iP H ff o->iP H' ff o
 |none,h=>h
 |some _,⟨t,e1,e2⟩=>⟨t,e1,g _ _ e2⟩
abbrev E1 (cC cR cW:Addr) (H:Hp) (v:V) (s:SV):Prop:=∃x,v= .ref x/\ED cC cR cW H x s
def E3 (cC cR cW:Addr) (H:Hp) (l:Addr) (ss:List SV):Prop:=∃vs,H l=some (.lst vs)/\A2 (E1 cC cR cW H) vs ss
structure yJ (cRec:Addr) (H:Hp) (r:Addr) (n:Str) (p:Nat) (lt ls lk:Addr):Prop where
 ex:∃dx,H r=some (.ins cRec dx (mJ (.str n) (vN p) (.ref lt) (.ref ls) (.ref lk)))
theorem yJ.same {cRec:Addr} {H H':Hp} {r:Addr} {n:Str} {p:Nat} {lt ls lk:Addr} (h:yJ cRec H r n p lt ls lk) (g:ax H H'):yJ cRec H' r n p lt ls lk:=by
 obtain ⟨dx,e⟩:=h.ex;exact ⟨dx,g _ _ e⟩
theorem cK {nm p t s l:V}:(mJ nm p t s l).lookup ("name" :Str)=some nm/\(mJ nm p t s l).lookup ("plates" :Str)=some p/\(mJ nm p t s l).lookup ("takes" :Str)=some t/\(mJ nm p t s l).lookup ("steps" :Str)=some s/\(mJ nm p t s l).lookup ("links" :Str)=some l:=by
 unfold mJ;refine ⟨?_,?_,?_,?_,?_⟩
 all_goals
  simp only[a9]
  (repeat rw[if_neg (by decide+kernel)])
  simp
structure DO (cC cR cW cRec:Addr) (H:Hp) (r:Addr) (n:Str) (p:Nat) (M:Md):Prop where
 ex:∃lt ls lk,yJ cRec H r n p lt ls lk/\pq lJ An H lt M.takes/\E3 cC cR cW H ls M.steps/\pq (qa DM) An H lk M.links
inductive Th where
 |t (z:Str)
 |n (k:Nat)
noncomputable def EE:Th->V
 | .t z=> .str z
 | .n k=>vN k
def vC (K:F0):Sp:=fun vs H Q _=>∃(a C dx lt ls lk:Addr) (nm p:V) (xt xs xk:List V),vs= [.ref a,nm,p,.ref lt,.ref ls,.ref lk]/\H a=some (.ins C dx [])/\DH K C/\H lt=some (.lst xt)/\H ls=some (.lst xs)/\H lk=some (.lst xk)/\
 ∀(t s u:Addr) (H':Hp),t≠a->s≠a->u≠a->H t=none->H s=none->H u=none-> [t,s,u].Nodup->Kept H H' a->H' t=some (.lst xt)->H' s=some (.lst xs)->H' u=some (.lst xk)->H' a=some (.ins C dx (mJ nm p (.ref t) (.ref s) (.ref u)))->Q .non H'
theorem xD {ws:J4} (h:∀w∈ws,w.length<=60) (k:ws.length<=6):(jB ws).length<=400:=by
 have:=qf ws h;have:(60+1)*ws.length<=61*6:=Nat.mul_le_mul_left 61 k
 lia
theorem tD {n:Str} {p:Nat} (h:Nm n) (hp:p<=1000):(aZ n p).length<=400:=by
 have h1:=h.len;have h2:=fh (n:=p) (by lia)
 have h4:(Str.ofString "dish").length=4:=by decide
 refine xD (fun z hz=>?_) (by show 3<=6;decide)
 simp only[F4,FC,or_false] at hz;rcases hz with rfl|rfl|rfl<;>lia
theorem lK {ss:List SV} {i:Nat} {s:SV} (h:ss[i]?=some s):kM ss i=s.n:=by
 unfold kM;rw[List.getD_eq_getElem?_getD,FG,h]
 rfl
theorem og {x:Str} {i j:Int} (h:0<=i) (k:0<=j):(iF x (some i) (some j)).length=min j.toNat x.length-min i.toNat x.length:=by
 have e1:HT.du x.length 0 (some i)=min i.toNat x.length:=by
  unfold HT.du;simp;omega
 have e2:HT.du x.length x.length (some j)=min j.toNat x.length:=by
  unfold HT.du;simp;omega
 show ((x.cps.toList.drop _).take _).toArray.size=_;rw[e1,e2,FX,GA,G6];have:x.cps.toList.length=x.length:=by simp[Str.length]
 lia
theorem lL:∀{ys:List V},(∀y∈ys,∃z:Str,y= .str z/\z.length=1/\Lt z)->∃ws:J4,ys=ws.map V.str/\(ws.map (fun x=>x.length)).sum=ws.length/\∀w∈ws,Lt w
 | [],_=>⟨[],rfl,rfl,fun w hw=>nomatch hw⟩
 |y::ys,h=>by
  obtain ⟨z,rfl,hz,lz⟩:=h y (by simp)
  obtain ⟨ws,rfl,hw,lw⟩:=lL (ys:=ys) fun y hy=>h y (F8 _ hy)
  refine ⟨z::ws,rfl,?_,fun w hw'=>?_⟩
  ·simp only[FZ,List.sum_cons,FS]
   lia
  ·rcases F4.mp hw' with rfl|hw'
   ·exact lz
   ·exact lw w hw'
theorem yK {a n:Int} (k:0<n):∃j:Nat,a.fmod n=(j:Int)/\(j:Int)<n:=by
 have h1:=FP a k;have h2:=Fo a k;exact ⟨(a.fmod n).toNat,by lia,by lia⟩
theorem B3 (n:Nat):Str.ofString (toString ((n:Nat):Int))=aA n:=jG n
theorem vD {w:Nat} (h:0<w) (l:w<10^30):zP (w,1)/\nA (w,1)=aA w:=by
 have dl:=j9 (n:=w) (k:=29) l;refine ⟨⟨h,(BV (GP l (by decide+kernel))).ok fun n hn=>?_,GP l (by decide+kernel),(by show 1<10000;decide),?_⟩,?_⟩
 ·rw[FA.mp hn];exact dl
 ·show (dv w 1).length<=40;rw[kc];lia
 ·show bE (dv w 1)=_;rw[kc];rfl
end Sw
namespace L2
open PySem PySem.Spec PyProof.Rows XH
end L2
namespace Sw
open PySem L2 XH Hm PySem.NumText
theorem DP:Str.ofString " " =cv:=by decide
theorem vE (n x:Str):Str.ofString "dish " ++n++Str.ofString " " ++x=jB ["dish",n,x]:=by
 rw[DP,show Str.ofString "dish " =Str.ofString "dish" ++cv from by decide,aF,aF,kN]
 simp only[aW]
theorem zR (a n:Nat):((a:Nat):Int).fmod (n:Int)=((a % n:Nat):Int):=(Int.ofNat_fmod a n).symm
theorem rH (a:Int) (b n:Nat) (h:a=(b:Int)):a.fmod (n:Int)=((b % n:Nat):Int):=by rw[h];exact zR b n
theorem b7 {zs:J4} {i:Nat} {z:Str} (h:zs[i]?=some z):kH (zs.map V.str) (i:Int)=some (.str z):=aG (by rw[FG,h];rfl)
end Sw
namespace L2
open PySem PySem.Spec PyProof.Rows XH Sw
def mP (K:F0) (a:Addr) (xs:List V):Prop:=∃(o:Obj) (its:Array Value) (n:Nat),K.lookup a=some o/\o.cls= .type "tuple" /\o.data= .seq its n/\its.size<=sizeLine/\aV xs its.toList
theorem mP.sq {K:F0} {a:Addr} {xs:List V} (h:mP K a xs) (H:Hp) (n:xs.all nR=true:=by first|rfl|decide):cM K H a xs:= .inr (let ⟨o,its,m,h1,h2,h3,h4,h5⟩:=h;⟨o,its,m,h1,h2,h3,h4,h5,n⟩)
inductive tE (w:World) (K:F0):List DictEntry->List (Str×List V)->Prop where
 |nil:tE w K [] []
 |cons {k:Str} {tk:Tok} {t:Addr} {xs:List V} {es:List DictEntry} {fs:List (Str×List V)}:mP K t xs->tE w K es fs->tE w K (⟨hashStr w k,.str k tk,.ref t⟩::es) ((k,xs)::fs)
def oh (w:World) (K:F0) (a:Addr) (fs:List (Str×List V)):Prop:=(a==sysModules)=false/\∃(o:Obj) (es:Array DictEntry) (ep:Nat),K.lookup a=some o/\o.ExactDict/\o.data= .dict es ep/\tE w K es.toList fs
section
variable {X:Cx} {pins:J1} {σ:St} {H:Hp} {s:Shared} {a:Addr}
theorem tE.pairs {P:Program} {w:World} {K:F0} {es:List DictEntry} {fs:List (Str×List V)} (h:tE w K es fs):∃vs:List (Key×Value),Pairs (dO P w) es vs/\vs.map (·.1)=fs.map (fun p=>Sum.inr p.1)/\(∀e∈es,∃k,(dO P w).is k e.key=true/\e.hash=(dO P w).hash k)/\
  ∀(k:Str) (xs:List V),fs.lookup k=some xs->∃t,valueAt vs (Sum.inr k)=some (.ref t)/\mP K t xs:=by
 induction h with
 |nil=>exact ⟨[],.nil,rfl,(fun e he=>nomatch he),fun k xs h=>by cases h⟩
 | @cons k tk t xs es fs tv h ih=>
  obtain ⟨vs,p,e1,e2,e3⟩:=ih;refine ⟨(.inr k,.ref t)::vs,.cons (qM (k:= .inr k) ⟨ν⟩) rfl p,by simp[e1],fun e he=>?_,fun j ys hj=>?_⟩
  ·rcases F4.mp he with rfl|he
   ·exact ⟨.inr k,qM (k:= .inr k) ⟨ν⟩,rfl⟩
   ·exact e2 e he
  ·rw[List.lookup_cons] at hj
   by_cases c:j=k
   ·subst c;simp at hj;subst hj;exact ⟨t,by simp[valueAt],tv⟩
   ·rw[show (j==k)=false by simpa using c] at hj
    obtain ⟨t',h1,h2⟩:=e3 j ys hj;refine ⟨t',?_,h2⟩;unfold valueAt at h1⊢;rw[List.find?_cons_of_neg (by simp;exact fun z=>c z.symm)]
    exact h1
theorem oh.of {fs:List (Str×List V)} (I:aJ X pins σ H s) (h:oh X.w X.K a fs) (nd:(fs.map fun p=>p.1).Nodup):(a==sysModules)=false/\∃vs:List (Key×Value),s.heap.DictOf (dO X.prog X.w) a vs/\(∀(k:Str) (xs:List V),fs.lookup k=some xs->∃t,valueAt vs (Sum.inr k)=some (.ref t)/\mP X.K t xs)/\∀k:Str,(valueAt vs (Sum.inr k)).isSome=(fs.lookup k).isSome:=by
 obtain ⟨h0,o,es,ep,hk,hx,hd,he⟩:=h;obtain ⟨vs,p,e1,e2,e3⟩:=he.pairs (P:=X.prog);refine ⟨h0,vs,⟨o,es,ep,I.kIn a o hk,hx,hd,fun e he=>e2 e (by simpa using he),p,?_⟩,e3,fun k=>?_⟩
 ·rw[e1,show (fs.map fun p=>(Sum.inr p.1:Key))=(fs.map fun p=>p.1).map Sum.inr by rw[Fe];rfl]
  exact List.pairwise_map.mpr (nd.imp fun h z=>h (Sum.inr.inj z))
 ·cases h:fs.lookup k with
  |some xs=>
   obtain ⟨t,h1,_⟩:=e3 k xs h;rw[h1]
   rfl
  |none=>
   have nf:∀q∈vs,q.1≠Sum.inr k:=fun q hq z=>by
    have m:(Sum.inr k:Key)∈vs.map (·.1):=FE.mpr ⟨q,hq,z⟩;rw[e1] at m;obtain ⟨p,hp,e⟩:=FE.mp m;have e:=Sum.inr.inj e;have hn:=List.lookup_eq_none_iff.mp h p hp;rw[e] at hn;simp at hn
   unfold valueAt;rw[List.find?_eq_none.mpr fun q hq=>by simpa using nf q hq]
   rfl
def zS (w:World) (K:F0) (td ty:TE):TE:=fun σ H Q=>td σ H fun x H1=>ty σ H1 fun y H2=>∃(a:Addr) (fs:List (Str×List V)) (k:Str) (xs:List V),x= .ref a/\y= .str k/\oh w K a fs/\(fs.map fun p=>p.1).Nodup/\fs.lookup k=some xs/\∀t,mP K t xs->Q (.ref t) H2
theorem ol {K:F0} {w:World} {o i:Expr} {pos:Pos} {td ty:TE} (hK:X.K=K) (hw:X.w=w) (ho:PE X o td) (hi:PE X i ty) (hs:Bz i):PE X (.Subscript o i pos) (zS w K td ty):=by
 subst hK hw;intro pins s σ H Q I h;refine wU PySem.F.slot_dict_getitem.lookup hs (bo (ho pins s σ H _ I h) fun u s1 ⟨x,H1,I1,rx,q1⟩=>bo (hi pins s1 σ H1 _ I1 q1) fun iv s2 ⟨y,H2,I2,ry,a,fs,k,xs,ex,ey,hd,nd,hl,q2⟩=>?_)
 subst ex ey;obtain rfl:u=Value.ref a:=rx;obtain ⟨h0,vs,dd,e3,e4⟩:=hd.of I2 nd;obtain ⟨t,h1,h2⟩:=e3 k xs hl;exact ⟨dd.typeIs,wpAny_getItem_of (qM (k:= .inr k) ry) dd.mapOf h1 ⟨.ref t,H2,I2.tok _,rfl,q2 t h2⟩⟩
theorem om {K:F0} {w:World} (hK:X.K=K) (hw:X.w=w):i0 X (compareOp .NotIn) (fun x y H Q=>∃(a:Addr) (fs:List (Str×List V)) (k:Str),x= .str k/\y= .ref a/\oh w K a fs/\(fs.map fun p=>p.1).Nodup/\Q (.bl (!(fs.lookup k).isSome)) H):=by
 subst hK hw;intro pins s σ H x y v u Q I rx ry h;obtain ⟨a,fs,k,rfl,rfl,hd,nd,q⟩:=h;cases ry;obtain ⟨h0,vs,dd,e3,e4⟩:=hd.of I nd;refine wpAny_notIn_of (qM (k:= .inr k) rx) h0 dd.mapOf ?_;refine ⟨.bl _,H,I.tok _,rfl,?_⟩;rw[<-e4] at q;exact q
end
end L2
namespace Sw
open PySem L2 XH Hm PySem.NumText
structure So where
 x:Addr
 u:Addr
 sec:J7
noncomputable def So.own (k:So):J5:=k.x::k.u::k.sec.toList
def zT (H:Hp) (v:V):J7->Option (Nat×Nat×List bU)->Prop
 |none,none=>v= .non
 |some l,some (lo,hi,us)=>∃t,v= .ref t/\H t=some (.tup [vN lo,vN hi,.ref l])/\Uz H l us
 |_,_=>False
section
variable (cC cR cW:Addr)
def SM (H:Hp) (k:So) (s:SV):Prop:=∃(C dx:Addr) (sv:V) (ff:List (Str×V)),H k.x=some (.ins C dx ff)/\ko cC cR cW s.w C/\yF ff (.str s.n) (vN s.lo) (vN s.hi) (.ref k.u) sv/\ff.length<=10/\iP H ff s.fill/\Uz H k.u s.uses/\zT H sv k.sec s.sec
noncomputable def bV (r lt ls lk:Addr) (ks:List So):J5:=r::lt::ls::lk::(ks.map So.own).flatten
structure RM (cRec:Addr) (G H:Hp) (r:Addr) (n:Str) (p:Nat) (lt ls lk:Addr) (ks:List So) (M:Md):Prop where
 fr:ax G H
 nw:∀a∈bV r lt ls lk ks,G a=none
 nd:(bV r lt ls lk ks).Nodup
 er:yJ cRec H r n p lt ls lk
 et:pq lJ An H lt M.takes
 es:H ls=some (.lst (ks.map fun k=> .ref k.x))
 len:ks.length=M.steps.length
 ss:∀(i:Nat) (k:So) (s:SV),ks[i]?=some k->M.steps[i]?=some s->SM cC cR cW H k s
 ek:pq (qa DM) An H lk M.links
end
def rJ (F:J5) (H:Hp):Prop:=∀b∈F,∀xs,H b≠some (.tup xs)
variable {F:J5} {H H':Hp} {cC cR cW:Addr}
theorem Kp.tupM (h:Kp F H H') (q:rJ F H) {t:Addr} {xs:List V} (e:H t=some (.tup xs)):H' t=some (.tup xs):=h _ _ e fun m=>q t m xs e
theorem Kp.rtupM {α:Type} {f:α->List V} (h:Kp F H H') (q:rJ F H) {l:Addr} {xs:List α} (e:pq (qa f) An H l xs) (n:l∉F):pq (qa f) An H' l xs:=by
 obtain ⟨vs,e,r⟩:=e;exact ⟨vs,h _ _ e n,r.imp fun v x ⟨t,e1,e2,e3⟩=>⟨t,e1,e2,h.tupM q e3⟩⟩
theorem Kp.rtakeM (h:Kp F H H') (q:rJ F H) {l:Addr} {xs:List (Str×dM)} (e:pq lJ An H l xs) (n:l∉F):pq lJ An H' l xs:=by
 obtain ⟨vs,e,r⟩:=e;exact ⟨vs,h _ _ e n,r.imp fun v x ⟨t,b,e1,e2,e3,e4,e5⟩=>⟨t,b,e1,e2,e3,h.tupM q e4,h.tupM q e5⟩⟩
theorem Kp.fillM (h:Kp F H H') (q:rJ F H) {ff:List (Str×V)} {o:Option dM} (e:iP H ff o):iP H' ff o:=by
 cases o with
 |none=>exact e
 |some a=>obtain ⟨t,e1,e2⟩:=e;exact ⟨t,e1,h.tupM q e2⟩
theorem Kp.secM (h:Kp F H H') (q:rJ F H) {v:V} {o:J7} {x:Option (Nat×Nat×List bU)} (e:zT H v o x) (n:∀b∈o.toList,b∉F):zT H' v o x:=by
 match o,x,e with
 |none,none,e=>exact e
 |some l,some (lo,hi,us),⟨t,e1,e2,e3⟩=>exact ⟨t,e1,h.tupM q e2,h.rtupM q e3 (n l (by simp))⟩
theorem Kp.sm (h:Kp F H H') (q:rJ F H) {k:So} {s:SV} (e:SM cC cR cW H k s) (n:∀b∈k.own,b∉F):SM cC cR cW H' k s:=by
 obtain ⟨C,dx,sv,ff,e1,e2,e3,e4,e5,e6,e7⟩:=e;exact ⟨C,dx,sv,ff,h _ _ e1 (n k.x (by simp[So.own])),e2,e3,e4,h.fillM q e5,h.rtupM q e6 (n k.u (by simp[So.own])),h.secM q e7 fun b hb=>n b (by simp only[So.own,F4];exact .inr (.inr hb))⟩
theorem gP {x:Addr} {o:HO} (e:H x=some o) (n:∀xs,o≠ .tup xs):rJ [x] H:=fun b hb xs z=>by
 rw[FA.mp hb,e] at z;cases z;exact n xs rfl
theorem SM.fq {k:So} {s:SV} (h:SM cC cR cW H k s):rJ k.own H:=fun b hb xs z=>by
 obtain ⟨C,dx,sv,ff,e1,e2,e3,e4,e5,⟨vs,e6,_⟩,e7⟩:=h;unfold So.own at hb;rcases F4.mp hb with rfl|hb
 ·rw[e1] at z;cases z
 rcases F4.mp hb with rfl|hb
 ·rw[e6] at z;cases z
 generalize k.sec=o1,s.sec=o2 at hb e7
 match o1,o2,e7 with
 |none,none,e=>simp at hb
 |some l,some (lo,hi,us),⟨t,f1,f2,⟨_,f3,_⟩⟩=>
  have hb:b=l:=by simpa using hb
  rw[hb,f3] at z;cases z
theorem SM.all {k:So} {s:SV} (h:SM cC cR cW H k s):∀b∈k.own,H b≠none:=fun b hb z=>by
 obtain ⟨C,dx,sv,ff,e1,e2,e3,e4,e5,⟨vs,e6,_⟩,e7⟩:=h;unfold So.own at hb;rcases F4.mp hb with rfl|hb
 ·rw[e1] at z;cases z
 rcases F4.mp hb with rfl|hb
 ·rw[e6] at z;cases z
 generalize k.sec=o1,s.sec=o2 at hb e7
 match o1,o2,e7 with
 |none,none,e=>simp at hb
 |some l,some (lo,hi,us),⟨t,f1,f2,⟨_,f3,_⟩⟩=>
  have hb:b=l:=by simpa using hb
  rw[hb,f3] at z;cases z
theorem SM.same {k:So} {s:SV} (h:SM cC cR cW H k s) (g:ax H H'):SM cC cR cW H' k s:=(zQ g).sm (fun b hb=>nomatch hb) h fun b _ z=>nomatch z
theorem SM.o {k:So} {s:SV} (h:SM cC cR cW H k s):ED cC cR cW H k.x s:=by
 obtain ⟨C,dx,sv,ff,e1,e2,e3,e4,e5,e6,e7⟩:=h;refine ⟨C,dx,k.u,sv,ff,e1,e2,e3,e5,e6,?_⟩;generalize k.sec=o1,s.sec=o2 at e7
 match o1,o2,e7 with
 |none,none,e=>exact e
 |some l,some (lo,hi,us),⟨t,f1,f2,f3⟩=>exact ⟨t,l,f1,f2,f3⟩
section
variable {cRec:Addr} {G:Hp} {r:Addr} {n:Str} {p:Nat} {lt ls lk:Addr} {ks:List So} {M:Md}
theorem RM.same (h:RM cC cR cW cRec G H r n p lt ls lk ks M) (g:ax H H'):RM cC cR cW cRec G H' r n p lt ls lk ks M:=
 {h with fr:=h.fr.trans g,er:=h.er.same g,et:=h.et.same g,es:=g _ _ h.es,ss:=fun i k s e1 e2=>(h.ss i k s e1 e2).same g,ek:=h.ek.same g}
theorem RM.a (h:RM cC cR cW cRec G H r n p lt ls lk ks M):DO cC cR cW cRec H r n p M:=by
 refine ⟨lt,ls,lk,h.er,h.et,⟨_,h.es,by rw[F7];exact h.len,fun i v s e1 e2=>?_⟩,h.ek⟩
 rw[FG] at e1;obtain ⟨k,hk,rfl⟩:=FQ.mp e1;exact ⟨k.x,rfl,(h.ss i k s hk e2).o⟩
theorem oo {k:So} {b:Addr} (hk:k∈ks) (hb:b∈k.own):b∈bV r lt ls lk ks:=by
 unfold bV;refine F8 _ (F8 _ (F8 _ (F8 _ ?_)));exact List.mem_flatten.mpr ⟨_,FE.mpr ⟨k,hk,rfl⟩,hb⟩
theorem RM.all (h:RM cC cR cW cRec G H r n p lt ls lk ks M):∀b∈bV r lt ls lk ks,H b≠none:=fun b hb z=>by
 unfold bV at hb;rcases F4.mp hb with rfl|hb
 ·obtain ⟨dx,e⟩:=h.er.ex;rw[e] at z;cases z
 rcases F4.mp hb with rfl|hb
 ·obtain ⟨vs,e,_⟩:=h.et;rw[e] at z;cases z
 rcases F4.mp hb with rfl|hb
 ·rw[h.es] at z;cases z
 rcases F4.mp hb with rfl|hb
 ·obtain ⟨vs,e,_⟩:=h.ek;rw[e] at z;cases z
 obtain ⟨o,ho,hb⟩:=List.mem_flatten.mp hb;obtain ⟨k,hk,rfl⟩:=FE.mp ho;obtain ⟨i,hi⟩:=Ft.mp hk;have il:i<M.steps.length:=by rw[<-h.len];exact cy hi
 exact (h.ss i k _ hi (F6 il)).all b hb z
theorem RM.step_ne (h:RM cC cR cW cRec G H r n p lt ls lk ks M) {k:So} {b x:Addr} (hk:k∈ks) (hb:b∈k.own) (hx:x=r∨x=lt∨x=ls∨x=lk):b≠x:=fun e=>by
 subst e;have nd:=h.nd;unfold bV at nd;have mem:b∈(ks.map So.own).flatten:=List.mem_flatten.mpr ⟨_,FE.mpr ⟨k,hk,rfl⟩,hb⟩;simp only[G3,F4,not_or] at nd;rcases hx with rfl|rfl|rfl|rfl
 ·exact nd.1.2.2.2 mem
 ·exact nd.2.1.2.2 mem
 ·exact nd.2.2.1.2 mem
 ·exact nd.2.2.2.1 mem
theorem RM.ne (h:RM cC cR cW cRec G H r n p lt ls lk ks M):r≠lt/\r≠ls/\r≠lk/\lt≠ls/\lt≠lk/\ls≠lk:=by
 have nd:=h.nd;unfold bV at nd;simp only[G3,F4,not_or] at nd;exact ⟨nd.1.1,nd.1.2.1,nd.1.2.2.1,nd.2.1.1,nd.2.1.2.1,nd.2.2.1.1⟩
theorem yJ.kp {F:J5} (h:yJ cRec H r n p lt ls lk) (kp:Kp F H H') (nr:r∉F):yJ cRec H' r n p lt ls lk:=by
 obtain ⟨dx,e⟩:=h.ex;exact ⟨dx,kp _ _ e nr⟩
theorem RM.take (h:RM cC cR cW cRec G H r n p lt ls lk ks M) {vs:List V} {v:V} {x:Str×dM} (e:H lt=some (.lst vs)) (hv:lJ An H v x):RM cC cR cW cRec G (aL H lt (.lst (vs++ [v]))) r n p lt ls lk ks {M with takes:=M.takes++ [x]}:=by
 obtain ⟨n1,n2,n3,n4,n5,n6⟩:=h.ne;have q:rJ [lt] H:=gP e nofun;have kp:=(Kp.refl [lt] H).put (x:=lt) (by simp) (.lst (vs++ [v]))
 refine {h with fr:=km h.fr (h.nw lt (by simp[bV])) _,er:=h.er.kp kp (by simpa using n1),et:=?_,es:=kp _ _ h.es (by simpa using n4.symm),ss:=fun i k s e1 e2=>kp.sm q (h.ss i k s e1 e2) fun b hb=>by simpa using h.step_ne (FB e1) hb (.inr (.inl rfl)),ek:=kp.rtupM q h.ek (by simpa using n5.symm)}
 obtain ⟨us,e',rr⟩:=h.et;rw[e] at e';cases e';exact ⟨_,ac,(rr.snoc hv).imp fun v x ⟨t,b,e1,e2,e3,e4,e5⟩=>⟨t,b,e1,e2,e3,kp.tupM q e4,kp.tupM q e5⟩⟩
theorem RM.link (h:RM cC cR cW cRec G H r n p lt ls lk ks M) {vs:List V} {v:V} {x:xA} (e:H lk=some (.lst vs)) (hv:qa DM An H v x):RM cC cR cW cRec G (aL H lk (.lst (vs++ [v]))) r n p lt ls lk ks {M with links:=M.links++ [x]}:=by
 obtain ⟨n1,n2,n3,n4,n5,n6⟩:=h.ne;have q:rJ [lk] H:=gP e nofun;have kp:=(Kp.refl [lk] H).put (x:=lk) (by simp) (.lst (vs++ [v]))
 refine {h with fr:=km h.fr (h.nw lk (by simp[bV])) _,er:=h.er.kp kp (by simpa using n3),et:=kp.rtakeM q h.et (by simpa using n5),es:=kp _ _ h.es (by simpa using n6),ss:=fun i k s e1 e2=>kp.sm q (h.ss i k s e1 e2) fun b hb=>by simpa using h.step_ne (FB e1) hb (.inr (.inr (.inr rfl))),ek:=?_}
 obtain ⟨us,e',rr⟩:=h.ek;rw[e] at e';cases e';exact ⟨_,ac,(rr.snoc hv).imp fun v x ⟨t,e1,e2,e3⟩=>⟨t,e1,e2,kp.tupM q e3⟩⟩
theorem RM.step {H0:Hp} (h:RM cC cR cW cRec G H0 r n p lt ls lk ks M) (g:ax H0 H) {k:So} {s:SV} (hs:SM cC cR cW H k s) (nk:∀a∈k.own,H0 a=none) (nd:k.own.Nodup):RM cC cR cW cRec G (aL H ls (.lst ((ks.map fun k=>V.ref k.x)++ [.ref k.x]))) r n p lt ls lk (ks++ [k]) {M with steps:=M.steps++ [s]}:=by
 have all:=h.all;have h1:=h.same g;obtain ⟨n1,n2,n3,n4,n5,n6⟩:=h.ne;have q:rJ [ls] H:=gP h1.es nofun;have kp:=(Kp.refl [ls] H).put (x:=ls) (by simp) (.lst ((ks.map fun k=>V.ref k.x)++ [.ref k.x]))
 have eo:bV r lt ls lk (ks++ [k])=bV r lt ls lk ks++k.own:=by simp[bV]
 have dj:∀a∈k.own,a∉bV r lt ls lk ks:=fun a ha hm=>all a hm (nk a ha)
 refine {fr:=km h1.fr (h.nw ls (by simp[bV])) _,nw:=?_,nd:=?_,er:=h1.er.kp kp (by simpa using n2),et:=kp.rtakeM q h1.et (by simpa using n4),es:=by rw[ac,FF];rfl,len:=by simp[h.len],ss:=?_,ek:=kp.rtupM q h1.ek (by simpa using n6.symm)}
 ·rw[eo];intro a ha;rcases FM.mp ha with ha|ha
  ·exact h.nw a ha
  ·exact h.fr.free (nk a ha)
 ·rw[eo,GD];exact ⟨h.nd,nd,fun a ha b hb e=>dj b hb (e▸ha)⟩
 ·intro i k' s' e1 e2;rcases xB e1 with e1|⟨ei,rfl⟩
  ·have il:i<M.steps.length:=by rw[<-h.len];exact cy e1
   have e2':M.steps[i]?=some s':=by
    rw[<-e2];exact (Fx il).symm
   exact kp.sm q (h1.ss i k' s' e1 e2') fun b hb=>by simpa using h.step_ne (FB e1) hb (.inr (.inr (.inl rfl)))
  ·have e2':s=s':=by
    rw[ei,h.len] at e2;simp at e2;exact e2
   subst e2';exact kp.sm q hs fun b hb z=>dj b hb (by rw[FA.mp z];simp[bV])
theorem RM.set (h:RM cC cR cW cRec G H r n p lt ls lk ks M) {i:Nat} {k k':So} {s s':SV} (e1:ks[i]?=some k) (e2:M.steps[i]?=some s) (kp:Kp k.own H H') (hs:SM cC cR cW H' k' s') (ea:k'.x=k.x) (nk:∀a∈k'.own,a∈k.own∨H a=none) (nd:k'.own.Nodup):RM cC cR cW cRec G H' r n p lt ls lk (ks.set i k') {M with steps:=M.steps.set i s'}:=by
 have all:=h.all;have q:=(h.ss i k s e1 e2).fq;have mk:=FB e1;have il:=cy e1;have n4:∀x,(x=r∨x=lt∨x=ls∨x=lk)->x∉k.own:=fun x hx z=>h.step_ne mk z hx rfl
 have ndf:=h.nd;have spl:ks=ks.take i++k::ks.drop (i+1):=by
  rw[F6 il] at e1;rw[<-FT e1,<-List.drop_eq_getElem_cons il,List.take_append_drop]
 have spl':ks.set i k'=ks.take i++k'::ks.drop (i+1):=by rw[List.set_eq_take_append_cons_drop,if_pos il]
 have own1:bV r lt ls lk ks=(r::lt::ls::lk::((ks.take i).map So.own).flatten)++(k.own++((ks.drop (i+1)).map So.own).flatten):=by
  unfold bV
  conv=>lhs;rw[spl]
  simp
 have own2:bV r lt ls lk (ks.set i k')=(r::lt::ls::lk::((ks.take i).map So.own).flatten)++(k'.own++((ks.drop (i+1)).map So.own).flatten):=by
  unfold bV;rw[spl'];simp
 rw[own1,GD,GD] at ndf;obtain ⟨d1,⟨d2,d3,d4⟩,d5⟩:=ndf;have inO:∀a,a∈(r::lt::ls::lk::((ks.take i).map So.own).flatten)∨a∈((ks.drop (i+1)).map So.own).flatten->H a≠none/\a∉k.own:=fun a ha=>by
  refine ⟨all a (by rw[own1];rcases ha with ha|ha;exact GT _ ha;exact F9 _ (F9 _ ha)),fun z=>?_⟩
  rcases ha with ha|ha
  ·exact d5 a ha a (GT _ z) rfl
  ·exact d4 a z a ha rfl
 refine {fr:=?_,nw:=?_,nd:=?_,er:=h.er.kp kp (n4 _ (.inl rfl)),et:=kp.rtakeM q h.et (n4 _ (.inr (.inl rfl))),es:=?_,len:=by simp[h.len],ss:=?_,ek:=kp.rtupM q h.ek (n4 _ (.inr (.inr (.inr rfl))))}
 ·exact fun b o e=>kp _ _ (h.fr _ _ e) fun z=>by
   have:=h.nw b (oo mk z);rw[this] at e;cases e
 ·rw[own2];intro a ha;rcases FM.mp ha with ha|ha
  ·exact h.nw a (by rw[own1];exact GT _ ha)
  rcases FM.mp ha with ha|ha
  ·rcases nk a ha with hk|hn
   ·exact h.nw a (oo mk hk)
   ·exact h.fr.free hn
  ·exact h.nw a (by rw[own1];exact F9 _ (F9 _ ha))
 ·rw[own2,GD,GD];refine ⟨d1,⟨nd,d3,fun a ha b hb e=>?_⟩,fun a ha b hb e=>?_⟩
  ·have:=inO b (.inr hb);rcases nk a ha with hk|hn
   ·exact this.2 (e▸hk)
   ·exact this.1 (e▸hn)
  ·have:=inO a (.inl ha);rcases FM.mp hb with hb|hb
   ·rcases nk b hb with hk|hn
    ·exact this.2 (e▸hk)
    ·exact this.1 (e▸hn)
   ·exact d5 a ha b (F9 _ hb) e
 ·rw[kp _ _ h.es (n4 _ (.inr (.inr (.inl rfl))))]
  congr 2
  apply List.ext_getElem?;intro j;rw[FG,FG,List.getElem?_set]
  by_cases c:i=j
  ·subst c;rw[if_pos rfl,if_pos il,e1];simp[ea]
  ·rw[if_neg c]
 ·intro j kj sj f1 f2;have f2':(M.steps.set i s')[j]?=some sj:=f2;rw[List.getElem?_set] at f1 f2'
  by_cases c:i=j
  ·subst c;rw[if_pos rfl] at f1 f2';rw[if_pos il] at f1;rw[if_pos (by rw[<-h.len];exact il)] at f2'
   cases f1;cases f2';exact hs
  ·rw[if_neg c] at f1 f2';refine kp.sm q (h.ss j kj sj f1 f2') fun b hb z=>?_
   have mj:kj∈ks.take i∨kj∈ks.drop (i+1):=by
    by_cases lt:j<i
    ·exact .inl (FB (i:=j) (by rw[List.getElem?_take,if_pos lt];exact f1))
    ·exact .inr (FB (i:=j-(i+1)) (by rw[List.getElem?_drop,show i+1+(j-(i+1))=j by lia];exact f1))
   rcases mj with mj|mj
   ·exact (inO b (.inl (by
     refine F8 _ (F8 _ (F8 _ (F8 _ ?_)));exact List.mem_flatten.mpr ⟨_,FE.mpr ⟨kj,mj,rfl⟩,hb⟩))).2 z
   ·exact (inO b (.inr (List.mem_flatten.mpr ⟨_,FE.mpr ⟨kj,mj,rfl⟩,hb⟩))).2 z
end
end Sw
namespace L2
open PySem PySem.Spec PyProof.Rows
def zU (h:Heap) (j q:Addr) (k:Nat) (xs:Array Value):Prop:=IsTupIter h j q k/\IsTup h q xs
theorem zU.but {h h':Heap} {j q b:Addr} {k:Nat} {xs:Array Value} (x:zU h j q k xs) (e:Heap.SameBut b h h') (n1:j≠b) (n2:q≠b):zU h' j q k xs:=⟨x.1.extBut e.extBut n1,x.2.extBut e.extBut n2⟩
section
variable {prog:Program} {w:World} {A:Around} {E:JY} {s:Shared}
theorem rK {j q:Addr} {k:Nat} {xs:Array Value} {x:Value} {Q:JY} (t:zU s.heap j q k xs) (qj:q≠j) (hx:xs[k]?=some x) (go:∀h',zU h' j q (k+1) xs->Heap.SameBut j s.heap h'->Q x {s with heap:=h'}):wpAny (model prog w) A (Builtin.SmallTypes.nextOf (.ref j)) Q E s:=by
 obtain ⟨oj,gj,cj,dj⟩:=id t.1;obtain ⟨oq,gq,_,nq,dq⟩:=id t.2;unfold Builtin.SmallTypes.nextOf;refine wpAny_bind (wpAny_callSpecial?_slot (name:=Str.ofString "__next__") t.1.typeIs slot_tupleiter_next (wpAny_call_entry slot_tupleiter_next t.1.typeIs entry_tupleiter_next ?_ (args_tupleiter_next _)));refine wpAny_bind (m:=field (.ref j) 0) (wpAny_field gj dj (x:= .ref q) rfl ?_);show wpAny _ _ (if (Value.ref q==Value.none)=true then _ else _) _ _ s
 rw[if_neg (show ¬(Value.ref q==Value.none)=true from FJ)]
 refine wpAny_bind (m:=field (.ref j) 1) (wpAny_field gj dj (x:= .int k 0) rfl (wpAny_bind (m:=seqItems? (.ref q)) (wpAny_seqItems gq dq ?_)));simp only[Int.toNat_natCast,hx];refine wpAny_bind (wpAny_setField gj dj (by simp) (wpAny_pure ⟨x,rfl,wpAny_pure (go _ ⟨?_,t.2.extBut (Heap.SameBut.update ..).extBut qj⟩ (Heap.SameBut.update ..))⟩))
 refine ⟨_,Heap.get?_update_self _ gj (Obj.isFreed_of_fields (Obj.data_mapFields dj _)),(Obj.cls_mapFields ..).trans cj,?_⟩;rw[Obj.data_mapFields dj];simp[rawInt]
theorem xE {j q:Addr} {k:Nat} {xs:Array Value} {Q:JY} (calm:A.handled=none) (t:zU s.heap j q k xs) (hx:xs[k]?=none) (go:∀h' e,Heap.ExtBut j s.heap h'->(∃o,h'.get? e=some o/\o.cls= .type "StopIteration")->E (.ref e) {s with heap:=h'}):wpAny (model prog w) A (Builtin.SmallTypes.nextOf (.ref j)) Q E s:=by
 obtain ⟨oj,gj,cj,dj⟩:=id t.1;obtain ⟨oq,gq,_,nq,dq⟩:=id t.2;unfold Builtin.SmallTypes.nextOf;refine wpAny_bind (wpAny_callSpecial?_slot (name:=Str.ofString "__next__") t.1.typeIs slot_tupleiter_next (wpAny_call_entry slot_tupleiter_next t.1.typeIs entry_tupleiter_next ?_ (args_tupleiter_next _)));refine wpAny_bind (m:=field (.ref j) 0) (wpAny_field gj dj (x:= .ref q) rfl ?_);show wpAny _ _ (if (Value.ref q==Value.none)=true then _ else _) _ _ s
 rw[if_neg (show ¬(Value.ref q==Value.none)=true from FJ)]
 refine wpAny_bind (m:=field (.ref j) 1) (wpAny_field gj dj (x:= .int k 0) rfl (wpAny_bind (m:=seqItems? (.ref q)) (wpAny_seqItems gq dq ?_)));simp only[Int.toNat_natCast,hx];refine wpAny_bind (wpAny_rule (wpAny_bind (wpAny_setField gj dj (by simp) (wpAny_bind (m:=newExc (.type "StopIteration") []) ?_))))
 simp only[newExc,newTuple];refine wpAny_bind (wpAny_newObj_type (wpAny_bind (m:=firstArgMember _ _) (wpAny_of_eq (a:=Value.none) (by first|rfl|(simp only[firstArgMember];rfl)) (wpAny_newObj_type ?_ (by size_fits)))) (by size_fits))
 simp only[raiseNew];refine wpAny_bind (wpAny_handled ?_)
 first|rw[show A.in1.handled=none from calm]|rw[calm]
 exact wpAny_bind (wpAny_pure (wpAny_throw (go _ _ (((Heap.SameBut.update ..).extBut.push _).push _) ⟨_,Heap.get?_push_size _ rfl,rfl⟩)))
variable {y ti to j1 j2 q l:Addr} {k:Nat} {xs ys:Array Value} {a b:Value}
structure DQ (h:Heap) (y ti to j1 j2 q l:Addr) (k:Nat) (xs ys:Array Value) (a b:Value):Prop where
 z:IsZip h y ti to .none
 i:IsPair h ti (.ref j1) (.ref j2)
 o:IsPair h to a b
 t:zU h j1 q k xs
 n:h.IsListIter j2 l k
 li:h.IsList l ys
theorem xF {x v:Value} {Q:J8->Shared->Prop} (D:ZipApart y ti to j1 j2 q l) (S:DQ s.heap y ti to j1 j2 q l k xs ys a b) (hx:xs[k]?=some x) (hv:ys[k]?=some v)
  (fin:∀h',IsZip h' y ti to (rawInt s.heap.objs.size)->IsPair h' to x v->IsTupIter h' j1 q (k+1)->h'.IsListIter j2 l (k+1)->IsPair h' s.heap.objs.size x v->h'.objs.size=s.heap.objs.size+1->
   (∀c o,c≠y->c≠to->c≠j1->c≠j2->s.heap.get? c=some o->h'.get? c=some o)->Q (some (.ref s.heap.objs.size)) {s with heap:=h'}):wpAny (model prog w) A (pyNext (.ref y)) Q E s:=by
 obtain ⟨sz,si,so,st,sn,sl⟩:=S;have ty:s.TypeIs (.ref y) "zip" :=⟨_,sz,rfl⟩;unfold pyNext;refine wpAny_bind (wpAny_attempt (wpAny_callSpecial?_slot (name:=Str.ofString "__next__") ty F.slot_zip_next (wpAny_call_entry F.slot_zip_next ty F.entry_zip_next ?_ (F.args_zip_next_1 _))));refine wpAny_bind (m:=field (.ref y) 2) (wpAny_field sz rfl (x:= .bool false) rfl (wpAny_bind (m:=field (.ref y) 3) (wpAny_field sz rfl (x:= .ref ti) rfl (wpAny_bind (wpAny_seqItems si rfl (wpAny_bind (m:=Builtin.SmallTypes.ownedTupleIsFree (.ref y)) ?_))))));unfold Builtin.SmallTypes.ownedTupleIsFree;refine wpAny_bind (wpAny_field sz rfl (x:= .none) rfl (wpAny_pure ?_));simp only[if_true];refine wpAny_bind (wpAny_rule (wpAny_bind (wpAny_field sz rfl (x:= .ref to) rfl (wpAny_bind (wpAny_setField_rec sz (by simp) fun e1 (z1:IsZip e1 y ti to .ellipsis) u1=>wpAny_bind ?_)))))
 simp only[List.zipIdx_cons,List.zipIdx_nil,List.forIn_cons,List.forIn_nil];refine wpAny_bind (wpAny_bind (wpAny_onRaise (wpAny_bind (m:=Builtin.SmallTypes.nextOf (.ref j1)) (rK (st.but u1 D.i1z D.l1z) D.l1i1 hx fun e2 t2 u2=>wpAny_pure ?_))))
 have o2:IsPair e2 to a b:=u2.extBut _ _ D.TOi1 (u1.extBut _ _ D.TOz so);refine wpAny_bind (wpAny_seqItems o2 rfl (wpAny_bind (wpAny_updateSeq_pair o2 fun e3 (o3:IsPair e3 to x b) u3=>wpAny_bind (wpAny_letGo (wpAny_pure ?_)))))
 have n3:=((sn.extBut u1.extBut D.i2z).extBut u2.extBut D.i12.symm).extBut u3.extBut D.TOi2.symm;have l3:=((sl.extBut u1.extBut D.l2z).extBut u2.extBut D.l2i1).extBut u3.extBut D.l2TO;refine wpAny_bind (wpAny_bind (wpAny_onRaise (wpAny_bind (m:=Builtin.SmallTypes.nextOf (.ref j2)) (wpAny_nextOf_list_item n3 l3 hv fun e4 n4 u4=>wpAny_pure ?_))))
 have o4:IsPair e4 to x b:=u4.extBut _ _ D.TOi2 o3;refine wpAny_bind (wpAny_seqItems o4 rfl (wpAny_bind (wpAny_updateSeq_pair o4 fun e5 (o5:IsPair e5 to x v) u5=>wpAny_bind (wpAny_letGo (wpAny_pure (wpAny_pure ?_))))))
 refine wpAny_bind (wpAny_seqItems o5 rfl (wpAny_bind (wpAny_newTuple (wpAny_bind (m:=Builtin.SmallTypes.ownedTupleHandOut (.ref y) (.ref e5.objs.size)) ?_))));have sz5:e5.objs.size=s.heap.objs.size:=by rw[u5.1,u4.1,u3.1,u2.1,u1.1]
 have all5:∀c o,c≠y->c≠to->c≠j1->c≠j2->s.heap.get? c=some o->e5.get? c=some o:=fun c o c1 c2 c3 c4 e=>u5.extBut _ _ c2 (u4.extBut _ _ c4 (u3.extBut _ _ c2 (u2.extBut _ _ c3 (u1.extBut _ _ c1 e))))
 have z5:IsZip e5 y ti to .ellipsis:=u5.extBut _ _ D.TOz.symm (u4.extBut _ _ D.i2z.symm (u3.extBut _ _ D.TOz.symm (u2.extBut _ _ D.i1z.symm z1)));have i5:IsTupIter e5 j1 q (k+1):=((t2.1.extBut u3.extBut D.TOi1.symm).extBut u4.extBut D.i12).extBut u5.extBut D.TOi1.symm;have n5:e5.IsListIter j2 l (k+1):=n4.extBut u5.extBut D.TOi2.symm;have yl:y<e5.objs.size:=Heap.lt_size z5;unfold Builtin.SmallTypes.ownedTupleHandOut;have z6:IsZip (e5.push {cls:= .type "tuple",data:= .seq #[x,v]}) y ti to .ellipsis:=Heap.get?_push_of_some _ z5;refine wpAny_bind (wpAny_setField_rec z6 (by simp) fun e7 (z7:IsZip e7 y ti to (rawInt e5.objs.size)) u7=>wpAny_setField_rec z7 (by simp) fun e8 (z8:IsZip e8 y ti to (rawInt e5.objs.size)) u8=>?_)
 have up:∀c o,c≠y->e5.get? c=some o->e8.get? c=some o:=fun c o c1 e=>u8.extBut _ _ c1 (u7.extBut _ _ c1 (Heap.get?_push_of_some _ e))
 have p8:IsPair e8 e5.objs.size x v:=u8.extBut _ _ (GC yl) (u7.extBut _ _ (GC yl) (Heap.get?_push_size _ rfl));have sz8:e8.objs.size=e5.objs.size+1:=by rw[u8.1,u7.1,Heap.size_push]
 rw[sz5] at z8 p8 sz8;refine wpAny_pure ⟨ν,wpAny_pure ?_⟩;show Q (some (.ref e5.objs.size)) _;rw[sz5];obtain ⟨oi,gi,ri⟩:=i5;exact fin e8 z8 (up _ _ D.TOz o5) ⟨oi,up _ _ D.i1z gi,ri⟩ (n5.at fun o e=>up _ o D.i2z e) p8 sz8 fun c o c1 c2 c3 c4 e=>up c o c1 (all5 c o c1 c2 c3 c4 e)
theorem zV {Q:J8->Shared->Prop} (calm:A.handled=none) (D:ZipApart y ti to j1 j2 q l) (S:DQ s.heap y ti to j1 j2 q l k xs ys a b) (hend:xs[k]?=none∨ys[k]?=none)
  (fin:∀h',(∀c o,c≠y->c≠to->c≠j1->c≠j2->s.heap.get? c=some o->h'.get? c=some o)->Q none {s with heap:=h'}):wpAny (model prog w) A (pyNext (.ref y)) Q E s:=by
 obtain ⟨sz,si,so,st,sn,sl⟩:=S;have ty:s.TypeIs (.ref y) "zip" :=⟨_,sz,rfl⟩;unfold pyNext;have out:∀h' e,(∀c o,c≠y->c≠to->c≠j1->c≠j2->s.heap.get? c=some o->h'.get? c=some o)->(∃o,h'.get? e=some o/\o.cls= .type "StopIteration")->wpAny (model prog w) A (do if<-isInstance (.ref e) (.type "StopIteration") then pure none else throw (.ref e)) Q E {s with heap:=h'}:=fun h' e hk he=>by
  obtain ⟨oe,ge,ce⟩:=he;exact wpAny_bind (wpAny_isInstance (T:= "StopIteration") (b:=true) ⟨oe,ge,ce⟩ isSubtype_stop (wpAny_pure (fin _ hk)))
 refine wpAny_bind (wpAny_attempt (wpAny_callSpecial?_slot (name:=Str.ofString "__next__") ty F.slot_zip_next (wpAny_call_entry F.slot_zip_next ty F.entry_zip_next ?_ (F.args_zip_next_1 _))));refine wpAny_bind (m:=field (.ref y) 2) (wpAny_field sz rfl (x:= .bool false) rfl (wpAny_bind (m:=field (.ref y) 3) (wpAny_field sz rfl (x:= .ref ti) rfl (wpAny_bind (wpAny_seqItems si rfl (wpAny_bind (m:=Builtin.SmallTypes.ownedTupleIsFree (.ref y)) ?_))))));unfold Builtin.SmallTypes.ownedTupleIsFree;refine wpAny_bind (wpAny_field sz rfl (x:= .none) rfl (wpAny_pure ?_));simp only[if_true];refine wpAny_bind (wpAny_rule (wpAny_bind (wpAny_field sz rfl (x:= .ref to) rfl (wpAny_bind (wpAny_setField_rec sz (by simp) fun e1 (z1:IsZip e1 y ti to .ellipsis) u1=>wpAny_bind ?_)))))
 simp only[List.zipIdx_cons,List.zipIdx_nil,List.forIn_cons,List.forIn_nil];cases hx:xs[k]? with
 |none=>
  refine wpAny_bind (wpAny_bind (wpAny_onRaise (wpAny_bind (m:=Builtin.SmallTypes.nextOf (.ref j1)) (xE calm (st.but u1 D.i1z D.l1z) hx fun e2 e u2 he=>?_))))
  obtain ⟨oe,ge,ce⟩:=he;have z2:IsZip e2 y ti to .ellipsis:=u2 _ _ D.i1z.symm z1;have ey:e≠y:=fun c=>by subst c;rw[z2] at ge;cases ge;simp at ce
  exact wpAny_setField_rec z2 (by simp) fun e3 _ u3=>out e3 e (fun c o c1 _ c3 _ g=>u3.extBut _ _ c1 (u2 _ _ c3 (u1.extBut _ _ c1 g))) ⟨oe,u3.extBut _ _ ey ge,ce⟩
 |some x=>
  have hy:ys[k]?=none:=by rcases hend with h|h;rw[hx] at h;cases h;exact h
  refine wpAny_bind (wpAny_bind (wpAny_onRaise (wpAny_bind (m:=Builtin.SmallTypes.nextOf (.ref j1)) (rK (st.but u1 D.i1z D.l1z) D.l1i1 hx fun e2 t2 u2=>wpAny_pure ?_))))
  have o2:IsPair e2 to a b:=u2.extBut _ _ D.TOi1 (u1.extBut _ _ D.TOz so);refine wpAny_bind (wpAny_seqItems o2 rfl (wpAny_bind (wpAny_updateSeq_pair o2 fun e3 o3 u3=>wpAny_bind (wpAny_letGo (wpAny_pure ?_)))))
  have n3:=((sn.extBut u1.extBut D.i2z).extBut u2.extBut D.i12.symm).extBut u3.extBut D.TOi2.symm;have l3:=((sl.extBut u1.extBut D.l2z).extBut u2.extBut D.l2i1).extBut u3.extBut D.l2TO;refine wpAny_bind (wpAny_bind (wpAny_onRaise (wpAny_bind (m:=Builtin.SmallTypes.nextOf (.ref j2)) (wpAny_nextOf_list_end calm n3 l3 hy fun e4 e u4 he=>?_))))
  obtain ⟨oe,ge,ce⟩:=he;have z4:IsZip e4 y ti to .ellipsis:=u4 _ _ D.i2z.symm (u3.extBut _ _ D.TOz.symm (u2.extBut _ _ D.i1z.symm z1));have ey:e≠y:=fun c=>by subst c;rw[z4] at ge;cases ge;simp at ce
  exact wpAny_setField_rec z4 (by simp) fun e5 _ u5=>out e5 e (fun c o c1 c2 c3 c4 g=>u5.extBut _ _ c1 (u4 _ _ c4 (u3.extBut _ _ c2 (u2.extBut _ _ c3 (u1.extBut _ _ c1 g))))) ⟨oe,u5.extBut _ _ ey ge,ce⟩
end
noncomputable def EF (n:Nat) (q l:Addr):List Obj:= [{cls:= .type "tuple_iterator",data:= .fields #[.ref q,.int 0 0]},{cls:= .type "list_iterator",data:= .fields #[.ref l,.int 0 0]},{cls:= .type "tuple",data:= .seq #[.ref n,.ref (n+1)]},{cls:= .type "tuple",data:= .seq #[.none,.none]},{cls:= .type "zip",data:= .fields #[.none,.bool false,.bool false,.ref (n+2),.ref (n+3)]}]
noncomputable def DR (h:Heap) (q l:Addr):Heap:=(EF h.objs.size q l).foldl Heap.push h
theorem vF (q l:Addr) (xs ys:Array Value):Meets (Builtin.«zip.__new__» ⟨[.type "zip",.ref q,.ref l],[]⟩) (fun _ R s=>IsTup s.heap q xs/\s.heap.IsList l ys/\R (.ok (.ret (.ref (s.heap.objs.size+4)))) {s with heap:=DR s.heap q l}):=
 .of_wp fun prog w A R s k=>by
  obtain ⟨hp,g,d,tk,os⟩:=s;obtain ⟨k1,k2,k3⟩:=k;have sub:=sub_zip;have c1:IsTup (Shared.heap ⟨hp,g,d,tk,os⟩) q xs:=k1;have c2:Heap.IsList (Shared.heap ⟨hp.push {cls:= .type "tuple_iterator",data:= .fields #[.ref q,.int 0 0]},g,d,tk,os⟩) l ys:=Heap.IsList.push k2 _
  wp_walk using iter_tuple c1,wpAny_pyIter_list c2
  refine ⟨ν,?_⟩;simp only[Heap.size_push];exact k3
section
variable {prog:Program} {w:World} {A:Around} {E:JY} {s:Shared}
theorem xG {q l:Addr} {xs ys:Array Value} {Q:JY} (h1:IsTup s.heap q xs) (h2:s.heap.IsList l ys)
  (fin:∀h',DQ h' (s.heap.objs.size+4) (s.heap.objs.size+2) (s.heap.objs.size+3) s.heap.objs.size (s.heap.objs.size+1) q l 0 xs ys .none .none->(∀c o,s.heap.get? c=some o->h'.get? c=some o)->Q (.ref (s.heap.objs.size+4)) {s with heap:=h'}):
  wpAny (model prog w) A (call (.type "zip") [.ref q,.ref l]) Q E s:=by
 have kp:∀c o,s.heap.get? c=some o->(DR s.heap q l).get? c=some o:=fun c o e=>by
  unfold DR EF;simp only[List.foldl_cons,List.foldl_nil];exact Heap.get?_push_of_some _ (Heap.get?_push_of_some _ (Heap.get?_push_of_some _ (Heap.get?_push_of_some _ (Heap.get?_push_of_some _ e))))
 have at_:∀(h:Heap) (o1 o2 o3 o4 o5:Obj),o1.isFreed=false->o2.isFreed=false->o3.isFreed=false->o4.isFreed=false->o5.isFreed=false->(((((h.push o1).push o2).push o3).push o4).push o5).get? h.objs.size=some o1/\(((((h.push o1).push o2).push o3).push o4).push o5).get? (h.objs.size+1)=some o2/\(((((h.push o1).push o2).push o3).push o4).push o5).get? (h.objs.size+2)=some o3/\(((((h.push o1).push o2).push o3).push o4).push o5).get? (h.objs.size+3)=some o4/\(((((h.push o1).push o2).push o3).push o4).push o5).get? (h.objs.size+4)=some o5:=fun h o1 o2 o3 o4 o5 f1 f2 f3 f4 f5=>by
  have a1:=Heap.get?_push_size h f1;have a2:=Heap.get?_push_size (h.push o1) f2;have a3:=Heap.get?_push_size ((h.push o1).push o2) f3;have a4:=Heap.get?_push_size (((h.push o1).push o2).push o3) f4;have a5:=Heap.get?_push_size ((((h.push o1).push o2).push o3).push o4) f5;simp only[Heap.size_push] at a2 a3 a4 a5;exact ⟨Heap.get?_push_of_some _ (Heap.get?_push_of_some _ (Heap.get?_push_of_some _ (Heap.get?_push_of_some _ a1))),Heap.get?_push_of_some _ (Heap.get?_push_of_some _ (Heap.get?_push_of_some _ a2)),Heap.get?_push_of_some _ (Heap.get?_push_of_some _ a3),Heap.get?_push_of_some _ a4,a5⟩
 obtain ⟨a1,a2,a3,a4,a5⟩:=at_ s.heap {cls:= .type "tuple_iterator",data:= .fields #[.ref q,.int 0 0]} {cls:= .type "list_iterator",data:= .fields #[.ref l,.int 0 0]} {cls:= .type "tuple",data:= .seq #[.ref s.heap.objs.size,.ref (s.heap.objs.size+1)]} {cls:= .type "tuple",data:= .seq #[.none,.none]} {cls:= .type "zip",data:= .fields #[.none,.bool false,.bool false,.ref (s.heap.objs.size+2),.ref (s.heap.objs.size+3)]} rfl rfl rfl rfl rfl;refine callType_new F.called_zip (by decide) (F.typeCall_zip_2 _ _) (F.newCall_zip_2 _ _) (fun obj=>F.args_object_init_3 obj _ _) F.entry_zip_new (vF q l xs ys) ⟨h1,h2,⟨_,a5,rfl⟩,fin _ ⟨a5,a3,a4,⟨⟨_,a1,rfl,rfl⟩,h1.keeps kp⟩,⟨_,a2,rfl,rfl⟩,?_⟩ kp⟩
 exact h2.at fun o e=>kp _ o e
end
noncomputable def B4 (K:F0) (l1 l2:Addr):It:=
  ⟨fun i H=>∃xs ys x y,cM K H l1 xs/\aI K H l2 ys/\xs[i]?=some x/\ys[i]?=some y,
   fun i H v H'=>∃(T:Addr) (x y:V),v= .ref T/\H T=none/\(∀xs,cM K H l1 xs->xs[i]?=some x)/\(∀ys,aI K H l2 ys->ys[i]?=some y)/\H'=aL H T (.tup [x,y]),
   fun i H=>∃xs ys,cM K H l1 xs/\aI K H l2 ys/\(xs.length<=i∨ys.length<=i)⟩
structure DS (h:Heap) (z ti to i1 i2 l1 l2:Addr) (i:Nat):Prop where
 zip:IsZip h z ti to .none
 ti:IsPair h ti (.ref i1) (.ref i2)
 to:∃a b,IsPair h to a b
 it1:IsTupIter h i1 l1 i
 it2:h.IsListIter i2 l2 i
theorem IsTupIter.at' {h h':Heap} {a t:Addr} {i:Nat} (x:IsTupIter h a t i) (k:∀o,h.get? a=some o->h'.get? a=some o):IsTupIter h' a t i:=let ⟨o,e,r⟩:=x;⟨o,k o e,r⟩
theorem DS.apart {h:Heap} {z TI TO i1 i2 l1 l2:Addr} {i:Nat} {ys:Array Value} (st:DS h z TI TO i1 i2 l1 l2 i) (d: [z,TI,TO,i1,i2].Nodup) (dl:l1∉ [z,TI,TO,i1,i2]) (h2:h.IsList l2 ys):ZipApart z TI TO i1 i2 l1 l2:=by
 obtain ⟨a,b,eto⟩:=st.to;obtain ⟨o1,e1,c1,_⟩:=st.it1;obtain ⟨o2,e2,c2,_⟩:=st.it2;simp only[G3,F4,FC,or_false,not_or,List.nodup_nil,and_true] at d dl;obtain ⟨⟨d1,d2,d3,d4⟩,⟨d5,d6,d7⟩,⟨d8,d9⟩,d10,_⟩:=d;obtain ⟨p1,p2,p3,p4,p5⟩:=dl;obtain ⟨q1,q2,q3,q4,q5⟩:l2≠z/\l2≠TI/\l2≠TO/\l2≠i1/\l2≠i2:=⟨iE h2 st.zip rfl (by decide),iE h2 st.ti rfl (by decide),iE h2 eto rfl (by decide),iE h2 e1 c1 (by decide),iE h2 e2 c2 (by decide)⟩
 constructor<;>first|assumption|exact Ne.symm (by assumption)
theorem xH {P:Program} {w:World} {K:F0} {elts:List Expr} {k:Nat} {pos:Pos} (l1 l2 z TI TO i1 i2:Addr) (d: [z,TI,TO,i1,i2].Nodup) (dl:l1∉ [z,TI,TO,i1,i2]):Turn P w K (.Tuple elts k pos) (B4 K l1 l2) [z,TI,TO,i1,i2] z (fun i h=>DS h z TI TO i1 i2 l1 l2 i) where
 mem:=by simp
 obj:=fun i h st b hb=>by
  obtain ⟨a,b',eto⟩:=st.to;obtain ⟨o1,e1,c1,d1⟩:=st.it1;obtain ⟨o2,e2,c2,d2⟩:=st.it2;simp only[F4,FC,or_false] at hb;rcases hb with q|q|q|q|q<;>subst q
  ·exact ⟨_,st.zip,fun v z=>by cases z⟩
  ·exact ⟨_,st.ti,fun v z=>by cases z⟩
  ·exact ⟨_,eto,fun v z=>by cases z⟩
  ·exact ⟨o1,e1,fun v z=>by rw[d1] at z;cases z⟩
  ·exact ⟨o2,e2,fun v z=>by rw[d2] at z;cases z⟩
 keep:=fun i h h' st k=>⟨k _ (by simp) _ st.zip,k _ (by simp) _ st.ti,let ⟨a,b,e⟩:=st.to;⟨a,b,k _ (by simp) _ e⟩,IsTupIter.at' st.it1 fun o q=>k _ (by simp) o q,st.it2.at fun o q=>k _ (by simp) o q⟩
 item:=by
  intro X hP hw hK hc i pins s σ H E I hf st hg;subst hP hw hK;obtain ⟨xs,ys,x,y,hq1,hq2,hx,hy⟩:=hg;obtain ⟨is1,rv1,p1,hz1⟩:=I.tuple hq1;obtain ⟨is2,rv2,p2,hz2⟩:=I.list hq2;obtain ⟨u,hu,ru⟩:=rv1.get hx;obtain ⟨v,hv,rv⟩:=rv2.get hy;have ap:=st.apart d dl p2.isList;obtain ⟨a,b,eto⟩:=st.to;refine xF (xs:=is1.toArray) (ys:=is2.toArray) (x:=u) (v:=v) ap ⟨st.zip,st.ti,eto,⟨st.it1,p1⟩,st.it2,p2.isList⟩ (by simpa using hu) (by simpa using hv) fun h1 ho hto hi1 hi2 hT hsz hk=>?_
  refine ⟨_,rfl,wpAny_letOwnedTupleGo_zip (s:={s with heap:=h1}) ho fun h2 hz2' hs2=>?_⟩
  have nT:H s.heap.objs.size=none:=I.hok.fresh (F5 _);have lt:∀b∈ [z,TI,TO,i1,i2],b<s.heap.objs.size:=fun b hb=>by
   obtain ⟨o1,e1,_⟩:=st.it1;obtain ⟨o2,e2,_⟩:=st.it2;simp only[F4,FC,or_false] at hb;rcases hb with q|q|q|q|q<;>subst q
   ·exact Heap.lt_size st.zip
   ·exact Heap.lt_size st.ti
   ·exact Heap.lt_size eto
   ·exact Heap.lt_size e1
   ·exact Heap.lt_size e2
  have zl:=lt z (by simp)
  have hT2:IsPair h2 s.heap.objs.size u v:=(hs2.2 _ (GC zl)).trans hT;have kp:∀b o,b∉ [z,TI,TO,i1,i2]->s.heap.get? b=some o->h2.get? b=some o:=fun b o hb q=>by
   simp only[F4,FC,or_false,not_or] at hb;exact (hs2.2 b hb.1).trans (hk b o hb.1 hb.2.2.1 hb.2.2.2.1 hb.2.2.2.2 q)
  have eti:h1.get? TI=some {cls:= .type "tuple",data:= .seq #[.ref i1,.ref i2]}:=hk TI _ ap.TIz ap.TITO ap.TIi1 ap.TIi2 st.ti;refine ⟨.ref s.heap.objs.size,aL H s.heap.objs.size (.tup [x,y]),I.turnedNew (t':=s.toks) (ch:= [z,TI,TO,i1,i2]) hf kp (F5 _) ⟨by show 2<=sizeLine;decide,[u,v],.cons ru (.cons rv .nil),⟨_,hT2,rfl,0,rfl⟩⟩,rfl,
   ⟨_,x,y,rfl,nT,fun ys hy'=>by rw[I.tuple_inj hy' hq1];exact hx,fun ys hy'=>by rw[I.list_inj hy' hq2];exact hy,rfl⟩,⟨hz2',(hs2.2 _ ap.TIz).trans eti,⟨u,v,(hs2.2 _ ap.TOz).trans hto⟩,IsTupIter.at' hi1 fun o q=>(hs2.2 _ ap.i1z).trans q,hi2.at fun o q=>(hs2.2 _ ap.i2z).trans q⟩,fun b hb=>?_⟩
  rw[ar (FO (lt b hb))];exact (hf b hb).1
 done:=by
  intro X hP hw hK hc i pins s σ H E I hf st hg;subst hP hw hK;obtain ⟨xs,ys,hq1,hq2,hx⟩:=hg;obtain ⟨is1,rv1,p1,hz1⟩:=I.tuple hq1;obtain ⟨is2,rv2,p2,hz2⟩:=I.list hq2;have ap:=st.apart d dl p2.isList;obtain ⟨a,b,eto⟩:=st.to;have e1:=rv1.length;have e2:=rv2.length;refine zV (xs:=is1.toArray) (ys:=is2.toArray) (I.ok.hd hc) ap ⟨st.zip,st.ti,eto,⟨st.it1,p1⟩,st.it2,p2.isList⟩ (by rcases hx with q|q;exact .inl (by simp;lia);exact .inr (by simp;lia)) fun h' hk=>⟨rfl,I.turnedAll (t':=s.toks) (ch:= [z,TI,TO,i1,i2]) hf fun b o hb q=>?_⟩
  simp only[F4,FC,or_false,not_or] at hb;exact hk b o hb.1 hb.2.2.1 hb.2.2.2.1 hb.2.2.2.2 q
 self:=fun _ _ _ _ _ st h=>wpAny_pyIter_zip st.zip h
theorem DT {l n:Nat} (h:l<n):l∉ [n+4,n+2,n+3,n,n+1]:=by
 simp only[F4,FC,or_false,not_or]
 lia
def E4 (K:F0) (ta:TA):TI:=fun σ H R=>ta σ H fun vs H1=>∃l1 l2:Addr,vs= [.ref l1,.ref l2]/\(∃xs,cM K H1 l1 xs)/\(∃ys,aI K H1 l2 ys)/\R (B4 K l1 l2) H1
theorem B5 {X:Cx} {a b:Expr} {ta:TA} {elts:List Expr} {k:Nat} {tp p pos:Pos} (hg:Gl X "zip") (hm:X.mg "zip" =none) (ha:PA X [a,b] ta) (hs:starEach [a,b] X.env= [(false,eval a X.env),(false,eval b X.env)]:=by rfl) (hs2:starEach [b] X.env= [(false,eval b X.env)]:=by rfl):
  PI X (.Tuple elts k tp) (.Call (.Name "zip" p) [a,b] [] pos) (E4 X.K ta):=by
 intro pins s σ H R I h;refine Call_ (fm I hg hm boot_zip (G8 (bo (ha pos pins s σ H _ I h) fun us s1 ⟨vs,H1,I1,r1,q1⟩=>?_) (by rw[hs,hs2]) (by rw[hs2];rfl)))
 obtain ⟨l1,l2,e,⟨xs,hq1⟩,⟨ys,hq2⟩,q⟩:=q1;subst e;cases r1 with
 |cons r rr=>
  cases rr with
  |cons r' rr=>
   cases rr;cases r;cases r';obtain ⟨is1,rv1,p1,hz1⟩:=I1.tuple hq1;obtain ⟨is2,rv2,p2,hz2⟩:=I1.list hq2;refine xG p1 p2.isList fun h' S hk=>?_
   obtain ⟨hz,hti,hto,⟨hi1,_⟩,hi2,_⟩:=S;refine wpAny_pyIter_zip (s:={s1 with heap:=h'}) hz ?_
   have I2:aJ X pins σ H1 {s1 with heap:=h'}:=I1.kept (t':=s1.toks) hk
   have l1s:l1<s1.heap.objs.size:=p1.lt;refine ⟨s1.heap.objs.size+4,[s1.heap.objs.size+4,s1.heap.objs.size+2,s1.heap.objs.size+3,s1.heap.objs.size,s1.heap.objs.size+1],_,_,H1,rfl,I2,xH l1 l2 _ _ _ _ _ (zD _) (DT l1s),⟨hz,hti,⟨_,_,hto⟩,hi1,hi2⟩,fun b hb=>?_,q⟩
   have bl:s1.heap.objs.size<=b:=by
    simp only[F4,FC,or_false] at hb;rcases hb with q|q|q|q|q<;>rw[q]<;>first|exact F5 _|exact Nat.le_add_right _ _
   exact I1.fpOk bl (I1.hok.fresh bl)
theorem zW {K:F0} {l1 l2:Addr} {xs ys:List V} {g:TG} {tb:TS} {D:Ends} {σ:St} {H:Hp} (Pv:Nat->St->Hp->Prop) (h0:Pv 0 σ H) (hl:∀i σ H,i<=min xs.length ys.length->Pv i σ H->cM K H l1 xs/\aI K H l2 ys)
  (hs:∀i x y σ H (T:Addr),xs[i]?=some x->ys[i]?=some y->Pv i σ H->H T=none->g (.ref T) σ (aL H T (.tup [x,y])) fun σ2 H2=>tb {D with nx:=Pv (i+1),ct:=Pv (i+1),bk:=D.nx} σ2 H2) (hd:∀σ H,Pv (min xs.length ys.length) σ H->D.nx σ H):
  ∃W:Nat->Nat->St->Hp->Prop,(∃m,W 0 m σ H)/\∀i m σ H,W i m σ H->
   ((B4 K l1 l2).stop i H/\D.nx σ H)∨((B4 K l1 l2).go i H/\∃N:St->Hp->Prop,(∀σ' H',N σ' H'->∃m',m'<m/\W (i+1) m' σ' H')/\∀x H',(B4 K l1 l2).yld i H x H'->g x σ H' fun σ2 H2=>tb {D with nx:=N,ct:=N,bk:=D.nx} σ2 H2):=by
 refine ⟨fun i m σ H=>m=min xs.length ys.length-i/\i<=min xs.length ys.length/\Pv i σ H,⟨min xs.length ys.length,by simp,G7 _,h0⟩,?_⟩
 rintro i m σ H ⟨rfl,hi,p⟩;obtain ⟨q1,q2⟩:=hl i σ H hi p
 by_cases hlt:i<min xs.length ys.length
 ·refine .inr ⟨⟨xs,ys,xs[i]'(by lia),ys[i]'(by lia),q1,q2,F6 _,F6 _⟩,Pv (i+1),fun σ' H' p'=>⟨min xs.length ys.length-(i+1),by lia,rfl,by lia,p'⟩,fun x H' y=>?_⟩
  obtain ⟨T,a,b,rfl,nT,ha,hb,rfl⟩:=y;exact hs i a b σ H T (ha xs q1) (hb ys q2) p nT
 ·have e:i=min xs.length ys.length:=by lia
  subst e;exact .inl ⟨⟨xs,ys,q1,q2,by lia⟩,hd σ H p⟩
end L2
namespace Sw
open PySem L2 XH Hm PySem.NumText
theorem rL (s:Str) (ws:J4):Txt.join s ws=Str.join s ws:=StrLaws.glued_eq_join s ws
end Sw
namespace L2
open PySem
end L2
namespace Sw
open PySem L2 XH Hm PySem.NumText
end Sw
namespace L2
open PySem PySem.Spec PyProof.Rows XH Sw
end L2
namespace Sw
open PySem L2 XH Hm PySem.NumText
theorem ot {ws:J4} (ne:ws≠ []) (h:∀w∈ws,10∉sL w):Txt.split (Txt.join fC ws) fC=ws:=by
 unfold fC;rw[rL];exact iI ne h
inductive Fv where
 |nm (z:Str)
 |num (n:Nat)
 |am (a:dM)
def yL:RA Fv:=fun P H v x=>match x with
 | .nm z=>v= .str z
 | .num n=>v=vN n
 | .am a=>∃t,v= .ref t/\P t/\H t=some (.tup (yI a))
instance:Mv yL where
 mv:=fun {P P' H H' v x} g h=>by
  cases x with
  |nm z=>exact h
  |num n=>exact h
  |am a=>
   obtain ⟨t,e1,p,e2⟩:=h;exact ⟨t,e1,(g t _ p rfl e2).1,(g t _ p rfl e2).2⟩
noncomputable def ou:List (Str×(Nat×Nat)):= [("plates",(1,1000)),("length",(1,100000)),("many",(1,8)),("heat",(0,1000)),("turns",(0,100000)),("course",(1,8)),("parts",(0,400)),("low",(0,1000000000000000))]
noncomputable def xI:List (Str×List V):=ou.map fun p=>(p.1,[vN p.2.1,vN p.2.2])
noncomputable def b4:List (Str×J4):= [("dish",["name","plates"]),("take",["name","amount"]),("cut",["name","length","length"]),("rest",["name","length","length"]),("warm",["name","length","length","amount"]),("or",["name","length","length"]),("with",["name","name","many","heat"]),("orwith",["name","name","many","heat"]),("after",["name","name"]),("within",["name","name","turns"]),("apart",["name","name"])]
noncomputable def gb:List (Str×List V):=b4.map fun p=>(p.1,p.2.map V.str)
open Classical in
noncomputable def ow (w:Str):Option dM:=if h:∃a:dM,Reads (sL w) a.1 a.2/\1<=a.1 then some h.choose else none
theorem lM {w:Str} {a:dM} (h:Reads (sL w) a.1 a.2) (p:1<=a.1):ow w=some a:=by
 have ex:∃a:dM,Reads (sL w) a.1 a.2/\1<=a.1:=⟨a,h,p⟩;unfold ow;rw[dif_pos ex];have:=gK ex.choose_spec.1 h;exact congrArg some (Prod.ext this.1 this.2)
theorem jf {w:Str} (h:∀a:dM,Reads (sL w) a.1 a.2->¬1<=a.1):ow w=none:=by
 unfold ow;rw[dif_neg];rintro ⟨a,h1,h2⟩;exact h a h1 h2
noncomputable def kO (w:Str) (lo hi:Nat):Option Nat:=if zN (sL w)=true/\lo<=digitsVal (sL w)/\digitsVal (sL w)<=hi then some (digitsVal (sL w)) else none
noncomputable def aR (f w:Str):Option Fv:=if f= "name" then (if Ba w=true then some (.nm w) else none) else if f= "amount" then (ow w).map .am else match ou.lookup f with
 |some b=>(kO w b.1 b.2).map .num
 |none=>none
noncomputable def bW:J4->J4->Option (List Fv)
 | [],[]=>some []
 |f::fs,w::ws=>match aR f w,bW fs ws with
  |some v,some vs=>some (v::vs)
  |_,_=>none
 |_,_=>none
noncomputable def cz (w:Str) (vs:List Fv):Bool:=match vs with
 | .nm _:: .num lo:: .num hi::_=> !(decide (w= "or" ∨w= "cut" ∨w= "rest" ∨w= "warm"))||decide (lo<=hi)
 | .nm a:: .nm b::_=> !(decide (w= "after" ∨w= "within" ∨w= "apart"))||decide (a≠b)
 |_=>true
noncomputable def dY (z:Str):Option (Str×List Fv):=if Str.empty∈Txt.split z cv then none else match Txt.split z cv with
 | []=>none
 |w::rest=>match b4.lookup w with
  |none=>none
  |some fs=>match bW fs rest with
   |none=>none
   |some vs=>if cz w vs=true then some (w,vs) else none
noncomputable def vG:Option dM->List Fv
 |none=> []
 |some a=> [.am a]
noncomputable def qg:Rr->Str×List Fv
 | .take g a=>("take",[.nm g,.am a])
 | .step w n lo hi f=>(w,[.nm n,.num lo,.num hi]++vG f)
 | .sec n lo hi=>("or",[.nm n,.num lo,.num hi])
 | .use o n u=>(if o=true then "orwith" else "with",[.nm n,.nm u.1,.num u.2.1,.num u.2.2])
 | .link w a b t=>(w,[.nm a,.nm b]++if w= "within" then [.num t] else [])
theorem aQ {z:Str} (h:Nm z):aR "name" z=some (.nm z):=by
 unfold aR;rw[if_pos rfl,if_pos ((iN z).mpr h)]
theorem oz {a:dM} (h:zP a):aR "amount" (nA a)=some (.am a):=by
 unfold aR;rw[if_neg (by decide),if_pos rfl,lM (a:=a) (by unfold nA;rw[aT];exact h.rd) h.pos]
 rfl
theorem zX {n lo hi:Nat} (h1:lo<=n) (h2:n<=hi) (h3:n<=999999999):kO (aA n) lo hi=some n:=by
 unfold kO aA;rw[aT,my];have dl:=j9 (n:=n) (k:=8) (by lia)
 rw[if_pos];refine ⟨(kh _).mpr ?_,h1,h2⟩;have:=ka (fZ (n:=n) (by lia))
 unfold xr;refine ⟨?_,by lia,?_,c5 n⟩
 ·have:=q8 n;have:=List.length_pos_iff.mpr this
  lia
 ·by_cases c:(dg n).head?=some 48
  ·have:=q9 n c;subst this;exact .inr mC
  ·exact .inl c
theorem cn {f:Str} {n lo hi:Nat} (hf:ou.lookup f=some (lo,hi)) (n1:f≠ "name") (n2:f≠ "amount") (h1:lo<=n) (h2:n<=hi) (h3:n<=999999999):aR f (aA n)=some (.num n):=by
 unfold aR;rw[if_neg n1,if_neg n2,hf];show (kO (aA n) lo hi).map Fv.num=_;rw[zX h1 h2 h3]
 rfl
theorem aH {f w:Str} {fs ws:J4} {v:Fv} {vs:List Fv} (h:aR f w=some v) (k:bW fs ws=some vs):bW (f::fs) (w::ws)=some (v::vs):=by
 show (match aR f w,bW fs ws with|some v,some vs=>some (v::vs)|_,_=>none)=_
 rw[h,k]
def Wb (w:Str):Prop:=32∉sL w/\w≠ ""
theorem bQ {z:Str} (h:Nm z):Wb z:=⟨fun m=>by have:=h.2.2 32 m;lia,fun e=>by rw[e] at h;exact absurd h.1 (by decide)⟩
theorem bA (n:Nat):Wb (aA n):=⟨rn (by decide),fun e=>by
 have:=congrArg sL e;unfold aA at this;rw[aT] at this;exact q8 n this⟩
theorem yM {a:dM} (h:zP a):Wb (nA a):=by
 have no:∀c∈dv a.1 a.2,43<=c:=fun c hc=>by
  unfold dv at hc;have dd:∀n c,c∈dg n->43<=c:=fun n c h=>by have:=(c5 n c h).1;lia
  split at hc
  ·exact dd _ c hc
  ·split at hc
   ·rcases FM.mp hc with h|h
    ·exact dd _ c h
    ·rcases F4.mp h with rfl|h
     ·decide
     ·exact dd _ c h
   ·rcases FM.mp hc with h|h
    ·exact dd _ c h
    ·rcases F4.mp h with rfl|h
     ·decide
     ·rcases FM.mp h with h|h
      ·exact dd _ c h
      ·rcases F4.mp h with rfl|h
       ·decide
       ·exact dd _ c h
 refine ⟨fun m=>?_,fun e=>?_⟩
 ·unfold nA at m;rw[aT] at m;have:=no 32 m
  lia
 ·have e1:=congrArg sL e;unfold nA at e1;rw[aT] at e1;have e0:dv a.1 a.2= []:=e1;obtain ⟨n,m,hl,_⟩:=h.rd.ex;rw[e0] at hl;have:di []=none:=by
   unfold di cT cS;rw[if_neg (by simp),if_neg (by simp),gJ (fun f=>absurd f.1 (by decide))]
  rw[this] at hl;cases hl
theorem kr {ws:J4} (ne:ws≠ []) (h:∀w∈ws,Wb w):Txt.split (jB ws) cv=ws/\Str.empty∉ws:=by
 refine ⟨?_,fun m=>(h _ m).2 rfl⟩
 unfold jB cv;rw[rL];exact iI ne fun w hw=>(h w hw).1
theorem eK {w:Str} {rest fs:J4} {vs:List Fv} (h:∀x∈w::rest,Wb x) (hf:b4.lookup w=some fs) (hv:bW fs rest=some vs) (ha:cz w vs=true):dY (jB (w::rest))=some (w,vs):=by
 obtain ⟨e,n⟩:=kr (ws:=w::rest) (by simp) h
 unfold dY;rw[e,if_neg n];simp only[hf,hv,ha,if_true]
theorem fP {w:Str} (h:Ba w=true):Wb w:=bQ ((iN w).mp h)
theorem jg {n:Str} {p:Nat} (h:Nm n) (p1:1<=p) (p2:p<=1000):dY (aZ n p)=some (Str.ofString "dish",[Fv.nm n,Fv.num p]):=by
 refine eK (fs:= ["name","plates"]) (fun x hx=>?_) (by decide) (aH (aQ h) (aH (cn (lo:=1) (hi:=1000) (by decide) (by decide) (by decide) p1 p2 (by lia)) rfl)) rfl
 simp only[F4,FC,or_false] at hx;rcases hx with rfl|rfl|rfl
 ·exact fP (by decide+kernel)
 ·exact bQ h
 ·exact bA p
theorem rM {r:Rr} (h:eD r):dY (bD r)=some (qg r):=by
 have LN:∀{n:Nat},1<=n->n<=100000->aR "length" (aA n)=some (.num n):=fun h1 h2=>cn (lo:=1) (hi:=100000) (by decide) (by decide) (by decide) h1 h2 (by lia)
 cases r with
 |take g a=>
  obtain ⟨h1,h2⟩:=h;refine eK (fs:= ["name","amount"]) (fun x hx=>?_) (by decide) (aH (aQ h1) (aH (oz h2) rfl)) rfl
  simp only[F4,FC,or_false] at hx;rcases hx with rfl|rfl|rfl
  ·exact fP (by decide+kernel)
  ·exact bQ h1
  ·exact yM h2
 |step w n lo hi f=>
  obtain ⟨h1,h2,⟨l1,l2,l3⟩,h4⟩:=h;have lo1:=LN (n:=lo) l1 (by lia)
  have hi1:=LN (n:=hi) (by lia) l3
  have wb:Wb w:=by rcases h1 with rfl|rfl|rfl<;>exact fP (by decide+kernel)
  cases f with
  |none=>
   have h4:w≠ "warm" :=h4;have hw:w= "cut" ∨w= "rest" :=by
    rcases h1 with e|e|e
    ·exact .inl e
    ·exact .inr e
    ·exact absurd e h4
   refine eK (fs:= ["name","length","length"]) (rest:= [n,aA lo,aA hi]) (fun x hx=>?_) (by rcases hw with rfl|rfl<;>decide) (aH (aQ h2) (aH lo1 (aH hi1 rfl))) (by simp[cz,l2])
   simp only[F4,FC,or_false] at hx;rcases hx with rfl|rfl|rfl|rfl
   ·exact wb
   ·exact bQ h2
   ·exact bA lo
   ·exact bA hi
  |some a=>
   obtain ⟨rfl,h5⟩:=h4;refine eK (fs:= ["name","length","length","amount"]) (rest:= [n,aA lo,aA hi,nA a]) (fun x hx=>?_) (by decide) (aH (aQ h2) (aH lo1 (aH hi1 (aH (oz h5) rfl)))) (by simp[cz,l2])
   simp only[F4,FC,or_false] at hx;rcases hx with rfl|rfl|rfl|rfl|rfl
   ·exact wb
   ·exact bQ h2
   ·exact bA lo
   ·exact bA hi
   ·exact yM h5
 |sec n lo hi=>
  obtain ⟨h2,⟨l1,l2,l3⟩⟩:=h;refine eK (fs:= ["name","length","length"]) (fun x hx=>?_) (by decide) (aH (aQ h2) (aH (LN l1 (by lia)) (aH (LN (by lia) l3) rfl))) (by simp[cz,l2])
  simp only[F4,FC,or_false] at hx;rcases hx with rfl|rfl|rfl|rfl
  ·exact fP (by decide+kernel)
  ·exact bQ h2
  ·exact bA lo
  ·exact bA hi
 |use o n u=>
  obtain ⟨h1,h2,h3,h4,h5⟩:=h;have hw:(if o=true then Str.ofString "orwith" else Str.ofString "with")= "orwith" ∨(if o=true then Str.ofString "orwith" else Str.ofString "with")= "with" :=by cases o<;>simp
  show dY (jB [if o=true then Str.ofString "orwith" else Str.ofString "with",n,u.1,aA u.2.1,aA u.2.2])=some (if o=true then Str.ofString "orwith" else Str.ofString "with",_)
  generalize (if o=true then Str.ofString "orwith" else Str.ofString "with")=w at hw
  refine eK (fs:= ["name","name","many","heat"]) (fun x hx=>?_) (by rcases hw with rfl|rfl<;>decide) (aH (aQ h1) (aH (aQ h2) (aH (cn (lo:=1) (hi:=8) (by decide) (by decide) (by decide) h3 h4 (by lia)) (aH (cn (lo:=0) (hi:=1000) (by decide) (by decide) (by decide) (by lia) h5 (by lia)) rfl)))) (by rcases hw with rfl|rfl<;>(unfold cz;simp;exact .inl (by decide)))
  simp only[F4,FC,or_false] at hx;rcases hx with rfl|rfl|rfl|rfl|rfl
  ·rcases hw with rfl|rfl<;>exact fP (by decide+kernel)
  ·exact bQ h1
  ·exact bQ h2
  ·exact bA _
  ·exact bA _
 |link w a b t=>
  obtain ⟨h1,h2,h3,h4,h5,h6⟩:=h;have wb:Wb w:=by rcases h1 with rfl|rfl|rfl<;>exact fP (by decide+kernel)
  show dY (jB (f9 w a b t))=some (w,[.nm a,.nm b]++if w= "within" then [.num t] else [])
  unfold f9
  by_cases c:w= "within"
  ·subst c;rw[if_pos rfl,if_pos rfl];refine eK (fs:= ["name","name","turns"]) (rest:= [a,b,aA t]) (fun x hx=>?_) (by decide) (aH (aQ h2) (aH (aQ h3) (aH (cn (lo:=0) (hi:=100000) (by decide) (by decide) (by decide) (by lia) h5 (by lia)) rfl))) (by simp[cz,h4])
   simp only[F4,FC,or_false] at hx;rcases hx with rfl|rfl|rfl|rfl
   ·exact wb
   ·exact bQ h2
   ·exact bQ h3
   ·exact bA t
  ·rw[if_neg c,if_neg c];have hw:w= "after" ∨w= "apart" :=by
    rcases h1 with e|e|e
    ·exact .inl e
    ·exact absurd e c
    ·exact .inr e
   refine eK (fs:= ["name","name"]) (rest:= [a,b]) (fun x hx=>?_) (by rcases hw with rfl|rfl<;>decide) (aH (aQ h2) (aH (aQ h3) rfl)) (by simp[cz,h4])
   simp only[F4,FC,or_false] at hx;rcases hx with rfl|rfl|rfl
   ·exact wb
   ·exact bQ h2
   ·exact bQ h3
end Sw
namespace L2
open PySem PySem.Spec PyProof.Rows XH Sw
def Mx (K:F0) (H:Hp) (v:V):Prop:=v= .non∨(∃z,v= .str z)∨(∃i,v= .int i)∨∃a ys,v= .ref a/\cM K H a ys
theorem vH {K:F0} {H:Hp}:∀{xs:List V} {us:J6},aV xs us->(∀v∈xs,Mx K H v)->us.any mO=decide (V.non∈xs)
 | [],[],.nil,_=>rfl
 |x::xs,u::us,.cons r t,h=>by
  rw[List.any_cons,vH t fun v hv=>h v (F8 _ hv)]
  rcases h x FW with rfl|⟨z,rfl⟩|⟨i,rfl⟩|⟨a,_,rfl,_⟩
  ·cases r;simp[mO]
  ·obtain ⟨_,rfl⟩:=r;simp[mO]
  ·obtain ⟨_,rfl⟩:=r;simp[mO]
  ·cases r;simp[mO]
theorem yN {X:Cx} {pins:J1} {σ:St} {H:Hp} {s:Shared} (I:aJ X pins σ H s) {A:Around} (hu:A.units<cLine):∀{xs:List V} {us:J6},aV xs us->(∀v∈xs,Mx X.K H v)->∀u∈us,SeqAt.EqAt A s u .none (mO u)
 | [],[],.nil,_=>fun u hu=>by cases hu
 |x::xs,u::us,.cons r t,h=>fun u' hu'=>by
  rcases F4.mp hu' with rfl|hu'
  ·rcases h x FW with rfl|⟨z,rfl⟩|⟨i,rfl⟩|⟨a,ys,rfl,k⟩
   ·cases r;exact SeqAt.EqAt.same _
   ·obtain ⟨_,rfl⟩:=r;exact SeqAt.EqAt.str_none _ _
   ·obtain ⟨_,rfl⟩:=r;exact SeqAt.EqAt.int_none _ _
   ·cases r;obtain ⟨its,_,pl,_⟩:=I.tuple k;exact SeqAt.EqAt.tuple_none pl hu
  ·exact yN I hu t (fun v hv=>h v (F8 _ hv)) u' hu'
theorem xJ {X:Cx} (hu:X.A.units+1<cLine):i0 X (compareOp .In) (fun x y H Q=>∃(p:Addr) (xs:List V),x= .non/\y= .ref p/\aI X.K H p xs/\(∀v∈xs,Mx X.K H v)/\Q (.bl (decide (V.non∈xs))) H):=by
 intro pins s σ H x y v u Q I rx ry h;obtain ⟨p,xs,rfl,rfl,hS,hx,q⟩:=h;cases rx;cases ry;obtain ⟨its,r,pl,hz⟩:=I.list hS;refine SeqAt.in_listAt mO pl.isList (fun w hw=>yN I (by first|lia|(show X.A.units+1<cLine;lia)) r hx w (by simpa using hw)) ⟨.bl _,H,I,rfl,?_⟩
 rw[show its.toArray.any mO=its.any mO by simp,vH r hx]
 exact q
end L2
namespace Sw
open PySem L2 XH Hm PySem.NumText
def lN:Sp:=fun vs H Q _=>∃w:Str,vs= [.str w,.int 1]/\w.length<=10000/\(ow w=none->∀H',ax H H'->Q .non H')/\∀a:dM,ow w=some a->∀(t:Addr) (H':Hp),ax H H'->H' t=some (.tup (yI a))->Q (.ref t) H'
def vI (f:Str):Prop:=f= "name" ∨f= "amount" ∨(f≠ "name" /\f≠ "amount" /\f≠ "stock" /\∃b,ou.lookup f=some b)
def lO:Sp:=fun vs H Q _=>∃f w:Str,vs= [.str f,.str w]/\w.length<=10000/\vI f/\(aR f w=none->∀H',ax H H'->Q .non H')/\∀v:Fv,aR f w=some v->∀(x:V) (H':Hp),ax H H'->yL An H' x v->Q x H'
def LV (H:Hp) (l:Addr) (w:Str) (vs:List Fv):Prop:=∃us,H l=some (.lst (.str w::us))/\A2 (yL An H) us vs
theorem LV.same {H H':Hp} {l:Addr} {w:Str} {vs:List Fv} (h:LV H l w vs) (g:ax H H'):LV H' l w vs:=by
 obtain ⟨us,e,r⟩:=h;exact ⟨us,g _ _ e,r.imp fun _ _ q=>BY q g⟩
def kt (K:F0):Sp:=fun vs H Q _=>∃(t l:Addr) (fs:J4) (w:Str) (rest:J4),vs= [.ref t,.ref l]/\mP K t (fs.map V.str)/\H l=some (.lst ((w::rest).map V.str))/\DK (w::rest)/\(∀f∈fs,vI f)/\fs.length<=10/\(bW fs rest=none->∀H',ax H H'->Q .non H')/\∀us,bW fs rest=some us->∀(p:Addr) (H':Hp),ax H H'->H p=none->LV H' p w us->Q (.ref p) H'
theorem zY:(xI.map fun p=>p.1).Nodup:=by decide+kernel
theorem oA:(gb.map fun p=>p.1).Nodup:=by decide+kernel
theorem fD {α β:Type} (g:α->β):∀(l:List (Str×α)) (k:Str),(l.map fun p=>(p.1,g p.2)).lookup k=(l.lookup k).map g
 | [],_=>rfl
 |(a,b)::l,k=>by
  rw[FZ,List.lookup_cons,List.lookup_cons];cases k==a with
  |true=>rfl
  |false=>exact fD g l k
theorem xK {f:Str} {b:Nat×Nat} (h:ou.lookup f=some b):xI.lookup f=some [vN b.1,vN b.2]:=by
 unfold xI;rw[fD (fun b:Nat×Nat=> [vN b.1,vN b.2]),h]
 rfl
theorem tF {w:Str} {fs:J4} (h:b4.lookup w=some fs):gb.lookup w=some (fs.map V.str):=by
 unfold gb;rw[fD (fun b:J4=>b.map V.str),h]
 rfl
theorem oB (w:Str):(gb.lookup w).isSome=(b4.lookup w).isSome:=by
 unfold gb;rw[fD (fun b:J4=>b.map V.str),Option.isSome_map]
theorem vJ {w:Str} {fs:J4} (h:b4.lookup w=some fs):(∀f∈fs,vI f)/\fs.length<=10:=by
 have all:∀p∈b4,(∀f∈p.2,f= "name" ∨f= "amount" ∨f= "plates" ∨f= "length" ∨f= "many" ∨f= "heat" ∨f= "turns")/\p.2.length<=10:=by decide+kernel
 have m:∀(l:List (Str×J4)),l.lookup w=some fs->(w,fs)∈l:=by
  intro l
  induction l with
  |nil=>intro h;cases h
  |cons p l ih=>
   intro h;rw[List.lookup_cons] at h;cases c:(w==p.1) with
   |true=>
    rw[c] at h;have e:w=p.1:=by simpa using c
    cases h;rw[e];exact FW
   |false=>
    rw[c] at h;exact F8 _ (ih h)
 obtain ⟨h1,h2⟩:=all _ (m _ h);refine ⟨fun f hf=>?_,h2⟩
 rcases h1 f hf with e|e|e|e|e|e|e
 ·exact .inl e
 ·exact .inr (.inl e)
 all_goals
  subst e;exact .inr (.inr ⟨by decide,by decide,by decide,Fd.mp (by decide+kernel)⟩)
noncomputable def gf (fs ws:J4):List (Option Fv):=(fs.zip ws).map fun p=>aR p.1 p.2
theorem lP:∀{fs ws:J4},fs.length≠ws.length->bW fs ws=none
 | [],[],h=>absurd rfl h
 | [],_::_,_=>rfl
 |_::_,[],_=>rfl
 |f::fs,w::ws,h=>by
  have z:=lP (fs:=fs) (ws:=ws) fun e=>h (by simp[e])
  show (match aR f w,bW fs ws with|some v,some vs=>some (v::vs)|_,_=>none)=none
  rw[z];cases aR f w<;>rfl
theorem io:∀{fs ws:J4},fs.length=ws.length->(none∈gf fs ws/\bW fs ws=none)∨∃us,bW fs ws=some us/\gf fs ws=us.map some
 | [],[],_=> .inr ⟨[],rfl,rfl⟩
 |f::fs,w::ws,h=>by
  have e:bW (f::fs) (w::ws)=(match aR f w,bW fs ws with|some v,some vs=>some (v::vs)|_,_=>none):=rfl
  have eo:gf (f::fs) (w::ws)=aR f w::gf fs ws:=rfl;rw[e,eo];rcases io (fs:=fs) (ws:=ws) (by simpa using h) with ⟨m,z⟩|⟨us,z,o⟩
  ·rw[z];exact .inl ⟨F8 _ m,by cases aR f w<;>rfl⟩
  ·rw[z,o];cases aR f w with
   |none=>exact .inl ⟨FW,rfl⟩
   |some v=>exact .inr ⟨v::us,rfl,rfl⟩
def rN (H:Hp) (x:V) (v:Option Fv):Prop:=match v with|none=>x= .non|some v=>yL An H x v
theorem rN.same {H H':Hp} {x:V} {v:Option Fv} (h:rN H x v) (g:ax H H'):rN H' x v:=by
 cases v with
 |none=>exact h
 |some v=>exact BY (R:=yL) h g
theorem rN.upd {H:Hp} {x:V} {v:Option Fv} {l:Addr} {xs:List V} {o:HO} (h:rN H x v) (e:H l=some (.lst xs)):rN (aL H l o) x v:=by
 cases v with
 |none=>exact h
 |some v=>cases v with
  |am a=>
   obtain ⟨t,rfl,q,k⟩:=h;refine ⟨t,rfl,q,?_⟩;rw[ar fun z=>by rw[z,e] at k;cases k]
   exact k
  |_=>exact h
theorem rN.mx {K:F0} {H:Hp} {x:V} {v:Option Fv} (h:rN H x v):Mx K H x/\(x= .non↔v=none):=by
 cases v with
 |none=>exact ⟨.inl h,iff_of_true h rfl⟩
 |some v=>cases v with
  |am a=>
   obtain ⟨t,rfl,q,k⟩:=h;exact ⟨.inr (.inr (.inr ⟨t,ν,.of k⟩)),iff_of_false (fun z=>by cases z) (fun z=>by cases z)⟩
  |nm z=>
   cases h;exact ⟨.inr (.inl ⟨ν⟩),iff_of_false (fun z=>by cases z) (fun z=>by cases z)⟩
  |num n=>
   cases h;exact ⟨.inr (.inr (.inl ⟨ν⟩)),iff_of_false (fun z=>by cases z) (fun z=>by cases z)⟩
theorem B6 {H:Hp} {xs:List V} {us:List Fv} (h:A2 (rN H) xs (us.map some)):A2 (yL An H) xs us:=⟨by rw[h.1,F7],fun i v x e1 e2=>h.2 i v (some x) e1 (by rw[FG,e2];rfl)⟩
theorem vK {H:Hp} {xs:List V} {os:List (Option Fv)} (h:A2 (rN H) xs os):V.non∈xs↔none∈os:=by
 constructor
 ·intro m;obtain ⟨i,e⟩:=Ft.mp m;obtain ⟨o,eo,r⟩:=h.at_ e;exact FB ((r.mx (K:=default)).2.mp rfl▸eo)
 ·intro m;obtain ⟨i,e⟩:=Ft.mp m;obtain ⟨v,ev,r⟩:=h.get e;cases r;exact FB ev
def yO (w:Str) (vs:List Fv):Prop:=((w= "or" ∨w= "cut" ∨w= "rest" ∨w= "warm")->∃n lo hi r,vs= .nm n:: .num lo:: .num hi::r)/\((w= "after" ∨w= "within" ∨w= "apart")->∃a b r,vs= .nm a:: .nm b::r)
theorem dy {f:Str} {fs ws:J4} {vs:List Fv} (h:bW (f::fs) ws=some vs):∃w ws' v vs',ws=w::ws'/\aR f w=some v/\bW fs ws'=some vs'/\vs=v::vs':=by
 cases ws with
 |nil=>cases h
 |cons w ws=>
  have h':(match aR f w,bW fs ws with|some v,some vs=>some (v::vs)|_,_=>none)=some vs:=h
  cases e:aR f w with
  |none=>rw[e] at h';cases h'
  |some v=>
   cases e':bW fs ws with
   |none=>rw[e,e'] at h';cases h'
   |some us=>
    rw[e,e'] at h';cases h';exact ⟨w,ws,v,us,rfl,e,e',rfl⟩
theorem ip {w:Str} {v:Fv} (h:aR "name" w=some v):v= .nm w:=by
 unfold aR at h;rw[if_pos rfl] at h
 split at h<;>cases h
 rfl
theorem lQ {w:Str} {v:Fv} (h:aR "length" w=some v):∃n,v= .num n:=by
 unfold aR at h;rw[if_neg (by decide),if_neg (by decide),show ou.lookup (Str.ofString "length")=some (1,100000) by decide+kernel] at h
 obtain ⟨n,_,rfl⟩:=FQ.mp h;exact ⟨n,rfl⟩
theorem vL {fs ws:J4} {vs:List Fv} (h:bW ("name" :: "length" :: "length" ::fs) ws=some vs):∃n lo hi r,vs= .nm n:: .num lo:: .num hi::r:=by
 obtain ⟨w1,ws,v1,vs,rfl,h1,k1,rfl⟩:=dy h;obtain ⟨w2,ws,v2,vs,rfl,h2,k2,rfl⟩:=dy k1;obtain ⟨w3,ws,v3,vs,rfl,h3,k3,rfl⟩:=dy k2;obtain ⟨lo,rfl⟩:=lQ h2;obtain ⟨hi,rfl⟩:=lQ h3;cases ip h1;exact ⟨_,lo,hi,vs,rfl⟩
theorem xL {fs ws:J4} {vs:List Fv} (h:bW ("name" :: "name" ::fs) ws=some vs):∃a b r,vs= .nm a:: .nm b::r:=by
 obtain ⟨w1,ws,v1,vs,rfl,h1,k1,rfl⟩:=dy h;obtain ⟨w2,ws,v2,vs,rfl,h2,k2,rfl⟩:=dy k1;cases ip h1;cases ip h2;exact ⟨_,_,vs,rfl⟩
theorem tG {w:Str} {fs ws:J4} {vs:List Fv} (h:b4.lookup w=some fs) (v:bW fs ws=some vs):yO w vs:=by
 refine ⟨fun c=>?_,fun c=>?_⟩
 ·have:∃r:J4,fs=("name" :Str)::("length" :Str)::("length" :Str)::r:=by
   rcases c with rfl|rfl|rfl|rfl
   ·exact ⟨_,FT (h.symm.trans (by decide+kernel:b4.lookup (Str.ofString "or")=some (("name" :Str):: "length" :: "length" :: [])))⟩
   ·exact ⟨_,FT (h.symm.trans (by decide+kernel:b4.lookup (Str.ofString "cut")=some (("name" :Str):: "length" :: "length" :: [])))⟩
   ·exact ⟨_,FT (h.symm.trans (by decide+kernel:b4.lookup (Str.ofString "rest")=some (("name" :Str):: "length" :: "length" :: [])))⟩
   ·exact ⟨_,FT (h.symm.trans (by decide+kernel:b4.lookup (Str.ofString "warm")=some (("name" :Str):: "length" :: "length" :: ["amount"])))⟩
  obtain ⟨r,rfl⟩:=this;exact vL v
 ·have:∃r:J4,fs=("name" :Str)::("name" :Str)::r:=by
   rcases c with rfl|rfl|rfl
   ·exact ⟨_,FT (h.symm.trans (by decide+kernel:b4.lookup (Str.ofString "after")=some (("name" :Str):: "name" :: [])))⟩
   ·exact ⟨_,FT (h.symm.trans (by decide+kernel:b4.lookup (Str.ofString "within")=some (("name" :Str):: "name" :: ["turns"])))⟩
   ·exact ⟨_,FT (h.symm.trans (by decide+kernel:b4.lookup (Str.ofString "apart")=some (("name" :Str):: "name" :: [])))⟩
  obtain ⟨r,rfl⟩:=this;exact xL v
def rO:Sp:=fun vs H Q _=>∃(l:Addr) (w:Str) (us:List Fv),vs= [.ref l]/\LV H l w us/\yO w us/\Q (.bl (cz w us)) H
theorem aS {α:Type} {R:V->α->Prop} {xs:List V} {y:α} {ys:List α} (h:A2 R xs (y::ys)):∃x xs',xs=x::xs'/\R x y/\A2 R xs' ys:=by
 cases xs with
 |nil=>exact absurd h.1 (by simp)
 |cons x xs=>exact ⟨x,xs,rfl,h.2 0 x y rfl rfl,by simpa using h.1,fun i v z e1 e2=>h.2 (i+1) v z (by simpa using e1) (by simpa using e2)⟩
theorem zZ {H:Hp} {xs:List V} {n:Str} {lo hi:Nat} {r:List Fv} (h:A2 (yL An H) xs (.nm n:: .num lo:: .num hi::r)):∃ys,xs= .str n::vN lo::vN hi::ys:=by
 obtain ⟨_,_,rfl,e1,h1⟩:=aS h;obtain ⟨_,_,rfl,e2,h2⟩:=aS h1;obtain ⟨_,ys,rfl,e3,h3⟩:=aS h2;cases e1;cases e2;cases e3;exact ⟨ys,rfl⟩
theorem B7 {H:Hp} {xs:List V} {a b:Str} {r:List Fv} (h:A2 (yL An H) xs (.nm a:: .nm b::r)):∃ys,xs= .str a:: .str b::ys:=by
 obtain ⟨_,_,rfl,e1,h1⟩:=aS h;obtain ⟨_,ys,rfl,e2,h2⟩:=aS h1;cases e1;cases e2;exact ⟨ys,rfl⟩
def ku:Sp:=fun vs H Q _=>∃z:Str,vs= [.str z]/\z.length<=1000/\(dY z=none->∀H',ax H H'->Q .non H')/\∀w us,dY z=some (w,us)->∀(p:Addr) (H':Hp),ax H H'->H p=none->LV H' p w us->Q (.ref p) H'
def fE (M:Md) (z:Str) (i:Nat):Prop:=(∃s,M.steps[i]?=some s/\s.n=z)/\∀(j:Nat) (s:SV),j<i->M.steps[j]?=some s->s.n≠z
end Sw
namespace L2
open PySem PySem.Spec PyProof.Rows
abbrev yP (v:Value):List (Str×Value):= [(Str.ofString "start",v)]
theorem Aa (a v:Value):checkTypeCall "enumerate" ⟨[a],yP v⟩=pure ():=by kernel_rfl
theorem Ab (a v:Value):checkBuiltinCall "enumerate.__new__" ⟨[.type "enumerate",a],yP v⟩=pure ():=by kernel_rfl
set_option maxHeartbeats 2000000 in
theorem tH (l:Addr) (xs:Array Value) (n:Nat) (dc:J7) (sl:J3) (t:Tok):Meets (Builtin.«enumerate.__new__» ⟨[.type "enumerate",.ref l],yP (.int 1 t)⟩) (fun _ R s=>s.heap.get? l=some {cls:= .type "list",dict:=dc,data:= .seq xs n,slots:=sl}/\R (.ok (.ret (.ref (s.heap.push {cls:= .type "list_iterator",data:= .fields #[.ref l,.int 0 0]}).objs.size))) {s with heap:=(s.heap.push {cls:= .type "list_iterator",data:= .fields #[.ref l,.int 0 0]}).push {cls:= .type "enumerate",data:= .fields #[.none,.bool false,.ref s.heap.objs.size,rawInt 1,.none,.none]}}):=
 .of_wp fun pr wo A R s h=>by
  obtain ⟨hp,g,d,tk,os⟩:=s;obtain ⟨hl,h⟩:=h;have hsub:=sub_enumerate;have hL:Heap.IsList (Shared.heap ⟨hp,g,d,tk,os⟩) l xs:=⟨_,hl,rfl,n,rfl⟩
  wp_walk using AutoSeq1.wpAny_loadPart' hl
  refine wpAny_stack_any fun st=>wpAny_pure ?_
  split
  ·rename_i c _ _ _ _ _;cases (c==Value.type "enumerate")
   all_goals
    wp_walk using AutoSeq1.wpAny_loadPart' hl,wpAny_pyIter_list hL
    exact ⟨ν,h⟩
  ·wp_walk using AutoSeq1.wpAny_loadPart' hl,wpAny_pyIter_list hL
   exact ⟨ν,h⟩
section
variable {pr:Program} {wo:World} {A:Around} {E:JY} {s:Shared}
theorem Ac (a b v:Value):argsOk "object.__init__" ⟨[a,b],yP v⟩:=by
 kernel_rfl
theorem xM {self a v:Value}:Meets (Builtin.«object.__init__» ⟨[self,a],yP v⟩) (fun _ R s=>s.TypeIs self "enumerate" /\R (.ok (.ret .none)) s):=by
 refine Meets.of_wp fun pr wo A R s ⟨hT,hq⟩=>?_
 have hl:=F.called_enumerate.init.lookup;have hm:=F.called_enumerate.made
 repeat (any_goals (first|assumption|wp_step))
 exact ⟨ν,hq⟩
theorem qh {l:Addr} {xs:Array Value} {t:Tok} {Q:JY} (hL:s.heap.IsList l xs)
  (h:∀h',IsEnum h' (s.heap.objs.size+1) s.heap.objs.size 1 .none->h'.IsListIter s.heap.objs.size l 0->h'.objs.size=s.heap.objs.size+2->(∀b o,s.heap.get? b=some o->h'.get? b=some o)->Q (.ref (s.heap.objs.size+1)) {s with heap:=h'}):
  wpAny (model pr wo) A (call (.type "enumerate") [.ref l] (yP (.int 1 t))) Q E s:=by
 obtain ⟨⟨c,dc,dt,sl⟩,hl,hc,n,hd⟩:=hL;change c= .type "list" at hc;change dt= .seq xs n at hd;subst hc hd;have ft:=F.called_enumerate;obtain ⟨c,tl,hmro⟩:=ft.mro;have hmade:=ft.made;have hsub:=ft.sub;have h1:=ft.notType;have h2:=ft.canCreate;have hct:=Aa (.ref l) (.int 1 t);refine wpAny_call (codeAny_of_tree ?_);show wpAny _ _ (callAny (.type "enumerate") _) _ _ _;refine wpAny_pure ⟨Code.quiet_builtin _ (by decide+kernel),codeAny_builtin F.entry_type_call ?_⟩
 rw[Around.under_plain (weight_type_call_type _ _ _) (units_type_call_type _ _ _)]
 repeat (any_goals (first|assumption|wp_step))
 generalize eh:(s.heap.push {cls:= .type "list_iterator",data:= .fields #[.ref l,.int 0 0]}).push {cls:= .type "enumerate",data:= .fields #[.none,.bool false,.ref s.heap.objs.size,rawInt 1,.none,.none]}=h9;have hz:(s.heap.push {cls:= .type "list_iterator",data:= .fields #[.ref l,.int 0 0]}).objs.size=s.heap.objs.size+1:=Heap.size_push ..;have kn:codeAny (model pr wo) A.in1 (Code.call (.builtin "enumerate.__new__") ⟨[.type "enumerate",.ref l],yP (.int 1 t)⟩) (fun r s1=>r= .ok (.ret (.ref (s.heap.objs.size+1)))/\s1={s with heap:=h9}) s:=
  codeAny_call_builtin ft.plain F.entry_enumerate_new (wpAny_of_eq (Ab (.ref l) (.int 1 t)) (tH l xs n dc sl t pr wo A.in1 (fun r s1=>r= .ok (.ret (.ref (s.heap.objs.size+1)))/\s1={s with heap:=h9}) s ⟨hl,by rw[hz],by rw[eh]⟩))
 refine codeAny_mono kn fun r s1 hr=>?_
 obtain ⟨rfl,rfl⟩:=hr;have he:IsEnum h9 (s.heap.objs.size+1) s.heap.objs.size 1 .none:=by
  have k:=Heap.get?_push_size (s.heap.push {cls:= .type "list_iterator",data:= .fields #[.ref l,.int 0 0]}) (o:={cls:= .type "enumerate",data:= .fields #[.none,.bool false,.ref s.heap.objs.size,rawInt 1,.none,.none]}) rfl;rw[hz,eh] at k;exact k
 have hT:Shared.TypeIs {s with heap:=h9} (.ref (s.heap.objs.size+1)) "enumerate" :=⟨_,he,rfl⟩
 have hli:=ft.init.lookup;have hbi:=ft.init.bind (.ref (s.heap.objs.size+1))
 repeat (any_goals (first|assumption|wp_step))
 have ki:codeAny (model pr wo) A.in1 (Code.call (.builtin "object.__init__") ⟨[.ref (s.heap.objs.size+1),.ref l],yP (.int 1 t)⟩) (fun r s1=>r= .ok (.ret .none)/\s1={s with heap:=h9}) {s with heap:=h9}:=
  codeAny_call_builtin ft.init.plain F.entry_object_init (ft.init.check _ _ _ _ _ _ _ _ hT (Ac _ _ _) (xM (a:= .ref l) (v:= .int 1 t) pr wo A.in1 (fun r s1=>r= .ok (.ret .none)/\s1={s with heap:=h9}) {s with heap:=h9} ⟨hT,rfl,rfl⟩))
 refine codeAny_mono ki fun r s1 hr=>?_
 obtain ⟨rfl,rfl⟩:=hr
 repeat (any_goals (first|assumption|wp_step))
 refine h h9 he ?_ ?_ fun b o x=>?_
 ·rw[<-eh];exact ⟨_,Heap.get?_push_of_some _ (Heap.get?_push_size _ rfl),rfl,rfl⟩
 ·rw[<-eh,Heap.size_push,hz]
 ·rw[<-eh];exact Heap.get?_push_of_some _ (Heap.get?_push_of_some _ x)
theorem qi {e it l:Addr} {i:Nat} {j:Int} {xs:Array Value} {x o0:Value} {Q:J8->Shared->Prop} (he:IsEnum s.heap e it j o0) (hi:s.heap.IsListIter it l i) (hl:s.heap.IsList l xs) (hx:xs[i]?=some x) (ne:e≠it)
  (q:∀h',IsEnumOut h' e it (j+1) x s.heap.objs.size->h'.IsListIter it l (i+1)->h'.get? s.heap.objs.size=some {cls:= .type "tuple",data:= .seq #[.int j s.toks,x]}->h'.objs.size=s.heap.objs.size+1->(∀b o,b≠e->b≠it->s.heap.get? b=some o->h'.get? b=some o)->Q (some (.ref s.heap.objs.size)) {s with heap:=h',toks:=s.toks+1}):
  wpAny (model pr wo) A (pyNext (.ref e)) Q E s:=by
 have ty:s.TypeIs (.ref e) "enumerate" :=⟨_,he,rfl⟩;unfold pyNext;refine wpAny_bind (wpAny_attempt (wpAny_callSpecial?_slot (name:=Str.ofString "__next__") ty F.slot_enumerate_next (wpAny_call_entry F.slot_enumerate_next ty F.entry_enumerate_next ?_ (F.args_enumerate_next_1 _))));obtain ⟨p0,g,d,tk,os⟩:=s;show wpAny _ _ (field (.ref e) 2>>=fun _=>_) _ _ _
 refine wpAny_bind (wpAny_field he rfl (x:= .ref it) rfl (wpAny_bind (wpAny_nextOf_list_item hi hl hx fun pa ia (ba:Heap.SameBut it p0 pa)=>?_)))
 have ea:IsEnum pa e it j o0:=(ba.2 e ne).trans he;show wpAny _ _ (field (.ref e) 3>>=fun _=>_) _ _ ⟨pa,g,d,tk,os⟩
 refine wpAny_bind (wpAny_field ea rfl (x:=rawInt j) rfl ?_);show wpAny _ _ (field (.ref e) 4>>=fun _=>_) _ _ ⟨pa,g,d,tk,os⟩
 refine wpAny_bind (wpAny_field ea rfl (x:= .none) rfl ?_);show wpAny _ _ (mkInt j>>=fun _=>_) _ _ ⟨pa,g,d,tk,os⟩
 refine wpAny_bind (wpAny_mkInt ?_);show wpAny _ _ (setField (.ref e) 3 (rawInt (j+1))>>=fun _=>_) _ _ ⟨pa,g,d,tk+1,os⟩
 refine wpAny_bind (wpAny_setField_rec ea (by simp) fun pb (eb:IsEnum pb e it (j+1) o0) (bb:Heap.SameBut e pa pb)=>?_)
 show wpAny _ _ (setField (.ref e) 4 .none>>=fun _=>_) _ _ ⟨pb,g,d,tk+1,os⟩
 refine wpAny_bind (wpAny_setField_rec eb (by simp) fun pc (ec:IsEnum pc e it (j+1) o0) (bc:Heap.SameBut e pb pc)=>?_)
 show wpAny _ _ (newTuple [.int j tk,x]>>=fun _=>_) _ _ ⟨pc,g,d,tk+1,os⟩
 refine wpAny_bind (wpAny_newTuple ?_);have ed:IsEnum (pc.push {cls:= .type "tuple",data:= .seq #[.int j tk,x]}) e it (j+1) o0:=Heap.get?_push_of_some _ ec;have sz:pc.objs.size=p0.objs.size:=by rw[bc.1,bb.1,ba.1]
 have td:(pc.push {cls:= .type "tuple",data:= .seq #[.int j tk,x]}).get? p0.objs.size=some {cls:= .type "tuple",data:= .seq #[.int j tk,x]}:=by rw[<-sz];exact Heap.get?_push_size _ rfl
 have zd:(pc.push {cls:= .type "tuple",data:= .seq #[.int j tk,x]}).objs.size=p0.objs.size+1:=by rw[Heap.size_push,sz]
 have kd:∀b o,b≠e->b≠it->p0.get? b=some o->(pc.push {cls:= .type "tuple",data:= .seq #[.int j tk,x]}).get? b=some o:=fun b o n1 n2 z=>Heap.get?_push_of_some _ (bc.extBut b o n1 (bb.extBut b o n1 (ba.extBut b o n2 z)))
 have id':(pc.push {cls:= .type "tuple",data:= .seq #[.int j tk,x]}).IsListIter it l (i+1):=by
  obtain ⟨o,z,r⟩:=(ia.extBut bb.extBut ne.symm).extBut bc.extBut ne.symm;exact ⟨o,Heap.get?_push_of_some _ z,r⟩
 have el:e<p0.objs.size:=Heap.lt_size he;generalize pc.push {cls:= .type "tuple",data:= .seq #[.int j tk,x]}=pd at ed td zd kd id'⊢;show wpAny _ _ (Builtin.SmallTypes.ownedTupleIsFree (.ref e)>>=fun _=>_) _ _ ⟨pd,g,d,tk+1,os⟩
 rw[sz];clear ec bc eb bb ea ba ia sz pc pb pa;refine wpAny_bind ?_;unfold Builtin.SmallTypes.ownedTupleIsFree;refine wpAny_bind (wpAny_field ed rfl (x:= .none) rfl (wpAny_pure ?_));simp only[if_true];refine wpAny_bind (wpAny_rule (wpAny_bind (wpAny_field ed rfl (x:=o0) rfl (wpAny_bind (wpAny_setField_rec ed (by simp) fun pe (ee:IsEnum pe e it (j+1) x) (be:Heap.SameBut e pd pe)=>?_)))))
 show wpAny _ _ (Builtin.SmallTypes.ownedTupleHandOut (.ref e) (.ref p0.objs.size)>>=fun _=>_) _ _ ⟨pe,g,d,tk+1,os⟩
 refine wpAny_bind ?_;unfold Builtin.SmallTypes.ownedTupleHandOut;refine wpAny_bind (wpAny_setField_rec ee (by simp) fun pf (ef:IsEnumOut pf e it (j+1) x p0.objs.size) (bf:Heap.SameBut e pe pf)=>?_)
 refine wpAny_setField_rec ef (by simp) fun pg (eg:IsEnumOut pg e it (j+1) x p0.objs.size) (bg:Heap.SameBut e pf pg)=>?_
 refine wpAny_bind (wpAny_letGo (wpAny_pure ⟨ν,wpAny_pure (q pg eg ?_ ?_ ?_ ?_)⟩))
 ·exact ((id'.extBut be.extBut ne.symm).extBut bf.extBut ne.symm).extBut bg.extBut ne.symm
 ·exact bg.extBut _ _ (GC el) (bf.extBut _ _ (GC el) (be.extBut _ _ (GC el) td))
 ·rw[bg.1,bf.1,be.1,zd]
 ·exact fun b o n1 n2 z=>bg.extBut b o n1 (bf.extBut b o n1 (be.extBut b o n1 (kd b o n1 n2 z)))
theorem tI {e it l:Addr} {i:Nat} {j:Int} {xs:Array Value} {o0:Value} {Q:J8->Shared->Prop} (hh:A.handled=none) (he:IsEnum s.heap e it j o0) (hi:s.heap.IsListIter it l i) (hl:s.heap.IsList l xs) (hx:xs[i]?=none) (q:∀h',Heap.ExtBut it s.heap h'->Q none {s with heap:=h'}):wpAny (model pr wo) A (pyNext (.ref e)) Q E s:=by
 have ty:s.TypeIs (.ref e) "enumerate" :=⟨_,he,rfl⟩;unfold pyNext;refine wpAny_bind (wpAny_attempt (wpAny_callSpecial?_slot (name:=Str.ofString "__next__") ty F.slot_enumerate_next (wpAny_call_entry F.slot_enumerate_next ty F.entry_enumerate_next ?_ (F.args_enumerate_next_1 _))));show wpAny _ _ (field (.ref e) 2>>=fun _=>_) _ _ _
 refine wpAny_bind (wpAny_field he rfl (x:= .ref it) rfl (wpAny_bind (wpAny_nextOf_list_end hh hi hl hx fun h' x k ⟨o,ho,hc⟩=>?_)))
 exact wpAny_bind (wpAny_isInstance (T:= "StopIteration") (b:=true) ⟨o,ho,hc⟩ isSubtype_stop (wpAny_pure (q _ k)))
end
noncomputable def vM (K:F0) (l:Addr):It:=
 ⟨fun i H=>∃xs x,aI K H l xs/\xs[i]?=some x,fun i H v H'=>∃(T:Addr) (x:V),v= .ref T/\H T=none/\(∀xs,aI K H l xs->xs[i]?=some x)/\H'=aL H T (.tup [.int ((i:Int)+1),x]),fun i H=>∃xs,aI K H l xs/\xs.length<=i⟩
theorem ql {P:Program} {w:World} {K:F0} {elts:List Expr} {k:Nat} {pos:Pos} (l e it:Addr) (ne:e≠it):Turn P w K (.Tuple elts k pos) (vM K l) [e,it] e (fun i h=>(∃old,IsEnum h e it ((i:Int)+1) old)/\h.IsListIter it l i) where
 mem:=by simp
 obj:=fun i h st b hb=>by
  obtain ⟨⟨old,he⟩,o,e1,c,d⟩:=st;rcases F4.mp hb with z|z
  ·subst z;exact ⟨_,he,fun v z=>by cases z⟩
  ·rw[FA.mp z];exact ⟨o,e1,fun v z=>by rw[d] at z;cases z⟩
 keep:=fun i h h' st k=>⟨let ⟨old,he⟩:=st.1;⟨old,k e (by simp) _ he⟩,st.2.at fun o q=>k it (by simp) o q⟩
 item:=by
  intro X hP hw hK hc i pins s σ H E I hf st hg;subst hP hw hK;obtain ⟨xs,x,hq,hx⟩:=hg;obtain ⟨its,rv,p,hz⟩:=I.list hq;obtain ⟨u,hu,ru⟩:=rv.get hx;obtain ⟨⟨old,he⟩,hit⟩:=st;refine qi he hit p.isList (x:=u) (by simpa using hu) ne fun h1 ho hit' hT hsz hk=>?_
  refine ⟨_,rfl,wpAny_letOwnedTupleGo_enum (s:={s with heap:=h1,toks:=s.toks+1}) ho fun h2 he2 hs2=>?_⟩
  have nT:H s.heap.objs.size=none:=I.hok.fresh (F5 _);have el:e<s.heap.objs.size:=Heap.lt_size he;have il:it<s.heap.objs.size:=by obtain ⟨_,q,_⟩:=hit;exact Heap.lt_size q
  have hT2:h2.get? s.heap.objs.size=some {cls:= .type "tuple",data:= .seq #[.int ((i:Int)+1) s.toks,u]}:=(hs2.2 _ (GC el)).trans hT;have kp:∀b o,b∉ [e,it]->s.heap.get? b=some o->h2.get? b=some o:=fun b o hb q=>by
   simp at hb;exact (hs2.2 b hb.1).trans (hk b o hb.1 hb.2 q)
  refine ⟨.ref s.heap.objs.size,aL H s.heap.objs.size (.tup [.int ((i:Int)+1),x]),I.turnedNew (t':=s.toks+1) (ch:= [e,it]) hf kp (F5 _) ⟨by show 2<=sizeLine;decide,[.int ((i:Int)+1) s.toks,u],.cons ⟨ν⟩ (.cons ru .nil),⟨_,hT2,rfl,0,rfl⟩⟩,rfl,
   ⟨_,x,rfl,nT,fun ys hy=>by rw[I.list_inj hy hq];exact hx,rfl⟩,⟨⟨u,?_⟩,?_⟩,fun b hb=>?_⟩
  ·simpa using he2
  ·exact hit'.at fun o q=>(hs2.2 it (Ne.symm ne)).trans q
  ·have bl:b≠s.heap.objs.size:=by
    rcases F4.mp hb with z|z
    ·rw[z];exact FO el
    ·rw[FA.mp z];exact FO il
   rw[ar bl];exact (hf b hb).1
 done:=by
  intro X hP hw hK hc i pins s σ H E I hf st hg;subst hP hw hK;obtain ⟨xs,hq,hx⟩:=hg;obtain ⟨its,rv,p,hz⟩:=I.list hq;obtain ⟨⟨old,he⟩,hit⟩:=st;have hl:=rv.length;exact tI (I.ok.hd hc) he hit p.isList (by simp;lia) fun h' eb=>⟨rfl,I.turnedAll (t':=s.toks) (ch:= [e,it]) hf fun b o hb q=>eb b o (fun z=>hb (by simp[z])) q⟩
 self:=fun _ _ _ _ _ st h=>let ⟨_,he⟩:=st.1;wpAny_pyIter_enum he h
def Ad (K:F0) (te:TE):TI:=fun σ H R=>te σ H fun v H1=>∃l:Addr,v= .ref l/\(∃xs,aI K H1 l xs)/\R (vM K l) H1
theorem kv {M:Model} {A:Around} {E:JY} {s:Shared} {pos:Pos} {T:String} {args:List (Bool×Sem Value)} {kws:List (Option Str×Sem Value)} {Q:JY} (n1:args.any (fun x=>x.1)=false) (n2:kws.any (fun x=>x.1.isNone)=false)
  (h:wpAny M A (evalArgs (.type T) true args kws) (fun a s1=>wpAny M A (call (.type T) ([]++a.pos) a.kw) Q E s1) E s):wpAny M A (callWith pos (.type T) [] args kws) Q E s:=by
 unfold callWith;refine wpAny_bind (wpAny_holding (wpAny_mono h (fun a s1 k=>wpAny_bind (wpAny_standAt ?_)) fun _ _ x=>x))
 simp only[n1,n2,Bool.or_false];refine wpAny_bind (wpAny_pure (wpAny_bind (wpAny_mono k (fun r s2 z=>wpAny_bind (wpAny_holding (wpAny_point (wpAny_pure z)))) fun _ _ x=>x)))
theorem vO {X:Cx} {a:Expr} {te:TE} {elts:List Expr} {k cj:Nat} {tp p pos kp cp:Pos} (hg:Gl X "enumerate") (hm:X.mg "enumerate" =none) (ha:PE X a te) (hs:starEach [a] X.env= [(false,eval a X.env)]:=by rfl):PI X (.Tuple elts k tp) (.Call (.Name "enumerate" p) [a] [⟨some "start",.Constant (.int 1) cj cp,kp⟩] pos) (Ad X.K te):=by
 intro pins s σ H R I h;apply wpAny_Call_Name_kw;refine fm I hg hm boot_enumerate ?_ (by decide) (by decide)
 have hb:backTo pos (starEach [a] X.env)= [(false,eval a X.env)]:=by rw[hs];rfl
 rw[hb];refine kv rfl rfl (evalArgs_kwB rfl ?_);refine Calls.spliced_cons (x:=eval a X.env) (rest:= []) (bo (ha pins s σ H _ I h) fun v s1 ⟨x,H1,I1,r1,l,ex,⟨xs,hq⟩,q⟩=>?_)
 subst ex;cases r1;refine Calls.spliced_nil ?_;refine kws_cons (wpAny_Constant_int (kws_nil ?_));have I2:aJ X pins σ H1 {s1 with toks:=s1.toks+1}:=I1.tok _
 obtain ⟨its,rv,p1,hz⟩:=I2.list hq;refine qh (s:={s1 with toks:=s1.toks+1}) p1.isList fun h' he hit hsz hk=>?_
 refine wpAny_pyIter_enum (s:={s1 with heap:=h',toks:=s1.toks+1}) he ?_
 have I3:aJ X pins σ H1 {s1 with heap:=h',toks:=s1.toks+1}:=I2.kept (t':=s1.toks+1) hk
 refine ⟨s1.heap.objs.size+1,[s1.heap.objs.size+1,s1.heap.objs.size],_,_,H1,rfl,I3,ql l _ _ (Nat.succ_ne_self _),⟨⟨_,by simpa using he⟩,hit⟩,fun b hb=>?_,q⟩
 have bl:s1.heap.objs.size<=b:=by
  rcases F4.mp hb with z|z
  ·rw[z];exact Nat.le_succ _
  ·rw[FA.mp z];exact F5 _
 exact I2.fpOk bl (I1.hok.fresh bl)
theorem tJ {K:F0} {a:Addr} {xs:List V} {g:TG} {tb:TS} {D:Ends} {σ:St} {H:Hp} (Pv:Nat->St->Hp->Prop) (h0:Pv 0 σ H) (hl:∀i σ H,i<=xs.length->Pv i σ H->aI K H a xs)
  (hs:∀i x σ H (T:Addr),xs[i]?=some x->Pv i σ H->H T=none->g (.ref T) σ (aL H T (.tup [.int ((i:Int)+1),x])) fun σ2 H2=>tb {D with nx:=Pv (i+1),ct:=Pv (i+1),bk:=D.nx} σ2 H2) (hd:∀σ H,Pv xs.length σ H->D.nx σ H):
  ∃W:Nat->Nat->St->Hp->Prop,(∃m,W 0 m σ H)/\∀i m σ H,W i m σ H->
   ((vM K a).stop i H/\D.nx σ H)∨((vM K a).go i H/\∃N:St->Hp->Prop,(∀σ' H',N σ' H'->∃m',m'<m/\W (i+1) m' σ' H')/\∀x H',(vM K a).yld i H x H'->g x σ H' fun σ2 H2=>tb {D with nx:=N,ct:=N,bk:=D.nx} σ2 H2):=by
 refine ⟨fun i m σ H=>m=xs.length-i/\i<=xs.length/\Pv i σ H,⟨xs.length,by simp,G7 _,h0⟩,?_⟩
 rintro i m σ H ⟨rfl,hi,p⟩;have q:=hl i σ H hi p
 by_cases hlt:i<xs.length
 ·refine .inr ⟨⟨xs,xs[i],q,by simp[hlt]⟩,Pv (i+1),fun σ' H' p'=>⟨xs.length-(i+1),by lia,rfl,hlt,p'⟩,fun x H' y=>?_⟩
  obtain ⟨T,z,rfl,nT,hz,rfl⟩:=y;exact hs i z σ H T (hz xs q) p nT
 ·have e:i=xs.length:=by lia
  subst e;exact .inl ⟨⟨xs,q,F5 _⟩,hd σ H p⟩
end L2
namespace Sw
open PySem L2 XH Hm PySem.NumText
section
variable {cC cR cW cRec:Addr} {G H H':Hp} {r:Addr} {n:Str} {p:Nat} {lt ls lk:Addr} {ks:List So} {M:Md}
theorem Ae {dx:Addr} (g:ax H H') (nr:H r=none) (nt:H lt=none) (ns:H ls=none) (nk:H lk=none) (d1:lt≠r) (d2:ls≠r) (d3:lk≠r) (nd: [lt,ls,lk].Nodup) (er:H' r=some (.ins cRec dx (mJ (.str n) (vN p) (.ref lt) (.ref ls) (.ref lk)))) (et:H' lt=some (.lst [])) (es:H' ls=some (.lst [])) (ek:H' lk=some (.lst [])):RM cC cR cW cRec H H' r n p lt ls lk [] ⟨[],[],[]⟩ where
 fr:=g
 nw:=fun a ha=>by
  simp only[bV,List.map_nil,List.flatten_nil,F4,FC,or_false] at ha;rcases ha with rfl|rfl|rfl|rfl
  ·exact nr
  ·exact nt
  ·exact ns
  ·exact nk
 nd:=by
  simp only[bV,List.map_nil,List.flatten_nil];rw[G3];refine ⟨fun m=>?_,nd⟩
  simp only[F4,FC,or_false] at m;rcases m with e|e|e
  ·exact d1 e.symm
  ·exact d2 e.symm
  ·exact d3 e.symm
 er:=⟨dx,er⟩
 et:=⟨[],et,A2.nil⟩
 es:=es
 len:=rfl
 ss:=fun i k s h=>by simp at h
 ek:=⟨[],ek,A2.nil⟩
end
def oC (cC cR cW:Addr):Sp:=fun vs H Q _=>∃(l:Addr) (w n:Str) (lo hi:Nat) (f:Option dM),vs= [.ref l]/\LV H l w ([.nm n,.num lo,.num hi]++vG f)/\DL w/\B1 w f/\∀(k:So) (H':Hp),ax H H'->SM cC cR cW H' k ⟨w,n,lo,hi,f,[],none⟩->(∀a∈k.own,H a=none)->k.own.Nodup->Q (.ref k.x) H'
noncomputable def bn (M:Md):List Rr->Except pw Md
 | []=> .ok M
 |r::rs=>match bF M r with
  | .error e=> .error e
  | .ok M'=>bn M' rs
def jh (cC cR cW cRec:Addr):Sp:=fun vs H Q _=>∃(n:Str) (p:Nat) (rs:List Rr) (M:Md),vs= [.str (Txt.join fC (aZ n p::rs.map bD))]/\Nm n/\1<=p/\p<=1000/\(∀r∈rs,eD r)/\rs.length<=1000/\bn ⟨[],[],[]⟩ rs= .ok M/\∀(r lt ls lk:Addr) (ks:List So) (H':Hp),RM cC cR cW cRec H H' r n p lt ls lk ks M->Q (.ref r) H'
theorem gQ {M:Md} {z:Str} {i:Nat} (h:place M z=some i):fE M z i/\i<M.steps.length:=by
 unfold place at h;rw[GJ] at h;obtain ⟨il,h1,h2⟩:=h;refine ⟨⟨⟨_,F6 il,by simpa using h1⟩,fun j s jl hs e=>?_⟩,il⟩
 have:=h2 j jl;rw[F6 (by lia)] at hs
 cases hs;simp at this;exact this e
theorem gh {M M':Md} {n:Str} {f:SV->Except pw SV} (h:cJ M n f= .ok M'):∃i s s',fE M n i/\M.steps[i]?=some s/\f s= .ok s'/\M'={M with steps:=M.steps.set i s'}:=by
 unfold cJ at h
 split at h
 ·cases h
 next i e=>
 split at h
 ·cases h
 next s es=>
 split at h
 ·cases h
 next s' e'=>
 cases h;exact ⟨i,s,s',(gQ e).1,es,e',rfl⟩
theorem oE {us us':List bU} {u:bU} (h:je us u= .ok us'):(∀x∈us,x.1≠u.1)/\us.length≠12/\us'=us++ [u]:=by
 unfold je at h
 split at h
 ·cases h
 next n1=>
 split at h
 ·cases h
 next n2=>
 cases h;exact ⟨fun x hx e=>n1 (FE.mpr ⟨x,hx,e⟩),n2,rfl⟩
theorem mQ {M M':Md} {g:Str} {a:dM} (e:bF M (.take g a)= .ok M'):(∀x∈M.takes,x.1≠g)/\M.takes.length≠12/\M'={M with takes:=M.takes++ [(g,a)]}:=by
 change (if g∈M.takes.map (fun x=>x.1) then Except.error pw.twice else if M.takes.length=12 then .error .full else .ok _)=_ at e
 split at e
 ·cases e
 next n1=>
 split at e
 ·cases e
 next n2=>
 cases e;exact ⟨fun x hx e=>n1 (FE.mpr ⟨x,hx,e⟩),n2,rfl⟩
theorem mR {M M':Md} {w n:Str} {lo hi:Nat} {f:Option dM} (e:bF M (.step w n lo hi f)= .ok M'):(∀s∈M.steps,s.n≠n)/\M.steps.length≠12/\M'={M with steps:=M.steps++ [⟨w,n,lo,hi,f,[],none⟩]}:=by
 change (if n∈M.steps.map (fun s=>s.n) then Except.error pw.twice else if M.steps.length=12 then .error .full else .ok _)=_ at e
 split at e
 ·cases e
 next n1=>
 split at e
 ·cases e
 next n2=>
 cases e;exact ⟨fun x hx e=>n1 (FE.mpr ⟨x,hx,e⟩),n2,rfl⟩
theorem mS {M M':Md} {w a b:Str} {t:Nat} (e:bF M (.link w a b t)= .ok M'):∃i j,fE M a i/\fE M b j/\M.links.length≠24/\M'={M with links:=M.links++ [(w,i,j,t)]}:=by
 simp only[bF] at e
 split at e
 ·cases e
 next i e1=>
 split at e
 ·cases e
 next j e2=>
 split at e
 ·cases e
 next n2=>
 cases e;exact ⟨i,j,(gQ e1).1,(gQ e2).1,n2,rfl⟩
theorem oF {M M':Md} {n:Str} {lo hi:Nat} (e:bF M (.sec n lo hi)= .ok M'):∃i s,fE M n i/\M.steps[i]?=some s/\s.sec=none/\M'={M with steps:=M.steps.set i {s with sec:=some (lo,hi,[])}}:=by
 obtain ⟨i,s,s',hp,hs,hf,rfl⟩:=gh e
 split at hf
 ·cases hf
 next es=>
 cases hf;exact ⟨i,s,hp,hs,es,rfl⟩
theorem oG {M M':Md} {n:Str} {u:bU} (e:bF M (.use false n u)= .ok M'):∃i s,fE M n i/\M.steps[i]?=some s/\(∀x∈s.uses,x.1≠u.1)/\s.uses.length≠12/\M'={M with steps:=M.steps.set i {s with uses:=s.uses++ [u]}}:=by
 obtain ⟨i,s,s',hp,hs,hf,rfl⟩:=gh e
 split at hf
 ·cases hf
 next us eu=>
 cases hf;obtain ⟨n1,n2,rfl⟩:=oE eu;exact ⟨i,s,hp,hs,n1,n2,rfl⟩
theorem oH {M M':Md} {n:Str} {u:bU} (e:bF M (.use true n u)= .ok M'):∃i s lo hi us,fE M n i/\M.steps[i]?=some s/\s.sec=some (lo,hi,us)/\(∀x∈us,x.1≠u.1)/\us.length≠12/\M'={M with steps:=M.steps.set i {s with sec:=some (lo,hi,us++ [u])}}:=by
 obtain ⟨i,s,s',hp,hs,hf,rfl⟩:=gh e
 split at hf
 ·cases hf
 next lo hi us es=>
 split at hf
 ·cases hf
 next us' eu=>
 cases hf;obtain ⟨n1,n2,rfl⟩:=oE eu;exact ⟨i,s,lo,hi,us,hp,hs,es,n1,n2,rfl⟩
structure vP (M:Md):Prop where
 t:M.takes.length<=12
 s:M.steps.length<=12
 k:M.links.length<=24
 us:∀s∈M.steps,s.uses.length<=12/\∀x,s.sec=some x->x.2.2.length<=12
theorem vP.set {M:Md} (h:vP M) {i:Nat} {s':SV} (hs:s'.uses.length<=12/\∀x,s'.sec=some x->x.2.2.length<=12):vP {M with steps:=M.steps.set i s'}:=
 {h with
  s:=by simp;exact h.s
  us:=fun x hx=>by
   rcases List.mem_or_eq_of_mem_set hx with hx|rfl
   ·exact h.us x hx
   ·exact hs}
theorem vP.put {M M':Md} (h:vP M) {r:Rr} (e:bF M r= .ok M'):vP M':=by
 have ht:=h.t;have hs:=h.s;have hk:=h.k;cases r with
 |take g a=>
  obtain ⟨_,n2,rfl⟩:=mQ e;exact {h with t:=by simp;lia}
 |step w n lo hi f=>
  obtain ⟨_,n2,rfl⟩:=mR e;refine {h with s:=by simp;lia,us:=fun s hs=>?_}
  rcases FM.mp hs with hs|hs
  ·exact h.us s hs
  ·rw[FA.mp hs];exact ⟨by simp,fun x hx=>by cases hx⟩
 |sec n lo hi=>
  obtain ⟨i,s,hp,hs,_,rfl⟩:=oF e;have k:=h.us s (FB hs);exact h.set ⟨k.1,fun x hx=>by cases hx;simp⟩
 |use o n u=>
  cases o with
  |false=>
   obtain ⟨i,s,hp,hs,_,n2,rfl⟩:=oG e;have k:=h.us s (FB hs);exact h.set ⟨by have:=k.1;simp;lia,k.2⟩
  |true=>
   obtain ⟨i,s,lo,hi,us,hp,hs,es,_,n2,rfl⟩:=oH e;have k:=h.us s (FB hs);have k2:=k.2 _ es;dsimp only at k2;exact h.set ⟨k.1,fun x hx=>by cases hx;simp;lia⟩
 |link w a b t=>
  obtain ⟨i,j,_,_,n2,rfl⟩:=mS e;exact {h with k:=by simp;lia}
theorem iQ {f:Str} {v x:V}:∀{fs:List (Str×V)},fs.lookup f=some x->(aK f v fs).length=fs.length
 | [],h=>by cases h
 |(g,y)::r,h=>by
  rw[show aK f v ((g,y)::r)=(if g=f then (g,v)::r else (g,y)::aK f v r) from rfl]
  by_cases c:g=f
  ·rw[if_pos c]
   rfl
  ·rw[if_neg c];rw[List.lookup_cons,show (f==g)=false by simpa using fun z=>c z.symm] at h
   simp[iQ (fs:=r) h]
theorem yF.put2 {ff:List (Str×V)} {nm l m u s v:V} (h:yF ff nm l m u s):yF (aK "second" v ff) nm l m u v:=by
 have k:∀{g:Str},g≠ "second" ->(aK "second" v ff).lookup g=ff.lookup g:=fun hg=>by rw[a9,if_neg hg]
 exact ⟨(k (by decide+kernel)).trans h.name,(k (by decide+kernel)).trans h.least,(k (by decide+kernel)).trans h.most,(k (by decide+kernel)).trans h.uses,by rw[a9,if_pos rfl],(k (by decide+kernel)).trans h.word,(k (by decide+kernel)).trans h.span,(k (by decide+kernel)).trans h.grown,(k (by decide+kernel)).trans h.way,(k (by decide+kernel)).trans h.rounds⟩
section
variable {cC cR cW cRec:Addr} {G H H1 H':Hp} {r:Addr} {n:Str} {p:Nat} {lt ls lk:Addr} {ks:List So} {M:Md}
theorem RM.own_nd (h:RM cC cR cW cRec G H r n p lt ls lk ks M) {k:So} (hk:k∈ks):k.own.Nodup:=by
 have nd:=h.nd;unfold bV at nd;simp only[G3] at nd;have nf:=nd.2.2.2.2;exact nf.sublist (List.sublist_flatten_of_mem (FE.mpr ⟨k,hk,rfl⟩))
theorem qm {k:So} {x:Addr} {o:HO} (g:ax H H1) (hx:x∈k.own):Kp k.own H (aL H1 x o):=fun b u e m=>by
 rw[ar fun z=>m (by rw[z];exact hx)]
 exact g _ _ e
theorem SM.second {k:So} {s:SV} {C dx:Addr} {sv:V} {ff:List (Str×V)} {t l:Addr} {lo hi:Nat} (hx:H k.x=some (.ins C dx ff)) (hC:ko cC cR cW s.w C) (sf:yF ff (.str s.n) (vN s.lo) (vN s.hi) (.ref k.u) sv) (l10:ff.length<=10) (hf:iP H ff s.fill) (hu:Uz H k.u s.uses) (g:ax H H1) (nl:H l=none) (el:H1 l=some (.lst [])) (et:H1 t=some (.tup [vN lo,vN hi,.ref l])):SM cC cR cW (aL H1 k.x (.ins C dx (aK "second" (.ref t) ff))) ⟨k.x,k.u,some l⟩ {s with sec:=some (lo,hi,[])}:=by
 have q:rJ [k.x] H1:=gP (g _ _ hx) nofun;have kp:=(Kp.refl [k.x] H1).put (x:=k.x) (by simp) (.ins C dx (aK "second" (.ref t) ff))
 have nu:k.u∉ [k.x]:=fun z=>by
  obtain ⟨vs,e,_⟩:=hu;rw[FA.mp z,hx] at e;cases e
 have nlx:l≠k.x:=fun z=>by rw[z,hx] at nl;cases nl
 refine ⟨C,dx,.ref t,_,ac,hC,sf.put2,by rw[iQ sf.second];exact l10,?_,kp.rtupM q (hu.same g) nu,t,rfl,kp.tupM q et,[],?_,A2.nil⟩
 ·have k0:=kp.fillM q (hf.same g);show iP _ _ s.fill;generalize s.fill=o at k0;cases o with
  |none=>exact k0
  |some a=>
   obtain ⟨t',e1,e2⟩:=k0;exact ⟨t',by rw[a9,if_neg (by decide+kernel)];exact e1,e2⟩
 ·rw[ar nlx];exact el
theorem SM.use {k:So} {s:SV} {vs:List V} {t:Addr} {u:bU} (h:SM cC cR cW H k s) (nd:k.own.Nodup) (ev:H k.u=some (.lst vs)) (g:ax H H1) (et:H1 t=some (.tup (B2 u))):SM cC cR cW (aL H1 k.u (.lst (vs++ [.ref t]))) k {s with uses:=s.uses++ [u]}:=by
 obtain ⟨C,dx,sv,ff,hx,hC,sf,l10,hf,hu,hs⟩:=h.same g;have q:rJ [k.u] H1:=gP (g _ _ ev) nofun;have kp:=(Kp.refl [k.u] H1).put (x:=k.u) (by simp) (.lst (vs++ [.ref t]))
 simp only[So.own,G3,F4,not_or] at nd;refine ⟨C,dx,sv,ff,kp _ _ hx (by simpa using nd.1.1),hC,sf,l10,kp.fillM q hf,?_,kp.secM q hs fun b hb=>by simpa using fun z:b=k.u=>nd.2.1 (z▸hb)⟩
 obtain ⟨us,e',rr⟩:=hu;rw[g _ _ ev] at e';cases e';exact ⟨_,ac,(rr.snoc ⟨t,rfl,trivial,et⟩).imp fun v x ⟨t,e1,e2,e3⟩=>⟨t,e1,e2,kp.tupM q e3⟩⟩
theorem SM.orw {k:So} {s:SV} {vs:List V} {t l lo hi:Nat} {us:List bU} {u:bU} (h:SM cC cR cW H k s) (nd:k.own.Nodup) (ek:k.sec=some l) (es:s.sec=some (lo,hi,us)) (ev:H l=some (.lst vs)) (g:ax H H1) (et:H1 t=some (.tup (B2 u))):SM cC cR cW (aL H1 l (.lst (vs++ [.ref t]))) k {s with sec:=some (lo,hi,us++ [u])}:=by
 obtain ⟨C,dx,sv,ff,hx,hC,sf,l10,hf,hu,hs⟩:=h.same g;have q:rJ [l] H1:=gP (g _ _ ev) nofun;have kp:=(Kp.refl [l] H1).put (x:=l) (by simp) (.lst (vs++ [.ref t]))
 simp only[So.own,ek,Option.toList,G3,F4,not_or,FC,not_false_eq_true,and_true] at nd;rw[ek,es] at hs;obtain ⟨t2,rfl,e2,⟨ws,e3,rr⟩⟩:=hs;rw[g _ _ ev] at e3;cases e3;refine ⟨C,dx,_,ff,kp _ _ hx (by simpa using nd.1.2),hC,sf,l10,kp.fillM q hf,kp.rtupM q hu (by simpa using nd.2.1),?_⟩
 rw[ek];exact ⟨t2,rfl,kp.tupM q e2,_,ac,(rr.snoc ⟨t,rfl,trivial,et⟩).imp fun v x ⟨t,e1,e2,e3⟩=>⟨t,e1,e2,kp.tupM q e3⟩⟩
end
theorem xN {r:Rr} (h:eD r) (e:(qg r).1= "take"):∃g a,r= .take g a:=by
 cases r with
 |take g a=>exact ⟨g,a,rfl⟩
 |step w n lo hi f=>
  have e:w= "take" :=e;rcases h.1 with k|k|k<;>exact absurd (k.symm.trans e) (by decide)
 |sec n lo hi=>exact absurd e (show ¬Str.ofString "or" =Str.ofString "take" from by decide+kernel)
 |use o n u=>
  cases o with
  |false=>exact absurd e (show ¬Str.ofString "with" =Str.ofString "take" from by decide+kernel)
  |true=>exact absurd e (show ¬Str.ofString "orwith" =Str.ofString "take" from by decide+kernel)
 |link w a b t=>
  have e:w= "take" :=e;rcases h.1 with k|k|k<;>exact absurd (k.symm.trans e) (by decide)
theorem xO {r:Rr} (h:eD r) (e:(qg r).1∈([("cut" :Str),"rest","warm"]:J4)):∃w n lo hi f,r= .step w n lo hi f:=by
 cases r with
 |take g a=>exact absurd e (show ¬Str.ofString "take" ∈([Str.ofString "cut","rest","warm"]:J4) from by decide+kernel)
 |step w n lo hi f=>exact ⟨w,n,lo,hi,f,rfl⟩
 |sec n lo hi=>exact absurd e (show ¬Str.ofString "or" ∈([Str.ofString "cut","rest","warm"]:J4) from by decide+kernel)
 |use o n u=>
  cases o with
  |false=>exact absurd e (show ¬Str.ofString "with" ∈([Str.ofString "cut","rest","warm"]:J4) from by decide+kernel)
  |true=>exact absurd e (show ¬Str.ofString "orwith" ∈([Str.ofString "cut","rest","warm"]:J4) from by decide+kernel)
 |link w a b t=>
  have e:w∈([("cut" :Str),"rest","warm"]:J4):=e;rcases h.1 with k|k|k<;>(rw[k] at e;exact absurd e (by decide+kernel))
theorem Af {r:Rr} (h:eD r) (e:(qg r).1= "or"):∃n lo hi,r= .sec n lo hi:=by
 cases r with
 |take g a=>exact absurd e (show ¬Str.ofString "take" =Str.ofString "or" from by decide+kernel)
 |step w n lo hi f=>
  have e:w= "or" :=e;rcases h.1 with k|k|k<;>exact absurd (k.symm.trans e) (by decide)
 |sec n lo hi=>exact ⟨n,lo,hi,rfl⟩
 |use o n u=>
  cases o with
  |false=>exact absurd e (show ¬Str.ofString "with" =Str.ofString "or" from by decide+kernel)
  |true=>exact absurd e (show ¬Str.ofString "orwith" =Str.ofString "or" from by decide+kernel)
 |link w a b t=>
  have e:w= "or" :=e;rcases h.1 with k|k|k<;>exact absurd (k.symm.trans e) (by decide)
theorem Ag {r:Rr} (h:eD r) (e:(qg r).1∈([("with" :Str),"orwith"]:J4)):∃o n u,r= .use o n u:=by
 cases r with
 |take g a=>exact absurd e (show ¬Str.ofString "take" ∈([Str.ofString "with","orwith"]:J4) from by decide+kernel)
 |step w n lo hi f=>
  have e:w∈([("with" :Str),"orwith"]:J4):=e;rcases h.1 with k|k|k<;>(rw[k] at e;exact absurd e (by decide+kernel))
 |sec n lo hi=>exact absurd e (show ¬Str.ofString "or" ∈([Str.ofString "with","orwith"]:J4) from by decide+kernel)
 |use o n u=>exact ⟨o,n,u,rfl⟩
 |link w a b t=>
  have e:w∈([("with" :Str),"orwith"]:J4):=e;rcases h.1 with k|k|k<;>(rw[k] at e;exact absurd e (by decide+kernel))
theorem xP {r:Rr} (h:eD r) (n1:(qg r).1≠ "take") (n2:(qg r).1∉([("cut" :Str),"rest","warm"]:J4)) (n3:(qg r).1≠ "or") (n4:(qg r).1∉([("with" :Str),"orwith"]:J4)):∃w a b t,r= .link w a b t:=by
 cases r with
 |take g a=>exact absurd rfl n1
 |step w n lo hi f=>
  have n2:w∉([("cut" :Str),"rest","warm"]:J4):=n2;rcases h.1 with k|k|k<;>(rw[k] at n2;exact absurd (by decide+kernel) n2)
 |sec n lo hi=>exact absurd rfl n3
 |use o n u=>
  cases o with
  |false=>exact absurd (show Str.ofString "with" ∈([Str.ofString "with","orwith"]:J4) from by decide+kernel) n4
  |true=>exact absurd (show Str.ofString "orwith" ∈([Str.ofString "with","orwith"]:J4) from by decide+kernel) n4
 |link w a b t=>exact ⟨w,a,b,t,rfl⟩
def Wg (w:Str):Prop:=(∀c∈sL w,32<=c)/\w.length<=40
theorem b5 {z:Str} (h:Nm z):Wg z:=⟨fun c m=>by have:=h.2.2 c m;lia,by have:=h.len;lia⟩
theorem bH {n:Nat} (h:n<=999999999):Wg (aA n):=⟨fun c m=>by
 unfold aA at m;rw[aT] at m;have:=(c5 n c m).1
 lia,by have:=fh h;lia⟩
theorem xQ {p q:Nat}:∀c∈dv p q,43<=c:=fun c hc=>by
 have dd:∀n c,c∈dg n->43<=c:=fun n c h=>by have:=(c5 n c h).1;lia
 unfold dv at hc
 split at hc
 ·exact dd _ c hc
 ·split at hc
  ·rcases FM.mp hc with h|h
   ·exact dd _ c h
   ·rcases F4.mp h with rfl|h
    ·decide
    ·exact dd _ c h
  ·rcases FM.mp hc with h|h
   ·exact dd _ c h
   ·rcases F4.mp h with rfl|h
    ·decide
    ·rcases FM.mp h with h|h
     ·exact dd _ c h
     ·rcases F4.mp h with rfl|h
      ·decide
      ·exact dd _ c h
theorem yQ {a:dM} (h:zP a):Wg (nA a):=⟨fun c m=>by
 unfold nA at m;rw[aT] at m;have:=xQ c m
 lia,xC h⟩
theorem fF {w:Str} (h:Ba w=true):Wg w:=b5 ((iN w).mp h)
theorem rP:∀{ws:J4},(∀w∈ws,Wg w)->∀c∈sL (jB ws),32<=c
 | [],_,c,m=>by simp[jB] at m;exact absurd m (by decide+revert)
 | [a],h,c,m=>(h a FW).1 c m
 |a::b::r,h,c,m=>by
  rw[aF,a8,a8] at m;rcases FM.mp m with m|m
  ·rcases FM.mp m with m|m
   ·exact (h a FW).1 c m
   ·have:sL cv= [32]:=by decide
    rw[this] at m;simp at m
    lia
  ·exact rP (fun w hw=>h w (F8 _ hw)) c m
theorem B8 {r:Rr} (h:eD r):(∀w∈jz r,Wg w)/\(jz r).length<=5:=by
 have W:∀{w:Str},DL w->Wg w:=fun h=>by rcases h with rfl|rfl|rfl<;>exact fF (by decide+kernel)
 have L:∀{w:Str},EC w->Wg w:=fun h=>by rcases h with rfl|rfl|rfl<;>exact fF (by decide+kernel)
 cases r with
 |take g a=>
  refine ⟨fun w hw=>?_,by simp[jz]⟩
  simp only[jz,F4,FC,or_false] at hw;rcases hw with rfl|rfl|rfl
  ·exact fF (by decide+kernel)
  ·exact b5 h.1
  ·exact yQ h.2
 |step w n lo hi f=>
  obtain ⟨h1,h2,⟨l1,l2,l3⟩,h4⟩:=h;refine ⟨fun x hx=>?_,by cases f<;>simp[jz,vz]⟩
  have hx:x∈ [w,n,aA lo,aA hi]++vz f:=hx;rcases FM.mp hx with hx|hx
  ·simp only[F4,FC,or_false] at hx;rcases hx with rfl|rfl|rfl|rfl
   ·exact W h1
   ·exact b5 h2
   ·exact bH (by lia)
   ·exact bH (by lia)
  ·cases f with
   |none=>cases hx
   |some a=>
    rw[FA.mp hx];exact yQ h4.2
 |sec n lo hi=>
  obtain ⟨h2,⟨l1,l2,l3⟩⟩:=h;refine ⟨fun x hx=>?_,by simp[jz,vB]⟩
  simp only[jz,vB,F4,FC,or_false] at hx;rcases hx with rfl|rfl|rfl|rfl
  ·exact fF (by decide+kernel)
  ·exact b5 h2
  ·exact bH (by lia)
  ·exact bH (by lia)
 |use o n u=>
  obtain ⟨h1,h2,h3,h4,h5⟩:=h;refine ⟨fun x hx=>?_,by simp[jz,vA]⟩
  simp only[jz,vA,F4,FC,or_false] at hx;rcases hx with rfl|rfl|rfl|rfl|rfl
  ·cases o
   ·exact fF (w:=Str.ofString "with") (by decide+kernel)
   ·exact fF (w:=Str.ofString "orwith") (by decide+kernel)
  ·exact b5 h1
  ·exact b5 h2
  ·exact bH (by lia)
  ·exact bH (by lia)
 |link w a b t=>
  obtain ⟨h1,h2,h3,h4,h5,h6⟩:=h;refine ⟨fun x hx=>?_,by simp only[jz,f9];split<;>simp⟩
  have hx:x∈ [w,a,b]++if w= "within" then [aA t] else []:=hx
  rcases FM.mp hx with hx|hx
  ·simp only[F4,FC,or_false] at hx;rcases hx with rfl|rfl|rfl
   ·exact L h1
   ·exact b5 h2
   ·exact b5 h3
  ·split at hx
   ·rw[FA.mp hx];exact bH (by lia)
   ·cases hx
theorem mT {r:Rr} (h:eD r):10∉sL (bD r)/\(bD r).length<=400:=by
 obtain ⟨h1,h2⟩:=B8 h;refine ⟨fun m=>absurd (rP h1 10 m) (by decide),?_⟩
 have k:=qf (jz r) (m:=40) fun w hw=>(h1 w hw).2
 have:=Nat.mul_le_mul_left 41 h2;exact FH k (by lia)
theorem gn {n:Str} {p:Nat} (h:Nm n) (hp:p<=1000):10∉sL (aZ n p)/\(aZ n p).length<=400:=by
 refine ⟨fun m=>absurd (rP (ws:= ["dish",n,aA p]) (fun w hw=>?_) 10 m) (by decide),tD h hp⟩
 simp only[F4,FC,or_false] at hw;rcases hw with rfl|rfl|rfl
 ·exact fF (by decide+kernel)
 ·exact b5 h
 ·exact bH (by lia)
theorem xR {n:Str} {p:Nat} {rs:List Rr} (h:Nm n) (hp:p<=1000) (ro:∀r∈rs,eD r) (l:rs.length<=1000):(Txt.join fC (aZ n p::rs.map bD)).length<=500000:=by
 have s:=iO (m:=400) (ws:=aZ n p::rs.map bD) fun w hw=>by
  rcases F4.mp hw with rfl|hw
  ·exact (gn h hp).2
  ·obtain ⟨r,hr,rfl⟩:=FE.mp hw;exact (mT (ro r hr)).2
 rw[iK,show fC.length=1 from rfl]
 simp only[FS,F7] at s⊢
 lia
theorem iR {rs ts:List Rr} {M M':Md} (h:bn M rs= .ok M'):bn M (rs++ts)=bn M' ts:=by
 induction rs generalizing M with
 |nil=>cases h;rfl
 |cons r rs ih=>
  simp only[Fq,bn] at h⊢;cases e:bF M r with
  |error x=>rw[e] at h;cases h
  |ok M1=>rw[e] at h;exact ih h
theorem vQ {r:Rr} {rs:List Rr} {M M':Md} (h:bn M (r::rs)= .ok M'):∃M1,bF M r= .ok M1/\bn M1 rs= .ok M':=by
 simp only[bn] at h;cases e:bF M r with
 |error x=>rw[e] at h;cases h
 |ok M1=>rw[e] at h;exact ⟨M1,rfl,h⟩
theorem vP.nil:vP ⟨[],[],[]⟩:=⟨by simp,by simp,by simp,fun s h=>by cases h⟩
section
variable {cC cR cW cRec:Addr} {G G' H H':Hp} {r:Addr} {n:Str} {p:Nat} {lt ls lk:Addr} {ks:List So} {M:Md}
theorem RM.low (h:RM cC cR cW cRec G H r n p lt ls lk ks M) (g:ax G' G):RM cC cR cW cRec G' H r n p lt ls lk ks M:={h with fr:=g.trans h.fr,nw:=fun a ha=>g.free (h.nw a ha)}
theorem RM.top (h:RM cC cR cW cRec G H r n p lt ls lk ks M):RM cC cR cW cRec (less H (bV r lt ls lk ks)) H r n p lt ls lk ks M:={h with fr:=tw _ _,nw:=fun a ha=>if_pos ha}
theorem RM.less (h:RM cC cR cW cRec G H r n p lt ls lk ks M):ax G (Sw.less H (bV r lt ls lk ks)):=fun b o e=>by
 rw[rG fun hx=>?_]
 ·exact h.fr _ _ e
 ·have:=h.nw b hx;rw[e] at this;cases this
end
theorem vR {r:Rr} (h:eD r):(qg r).1≠ "dish" :=fun e=>by
 cases r with
 |take g a=>exact absurd e (show ¬Str.ofString "take" = "dish" from by decide)
 |step w n lo hi f=>
  have e:w= "dish" :=e;rcases h.1 with k|k|k<;>exact absurd (k.symm.trans e) (by decide)
 |sec n lo hi=>exact absurd e (show ¬Str.ofString "or" = "dish" from by decide)
 |use o n u=>
  cases o with
  |false=>exact absurd e (show ¬Str.ofString "with" = "dish" from by decide)
  |true=>exact absurd e (show ¬Str.ofString "orwith" = "dish" from by decide)
 |link w a b t=>
  have e:w= "dish" :=e;rcases h.1 with k|k|k<;>exact absurd (k.symm.trans e) (by decide)
noncomputable def yR (n:Str):Option (Nat×Nat×List bU)->List Rr
 |none=> []
 |some (lo,hi,us)=> .sec n lo hi::us.map fun u=> .use true n u
noncomputable def kx (s:SV):List Rr:= .step s.w s.n s.lo s.hi s.fill::(s.uses.map fun u=> .use false s.n u)++yR s.n s.sec
noncomputable def mU (ss:List SV) (k:xA):Rr:= .link k.1 (kM ss k.2.1) (kM ss k.2.2.1) k.2.2.2
noncomputable def vS (x:Str×dM):Rr:= .take x.1 x.2
theorem ky:∀{xs T:List (Str×dM)},((T++xs).map fun x=>x.1).Nodup->(T++xs).length<=12->bn ⟨T,[],[]⟩ (xs.map vS)= .ok ⟨T++xs,[],[]⟩
 | [],T,_,_=>by simp[bn]
 |x::xs,T,nd,l=>by
  have e:T++x::xs=(T++ [x])++xs:=by simp
  have e1:bF ⟨T,[],[]⟩ (vS x)= .ok ⟨T++ [x],[],[]⟩:=by
   show (if x.1∈T.map (fun x=>x.1) then Except.error pw.twice else if T.length=12 then .error .full else .ok _)=_
   rw[if_neg,if_neg]
   ·simp at l;lia
   ·intro m;rw[FF,GD] at nd;exact nd.2.2 _ m x.1 (by simp) rfl
  simp only[FZ,bn,e1];rw[e] at nd l⊢;exact ky nd l
theorem qp {T:List (Str×dM)} {S:List SV} {L:List xA} {s:SV} (h:s.n∉S.map fun x=>x.n):place ⟨T,S++ [s],L⟩ s.n=some S.length:=by
 unfold place;rw[GJ];refine ⟨by simp,by simp,fun j hj=>?_⟩
 simp only[decide_eq_true_eq];rw[List.getElem_append_left hj];exact fun e=>h (FE.mpr ⟨_,List.getElem_mem hj,e⟩)
theorem jM {T:List (Str×dM)} {S:List SV} {L:List xA} {s s':SV} {f:SV->Except pw SV} (h:s.n∉S.map fun x=>x.n) (e:f s= .ok s'):cJ ⟨T,S++ [s],L⟩ s.n f= .ok ⟨T,S++ [s'],L⟩:=by
 unfold cJ;rw[qp h];simp only[Fu (F5 S.length),Nat.sub_self,List.getElem?_cons_zero,e];rw[List.set_append_right _ _ (F5 _)];simp
theorem lR {us ts:List bU} {u:bU} (nd:((us++u::ts).map fun x=>x.1).Nodup) (l:(us++u::ts).length<=12):je us u= .ok (us++ [u]):=by
 unfold je;rw[if_neg,if_neg]
 ·simp at l;lia
 ·intro m;rw[FF,GD] at nd;exact nd.2.2 _ m u.1 (by simp) rfl
theorem gR {T:List (Str×dM)} {S:List SV} {L:List xA} {n:Str} (h:n∉S.map fun x=>x.n) {w:Str} {lo hi:Nat} {f:Option dM} {sec:Option (Nat×Nat×List bU)}:∀{ts us:List bU},((us++ts).map fun x=>x.1).Nodup->(us++ts).length<=12->bn ⟨T,S++ [⟨w,n,lo,hi,f,us,sec⟩],L⟩ (ts.map fun u=> .use false n u)= .ok ⟨T,S++ [⟨w,n,lo,hi,f,us++ts,sec⟩],L⟩
 | [],us,_,_=>by simp[bn]
 |u::ts,us,nd,l=>by
  have e1:bF ⟨T,S++ [⟨w,n,lo,hi,f,us,sec⟩],L⟩ (.use false n u)= .ok ⟨T,S++ [⟨w,n,lo,hi,f,us++ [u],sec⟩],L⟩:=jM (s:=⟨w,n,lo,hi,f,us,sec⟩) h (by simp only[lR nd l])
  simp only[FZ,bn,e1];rw[show us++u::ts=(us++ [u])++ts by simp] at nd l⊢
  exact gR h nd l
theorem gS {T:List (Str×dM)} {S:List SV} {L:List xA} {n:Str} (h:n∉S.map fun x=>x.n) {w:Str} {lo hi lo2 hi2:Nat} {f:Option dM} {vs:List bU}:∀{ts us:List bU},((us++ts).map fun x=>x.1).Nodup->(us++ts).length<=12->bn ⟨T,S++ [⟨w,n,lo,hi,f,vs,some (lo2,hi2,us)⟩],L⟩ (ts.map fun u=> .use true n u)= .ok ⟨T,S++ [⟨w,n,lo,hi,f,vs,some (lo2,hi2,us++ts)⟩],L⟩
 | [],us,_,_=>by simp[bn]
 |u::ts,us,nd,l=>by
  have e1:bF ⟨T,S++ [⟨w,n,lo,hi,f,vs,some (lo2,hi2,us)⟩],L⟩ (.use true n u)= .ok ⟨T,S++ [⟨w,n,lo,hi,f,vs,some (lo2,hi2,us++ [u])⟩],L⟩:=jM (s:=⟨w,n,lo,hi,f,vs,some (lo2,hi2,us)⟩) h (by simp only[lR nd l])
  simp only[FZ,bn,e1];rw[show us++u::ts=(us++ [u])++ts by simp] at nd l⊢
  exact gS h nd l
def B9 (us:List bU):Prop:=(us.map fun x=>x.1).Nodup/\us.length<=12
theorem tK {T:List (Str×dM)} {S:List SV} {s:SV} (h:s.n∉S.map fun x=>x.n) (l:S.length<12) (u1:B9 s.uses) (u2:∀x,s.sec=some x->B9 x.2.2):bn ⟨T,S,[]⟩ (kx s)= .ok ⟨T,S++ [s],[]⟩:=by
 obtain ⟨w,n,lo,hi,f,us,sec⟩:=s;have e1:bF ⟨T,S,[]⟩ (.step w n lo hi f)= .ok ⟨T,S++ [⟨w,n,lo,hi,f,[],none⟩],[]⟩:=by
  show (if n∈S.map (fun s=>s.n) then Except.error pw.twice else if S.length=12 then .error .full else .ok _)=_
  rw[if_neg h,if_neg (by lia)]
 have e2:bn ⟨T,S,[]⟩ (.step w n lo hi f::us.map fun u=> .use false n u)= .ok ⟨T,S++ [⟨w,n,lo,hi,f,us,none⟩],[]⟩:=by
  simp only[bn,e1];exact gR (us:= []) h u1.1 u1.2
 unfold kx;rw[iR e2];cases sec with
 |none=>rfl
 |some x=>
  obtain ⟨lo2,hi2,us2⟩:=x;obtain ⟨k1,k2⟩:=u2 _ rfl;have e3:bF ⟨T,S++ [⟨w,n,lo,hi,f,us,none⟩],[]⟩ (.sec n lo2 hi2)= .ok ⟨T,S++ [⟨w,n,lo,hi,f,us,some (lo2,hi2,[])⟩],[]⟩:=jM (s:=⟨w,n,lo,hi,f,us,none⟩) h rfl;simp only[yR,bn,e3];exact gS (us:= []) h k1 k2
theorem kz {T:List (Str×dM)}:∀{ss S:List SV},((S++ss).map fun x=>x.n).Nodup->(S++ss).length<=12->(∀s∈ss,B9 s.uses/\∀x,s.sec=some x->B9 x.2.2)->bn ⟨T,S,[]⟩ (ss.map kx).flatten= .ok ⟨T,S++ss,[]⟩
 | [],S,_,_,_=>by simp[bn]
 |s::ss,S,nd,l,u=>by
  have h:s.n∉S.map fun x=>x.n:=fun m=>by
   rw[FF,GD] at nd;exact nd.2.2 _ m s.n (by simp) rfl
  have e:=tK (T:=T) h (by simp at l;lia) (u s FW).1 (u s FW).2
  rw[FZ,List.flatten_cons,iR e];rw[show S++s::ss=(S++ [s])++ss by simp] at nd l⊢
  exact kz nd l fun x hx=>u x (F8 _ hx)
theorem gr {M:Md} (nd:(M.steps.map fun x=>x.n).Nodup) {i:Nat} (hi:i<M.steps.length):place M (kM M.steps i)=some i:=by
 unfold place;rw[GJ,lK (F6 hi)];refine ⟨hi,by simp,fun j hj=>?_⟩
 have jl:j<M.steps.length:=by lia
 simp only[decide_eq_true_eq];intro e;have k1:(M.steps.map fun x=>x.n)[j]?=some M.steps[j].n:=by rw[FG,F6 jl];rfl
 have k2:(M.steps.map fun x=>x.n)[i]?=some M.steps[j].n:=by rw[FG,F6 hi,e];rfl
 have:=(List.getElem?_inj (by simpa using jl) nd).mp (k1.trans k2.symm)
 lia
theorem kA {T:List (Str×dM)} {S:List SV} (nd:(S.map fun x=>x.n).Nodup):∀{ks L:List xA},(L++ks).length<=24->(∀k∈ks,k.2.1<S.length/\k.2.2.1<S.length)->bn ⟨T,S,L⟩ (ks.map (mU S))= .ok ⟨T,S,L++ks⟩
 | [],L,_,_=>by simp[bn]
 |k::ks,L,l,h=>by
  obtain ⟨h1,h2⟩:=h k FW;have e1:bF ⟨T,S,L⟩ (mU S k)= .ok ⟨T,S,L++ [k]⟩:=by
   have p1:=gr (M:=⟨T,S,L⟩) nd h1;have p2:=gr (M:=⟨T,S,L⟩) nd h2;simp only[mU,bF];dsimp only at p1 p2;rw[p1];dsimp only;rw[p2];dsimp only;rw[if_neg (by simp at l;lia)]
  simp only[FZ,bn,e1];rw[show L++k::ks=(L++ [k])++ks by simp] at l⊢
  exact kA nd l fun x hx=>h x (F8 _ hx)
theorem vT {α:Type} {xs:List α} {f:α->Str} (h:∀(i j:Nat) (x y:α),xs[i]?=some x->xs[j]?=some y->f x=f y->i=j):(xs.map f).Nodup:=by
 unfold List.Nodup;rw[List.pairwise_iff_getElem];intro i j hi hj ij e;rw[F7] at hi hj;rw[List.getElem_map,List.getElem_map] at e;have:=h i j _ _ (F6 hi) (F6 hj) e
 lia
end Sw
namespace L2
open PySem PySem.Spec PyProof.Rows XH Sw So
end L2
namespace Sw
open PySem L2 XH Hm PySem.NumText
theorem tL {rs:List Rr} {r:Rr} {M M':Md} (h:bn ⟨[],[],[]⟩ rs= .ok M) (e:bF M r= .ok M'):bn ⟨[],[],[]⟩ (rs++ [r])= .ok M':=by
 rw[iR h];simp only[bn,e]
def dz (c:Addr) (a:V) (G:Hp) (E:XK):Prop:=∀(d:Addr) (H':Hp),ax G H'->H' d=some (.xd [("at",a)])->E (.ref c) (some d) H'
def kP (c:Addr) (G:Hp) (E:XK):Prop:=∀H',ax G H'->E (.ref c) none H'
theorem dz.low {c:Addr} {a:V} {G G':Hp} {E:XK} (h:dz c a G E) (g:ax G G'):dz c a G' E:=fun d H' k e=>h d H' (g.trans k) e
theorem kP.low {c:Addr} {G G':Hp} {E:XK} (h:kP c G E) (g:ax G G'):kP c G' E:=fun H' k=>h H' (g.trans k)
def Ca (cTw cNs cTm:Addr) (a:V) (G:Hp) (E:XK):pw->Prop
 | .twice=>dz cTw a G E
 | .nostep=>dz cNs a G E
 | .full=>kP cTm G E
def eL (cTw:Addr):Sp:=fun vs H Q E=>∃(z:Str) (l:Addr) (ts:J4) (a:V),vs= [.str z,.ref l,a]/\H l=some (.lst (ts.map V.str))/\(z∈ts->dz cTw a H E)/\(z∉ts->Q .non H)
def eB (cTm:Addr):Sp:=fun vs H Q E=>∃(l:Addr) (xs:List V) (m:Nat),vs= [.ref l,.int m]/\H l=some (.lst xs)/\(m=12∨m=24)/\(xs.length=m->kP cTm H E)/\(xs.length≠m->Q .non H)
def fG (cC cR cW cRec cNs:Addr):Sp:=fun vs H Q E=>∃(r:Addr) (z:Str) (a:V) (n:Str) (p:Nat) (M:Md),vs= [.ref r,.str z,a]/\DO cC cR cW cRec H r n p M/\M.steps.length<=1000/\(place M z=none->dz cNs a H E)/\∀i,place M z=some i->∀H',ax H H'->Q (.int i) H'
def dH (cC cR cW cRec cTw cNs cTm:Addr) (which:Rr->Prop):Sp:=fun vs H Q E=>∃(r l:Addr) (a:V) (G:Hp) (n:Str) (p:Nat) (lt ls lk:Addr) (ks:List So) (M:Md) (rr:Rr),vs= [.ref r,a,.ref l]/\which rr/\RM cC cR cW cRec G H r n p lt ls lk ks M/\LV H l (qg rr).1 (qg rr).2/\eD rr/\vP M/\(∀f,bF M rr= .error f->Ca cTw cNs cTm a G E f)/\∀M',bF M rr= .ok M'->∀(ks':List So) (H':Hp),RM cC cR cW cRec G H' r n p lt ls lk ks' M'->Q .non H'
def vU:Rr->Prop| .take _ _=>True|_=>False
def isStep:Rr->Prop| .step _ _ _ _ _=>True|_=>False
def yS:Rr->Prop| .sec _ _ _=>True|_=>False
def yT:Rr->Prop| .use _ _ _=>True|_=>False
def vV:Rr->Prop| .link _ _ _ _=>True|_=>False
def jr (cC cR cW cRec cNr:Addr):Sp:=fun vs H Q E=>∃v:V,vs= [v]/\((∃(l:Addr) (w:Str) (us:List Fv),v= .ref l/\LV H l w us/\(w≠ "dish" ->dz cNr (.int 0) H E)/\(w= "dish" ->∃n p,us= [.nm n,.num p]/\∀(r lt ls lk:Addr) (H':Hp),RM cC cR cW cRec H H' r n p lt ls lk [] ⟨[],[],[]⟩->Q (.ref r) H'))∨(v= .non/\dz cNr (.int 0) H E))
inductive fi where
 |ok (r:Rr)
 |bad (z:Str)
noncomputable def c7:fi->Str
 | .ok r=>bD r
 | .bad z=>z
def DU (z:Str):Prop:=dY z=none∨∃us,dY z=some (Str.ofString "dish",us)
def gu:fi->Prop
 | .ok r=>eD r
 | .bad z=>10∉sL z/\z.length<=400/\DU z
inductive DV where
 |row (i:Nat)
 |flt (f:pw) (i:Nat)
noncomputable def c6 (M:Md) (i:Nat):List fi->Except DV Md
 | []=> .ok M
 | .bad _::_=> .error (.row i)
 | .ok r::rs=>match bF M r with
  | .error f=> .error (.flt f i)
  | .ok M'=>c6 M' (i+1) rs
def DW (cNr cTw cNs cTm:Addr) (G:Hp) (E:XK):DV->Prop
 | .row i=>dz cNr (.int i) G E
 | .flt f i=>Ca cTw cNs cTm (.int i) G E f
inductive yU where
 |ok (n:Str) (p:Nat)
 |bad (z:Str)
noncomputable def hdT:yU->Str
 | .ok n p=>aZ n p
 | .bad z=>z
def Cb:yU->Prop
 | .ok n p=>Nm n/\1<=p/\p<=1000
 | .bad z=>10∉sL z/\z.length<=400/\∀us,dY z≠some (Str.ofString "dish",us)
def mV (cC cR cW cRec cNr cTw cNs cTm:Addr):Sp:=fun vs H Q E=>∃(h:yU) (rows:List fi),vs= [.str (Txt.join fC (hdT h::rows.map c7))]/\Cb h/\(∀x∈rows,gu x)/\rows.length<=1000/\((∃z,h= .bad z)->dz cNr (.int 0) H E)/\∀n p,h= .ok n p->(∀e,c6 ⟨[],[],[]⟩ 1 rows= .error e->DW cNr cTw cNs cTm H E e)/\∀M,c6 ⟨[],[],[]⟩ 1 rows= .ok M->∀(r lt ls lk:Addr) (ks:List So) (H':Hp),RM cC cR cW cRec H H' r n p lt ls lk ks M->Q (.ref r) H'
theorem dA {M:Md} {z:Str} {i:Nat} {s:SV} (h:M.steps[i]?=some s) (e:s.n=z) (n:∀k s,k<i->M.steps[k]?=some s->s.n≠z):place M z=some i:=by
 unfold place;rw[GJ];have il:=cy h;refine ⟨il,?_,fun j hj=>?_⟩
 ·rw[F6 il] at h;rw[FT h]
  simpa using e
 ·have:=n j _ hj (F6 (by lia))
  simpa using this
theorem iq {M:Md} {z:Str} (n:∀k s,k<M.steps.length->M.steps[k]?=some s->s.n≠z):place M z=none:=by
 unfold place;rw[List.findIdx?_eq_none_iff];intro s hs;obtain ⟨k,hk⟩:=Ft.mp hs
 simpa using n k s (cy hk) hk
variable {M:Md}
theorem oJ {g:Str} {a:dM} (h:g∈M.takes.map fun x=>x.1):bF M (.take g a)= .error .twice:=if_pos h
theorem rQ {g:Str} {a:dM} (h:g∉M.takes.map fun x=>x.1) (l:M.takes.length=12):bF M (.take g a)= .error .full:=(if_neg h).trans (if_pos l)
theorem yV {g:Str} {a:dM} (h:g∉M.takes.map fun x=>x.1) (l:M.takes.length≠12):bF M (.take g a)= .ok {M with takes:=M.takes++ [(g,a)]}:=(if_neg h).trans (if_neg l)
theorem oK {w n:Str} {lo hi:Nat} {f:Option dM} (h:n∈M.steps.map fun s=>s.n):bF M (.step w n lo hi f)= .error .twice:=if_pos h
theorem rR {w n:Str} {lo hi:Nat} {f:Option dM} (h:n∉M.steps.map fun s=>s.n) (l:M.steps.length=12):bF M (.step w n lo hi f)= .error .full:=(if_neg h).trans (if_pos l)
theorem rS {w n:Str} {lo hi:Nat} {f:Option dM} (h:n∉M.steps.map fun s=>s.n) (l:M.steps.length≠12):bF M (.step w n lo hi f)= .ok {M with steps:=M.steps++ [⟨w,n,lo,hi,f,[],none⟩]}:=(if_neg h).trans (if_neg l)
theorem mW {n:Str} {f:SV->Except pw SV} (h:place M n=none):cJ M n f= .error .nostep:=by
 unfold cJ;rw[h]
theorem iS {n:Str} {f:SV->Except pw SV} {i:Nat} {s:SV} (h:place M n=some i) (hs:M.steps[i]?=some s):cJ M n f=(match f s with| .error e=> .error e| .ok s'=> .ok {M with steps:=M.steps.set i s'}):=by
 unfold cJ;rw[h];dsimp only;rw[hs]
 try rfl
theorem rT {n:Str} {i:Nat} (h:place M n=some i):∃s,M.steps[i]?=some s/\s.n=n:=(gQ h).1.1
theorem rV {n:Str} {lo hi:Nat} (h:place M n=none):bF M (.sec n lo hi)= .error .nostep:=mW h
theorem vW {n:Str} {lo hi i:Nat} {s:SV} {x} (h:place M n=some i) (hs:M.steps[i]?=some s) (e:s.sec=some x):bF M (.sec n lo hi)= .error .twice:=by
 show cJ M n _=_;rw[iS h hs,e]
theorem Cc {n:Str} {lo hi i:Nat} {s:SV} (h:place M n=some i) (hs:M.steps[i]?=some s) (e:s.sec=none):bF M (.sec n lo hi)= .ok {M with steps:=M.steps.set i {s with sec:=some (lo,hi,[])}}:=by
 show cJ M n _=_;rw[iS h hs,e]
theorem rW {o:Bool} {n:Str} {u:bU} (h:place M n=none):bF M (.use o n u)= .error .nostep:=by
 cases o
 ·exact mW h
 ·exact mW h
theorem oM {n:Str} {u:bU} {i:Nat} {s:SV} (h:place M n=some i) (hs:M.steps[i]?=some s) (e:s.sec=none):bF M (.use true n u)= .error .nostep:=by
 show cJ M n _=_;rw[iS h hs,e]
noncomputable def mX (o:Bool) (s:SV):Option (List bU):=if o=true then s.sec.map fun x=>x.2.2 else some s.uses
noncomputable def jN (o:Bool) (s:SV) (us:List bU):SV:=if o=true then {s with sec:=s.sec.map fun x=>(x.1,x.2.1,us)} else {s with uses:=us}
theorem jt {o:Bool} {n:Str} {u:bU} {i:Nat} {s:SV} {us:List bU} (h:place M n=some i) (hs:M.steps[i]?=some s) (e:mX o s=some us):bF M (.use o n u)=(match je us u with| .error e=> .error e| .ok us'=> .ok {M with steps:=M.steps.set i (jN o s us')}):=by
 cases o with
 |false=>
  cases e;show cJ M n _=_;rw[iS h hs];cases je s.uses u<;>rfl
 |true=>
  obtain ⟨⟨lo,hi,us'⟩,e1,e2⟩:=FQ.mp (show s.sec.map (fun x=>x.2.2)=some us from e)
  cases e2;show cJ M n _=_;rw[iS h hs,e1];dsimp only;cases je us' u with
  |error e=>rfl
  |ok us2=>
   show Except.ok _=Except.ok _;unfold jN;simp only[if_true,e1,Option.map_some]
theorem kB {us:List bU} {u:bU} (h:u.1∈us.map fun x=>x.1):je us u= .error .twice:=if_pos h
theorem mY {us:List bU} {u:bU} (h:u.1∉us.map fun x=>x.1) (l:us.length=12):je us u= .error .full:=(if_neg h).trans (if_pos l)
theorem yW {us:List bU} {u:bU} (h:u.1∉us.map fun x=>x.1) (l:us.length≠12):je us u= .ok (us++ [u]):=(if_neg h).trans (if_neg l)
theorem vX {w a b:Str} {t:Nat} (h:place M a=none):bF M (.link w a b t)= .error .nostep:=by
 simp only[bF,h]
theorem oN {w a b:Str} {t i:Nat} (h:place M a=some i) (k:place M b=none):bF M (.link w a b t)= .error .nostep:=by
 simp only[bF,h,k]
theorem rX {w a b:Str} {t i j:Nat} (h:place M a=some i) (k:place M b=some j) (l:M.links.length=24):bF M (.link w a b t)= .error .full:=by
 simp only[bF,h,k];exact if_pos l
theorem Cd {w a b:Str} {t i j:Nat} (h:place M a=some i) (k:place M b=some j) (l:M.links.length≠24):bF M (.link w a b t)= .ok {M with links:=M.links++ [(w,i,j,t)]}:=by
 simp only[bF,h,k];exact if_neg l
theorem E5 {a b:Str} {p q:Prop} (h1:a≠b->p) (h2:a=b->q):if (!decide (V.str a=V.str b))=true then p else q:=by
 by_cases c:a=b
 ·rw[if_neg (by rw[decide_eq_true (congrArg V.str c)];decide)]
  exact h2 c
 ·rw[if_pos (by rw[decide_eq_false fun z=>c (V.str.inj z)];rfl)]
  exact h1 c
theorem rY {M M':Md} {i:Nat} {r:Rr} {rs:List fi} (h:bF M r= .ok M'):c6 M i (.ok r::rs)=c6 M' (i+1) rs:=by
 simp only[c6,h]
theorem gx {M:Md} {i:Nat} {r:Rr} {rs:List fi} {f:pw} (h:bF M r= .error f):c6 M i (.ok r::rs)= .error (.flt f i):=by
 simp only[c6,h]
theorem qr {x:fi} (h:gu x):10∉sL (c7 x)/\(c7 x).length<=400:=by
 cases x with
 |ok r=>exact mT h
 |bad z=>exact ⟨h.1,h.2.1⟩
theorem qt {h:yU} (k:Cb h):10∉sL (hdT h)/\(hdT h).length<=400:=by
 cases h with
 |ok n p=>exact gn k.1 k.2.2
 |bad z=>exact ⟨k.1,k.2.1⟩
theorem xS {h:yU} {rows:List fi} (k:Cb h) (ro:∀x∈rows,gu x):Txt.split (Txt.join fC (hdT h::rows.map c7)) fC=hdT h::rows.map c7:=by
 refine ot (by simp) fun w hw=>?_
 rcases F4.mp hw with rfl|hw
 ·exact (qt k).1
 ·obtain ⟨r,hr,rfl⟩:=FE.mp hw;exact (qr (ro r hr)).1
theorem Ce {h:yU} {rows:List fi} (k:Cb h) (ro:∀x∈rows,gu x) (l:rows.length<=1000):(Txt.join fC (hdT h::rows.map c7)).length<=500000:=by
 have s:=iO (m:=400) (ws:=hdT h::rows.map c7) fun w hw=>by
  rcases F4.mp hw with rfl|hw
  ·exact (qt k).2
  ·obtain ⟨r,hr,rfl⟩:=FE.mp hw;exact (qr (ro r hr)).2
 rw[iK,show fC.length=1 from rfl]
 simp only[FS,F7] at s⊢
 lia
end Sw
namespace L2
open PySem PySem.Spec PyProof.Rows XH Sw
noncomputable def lS:Value->Bool
 | .bool b=>b
 |_=>false
theorem qu {A:Around} {s:Shared}:∀{bs:List Bool} {us:J6},aV (bs.map V.bl) us->∀u∈us,SeqAt.EqAt A s u (.bool true) (lS u)
 | [],[],.nil=>fun u hu=>by cases hu
 |b::bs,u::us,.cons r t=>fun w hw=>by
  rcases F4.mp hw with rfl|hw
  ·cases r;have z:=SeqAt.EqAt.bool_bool (A:=A) (s:=s) b true;rw[show (b==true)=b by cases b<;>rfl] at z
   exact z
  ·exact qu t w hw
theorem mZ:∀{bs:List Bool} {us:J6},aV (bs.map V.bl) us->us.map lS=bs
 | [],[],.nil=>rfl
 |b::bs,u::us,.cons r t=>by
  cases r;rw[FZ,mZ t]
  rfl
theorem tM {X:Cx} {K:F0} (hK:X.K=K):yu X "list.count" (fun x vs H Q=>∃(p:Addr) (bs:List Bool),x= .ref p/\vs= [.bl true]/\aI K H p (bs.map V.bl)/\Q (.int ((bs.countP id:Nat):Int)) H):=by
 subst hK;intro pins s σ H x xs v us Q I rx rv h;obtain ⟨p,bs,rfl,rfl,hS,q⟩:=h;cases rx;obtain ⟨u,rfl,ru⟩:=rv.one;cases ru;obtain ⟨its,r,pl,hz⟩:=I.list hS;obtain ⟨⟨c,dct,dt,sl⟩,hl,hc,n,hd⟩:=pl.isList;change c= .type "list" at hc;change dt= .seq its.toArray n at hd;subst hc hd;refine call_meets PySem.F.slot_list_count ⟨_,hl,rfl⟩ PySem.F.entry_list_count (PySem.F.args_list_count_2 _ _) (SeqAt.list_countAt p its.toArray n dct sl (.bool true) lS) ⟨hl,fun y hy=>qu r y (by simpa using hy),?_⟩
 refine ⟨.int _,H,I.tok _,⟨ν⟩,?_⟩;have e:its.toArray.toList.countP lS=bs.countP id:=by
  rw[List.toList_toArray,<-mZ r,List.countP_map]
  rfl
 rw[e];exact q
theorem tN {X:Cx} {K:F0} (hK:X.K=K):yu X "list.index" (fun x vs H Q=>∃(p:Addr) (bs:List Bool) (j:Nat),x= .ref p/\vs= [.bl true]/\aI K H p (bs.map V.bl)/\j<1000/\bs[j]?=some true/\(∀k,k<j->bs[k]?=some false)/\Q (.int (j:Int)) H):=by
 subst hK;intro pins s σ H x xs v us Q I rx rv h;obtain ⟨p,bs,j,rfl,rfl,hS,j1,hj,hk,q⟩:=h;cases rx;obtain ⟨u,rfl,ru⟩:=rv.one;cases ru;obtain ⟨its,r,pl,hz⟩:=I.list hS;obtain ⟨⟨c,dct,dt,sl⟩,hl,hc,n,hd⟩:=pl.isList;change c= .type "list" at hc;change dt= .seq its.toArray n at hd;subst hc hd;have em:=mZ r;have at_:∀k b,bs[k]?=some b->∃h:k<its.length,lS its[k]=b:=fun k b hb=>by
  rw[<-em,FG] at hb;obtain ⟨y,hy,e⟩:=FQ.mp hb;have il:=(FL.mp hy).1;refine ⟨il,?_⟩;rw[F6 il] at hy;rw[FT hy];exact e
 obtain ⟨jl,ej⟩:=at_ j true hj;refine call_meets PySem.F.slot_list_index ⟨_,hl,rfl⟩ PySem.F.entry_list_index (PySem.F.args_list_index_2 _ _) (SeqAt.list_indexAt p its.toArray n dct sl (.bool true) lS j (by simpa using jl) (by lia) (by simpa using ej) (fun m hm hlt=>?_)) ⟨hl,fun y hy=>qu r y (by simpa using hy),?_⟩
 ·obtain ⟨_,e⟩:=at_ m false (hk m hlt)
  simpa using e
 ·exact ⟨.int _,H,I.tok _,⟨ν⟩,q⟩
theorem vY {X:Cx} {K:F0} {T:String} {name:Str} {id:String} {r:V->List V->Hp->VK->Prop} {o:Expr} {to:TE} {e:Expr} {es:List Expr} {t:TA} {apos cpos:Pos} (hK:X.K=K) (pa:PlainAttrs T) (slot:Slot T name id) (hty:typeOf (.builtin id)=pure (.type "method_descriptor")) (hm:yu X id r) (ho:PE X o to) (ha:PA X (e::es) t)
  (hbase:attributeBase o name X.env (eval o X.env)=eval o X.env:=by rfl)
  (hfew:((backTo cpos (starEach (e::es) X.env)).all (fun x=> !x.1)&&(backToKw cpos (keywordEach [] X.env)).all (fun x=>x.1.isSome)&&decide ((e::es).length+([]:List Keyword).length+(if ([]:List Keyword).isEmpty then 0 else 1)<30))=true:=by rfl)
  (hline:(apos.endLine==cpos.line)=true:=by rfl) (hs:starEach (e::es) X.env=(false,eval e X.env)::starEach es X.env:=by rfl) (hplain:(backTo cpos (starEach es X.env)).any (·.1)=false:=by rfl):
  PE X (.Call (.Attribute o name apos) (e::es) [] cpos) (Ez K T r to t):=by
 subst hK;exact cZ pa slot hty hm ho ha hbase hfew hline hs hplain
end L2
namespace Sw
open PySem L2 XH Hm PySem.NumText
noncomputable def outF:DV->Str×Int
 | .row i=>("row",(i:Int))
 | .flt .twice i=>("twice",(i:Int))
 | .flt .nostep i=>("step",(i:Int))
 | .flt .full _=>("room",-1)
noncomputable def kQ (h:yU) (rows:List fi):Str×Int:=match h with
 | .bad _=>("row",0)
 | .ok _ _=>match c6 ⟨[],[],[]⟩ 1 rows with
  | .ok _=>("none",-1)
  | .error e=>outF e
def gU:Sp:=fun vs H Q _=>∃(h:yU) (rows:List fi),vs= [.str (Txt.join fC (hdT h::rows.map c7))]/\Cb h/\(∀x∈rows,gu x)/\rows.length<=1000/\∀(t:Addr) (H':Hp),ax H H'->H' t=some (.tup [.str (kQ h rows).1,.int (kQ h rows).2])->Q (.ref t) H'
structure Zf (zs:J4):Prop where
 len:zs.length=14
 nd:zs.Nodup
 nm:∀z∈zs,Nm z
theorem Zf.at_ {zs:J4} (h:Zf zs) {i:Nat} (hi:i<14):∃z,zs[i]?=some z/\Nm z:=by
 have il:i<zs.length:=by rw[h.len];exact hi
 exact ⟨_,F6 il,h.nm _ (List.getElem_mem il)⟩
theorem Zf.inj {zs:J4} (h:Zf zs) {i j:Nat} {z:Str} (hi:zs[i]?=some z) (hj:zs[j]?=some z):i=j:=(List.getElem?_inj (FL.mp hi).1 h.nd).mp (hi.trans hj.symm)
noncomputable def zA (zs:J4) (k:Nat):Str:=zs.getD k Str.empty
theorem b8 {zs:J4} {k:Nat} {z:Str} (h:zs[k]?=some z):zA zs k=z:=by simp[zA,List.getD,h]
noncomputable def ic (zs:J4) (k:Nat):Rr:= .step "rest" (zA zs k) 2 (3+k) none
noncomputable def cL (zs:J4) (sort k:Nat):Rr:=match sort with
 |0=> .take (zA zs k) (1+k,1)
 |1=>ic zs k
 |2=> .use false (zA zs 0) (zA zs k,1,k)
 |3=> .use true (zA zs 0) (zA zs k,2,k)
 |_=> .link "within" (zA zs (k % 3)) (zA zs ((k+1) % 3)) k
noncomputable def bO (zs:J4) (sort:Nat):List Rr:=match sort with
 |0=> []
 |1=> []
 |2=> .step "cut" (zA zs 0) 1 2 none:: .sec (zA zs 0) 3 4::(FI 7).map fun k=> .use true (zA zs 0) (zA zs k,1,0)
 |3=> .step "cut" (zA zs 0) 1 2 none:: .sec (zA zs 0) 3 4::(FI 7).map fun k=> .use false (zA zs 0) (zA zs k,1,0)
 |_=>(FI 3).map (ic zs)
theorem m7 (k:Nat):nA (k,1)=aA k:=by
 unfold nA dv aA;simp[Nat.mod_one]
theorem vZ (z:Str) (k:Nat):Str.ofString "rest " ++z++Str.ofString " 2 " ++aA k=bD (.step "rest" z 2 k none):=by
 show _=jB ["rest",z,aA 2,aA k];rw[aF,aF,aF,kN,show Str.ofString "rest " =Str.ofString "rest" ++cv from by decide,show Str.ofString " 2 " =cv++aA 2++cv from by decide+kernel]
 simp only[aW]
theorem Ah (z:Str) (k:Nat):Str.ofString "take " ++z++Str.ofString " " ++aA k=bD (.take z (k,1)):=by
 show _=jB ["take",z,nA (k,1)];rw[m7,aF,aF,kN,show Str.ofString "take " =Str.ofString "take" ++cv from by decide,show Str.ofString " " =cv from by decide]
 simp only[aW]
theorem Ai (z y:Str) (k:Nat):Str.ofString "with " ++z++Str.ofString " " ++y++Str.ofString " 1 " ++aA k=bD (.use false z (y,1,k)):=by
 show _=jB ["with",z,y,aA 1,aA k];rw[aF,aF,aF,aF,kN,show Str.ofString "with " =Str.ofString "with" ++cv from by decide,show Str.ofString " 1 " =cv++aA 1++cv from by decide+kernel,show Str.ofString " " =cv from by decide]
 simp only[aW]
theorem Cf (z y:Str) (k:Nat):Str.ofString "orwith " ++z++Str.ofString " " ++y++Str.ofString " 2 " ++aA k=bD (.use true z (y,2,k)):=by
 show _=jB ["orwith",z,y,aA 2,aA k];rw[aF,aF,aF,aF,kN,show Str.ofString "orwith " =Str.ofString "orwith" ++cv from by decide,show Str.ofString " 2 " =cv++aA 2++cv from by decide+kernel,show Str.ofString " " =cv from by decide]
 simp only[aW]
theorem v4 (z y:Str) (k:Nat):Str.ofString "within " ++z++Str.ofString " " ++y++Str.ofString " " ++aA k=bD (.link "within" z y k):=by
 show _=jB (f9 "within" z y k);unfold f9;rw[if_pos rfl];show _=jB ["within",z,y,aA k];rw[aF,aF,aF,kN,show Str.ofString "within " =Str.ofString "within" ++cv from by decide,show Str.ofString " " =cv from by decide]
 simp only[aW]
def kC:Sp:=fun vs H Q _=>∃(ln:Addr) (zs:J4) (m:Nat),vs= [.ref ln,.int m]/\H ln=some (.lst (zs.map V.str))/\m<=zs.length/\m<=14/\(∀z∈zs,Nm z)/\∀(l:Addr) (H':Hp),ax H H'->H l=none->H' l=some (.lst (((FI m).map fun k=>bD (ic zs k)).map V.str))->Q (.ref l) H'
def jj:Sp:=fun vs H Q _=>∃(ln:Addr) (zs:J4) (sort k:Nat),vs= [.ref ln,.int sort,.int k]/\H ln=some (.lst (zs.map V.str))/\Zf zs/\sort<5/\(sort<4->k<14)/\k<=30/\Q (.str (bD (cL zs sort k))) H
theorem gW {x:Int} {n:Nat} (h:x=(n:Int)) (l:n<=999999999):x.natAbs.log2<1920:=by
 rw[h];exact zO l
theorem fH {x:Int} {n:Nat} (h:x=(n:Int)):Str.ofString (toString x)=aA n:=by
 rw[h];exact B3 n
theorem lT (z:Str):(Str.ofString "dish " ++z)++Str.ofString " 5" =aZ z 5:=by
 show _=jB ["dish",z,aA 5];rw[<-vE];have e:Str.ofString " 5" =Str.ofString " " ++aA 5:=by decide+kernel
 rw[e,<-aW]
theorem m8 (z:Str):Str.ofString "cut " ++z++Str.ofString " 1 2" =bD (.step "cut" z 1 2 none):=by
 show _=jB ["cut",z,aA 1,aA 2];rw[aF,aF,aF,kN,show Str.ofString "cut " =Str.ofString "cut" ++cv from by decide,show Str.ofString " 1 2" =cv++aA 1++cv++aA 2 from by decide+kernel]
 simp only[aW]
theorem v5 (z:Str):Str.ofString "or " ++z++Str.ofString " 3 4" =bD (.sec z 3 4):=by
 show _=jB ["or",z,aA 3,aA 4];rw[aF,aF,aF,kN,show Str.ofString "or " =Str.ofString "or" ++cv from by decide,show Str.ofString " 3 4" =cv++aA 3++cv++aA 4 from by decide+kernel]
 simp only[aW]
noncomputable def oO (o:Bool):Str:=if o=true then Str.ofString "orwith " else Str.ofString "with "
theorem m9 (o:Bool) (z y:Str):oO o++z++Str.ofString " " ++y++Str.ofString " 1 0" =bD (.use o z (y,1,0)):=by
 have e:oO o=(if o=true then Str.ofString "orwith" else Str.ofString "with")++cv:=by cases o<;>decide
 show _=jB [if o=true then Str.ofString "orwith" else Str.ofString "with",z,y,aA 1,aA 0]
 rw[e,aF,aF,aF,aF,kN,show Str.ofString " 1 0" =cv++aA 1++cv++aA 0 from by decide+kernel,show Str.ofString " " =cv from by decide]
 simp only[aW]
def kD:Sp:=fun vs H Q _=>∃(ln:Addr) (zs:J4) (sort:Nat),vs= [.ref ln,.int sort]/\H ln=some (.lst (zs.map V.str))/\Zf zs/\sort<5/\∀(l:Addr) (H':Hp),ax H H'->H l=none->H' l=some (.lst ((aZ (zA zs 13) 5::(bO zs sort).map bD).map V.str))->Q (.ref l) H'
theorem iT {ts:List fi}:∀{rs:List Rr} {M M':Md} {i:Nat},bn M rs= .ok M'->c6 M i (rs.map .ok++ts)=c6 M' (i+rs.length) ts
 | [],M,M',i,h=>by cases h;rfl
 |r::rs,M,M',i,h=>by
  obtain ⟨M1,e1,e2⟩:=vQ h;rw[FZ,Fq,rY e1,iT e2]
  congr 1
  simp;omega
noncomputable def bB (zs:J4) (m n:Nat) (h:Nat->Nat):List bU:=(FI m).map fun k=>(zA zs k,n,h k)
noncomputable def fM (zs:J4) (us:List bU) (vs:List bU):SV:=⟨"cut",zA zs 0,1,2,none,us,some (3,4,vs)⟩
noncomputable def fN (zs:J4) (k:Nat):SV:=⟨"rest",zA zs k,2,3+k,none,[],none⟩
noncomputable def bC (zs:J4) (sort m:Nat):Md:=match sort with
 |0=>⟨(FI m).map fun k=>(zA zs k,(1+k,1)),[],[]⟩
 |1=>⟨[],(FI m).map (fN zs),[]⟩
 |2=>⟨[],[fM zs (bB zs m 1 id) (bB zs 7 1 fun _=>0)],[]⟩
 |3=>⟨[],[fM zs (bB zs 7 1 fun _=>0) (bB zs m 2 id)],[]⟩
 |_=>⟨[],(FI 3).map (fN zs),(FI m).map fun k=>(Str.ofString "within",k % 3,(k+1) % 3,k)⟩
variable {zs:J4}
theorem Zf.zA_inj (z:Zf zs) {i j:Nat} (hi:i<14) (hj:j<14) (e:zA zs i=zA zs j):i=j:=by
 obtain ⟨a,ha,_⟩:=z.at_ hi;obtain ⟨b,hb,_⟩:=z.at_ hj;rw[b8 ha,b8 hb] at e;subst e;exact z.inj ha hb
theorem dB {α:Type} {f:Nat->α} {m i:Nat} {x:α} (h:((FI m).map f)[i]?=some x):i<m/\f i=x:=by
 rw[FG] at h;obtain ⟨k,hk,rfl⟩:=FQ.mp h;have:=FL.mp hk;obtain ⟨h1,h2⟩:=this;rw[List.getElem_range] at h2;subst h2;exact ⟨by simpa using h1,rfl⟩
theorem dk (z:Zf zs) {α:Type} {f:Nat->α} {g:α->Str} {m:Nat} (hm:m<=14) (h:∀k,g (f k)=zA zs k):(((FI m).map f).map g).Nodup:=vT fun i j x y h1 h2 e=>by
 obtain ⟨l1,rfl⟩:=dB h1;obtain ⟨l2,rfl⟩:=dB h2;rw[h,h] at e;exact z.zA_inj (by lia) (by lia) e
theorem jO (z:Zf zs) {m n:Nat} {h:Nat->Nat} (hm:m<=12):B9 (bB zs m n h):=⟨dk z (by lia) fun k=>rfl,by simp[bB];lia⟩
theorem v6 (ss:List SV) (h:∀s∈ss,s.uses= []/\s.sec=none):(ss.map kx).flatten=ss.map fun s=> .step s.w s.n s.lo s.hi s.fill:=by
 induction ss with
 |nil=>rfl
 |cons s ss ih=>
  rw[FZ,List.flatten_cons,ih fun x hx=>h x (F8 _ hx),FZ]
  obtain ⟨h1,h2⟩:=h s FW;unfold kx;rw[h1,h2]
  rfl
theorem oP (z:Zf zs) {m:Nat} (hm:m<=12):bn ⟨[],[],[]⟩ ((FI m).map (ic zs))= .ok ⟨[],(FI m).map (fN zs),[]⟩:=by
 have k:=kz (T:= []) (S:= []) (ss:=(FI m).map (fN zs)) (dk z (by lia) fun k=>rfl) (by simp;lia) (fun s hs=>by
  obtain ⟨k,_,rfl⟩:=FE.mp hs;exact ⟨⟨List.nodup_nil,by simp[fN]⟩,fun x hx=>by cases hx⟩)
 rw[v6 _ fun s hs=>by
  obtain ⟨k,_,rfl⟩:=FE.mp hs;exact ⟨rfl,rfl⟩,Fe,GK] at k
 exact k
theorem v7 (z:Zf zs) {sort:Nat} (hs:sort<5):bn ⟨[],[],[]⟩ (bO zs sort)= .ok (bC zs sort 0):=by
 have c1:bF ⟨[],[],[]⟩ (.step "cut" (zA zs 0) 1 2 none)= .ok ⟨[],[⟨"cut",zA zs 0,1,2,none,[],none⟩],[]⟩:=rS (by simp) (by decide)
 have c2:bF ⟨[],[⟨"cut",zA zs 0,1,2,none,[],none⟩],[]⟩ (.sec (zA zs 0) 3 4)= .ok ⟨[],[⟨"cut",zA zs 0,1,2,none,[],some (3,4,[])⟩],[]⟩:=jM (S:= []) (s:=⟨"cut",zA zs 0,1,2,none,[],none⟩) (by simp) rfl
 match sort,hs with
 |0,_=>rfl
 |1,_=>rfl
 |2,_=>
  show bn _ (_::_::_)=_;simp only[bn,c1,c2];have k:=gS (T:= []) (S:= []) (L:= []) (n:=zA zs 0) (by simp) (w:= "cut") (lo:=1) (hi:=2) (lo2:=3) (hi2:=4) (f:=none) (vs:= []) (us:= []) (ts:=bB zs 7 1 fun _=>0) (jO z (by decide)).1 (by simp[bB])
  unfold bB at k;rw[Fe] at k;exact k
 |3,_=>
  show bn _ (_::_::_)=_;simp only[bn,c1,c2];have k:=gR (T:= []) (S:= []) (L:= []) (n:=zA zs 0) (by simp) (w:= "cut") (lo:=1) (hi:=2) (f:=none) (sec:=some (3,4,[])) (us:= []) (ts:=bB zs 7 1 fun _=>0) (jO z (by decide)).1 (by simp[bB])
  unfold bB at k;rw[Fe] at k;exact k
 |4,_=>exact oP z (m:=3) (by decide)
theorem xT (z:Zf zs) {sort m:Nat} (hs:sort<5) (hm:m<=if sort=4 then 24 else 12):bn (bC zs sort 0) ((FI m).map (cL zs sort))= .ok (bC zs sort m):=by
 match sort,hs,hm with
 |0,_,hm=>
  have hm:m<=12:=hm;have k:=ky (T:= []) (xs:=(FI m).map fun k=>(zA zs k,((1+k,1):dM))) (dk z (by lia) fun k=>rfl) (by simp;lia)
  rw[Fe] at k;exact k
 |1,_,hm=>exact oP z hm
 |2,_,hm=>
  have hm:m<=12:=hm;have k:=gR (T:= []) (S:= []) (L:= []) (n:=zA zs 0) (by simp) (w:= "cut") (lo:=1) (hi:=2) (f:=none) (sec:=some (3,4,bB zs 7 1 fun _=>0)) (us:= []) (ts:=bB zs m 1 id) (jO z hm).1 (by simp[bB];lia)
  unfold bB at k;rw[Fe] at k;exact k
 |3,_,hm=>
  have hm:m<=12:=hm;have k:=gS (T:= []) (S:= []) (L:= []) (n:=zA zs 0) (by simp) (w:= "cut") (lo:=1) (hi:=2) (lo2:=3) (hi2:=4) (f:=none) (vs:=bB zs 7 1 fun _=>0) (us:= []) (ts:=bB zs m 2 id) (jO z hm).1 (by simp[bB];lia)
  unfold bB at k;rw[Fe] at k;exact k
 |4,_,hm=>
  have hm:m<=24:=hm;have nd:(((FI 3).map (fN zs)).map fun x=>x.n).Nodup:=dk z (by decide) fun k=>rfl
  have k:=kA (T:= []) (S:=(FI 3).map (fN zs)) nd (L:= []) (ks:=(FI m).map fun k=>(Str.ofString "within",k % 3,(k+1) % 3,k)) (by simp;lia) (fun x hx=>by
   obtain ⟨k,_,rfl⟩:=FE.mp hx;refine ⟨?_,?_⟩<;>(simp;lia))
  rw[Fe,GK] at k;have e:(FI m).map (cL zs 4)=(FI m).map (mU ((FI 3).map (fN zs)) ∘ fun k=>(Str.ofString "within",k % 3,(k+1) % 3,k)):=by
   refine List.map_congr_left fun k _=>?_
   have nm:∀j,j<3->kM ((FI 3).map (fN zs)) j=zA zs j:=fun j hj=>by
    match j,hj with
    |0,_=>rfl
    |1,_=>rfl
    |2,_=>rfl
   show Rr.link "within" (zA zs (k % 3)) (zA zs ((k+1) % 3)) k=Rr.link "within" (kM _ (k % 3)) (kM _ ((k+1) % 3)) k;rw[nm _ (by lia),nm _ (by lia)]
  rw[e];exact k
theorem tO (z:Zf zs) {sort:Nat} (hs:sort<5):bF (bC zs sort (if sort=4 then 24 else 12)) (cL zs sort (if sort=4 then 24 else 12))= .error .full:=by
 have no:∀{α:Type} {f:Nat->α} {g:α->Str},(∀k,g (f k)=zA zs k)->zA zs 12∉((FI 12).map f).map g:=fun h m=>by
  obtain ⟨x,hx,e⟩:=FE.mp m;obtain ⟨k,hk,rfl⟩:=FE.mp hx;rw[h] at e;have:=z.zA_inj (by have:=G0.mp hk;lia) (by decide) e
  have:=G0.mp hk
  lia
 match sort,hs with
 |0,_=>exact rQ (M:=bC zs 0 12) (no fun k=>rfl) (by simp[bC])
 |1,_=>exact rR (M:=bC zs 1 12) (no fun k=>rfl) (by simp[bC])
 |2,_=>
  have k:=jt (M:=bC zs 2 12) (o:=false) (n:=zA zs 0) (u:=(zA zs 12,1,12)) (i:=0) (s:=fM zs (bB zs 12 1 id) (bB zs 7 1 fun _=>0)) (us:=bB zs 12 1 id) (dA (s:=fM zs (bB zs 12 1 id) (bB zs 7 1 fun _=>0)) rfl rfl fun k s hk=>absurd hk (Nat.not_lt_zero _)) rfl rfl
  rw[mY (us:=bB zs 12 1 id) (u:=(zA zs 12,1,12)) (no fun k=>rfl) (by simp[bB])] at k
  exact k
 |3,_=>
  have k:=jt (M:=bC zs 3 12) (o:=true) (n:=zA zs 0) (u:=(zA zs 12,2,12)) (i:=0) (s:=fM zs (bB zs 7 1 fun _=>0) (bB zs 12 2 id)) (us:=bB zs 12 2 id) (dA (s:=fM zs (bB zs 7 1 fun _=>0) (bB zs 12 2 id)) rfl rfl fun k s hk=>absurd hk (Nat.not_lt_zero _)) rfl rfl
  rw[mY (us:=bB zs 12 2 id) (u:=(zA zs 12,2,12)) (no fun k=>rfl) (by simp[bB])] at k
  exact k
 |4,_=>
  have nd:((bC zs 4 24).steps.map fun x=>x.n).Nodup:=dk z (m:=3) (by decide) fun k=>rfl
  exact rX (M:=bC zs 4 24) (w:= "within") (gr nd (i:=0) (by simp[bC])) (gr nd (i:=1) (by simp[bC])) (by simp[bC])
theorem Aj (a:dM):vq (yI a):=fun x hx=>by
 simp only[yI,F4,FC,or_false] at hx;rcases hx with rfl|rfl<;>trivial
theorem v8 {cC cR cW cRec cNr cTw cNs cTm:Addr}:∀vs H Q E,jh cC cR cW cRec vs H Q E->mV cC cR cW cRec cNr cTw cNs cTm vs H Q E0:=by
 rintro vs H Q E ⟨n,p,rs,M,rfl,nm,p1,p2,ro,l,hp,q⟩;have run:c6 ⟨[],[],[]⟩ 1 (rs.map .ok)= .ok M:=by
  have k:=iT (ts:= []) (i:=1) hp;rw[Fm] at k;rw[k]
  rfl
 refine ⟨.ok n p,rs.map .ok,?_,⟨nm,p1,p2⟩,fun x hx=>?_,by simpa using l,fun ⟨z,hz⟩=>(by cases hz),fun n' p' e=>?_⟩
 ·rw[Fe]
  rfl
 ·obtain ⟨r,hr,rfl⟩:=FE.mp hx;exact ro r hr
 ·cases e;refine ⟨fun e he=>?_,fun M' hM=>?_⟩
  ·rw[run] at he;cases he
  ·rw[run] at hM;cases hM;exact q
noncomputable def Cg (zs:J4) (sort k:Nat):List Th:=match sort with
 |1=> [.t (zA zs k),.n (3+k)]
 |2=> [.t (zA zs k),.n 1,.n k]
 |3=> [.t (zA zs k),.n 2,.n k]
 |_=> [.t "within",.n (k % 3),.n ((k+1) % 3),.n k]
def kR (zs:J4) (sort k:Nat) (H:Hp) (v:V):Prop:=∃l,v= .ref l/\if sort=0 then ∃t,H l=some (.lst [.str (zA zs k),.ref t])/\H t=some (.tup (yI (1+k,1))) else H l=some (.lst ((Cg zs sort k).map EE))
theorem kR.same {zs:J4} {sort k:Nat} {H H':Hp} {v:V} (h:kR zs sort k H v) (g:ax H H'):kR zs sort k H' v:=by
 obtain ⟨l,e,h⟩:=h;refine ⟨l,e,?_⟩
 split at h
 ·obtain ⟨t,e1,e2⟩:=h;rename_i c;rw[if_pos c];exact ⟨t,g _ _ e1,g _ _ e2⟩
 ·rename_i c;rw[if_neg c];exact g _ _ h
theorem kR.alk {K:F0} {zs:J4} {sort k:Nat} {H:Hp} {v w:V} (h:kR zs sort k H v) (h':kR zs sort k H w):zG K H 2 v w:=by
 obtain ⟨l,rfl,h⟩:=h;obtain ⟨l',rfl,h'⟩:=h'
 by_cases c:sort=0
 ·rw[if_pos c] at h h';obtain ⟨t,e1,e2⟩:=h;obtain ⟨t',f1,f2⟩:=h';exact .inr ⟨l,l',ω,.inr ⟨aI.of e1,aI.of f1⟩,⟨.inl ⟨rfl,trivial⟩,.inr ⟨t,t',ω,.inl ⟨cM.of e2,cM.of f2⟩,n8 (Aj _)⟩,trivial⟩⟩
 ·rw[if_neg c] at h h';refine .inl (.inr ⟨l,l',ω,.inr ⟨aI.of h,aI.of h'⟩,n8 fun x hx=>?_⟩)
  obtain ⟨y,_,rfl⟩:=FE.mp hx;cases y<;>trivial
def rZ (cC cR cW cRec:Addr):Sp:=fun vs H Q _=>∃(v:V) (r:Addr) (zs:J4) (sort m:Nat) (n:Str) (p:Nat),vs= [v,.int sort,.ref r]/\DO cC cR cW cRec H r n p (bC zs sort m)/\sort<5/\m<=30/\∀(l:Addr) (vs':List V) (H':Hp),ax H H'->H' l=some (.lst vs')->vs'.length=m->(∀(i:Nat) (w:V),vs'[i]?=some w->kR zs sort i H' w)->Q (.ref l) H'
def gy (zs:J4) (sort:Nat):RA Nat:=fun P H v k=>∃l,v= .ref l/\P l/\if sort=0 then ∃t,P t/\H l=some (.lst [.str (zA zs k),.ref t])/\H t=some (.tup (yI (1+k,1))) else H l=some (.lst ((Cg zs sort k).map EE))
instance {zs:J4} {sort:Nat}:Mv (gy zs sort) where
 mv:=fun {P P' H H' v x} g h=>by
  obtain ⟨l,e,pl,h⟩:=h
  by_cases c:sort=0
  ·rw[if_pos c] at h;obtain ⟨t,pt,e1,e2⟩:=h;exact ⟨l,e,(g l _ pl rfl e1).1,by rw[if_pos c];exact ⟨t,(g t _ pt rfl e2).1,(g l _ pl rfl e1).2,(g t _ pt rfl e2).2⟩⟩
  ·rw[if_neg c] at h;exact ⟨l,e,(g l _ pl rfl h).1,by rw[if_neg c];exact (g l _ pl rfl h).2⟩
theorem gy.a {zs:J4} {sort k:Nat} {P:Addr->Prop} {H:Hp} {v:V} (h:gy zs sort P H v k):kR zs sort k H v:=by
 obtain ⟨l,e,_,h⟩:=h;refine ⟨l,e,?_⟩
 by_cases c:sort=0
 ·rw[if_pos c] at h⊢;obtain ⟨t,_,e1,e2⟩:=h;exact ⟨t,e1,e2⟩
 ·rw[if_neg c] at h⊢;exact h
theorem gX {zs:J4} {sort m:Nat} {P:Addr->Prop} {H:Hp} {vs:List V} (r:A2 (gy zs sort P H) vs ((FI m).map fun i=>i)):vs.length=m/\∀(i:Nat) (w:V),vs[i]?=some w->kR zs sort i H w:=by
 have hl:=r.1;rw[F7,GL] at hl;refine ⟨hl,fun i w hw=>?_⟩
 have il:=cy hw;exact (r.2 i w i hw (by rw[FG,List.getElem?_range (by lia)];rfl)).a
def v9:Sp:=fun vs H Q _=>∃(ln:Addr) (zs:J4) (sort k:Nat),vs= [.ref ln,.int sort,.int k]/\H ln=some (.lst (zs.map V.str))/\Zf zs/\sort<5/\(sort<4->k<14)/\k<=30/\∀(v:V) (H':Hp),ax H H'->gy zs sort (fun a=>H a=none) H' v k->Q v H'
theorem xU {K:F0} {β:Type} {l1:Addr} {xs:List V} {n:Nat} {g:TG} {js:List Nat} {te:TE} {σ:L2.St} {H1:Hp} {Q:VK} (R:RA β) [Mv R] (Z:Addr->Prop) (f:Nat->β) (q1:aI K H1 l1 xs) (hz:xs.length<=sizeLine) (hZ:∀a,Z a->H1 a≠none)
  (step:∀(i:Nat) (x:V),xs[i]?=some x->∀H2,ax H1 H2->∀o:L2.St,o.length=n->∀Q':VK,(∀v H5,ax H2 H5->R (fun a=>H2 a=none∨Z a) H5 v (f i)->Q' v H5)->
   g x (o++a7 js σ) H2 fun σ4 H4=>(∃o':L2.St,o'.length=n/\σ4=o'++a7 js σ)/\te σ4 H4 Q')
  (fin:∀p H',H1 p=none->ax H1 H'->pq R (fun a=>a≠p/\(H1 a=none∨Z a)) H' p ((FI xs.length).map f)->Q (.ref p) H'):vf n g js te σ Q (Bk K l1) H1:=by
 intro p hp;refine ⟨fun i m zs H2=>i<=xs.length/\m=xs.length-i/\ax H1 H2/\H2 p=some (.lst zs)/\A2 (R (fun a=>a≠p/\(H1 a=none∨Z a)) H2) zs ((FI i).map f),⟨xs.length,G7 _,rfl,Sw.ah hp _,ac,A2.nil⟩,?_⟩
 rintro i m zs H2 ⟨hi,rfl,gg,e,r⟩;refine ⟨e,?_⟩;have s1:=gg.seq q1
 by_cases hin:i<xs.length
 ·refine .inr ⟨⟨xs,xs[i]'(by lia),s1,F6 _⟩,?_,fun x H3 hy o ho=>?_⟩
  ·have:=r.1;rw[F7,GL] at this
   lia
  obtain ⟨rfl,hx⟩:=hy;refine step i x (hx xs s1) H3 gg o ho _ fun v H5 g25 ry=>?_
  refine ⟨g25 _ _ e,xs.length-(i+1),by lia,hin,rfl,Sw.ja (gg.trans g25) hp _,ac,?_⟩
  rw[GZ,FF];have np:¬(p≠p/\(H1 p=none∨Z p)):=fun z=>z.1 rfl
  refine ((r.imp fun v b q=>BY q g25).snoc (DJ ry fun a ha=>?_)).imp fun v b q=>EB q np _
  rcases ha with h|h
  ·exact ⟨(fun z=>by rw[z,e] at h;cases h),.inl (gg.free h)⟩
  ·exact ⟨fun z=>hZ a h (z▸hp),.inr h⟩
 ·have e2:i=xs.length:=by lia
  subst e2;exact .inl ⟨⟨xs,s1,F5 _⟩,fin p H2 hp gg ⟨zs,e,r⟩⟩
theorem Ak {h:Str} {rs:List Rr} (hh:h.length<=400) (ok:∀r∈rs,eD r) (l:rs.length<=1000):((h::rs.map bD).map fun x=>x.length).sum+(h::rs.map bD).length<=1048576:=by
 have s:=iO (m:=400) (ws:=h::rs.map bD) fun w hw=>by
  rcases F4.mp hw with rfl|hw
  ·exact hh
  ·obtain ⟨r,hr,rfl⟩:=FE.mp hw;exact (mT (ok r hr)).2
 simp only[FS,F7] at s⊢
 lia
theorem Zf.zA_nm (z:Zf zs) {i:Nat} (hi:i<14):Nm (zA zs i):=by
 obtain ⟨a,ha,n⟩:=z.at_ hi;rw[b8 ha];exact n
theorem lU (z:Zf zs) {sort k:Nat} (hs:sort<5) (h:sort<4->k<14) (k30:k<=30):eD (cL zs sort k):=by
 match sort,hs,h with
 |0,_,h=>exact ⟨z.zA_nm (h (by decide)),(vD (w:=1+k) (by lia) (GB (show 1+k<=31 by lia) (by decide+kernel))).1⟩
 |1,_,h=>exact ⟨.inr (.inl rfl),z.zA_nm (h (by decide)),⟨by decide,by lia,by lia⟩,show Str.ofString "rest" ≠ "warm" from by decide⟩
 |2,_,h=>exact ⟨z.zA_nm (by decide),z.zA_nm (h (by decide)),by show 1<=1;decide,by show 1<=8;decide,by show k<=1000;lia⟩
 |3,_,h=>exact ⟨z.zA_nm (by decide),z.zA_nm (h (by decide)),by show 1<=2;decide,by show 2<=8;decide,by show k<=1000;lia⟩
 |4,_,_=>
  refine ⟨.inr (.inl rfl),z.zA_nm (by lia),z.zA_nm (by lia),fun e=>?_,by show k<=100000;lia,fun n=>absurd rfl n⟩
  have:=z.zA_inj (by lia) (by lia) e
  lia
theorem qw (z:Zf zs) {sort:Nat} (hs:sort<5):∀r∈bO zs sort,eD r:=fun r hr=>by
 have c:eD (.step "cut" (zA zs 0) 1 2 none):=⟨.inl rfl,z.zA_nm (by decide),⟨by decide,by decide,by decide⟩,show Str.ofString "cut" ≠ "warm" from by decide⟩
 have s:eD (.sec (zA zs 0) 3 4):=⟨z.zA_nm (by decide),by decide,by decide,by decide⟩
 have u:∀(o:Bool),∀r∈(FI 7).map (fun k=>Rr.use o (zA zs 0) (zA zs k,1,0)),eD r:=fun o r hr=>by
  obtain ⟨k,hk,rfl⟩:=FE.mp hr;have:=G0.mp hk;exact ⟨z.zA_nm (by decide),z.zA_nm (by lia),by show 1<=1;decide,by show 1<=8;decide,by show 0<=1000;decide⟩
 match sort,hs,hr with
 |2,_,hr=>
  rcases F4.mp hr with rfl|hr
  ·exact c
  rcases F4.mp hr with rfl|hr
  ·exact s
  exact u true r hr
 |3,_,hr=>
  rcases F4.mp hr with rfl|hr
  ·exact c
  rcases F4.mp hr with rfl|hr
  ·exact s
  exact u false r hr
 |4,_,hr=>
  obtain ⟨k,hk,rfl⟩:=FE.mp hr;have:=G0.mp hk;exact lU z (sort:=1) (by decide) (fun _=>by lia) (by lia)
 |0,_,hr=>cases hr
 |1,_,hr=>cases hr
noncomputable def aX (zs:J4) (sort m:Nat):List Rr:=bO zs sort++(FI m).map (cL zs sort)
theorem oQ (z:Zf zs) {sort m:Nat} (hs:sort<5) (h:m<=if sort=4 then 25 else 13):∀r∈aX zs sort m,eD r:=fun r hr=>by
 rcases FM.mp hr with hr|hr
 ·exact qw z hs r hr
 ·obtain ⟨k,hk,rfl⟩:=FE.mp hr;have:=G0.mp hk;refine lU z hs (fun c=>?_) ?_
  ·rw[if_neg (by lia)] at h
   lia
  ·split at h<;>lia
theorem kE (z:Zf zs) {sort m:Nat} (hs:sort<5) (h:m<=if sort=4 then 24 else 12):bn ⟨[],[],[]⟩ (aX zs sort m)= .ok (bC zs sort m):=by
 unfold aX;rw[iR (v7 z hs)];exact xT z hs h
theorem Ch (z:Zf zs) {sort m:Nat} (hs:sort<5) (h:m<=if sort=4 then 24 else 12) (ts:List fi):c6 ⟨[],[],[]⟩ 1 ((aX zs sort m).map .ok++ts)=c6 (bC zs sort m) (1+(aX zs sort m).length) ts:=iT (kE z hs h)
theorem oR (z:Zf zs) {sort:Nat} (hs:sort<5) (ts:List fi):∃i,c6 ⟨[],[],[]⟩ 1 ((aX zs sort ((if sort=4 then 24 else 12)+1)).map .ok++ts)= .error (.flt .full i):=by
 have e:aX zs sort ((if sort=4 then 24 else 12)+1)=aX zs sort (if sort=4 then 24 else 12)++ [cL zs sort (if sort=4 then 24 else 12)]:=by
  unfold aX;rw[GZ,FF,GE]
  rfl
 rw[e,FF,GE,Ch z hs (F5 _)];exact ⟨_,gx (tO z hs)⟩
def r6:Sp:=fun vs H Q _=>∃(ln:Addr) (zs:J4) (sort:Nat) (more:Int),vs= [.ref ln,.int sort,.int more]/\H ln=some (.lst (zs.map V.str))/\Zf zs/\sort<5/\(more= -1∨more=0∨more=1)/\∀H',ax H H'->Q (.bl true) H'
theorem join_rows (h:Str) (rs:List Rr):Txt.join fC (h::rs.map bD)=Txt.join fC (h::(rs.map fi.ok).map c7):=by
 rw[Fe]
 rfl
theorem xV (ws:J4) (ne:ws≠ []):Txt.join fC ws++Str.ofString "\n" =Txt.join fC (ws++ [Str.ofString ""]):=by
 induction ws with
 |nil=>exact absurd rfl ne
 |cons a ws ih=>
  cases ws with
  |nil=>
   show a++Str.ofString "\n" =Builtin.Str.glued fC [a,Str.ofString ""];rw[StrLaws.glued_eq_join];show _=a++fC++Str.ofString "";have e:fC++Str.ofString "" =Str.ofString "\n" :=by decide+kernel
   rw[aW,e]
  |cons b r=>
   have k:=ih (by simp)
   have c:∀(x y:Str) (z:J4),Txt.join fC (x::y::z)=x++fC++Txt.join fC (y::z):=fun x y z=>by
    show Builtin.Str.glued fC (x::y::z)=x++fC++Builtin.Str.glued fC (y::z);rw[StrLaws.glued_eq_join,StrLaws.glued_eq_join]
    rfl
   rw[Fq,Fq,c,c,aW,k,Fq]
theorem lV:gu (.bad (Str.ofString "")):=⟨by decide,by decide,.inl (if_pos (by decide+kernel))⟩
theorem xW (z:Str):Str.ofString "take " ++z++Str.ofString " 9" =bD (.take z (9,1)):=by
 show _=jB ["take",z,nA (9,1)];rw[m7,aF,aF,kN,show Str.ofString "take " =Str.ofString "take" ++cv from by decide,show Str.ofString " 9" =cv++aA 9 from by decide+kernel]
 simp only[aW]
theorem xX (z:Str):Str.ofString "cut " ++z++Str.ofString " 1 1" =bD (.step "cut" z 1 1 none):=by
 show _=jB ["cut",z,aA 1,aA 1];rw[aF,aF,aF,kN,show Str.ofString "cut " =Str.ofString "cut" ++cv from by decide,show Str.ofString " 1 1" =cv++aA 1++cv++aA 1 from by decide+kernel]
 simp only[aW]
theorem r8 (o:Bool) (z y:Str):oO o++z++Str.ofString " " ++y++Str.ofString " 8 7" =bD (.use o z (y,8,7)):=by
 have e:oO o=(if o=true then Str.ofString "orwith" else Str.ofString "with")++cv:=by cases o<;>decide
 show _=jB [if o=true then Str.ofString "orwith" else Str.ofString "with",z,y,aA 8,aA 7]
 rw[e,aF,aF,aF,aF,kN,show Str.ofString " 8 7" =cv++aA 8++cv++aA 7 from by decide+kernel,show Str.ofString " " =cv from by decide]
 simp only[aW]
theorem xY (z y:Str):Str.ofString "after " ++z++Str.ofString " " ++y=bD (.link "after" z y 0):=by
 show _=jB (f9 "after" z y 0);unfold f9;rw[if_neg (by decide)]
 show _=jB ["after",z,y];rw[aF,aF,kN,show Str.ofString "after " =Str.ofString "after" ++cv from by decide,show Str.ofString " " =cv from by decide]
 simp only[aW]
def oS (zs:J4) (sort:Nat) (rr:Rr) (due:Str):Prop:=eD rr/\((sort<4/\due= "twice" /\bF (bC zs sort 12) rr= .error .twice)∨(sort=4/\due= "step" /\bF (bC zs 4 24) rr= .error .nostep))
theorem eO {α:Type} {f:Nat->α} {g:α->Str} (h:∀k,g (f k)=zA zs k) {j:Nat} (hj:j<12):zA zs j∈((FI 12).map f).map g:=FE.mpr ⟨f j,FE.mpr ⟨j,G0.mpr hj,rfl⟩,h j⟩
theorem DX (z:Zf zs) {j:Nat} (hj:j<12):oS zs 0 (.take (zA zs j) (9,1)) "twice" :=⟨⟨z.zA_nm (by lia),(vD (w:=9) (by decide) (by decide+kernel)).1⟩,.inl ⟨by decide,rfl,oJ (M:=bC zs 0 12) (eO (fun k=>rfl) hj)⟩⟩
theorem DY (z:Zf zs) {j:Nat} (hj:j<12):oS zs 1 (.step "cut" (zA zs j) 1 1 none) "twice" :=⟨⟨.inl rfl,z.zA_nm (by lia),⟨by decide,by decide,by decide⟩,show Str.ofString "cut" ≠ "warm" from by decide⟩,.inl ⟨by decide,rfl,oK (M:=bC zs 1 12) (eO (fun k=>rfl) hj)⟩⟩
theorem DZ (z:Zf zs) {j:Nat} (hj:j<12):oS zs 2 (.use false (zA zs 0) (zA zs j,8,7)) "twice" :=by
 refine ⟨⟨z.zA_nm (by decide),z.zA_nm (by lia),by show 1<=8;decide,by show 8<=8;decide,by show 7<=1000;decide⟩,.inl ⟨by decide,rfl,?_⟩⟩
 have k:=jt (M:=bC zs 2 12) (o:=false) (n:=zA zs 0) (u:=(zA zs j,8,7)) (i:=0) (s:=fM zs (bB zs 12 1 id) (bB zs 7 1 fun _=>0)) (us:=bB zs 12 1 id) (dA (s:=fM zs (bB zs 12 1 id) (bB zs 7 1 fun _=>0)) rfl rfl fun k s hk=>absurd hk (Nat.not_lt_zero _)) rfl rfl
 rw[kB (us:=bB zs 12 1 id) (u:=(zA zs j,8,7)) (eO (fun k=>rfl) hj)] at k
 exact k
theorem D1 (z:Zf zs) {j:Nat} (hj:j<12):oS zs 3 (.use true (zA zs 0) (zA zs j,8,7)) "twice" :=by
 refine ⟨⟨z.zA_nm (by decide),z.zA_nm (by lia),by show 1<=8;decide,by show 8<=8;decide,by show 7<=1000;decide⟩,.inl ⟨by decide,rfl,?_⟩⟩
 have k:=jt (M:=bC zs 3 12) (o:=true) (n:=zA zs 0) (u:=(zA zs j,8,7)) (i:=0) (s:=fM zs (bB zs 7 1 fun _=>0) (bB zs 12 2 id)) (us:=bB zs 12 2 id) (dA (s:=fM zs (bB zs 7 1 fun _=>0) (bB zs 12 2 id)) rfl rfl fun k s hk=>absurd hk (Nat.not_lt_zero _)) rfl rfl
 rw[kB (us:=bB zs 12 2 id) (u:=(zA zs j,8,7)) (eO (fun k=>rfl) hj)] at k
 exact k
theorem D2 (z:Zf zs) {j:Nat} (hj:j<3):oS zs 4 (.link "after" (zA zs j) (zA zs 12) 0) "step" :=by
 refine ⟨⟨.inl rfl,z.zA_nm (by lia),z.zA_nm (by decide),fun e=>?_,by decide,fun _=>rfl⟩,.inr ⟨rfl,rfl,?_⟩⟩
 ·have:=z.zA_inj (by lia) (by decide) e
  lia
 ·have nd:((bC zs 4 24).steps.map fun x=>x.n).Nodup:=dk z (m:=3) (by decide) fun k=>rfl
  have pj:place (bC zs 4 24) (zA zs j)=some j:=by
   have k:=gr nd (i:=j) (by simp[bC];exact hj)
   rw[show kM (bC zs 4 24).steps j=zA zs j by
    match j,hj with
    |0,_=>rfl
    |1,_=>rfl
    |2,_=>rfl] at k
   exact k
  refine oN pj (iq fun k s hk hs=>?_)
  obtain ⟨kl,rfl⟩:=dB (f:=fN zs) (m:=3) hs;exact fun e=>by
   have:=z.zA_inj (i:=k) (by lia) (by decide:12<14) e
   lia
def ju:Sp:=fun vs H Q _=>∃(ln:Addr) (zs:J4) (sort:Nat) (at_:Int),vs= [.ref ln,.int sort,.int at_]/\H ln=some (.lst (zs.map V.str))/\Zf zs/\sort<5/\∀(t:Addr) (H':Hp) (rr:Rr) (due:Str),ax H H'->H' t=some (.tup [.str (bD rr),.str due])->oS zs sort rr due->Q (.ref t) H'
theorem dm {w:Str} {rest fs:J4} (h:∀x∈w::rest,Wb x) (hf:b4.lookup w=some fs) (hv:bW fs rest=none):dY (jB (w::rest))=none:=by
 obtain ⟨e,n⟩:=kr (ws:=w::rest) (by simp) h
 unfold dY;rw[e,if_neg n];simp only[hf,hv]
theorem fj {w:Str} {rest fs:J4} {vs:List Fv} (h:∀x∈w::rest,Wb x) (hf:b4.lookup w=some fs) (hv:bW fs rest=some vs) (ha:cz w vs=false):dY (jB (w::rest))=none:=by
 obtain ⟨e,n⟩:=kr (ws:=w::rest) (by simp) h
 unfold dY;rw[e,if_neg n];simp only[hf,hv,ha]
 rfl
theorem gY {f w:Str} {fs ws:J4} (h:aR f w=none):bW (f::fs) (w::ws)=none:=by
 show (match aR f w,bW fs ws with|some v,some vs=>some (v::vs)|_,_=>none)=_
 rw[h]
theorem cu {f w:Str} {fs ws:J4} {v:Fv} (h:aR f w=some v) (k:bW fs ws=none):bW (f::fs) (w::ws)=none:=by
 show (match aR f w,bW fs ws with|some v,some vs=>some (v::vs)|_,_=>none)=_
 rw[h,k]
theorem gZ {f:Str} {n lo hi:Nat} (hf:ou.lookup f=some (lo,hi)) (n1:f≠ "name") (n2:f≠ "amount") (h:¬(lo<=n/\n<=hi)):aR f (aA n)=none:=by
 unfold aR;rw[if_neg n1,if_neg n2,hf];show (kO (aA n) lo hi).map Fv.num=none;unfold kO aA;rw[aT,my,if_neg fun z=>h z.2]
 rfl
theorem oU:aR "amount" (aA 0)=none:=by
 unfold aR;rw[if_neg (by decide),if_pos rfl,jf]
 ·rfl
 intro a ha;have r0:Reads (dv 0 1) 0 1:=(BV (by decide+kernel)).ok fun n hn=>by rw[FA.mp hn];decide+kernel
 have e:sL (aA 0)=dv 0 1:=by decide+kernel
 rw[e] at ha;have:=(gK ha r0).1
 lia
theorem dI {ws:J4} (h:∀w∈ws,Wg w) (l:ws.length<=5) (k:dY (jB ws)=none):gu (.bad (jB ws)):=by
 refine ⟨fun m=>absurd (rP h 10 m) (by decide),?_,.inl k⟩
 have k:=qf ws (m:=40) fun w hw=>(h w hw).2
 have:=Nat.mul_le_mul_left 41 l;exact FH k (by lia)
theorem xZ {P:Str->Prop} {a b c:Str} (h1:P a) (h2:P b) (h3:P c):∀x∈ [a,b,c],P x:=fun x hx=>by
 simp only[F4,FC,or_false] at hx;rcases hx with rfl|rfl|rfl<;>assumption
theorem kS {P:Str->Prop} {a b c d:Str} (h1:P a) (h2:P b) (h3:P c) (h4:P d):∀x∈ [a,b,c,d],P x:=fun x hx=>by
 simp only[F4,FC,or_false] at hx;rcases hx with rfl|rfl|rfl|rfl<;>assumption
theorem all5 {P:Str->Prop} {a b c d e:Str} (h1:P a) (h2:P b) (h3:P c) (h4:P d) (h5:P e):∀x∈ [a,b,c,d,e],P x:=fun x hx=>by
 simp only[F4,FC,or_false] at hx;rcases hx with rfl|rfl|rfl|rfl|rfl<;>assumption
section
variable {z y:Str}
theorem se (h:Nm z):gu (.bad (jB ["take",z,aA 0])):=dI (xZ (fF (by decide+kernel)) (b5 h) (bH (by decide))) (by simp) (dm (fs:= ["name","amount"]) (xZ (fP (by decide+kernel)) (bQ h) (bA 0)) (by decide) (cu (aQ h) (gY oU)))
theorem wa (h:Nm z):gu (.bad (jB ["rest",z,aA 2,aA 1])):=dI (kS (fF (by decide+kernel)) (b5 h) (bH (by decide)) (bH (by decide))) (by simp) (fj (fs:= ["name","length","length"]) (kS (fP (by decide+kernel)) (bQ h) (bA 2) (bA 1)) (by decide) (aH (aQ h) (aH (cn (lo:=1) (hi:=100000) (by decide) (by decide) (by decide) (by decide) (by decide) (by decide)) (aH (cn (lo:=1) (hi:=100000) (by decide) (by decide) (by decide) (by decide) (by decide) (by decide)) rfl))) (by
 show (!(decide (Str.ofString "rest" = "or" ∨Str.ofString "rest" = "cut" ∨Str.ofString "rest" = "rest" ∨Str.ofString "rest" = "warm"))||decide (2<=1))=false
 decide))
theorem oV (h:Nm z) (k:Nm y):gu (.bad (jB ["with",z,y,aA 9,aA 0])):=dI (all5 (fF (by decide+kernel)) (b5 h) (b5 k) (bH (by decide)) (bH (by decide))) (by simp) (dm (fs:= ["name","name","many","heat"]) (all5 (fP (by decide+kernel)) (bQ h) (bQ k) (bA 9) (bA 0)) (by decide) (cu (aQ h) (cu (aQ k) (gY (gZ (lo:=1) (hi:=8) (by decide) (by decide) (by decide) (by decide))))))
theorem lW (h:Nm z) (k:Nm y):gu (.bad (jB ["orwith",z,y,aA 1,aA 1001])):=dI (all5 (fF (by decide+kernel)) (b5 h) (b5 k) (bH (by decide)) (bH (by decide))) (by simp) (dm (fs:= ["name","name","many","heat"]) (all5 (fP (by decide+kernel)) (bQ h) (bQ k) (bA 1) (bA 1001)) (by decide) (cu (aQ h) (cu (aQ k) (cu (cn (lo:=1) (hi:=8) (by decide) (by decide) (by decide) (by decide) (by decide) (by decide)) (gY (gZ (lo:=0) (hi:=1000) (by decide) (by decide) (by decide) (by decide)))))))
theorem tP (h:Nm z):gu (.bad (jB ["within",z,z,aA 1])):=dI (kS (fF (by decide+kernel)) (b5 h) (b5 h) (bH (by decide))) (by simp) (fj (fs:= ["name","name","turns"]) (kS (fP (by decide+kernel)) (bQ h) (bQ h) (bA 1)) (by decide) (aH (aQ h) (aH (aQ h) (aH (cn (lo:=0) (hi:=100000) (by decide) (by decide) (by decide) (by decide) (by decide) (by decide)) rfl))) (by
 show (!(decide (Str.ofString "within" = "after" ∨Str.ofString "within" = "within" ∨Str.ofString "within" = "apart"))||decide (z≠z))=false;simp))
end
theorem Al (z:Str):Str.ofString "take " ++z++Str.ofString " 0" =jB ["take",z,aA 0]:=by
 rw[aF,aF,kN,show Str.ofString "take " =Str.ofString "take" ++cv from by decide,show Str.ofString " 0" =cv++aA 0 from by decide+kernel]
 simp only[aW]
theorem Ao (z:Str):Str.ofString "rest " ++z++Str.ofString " 2 1" =jB ["rest",z,aA 2,aA 1]:=by
 rw[aF,aF,aF,kN,show Str.ofString "rest " =Str.ofString "rest" ++cv from by decide,show Str.ofString " 2 1" =cv++aA 2++cv++aA 1 from by decide+kernel]
 simp only[aW]
theorem Ap (z y:Str):Str.ofString "with " ++z++Str.ofString " " ++y++Str.ofString " 9 0" =jB ["with",z,y,aA 9,aA 0]:=by
 rw[aF,aF,aF,aF,kN,show Str.ofString "with " =Str.ofString "with" ++cv from by decide,show Str.ofString " 9 0" =cv++aA 9++cv++aA 0 from by decide+kernel,show Str.ofString " " =cv from by decide]
 simp only[aW]
theorem Ci (z y:Str):Str.ofString "orwith " ++z++Str.ofString " " ++y++Str.ofString " 1 1001" =jB ["orwith",z,y,aA 1,aA 1001]:=by
 rw[aF,aF,aF,aF,kN,show Str.ofString "orwith " =Str.ofString "orwith" ++cv from by decide,show Str.ofString " 1 1001" =cv++aA 1++cv++aA 1001 from by decide+kernel,show Str.ofString " " =cv from by decide]
 simp only[aW]
theorem wc (z:Str):Str.ofString "within " ++z++Str.ofString " " ++z++Str.ofString " 1" =jB ["within",z,z,aA 1]:=by
 rw[aF,aF,aF,kN,show Str.ofString "within " =Str.ofString "within" ++cv from by decide,show Str.ofString " 1" =cv++aA 1 from by decide+kernel,show Str.ofString " " =cv from by decide]
 simp only[aW]
def jv:Sp:=fun vs H Q _=>∃(ln:Addr) (zs:J4) (sort:Nat) (at_:Int),vs= [.ref ln,.int sort,.int at_]/\H ln=some (.lst (zs.map V.str))/\Zf zs/\sort<5/\∀(t:Addr) (H':Hp) (z:Str),ax H H'->H' t=some (.tup [.str z,.str "row"])->gu (.bad z)->Q (.ref t) H'
end Sw
namespace L2
open PySem PySem.Spec PyProof.Rows XH
abbrev yX:=Nat->V->Hp->Prop
abbrev Bb:=Nat->St->Hp->yX->Prop
structure lX where
 nx:Nat->St->Hp->Prop
 rt:yX
abbrev oW:=lX->Nat->St->Hp->Prop
def E6 (X:Cx) (pins:J1) (σ:St) (n:Nat) (Q:yX) (u:Value) (s':Shared):Prop:=∃m v H',n<=m/\m<=s'.toks/\aJ X pins σ H' s'/\RelV v u/\Q m v H'
def EG (X:Cx) (pins:J1) (n:Nat) (D:lX) (f:Flow) (s':Shared):Prop:=
 match f with
 | .next=>∃m σ' H',n<=m/\m<=s'.toks/\aJ X pins σ' H' s'/\D.nx m σ' H'
 | .ret u=>∃m v σ' H',n<=m/\m<=s'.toks/\aJ X pins σ' H' s'/\RelV v u/\D.rt m v H'
 |_=>False
def oX (X:Cx) (e:Expr) (t:Bb):Prop:=
 ∀(pins:J1) (s:Shared) (n:Nat) (σ:St) (H:Hp) (Q:yX),n<=s.toks->aJ X pins σ H s->t n σ H Q->wpAny (model X.prog X.w) X.A (eval e X.env) (E6 X pins σ n Q) X.xe s
def Bc (X:Cx) (st:Stmt) (t:oW):Prop:=
 ∀(pins:J1) (s:Shared) (n:Nat) (σ:St) (H:Hp) (D:lX),n<=s.toks->aJ X pins σ H s->t D n σ H->wpAny (model X.prog X.w) X.A (exec st X.env) (EG X pins n D) X.xe s
def qx (X:Cx) (st:List Stmt) (t:oW):Prop:=
 ∀(pins:J1) (s:Shared) (n:Nat) (σ:St) (H:Hp) (D:lX),n<=s.toks->aJ X pins σ H s->t D n σ H->wpAny (model X.prog X.w) X.A (execs st X.env) (EG X pins n D) X.xe s
theorem ng {α:Type} {M:Model} {A:Around} {E:JY} {s:Shared} {c:Sem α} {Q:α->Shared->Prop} {n:Nat} (hk:n<=s.toks) (h:wpAny M A c Q E s):wpAny M A c (fun a s'=>n<=s'.toks/\Q a s') E s:=
 wpAny_mono (wpAny_toks_of hk h) (fun _ _ z=>z) fun _ _ z=>z.2
section
variable {X:Cx} {e a b o:Expr} {te ta tb:TE} {na nb no:Bb} {pos p2:Pos} {lo hi:Option Expr} {tl th:TO} {st:Stmt} {rest:List Stmt}
theorem fJ (h:PE X e te):oX X e (fun n σ H Q=>te σ H (Q n)):=fun pins s n σ H Q hn I q=>
 bo (ng hn (h pins s σ H (Q n) I q)) fun _ _ ⟨hk,v,H',I',r,q⟩=>⟨n,v,H',F5 _,hk,I',r,q⟩
theorem x5 {w:Str} {k}:oX X (.Constant (.str w) k pos) (fun n _ H Q=>∀t,n<=t->Q (t+1) (.str w) H):=fun pins s n σ H Q hn I q=>
 Calls.Constant_str ⟨s.toks+1,.str w,H,by lia,F5 _,I.tok _,⟨_,rfl⟩,q _ hn⟩
theorem x6 (ha:PE X a ta) (hb:PE X b tb) (hs:qL b):oX X (.Subscript a b pos) (fun n σ H Q=>ta σ H fun x H1=>tb σ H1 fun y H2=>∃z i c,x= .str z/\y= .int i/\z.length<=sizeLine/\kH z.cps.toList i=some c/\∀k,n<=k->Q (k+1) (.raw ⟨#[c]⟩ k) H2):=by
 intro pins s n σ H Q hn I h;refine Subscript_ (bo (ng hn (ha pins s σ H _ I h)) fun v s1 ⟨k1,x,H1,I1,r1,q1⟩=>bo (ng k1 (hb pins s1 σ H1 _ I1 q1)) fun u s2 ⟨k2,y,H2,I2,r2,z,i,c,e1,e2,hz,he,q⟩=>?_)
 subst e1 e2;obtain ⟨t,rfl⟩:=r1;obtain ⟨t',rfl⟩:=r2;obtain ⟨j,h1,h2,h3,h4,h5⟩:=jD he;have hl:z.cps.toList.length=z.length:=by simp[Str.length]
 rw[hl] at h1 h4 h5;have hn':=i3;exact tail_any (typeIs_str s2 z t) slot_str_getitem.lookup (getItem_str (c:=c) (by
  have e1:decide (i< -(2^63:Int))=false:=decide_eq_false (by lia)
  have e2:decide (i≥2^63)=false:=decide_eq_false (by lia)
  rw[e1,e2,Bool.or_false]) (by rw[h1];simpa using h2) ⟨s2.toks+1,.raw ⟨#[c]⟩ s2.toks,H2,by lia,F5 _,I2.tok _,rfl,q _ k2⟩) (hs _ _)
theorem lY (he:PE X e te) (hl:PO X lo tl) (hu:PO X hi th):oX X (.Subscript e (.Slice lo hi none p2) pos) (fun n σ H Q=>te σ H fun x H1=>tl σ H1 fun l H2=>th σ H2 fun u H3=>∃z,x= .str z/\z.length<=sizeLine/\(iF z l u).length≠z.length/\∀k,n<=k->Q (k+1) (.raw (iF z l u) k) H3):=by
 intro pins s n σ H Q hn I h;refine Subscript_ (bo (ng hn (he pins s σ H _ I h)) fun v s1 ⟨k1,x,H1,I1,r1,q1⟩=>?_)
 refine wpAny_Slice (bo (ng k1 (hl pins s1 σ H1 _ I1 q1)) fun vl s2 ⟨k2,l,H2,I2,pl,q2⟩=>bo (ng k2 (hu pins s2 σ H2 _ I2 q2)) fun vu s3 ⟨k3,u,H3,I3,pu,z,ex,hz,hw,q⟩=>?_)
 subst ex;obtain ⟨t,rfl⟩:=r1;rw[evalPart_none];refine wpAny_pure ?_;have I4:aJ X pins σ H3 {s3 with heap:=s3.heap.push {cls:= .type "slice",data:= .fields #[vl,vu,.none]}}:=I3.kept (t':=s3.toks) fun b ob q=>Heap.get?_push_of_some _ q
 have hs:({s3 with heap:=s3.heap.push {cls:= .type "slice",data:= .fields #[vl,vu,.none]}}:Shared).heap.IsSliceOf s3.heap.objs.size vl vu .none:=Heap.IsSliceOf.new ..
 obtain ⟨l',rfl,rfl⟩:=part_of pl;obtain ⟨u',rfl,rfl⟩:=part_of pu;show wpAny (model X.prog X.w) X.A (subscriptTail e (.Slice lo hi none p2) (.str z t) (.ref s3.heap.objs.size)) _ X.xe {s3 with heap:=s3.heap.push {cls:= .type "slice",data:= .fields #[partValue l',partValue u',.none]}}
 refine tail_any (ops:= [.ref s3.heap.objs.size,.str z t]) (typeIs_str _ z t) slot_str_getitem.lookup ?_ (by with_unfolding_all rfl)
 refine wpAny_getItem_str_slice (l:=l') (u:=u') (st:=none) hs rfl ?_;unfold sliceMade
 by_cases hw':(slicePicked z l' u' none).length=z.length
 ·exact absurd (by rw[pU z l' u' hw']) hw
 ·rw[if_neg (by simp[hw'])]
  rw[nQ];exact ⟨FH (fX _ _ _) hz,s3.toks+1,.raw _ s3.toks,H3,by lia,F5 _,I4.tok _,rfl,q _ k3⟩
theorem sg (ha:oX X a na) (hb:oX X b nb):oX X (.BinOp a .Add b pos) (fun n σ H Q=>na n σ H fun n1 x H1=>nb n1 σ H1 fun n2 y H2=>∃(z:Str) (t:Nat) (z':Str) (t':Nat),x= .raw z t/\y= .raw z' t'/\z.length+z'.length<=sizeLine/\0<n/\0<t/\t<n2/\0<t'/\t'<n2/\∀n3 k,n2<=n3->0<k->k<n3->Q n3 (.raw (z++z') k) H2):=by
 intro pins s n σ H Q hn I h;refine wpAny_BinOp (bo (ha pins s n σ H _ hn I h) fun v s1 ⟨n1,x,H1,l1,k1,I1,r1,q1⟩=>bo (hb pins s1 n1 σ H1 _ k1 I1 q1) fun u s2 ⟨n2,y,H2,l2,k2,I2,r2,z,t,z',t',e1,e2,hz,n0,t0,tn,t0',tn',q⟩=>?_)
 subst e1 e2;cases r1;cases r2;refine PySem.P.add_str ?_
 by_cases c1:z.length=0
 ·rw[if_pos (by simp[c1])]
  have e:z++z'=z':=by
   have h0:z.cps= #[]:=Array.eq_empty_of_size_eq_zero c1;show Str.append z z'=z';cases z';simp[Str.append,h0]
  exact ⟨n2,.raw z' t',H2,by lia,k2,I2,rfl,e▸q n2 t' (F5 _) t0' tn'⟩
 ·rw[if_neg (by simp[c1])]
  by_cases c2:z'.length=0
  ·rw[if_pos (by simp[c2])]
   have e:z++z'=z:=by
    have h0:z'.cps= #[]:=Array.eq_empty_of_size_eq_zero c2;show Str.append z z'=z;cases z;simp[Str.append,h0]
   exact ⟨n2,.raw z t,H2,by lia,k2,I2,rfl,e▸q n2 t (F5 _) t0 tn⟩
  ·rw[if_neg (by simp[c2])]
   exact ⟨by rw[strLen_append];exact hz,s2.toks+1,.raw (z++z') s2.toks,H2,by lia,F5 _,I2.tok _,rfl,q _ _ (by lia) (by lia) (by lia)⟩
theorem we (hg:Gl X "str") (hm:X.mg "str" =none) {p:Pos} (ha:PE X e te) (hs:starEach [e] X.env= [(false,eval e X.env)]:=by rfl):oX X (.Call (.Name "str" p) [e] [] pos) (fun n σ H Q=>te σ H fun x H1=>∃i:Int,x= .int i/\i.natAbs.log2<1920/\∀k,n<=k->Q (k+1) (.raw (toString i) k) H1):=by
 intro pins s n σ H Q hn I h;apply wpAny_Call_Name_kw;refine fm I hg hm (show bootBuiltins "str" =some (.type "str") by first|rfl|decide) ?_ (by decide) (by decide)
 refine G8 ?_ hs rfl;rw[hs];refine Calls.spliced_cons (x:=eval e X.env) (rest:= []) (bo (ng hn (ha pins s σ H _ I h)) fun v s1 ⟨k1,x,H1,I1,r1,i,ex,hi,q⟩=>?_)
 subst ex;obtain ⟨t,rfl⟩:=r1;apply Calls.spliced_nil;exact PySem.P.str_of_int hi ⟨s1.toks+1,.raw _ s1.toks,H1,by lia,F5 _,I1.tok _,rfl,q _ k1⟩
end
section
variable {X:Cx} {e a b o:Expr} {es:List Expr} {te ta tb to:TE} {ne na nb no:Bb} {pos p2 cpos apos:Pos} {st:Stmt} {rest:List Stmt} {t:oW} {u:oW} {name:Str} {T id:String}
theorem gz {y:Str} {j1 p1} (ho:oX X o no) (he:oX X e ne) (hbase:attributeBase o "replace" X.env (eval o X.env)=eval o X.env:=by rfl)
  (hfew:((backTo cpos (starEach [.Constant (.str y) j1 p1,e] X.env)).all (fun x=> !x.1)&&(backToKw cpos (keywordEach [] X.env)).all (fun x=>x.1.isSome)
   &&decide ([Expr.Constant (.str y) j1 p1,e].length+([]:List Keyword).length+(if ([]:List Keyword).isEmpty then 0 else 1)<30))=true:=by rfl)
  (hline:(apos.endLine==cpos.line)=true:=by rfl) (hs:starEach [.Constant (.str y) j1 p1,e] X.env= [(false,eval (.Constant (.str y) j1 p1) X.env),(false,eval e X.env)]:=by rfl):
  oX X (.Call (.Attribute o "replace" apos) [.Constant (.str y) j1 p1,e] [] cpos) (fun n σ H Q=>no n σ H fun n1 x H1=>∃w,x= .str w/\∀k,n1<=k->ne (k+1) σ H1 fun n2 z H2=>∃(zz:Str) (c:Nat),z= .raw zz c/\0<k/\0<c/\c≠k/\(y==zz)=false/\w.length+(w.length+1)*zz.length<=16777216/\Q n2 (.str (Txt.replace w y zz)) H2):=by
 intro pins s n σ H Q hn I h;refine wpAny_Call_method_late hbase hfew hline rfl (bo (ho pins s n σ H _ hn I h) fun v s1 ⟨n1,x,H1,l1,k1,I1,r1,w,ex,q1⟩=>?_)
 subst ex;obtain ⟨h1,h2⟩:=pM I1 r1 (show C8 X.K "str" (.str w) H1 from rfl)
 obtain ⟨t,rfl⟩:=r1;refine ⟨"str","str.replace",F.plainAttrs_str,F.slot_str_replace,F.type_str_replace,h1,h2,?_⟩;rw[hs];refine Calls.callWith_builtin rfl (Calls.evalArgs_plain ?_);refine Calls.spliced_cons (x:=eval (.Constant (.str y) j1 p1) X.env) (Calls.Constant_str (k:=j1) (pos:=p1) ?_);refine Calls.spliced_cons (x:=eval e X.env) (rest:= []) (bo (he pins _ (s1.toks+1) σ H1 _ (F5 _) (I1.tok _) (q1 _ k1)) fun u s2 ⟨n2,z,H2,l2,k2,I2,r2,zz,c,ez,k0,c0,ck,yz,hz,q⟩=>?_)
 subst ez;cases r2;refine Calls.spliced_nil ?_;exact bo (ng k2 (SC.replace (Q:=fun v s'=>∃H',aJ X pins σ H' s'/\RelV (.str (Txt.replace w y zz)) v/\Q n2 (.str (Txt.replace w y zz)) H') (GC k0) (GC c0) (Ne.symm ck) yz hz fun t' k=>⟨H2,I2.tok _,⟨ν⟩,q⟩)) fun v s3 ⟨k3,H3,I3,r3,q3⟩=>⟨n2,_,H3,by lia,k3,I3,r3,q3⟩
theorem x8 {r:V->List V->Hp->VK->Prop} (pa:PlainAttrs T) (slot:Slot T name id) (hty:typeOf (.builtin id)=pure (.type "method_descriptor")) (hm:yu X id r) (ho:PE X o to) (he:oX X e ne)
  (hbase:attributeBase o name X.env (eval o X.env)=eval o X.env:=by rfl)
  (hfew:((backTo cpos (starEach [e] X.env)).all (fun x=> !x.1)&&(backToKw cpos (keywordEach [] X.env)).all (fun x=>x.1.isSome)
   &&decide ([e].length+([]:List Keyword).length+(if ([]:List Keyword).isEmpty then 0 else 1)<30))=true:=by rfl)
  (hline:(apos.endLine==cpos.line)=true:=by rfl) (hs:starEach [e] X.env= [(false,eval e X.env)]:=by rfl):
  oX X (.Call (.Attribute o name apos) [e] [] cpos) (fun n σ H Q=>to σ H fun x H1=>C8 X.K T x H1/\ne n σ H1 fun m v H2=>r x [v] H2 (Q m)):=by
 intro pins s n σ H Q hn I h;refine wpAny_Call_method_late hbase hfew hline rfl (bo (ng hn (ho pins s σ H _ I h)) fun v s1 ⟨k1,x,H1,I1,r1,ty,q1⟩=>?_)
 obtain ⟨h1,h2⟩:=pM I1 r1 ty;refine ⟨T,id,pa,slot,hty,h1,h2,?_⟩;rw[hs];refine Calls.callWith_builtin rfl (Calls.evalArgs_plain ?_);refine Calls.spliced_cons (x:=eval e X.env) (rest:= []) (bo (he pins s1 n σ H1 _ k1 I1 q1) fun u s2 ⟨m,y,H2,l2,k2,I2,r2,q2⟩=>?_)
 refine Calls.spliced_nil ?_;exact bo (ng k2 (hm pins s2 σ H2 x [y] v [u] _ I2 r1 (.cons r2 .nil) q2)) fun v s3 ⟨k3,y3,H3,I3,r3,q3⟩=>⟨m,y3,H3,l2,k3,I3,r3,q3⟩
def E7 (t:TS):oW:=fun D n σ H=>t {nx:=D.nx n,bk:=fun _ _=>False,ct:=fun _ _=>False,rt:=D.rt n} σ H
def D3 (i:Nat) (ne:Bb):oW:=fun D n σ H=>ne n σ H fun m v H1=>D.nx m (σ.set i (some v)) H1
def D4 (ne:Bb):oW:=fun D n σ H=>ne n σ H fun m _ H1=>D.nx m σ H1
def D5 (ne:Bb):oW:=fun D n σ H=>ne n σ H D.rt
def D6:oW:=fun D n σ H=>D.nx n σ H
def Cj (t u:oW):oW:=fun D n σ H=>t {D with nx:=u D} n σ H
theorem cc {t:TS} (h:PS X st t):Bc X st (E7 t):=fun pins s n σ H D hn I q=>
 bo (ng hn (h pins s σ H _ I q)) fun f s' ⟨hk,q'⟩=>by
  cases f with
  |next=>obtain ⟨σ',H',I',q'⟩:=q';exact ⟨n,σ',H',F5 _,hk,I',q'⟩
  |ret v=>obtain ⟨v,σ',H',I',r,q'⟩:=q';exact ⟨n,v,σ',H',F5 _,hk,I',r,q'⟩
  |brk=>obtain ⟨_,_,_,q'⟩:=q';exact q'
  |cont=>obtain ⟨_,_,_,q'⟩:=q';exact q'
theorem fK {i:Nat} {x:Str} {pos':Pos} (hN:X.N.Nodup) (hi:X.N[i]?=some x) (hx:Loc X.env.scope x) (he:oX X e ne) (hs:swapsWith e (some (.Name x pos')) pos.line X.env=pure false:=by rfl) (hf:X.fn x=true∨X.env.scope.names.lookup x=some .local:=by first|exact .inl rfl|exact .inr rfl|assumption):
  Bc X (.Assign [.Name x pos'] e pos) (D3 i ne):=by
 intro pins s n σ H D hn I h;refine wpAny_Assign_Name (bo (he pins s n σ H _ hn I h) fun v s1 ⟨m,y,H1,l,k,I1,r1,q1⟩=>?_) hs
 exact bo (ng k (iu (Q:=fun _ s2=>aJ X pins (σ.set i (some y)) H1 s2) I1 hN hi hx r1 (fun s2 I2=>I2) hf)) fun _ s2 ⟨k2,I2⟩=>⟨m,_,H1,l,k2,I2,q1⟩
theorem wf (he:oX X e ne) (hs:swapsWith e none pos.line X.env=pure false:=by rfl):Bc X (.Expr e pos) (D4 ne):=by
 intro pins s n σ H D hn I h;exact wpAny_Expr_any (bo (he pins s n σ H _ hn I h) fun v s1 ⟨m,x,H1,l,k,I1,r1,q1⟩=>⟨m,σ,H1,l,k,I1,q1⟩) I.quiet hs
theorem x9 (he:oX X e ne):Bc X (.Return (some e) pos) (D5 ne):=by
 intro pins s n σ H D hn I h;exact wpAny_Return_some (bo (he pins s n σ H _ hn I h) fun v s1 ⟨m,x,H1,l,k,I1,r1,q1⟩=>⟨m,x,σ,H1,l,k,I1,r1,q1⟩)
theorem iU:qx X [] D6:=fun _ _ n σ H _ hn I h=>wpAny_execs_nil ⟨n,σ,H,F5 _,hn,I,h⟩
theorem aN (h1:Bc X st t) (h2:qx X rest u):qx X (st::rest) (Cj t u):=by
 intro pins s n σ H D hn I h;refine wpAny_execs_cons (bo (h1 pins s n σ H _ hn I h) fun f s1 q=>?_)
 cases f with
 |next=>
  obtain ⟨m,σ',H',l,k,I',q⟩:=q;refine bo (h2 pins s1 m σ' H' D k I' q) fun f s2 q=>?_
  cases f with
  |next=>obtain ⟨m2,σ',H',l2,r⟩:=q;exact ⟨m2,σ',H',FH l l2,r⟩
  |ret v=>obtain ⟨m2,v,σ',H',l2,r⟩:=q;exact ⟨m2,v,σ',H',FH l l2,r⟩
  |brk=>exact q
  |cont=>exact q
 |ret v=>exact q
 |brk=>exact q
 |cont=>exact q
def Ck (wi:TI) (g:TG) (tb:oW):oW:=fun D n σ H=>wi σ H fun J H1=>∃W:Nat->Nat->Nat->St->Hp->Prop,(∃m,W 0 m n σ H1)/\∀i m n σ H,W i m n σ H->
 (J.stop i H/\D.nx n σ H)∨(J.go i H/\∃N:Nat->St->Hp->Prop,(∀n' σ' H',N n' σ' H'->∃m',m'<m/\W (i+1) m' n' σ' H')/\∀x H',J.yld i H x H'->g x σ H' fun σ2 H2=>tb {D with nx:=N} n σ2 H2)
theorem ya {tg iter:Expr} {body:List Stmt} {wi:TI} {g:TG} {tb:oW} (hp:PassesOwn (model X.prog X.w) X.A X.env X.xe) (hc:X.calm=true) (hi:PI X tg iter wi) (hg:PG X tg g) (hb:qx X body tb)
  (hs:∀x,foldedSetIterable iter X.env x=pure x:=by intro _;rfl):Bc X (.For tg iter body [] pos) (Ck wi g tb):=by
 intro pins s n0 σ H D hn I h;refine wpAny_For (bo (ng hn (hi pins s σ H _ I h)) fun v s1 ⟨kk1,h1⟩=>bo (ng kk1 h1) fun itv s2 ⟨kk2,h2⟩=>?_) hs
 obtain ⟨it,fp,tn,J,H2,e,I2,T,st2,f2,W,⟨m0,w0⟩,turn⟩:=h2;subst e;have stat:∀{H':Hp},(∀b∈fp,H' b=none)->∀b∈fp,dE X pins H' b:=fun hn b hb=>⟨hn b hb,(f2 b hb).2⟩
 refine codeAny_forLoop_any (fun m s'=>∃i n σ' H',n0<=n/\n<=s'.toks/\aJ X pins σ' H' s'/\tn i s'.heap/\(∀b∈fp,H' b=none)/\W i m n σ' H') ?_ m0 ⟨0,n0,σ,H2,F5 _,kk2,I2,st2,fun b hb=>(f2 b hb).1,w0⟩
 rintro m s3 ⟨i,n,σ3,H3,l3,k3,I3,st3,fr3,w3⟩;rcases turn i m n σ3 H3 w3 with ⟨stop,qn⟩|⟨go,N,hN,step⟩
 ·refine wpAny_passesOwn hp (bo (ng k3 (T.done X rfl rfl rfl hc i pins s3 σ3 H3 X.xe I3 (stat fr3) st3 stop)) fun r s4 ⟨k4,hr,I4⟩=>?_)
  subst hr;exact wpAny_execs_nil ⟨n,σ3,H3,l3,k4,I4,qn⟩
 ·refine wpAny_passesOwn hp (bo (ng k3 (T.item X rfl rfl rfl hc i pins s3 σ3 H3 X.xe I3 (stat fr3) st3 go)) fun r s4 ⟨k4,u,hr,h4⟩=>?_)
  subst hr;refine wpAny_passesOwn hp (bo (ng k4 h4) fun _ s5 ⟨k5,x,H5,I5,r5,y5,st5,fr5⟩=>?_)
  have I5':=I5.pinned (stat fr5) (T.obj _ _ st5);refine wpAny_passesOwn hp (bo (ng k5 (hg _ s5 σ3 H5 x u _ I5' r5 (step x H5 y5))) fun _ s6 ⟨k6,σ6,H6,I6,q6⟩=>?_)
  refine wpAny_passesOwn hp (bo (hb _ s6 n σ6 H6 _ k6 I6 q6) fun f s7 q7=>?_)
  cases f with
  |next=>
   obtain ⟨n7,σ7,H7,l7,k7,I7,q7⟩:=q7;obtain ⟨m',hm,w7⟩:=hN n7 σ7 H7 q7;refine ⟨m',hm,i+1,n7,σ7,H7,by lia,k7,I7.unpinned,T.keep _ _ _ st5 fun b hb o e=>(I7.pin (b,o) (F9 _ (F9 _ (bX hb e)))).1,fun b hb=>?_,w7⟩
   obtain ⟨o,e,d⟩:=T.obj _ _ st5 b hb;exact (I7.pin (b,o) (F9 _ (F9 _ (bX hb e)))).2.1
  |cont=>exact False.elim q7
  |brk=>exact False.elim q7
  |ret v=>obtain ⟨n7,x7,σ7,H7,l7,k7,I7,r7,q7⟩:=q7;exact ⟨n7,x7,σ7,H7,by lia,k7,I7.unpinned,r7,q7⟩
theorem fL {t u:oW} {D:lX} {n:Nat} {σ:St} {H:Hp} (P:Nat->St->Hp->Prop) (h1:∀N:Nat->St->Hp->Prop,(∀m σ H,P m σ H->N m σ H)->t {D with nx:=N} n σ H) (h2:∀m σ H,P m σ H->u D m σ H):Cj t u D n σ H:=h1 (u D) h2
theorem qy {lo:Int} {n n0:Nat} {g:TG} {tb:oW} {D:lX} {σ:St} {H:Hp} (Pv:Nat->Nat->St->Hp->Prop) (h0:Pv 0 n0 σ H)
  (hs:∀i m σ H,i<n->Pv i m σ H->g (.int (lo+i)) σ H fun σ2 H2=>tb {D with nx:=Pv (i+1)} m σ2 H2) (hd:∀m σ H,Pv n m σ H->D.nx m σ H):
  ∃W:Nat->Nat->Nat->St->Hp->Prop,(∃m,W 0 m n0 σ H)/\∀i m k σ H,W i m k σ H->
   ((wI lo n).stop i H/\D.nx k σ H)∨((wI lo n).go i H/\∃N:Nat->St->Hp->Prop,(∀k' σ' H',N k' σ' H'->∃m',m'<m/\W (i+1) m' k' σ' H')/\∀x H',(wI lo n).yld i H x H'->g x σ H' fun σ2 H2=>tb {D with nx:=N} k σ2 H2):=by
 refine ⟨fun i m k σ H=>m=n-i/\i<=n/\Pv i k σ H,⟨n,by simp,G7 _,h0⟩,?_⟩
 rintro i m k σ H ⟨rfl,hi,p⟩
 by_cases hlt:i<n
 ·refine .inr ⟨hlt,Pv (i+1),fun k' σ' H' p'=>⟨n-(i+1),by lia,rfl,hlt,p'⟩,fun x H' y=>?_⟩
  obtain ⟨e,y⟩:=y;subst e y;exact hs i k σ _ hlt p
 ·have e:i=n:=by lia
  subst e;exact .inl ⟨F5 _,hd k σ H p⟩
noncomputable def kF (zs:List (Str×Nat)):List V:=zs.map fun p=> .raw p.1 p.2
noncomputable def pz (zs:List (Str×Nat)):List V:=zs.map fun p=> .str p.1
theorem lZ:∀{zs:List (Str×Nat)} {us:J6},aV (kF zs) us->aV (pz zs) us
 | [],_,.nil=> .nil
 |_::_,_,.cons r t=> .cons ⟨_,r⟩ (lZ t)
theorem aJ.weakS {pins:J1} {σ:St} {H:Hp} {s:Shared} {a:Addr} {zs:List (Str×Nat)} (I:aJ X pins σ H s) (h:H a=some (.lst (kF zs))):aJ X pins σ (aL H a (.lst (pz zs))) s:=by
 have ne:∀{b:Addr} {u:HO},H b=some u->(∀v,u≠ .lst v)->b≠a:=fun {b u} q n z=>by subst z;rw[h] at q;cases q;exact n _ rfl
 have nn:∀{b:Addr},H b=none->b≠a:=fun {b} q z=>by subst z;rw[h] at q;cases q
 refine I.un (H':=aL H a (.lst (pz zs))) (h':=s.heap) (t':=s.toks) ⟨fun b ob q n _ _=>q,fun b ob q n _ _=>⟨ob.slots,q⟩,fun b ob q n _=>?_,fun b ob q _=>⟨ob,q⟩,fun b xs q=>?_,fun b ob u q=>?_,fun b ps q=>⟨#[],?_⟩⟩ ?_
 ·rw[ar (nn n)];exact n
 ·rw[ar (ne q fun _ z=>nomatch z)];exact q
 ·rw[ar (ne q fun _ z=>nomatch z)];exact q
 ·rw[ar (ne q fun _ z=>nomatch z),q];simp
 ·intro b u q
  by_cases hb:b=a
  ·subst hb;rw[ac] at q;cases q;obtain ⟨z,its,n,r,e⟩:=(show bJ X.prog X.w H s.heap b (.lst (kF zs)) from I.hok b _ h)
   exact ⟨by simpa [kF,pz] using z,its,n,lZ r,e⟩
  ·rw[ar hb] at q;exact (I.hok b _ q).stay (fun _ _ _ q=>q) (fun c q=>by rw[ar (ne q fun _ z=>nomatch z)];exact q) fun c xs q=>by rw[ar (ne q fun _ z=>nomatch z)];exact q
theorem sh {t:TS} (h:PS X st t):PS X st (fun D σ H=>∃a zs,H a=some (.lst (kF zs))/\t D σ (aL H a (.lst (pz zs)))):=fun pins s σ H D I ⟨a,zs,e,q⟩=>h pins s σ _ D (I.weakS e) q
theorem gB (h:PE X e te):PE X e (fun σ H Q=>te σ H fun x H1=>∃z t,x= .raw z t/\Q (.str z) H1):=fun pins s σ H Q I q=>
 bo (h pins s σ H _ I q) fun u s' ⟨x,H',I',r,z,t,ex,q'⟩=>⟨.str z,H',I',(by subst ex;exact ⟨t,r⟩),q'⟩
theorem wg (h:PE X e te):PE X e (fun σ H Q=>te σ H fun x H1=>∃a zs,x= .ref a/\H1 a=some (.lst (kF zs))/\Q x (aL H1 a (.lst (pz zs)))):=fun pins s σ H Q I q=>
 bo (h pins s σ H _ I q) fun u s' ⟨x,H',I',r,a,zs,ex,e,q'⟩=>⟨x,_,I'.weakS e,r,q'⟩
end
abbrev yY:=Nat->List V->Hp->yX->Prop
structure yb (P:Program) (w:World) (K:F0) (mg:JZ) (base:Heap) (k:Nat) (f:Addr) (fd:FuncData) (ps:J4) (sp:yY):Prop where
 len:∀n vs H Q,sp n vs H Q->vs.length=ps.length
 run:∀(A:Around) (outer:List Env) (s:Shared) (H:Hp) (args:Args) (us:J6) (vs:List V) (n:Nat) (Q:yX),bT k A->jV P w K mg base A outer s H->BindsTo s fd args (ps.zip us)->aV vs us->n<=s.toks->sp n vs H Q->
  codeAny (model P w) A (.call (.ref f) args) (fun r s'=>match r with| .ok (.ret u)=>∃m,n<=m/\m<=s'.toks/\CE outer P w H s (Q m) u s'|_=>False) s
theorem yb.mono {P:Program} {w:World} {K:F0} {mg:JZ} {base:Heap} {j k:Nat} {f:Addr} {fd:FuncData} {ps:J4} {sp:yY} (F:yb P w K mg base j f fd ps sp) (h:j<=k):yb P w K mg base k f fd ps sp:=
 ⟨F.len,fun A outer s H args us vs n Q hr=>F.run A outer s H args us vs n Q (hr.mono h)⟩
theorem Aq {P:Program} {w:World} {K:F0} {mg:JZ} {base:Heap} {k:Nat} {f:Addr} {name qual:Str} {params:Arguments} {body:List Stmt} {scope:Scope} {dV kV doc pm cdv ct oc:Value} {an od:J7}
  {osl:J3} {N ps:J4} {sp:yY} (lk:K.lookup f=some ⟨oc,od,.func (Fn name qual params body scope dV kV doc pm an cdv ct),osl⟩) (hcd:G9 K cdv qual=true) (S:aB N ps scope)
  (len:∀n vs H Q,sp n vs H Q->vs.length=ps.length)
  (hbody:∀(A:Around) (outer:List Env) (s:Shared) (H:Hp) (vs:List V) (n:Nat) (Q:yX),bT k (A.deeper (envOfC qual scope s.heap.objs.size f cdv))->sp n vs H Q->
   ∃t,qx (fO bu P w K mg base N qual scope f cdv A outer s H E0).nox body t/\t {nx:=fun m _ H'=>Q m .non H',rt:=Q} n (start N vs) H):
  yb P w K mg base (k+1) f (Fn name qual params body scope dV kV doc pm an cdv ct) ps sp:=by
 refine ⟨len,fun A outer s H args us vs n Q hr e0 hb r hn hsp=>?_⟩
 have hl:=len _ _ _ _ hsp;have KX:K.In s.heap:=e0.mod.kin.keeps fun b o e=>(e0.bs b o e).1
 have lim:s.heap.NoLimit:=e0.mod.nolimit.keeps fun b o e=>(e0.bs b o e).1
 have hkind:∀y∈ps.zip us,scope.names.lookup y.1=some .local∨(scope.names.lookup y.1=some .cell/\((cellsFrom (s.heap.objs.size+1) scope.names []).lookup y.1).isSome=true):=fun ⟨n,v⟩ hy=>by
  rcases S.par n (List.of_mem_zip hy).1 with q|q
  ·exact .inl q
  ·exact .inr ⟨q,PySem.W.cellsFrom_some _ _ _ (.inl q)⟩
 refine codeAny_call_function hr.depth (KX _ _ lk) rfl S.co S.gen rfl (PySem.W.codeRec_of KX hcd) (hb _ _ _ _ ?_);refine wpAny_with_toks hn (wpAny_newFunctionEnv_cells S.kind hkind fun env he s1 x=>?_)
 subst he;intro hn1;refine ⟨lim.keeps x.toInCall.keep,codeAny_func ?_⟩;obtain ⟨t,ht,hq⟩:=hbody A outer s H vs n Q (hr.deeper _) hsp;have I0:aJ (fO bu P w K mg base N qual scope f cdv A outer s H E0) [] (start N vs) H s1:=i6 S hr.hd e0 hl r x;have I:aJ (fO bu P w K mg base N qual scope f cdv A outer s H E0).nox [] (start N vs) H s1:=I0.wish _;refine wpAny_mono (ht [] s1 n (start N vs) H _ hn1 I hq) (fun fl s' hs=>?_) fun e s' hs=>False.elim hs
 have fin:∀{σ':St} {H':Hp} {v:V} {u:Value} {m:Nat},n<=m->m<=s'.toks->aJ (fO bu P w K mg base N qual scope f cdv A outer s H E0).nox [] σ' H' s'->RelV v u->Q m v H'->∃m,n<=m/\m<=s'.toks/\CE outer P w H s (Q m) u s':=
  fun {σ' H' v u m} l k J rv q=>⟨m,l,k,v,H',J.os,J.bare,J.base,J.hok,rv,q⟩
 cases fl with
 |ret u=>
  obtain ⟨m,v,σ',H',l,k,J,rv,q⟩:=hs;exact fin l k J rv q
 |next=>
  obtain ⟨m,σ',H',l,k,J,q⟩:=hs;exact fin (v:=V.non) (u:=Value.none) l k J rfl q
 |brk=>exact False.elim hs
 |cont=>exact False.elim hs
structure Dd (P:Program) (w:World) (K:F0) (mg:JZ) (base:Heap) (k:Nat) (x:Str) (ps:J4) (sp:yY) where
 f:Addr
 fd:FuncData
 ok:yb P w K mg base k f fd ps sp
 m:mg x=some (.ref f)
 q:Fl K (.ref f)=true
 b:Binds K fd ps []
section
variable {X:Cx} {k j:Nat} {x:Str} {ps:J4} {sp:yY} {p pos:Pos} {e:Expr} {es:List Expr} {t:TA}
theorem wk (D:Dd X.prog X.w X.K X.mg X.base k x ps sp) (hr:bT j X.A) (hk:k<=j) (hg:Gl X x) (ha:PA X (e::es) t) (hdb:(x==("__debug__" :Str))=false:=by decide)
  (he:starEach (e::es) X.env=(false,eval e X.env)::starEach es X.env:=by rfl) (hpl:(backTo pos (starEach es X.env)).any (·.1)=false:=by rfl):
  oX X (.Call (.Name x p) (e::es) [] pos) (fun n σ H Q=>t σ H fun vs H1=>sp n vs H1 Q):=by
 intro pins s n σ H Q hn I h;refine wpAny_Call_Name_kw (cV I hg D.m ?_ hdb);refine GH (h₀:=X.base) I.ok.mod.kin D.q (bo (ng hn (ha pos pins s σ H _ I h)) fun us s1 ⟨k1,vs,H1,I1,r,q⟩=>⟨I1.kIn,?_⟩) he hpl
 have hl:us.length=ps.length:=by rw[<-r.length];exact D.ok.len _ _ _ _ q
 have hb:=D.b s1 us I1.kIn (by rw[Fm];exact hl)
 rw[Fm] at hb;refine wpAny_call (codeAny_mono ((D.ok.mono hk).run X.A X.stack s1 H1 ⟨us,[]⟩ us vs n Q hr I1.env0 hb r k1 q) fun r s' hq=>?_)
 cases r with
 |error e=>exact False.elim hq
 |ok fl=>
  cases fl with
  |ret u=>
   obtain ⟨m,l,k,c⟩:=hq;obtain ⟨v,H',I',r',q'⟩:=I1.after c;exact ⟨m,v,H',l,k,I',r',q'⟩
  |next=>exact False.elim hq
  |brk=>exact False.elim hq
  |cont=>exact False.elim hq
theorem yc {body:List Stmt} {t:oW} (h:qx X body t):jA X body (fun D σ H=>t {nx:=fun _=>D.nx,rt:=fun _=>D.rt} 0 σ H):=fun pins s σ H D I q=>
 bo (h pins s 0 σ H _ (G7 _) I q) fun f s' q=>by
  cases f with
  |next=>obtain ⟨m,σ',H',_,_,I',q⟩:=q;exact ⟨σ',H',I',q⟩
  |ret v=>obtain ⟨m,v,σ',H',_,_,I',r,q⟩:=q;exact ⟨v,σ',H',I',r,q⟩
  |brk=>exact False.elim q
  |cont=>exact False.elim q
end
end L2
namespace Sw
open PySem L2 XH PyProof.Rows
section
variable {P:Program} {w:World} {K:F0} {mg:JZ} {base h:Heap} {k:Nat} {f:Addr} {x qual:Str} {st:Stmt} {N ps:J4} {sp:yY}
theorem a6.okT {dV:Value} {fd:FuncData} (F:a6 K x qual st dV f fd) (S:aB N ps (aq st)) (len:∀n vs H Q,sp n vs H Q->vs.length=ps.length)
  (hbody:∀(cdv:Value) (A:Around) (outer:List Env) (s:Shared) (H:Hp) (vs:List V) (n:Nat) (Q:yX),bT k (A.deeper (PyProof.Rows.envOfC qual (aq st) s.heap.objs.size f cdv))->sp n vs H Q->
   ∃t,qx (fO bu P w K mg base N qual (aq st) f cdv A outer s H E0).nox (bZ st) t/\t {nx:=fun m _ H'=>Q m .non H',rt:=Q} n (start N vs) H):yb P w K mg base (k+1) f fd ps sp:=by
 obtain ⟨oc,od,kV,doc,pm,an,cdv,ct,osl,rfl,lk,hcd⟩:=F.ex;exact Aq lk hcd S len fun A outer s H vs n Q hr hsp=>hbody cdv A outer s H vs n Q hr hsp
noncomputable def EH (_:Bx P w base) (X:K.In h) (G:h.Ns mainGlobals mg) (a:bR K f x st .none) (b:zK x x st .none ps) (ok:∀{fd:FuncData},a6 K x x st .none f fd->yb P w K mg base k f fd ps sp):Dd P w K mg base k x ps sp:=
 have e:=a.2.ex
 ⟨f,e.choose,ok e.choose_spec.1,FN X G a.1,e.choose_spec.2,e.choose_spec.1.binds0 b⟩
end
open Hm PySem.NumText
noncomputable def hG (sort:Nat):Nat:=if sort=4 then 24 else 12
def yZ (zs:J4) (sort:Nat) (x:fi) (due:Str):Prop:=gu x/\((∃rr,x= .ok rr/\oS zs sort rr due)∨∃z,x= .bad z/\due= "row")
theorem wm:gu (.bad (Str.ofString "rest")):=⟨by decide,by decide,.inl (by decide+kernel)⟩
theorem wn {zs:J4} (z:Zf zs) {sort:Nat} (hs:sort<5) {x:fi} {due n:Str} {p:Nat} {ts:List fi} (h:yZ zs sort x due):
  kQ (.ok n p) ((aX zs sort (hG sort)).map .ok++(x::ts))=(due,((1+(aX zs sort (hG sort)).length:Nat):Int)):=by
 show (match c6 ⟨[],[],[]⟩ 1 ((aX zs sort (hG sort)).map .ok++(x::ts)) with| .ok _=>_| .error e=>outF e)=_
 rw[Ch (m:=hG sort) z hs (F5 _)];rcases h.2 with ⟨rr,rfl,_,⟨s4,rfl,e⟩|⟨rfl,rfl,e⟩⟩|⟨w,rfl,rfl⟩
 ·have m:hG sort=12:=if_neg (by lia)
  rw[m];unfold c6;rw[e]
  rfl
 ·unfold c6;rw[show hG 4=24 from rfl,e]
  rfl
 ·rfl
theorem tQ (zs:J4) {sort m:Nat} (hs:sort<5) (h:m<=30):(aX zs sort m).length<=60:=by
 unfold aX;rw[Fa,F7,GL];have:(bO zs sort).length<=20:=by
  match sort,hs with
  |0,_=>simp[bO]
  |1,_=>simp[bO]
  |2,_=>simp[bO]
  |3,_=>simp[bO]
  |4,_=>simp[bO]
 lia
def sk:Sp:=fun vs H Q _=>∃(ln:Addr) (zs:J4) (sort:Nat) (at_:Int) (wr:Bool),vs= [.ref ln,.int sort,.int at_,.bl wr]/\H ln=some (.lst (zs.map V.str))/\Zf zs/\sort<5/\∀H',ax H H'->Q (.bl true) H'
theorem sr (h:Str) (rs:List Rr) (x y:fi):Txt.join fC ((h::rs.map bD)++ [c7 x,c7 y])=Txt.join fC (h::(rs.map fi.ok++ [x,y]).map c7):=by
 rw[Fq,FF,Fe]
 rfl
theorem Ar {x:fi} (h:gu x):(c7 x).length<=400:=by
 cases x with
 |ok r=>exact (mT h).2
 |bad z=>exact h.2.1
theorem wp {h:Str} {xs:List fi} (hh:h.length<=400) (ok:∀x∈xs,gu x) (l:xs.length<=1000):((h::xs.map c7).map fun x=>x.length).sum+(h::xs.map c7).length<=1048576:=by
 have:∀ys:List fi,(∀x∈ys,gu x)->((ys.map c7).map fun x=>x.length).sum<=400*ys.length:=fun ys=>by
  induction ys with
  |nil=>intro _;simp
  |cons y t ih=>
   intro hy;have h1:=ih fun x hx=>hy x (F8 _ hx)
   have h2:=Ar (hy y FW);simp only[FZ,List.sum_cons,FS]
   lia
 have h1:=this xs ok;simp only[FZ,List.sum_cons,FS,F7]
 lia
def oY:yY:=fun n vs H Q=>∃c:Int,vs= [.int c]/\∀(m:Nat) (l:Addr) (zs:List (Str×Nat)) (H':Hp),n<=m->ax H H'->H' l=some (.lst (kF zs))->Zf (zs.map (·.1))->(∀p∈zs,0<p.2/\p.2<m)->Q m (.ref l) H'
noncomputable def oZ (c:Nat) (z:Str) (a:Nat):List Nat:=if a=c then sL z else [a]
theorem jP {c:Nat} {z:Str}:∀{l:List Nat},c∉l->l.flatMap (oZ c z)=l
 | [],_=>rfl
 |a::l,h=>by
  rw[GM,jP (l:=l) (fun m=>h (F8 _ m)),show oZ c z a= [a] from if_neg (fun e:a=c=>h (by rw[e];exact FW))]
  rfl
theorem su {c:Nat} (z:Str):∀{ws:J4},ws≠ []->(∀w∈ws,c∉sL w)->sL (Str.join z ws)=(sL (Str.join (bE [c]) ws)).flatMap (oZ c z)
 | [],ne,_=>absurd rfl ne
 | [x],_,h=>(jP (h x (by simp))).symm
 |x::y::r,_,h=>by
  rw[fA,fA,a8,a8,a8,a8,List.flatMap_append,List.flatMap_append,jP (h x (by simp)),aT,su z (ws:=y::r) (by simp) fun w hw=>h w (F8 _ hw)]
  simp[oZ]
theorem hJ (w z:Str) (c:Nat):sL (Txt.replace w (bE [c]) z)=(sL w).flatMap (oZ c z):=by
 have e:Str.join (bE [c]) (Txt.split w (bE [c]))=w:=StrLaws.join_split _ _;have f:∀p∈Txt.split w (bE [c]),c∉sL p:=StrLaws.split_free w c;rw[show Txt.replace w (bE [c]) z=Str.join z (Txt.split w (bE [c])) from StrLaws.replace_one w z c,su z (kb w c) f,e]
structure eQ where
 n:Str
 m:Str
 s:Str
 t:Str
 x:Str
noncomputable def g5 (F:eQ) (a:Nat):List Nat:=if a=78 then sL F.n else if a=77 then sL F.m else if a=83 then sL F.s else if a=84 then sL F.t else if a=88 then sL F.x else [a]
def tR (z:Str):Prop:=∀a∈sL z,a≠78/\a≠77/\a≠83/\a≠84/\a≠88
theorem nh {z:Str} (h:Nm z):tR z:=fun a ha=>by have:=h.2.2 a ha;lia
theorem eR {z:Str} (h:tR z) (c:Nat) (hc:c=78∨c=77∨c=83∨c=84∨c=88) (y:Str):(sL z).flatMap (oZ c y)=sL z:=jP fun m=>by have:=h c m;lia
structure As (F:eQ):Prop where
 n:tR F.n
 m:tR F.m
 s:tR F.s
 t:tR F.t
theorem Cl (F:eQ) (L:As F) (w:Str):sL (Txt.replace (Txt.replace (Txt.replace (Txt.replace (Txt.replace w (bE [78]) F.n) (bE [77]) F.m) (bE [83]) F.s) (bE [84]) F.t) (bE [88]) F.x)=(sL w).flatMap (g5 F):=by
 rw[hJ,hJ,hJ,hJ,hJ];simp only[List.flatMap_assoc]
 congr 1
 funext a
 unfold g5
 by_cases c1:a=78
 ·rw[if_pos c1,show oZ 78 F.n a=sL F.n from if_pos c1]
  simp only[<-List.flatMap_assoc];rw[eR L.n 77 (by simp),eR L.n 83 (by simp),eR L.n 84 (by simp),eR L.n 88 (by simp)]
 ·rw[if_neg c1,show oZ 78 F.n a= [a] from if_neg c1]
  simp only[GM,List.flatMap_nil,Fm]
  by_cases c2:a=77
  ·rw[if_pos c2,show oZ 77 F.m a=sL F.m from if_pos c2]
   simp only[<-List.flatMap_assoc];rw[eR L.m 83 (by simp),eR L.m 84 (by simp),eR L.m 88 (by simp)]
  ·rw[if_neg c2,show oZ 77 F.m a= [a] from if_neg c2]
   simp only[GM,List.flatMap_nil,Fm]
   by_cases c3:a=83
   ·rw[if_pos c3,show oZ 83 F.s a=sL F.s from if_pos c3]
    simp only[<-List.flatMap_assoc];rw[eR L.s 84 (by simp),eR L.s 88 (by simp)]
   ·rw[if_neg c3,show oZ 83 F.s a= [a] from if_neg c3]
    simp only[GM,List.flatMap_nil,Fm]
    by_cases c4:a=84
    ·rw[if_pos c4,show oZ 84 F.t a=sL F.t from if_pos c4,eR L.t 88 (by simp)]
    ·rw[if_neg c4,show oZ 84 F.t a= [a] from if_neg c4]
     simp only[GM,List.flatMap_nil,Fm]
     rfl
noncomputable def G5 (F:eQ) (w:Str):Str:=bE ((sL w).flatMap (g5 F))
theorem y1 (F:eQ):∀ws:J4,(sL (jB ws)).flatMap (g5 F)=sL (jB (ws.map (G5 F)))
 | []=>rfl
 | [w]=>by
  rw[FZ,List.map_nil,kN,kN];exact (aT _).symm
 |w::v::r=>by
  rw[aF,FZ,FZ,aF,a8,a8,a8,a8,List.flatMap_append,List.flatMap_append,y1 F (v::r),FZ]
  congr 1
theorem D7 (F:eQ) (L:As F) {w:Str} (ws:J4) (h:w=jB ws):Txt.replace (Txt.replace (Txt.replace (Txt.replace (Txt.replace w (bE [78]) F.n) (bE [77]) F.m) (bE [83]) F.s) (bE [84]) F.t) (bE [88]) F.x=jB (ws.map (G5 F)):=by
 apply cP;rw[Cl F L,h,y1]
noncomputable def Cm (w:Str):Bool:=(sL w).all fun a=> !(a==78)&& !(a==77)&& !(a==83)&& !(a==84)&& !(a==88)
theorem At (F:eQ) {w:Str} (h:Cm w=true):G5 F w=w:=by
 apply cP;unfold G5;rw[aT];have:∀l:List Nat,(l.all fun a=> !(a==78)&& !(a==77)&& !(a==83)&& !(a==84)&& !(a==88))=true->l.flatMap (g5 F)=l:=fun l=>by
  induction l with
  |nil=>intro _;rfl
  |cons a l ih=>
   intro k;rw[List.all_cons,GN] at k;rw[GM,ih k.2];have k1:=k.1;simp only[GN,Bool.not_eq_true',beq_eq_false_iff_ne] at k1;unfold g5;rw[if_neg k1.1.1.1.1,if_neg k1.1.1.1.2,if_neg k1.1.1.2,if_neg k1.1.2,if_neg k1.2]
   rfl
 exact this _ h
theorem o6 (F:eQ):G5 F "N" =F.n:=by
 apply cP;unfold G5;rw[aT];show g5 F 78++ []=_;rw[Fm];rfl
theorem Cn (F:eQ):G5 F "M" =F.m:=by
 apply cP;unfold G5;rw[aT];show g5 F 77++ []=_;rw[Fm];rfl
theorem wq (F:eQ):G5 F "S" =F.s:=by
 apply cP;unfold G5;rw[aT];show g5 F 83++ []=_;rw[Fm];rfl
theorem yd (F:eQ):G5 F "T" =F.t:=by
 apply cP;unfold G5;rw[aT];show g5 F 84++ []=_;rw[Fm];rfl
theorem D8 (F:eQ):G5 F "X" =F.x:=by
 apply cP;unfold G5;rw[aT];show g5 F 88++ []=_;rw[Fm];rfl
noncomputable def D9:List J4:= [["with","N","M","0","0"],["or","N","2","1"],["orwith","N","M","1","1001"],["after","N","N"],["within","N","S","X"],["apart","N"],["take","T","0"],["cut","S","3","2"],["warm","S","1","2","0"],["with","S","T","9","0"],["orwith","S","T","1","0"],["orwith","N","T","1","0"],["or","N","1","2"]]
noncomputable def nB (F:eQ) (a:Nat):fi:=match a with
 |10=> .ok (.use true F.s (F.t,1,0))
 |11=> .ok (.use true F.n (F.t,1,0))
 |12=> .ok (.sec F.n 1 2)
 |a=> .bad (jB ((D9.getD a []).map (G5 F)))
structure jk (F:eQ) (b:Nat):Prop where
 n:Nm F.n
 m:Nm F.m
 s:Nm F.s
 t:Nm F.t
 x:F.x=aA (100001+b)
 b:b<=2147483647
theorem jk.low {F:eQ} {b:Nat} (h:jk F b):As F:=⟨nh h.n,nh h.m,nh h.s,nh h.t⟩
theorem o9 {n:Nat} (h:n<=9999999999):(aA n).length<=10:=by
 have:=j9 (n:=n) (k:=9) (by lia)
 rw[<-cr,aA,aT];exact this
theorem ye {x:Int} {n:Nat} (h:x=(n:Int)) (l:n<=9999999999):x.natAbs.log2<1920:=by
 rw[h];exact lg (GB l (by decide))
theorem yf {n:Nat} (h:n<=9999999999):Wg (aA n):=⟨fun c m=>by
 unfold aA at m;rw[aT] at m;have:=(c5 n c m).1
 lia,by have:=o9 h;lia⟩
theorem tS:Str.ofString "0" =aA 0:=by decide+kernel
theorem tT:Str.ofString "1" =aA 1:=by decide+kernel
theorem yg:Str.ofString "2" =aA 2:=by decide+kernel
theorem Ea:Str.ofString "3" =aA 3:=by decide+kernel
theorem Eb:Str.ofString "9" =aA 9:=by decide+kernel
theorem yh:Str.ofString "1001" =aA 1001:=by decide+kernel
section
variable {F:eQ} {b:Nat}
theorem gl (F:eQ) (w:Str) (h:Cm w=true):G5 F w=w:=At F h
theorem w0:(["with","N","M","0","0"]:J4).map (G5 F)=(["with",F.n,F.m,aA 0,aA 0]:J4):=by
 show [G5 F "with",G5 F "N",G5 F "M",G5 F "0",G5 F "0"]=_;rw[gl F "with" (by decide),gl F "0" (by decide),o6,Cn,<-tS]
theorem w1:(["or","N","2","1"]:J4).map (G5 F)=(["or",F.n,aA 2,aA 1]:J4):=by
 show [G5 F "or",G5 F "N",G5 F "2",G5 F "1"]=_;rw[gl F "or" (by decide),gl F "2" (by decide),gl F "1" (by decide),o6,<-yg,<-tT]
theorem w2:(["orwith","N","M","1","1001"]:J4).map (G5 F)=(["orwith",F.n,F.m,aA 1,aA 1001]:J4):=by
 show [G5 F "orwith",G5 F "N",G5 F "M",G5 F "1",G5 F "1001"]=_;rw[gl F "orwith" (by decide),gl F "1" (by decide),gl F "1001" (by decide),o6,Cn,<-tT,<-yh]
theorem w3:(["after","N","N"]:J4).map (G5 F)=(["after",F.n,F.n]:J4):=by
 show [G5 F "after",G5 F "N",G5 F "N"]=_;rw[gl F "after" (by decide),o6]
theorem w4 (h:jk F b):(["within","N","S","X"]:J4).map (G5 F)=(["within",F.n,F.s,aA (100001+b)]:J4):=by
 show [G5 F "within",G5 F "N",G5 F "S",G5 F "X"]=_;rw[gl F "within" (by decide),o6,wq,D8,h.x]
theorem w5:(["apart","N"]:J4).map (G5 F)=(["apart",F.n]:J4):=by
 show [G5 F "apart",G5 F "N"]=_;rw[gl F "apart" (by decide),o6]
theorem w6:(["take","T","0"]:J4).map (G5 F)=(["take",F.t,aA 0]:J4):=by
 show [G5 F "take",G5 F "T",G5 F "0"]=_;rw[gl F "take" (by decide),gl F "0" (by decide),yd,<-tS]
theorem w7:(["cut","S","3","2"]:J4).map (G5 F)=(["cut",F.s,aA 3,aA 2]:J4):=by
 show [G5 F "cut",G5 F "S",G5 F "3",G5 F "2"]=_;rw[gl F "cut" (by decide),gl F "3" (by decide),gl F "2" (by decide),wq,<-Ea,<-yg]
theorem w8:(["warm","S","1","2","0"]:J4).map (G5 F)=(["warm",F.s,aA 1,aA 2,aA 0]:J4):=by
 show [G5 F "warm",G5 F "S",G5 F "1",G5 F "2",G5 F "0"]=_;rw[gl F "warm" (by decide),gl F "1" (by decide),gl F "2" (by decide),gl F "0" (by decide),wq,<-tT,<-yg,<-tS]
theorem w9:(["with","S","T","9","0"]:J4).map (G5 F)=(["with",F.s,F.t,aA 9,aA 0]:J4):=by
 show [G5 F "with",G5 F "S",G5 F "T",G5 F "9",G5 F "0"]=_;rw[gl F "with" (by decide),gl F "9" (by decide),gl F "0" (by decide),wq,yd,<-Eb,<-tS]
theorem E8:(["orwith","S","T","1","0"]:J4).map (G5 F)=(["orwith",F.s,F.t,aA 1,aA 0]:J4):=by
 show [G5 F "orwith",G5 F "S",G5 F "T",G5 F "1",G5 F "0"]=_;rw[gl F "orwith" (by decide),gl F "1" (by decide),gl F "0" (by decide),wq,yd,<-tT,<-tS]
theorem E9:(["orwith","N","T","1","0"]:J4).map (G5 F)=(["orwith",F.n,F.t,aA 1,aA 0]:J4):=by
 show [G5 F "orwith",G5 F "N",G5 F "T",G5 F "1",G5 F "0"]=_;rw[gl F "orwith" (by decide),gl F "1" (by decide),gl F "0" (by decide),o6,yd,<-tT,<-tS]
theorem EI:(["or","N","1","2"]:J4).map (G5 F)=(["or",F.n,aA 1,aA 2]:J4):=by
 show [G5 F "or",G5 F "N",G5 F "1",G5 F "2"]=_;rw[gl F "or" (by decide),gl F "1" (by decide),gl F "2" (by decide),o6,<-tT,<-yg]
theorem Co {a:Nat} (ha:a<13):c7 (nB F a)=jB ((D9.getD a []).map (G5 F)):=by
 match a,ha with
 |0,_=>rfl
 |1,_=>rfl
 |2,_=>rfl
 |3,_=>rfl
 |4,_=>rfl
 |5,_=>rfl
 |6,_=>rfl
 |7,_=>rfl
 |8,_=>rfl
 |9,_=>rfl
 |10,_=>exact (congrArg jB E8).symm
 |11,_=>exact (congrArg jB E9).symm
 |12,_=>exact (congrArg jB EI).symm
theorem jn {n:Nat} (h1:1<=n) (h2:n<=100000):aR "length" (aA n)=some (.num n):=cn (lo:=1) (hi:=100000) (by decide) (by decide) (by decide) h1 h2 (by lia)
theorem all2 {P:Str->Prop} {a b:Str} (h1:P a) (h2:P b):∀x∈ [a,b],P x:=fun x hx=>by
 simp only[F4,FC,or_false] at hx;rcases hx with rfl|rfl<;>assumption
theorem sw (h:jk F b) {a:Nat} (ha:a<13):gu (nB F a):=by
 match a,ha with
 |0,_=>
  show gu (.bad (jB ((["with","N","M","0","0"]:J4).map (G5 F))));rw[w0];exact dI (all5 (fF (by decide+kernel)) (b5 h.n) (b5 h.m) (bH (by decide)) (bH (by decide))) (by simp) (dm (fs:= ["name","name","many","heat"]) (all5 (fP (by decide+kernel)) (bQ h.n) (bQ h.m) (bA 0) (bA 0)) (by decide) (cu (aQ h.n) (cu (aQ h.m) (gY (gZ (lo:=1) (hi:=8) (by decide) (by decide) (by decide) (by decide))))))
 |1,_=>
  show gu (.bad (jB ((["or","N","2","1"]:J4).map (G5 F))));rw[w1];exact dI (kS (fF (by decide+kernel)) (b5 h.n) (bH (by decide)) (bH (by decide))) (by simp) (fj (fs:= ["name","length","length"]) (kS (fP (by decide+kernel)) (bQ h.n) (bA 2) (bA 1)) (by decide) (aH (aQ h.n) (aH (jn (by decide) (by decide)) (aH (jn (by decide) (by decide)) rfl))) (by
   show (!(decide (Str.ofString "or" = "or" ∨Str.ofString "or" = "cut" ∨Str.ofString "or" = "rest" ∨Str.ofString "or" = "warm"))||decide (2<=1))=false
   decide))
 |2,_=>
  show gu (.bad (jB ((["orwith","N","M","1","1001"]:J4).map (G5 F))));rw[w2];exact lW h.n h.m
 |3,_=>
  show gu (.bad (jB ((["after","N","N"]:J4).map (G5 F))));rw[w3];exact dI (xZ (fF (by decide+kernel)) (b5 h.n) (b5 h.n)) (by simp) (fj (fs:= ["name","name"]) (xZ (fP (by decide+kernel)) (bQ h.n) (bQ h.n)) (by decide) (aH (aQ h.n) (aH (aQ h.n) rfl)) (by
   show (!(decide (Str.ofString "after" = "after" ∨Str.ofString "after" = "within" ∨Str.ofString "after" = "apart"))||decide (F.n≠F.n))=false;simp))
 |4,_=>
  show gu (.bad (jB ((["within","N","S","X"]:J4).map (G5 F))));rw[w4 h];have:=h.b;exact dI (kS (fF (by decide+kernel)) (b5 h.n) (b5 h.s) (yf (by lia))) (by simp) (dm (fs:= ["name","name","turns"]) (kS (fP (by decide+kernel)) (bQ h.n) (bQ h.s) (bA _)) (by decide) (cu (aQ h.n) (cu (aQ h.s) (gY (gZ (lo:=0) (hi:=100000) (by decide) (by decide) (by decide) (by lia))))))
 |5,_=>
  show gu (.bad (jB ((["apart","N"]:J4).map (G5 F))));rw[w5];exact dI (all2 (fF (by decide+kernel)) (b5 h.n)) (by simp) (dm (fs:= ["name","name"]) (all2 (fP (by decide+kernel)) (bQ h.n)) (by decide) (cu (aQ h.n) rfl))
 |6,_=>
  show gu (.bad (jB ((["take","T","0"]:J4).map (G5 F))));rw[w6];exact se h.t
 |7,_=>
  show gu (.bad (jB ((["cut","S","3","2"]:J4).map (G5 F))));rw[w7];exact dI (kS (fF (by decide+kernel)) (b5 h.s) (bH (by decide)) (bH (by decide))) (by simp) (fj (fs:= ["name","length","length"]) (kS (fP (by decide+kernel)) (bQ h.s) (bA 3) (bA 2)) (by decide) (aH (aQ h.s) (aH (jn (by decide) (by decide)) (aH (jn (by decide) (by decide)) rfl))) (by
   show (!(decide (Str.ofString "cut" = "or" ∨Str.ofString "cut" = "cut" ∨Str.ofString "cut" = "rest" ∨Str.ofString "cut" = "warm"))||decide (3<=2))=false
   decide))
 |8,_=>
  show gu (.bad (jB ((["warm","S","1","2","0"]:J4).map (G5 F))));rw[w8];exact dI (all5 (fF (by decide+kernel)) (b5 h.s) (bH (by decide)) (bH (by decide)) (bH (by decide))) (by simp) (dm (fs:= ["name","length","length","amount"]) (all5 (fP (by decide+kernel)) (bQ h.s) (bA 1) (bA 2) (bA 0)) (by decide) (cu (aQ h.s) (cu (jn (by decide) (by decide)) (cu (jn (by decide) (by decide)) (gY oU)))))
 |9,_=>
  show gu (.bad (jB ((["with","S","T","9","0"]:J4).map (G5 F))));rw[w9];exact oV h.s h.t
 |10,_=>exact ⟨h.s,h.t,show 1<=1 by decide,show 1<=8 by decide,show 0<=1000 by decide⟩
 |11,_=>exact ⟨h.n,h.t,show 1<=1 by decide,show 1<=8 by decide,show 0<=1000 by decide⟩
 |12,_=>exact ⟨h.n,by decide,by decide,by decide⟩
end
variable {zs:J4}
noncomputable def cA (zs:J4) (m:Nat):List Rr:= [.take (zA zs 1) (2,1),.step "cut" (zA zs 0) 1 2 none,.use false (zA zs 0) (zA zs 1,1,0)]++(FI m).map (ic (zs.drop 2))
noncomputable def y2 (zs:J4) (m:Nat):Md:=⟨[(zA zs 1,(2,1))],⟨"cut",zA zs 0,1,2,none,[(zA zs 1,1,0)],none⟩::(FI m).map (fN (zs.drop 2)),[]⟩
theorem iV (k:Nat):zA (zs.drop 2) k=zA zs (2+k):=by simp[zA,List.getD,List.getElem?_drop]
theorem kG (z:Zf zs):∀{m:Nat},m<=2->bn ⟨[],[],[]⟩ (cA zs m)= .ok (y2 zs m)
 |0,_=>by
  have c1:bF ⟨[],[],[]⟩ (.take (zA zs 1) (2,1))= .ok ⟨[(zA zs 1,(2,1))],[],[]⟩:=yV (by simp) (by decide)
  have c2:bF ⟨[(zA zs 1,(2,1))],[],[]⟩ (.step "cut" (zA zs 0) 1 2 none)= .ok ⟨[(zA zs 1,(2,1))],[⟨"cut",zA zs 0,1,2,none,[],none⟩],[]⟩:=rS (by simp) (by simp)
  have pl:place ⟨[(zA zs 1,(2,1))],[⟨"cut",zA zs 0,1,2,none,[],none⟩],[]⟩ (zA zs 0)=some 0:=by simp[place]
  have c3:bF ⟨[(zA zs 1,(2,1))],[⟨"cut",zA zs 0,1,2,none,[],none⟩],[]⟩ (.use false (zA zs 0) (zA zs 1,1,0))= .ok (y2 zs 0):=by
   rw[jt (us:= []) pl rfl rfl,yW (by simp) (by decide)]
   rfl
  show bn _ (_::_::_::_)=_;simp only[bn,c1,c2,c3]
  rfl
 |m+1,hm=>by
  have e:cA zs (m+1)=cA zs m++ [ic (zs.drop 2) m]:=by
   unfold cA;rw[GZ,FF,<-GE]
   rfl
  rw[e];have k:=tL (kG z (m:=m) (by lia)) (rS (M:=y2 zs m) (w:= "rest") (n:=zA (zs.drop 2) m) (lo:=2) (hi:=3+m) (f:=none) (fun hin=>?_) (by simp[y2];lia))
  ·refine k.trans ?_;unfold y2;rw[GZ,FF]
   rfl
  ·obtain ⟨s,hs,en⟩:=FE.mp hin;rcases F4.mp hs with rfl|hs
   ·have:=z.zA_inj (by decide) (by lia) (en.trans (iV m))
    lia
   ·obtain ⟨j,hj,rfl⟩:=FE.mp hs;have jm:=G0.mp hj;have:=z.zA_inj (by lia) (by lia) ((iV j).symm.trans (en.trans (iV m)))
    lia
theorem wt (z:Zf zs) {m:Nat} (hm:m<=2):∀r∈cA zs m,eD r:=fun r hr=>by
 have n0:=z.zA_nm (i:=0) (by decide)
 have n1:=z.zA_nm (i:=1) (by decide)
 rcases FM.mp hr with hr|hr
 ·simp only[F4,FC,or_false] at hr;rcases hr with rfl|rfl|rfl
  ·exact ⟨n1,(vD (w:=2) (by decide) (by decide+kernel)).1⟩
  ·exact ⟨.inl rfl,n0,⟨by decide,by decide,by decide⟩,show Str.ofString "cut" ≠ "warm" from by decide⟩
  ·exact ⟨n0,n1,show 1<=1 by decide,show 1<=8 by decide,show 0<=1000 by decide⟩
 ·obtain ⟨j,hj,rfl⟩:=FE.mp hr;have jm:=G0.mp hj;exact ⟨.inr (.inl rfl),by rw[iV];exact z.zA_nm (by lia),⟨by decide,by lia,by lia⟩,show Str.ofString "rest" ≠ "warm" from by decide⟩
theorem l9 (zs:J4) (m:Nat):(cA zs m).length=3+m:=by simp[cA];lia
noncomputable def wu (a:Nat):Str:=if a<10 then "row" else "step"
theorem yi (z:Zf zs) {F:eQ} (en:F.n=zA zs 12) (es:F.s=zA zs 0) (et:F.t=zA zs 1) {a m p:Nat} {n:Str} (ha:a<13) (hm:m<=2) (ts:List fi):
  kQ (.ok n p) ((cA zs m).map .ok++(nB F a::ts))=(wu a,((1+(3+m):Nat):Int)):=by
 show (match c6 ⟨[],[],[]⟩ 1 ((cA zs m).map .ok++(nB F a::ts)) with| .ok _=>_| .error e=>outF e)=_
 rw[iT (kG z hm),l9];have p12:place (y2 zs m) (zA zs 12)=none:=iq fun k s _ hs=>by
  have hs:=FB hs;intro e;rcases F4.mp hs with rfl|hs
  ·have:=z.zA_inj (i:=0) (j:=12) (by decide) (by decide) e
   lia
  ·obtain ⟨j,hj,rfl⟩:=FE.mp hs;have jm:=G0.mp hj;have:=z.zA_inj (by lia) (by decide) ((iV j).symm.trans e)
   lia
 have p0:place (y2 zs m) (zA zs 0)=some 0:=by simp[place,y2,List.findIdx?_cons]
 match a,ha with
 |0,_=>rfl
 |1,_=>rfl
 |2,_=>rfl
 |3,_=>rfl
 |4,_=>rfl
 |5,_=>rfl
 |6,_=>rfl
 |7,_=>rfl
 |8,_=>rfl
 |9,_=>rfl
 |10,_=>
  show (match c6 _ _ (.ok (.use true F.s (F.t,1,0))::ts) with| .ok _=>_| .error e=>outF e)=_
  rw[gx (oM (by rw[es];exact p0) rfl rfl)]
  rfl
 |11,_=>
  show (match c6 _ _ (.ok (.use true F.n (F.t,1,0))::ts) with| .ok _=>_| .error e=>outF e)=_
  rw[gx (rW (by rw[en];exact p12))]
  rfl
 |12,_=>
  show (match c6 _ _ (.ok (.sec F.n 1 2)::ts) with| .ok _=>_| .error e=>outF e)=_
  rw[gx (rV (by rw[en];exact p12))]
  rfl
theorem yj (z:Str):Str.ofString "take " ++z++Str.ofString " 2" =bD (.take z (2,1)):=by
 show _=jB ["take",z,nA (2,1)];rw[m7,aF,aF,kN,show Str.ofString "take " =Str.ofString "take" ++cv from by decide,show Str.ofString " 2" =cv++aA 2 from by decide+kernel]
 simp only[aW]
noncomputable def eC (F:eQ) (a k:Nat):fi:=match k with
 |0=> .bad "dish"
 |1=> .bad ""
 |_=>nB F a
theorem wv:gu (.bad (Str.ofString "dish")):=⟨by decide,by decide,.inl (by decide+kernel)⟩
theorem qz {F:eQ} {b a:Nat} (h:jk F b) (ha:a<13) (k:Nat):gu (eC F a k):=match k with
 |0=>wv
 |1=>lV
 |_+2=>sw h ha
def ie:Sp:=fun _ _ _ _=>False
theorem ph {zt:List (Str×Nat)} (z:Zf (zt.map (·.1))) {i n:Nat} (hi:i<14) (tz:∀p∈zt,0<p.2/\p.2<n):∃t:Nat,kH (kF zt) (i:Int)=some (.raw (zA (zt.map (·.1)) i) t)/\0<t/\t<n:=by
 have il:i<zt.length:=by have:=z.len;rw[F7] at this;lia
 have h:=F6 il;generalize zt[i]=p at h;refine ⟨p.2,aG ?_,(tz p (FB h)).1,(tz p (FB h)).2⟩;unfold kF zA;rw[FG,h,List.getD_eq_getElem?_getD,FG,h]
 rfl
theorem jQ (w z:Str) (c:Nat):(Txt.replace w (bE [c]) z).length<=w.length*(z.length+1):=by
 rw[<-cr,hJ,<-cr w,<-cr z];have:∀l:List Nat,(l.flatMap (oZ c z)).length<=l.length*((sL z).length+1):=fun l=>by
  induction l with
  |nil=>simp
  |cons a l ih=>
   rw[GM,Fa,FS,Nat.add_mul,Nat.one_mul];have:(oZ c z a).length<=(sL z).length+1:=by
    unfold oZ
    split<;>simp
   lia
 exact this _
theorem tU (zt:List (Str×Nat)):dQ (kF zt) (some 2) none=kF (zt.drop 2):=by
 unfold dQ kF;have e0:HT.du (zt.map fun p=>V.raw p.1 p.2).length 0 (some 2)=min 2 zt.length:=by unfold HT.du;simp
 have e2:HT.du (zt.map fun p=>V.raw p.1 p.2).length (zt.map fun p=>V.raw p.1 p.2).length none=zt.length:=by unfold HT.du;simp
 rw[e0,e2,List.map_drop]
 by_cases h:2<=zt.length
 ·rw[Nat.min_eq_left h,GG (by simp)]
 ·rw[List.drop_eq_nil_of_le (by simp;lia),List.drop_eq_nil_of_le (by simp;lia),List.take_nil]
theorem yk (zt:List (Str×Nat)):pz (zt.drop 2)=((zt.map (·.1)).drop 2).map V.str:=by
 unfold pz;rw[List.map_drop,List.map_drop,Fe]
 rfl
noncomputable def Ec:J4:=(["with N M 0 0","or N 2 1","orwith N M 1 1001","after N N","within N S X","apart N","take T 0"]:J4)++(["cut S 3 2","warm S 1 2 0","with S T 9 0","orwith S T 1 0","orwith N T 1 0","or N 1 2"]:J4)
theorem Cp {a:Nat} (ha:a<13):∃w:Str,kH (Ec.map V.str) (a:Int)=some (.str w)/\w=jB (D9.getD a [])/\w.length<=20:=by
 match a,ha with
 |0,_=>exact ⟨_,rfl,by decide,by decide⟩
 |1,_=>exact ⟨_,rfl,by decide,by decide⟩
 |2,_=>exact ⟨_,rfl,by decide,by decide⟩
 |3,_=>exact ⟨_,rfl,by decide,by decide⟩
 |4,_=>exact ⟨_,rfl,by decide,by decide⟩
 |5,_=>exact ⟨_,rfl,by decide,by decide⟩
 |6,_=>exact ⟨_,rfl,by decide,by decide⟩
 |7,_=>exact ⟨_,rfl,by decide,by decide⟩
 |8,_=>exact ⟨_,rfl,by decide,by decide⟩
 |9,_=>exact ⟨_,rfl,by decide,by decide⟩
 |10,_=>exact ⟨_,rfl,by decide,by decide⟩
 |11,_=>exact ⟨_,rfl,by decide,by decide⟩
 |12,_=>exact ⟨_,rfl,by decide,by decide⟩
theorem nj {z:Str} (h:Nm z) {c:Nat} (hc:c<97):((bE [c])==z)=false:=by
 cases e:(bE [c])==z with
 |false=>rfl
 |true=>
  have e':bE [c]=z:=by simpa using e
  rw[<-e'] at h;have:=h.2.2 c (by rw[aT];exact FA.mpr rfl)
  lia
theorem Au (n:Nat) {c:Nat} (hc:58<=c):((bE [c])==aA n)=false:=by
 cases e:(bE [c])==aA n with
 |false=>rfl
 |true=>
  have e':bE [c]=aA n:=by simpa using e
  have m:c∈sL (aA n):=by rw[<-e',aT];exact FA.mpr rfl
  unfold aA at m;rw[aT] at m;have:=c5 n c m
  lia
def ww:yY:=fun n vs H Q=>∃(ln:Addr) (zt:List (Str×Nat)) (a b:Nat),vs= [.ref ln,.int a,.int b]/\H ln=some (.lst (kF zt))/\Zf (zt.map (·.1))/\(∀p∈zt,0<p.2/\p.2<n)/\a<=2147483647/\b<=2147483647/\∀m H',n<=m->Q m (.bl true) H'
end Sw
namespace Lk37
open PySem L2 Sw XH PyProof.Rows Hm
abbrev J9 (x:Addr):Option V:=some (.ref x)
theorem cU {X:Cx} {N P:J4} {sp:Scope} (i:Nat) (sc:aB N P sp) {x:Str} {e:Expr} {te:TE} {pos pos':Pos} (he:PE X e te) (hi:X.N[i]?=some x:=by rfl) (hx:Loc X.env.scope x:=by exact Or.inl rfl) (hn:X.N=N:=by rfl) (hs:swapsWith e (some (.Name x pos')) pos.line X.env=pure false:=by rfl) (hf:X.fn x=true∨X.env.scope.names.lookup x=some .local:=by first|exact .inl rfl|exact .inr rfl|assumption):PS X (.Assign [.Name x pos'] e pos) (wH te (bK i)):=pE (hn▸sc.nd) hi hx he hs hf
theorem sy {X:Cx} {N P:J4} {sp:Scope} (i:Nat) (sc:aB N P sp) {x:Str} {pos:Pos} (hi:X.N[i]?=some x:=by rfl) (hx:Loc X.env.scope x:=by exact Or.inl rfl) (hn:X.N=N:=by rfl) (hf:X.fn x=true∨X.env.scope.names.lookup x=some .local:=by first|exact .inl rfl|exact .inr rfl|assumption):PG X (.Name x pos) (bK i):=jC (hn▸sc.nd) hi hx hf
theorem dN {X:Cx} {k j:Nat} {x:Str} {ps:J4} {dvs:List V} {sp:Sp} {e:Expr} {es:List Expr} {t:TA} {p pos:Pos} (D:Dx X.prog X.w X.K X.mg X.base bu k x ps dvs sp) (hr:bT j X.A) (ha:PA X (e::es) t) (hk:k<=j:=by decide) (hg:Gl X x:=by rfl) (hdb:(x==("__debug__" :Str))=false:=by decide) (he:starEach (e::es) X.env=(false,eval e X.env)::starEach es X.env:=by rfl) (hpl:(backTo pos (starEach es X.env)).any (·.1)=false:=by rfl):PE X (.Call (.Name x p) (e::es) [] pos) (kZ sp [] E0 t):=zx D hr hk hg ha hdb he hpl
noncomputable def top (i:Nat):Stmt:=PySem.Challenge.pw_stovework_k37_room_and_first_fault.main.body.getD i (.Pass ⟨0,0,0,0⟩)
noncomputable def clsAt (s:Stmt) (i:Nat):Stmt:=match s with| .ClassDef _ _ _ body _ _ _ _ _ _ _=>body.getD i (.Pass ⟨0,0,0,0⟩)|_=>s
abbrev Ed:Stmt:=top 13
abbrev Ee:Stmt:=top 15
abbrev Ef:Stmt:=top 16
abbrev De:Stmt:=top 18
abbrev Eg:Stmt:=top 19
abbrev Eh:Stmt:=top 20
abbrev Ei:Stmt:=top 22
abbrev Ej:Stmt:=top 25
abbrev Ek:Stmt:=top 24
abbrev El:Stmt:=top 23
abbrev Av:Stmt:=top 29
abbrev Aw:Stmt:=top 31
abbrev Ax:Stmt:=top 32
abbrev Ay:Stmt:=top 37
abbrev Az:Stmt:=top 36
abbrev AA:Stmt:=top 35
abbrev AB:Stmt:=top 57
abbrev AC:Stmt:=top 56
abbrev AD:Stmt:=top 66
abbrev AE:Stmt:=top 67
abbrev AF:Stmt:=top 65
abbrev AG:Stmt:=top 59
abbrev AH:Stmt:=top 64
abbrev ym:Stmt:=clsAt (top 39) 0
abbrev yn:Stmt:=clsAt (top 41) 0
abbrev AI:Stmt:=clsAt (top 44) 0
abbrev AJ:Stmt:=top 55
abbrev AK:Stmt:=top 61
abbrev AL:Stmt:=top 60
abbrev AM:Stmt:=top 62
abbrev AN:Stmt:=top 63
abbrev AO:Stmt:=top 58
abbrev AQ:Stmt:=top 54
abbrev AR:Stmt:=top 69
abbrev yo:Stmt:=top 70
abbrev AS:Stmt:=top 71
abbrev AT:Stmt:=top 72
abbrev AU:Stmt:=top 73
abbrev AV:Stmt:=top 74
abbrev AW:Stmt:=top 75
abbrev AX:Stmt:=top 76
abbrev AY:Stmt:=top 77
abbrev AZ:Stmt:=top 78
abbrev A0:Stmt:=top 79
abbrev A1:Stmt:=top 80
abbrev A3:Stmt:=top 81
abbrev ir:Stmt:=top 82
abbrev dn:Stmt:=top 83
abbrev ny:Stmt:=top 84
abbrev hU:Stmt:=clsAt (top 7) 0
abbrev fk:Stmt:=clsAt (top 8) 0
abbrev hV:Stmt:=clsAt (top 9) 0
noncomputable def sA:List (Str×List V):= [("dish",[.str "name",.str "plates"]),("take",[.str "name",.str "amount"]),("cut",[.str "name",.str "length",.str "length"]),("rest",[.str "name",.str "length",.str "length"]),("warm",[.str "name",.str "length",.str "length",.str "amount"]),("or",[.str "name",.str "length",.str "length"]),("with",[.str "name",.str "name",.str "many",.str "heat"]),("orwith",[.str "name",.str "name",.str "many",.str "heat"]),("after",[.str "name",.str "name"]),("within",[.str "name",.str "name",.str "turns"]),("apart",[.str "name",.str "name"])]
noncomputable def pi:List (Str×List V):= [("plates",[.int 1,.int 1000]),("length",[.int 1,.int 100000]),("many",[.int 1,.int 8]),("heat",[.int 0,.int 1000]),("turns",[.int 0,.int 100000]),("course",[.int 1,.int 8]),("parts",[.int 0,.int 400]),("low",[.int 0,.int 1000000000000000])]
structure Bn (w:World) (K:F0) (mg:JZ) (Hi Gh Hk Go Gg Gr Gm Gc on Gb Ge Gk Gs Gf mt Ga Gq Gd Hs HQ Ip:Addr):Prop where
 Jn:∃t,mg "LETTERS" =some (.str "abcdefghijklmnopqrstuvwxyz" t)
 IJ:∃t,mg "MOST_LETTERS" =some (.int 12 t)
 Jo:∃t,mg "FIGURES" =some (.str "0123456789" t)
 IK:∃t,mg "MOST_FIGURES" =some (.int 30 t)
 IX:∃t,mg "MOST_TAKES" =some (.int 12 t)
 IY:∃t,mg "MOST_STEPS" =some (.int 12 t)
 Je:∃t,mg "MOST_USES" =some (.int 12 t)
 IZ:∃t,mg "MOST_LINKS" =some (.int 24 t)
 Ja:mg "ValueError" =none
 JJ:mg "abs" =none
 Ju:mg "bool" =none
 Iq:mg "enumerate" =none
 Jt:mg "int" =none
 Gi:mg "isinstance" =none
 HR:mg "len" =none
 HG:mg "list" =none
 Hz:mg "range" =none
 HF:mg "str" =none
 JR:mg "zip" =none
 Js:mg "BOUNDS" =some (.ref Hi)
 JQ:mg "Cut" =some (.ref Gh)
 Jj:mg "FORMS" =some (.ref Hk)
 IW:mg "LINK_WORDS" =some (.ref Go)
 Hy:mg "NoAmount" =some (.ref Gg)
 Jr:mg "NoName" =some (.ref Gr)
 Jh:mg "NoNumber" =some (.ref Gm)
 Iy:mg "NoRow" =some (.ref Gc)
 IE:mg "NoStep" =some (.ref on)
 Jq:mg "Recipe" =some (.ref Gb)
 JN:mg "Rest" =some (.ref Ge)
 HY:mg "STEP_WORDS" =some (.ref Gk)
 JM:mg "Step" =some (.ref Gs)
 IV:mg "StoveError" =some (.ref Gf)
 IP:mg "TooMany" =some (.ref mt)
 IU:mg "Twice" =some (.ref Ga)
 Jd:mg "USE_WORDS" =some (.ref Gq)
 JL:mg "Warm" =some (.ref Gd)
 HM:oa K Gk ["cut","rest","warm"]
 IQ:oa K Gq ["with","orwith"]
 IM:oa K Go ["after","within","apart"]
 Jf:oh w K Hk sA
 Jp:oh w K Hi pi
 IB:GU K Gg wz "ValueError.__new__" =true
 JO:XI K Gg
 Jl:GU K mt wz "ValueError.__new__" =true
 Hq:XI K mt
 Jg:XT K Gg
 IR:XT K Gf
 HK:G2 K (.ref Gg) (.ref Gg)=some true
 Hu:G2 K (.ref Gc) (.ref Gf)=some true
 HJ:G2 K (.ref on) (.ref Gf)=some true
 HS:G2 K (.ref Ga) (.ref Gf)=some true
 HB:G2 K (.ref mt) (.ref Gf)=some true
 Jc:F3 K (.ref Gg) (.ref Gf)=some true
 Hx:F3 K (.ref Gc) (.ref Gg)=some false
 HE:F3 K (.ref Gc) (.ref Gr)=some false
 Hw:F3 K (.ref Gc) (.ref Gm)=some false
 HP:F3 K (.ref Gc) (.ref Gc)=some true
 HD:F3 K (.ref Gc) (.ref on)=some false
 HN:F3 K (.ref Gc) (.ref Ga)=some false
 HA:F3 K (.ref Gc) (.ref mt)=some false
 Ib:F3 K (.ref on) (.ref Gg)=some false
 Ix:F3 K (.ref on) (.ref Gr)=some false
 Ia:F3 K (.ref on) (.ref Gm)=some false
 II:F3 K (.ref on) (.ref Gc)=some false
 Iw:F3 K (.ref on) (.ref on)=some true
 IH:F3 K (.ref on) (.ref Ga)=some false
 Ik:F3 K (.ref on) (.ref mt)=some false
 Ih:F3 K (.ref Ga) (.ref Gg)=some false
 IG:F3 K (.ref Ga) (.ref Gr)=some false
 Ig:F3 K (.ref Ga) (.ref Gm)=some false
 IO:F3 K (.ref Ga) (.ref Gc)=some false
 IF:F3 K (.ref Ga) (.ref on)=some false
 IN:F3 K (.ref Ga) (.ref Ga)=some true
 Ir:F3 K (.ref Ga) (.ref mt)=some false
 HW:F3 K (.ref mt) (.ref Gg)=some false
 Ij:F3 K (.ref mt) (.ref Gr)=some false
 HV:F3 K (.ref mt) (.ref Gm)=some false
 Iv:F3 K (.ref mt) (.ref Gc)=some false
 Ii:F3 K (.ref mt) (.ref on)=some false
 Iu:F3 K (.ref mt) (.ref Ga)=some false
 HZ:F3 K (.ref mt) (.ref mt)=some true
 Hv:F3 K (.ref Gc) (.type "ValueError")=some true
 HL:F3 K (.ref on) (.type "ValueError")=some true
 HU:F3 K (.ref Ga) (.type "ValueError")=some true
 HC:F3 K (.ref mt) (.type "ValueError")=some true
 Id:XA K Gc Gf
 HX:FR K (.ref Gc) "at" =some none
 IL:XA K on Gf
 ID:FR K (.ref on) "at" =some none
 Jb:XA K Ga Gf
 IT:FR K (.ref Ga) "at" =some none
 Gp:XI K Gc
 Hh:XI K on
 Hr:XI K Ga
 JW:mh K Gs
 JV:Mk K Gs Hs
 Io:mh K Gh
 JK:Mk K Gh Hs
 HI:mh K Ge
 JC:Mk K Ge Hs
 HH:mh K Gd
 JB:Mk K Gd HQ
 Gn:mh K Gb
 Jm:Mk K Gb Ip
 Hn:aD K Gh "name"
 Hg:aD K Gh "least"
 Ho:aD K Gh "most"
 Hl:aD K Gh "uses"
 Gz:aD K Gh "second"
 He:aD K Ge "name"
 Gy:aD K Ge "least"
 Hf:aD K Ge "most"
 Hd:aD K Ge "uses"
 Gv:aD K Ge "second"
 Hb:aD K Gd "name"
 Gx:aD K Gd "least"
 Hc:aD K Gd "most"
 Ha:aD K Gd "uses"
 Gu:aD K Gd "second"
 IS:aD K Gd "fill"
 IC:aD K Gb "name"
 Ie:aD K Gb "plates"
 Gw:aD K Gb "takes"
 Gj:aD K Gb "steps"
 Hj:aD K Gb "links"
 Im:zB K Gs "__init__" Hs
 JT:wD K Gs
 JX:wD K Gh
 JU:wD K Ge
 JS:wD K Gd
 JP:wD K Gb
 JI:F3 K (.ref Gh) (.ref Gh)=some true
 JH:F3 K (.ref Gh) (.ref Ge)=some false
 JF:F3 K (.ref Gh) (.ref Gd)=some false
 JG:F3 K (.ref Gh) (.ref Gs)=some true
 JE:F3 K (.ref Ge) (.ref Gh)=some false
 JA:F3 K (.ref Ge) (.ref Ge)=some true
 Jy:F3 K (.ref Ge) (.ref Gd)=some false
 Jz:F3 K (.ref Ge) (.ref Gs)=some true
 JD:F3 K (.ref Gd) (.ref Gh)=some false
 Jx:F3 K (.ref Gd) (.ref Ge)=some false
 Jv:F3 K (.ref Gd) (.ref Gd)=some true
 Jw:F3 K (.ref Gd) (.ref Gs)=some true
 Jk:F3 K (.ref Gb) (.ref Gb)=some true
section
variable {P:Program} {w:World} {K:F0} {mg:JZ} {base:Heap} {f:Addr} {fd:FuncData} {Hi Gh Hk Go Gg Gr Gm Gc on Gb Ge Gk Gs Gf mt Ga Gq Gd Hs HQ Ip:Addr}
variable (B:Bn w K mg Hi Gh Hk Go Gg Gr Gm Gc on Gb Ge Gk Gs Gf mt Ga Gq Gd Hs HQ Ip)
include B
theorem wx {dV:Value} (F:a6 K "__init__" "NoRow.__init__" hU dV f fd):aY P w K mg base bu 1 f fd ["self","at"] (dh Gc "at"):=by
 have sc:aB ["self","at"] ["self","at"] (aq hU):=dC (by decide+kernel)
 and_intros
 ·obtain ⟨a,y,n,rfl,_⟩:=h
  rfl
 obtain ⟨a,y,n,rfl,e,q⟩:=h;exact ⟨_,(ai (ms (K:=K) rfl (pv 0) (pv 1) rfl)),y,rfl,ν,a,Gc,Gf,n,rfl,e,B.Id,B.HX,q⟩
theorem tV {dV:Value} (F:a6 K "__init__" "NoStep.__init__" fk dV f fd):aY P w K mg base bu 1 f fd ["self","at"] (dh on "at"):=by
 have sc:aB ["self","at"] ["self","at"] (aq fk):=dC (by decide+kernel)
 and_intros
 ·obtain ⟨a,y,n,rfl,_⟩:=h
  rfl
 obtain ⟨a,y,n,rfl,e,q⟩:=h;exact ⟨_,(ai (ms (K:=K) rfl (pv 0) (pv 1) rfl)),y,rfl,ν,a,on,Gf,n,rfl,e,B.IL,B.ID,q⟩
theorem wy {dV:Value} (F:a6 K "__init__" "Twice.__init__" hV dV f fd):aY P w K mg base bu 1 f fd ["self","at"] (dh Ga "at"):=by
 have sc:aB ["self","at"] ["self","at"] (aq hV):=dC (by decide+kernel)
 and_intros
 ·obtain ⟨a,y,n,rfl,_⟩:=h
  rfl
 obtain ⟨a,y,n,rfl,e,q⟩:=h;exact ⟨_,(ai (ms (K:=K) rfl (pv 0) (pv 1) rfl)),y,rfl,ν,a,Ga,Gf,n,rfl,e,B.Jb,B.IT,q⟩
theorem Em {dV:Value} (F:a6 K "read_figures" "read_figures" Ed dV f fd):aY P w K mg base bu 1 f fd ["word"] pY:=by
 have sc:aB ["word","sign"] ["word"] (aq Ed):=dC (by decide+kernel)
 and_intros
 ·obtain ⟨_,rfl,_⟩:=h
  rfl
 obtain ⟨z,rfl,hz,q0,q1⟩:=h;have hz':z.length<=sizeLine:=FH hz (by decide)
 have hl:=cr z;refine ⟨_,(ag (aO (PW.pt (cY (aw jU (aU dS rfl B.HR boot_len ((pv 0)<*>af)) ae (aE _)) (cO (aw uh (aU dS rfl B.HR boot_len ((pv 0)<*>af)) (eY rfl B.IK) (aE _))))) (ai (ay br)) aC) (ag (aO (PW.pt (zc (aw bv (av uq (pv 0) ae (fun _ _=>rfl)) ao (aE _)) (wF (aw jT (pv 0) ao (aE _))))) (ai (ay br)) aC) (ag (iZ PassesOwn.never rfl (uU (pv 0)) (sy 1 sc) (ai (aO (aw dR (pv 1) (nS rfl B.Jo) (by with_unfolding_all rfl)) (ai (ay br)) aC))) (ai (ay (bx mG rfl B.Jt boot_int ((pv 0)<*>af))))))),?_⟩
 try dsimp only[cxK]
 refine ⟨ν,z,rfl,hz',ω,ν,d2 (fun c=>?_) (fun c1=>⟨ν,z,rfl,hz',ω,ν,d2 (fun c=>?_) (fun c2=>?_)⟩)⟩
 ·exact q0 (gJ fun f=>by have:=f.1;lia)
 ·exact q0 (gJ fun f=>by have:=f.2.1;lia)
 obtain ⟨c0,r0,el⟩:∃c r,sL z=c::r:=by
  cases e:sL z with
  |nil=>rw[e] at hl;simp at hl;lia
  |cons c r=>exact ⟨c,r,rfl⟩
 try dsimp only[bK,b6]
 refine cut (fun σ H'=>σ= [some (.str z),none]/\H'=H/\(c0≠48∨sL z= [48])) (fun N hN=>?_) ?_
 ·refine ⟨ν,z,0,c0,rfl,rfl,hz',(by show kH (sL z) ((0:Nat):Int)=some c0;exact aG (by rw[el];rfl)),rfl,ν,zF (fun e1=>⟨ν,rfl,ν,va (fun e2=>?_) (fun e2=>?_)⟩) (fun e1=>?_)⟩
  ·refine q0 (gJ fun f=>?_)
   have c48:c0=48:=by
    have:=congrArg sL (e1.trans jH);rw[pW,aT,aT] at this;cases this
    rfl
   rcases f.2.2.1 with h|h
   ·exact h (by rw[el,c48];rfl)
   ·exact e2 (cP (by rw[h,jH,aT]))
  ·exact hN _ _ ⟨rfl,rfl,.inr (by rw[e2,jH,aT])⟩
  ·refine hN _ _ ⟨rfl,rfl,.inl fun e=>e1 ?_⟩
   rw[e,jH]
   rfl
 rintro σ H' ⟨rfl,rfl,hd⟩;refine ⟨ν,z,rfl,qY (fun i σ H2=>H2=H'/\(∃o,σ= [some (.str z),o])/\∀j c,j<i->z.cps[j]?=some c->48<=c/\c<=57) ⟨rfl,⟨ν⟩,fun j c h=>absurd h (by lia)⟩ (fun i c σ H2 hc hP=>?_) (fun σ H2 hP=>?_)⟩
 ·obtain ⟨rfl,⟨o,rfl⟩,hP⟩:=hP;refine ⟨ν,ω,ν,Db (fun e=>?_) (fun e=>?_)⟩
  ·have e':=(rf c).symm.trans e;refine q0 (gJ fun f=>?_)
   have:=f.2.2.2 c (FB (show (sL z)[i]?=some c by rw[<-hc];exact Array.getElem?_toList))
   rw[decide_eq_true this] at e';cases e'
  ·have e':=(rf c).symm.trans e;refine ⟨rfl,⟨ν⟩,fun j c' hj hc'=>?_⟩
   rcases Nat.lt_succ_iff_lt_or_eq.mp hj with k|k
   ·exact hP j c' k hc'
   ·subst k;rw[hc] at hc';cases hc';exact of_decide_eq_true e'
 ·obtain ⟨rfl,⟨o,rfl⟩,hP⟩:=hP;have f:xr (sL z):=by
   refine ⟨by lia,by lia,?_,fun c hc=>?_⟩
   ·rcases hd with h|h
    ·exact .inl (by rw[el];simp;exact h)
    ·exact .inr h
   ·obtain ⟨i,hi⟩:=Ft.mp hc;have hi':z.cps[i]?=some c:=by rw[<-hi];exact Array.getElem?_toList.symm
    exact hP i c (by have:=(GS.mp hi').1;exact this) hi'
  exact ⟨ν,z,ν,int_text f,by have:=f.2.1;lia,q1 _ (pV f)⟩
theorem En {dV:Value} (F:a6 K "is_whole" "is_whole" Ee dV f fd):aY P w K mg base bu 1 f fd ["thing"] gF:=by
 have sc:aB ["thing"] ["thing"] (aq Ee):=dC (by decide+kernel)
 and_intros
 ·obtain ⟨_,rfl,_⟩:=h
  rfl
 obtain ⟨v,rfl,q⟩:=h;refine ⟨_,(ai (ay (pD (aU iB rfl B.Gi boot_isinstance ((pv 0)<*>((eE (v:= .ty "int") rfl B.Jt boot_int rfl)<*>af))) (pC (t8 (aU iB rfl B.Gi boot_isinstance ((pv 0)<*>((eE (v:= .ty "bool") rfl B.Ju boot_bool rfl)<*>af)))))))),?_⟩;try dsimp only[cxK]
 refine ⟨ν,_,_,ν,.ii v,ν,fU ⟨ν,_,_,ν,.ib v,ν,q⟩⟩
theorem Eo {dV:Value} (F:a6 K "divisor" "divisor" Ef dV f fd):aY P w K mg base bu 1 f fd ["one","other"] yw:=by
 have sc:aB ["one","other","greater","lesser","rest"] ["one","other"] (aq Ef):=dC (by decide+kernel)
 and_intros
 ·obtain ⟨_,_,rfl,_⟩:=h
  rfl
 obtain ⟨a,b,rfl,q⟩:=h;refine ⟨_,(ag (cU 2 sc (aU nG rfl B.JJ boot_abs ((pv 0)<*>af))) (ag (cU 3 sc (aU nG rfl B.JJ boot_abs ((pv 1)<*>af))) (ag (ud PassesOwn.never (aw jT (pv 3) ae (aE _)) (ag (cU 4 sc (au bj (pv 2) (pv 3))) (ag (cU 2 sc (pv 3)) (ai (cU 3 sc (pv 4)))))) (ai (ay (pv 2)))))),?_⟩;try dsimp only[cxK]
 refine ⟨ν,ν,ν,ν,?_⟩;refine uf (fun σ H'=>H'=H/\∃(g l:Int) (r:Option V),σ= [some (.int a),some (.int b),some (.int g),some (.int l),r]/\0<=g/\0<=l/\cm g l=cm a b)
  (fun (σ:L2.St) (_:Hp)=>match σ[3]? with|some (some (V.int l))=>l.toNat|_=>0) ⟨rfl,_,_,_,rfl,qO a,qO b,uw a b⟩ ?_ (fun σ H Q Q' m ⟨v,e,s,k,hk,h2⟩=>⟨v,e,s,k,hk,m _ _ h2⟩)
 rintro σ H' ⟨rfl,g,l,r,rfl,g0,l0,inv⟩;refine ⟨ν,rfl,ν,EX (fun c=>?_) (fun c=>?_)⟩
 ·have lp:0<l:=by lia
  refine ⟨ν,ν,ω,c,ν,ν,⟨rfl,l,g.fmod l,ν,l0,FP g lp,?_⟩,?_⟩
  ·rw[sR lp];exact inv
  ·have h1:=Fo g lp;have h2:=FP g lp;show (g.fmod l).toNat<l.toNat
   lia
 ·subst c;rw[sS g0] at inv;rw[<-inv] at q;exact ⟨ν,q⟩
theorem Ep {dV:Value} (F:a6 K "fraction" "fraction" De dV f fd) (DZ1:Dx P w K mg base bu 1 "is_whole" ["thing"] [] gF) (DZ2:Dx P w K mg base bu 1 "divisor" ["one","other"] [] yw):aY P w K mg base bu 2 f fd ["top","bottom"] wX:=by
 have sc:aB ["top","bottom","common"] ["top","bottom"] (aq De):=dC (by decide+kernel)
 and_intros
 ·obtain ⟨_,_,rfl,_⟩:=h
  rfl
 obtain ⟨a,b,rfl,b0,hb,q⟩:=h;refine ⟨_,(ag (aO (PW.pt (cY (fR (cX (dN DZ1 hr ((pv 0)<*>af)))) (cO (fR (cX (dN DZ1 hr ((pv 1)<*>af))))))) (ai nE) aC) (ag (aO (aw bv (pv 1) ae (aE _)) (ai nE) aC) (ag (cU 2 sc (dN DZ2 hr ((pv 0)<*>((pv 1)<*>af)))) (ag (aO (aw jU (pv 1) ae (aE _)) (ai (cU 2 sc (jo fS (pv 2)))) aC) (ai (ay (@bM _ _ _ _ _ ((au eV (pv 0) (pv 2))<*>((au eV (pv 1) (pv 2))<*>af))))))))),?_⟩;try dsimp only[cxK]
 have c0:=uy (a:=a) b0;have cb:=zm (a:=a) b0 hb;have f:=BB (a:=a) b0;refine ⟨ν,ν,true,rfl,cg ⟨ν,ν,true,rfl,cg ?_⟩⟩;refine ⟨ν,rfl,ν,EY b0 ?_⟩;refine ⟨ν,ν,_,ν,?_⟩;refine ⟨ν,ω,ν,d2 (fun c=>?_) (fun c=>?_)⟩
 ·have e:ll a b= -cm a b:=if_pos c;rw[e] at c0 cb f;exact ⟨ν,ν,ν,ν,ω,⟨c0,cb.div c0⟩,ν,ν,ω,⟨c0,cb.div c0⟩,by show 2<=sizeLine;decide,fun t ht=>q _ _ f t _ (ah ht _) ac⟩
 ·have e:ll a b=cm a b:=if_neg c;rw[e] at c0 cb f;exact ⟨ν,ν,ω,⟨c0,cb.div c0⟩,ν,ν,ω,⟨c0,cb.div c0⟩,by show 2<=sizeLine;decide,fun t ht=>q _ _ f t _ (ah ht _) ac⟩
theorem Er {dV:Value} (F:a6 K "plus" "plus" Eg dV f fd) (DZ3:Dx P w K mg base bu 2 "fraction" ["top","bottom"] [.int 1] wX):aY P w K mg base bu 3 f fd ["one","other"] (uB K):=by
 have sc:aB ["one","other"] ["one","other"] (aq Eg):=dC (by decide+kernel)
 and_intros
 ·obtain ⟨_,_,_,_,_,_,rfl,_⟩:=h
  rfl
 obtain ⟨t,t',p,q,p',q',rfl,h1,h2,qq⟩:=h;refine ⟨_,(ai (ay (dN DZ3 hr ((au cw (au gE (av bN (pv 0) ae (fun _ _=>rfl)) (av bN (pv 1) ae (fun _ _=>rfl))) (au gE (av bN (pv 1) ae (fun _ _=>rfl)) (av bN (pv 0) ae (fun _ _=>rfl))))<*>((au gE (av bN (pv 0) ae (fun _ _=>rfl)) (av bN (pv 1) ae (fun _ _=>rfl)))<*>af))))),?_⟩
 try dsimp only[cxK]
 exact ⟨ν,_,_,ω,h1.at_,rfl,ν,_,_,ω,h2.at_,rfl,ω,h1.bp.ok h2.bq,ν,_,_,ω,h2.at_,rfl,ν,_,_,ω,h1.at_,rfl,ω,h2.bp.ok h1.bq,ω,ν,_,_,ω,h1.at_,rfl,ν,_,_,ω,h2.at_,rfl,ω,h1.bq.ok h2.bq,_,ν,uC h1.pos h2.pos,(h1.bq.mul h2.bq).mono (by decide),qq⟩
theorem Es {dV:Value} (F:a6 K "round_down" "round_down" Eh dV f fd):aY P w K mg base bu 1 f fd ["one"] (uA K):=by
 have sc:aB ["one"] ["one"] (aq Eh):=dC (by decide+kernel)
 and_intros
 ·obtain ⟨_,_,_,rfl,_⟩:=h
  rfl
 obtain ⟨t,p,q,rfl,h1,qq⟩:=h;refine ⟨_,(ai (ay (au eV (av bN (pv 0) ae (fun _ _=>rfl)) (av bN (pv 0) ae (fun _ _=>rfl))))),?_⟩
 try dsimp only[cxK]
 have q0:q≠0:=by have:=h1.pos;lia
 exact ⟨ν,_,_,ω,h1.at_,rfl,ν,_,_,ω,h1.at_,rfl,ω,⟨q0,h1.bq.div q0⟩,qq⟩
theorem Et {dV:Value} (F:a6 K "amount_text" "amount_text" Ei dV f fd) (DZ5:Dx P w K mg base bu 1 "round_down" ["one"] [] (uA K)):aY P w K mg base bu 2 f fd ["amount"] (yE K):=by
 have sc:aB ["amount","whole","bottom","top"] ["amount"] (aq Ei):=dC (by decide+kernel)
 and_intros
 ·obtain ⟨_,_,_,rfl,_⟩:=h
  rfl
 obtain ⟨t,p,q,rfl,h1,qq⟩:=h;refine ⟨_,(ag (cU 1 sc (dN DZ5 hr ((pv 0)<*>af))) (ag (cU 2 sc (av bN (pv 0) ae (fun _ _=>rfl))) (ag (cU 3 sc (au pG (av bN (pv 0) ae (fun _ _=>rfl)) (au gE (pv 1) (pv 2)))) (ag (aO (aw bv (pv 3) ae (aE _)) (ai (ay (bx b9 rfl B.HF boot_str ((pv 1)<*>af)))) aC) (ag (aO (aw bv (pv 1) ae (aE _)) (ai (ay (jF (cE (ik (pv 3)) (cE ao (cE (ik (pv 2)) mF)))))) aC) (ai (ay (jF (cE (ik (pv 1)) (cE ao (cE (ik (pv 3)) (cE ao (cE (ik (pv 2)) mF))))))))))))),?_⟩
 try dsimp only[cxK]
 have q0:q≠0:=by have:=h1.pos;lia
 have bp:=BU h1.bp;have bq:=BU h1.bq;have lw:p/q<2^1900:=GB (Nat.div_le_self p q) bp;have lt:p % q<2^1900:=GB (Nat.mod_le p q) bp;refine ⟨ν,t,p,q,rfl,h1.mono (by decide),?_⟩
 rw[vb];refine ⟨ν,_,_,ω,h1.at_,rfl,?_⟩;refine ⟨ν,_,_,ω,h1.at_,rfl,ν,ν,ω,(EA lw).ok h1.bq,ω,?_⟩;dsimp only[bK];rw[xw];have dw:=iJ lw;have dt:=iJ lt;have dq:=iJ bq;have s6:(600:Nat)*3+10<=sizeLine:=by decide
 refine ⟨ν,rfl,ν,jE (fun c=>?_) (fun c=>?_)⟩
 ·refine ⟨ν,ν,lg lw,?_⟩;rw[jG];unfold dv at qq;rw[if_pos (by lia)] at qq
  exact qq
 refine ⟨ν,rfl,ν,jE (fun c2=>?_) (fun c2=>?_)⟩
 ·refine ⟨ν,.inl ⟨ν,lg lt,ν,?_,ν,?_,ν,.inl ⟨ν,lg bq,ν,?_,?_,?_⟩⟩⟩
  all_goals simp only[jG,eZ,nV,uZ,cG,GK,Fa,FS,List.length_nil]
  ·lia
  ·lia
  ·lia
  ·lia
  ·unfold dv at qq;rw[if_neg (by lia),if_pos (by lia)] at qq
   simpa using qq
 ·refine ⟨ν,.inl ⟨ν,lg lw,ν,?_,ν,?_,ν,.inl ⟨ν,lg lt,ν,?_,ν,?_,ν,.inl ⟨ν,lg bq,ν,?_,?_,?_⟩⟩⟩⟩
  all_goals simp only[jG,eZ,iH,nV,uZ,cG,GK,Fa,FS,List.length_nil]
  ·lia
  ·lia
  ·lia
  ·lia
  ·lia
  ·lia
  ·unfold dv at qq;rw[if_neg (by lia),if_neg (by lia)] at qq
   simpa using qq
theorem Eu {dV:Value} (F:a6 K "loosely_read_term" "loosely_read_term" Ej dV f fd) (DZ0:Dx P w K mg base bu 1 "read_figures" ["word"] [] pY) (DZ3:Dx P w K mg base bu 2 "fraction" ["top","bottom"] [.int 1] wX):aY P w K mg base bu 3 f fd ["text"] u0:=by
 have sc:aB ["text","halves","top","bottom"] ["text"] (aq Ej):=dC (by decide+kernel)
 and_intros
 ·obtain ⟨_,rfl,_⟩:=h
  rfl
 obtain ⟨z,rfl,hz,q0,q1⟩:=h;refine ⟨_,(ag (aO (aw dR ao (pv 0) (by with_unfolding_all rfl)) (ai (cU 0 sc (jF (cE (ik (pv 0)) (cE ao mF))))) aC) (ag (cU 1 sc (cZ G4 PySem.F.slot_str_partition PySem.F.type_str_partition iG (pv 0) (ao<*>af))) (ag (cU 2 sc (dN DZ0 hr ((av bN (pv 1) ae (fun _ _=>rfl))<*>af))) (ag (cU 3 sc (dN DZ0 hr ((av bN (pv 1) ae (fun _ _=>rfl))<*>af))) (ag (aO (PW.pt (cY (aw df (pv 2) br (aE _)) (cY (aw df (pv 3) br (aE _)) (cO (aw bv (pv 3) ae (aE _)))))) (ai (ay br)) aC) (ai (ay (dN DZ3 hr ((pv 2)<*>((pv 3)<*>af)))))))))),?_⟩
 try dsimp only[cxK]
 have lz:=cr z;refine cut (fun σ H'=>H'=H/\∃z':Str,σ= [some (.str z'),none,none,none]/\z'.length<=900010/\47∈sL z'/\cT (sL z)=cS (cq 47 (sL z')).1 (cq 47 (sL z')).2) (fun N hN=>?_) ?_
 ·refine ⟨ν,ω,ν,Db (fun e=>?_) (fun e=>?_)⟩
  ·rw[eZ,jd] at e;have e':=of_decide_eq_false e;have e1:Str.ofString "/1" =bE [47,49]:=by decide
   refine ⟨ν,.inr ⟨z,rfl,FH hz (by decide),ν,?_,ν,?_,?_,?_⟩⟩
   all_goals simp only[e1,Str.empty_append]
   ·exact FH hz (by decide)
   ·rw[<-cr,a8,aT,Fa];refine FH (m:=900010) ?_ (by decide)
    simp;omega
   ·rw[<-cr,a8,aT,Fa];refine FH (m:=900010) ?_ (by decide)
    simp;omega
   ·refine hN _ _ ⟨rfl,ν,?_,?_,?_⟩
    ·rw[<-cr,a8,aT,Fa];simp;omega
    ·rw[a8,aT];simp
    ·rw[a8,aT];have c:=dX (c:=47) (a:=sL z) (b:= [49]) e';rw[c];exact if_neg e'
  ·rw[eZ,jd] at e;have e':=of_decide_eq_true e;refine hN _ _ ⟨rfl,z,rfl,by lia,e',?_⟩
   exact if_pos e'
 rintro σ H' ⟨rfl,z',rfl,hz',hm,et⟩;rw[et] at q0 q1;obtain ⟨ec,_⟩:=ra hm;have lz':=cr z';have lc:=congrArg List.length ec;rw[Fa,FS] at lc;refine ⟨ν,rfl,z',ν,rfl,(by rw[eZ,cG];decide),FH hz' (by decide),fun t1 n1=>?_⟩
 rw[eZ,nW,if_pos hm];have g1:=ah n1 (.tup [.str (bE (cq 47 (sL z')).1),.str (bE [47]),.str (bE (cq 47 (sL z')).2)]);generalize (cq 47 (sL z')).1=a at*;generalize (cq 47 (sL z')).2=b at*;cases ea:de a with
 |none=>
  have en:cS a b=none:=by unfold cS;rw[ea]
  refine ⟨ν,_,_,ω,cM.of ac,rfl,ν,by rw[cG];lia,fun _=>?_,(fun n h=>by rw[aT,ea] at h;cases h)⟩
  cases eb:de b with
  |none=>
   refine ⟨ν,_,_,ω,cM.of ac,rfl,ν,by rw[cG];lia,fun _=>?_,(fun n h=>by rw[aT,eb] at h;cases h)⟩
   exact ⟨ν,rfl,ν,dT rfl (q0 en _ g1)⟩
  |some m=>
   refine ⟨ν,_,_,ω,cM.of ac,rfl,ν,by rw[cG];lia,(fun h=>by rw[aT,eb] at h;cases h),fun n h=>?_⟩
   exact ⟨ν,rfl,ν,dT rfl (q0 en _ g1)⟩
 |some n=>
  refine ⟨ν,_,_,ω,cM.of ac,rfl,ν,by rw[cG];lia,(fun h=>by rw[aT,ea] at h;cases h),fun n' h=>?_⟩
  rw[aT,ea] at h;cases h;cases eb:de b with
  |none=>
   have en:cS a b=none:=by unfold cS;rw[ea,eb]
   refine ⟨ν,_,_,ω,cM.of ac,rfl,ν,by rw[cG];lia,fun _=>?_,(fun n h=>by rw[aT,eb] at h;cases h)⟩
   exact ⟨ν,rfl,ν,dF (fun z=>nomatch z) ⟨ν,rfl,ν,dT rfl (q0 en _ g1)⟩⟩
  |some m=>
   refine ⟨ν,_,_,ω,cM.of ac,rfl,ν,by rw[cG];lia,(fun h=>by rw[aT,eb] at h;cases h),fun m' h=>?_⟩
   rw[aT,eb] at h;cases h;refine ⟨ν,rfl,ν,dF (fun z=>nomatch z) ⟨ν,rfl,ν,dF (fun z=>nomatch z) ⟨ν,rfl,ν,jE (fun c=>?_) (fun c=>?_)⟩⟩⟩
   ·exact q0 (by unfold cS;rw[ea,eb];simp only;rw[if_pos (by lia)]) _ g1
   ·have m0:m≠0:=fun z=>c (by rw[z];rfl)
    have ep:cS a b=some (n,m):=by unfold cS;rw[ea,eb];simp only;rw[if_neg m0]
    refine ⟨ν,ν,_,ν,c,(gL (jc eb)).mono (by decide),fun p q f t2 H2 g2 e2=>?_⟩
    exact q1 n m p q ep m0 (jc ea) (jc eb) f t2 H2 (g1.trans g2) e2
theorem Ev {dV:Value} (F:a6 K "loosely_read" "loosely_read" Ek dV f fd) (DZ4:Dx P w K mg base bu 3 "plus" ["one","other"] [] (uB K)) (DZ7:Dx P w K mg base bu 3 "loosely_read_term" ["text"] [] u0):aY P w K mg base bu 4 f fd ["text"] rh:=by
 have sc:aB ["text","halves","whole","rest"] ["text"] (aq Ek):=dC (by decide+kernel)
 and_intros
 ·obtain ⟨_,rfl,_⟩:=h
  rfl
 obtain ⟨z,rfl,hz,q0,q1⟩:=h;refine ⟨_,(ag (aO (aw dR ao (pv 0) (by with_unfolding_all rfl)) (ai (ay (dN DZ7 hr ((pv 0)<*>af)))) aC) (ag (cU 1 sc (cZ G4 PySem.F.slot_str_partition PySem.F.type_str_partition iG (pv 0) (ao<*>af))) (ag (cU 2 sc (dN DZ7 hr ((av bN (pv 1) ae (fun _ _=>rfl))<*>af))) (ag (cU 3 sc (dN DZ7 hr ((av bN (pv 1) ae (fun _ _=>rfl))<*>af))) (ag (aO (PW.pt (cY (aw df (pv 2) br (aE _)) (cO (aw df (pv 3) br (aE _))))) (ai (ay br)) aC) (ai (ay (dN DZ4 hr ((pv 2)<*>((pv 3)<*>af)))))))))),?_⟩
 try dsimp only[cxK]
 have noB:∀{n:Nat},n<10^30->Bd 400 (n:Int):=fun h=>(gL h).mono (by decide)
 refine ⟨ν,ω,ν,Db (fun e=>?_) (fun e=>?_)⟩
 ·rw[iH,jd] at e;have e':=of_decide_eq_false e;have el:di (sL z)=cT (sL z):=if_neg e';rw[el] at q0 q1;refine ⟨ν,z,rfl,by lia,q0,fun n m p q ht m0 hn hm f=>?_⟩
  exact q1 n m p q ht f.to f.same m0 ((noB hn).of_le f.bt) ((noB hm).of_le f.bb)
 ·rw[iH,jd] at e;have e':=of_decide_eq_true e;obtain ⟨ec,_⟩:=ra e';have el:di (sL z)=mD (cT (cq 43 (sL z)).1) (cT (cq 43 (sL z)).2):=if_pos e';rw[el] at q0 q1;have lz:=cr z;have lc:=congrArg List.length ec;rw[Fa,FS] at lc;refine ⟨ν,rfl,z,ν,rfl,(by rw[iH,cG];decide),FH hz (by decide),fun t1 n1=>?_⟩
  rw[iH,nW,if_pos e'];have g1:=ah n1 (.tup [.str (bE (cq 43 (sL z)).1),.str (bE [43]),.str (bE (cq 43 (sL z)).2)]);generalize (cq 43 (sL z)).1=a at*;generalize (cq 43 (sL z)).2=b at*;refine ⟨ν,_,_,ω,(cM.of ac),rfl,ν,by rw[cG];lia,fun ht H2 g2=>?_,fun n m p q ht m0 hn hm f t2 H2 g2 e2=>?_⟩
  ·rw[aT] at ht;have en:mD (cT a) (cT b)=none:=by unfold mD;rw[ht]
   have E2:H2 t1=some _:=g2 _ _ ac;refine ⟨ν,_,_,ω,cM.of E2,rfl,ν,by rw[cG];lia,fun hb H3 g3=>?_,fun n m p q hb m0 hn hm f t3 H3 g3 e3=>?_⟩
   ·exact ⟨ν,rfl,ν,dT rfl (q0 en _ (g1.trans (g2.trans g3)))⟩
   ·exact ⟨ν,rfl,ν,dT rfl (q0 en _ (g1.trans (g2.trans g3)))⟩
  ·rw[aT] at ht;have E2:H2 t1=some _:=g2 _ _ ac;refine ⟨ν,_,_,ω,cM.of E2,rfl,ν,by rw[cG];lia,fun hb H3 g3=>?_,fun n' m' p' q' hb m0' hn' hm' f' t3 H3 g3 e3=>?_⟩
   ·rw[aT] at hb;have en:mD (cT a) (cT b)=none:=by unfold mD;rw[ht,hb]
    exact ⟨ν,rfl,ν,dF (fun z=>nomatch z) ⟨ν,rfl,ν,dT rfl (q0 en _ (g1.trans (g2.trans g3)))⟩⟩
   ·rw[aT] at hb;have es:mD (cT a) (cT b)=some (n*m'+n'*m,m*m'):=by unfold mD;rw[ht,hb]
    have F1:jx K 100 H3 t2 p q:= .of f (gL hn) (gL hm) (g3 _ _ e2);have F2:jx K 100 H3 t3 p' q':= .of f' (gL hn') (gL hm') e3;refine ⟨ν,rfl,ν,dF (fun z=>nomatch z) ⟨ν,rfl,ν,dF (fun z=>nomatch z) ?_⟩⟩
    refine ⟨ν,ν,t2,t3,p,q,p',q',rfl,F1.mono (by decide),F2.mono (by decide),fun r s fr t4 H4 g4 e4=>?_⟩
    have b1:Bd 201 (p*q'+p'*q):=(F1.bp.mul F2.bq).add (F2.bp.mul F1.bq);have b2:Bd 200 (q*q'):=F1.bq.mul F2.bq;refine q1 _ _ r s es fr.to ?_ (Nat.mul_ne_zero m0 m0') ((b1.of_le fr.bt).mono (by decide)) ((b2.of_le fr.bb).mono (by decide)) t4 H4 (g1.trans (g2.trans (g3.trans g4))) e4
    have sm:=uD f.same f'.same F1.pos F2.pos fr.same;rw[GF,Int.natCast_add,GF,GF];exact sm
theorem Ew {dV:Value} (F:a6 K "read_amount" "read_amount" El dV f fd) (DZ6:Dx P w K mg base bu 2 "amount_text" ["amount"] [] (yE K)) (DZ8:Dx P w K mg base bu 4 "loosely_read" ["text"] [] rh):aY P w K mg base (d0 P w) 5 f fd ["text"] (pZ Gg):=by
 have sc:aB ["text","amount"] ["text"] (aq El):=dC (by decide+kernel)
 refine F.okX sc (fun vs H Q E h=>?_) (fun cdv A outer s H vs Q E hr h=>?_)
 ·obtain ⟨_,rfl,_⟩:=h
  rfl
 obtain ⟨z,rfl,hz,q0,q1⟩:=h;refine ⟨_,(ag (aO (fR (cX (aU (i9 (K:=K) rfl) rfl B.Gi boot_isinstance ((pv 0)<*>((eE (v:= .ty "str") rfl B.HF boot_str rfl)<*>af))))) (ai (j6 B.IB rfl B.Hy rfl bP (ao<*>af))) aC) (ag (cU 1 sc (dN DZ8 hr ((pv 0)<*>af))) (ag (aO (PW.pt (cY (aw df (pv 1) br (aE _)) (cO (aw jT (dN DZ6 hr ((pv 1)<*>af)) (pv 0) (aE _))))) (ai (j6 B.IB rfl B.Hy rfl bP (ao<*>af))) aC) (ai (ay (pv 1)))))),?_⟩;try dsimp only[cxK]
 refine ⟨ν,_,_,"str",true,rfl,.str z,(by kernel_rfl),true,rfl,cg ?_⟩
 refine ⟨ν,z,rfl,hz,fun hl H2 g2=>?_,fun n m p q hl lo sm m0 bp bq t2 H2 g2 e2=>?_⟩
 ·refine ⟨ν,rfl,ν,dT rfl ⟨by show 1<=sizeLine;decide,q1 (fun p q r=>?_) _ g2⟩⟩
  obtain ⟨n,m,e,_⟩:=r.ex;rw[hl] at e;cases e
 ·have p0:0<=p:=Int.nonneg_of_mul_nonneg_left (a:=p) (b:=(m:Int)) (by rw[sm];exact Int.mul_nonneg (Int.natCast_nonneg _) (Int.le_of_lt lo.pos)) (by lia)
  obtain ⟨P,rfl⟩:=Int.eq_ofNat_of_zero_le p0;obtain ⟨D,rfl⟩:=Int.eq_ofNat_of_zero_le (Int.le_of_lt lo.pos);have F1:jx K 1900 H2 t2 P D:=⟨cM.of e2,lo.pos,bp.mono (by decide),bq.mono (by decide)⟩
  have low:Nat.gcd P D=1:=by
   have:=lo.low;show Nat.gcd P D=1;have e:cm (P:Int) (D:Int)=((Nat.gcd P D:Nat):Int):=rfl;rw[e] at this
   lia
  have D0:0<D:=by have:=lo.pos;lia
  have sm':P*m=n*D:=by
   have:((P*m:Nat):Int)=((n*D:Nat):Int):=by rw[GF,GF];exact sm
   lia
  refine ⟨ν,rfl,ν,dF (fun z=>nomatch z) ⟨ν,t2,P,D,rfl,F1,ν,rfl,ν,va (fun e=>?_) (fun e=>?_)⟩⟩
  ·refine ⟨by show 1<=sizeLine;decide,q1 (fun p q r=>e ?_) _ g2⟩
   obtain ⟨n',m',el,sm2⟩:=r.ex;rw[hl] at el;cases el;have u:(P:Int)=p/\(D:Int)=q:=by
    refine pP lo ⟨by have:=r.pos;lia,by show ((Nat.gcd p q:Nat):Int)=1;rw[r.low];rfl⟩ ?_
    have:P*q=p*D:=by
     refine Nat.eq_of_mul_eq_mul_right (Nat.pos_of_ne_zero m0) ?_;have h1:P*q*m=(P*m)*q:=by rw[Nat.mul_right_comm]
     have h2:p*D*m=(p*m)*D:=by rw[Nat.mul_right_comm]
     rw[h1,h2,sm',sm2,Nat.mul_right_comm]
    have h3:((P*q:Nat):Int)=((p*D:Nat):Int):=by rw[this]
    rw[GF,GF] at h3;exact h3
   have e1:P=p:=by have:=u.1;lia
   have e2':D=q:=by have:=u.2;lia
   rw[e1,e2',r.wr,uY]
  ·refine ⟨ν,q0 P D ⟨D0,low,⟨n,m,hl,sm'⟩,?_⟩ t2 H2 g2 e2⟩;rw[<-e,aT]
theorem Cq {dV:Value} (F:a6 K "is_name" "is_name" Av dV f fd):aY P w K mg base bu 1 f fd ["thing"] (n9 K):=by
 have sc:aB ["thing","sign"] ["thing"] (aq Av):=dC (by decide+kernel)
 and_intros
 ·obtain ⟨_,rfl,_⟩:=h
  rfl
 obtain ⟨x,rfl,h⟩:=h;refine ⟨_,(ag (aO (PW.pt (cY (fR (cX (aU (i9 (K:=K) rfl) rfl B.Gi boot_isinstance ((pv 0)<*>((eE (v:= .ty "str") rfl B.HF boot_str rfl)<*>af))))) (cY (aw jU (aU dS rfl B.HR boot_len ((pv 0)<*>af)) ae (aE _)) (cO (aw uh (aU dS rfl B.HR boot_len ((pv 0)<*>af)) (eY rfl B.IJ) (aE _)))))) (ai (ay kU)) aC) (ag (iZ PassesOwn.never rfl (uU (pv 0)) (sy 1 sc) (ai (aO (aw dR (pv 1) (nS rfl B.Jn) (by with_unfolding_all rfl)) (ai (ay kU)) aC))) (ai (ay kU)))),?_⟩
 try dsimp only[cxK]
 rcases h with ⟨z,rfl,hz,q1,q0⟩|⟨ty,hty,hk,q⟩
 ·have hz':z.length<=sizeLine:=FH hz (by decide)
  have hl:=cr z;try dsimp only[bK,b6]
  refine cut (fun σ H'=>H=H'/\σ= [some (.str z),none]/\1<=z.length/\z.length<=12) (fun N hN=>?_) ?_
  ·refine ⟨ν,_,_,_,true,rfl,.str _,rfl,ν,cg ⟨ν,z,rfl,hz',ω,ν,d2 (fun c=>?_) (fun c1=>⟨ν,z,rfl,hz',ω,ν,d2 (fun c=>?_) (fun c2=>?_)⟩)⟩⟩
   ·exact q0 fun n=>by have:=n.1;lia
   ·exact q0 fun n=>by have:=n.2.1;lia
   ·exact hN _ _ ⟨rfl,rfl,by lia,by lia⟩
  rintro σ _ ⟨rfl,rfl,l1,l2⟩;refine ⟨ν,z,rfl,qY (fun i σ H2=>H=H2/\(∃o,σ= [some (.str z),o])/\∀j c,j<i->z.cps[j]?=some c->97<=c/\c<=122) ⟨rfl,⟨ν⟩,fun j c h=>absurd h (by lia)⟩ (fun i c σ H2 hc hP=>?_) (fun σ H2 hP=>?_)⟩
  ·obtain ⟨rfl,⟨o,rfl⟩,hP⟩:=hP;refine ⟨ν,ω,ν,Db (fun e=>?_) (fun e=>?_)⟩
   ·have e':=(rD c).symm.trans e;refine q0 fun n=>?_
    have:=n.2.2 c (FB (show (sL z)[i]?=some c by rw[<-hc];exact Array.getElem?_toList))
    rw[decide_eq_true this] at e';cases e'
   ·have e':=(rD c).symm.trans e;refine ⟨rfl,⟨ν⟩,fun j c' hj hc'=>?_⟩
    rcases Nat.lt_succ_iff_lt_or_eq.mp hj with k|k
    ·exact hP j c' k hc'
    ·subst k;rw[hc] at hc';cases hc';exact of_decide_eq_true e'
  ·obtain ⟨rfl,⟨o,rfl⟩,hP⟩:=hP;refine q1 ⟨by lia,by lia,fun c hc=>?_⟩
   obtain ⟨i,hi⟩:=Ft.mp hc;have hi':z.cps[i]?=some c:=by rw[<-hi];exact Array.getElem?_toList.symm
   exact hP i c (by have:=(GS.mp hi').1;exact this) hi'
 ·exact ⟨ν,_,_,_,false,rfl,hty,hk,ν,fU q⟩
theorem Cr {dV:Value} (F:a6 K "words_of" "words_of" Aw dV f fd):aY P w K mg base bu 1 f fd ["row"] rq:=by
 have sc:aB ["row","words"] ["row"] (aq Aw):=dC (by decide+kernel)
 and_intros
 ·obtain ⟨_,rfl,_⟩:=h
  rfl
 obtain ⟨z,rfl,hz,q0,q1⟩:=h;have s4:(5000:Nat)<=sizeLine:=by decide
 refine ⟨_,(ag (cU 1 sc (cZ G4 PySem.F.slot_str_split PySem.F.type_str_split nU (pv 0) (ao<*>af))) (ag (aO (aw dZ ao (pv 1) (by with_unfolding_all rfl)) (ai (ay br)) aC) (ai (ay (pv 1))))),?_⟩
 try dsimp only[cxK]
 refine ⟨ν,rfl,z,32,rfl,rfl,by lia,fun p np=>?_⟩
 have g1:=ah np (.lst ((Txt.split z (bE [32])).map V.str));try dsimp only[bK,b6]
 refine ⟨ν,p,ν,.inl (aI.of ac),rfl,lH _,ν,A9 (fun e=>q0 e _ g1) (fun e=>⟨ν,q1 e p _ g1 ac⟩)⟩
theorem Cs {dV:Value} (F:a6 K "number_of" "number_of" Ax dV f fd) (DZ0:Dx P w K mg base bu 1 "read_figures" ["word"] [] pY):aY P w K mg base bu 2 f fd ["word","low","high"] rz:=by
 have sc:aB ["word","low","high","number"] ["word","low","high"] (aq Ax):=dC (by decide+kernel)
 and_intros
 ·obtain ⟨_,_,_,rfl,_⟩:=h
  rfl
 obtain ⟨z,lo,hi,rfl,hz,q0,q1⟩:=h;refine ⟨_,(ag (cU 3 sc (dN DZ0 hr ((pv 0)<*>af))) (ag (aO (PW.pt (cY (aw df (pv 3) br (aE _)) (cY (aw jU (pv 3) (pv 1) (aE _)) (cO (aw uh (pv 3) (pv 2) (aE _)))))) (ai (ay br)) aC) (ai (ay (pv 3))))),?_⟩;try dsimp only[cxK]
 refine ⟨ν,z,rfl,hz,fun e=>⟨ν,rfl,ν,dT rfl (q0 e)⟩,fun n e=>⟨ν,rfl,ν,dF (fun z=>nomatch z) ?_⟩⟩
 have q:=q1 n e;refine ⟨ν,ν,ω,ν,d2 (fun c=>?_) (fun c=>⟨ν,ν,ω,ν,d2 (fun c2=>?_) (fun c2=>⟨ν,?_⟩)⟩)⟩
 ·rw[if_pos (.inl c)] at q;exact q
 ·rw[if_pos (.inr c2)] at q;exact q
 ·rw[if_neg (fun k=>k.elim c c2)] at q
  exact q
theorem Ct {dV:Value} (F:a6 K "amount_from" "amount_from" Ay dV f fd) (XZ9:Dx P w K mg base (d0 P w) 5 "read_amount" ["text"] [] (pZ Gg)):aY P w K mg base bu 6 f fd ["word","least"] lN:=by
 have sc:aB ["word","least","amount"] ["word","least"] (aq Ay):=dC (by decide+kernel)
 and_intros
 ·obtain ⟨_,rfl,_⟩:=h
  rfl
 obtain ⟨w,rfl,wl,q0,q1⟩:=h;refine ⟨_,(ag (uI rfl rfl (fun pins E=>(ai (cU 2 sc (b3 XZ9 hr (by decide) rfl bP ((pv 0)<*>af))))) (BE B.Jg rfl B.Hy (fun pins a=>(ai (ay br))) uJ)) (ai (ay (eU (aw Br (av bN (pv 2) ae (fun _ _=>rfl)) (pv 1) (aE _)) (pv 2) br)))),?_⟩
 try dsimp only[cxK]
 have sl:sizeLine=16777216:=sizeLine_eq;refine cut (fun σ H'=>∃(t:Addr) (p q:Nat),σ= [some (.str w),some (.int 1),J9 t]/\ax H H'/\H' t=some (.tup [.int p,.int q])/\Reads (sL w) p q) (fun N hN=>?_) ?_
 ·refine ⟨ν,w,rfl,by lia,fun p q rd t H1 g1 e1=>?_,fun no H1 g1=>?_⟩
  ·exact hN _ _ ⟨t,p,q,rfl,g1,e1,rd⟩
  ·intro a na;have ga:=ah na (dW a (.ref Gg) none);refine ⟨Gg,true,rfl,B.HK,fU ?_⟩;exact q0 (jf fun a h _=>no _ _ h) _ (g1.trans ga)
 rintro σ H1 ⟨t,p,q,rfl,g1,e1,rd⟩;refine ⟨ν,t,_,ω,cM.of e1,rfl,ν,ω,ν,d2 (fun c=>⟨ν,q1 (p,q) (lM (a:=(p,q)) rd (by show 1<=p;lia)) t _ g1 e1⟩) fun c=>q0 (jf fun a h h1=>?_) _ g1⟩
 obtain ⟨e,_⟩:=gK h rd
 lia
theorem Cu {dV:Value} (F:a6 K "value_of" "value_of" Az dV f fd) (DZ10:Dx P w K mg base bu 1 "is_name" ["thing"] [] (n9 K)) (DZ12:Dx P w K mg base bu 2 "number_of" ["word","low","high"] [] rz) (DZ13:Dx P w K mg base bu 6 "amount_from" ["word","least"] [] lN):aY P w K mg base bu 7 f fd ["field","word"] lO:=by
 have sc:aB ["field","word","bounds"] ["field","word"] (aq Az):=dC (by decide+kernel)
 and_intros
 ·obtain ⟨_,_,rfl,_⟩:=h
  rfl
 obtain ⟨f,z,rfl,zl,fo,q0,q1⟩:=h;refine ⟨_,(ag (aO (aw bv (pv 0) ao (aE _)) (ai (ay (eU (cX (dN DZ10 hr ((pv 1)<*>af))) (pv 1) br))) aC) (ag (aO (aw bv (pv 0) ao (aE _)) (ai (ay (dN DZ13 hr ((pv 1)<*>(ae<*>af))))) aC) (ag (aO (aw bv (pv 0) ao (aE _)) (ai (ay (dN DZ13 hr ((pv 1)<*>(ae<*>af))))) aC) (ag (cU 2 sc (ol (K:=K) (w:=w) rfl rfl (bY (v:=V.ref Hi) rfl B.Js rfl) (pv 0) (fun _ _=>rfl))) (ai (ay (dN DZ12 hr ((pv 1)<*>((av bN (pv 2) ae (fun _ _=>rfl))<*>((av bN (pv 2) ae (fun _ _=>rfl))<*>af)))))))))),?_⟩
 try dsimp only[cxK]
 have sl:sizeLine=16777216:=sizeLine_eq;refine cut (fun σ H'=>σ= [some (.str f),some (.str z),none]/\H=H'/\f≠ "name") (fun N hN=>?_) ?_
 ·refine ⟨ν,rfl,ν,tu (fun e=>?_) fun e=>hN _ _ ⟨rfl,rfl,e⟩⟩
  have ef:aR f z=if Ba z=true then some (.nm z) else none:=by unfold aR;rw[if_pos e]
  refine ⟨ν,ν,.inl ⟨z,rfl,by lia,fun nm=>⟨ν,fU ⟨ν,q1 (.nm z) ?_ _ _ (.refl _) rfl⟩⟩,fun nm=>⟨ν,cg (q0 ?_ _ (.refl _))⟩⟩⟩
  ·rw[ef,if_pos ((iN z).mpr nm)]
  ·rw[ef,if_neg fun k=>nm ((iN z).mp k)]
 rintro σ _ ⟨rfl,rfl,n1⟩;refine cut (fun σ H'=>σ= [some (.str f),some (.str z),none]/\H=H'/\f≠ "amount") (fun N hN=>?_) ?_
 ·refine ⟨ν,rfl,ν,tu (fun e=>?_) fun e=>hN _ _ ⟨rfl,rfl,e⟩⟩
  have ef:aR f z=(ow z).map .am:=by unfold aR;rw[if_neg n1,if_pos e]
  exact ⟨ν,z,rfl,zl,fun h H1 g1=>q0 (by rw[ef,h];rfl) H1 g1,fun a h t H1 g1 e1=>q1 (.am a) (by rw[ef,h];rfl) _ _ g1 ⟨t,rfl,trivial,e1⟩⟩
 rintro σ _ ⟨rfl,rfl,n2⟩;obtain ⟨n3,b,hb⟩:f≠ "stock" /\∃b,ou.lookup f=some b:=by
  rcases fo with e|e|⟨_,_,n3,hb⟩
  ·exact absurd e n1
  ·exact absurd e n2
  ·exact ⟨n3,hb⟩
 have ef:aR f z=(kO z b.1 b.2).map .num:=by unfold aR;rw[if_neg n1,if_neg n2,hb]
 refine cut (fun σ H'=>σ= [some (.str f),some (.str z),none]/\H=H') (fun N hN=>?_) ?_
 ·exact ⟨ν,rfl,ν,tu (fun e=>absurd e n3) fun e=>hN _ _ ⟨rfl,rfl⟩⟩
 rintro σ _ ⟨rfl,rfl⟩;refine ⟨ν,Hi,xI,f,ν,rfl,B.Jp,zY,xK hb,fun t tv=>?_⟩
 have st:=fun H=>mP.sq tv H
 dsimp only[bK,b6];refine ⟨ν,ν,t,_,ω,st _,rfl,ν,t,_,ω,st _,rfl,z,_,ν,by lia,fun e=>q0 ?_ _ (.refl _),fun n e=>?_⟩
 ·rw[ef];unfold kO;rw[if_neg fun h=>?_]
  ·rfl
  ·have:=(kh _).mp h.1;rw[pV this] at e;cases e
 ·have ex:=ka e;have fg:xr (sL z):=by
   refine Classical.byContradiction fun nf=>?_
   rw[gJ nf] at e;cases e
  have ev:PySem.NumText.digitsVal (sL z)=n:=by
   rw[pV fg] at e;exact FT e
  by_cases c:b.1<=n/\n<=b.2
  ·rw[if_neg (by lia)]
   refine q1 (.num n) ?_ _ _ (.refl _) rfl;rw[ef];unfold kO;rw[ev,if_pos ⟨(kh _).mpr fg,c⟩]
   rfl
  ·rw[if_pos (by lia)]
   refine q0 ?_ _ (.refl _);rw[ef];unfold kO;rw[ev,if_neg fun h=>c h.2]
   rfl
theorem Cv {dV:Value} (F:a6 K "values_by" "values_by" AA dV f fd) (DZ14:Dx P w K mg base bu 7 "value_of" ["field","word"] [] lO):aY P w K mg base bu 8 f fd ["fields","words"] (kt K):=by
 have sc:aB ["fields","words","values","field","word"] ["fields","words"] (aq AA):=dC (by decide+kernel)
 and_intros
 ·obtain ⟨_,_,_,_,_,rfl,_⟩:=h
  rfl
 obtain ⟨t,l,fs,w,rest,rfl,tv,el,wb,fo,fl,q0,q1⟩:=h;refine ⟨_,(ag (aO (aw jT (aU cB rfl B.HR boot_len ((pv 1)<*>af)) (au cw ae (aU cB rfl B.HR boot_len ((pv 0)<*>af))) (aE _)) (ai (ay br)) aC) (ag (cU 2 sc (@bw _ _ _ _ ((av ak (pv 1) ae (fun _ _=>rfl))<*>af))) (ag (iZ PassesOwn.never rfl (B5 rfl B.JR ((pv 0)<*>((fT ix (pv 1) (eH ae) gD)<*>af))) (iY rfl (cf (sy 3 sc) (cf (sy 4 sc) gC))) (ai (bi (cZ FY Fc Fb bG (pv 2) ((dN DZ14 hr ((pv 3)<*>((pv 4)<*>af)))<*>af))))) (ai (ay (eU (aw (xJ (BA hr)) br (pv 2) (by with_unfolding_all rfl)) br (pv 2))))))),?_⟩
 try dsimp only[cxK]
 have sl:sizeLine=16777216:=sizeLine_eq;have st:=fun H=>mP.sq tv H (G1.mpr fun v hv=>(by obtain ⟨x,_,rfl⟩:=FE.mp hv;rfl))
 refine cut (fun σ H'=>σ= [J9 t,J9 l,none,none,none]/\H=H'/\fs.length=rest.length) (fun N hN=>?_) ?_
 ·refine ⟨ν,l,ν,.inl (aI.of el),ν,t,ν,.inr (st _),?_⟩;refine ⟨ω,rfl,ν,?_⟩
  by_cases e:fs.length=rest.length
  ·show if (!decide (V.int _=V.int _))=true then _ else _
   rw[if_neg (by rw[decide_eq_true (congrArg V.int (by simp[e];lia))];decide)]
   exact hN _ _ ⟨rfl,rfl,e⟩
  ·show if (!decide (V.int _=V.int _))=true then _ else _
   rw[if_pos (by rw[decide_eq_false fun z=>by have:=vj z;simp at this;lia];rfl)]
   exact q0 (lP e) _ (.refl _)
 rintro σ _ ⟨rfl,rfl,en⟩;refine ⟨ν,l,_,ω,aI.of el,(aG (j:=0) rfl),by show 1<=sizeLine;decide,fun vl nv=>?_⟩
 have g1:=ah nv (.lst [.str w]);have e1:aL H vl (.lst [.str w]) vl=some (.lst [.str w]):=ac;generalize aL H vl (.lst [.str w])=H1 at g1 e1⊢;dsimp only[bK,b6];refine cut (fun σ H'=>∃o3 o4 xs,σ= [J9 t,J9 l,J9 vl,o3,o4]/\ax H H'/\H' vl=some (.lst (.str w::xs))/\A2 (rN H') xs (gf fs rest)) (fun N hN=>?_) ?_
 ·refine ⟨ν,ν,ν,l,ν,aI.of (g1 _ _ el),fun sl' nsl=>?_⟩
  have ec:dQ ((w::rest).map V.str) (some 1) none=rest.map V.str:=lI (c:=1);rw[ec];have g2:=g1.trans (ah nsl (.lst (rest.map V.str)));have e2:aL H1 sl' (.lst (rest.map V.str)) sl'=some (.lst (rest.map V.str)):=ac;have e12:=ah nsl (.lst (rest.map V.str)) _ _ e1;have ns:sl'≠vl:=fun z=>by rw[z,e1] at nsl;cases nsl
  generalize aL H1 sl' (.lst (rest.map V.str))=H2 at g2 e2 e12⊢;refine ⟨t,sl',rfl,⟨_,st _⟩,⟨_,aI.of e2⟩,zW (xs:=fs.map V.str) (ys:=rest.map V.str) (fun i σ H'=>∃o3 o4 xs,σ= [J9 t,J9 l,J9 vl,o3,o4]/\ax H H'/\H' sl'=some (.lst (rest.map V.str))/\H' vl=some (.lst (.str w::xs))/\A2 (rN H') xs ((gf fs rest).take i)) ⟨none,none,[],rfl,g2,e2,e12,.nil⟩ (fun i σ H' _ ⟨_,_,_,_,_,e,_⟩=>⟨st _,aI.of e⟩) ?_ ?_⟩
  ·rintro i y z σ H3 T hy hz ⟨o3,o4,xs,rfl,g3,e3,e4,r⟩ nT;rw[FG] at hy hz;obtain ⟨fd',hf,rfl⟩:=FQ.mp hy;obtain ⟨wd,hw,rfl⟩:=FQ.mp hz;refine ⟨T,ν,cM.of ac,rfl,_,ν,ω,?_⟩;have gT:=ah nT (.tup [.str fd',.str wd]);generalize aL H3 T (.tup [.str fd',.str wd])=H4 at gT⊢;have il:(gf fs rest)[i]?=some (aR fd' wd):=by
    unfold gf;rw[FG,(List.getElem?_zip_eq_some (z:=(fd',wd))).mpr ⟨hf,hw⟩]
    rfl
   have fin:∀(x:V) (H5:Hp),ax H4 H5->rN H5 x (aR fd' wd)->∃o3 o4 xs',[some (V.ref t),some (V.ref l),some (V.ref vl),some (V.str fd'),some (V.str wd)]= [some (.ref t),some (.ref l),some (.ref vl),o3,o4]/\ax H (aL H5 vl (.lst (.str w::xs++ [x])))/\aL H5 vl (.lst (.str w::xs++ [x])) sl'=some (.lst (rest.map V.str))/\aL H5 vl (.lst (.str w::xs++ [x])) vl=some (.lst (.str w::xs'))/\A2 (rN (aL H5 vl (.lst (.str w::xs++ [x])))) xs' ((gf fs rest).take (i+1)):=by
    intro x H5 g5 rx;have g45:=gT.trans g5;have e5:=g45 _ _ e4;refine ⟨_,_,xs++ [x],rfl,?_,?_,ac,?_⟩
    ·intro a o ea;rw[ar fun z=>by rw[z,nv] at ea;cases ea]
     exact g45 _ _ (g3 _ _ ea)
    ·rw[ar ns];exact g45 _ _ e3
    ·rw[List.take_add_one,il];exact (r.imp fun _ _ q=>(q.same g45).upd e5).snoc (rx.upd e5)
   have xl:(V.str w::xs).length<sizeLine:=by
    rw[FS,r.1,GA];unfold gf;rw[F7,List.length_zip]
    lia
   refine ⟨ν,.inl ⟨rfl,_,aI.of (gT _ _ e4)⟩,ν,ν,fd',wd,rfl,wb.2 wd (F8 _ (FB hw)),fo fd' (FB hf),fun z H5 g5=>?_,fun v z x H5 g5 rx=>?_⟩
   ·exact ⟨vl,ω,g5 _ _ (gT _ _ e4),xl,fin .non H5 g5 (by rw[z];rfl)⟩
   ·exact ⟨vl,ω,g5 _ _ (gT _ _ e4),xl,fin x H5 g5 (by rw[z];exact rx)⟩
  ·rintro σ H3 ⟨o3,o4,xs,rfl,g3,e3,e4,r⟩;rw[GG (by unfold gf;simp[List.length_zip])] at r
   exact hN _ _ ⟨o3,o4,xs,rfl,g3,e4,r⟩
 rintro σ H2 ⟨o3,o4,xs,rfl,g2,e2,r⟩;have mx:∀v∈V.str w::xs,Mx K H2 v:=by
  intro v hv;rcases F4.mp hv with rfl|hv
  ·exact .inr (.inl ⟨ν⟩)
  ·obtain ⟨i,e⟩:=Ft.mp hv;obtain ⟨o,_,q⟩:=r.at_ e;exact q.mx.1
 refine ⟨ν,vl,ν,rfl,aI.of e2,mx,ν,d2 (fun m=>?_) fun m=>?_⟩
 ·have m':=(vK r).mp (by simpa using m)
  rcases io en with ⟨_,z⟩|⟨us,_,o⟩
  ·exact q0 z _ g2
  ·rw[o] at m';simp at m'
 ·rcases io en with ⟨z,_⟩|⟨us,z,o⟩
  ·exact absurd (F8 _ ((vK r).mpr z)) m
  ·rw[o] at r;exact ⟨ν,q1 us z vl _ g2 nv ⟨xs,e2,B6 r⟩⟩
theorem Cw {dV:Value} (F:a6 K "agree" "agree" AB dV f fd):aY P w K mg base bu 1 f fd ["values"] rO:=by
 have sc:aB ["values"] ["values"] (aq AB):=dC (by decide+kernel)
 and_intros
 ·obtain ⟨_,_,_,rfl,_⟩:=h
  rfl
 obtain ⟨l,w,us,rfl,⟨xs,el,r⟩,⟨v1,v2⟩,q⟩:=h;refine ⟨_,(ag (aO (PW.pt (cY (aw bv (av ak (pv 0) ae (fun _ _=>rfl)) ao (aE _)) (cO (aw dZ (av ak (pv 0) ae (fun _ _=>rfl)) (bY (v:=V.ref Gk) rfl B.HY rfl) (by with_unfolding_all rfl))))) (ai (ay (eG Bq (av ak (pv 0) ae (fun _ _=>rfl)) (av ak (pv 0) ae (fun _ _=>rfl)) (aE _)))) aC) (ag (aO (aw dZ (av ak (pv 0) ae (fun _ _=>rfl)) (bY (v:=V.ref Go) rfl B.IW rfl) (by with_unfolding_all rfl)) (ai (ay (eG jT (av ak (pv 0) ae (fun _ _=>rfl)) (av ak (pv 0) ae (fun _ _=>rfl)) (aE _)))) aC) (ai (ay kU)))),?_⟩
 try dsimp only[cxK]
 have sl:sizeLine=16777216:=sizeLine_eq;have le:∀N:Ends,N.rt=Q->(w= "or" ∨w= "cut" ∨w= "rest" ∨w= "warm")->ze (yr (wJ fun i j=>V.bl (decide (i<=j))) (yr (uo K) (sI 0) (tC (V.int 2))) (yr (uo K) (sI 0) (tC (V.int 3)))) N [some (.ref l)] H:=by
  rintro N en c;obtain ⟨n,lo,hi,r',rfl⟩:=v1 c;obtain ⟨ys,rfl⟩:=zZ r;have ea:cz w (.nm n:: .num lo:: .num hi::r')=decide ((lo:Int)<=hi):=by
   show (!(decide (w= "or" ∨w= "cut" ∨w= "rest" ∨w= "warm"))||decide (lo<=hi))=_;rw[decide_eq_true c];simp
  rw[ea] at q;refine ⟨ν,l,_,ω,aI.of el,(aG (j:=2) rfl),ν,l,_,ω,aI.of el,(aG (j:=3) rfl),ω,?_⟩;rw[en];exact q
 refine cut (fun σ H'=>σ= [J9 l]/\H=H'/\¬(w= "or" ∨w= "cut" ∨w= "rest" ∨w= "warm")) (fun N hN=>?_) ?_
 ·refine ⟨ν,l,_,ω,aI.of el,(aG (j:=0) rfl),rfl,ν,tu (fun e=>fU (le _ rfl (.inl e))) fun e=>⟨ν,l,_,ω,aI.of el,(aG (j:=0) rfl),Gk,ν,.inr (B.HM.sq _),rfl,lH _,ν,A9 (gs:= ["cut","rest","warm"]) (fun m=>le _ rfl (.inr (by simpa using m))) fun m=>hN _ _ ⟨rfl,rfl,fun c=>?_⟩⟩⟩
  rcases c with c|c
  ·exact e c
  ·exact m (by simpa using c)
 rintro σ _ ⟨rfl,rfl,n1⟩;refine cut (fun σ H'=>σ= [J9 l]/\H=H'/\¬(w= "after" ∨w= "within" ∨w= "apart")) (fun N hN=>?_) ?_
 ·refine ⟨ν,l,_,ω,aI.of el,(aG (j:=0) rfl),Go,ν,.inr (B.IM.sq _),rfl,lH _,ν,A9 (gs:= ["after","within","apart"]) (fun m=>?_) fun m=>hN _ _ ⟨rfl,rfl,fun c=>m (by simpa using c)⟩⟩
  have c:w= "after" ∨w= "within" ∨w= "apart" :=by simpa using m
  obtain ⟨a,b,r',rfl⟩:=v2 c;obtain ⟨ys,rfl⟩:=B7 r;have ea:cz w (.nm a:: .nm b::r')= !decide (V.str a=V.str b):=by
   show (!(decide (w= "after" ∨w= "within" ∨w= "apart"))||decide (a≠b))=_;rw[decide_eq_true c];simp
  rw[ea] at q;exact ⟨ν,l,_,ω,aI.of el,(aG (j:=1) rfl),ν,l,_,ω,aI.of el,(aG (j:=2) rfl),rfl,q⟩
 rintro σ _ ⟨rfl,rfl,n2⟩;have ea:cz w us=true:=by
  unfold cz
  split
  ·rw[decide_eq_false n1]
   rfl
  ·rw[decide_eq_false n2]
   rfl
  ·rfl
 rw[ea] at q;exact q
theorem Cy {dV:Value} (F:a6 K "values_of" "values_of" AC dV f fd) (DZ11:Dx P w K mg base bu 1 "words_of" ["row"] [] rq) (DZ15:Dx P w K mg base bu 8 "values_by" ["fields","words"] [] (kt K)) (DZ16:Dx P w K mg base bu 1 "agree" ["values"] [] rO):aY P w K mg base bu 9 f fd ["row"] ku:=by
 have sc:aB ["row","words","values"] ["row"] (aq AC):=dC (by decide+kernel)
 and_intros
 ·obtain ⟨_,rfl,_⟩:=h
  rfl
 obtain ⟨z,rfl,hz,qn,qs⟩:=h;refine ⟨_,(ag (cU 1 sc (dN DZ11 hr ((pv 0)<*>af))) (ag (aO (PW.pt (cY (aw df (pv 1) br (aE _)) (cO (aw (om (K:=K) (w:=w) rfl rfl) (av ak (pv 1) ae (fun _ _=>rfl)) (bY (v:=V.ref Hk) rfl B.Jj rfl) (by with_unfolding_all rfl))))) (ai (ay br)) aC) (ag (cU 2 sc (dN DZ15 hr ((ol (K:=K) (w:=w) rfl rfl (bY (v:=V.ref Hk) rfl B.Jj rfl) (av ak (pv 1) ae (fun _ _=>rfl)) (fun _ _=>rfl))<*>((pv 1)<*>af)))) (ag (aO (PW.pt (cY (aw df (pv 2) br (aE _)) (cO (fR (cX (dN DZ16 hr ((pv 2)<*>af))))))) (ai (ay br)) aC) (ai (ay (pv 2))))))),?_⟩
 try dsimp only[cxK]
 have sl:sizeLine=16777216:=sizeLine_eq;refine ⟨ν,z,rfl,by lia,fun e H1 g1=>?_,fun e p H1 g1 ep=>?_⟩
 ·exact ⟨ν,rfl,ν,dT rfl (qn (if_pos e) _ g1)⟩
 have wb:DK (Txt.split z cv):=xz (c:=32) (by lia)
 have nee:=kb z 32;change H1 p=some (.lst ((Txt.split z cv).map V.str)) at ep;change Txt.split z cv≠ [] at nee;have er:dY z=match Txt.split z cv with
  | []=>none
  |w::rest=>match b4.lookup w with
   |none=>none
   |some fs=>match bW fs rest with
    |none=>none
    |some vs=>if cz w vs=true then some (w,vs) else none:=if_neg e
 rw[er] at qn qs;generalize Txt.split z cv=ws at ep wb nee qn qs;cases ws with
 |nil=>exact absurd rfl nee
 |cons w rest=>
 dsimp only at qn qs;try dsimp only[bK,b6]
 refine cut (fun σ H'=>σ= [some (.str z),J9 p,none]/\H1=H'/\∃fs,b4.lookup w=some fs) (fun N hN=>?_) ?_
 ·refine ⟨ν,rfl,ν,dF (fun z=>nomatch z) ⟨ν,p,_,ω,aI.of ep,(aG (j:=0) rfl),Hk,gb,w,rfl,rfl,B.Jf,oA,ν,?_⟩⟩
  show if (!(gb.lookup w).isSome)=true then _ else _
  rw[oB];cases ef:b4.lookup w with
  |none=>
   rw[ef] at qn;exact qn rfl _ g1
  |some fs=>exact hN _ _ ⟨rfl,rfl,fs,ef⟩
 rintro σ _ ⟨rfl,rfl,fs,ef⟩;rw[ef] at qn qs;dsimp only at qn qs;obtain ⟨fo,fl⟩:=vJ ef;refine ⟨ν,p,_,ω,aI.of ep,(aG (j:=0) rfl),Hk,gb,w,ν,rfl,B.Jf,oA,tF ef,fun t tv=>⟨ν,t,p,fs,w,rest,rfl,tv,ep,wb,fo,fl,fun h H2 g2=>?_,fun us h v H2 g2 nv lv=>?_⟩⟩
 ·exact ⟨ν,rfl,ν,dT rfl (qn (by rw[h]) _ (g1.trans g2))⟩
 rw[h] at qn qs;dsimp only at qn qs;try dsimp only[bK,b6]
 refine cut (fun σ H'=>σ= [some (.str z),J9 p,J9 v]/\H2=H'/\cz w us=true) (fun N hN=>?_) ?_
 ·refine ⟨ν,rfl,ν,dF (fun z=>nomatch z) ⟨ν,v,w,us,rfl,lv,tG ef h,?_⟩⟩
  cases ea:cz w us with
  |false=>exact ⟨_,rfl,qn (if_neg (by rw[ea];decide)) _ (g1.trans g2)⟩
  |true=>exact ⟨_,rfl,hN _ _ ⟨rfl,rfl,ea⟩⟩
 rintro σ _ ⟨rfl,rfl,ea⟩;exact ⟨ν,qs w us (if_pos ea) v _ (g1.trans g2) (g1.free nv) lv⟩
theorem Cz {dV:Value} (F:a6 K "refuse_twice" "refuse_twice" AD dV f fd) (I_Twice:wA P w K mg base 1 Ga ["self","at"] (dh Ga "at")):aY P w K mg base (d0 P w) 3 f fd ["name","told","at"] (eL Ga):=by
 have sc:aB ["name","told","at"] ["name","told","at"] (aq AD):=dC (by decide+kernel)
 refine F.okX sc (fun vs H Q E h=>?_) (fun cdv A outer s H vs Q E hr h=>?_)
 ·obtain ⟨_,_,_,_,rfl,_⟩:=h
  rfl
 obtain ⟨z,l,ts,a,rfl,el,q1,q2⟩:=h;refine ⟨_,(ai (aO (aw dZ (pv 0) (pv 1) (by with_unfolding_all rfl)) (ai (fz I_Twice hr (by decide) rfl B.IU rfl bP ((pv 2)<*>af))) aC)),?_⟩
 try dsimp only[cxK]
 have sl:sizeLine=16777216:=sizeLine_eq;refine ⟨ν,ν,l,ν,.inl (aI.of el),rfl,lH _,ν,A9 (gs:=ts) (fun m=>?_) fun m=>q2 m⟩
 exact ⟨ν,by show 1<=sizeLine;decide,fun e ne=>eJ ne fun d H2 g2 e1 e2 dne gd ed=>⟨rfl,d,e1,q1 m d _ gd ed⟩⟩
theorem CA {dV:Value} (F:a6 K "refuse_full" "refuse_full" AE dV f fd):aY P w K mg base (d0 P w) 1 f fd ["kept","most"] (eB mt):=by
 have sc:aB ["kept","most"] ["kept","most"] (aq AE):=dC (by decide+kernel)
 refine F.okX sc (fun vs H Q E h=>?_) (fun cdv A outer s H vs Q E hr h=>?_)
 ·obtain ⟨_,_,_,rfl,_⟩:=h
  rfl
 obtain ⟨l,xs,m,rfl,el,m100,q1,q2⟩:=h;refine ⟨_,(ai (aO (aw bv (aU cB rfl B.HR boot_len ((pv 0)<*>af)) (pv 1) (aE _)) (ai (j6 B.Jl rfl B.IP rfl bP ((jF (cE ao (cE (ik (pv 1)) (cE ao mF))))<*>af))) aC)),?_⟩;try dsimp only[cxK]
 have sl:sizeLine=16777216:=sizeLine_eq;refine ⟨ν,l,ν,.inl (aI.of el),ν,rfl,ν,jE (fun e=>?_) fun e=>q2 (by lia)⟩
 rcases m100 with rfl|rfl
 ·exact ⟨ν,(by rw[sl];decide+kernel),ν,.inl ⟨ν,by decide,ν,(by rw[sl];decide+kernel),ν,(by rw[sl];decide+kernel),(by rw[sl];decide+kernel),by show 1<=sizeLine;decide,q1 (by lia) _ (.refl _)⟩⟩
 ·exact ⟨ν,(by rw[sl];decide+kernel),ν,.inl ⟨ν,by decide,ν,(by rw[sl];decide+kernel),ν,(by rw[sl];decide+kernel),(by rw[sl];decide+kernel),by show 1<=sizeLine;decide,q1 (by lia) _ (.refl _)⟩⟩
theorem CB {dV:Value} (F:a6 K "place_of" "place_of" AF dV f fd) (I_NoStep:wA P w K mg base 1 on ["self","at"] (dh on "at")):aY P w K mg base (d0 P w) 3 f fd ["recipe","name","at"] (fG Gh Ge Gd Gb on):=by
 have sc:aB ["recipe","name","at","place","step"] ["recipe","name","at"] (aq AF):=dC (by decide+kernel)
 refine F.okX sc (fun vs H Q E h=>?_) (fun cdv A outer s H vs Q E hr h=>?_)
 ·obtain ⟨_,_,_,_,_,_,rfl,_⟩:=h
  rfl
 obtain ⟨r,z,a,n,p,M,rfl,⟨lt,ls,lk,⟨dx,er⟩,⟨vt,et,rt⟩,⟨vs,es,rs⟩,⟨vk,ek,rk⟩⟩,ml,q0,q⟩:=h;refine ⟨_,(ag (iZ (uL rfl rfl) rfl (xq rfl B.Iq ((bI (pv 0) rfl)<*>af)) (iY rfl (cf (sy 3 sc) (cf (sy 4 sc) gC))) (ai (aO (aw bv (bI (pv 4) rfl) (pv 1) (aE _)) (ai (ay (pv 3))) aC))) (ai (fz I_NoStep hr (by decide) rfl B.IE rfl bP ((pv 2)<*>af)))),?_⟩
 try dsimp only[cxK]
 have sl:sizeLine=16777216:=sizeLine_eq;have ls12:=rs.1;refine cut (fun σ H'=>(∃o3 o4:Option V,σ= [J9 r,some (.str z),some a,o3,o4])/\ax H H'/\place M z=none) (fun N hN=>?_) ?_
 ·refine ⟨ν,r,_,dx,_,ν,er,B.Gn,B.Gj,cK.2.2.2.1,ls,rfl,⟨_,aI.of es⟩,uS (xs:=vs) (fun j σ H'=>(∃o3 o4:Option V,σ= [J9 r,some (.str z),some a,o3,o4])/\ax H H'/\∀k s,k<j->M.steps[k]?=some s->s.n≠z) ⟨⟨none,none,rfl⟩,.refl _,fun k s hk=>absurd hk (Nat.not_lt_zero _)⟩ (fun i σ H' _ ⟨_,g,_⟩=>aI.of (g _ _ es)) ?_ ?_⟩
  ·rintro j y σ H1 T hy ⟨⟨o3,o4,rfl⟩,g1,ji⟩ nT;obtain ⟨x',hx,x,rfl,C,dx,u,sv,ff,ex,cl,sf,_⟩:=rs.at_ hy;have sc0:kf K C:=by
    rcases cl with ⟨_,rfl⟩|⟨_,rfl⟩|⟨_,rfl⟩
    ·exact ⟨B.Io,B.Hn,B.Hg,B.Ho,B.Hl,B.Gz⟩
    ·exact ⟨B.HI,B.He,B.Gy,B.Hf,B.Hd,B.Gv⟩
    ·exact ⟨B.HH,B.Hb,B.Gx,B.Hc,B.Ha,B.Gu⟩
   have g2:=g1.trans (ah nT (.tup [.int (j:Int),.ref x]));refine ⟨T,ν,cM.of ac,rfl,_,ν,ω,?_⟩;generalize aL H1 T (.tup [.int (j:Int),.ref x])=H2 at g2⊢;have ex2:=g2 _ _ ex;refine ⟨ν,x,C,dx,ff,ν,ex2,sc0.cl,sc0.name,sf.name,ν,rfl,ν,tu (fun e=>?_) fun e=>?_⟩
   ·exact ⟨ν,q j (dA hx e ji) _ g2⟩
   ·refine ⟨⟨_,ν⟩,g2,fun k s hk hs=>?_⟩
    by_cases c:k=j
    ·subst c;rw[hx] at hs;cases hs;exact e
    ·exact ji k s (by lia) hs
  ·rintro σ H1 ⟨h1,h2,h3⟩;rw[ls12] at h3;exact hN _ _ ⟨h1,h2,iq h3⟩
 rintro σ H1 ⟨⟨o3,o4,rfl⟩,g1,hn⟩;exact ⟨ν,by show 1<=sizeLine;decide,fun e ne=>eJ ne fun d H2 g2 e1 e2 dne gd ed=>⟨rfl,d,e1,(q0 hn).low g1 d _ gd ed⟩⟩
theorem CC {dV:Value} (F:a6 K "put_take" "put_take" AG dV f fd) (XZ18:Dx P w K mg base (d0 P w) 3 "refuse_twice" ["name","told","at"] [] (eL Ga)) (XZ19:Dx P w K mg base (d0 P w) 1 "refuse_full" ["kept","most"] [] (eB mt)):aY P w K mg base (d0 P w) 4 f fd ["recipe","at","values"] (dH Gh Ge Gd Gb Ga on mt vU):=by
 have sc:aB ["recipe","at","values"] ["recipe","at","values"] (aq AG):=dC (by decide+kernel)
 refine F.okX sc (fun vs H Q E h=>?_) (fun cdv A outer s H vs Q E hr h=>?_)
 ·obtain ⟨_,_,_,_,_,_,_,_,_,_,_,_,rfl,_⟩:=h
  rfl
 obtain ⟨r,l,a,G,n,p,lt,ls,lk,ks,M,rr,rfl,wh,rm,lv,ro,bd,q0,q⟩:=h;refine ⟨_,(ag (bi (b3 XZ18 hr (by decide) rfl bP ((av ak (pv 2) ae (fun _ _=>rfl))<*>((eI (own:= "take") (ys:= []) (js:= []) rfl (tj qX .nil (by decide) rfl rfl rfl rfl rfl rfl rfl rfl) (dP (bI (pv 0) rfl)) (fun C fp s H=>(av (rC (K:=K) rfl) (pv 0) ae (fun _ _=>rfl))))<*>((pv 1)<*>af))))) (ag (bi (b3 XZ19 hr (by decide) rfl bP ((bI (pv 0) rfl)<*>((eY rfl B.IX)<*>af)))) (ai (bi (cZ FY Fc Fb bG (bI (pv 0) rfl) ((@bM _ _ _ _ _ ((av ak (pv 2) ae (fun _ _=>rfl))<*>((av ak (pv 2) ae (fun _ _=>rfl))<*>af)))<*>af)))))),?_⟩
 try dsimp only[cxK]
 have sl:sizeLine=16777216:=sizeLine_eq
 match rr,wh,lv,q0,q with
 | .take g am,_,⟨xs,el,rl⟩,q0,q=>
 have ml:=bd.t;obtain ⟨x1,xs1,rfl,e1,rl1⟩:=aS rl;obtain ⟨x2,xs2,rfl,⟨t2,rfl,_,et2⟩,rl2⟩:=aS rl1;cases e1;obtain ⟨dx,er⟩:=rm.er;obtain ⟨vt,et,rt⟩:=id rm.et;have tl:=rt.1;refine ⟨ν,l,_,ω,aI.of el,(aG (j:=1) rfl),ν,r,_,dx,_,ν,er,B.Gn,B.Gw,cK.2.2.1,lt,rfl,⟨_,aI.of et⟩,fB (vn V.str) (fun _=>False) (fun i=>((M.takes.map fun x=>x.1).getD i ("" :Str))) (aI.of et) (by lia) (fun a h=>h.elim) (fun i y hy H2 g2 Q' hQ=>?_) fun p1 H4 np g4 hp=>?_⟩
 ·obtain ⟨x,hx',t,b,rfl,_,_,et',_⟩:=rt.at_ hy;have e1:(M.takes.map fun x=>x.1).getD i ("" :Str)=x.1:=by simp[List.getD,hx']
  rw[e1] at hQ;exact ⟨ν,t,_,ω,cM.of (g2 _ _ et'),rfl,hQ _ _ (.refl _) rfl⟩
 obtain ⟨ws,ep,rp⟩:=hp;have ey:ws=(M.takes.map fun x=>x.1).map V.str:=by
  have e:=map_getD (fun z:Str=>z) (M.takes.map fun x=>x.1) ""
  rw[F7,List.map_id'] at e;rw[rp.val,tl];exact congrArg (List.map V.str) e
 subst ey;have gG:=rm.fr.trans g4;refine ⟨ν,g,p1,_,a,rfl,ep,(fun m=>dz.low (q0 .twice (oJ m)) gG),fun nm=>?_⟩
 refine ⟨ν,r,_,dx,_,ν,(g4 _ _ er),B.Gn,B.Gw,cK.2.2.1,lt,vt,12,rfl,g4 _ _ et,.inl rfl,(fun e=>kP.low (q0 .full (rQ nm (by lia))) gG),fun ne=>?_⟩
 refine ⟨ν,r,_,dx,_,ν,(g4 _ _ er),B.Gn,B.Gw,cK.2.2.1,.inl ⟨rfl,_,aI.of (g4 _ _ et)⟩,ν,l,_,ω,aI.of (g4 _ _ el),(aG (j:=1) rfl),ν,l,_,ω,aI.of (g4 _ _ el),(aG (j:=2) rfl),by show 2<=sizeLine;decide,fun t nt'=>?_⟩
 have g5:=g4.trans (ah nt' (.tup [.str g,.ref t2]));have e5:aL H4 t (.tup [.str g,.ref t2]) t=some (.tup [.str g,.ref t2]):=ac;generalize aL H4 t (.tup [.str g,.ref t2])=H5 at g5 e5⊢;exact ⟨lt,ω,g5 _ _ et,by lia,q _ (yV nm (by lia)) ks _ ((rm.same g5).take (g5 _ _ et) ⟨t,t2,rfl,trivial,trivial,e5,g5 _ _ et2⟩)⟩
theorem CD {dV:Value} (F:a6 K "put_link" "put_link" AH dV f fd) (XZ19:Dx P w K mg base (d0 P w) 1 "refuse_full" ["kept","most"] [] (eB mt)) (XZ20:Dx P w K mg base (d0 P w) 3 "place_of" ["recipe","name","at"] [] (fG Gh Ge Gd Gb on)):aY P w K mg base (d0 P w) 4 f fd ["recipe","at","values"] (dH Gh Ge Gd Gb Ga on mt vV):=by
 have sc:aB ["recipe","at","values","one","other","turns"] ["recipe","at","values"] (aq AH):=dC (by decide+kernel)
 refine F.okX sc (fun vs H Q E h=>?_) (fun cdv A outer s H vs Q E hr h=>?_)
 ·obtain ⟨_,_,_,_,_,_,_,_,_,_,_,_,rfl,_⟩:=h
  rfl
 obtain ⟨r,l,a,G,n,p,lt,ls,lk,ks,M,rr,rfl,wh,rm,lv,ro,bd,q0,q⟩:=h;refine ⟨_,(ag (cU 3 sc (b3 XZ20 hr (by decide) rfl bP ((pv 0)<*>((av ak (pv 2) ae (fun _ _=>rfl))<*>((pv 1)<*>af))))) (ag (cU 4 sc (b3 XZ20 hr (by decide) rfl bP ((pv 0)<*>((av ak (pv 2) ae (fun _ _=>rfl))<*>((pv 1)<*>af))))) (ag (bi (b3 XZ19 hr (by decide) rfl bP ((bI (pv 0) rfl)<*>((eY rfl B.IZ)<*>af)))) (ag (cU 5 sc (eU (aw bv (av ak (pv 2) ae (fun _ _=>rfl)) ao (aE _)) (av ak (pv 2) ae (fun _ _=>rfl)) ae)) (ai (bi (cZ FY Fc Fb bG (bI (pv 0) rfl) ((@bM _ _ _ _ _ ((av ak (pv 2) ae (fun _ _=>rfl))<*>((pv 3)<*>((pv 4)<*>((pv 5)<*>af)))))<*>af)))))))),?_⟩
 try dsimp only[cxK]
 have sl:sizeLine=16777216:=sizeLine_eq
 match rr,wh,lv,ro,q0,q with
 | .link w x y t,_,⟨xs,el,rl⟩,ro,q0,q=>
 have el:H l=some (.lst (.str w::xs)):=el;have ml:=bd.k;have sl1:=bd.s;have t0:w≠ "within" ->t=0:=ro.2.2.2.2.2;obtain ⟨x1,xs1,rfl,e1,rl1⟩:=aS rl;obtain ⟨x2,xs2,rfl,e2,rl2⟩:=aS rl1;cases e1;cases e2;obtain ⟨dx,er⟩:=rm.er;obtain ⟨vk,ek,rk⟩:=id rm.ek;have kl:=rk.1;refine ⟨ν,ν,l,_,ω,aI.of el,(aG (j:=1) rfl),ν,r,x,a,n,p,M,rfl,rm.a,by lia,(fun h=>dz.low (q0 .nostep (vX h)) rm.fr),fun i hi H1 g1=>?_⟩
 refine ⟨ν,ν,l,_,ω,aI.of (g1 _ _ el),(aG (j:=2) rfl),ν,r,y,a,n,p,M,rfl,(rm.same g1).a,by lia,(fun h=>dz.low (q0 .nostep (oN hi h)) (rm.fr.trans g1)),fun j hj H2 g2=>?_⟩
 have g12:=g1.trans g2;refine ⟨ν,r,_,dx,_,ν,(g12 _ _ er),B.Gn,B.Hj,cK.2.2.2.2,lk,vk,24,rfl,g12 _ _ ek,.inr rfl,(fun e=>kP.low (q0 .full (rX hi hj (by lia))) (rm.fr.trans g12)),fun ne=>?_⟩
 dsimp only;change L2.wG (wH _ _) _ _ [some (.ref r),some a,some (.ref l),some (vN i),some (vN j),none] _;refine cut (fun σ H'=>σ= [J9 r,some a,J9 l,some (vN i),some (vN j),some (vN t)]/\H2=H') (fun N hN=>?_) ?_
 ·refine ⟨ν,l,_,ω,aI.of (g12 _ _ el),(aG (j:=0) rfl),rfl,ν,tu (fun e=>?_) fun e=>?_⟩
  ·change w= "within" at e;change A2 _ xs2 (if w= "within" then [Fv.num t] else []) at rl2
   rw[if_pos e] at rl2;obtain ⟨x3,xs3,rfl,e3,rl3⟩:=aS rl2;cases e3;exact ⟨ν,l,_,ω,aI.of (g12 _ _ el),(aG (j:=3) rfl),hN _ _ ⟨rfl,rfl⟩⟩
  ·cases t0 e;exact hN _ _ ⟨rfl,rfl⟩
 rintro σ _ ⟨rfl,rfl⟩;refine ⟨ν,r,_,dx,_,ν,(g12 _ _ er),B.Gn,B.Hj,cK.2.2.2.2,.inl ⟨rfl,_,aI.of (g12 _ _ ek)⟩,ν,l,_,ω,aI.of (g12 _ _ el),(aG (j:=0) rfl),ν,ν,ν,by show 4<=sizeLine;decide,fun t' nt'=>?_⟩
 have g5:=g12.trans (ah nt' (.tup [.str w,vN i,vN j,vN t]));have e5:aL H2 t' (.tup [.str w,vN i,vN j,vN t]) t'=some (.tup [.str w,vN i,vN j,vN t]):=ac;generalize aL H2 t' (.tup [.str w,vN i,vN j,vN t])=H5 at g5 e5⊢;exact ⟨lk,ω,g5 _ _ ek,by lia,q _ (Cd hi hj (by lia)) ks _ ((rm.same g5).link (g5 _ _ ek) ⟨t',rfl,trivial,e5⟩)⟩
theorem CF {dV:Value} (F:a6 K "__init__" "Step.__init__" ym dV f fd):aY P w K mg base bu 1 f fd ["self","name","least","most","uses","second"] (jL K):=by
 have sc:aB ["self","name","least","most","uses","second"] ["self","name","least","most","uses","second"] (aq ym):=dC (by decide+kernel)
 and_intros
 ·obtain ⟨_,_,_,_,_,_,_,_,_,_,rfl,_⟩:=h
  rfl
 obtain ⟨a,C,dx,nm,l,m,uv,sv,us,c,rfl,e0,sc0,hu,hs,q⟩:=h;refine ⟨_,(ag (dG (pv 0) (pv 1) rfl) (ag (dG (pv 0) (pv 2) rfl) (ag (dG (pv 0) (pv 3) rfl) (ag (dG (pv 0) (eU (aw df (pv 4) br (aE _)) (@bw _ _ _ _ af) (bx cD rfl B.HG boot_list ((pv 4)<*>af))) rfl) (ai (dG (pv 0) (eU (aw df (pv 5) br (aE _)) br (@bM _ _ _ _ _ ((av bN (pv 5) ae (fun _ _=>rfl))<*>((av bN (pv 5) ae (fun _ _=>rfl))<*>((bx cD rfl B.HG boot_list ((av bN (pv 5) ae (fun _ _=>rfl))<*>af))<*>af))))) rfl)))))),?_⟩
 try dsimp only[cxK]
 refine ⟨ν,ν,a,C,dx,ν,e0,sc0.cl,sc0.name,by decide,?_⟩
 refine ⟨ν,ν,a,C,dx,ν,ac,sc0.cl,sc0.least,(by have:=aP "name" (.str nm) [];simp at this;lia),?_⟩
 refine ⟨ν,ν,a,C,dx,ν,ac,sc0.cl,sc0.most,(by have:=aP "name" (.str nm) [];have:=aP "least" (.int l) (aK "name" (.str nm) []);simp at*;lia),?_⟩
 have k0:=(((Kept.refl H a).put (.ins C dx (aK "name" (.str nm) []))).put (.ins C dx (aK "least" (.int l) (aK "name" (.str nm) [])))).put (.ins C dx (aK "most" (.int m) (aK "least" (.int l) (aK "name" (.str nm) []))));have ea:(aL (aL (aL H a (.ins C dx (aK "name" (.str nm) []))) a (.ins C dx (aK "least" (.int l) (aK "name" (.str nm) [])))) a (.ins C dx (aK "most" (.int m) (aK "least" (.int l) (aK "name" (.str nm) []))))) a=some (.ins C dx (aK "most" (.int m) (aK "least" (.int l) (aK "name" (.str nm) [])))):=ac;have fr0:∀{b:Addr},(aL (aL (aL H a (.ins C dx (aK "name" (.str nm) []))) a (.ins C dx (aK "least" (.int l) (aK "name" (.str nm) [])))) a (.ins C dx (aK "most" (.int m) (aK "least" (.int l) (aK "name" (.str nm) []))))) b=none->H b=none:=fun {b} hb=>by
  have n:b≠a:=fun z=>by rw[z,ac] at hb;cases hb
  rw[ar n,ar n,ar n] at hb;exact hb
 generalize aL (aL (aL H a (.ins C dx (aK "name" (.str nm) []))) a (.ins C dx (aK "least" (.int l) (aK "name" (.str nm) [])))) a (.ins C dx (aK "most" (.int m) (aK "least" (.int l) (aK "name" (.str nm) []))))=H1 at k0 ea fr0⊢;have l3:(aK "most" (.int m) (aK "least" (.int l) (aK "name" (.str nm) []))).length<=3:=by
  have h1:=aP "name" (.str nm) [];have h2:=aP "least" (.int l) (aK "name" (.str nm) []);have h3:=aP "most" (.int m) (aK "least" (.int l) (aK "name" (.str nm) []));simp at h1
  lia
 obtain ⟨f3,ef3⟩:∃f3,f3=aK "most" (.int m) (aK "least" (.int l) (aK "name" (.str nm) [])):=⟨_,rfl⟩;rw[<-ef3] at ea l3;have ne:∀{b:Addr} {zs:List V},H b=some (.lst zs)->b≠a:=fun hb z=>by subst z;rw[e0] at hb;cases hb
 have neT:∀{b:Addr} {zs:List V},H b=some (.tup zs)->b≠a:=fun hb z=>by subst z;rw[e0] at hb;cases hb
 try dsimp only[bK,b6]
 refine cut (fun σ H'=>Kept H H' a/\σ= [J9 a,some (.str nm),some (.int l),some (.int m),some uv,some sv]/\∃u,u≠a/\H u=none/\H' u=some (.lst (us.map V.ref))/\H' a=some (.ins C dx (aK "uses" (.ref u) f3))/\∀b,H' b=none->H b=none) (fun N hN=>?_) ?_
 ·rcases hu with ⟨rfl,rfl⟩|⟨lu,rfl,eu⟩
  ·refine ⟨ν,rfl,ν,dT rfl ⟨by show 0<=sizeLine;decide,fun u nu=>?_⟩⟩
   have ua:u≠a:=fun z=>by rw[z,ea] at nu;cases nu
   refine ⟨ν,a,C,dx,ν,(by rw[ar (Ne.symm ua)];exact ea),sc0.cl,sc0.uses,by lia,hN _ _ ⟨(k0.new nu _).put _,rfl,u,ua,fr0 nu,by rw[ar ua];exact ac,ac,fun b hb=>?_⟩⟩
   have n1:b≠a:=fun z=>by rw[z,ac] at hb;cases hb
   have n2:b≠u:=fun z=>by rw[z,ar ua,ac] at hb;cases hb
   rw[ar n1,ar n2] at hb;exact fr0 hb
  ·refine ⟨ν,rfl,ν,dF (fun z=>nomatch z) ⟨ν,lu,ν,.inl (aI.of (k0 _ _ eu (ne eu))),fun u nu=>?_⟩⟩
   have ua:u≠a:=fun z=>by rw[z,ea] at nu;cases nu
   refine ⟨ν,a,C,dx,ν,(by rw[ar (Ne.symm ua)];exact ea),sc0.cl,sc0.uses,by lia,hN _ _ ⟨(k0.new nu _).put _,rfl,u,ua,fr0 nu,by rw[ar ua];exact ac,ac,fun b hb=>?_⟩⟩
   have n1:b≠a:=fun z=>by rw[z,ac] at hb;cases hb
   have n2:b≠u:=fun z=>by rw[z,ar ua,ac] at hb;cases hb
   rw[ar n1,ar n2] at hb;exact fr0 hb
 rintro σ H2 ⟨k2,rfl,u,ua,nu,eu,ea2,fr2⟩;have l4:=aP "uses" (.ref u) f3
 match c,hs with
 |none,hs=>
  have hs':sv= .non:=hs;subst hs';refine ⟨ν,rfl,ν,dT rfl ⟨ν,a,C,dx,ν,ea2,sc0.cl,sc0.second,by lia,?_⟩⟩
  exact q u .non _ (k2.put _) ua nu (by rw[ar ua];exact eu) rfl (by rw[ac,ef3];rfl)
 |some (x,y,vs),hs=>
  obtain ⟨t,l2,rfl,et,el⟩:=hs;have et2:=k2 _ _ et (neT et);have el2:=k2 _ _ el (ne el);refine ⟨ν,rfl,ν,dF (fun z=>nomatch z) ?_⟩
  refine ⟨ν,_,_,ω,cM.of et2,rfl,ν,_,_,ω,cM.of et2,rfl,ν,_,_,ω,cM.of et2,rfl,l2,ν,.inl (aI.of el2),fun lc nc=>⟨by show 3<=sizeLine;decide,fun tc ntc=>?_⟩⟩
  have lca:lc≠a:=fun z=>by rw[z,ea2] at nc;cases nc
  have lcu:lc≠u:=fun z=>by rw[z,eu] at nc;cases nc
  have gc:=ah nc (.lst (vs.map V.ref));have gt:=ah ntc (.tup [.int x,.int y,.ref lc]);have tca:tc≠a:=fun z=>by rw[z,gc _ _ ea2] at ntc;cases ntc
  have tcu:tc≠u:=fun z=>by rw[z,gc _ _ eu] at ntc;cases ntc
  refine ⟨ν,a,C,dx,ν,gt _ _ (gc _ _ ea2),sc0.cl,sc0.second,by lia,?_⟩
  refine q u (.ref tc) _ (((k2.new nc _).new ntc _).put _) ua nu (by rw[ar ua];exact gt _ _ (gc _ _ eu)) ⟨tc,lc,rfl,by rw[ar tca];exact ac,by rw[ar lca];exact gt _ _ ac,fr2 _ (gc.free ntc),fr2 _ nc⟩ (by rw[ac,ef3];rfl)
theorem CG {dV:Value} (F:a6 K "__init__" "Warm.__init__" yn dV f fd) (DZ23:wC P w K mg base bu 1 Hs ["self","name","least","most","uses","second"] [.non,.non] (jL K)):aY P w K mg base bu 2 f fd ["self","name","least","most","fill","uses","second"] (mL K):=by
 have sc:aB ["self","name","least","most","fill","uses","second"] ["self","name","least","most","fill","uses","second"] (aq yn):=dC (by decide+kernel)
 and_intros
 ·obtain ⟨_,_,_,_,_,_,_,_,_,_,_,rfl,_⟩:=h
  rfl
 obtain ⟨a,C,dx,nm,l,m,fl,uv,sv,us,c,rfl,e0,sc0,nf,hu,hs,q⟩:=h;refine ⟨_,(ag (bi (BL B.Im DZ23 hr (by decide) rfl B.JM ((pv 0)<*>((pv 1)<*>((pv 2)<*>((pv 3)<*>((pv 5)<*>((pv 6)<*>af)))))))) (ai (dG (pv 0) (pv 4) rfl))),?_⟩
 try dsimp only[cxK]
 refine ⟨ν,ν,ν,ν,ν,ν,a,C,dx,nm,l,m,uv,sv,us,c,rfl,e0,sc0,hu,hs,fun u s H1 k1 ua nu eu hs1 ea=>?_⟩
 refine ⟨ν,ν,a,C,dx,ν,ea,sc0.cl,nf,(by have:=gM (nm:= .str nm) (l:= .int l) (m:= .int m) (u:= .ref u) (s:=s);lia),?_⟩
 exact q u s _ (k1.put _) ua nu (by rw[ar ua];exact eu) (hs1.self ea) ac
theorem CH {dV:Value} (F:a6 K "__init__" "Recipe.__init__" AI dV f fd):aY P w K mg base bu 1 f fd ["self","name","plates","takes","steps","links"] (vC K):=by
 have sc:aB ["self","name","plates","takes","steps","links"] ["self","name","plates","takes","steps","links"] (aq AI):=dC (by decide+kernel)
 and_intros
 ·obtain ⟨_,_,_,_,_,_,_,_,_,_,_,rfl,_⟩:=h
  rfl
 obtain ⟨a,C,dx,lt,ls,lk,nm,p,xt,xs,xk,rfl,e0,sc0,et,es,ek,q⟩:=h;refine ⟨_,(ag (dG (pv 0) (pv 1) rfl) (ag (dG (pv 0) (pv 2) rfl) (ag (dG (pv 0) (bx cD rfl B.HG boot_list ((pv 3)<*>af)) rfl) (ag (dG (pv 0) (bx cD rfl B.HG boot_list ((pv 4)<*>af)) rfl) (ai (dG (pv 0) (bx cD rfl B.HG boot_list ((pv 5)<*>af)) rfl)))))),?_⟩;try dsimp only[cxK]
 have ne:∀{b:Addr} {zs:List V},H b=some (.lst zs)->b≠a:=fun hb z=>by subst z;rw[e0] at hb;cases hb
 refine ⟨ν,ν,a,C,dx,ν,e0,sc0.cl,sc0.name,by decide,?_⟩
 refine ⟨ν,ν,a,C,dx,ν,ac,sc0.cl,sc0.plates,(by have:=aP "name" nm [];simp at this;lia),?_⟩
 have k0:=((Kept.refl H a).put (.ins C dx (aK "name" nm []))).put (.ins C dx (aK "plates" p (aK "name" nm [])));have ea:(aL (aL H a (.ins C dx (aK "name" nm []))) a (.ins C dx (aK "plates" p (aK "name" nm [])))) a=some (.ins C dx (aK "plates" p (aK "name" nm []))):=ac;have f0:∀b,(aL (aL H a (.ins C dx (aK "name" nm []))) a (.ins C dx (aK "plates" p (aK "name" nm [])))) b=none->H b=none:=fun b hb=>by
  have n1:b≠a:=fun z=>by rw[z,ac] at hb;cases hb
  rwa [ar n1,ar n1] at hb
 generalize aL (aL H a (.ins C dx (aK "name" nm []))) a (.ins C dx (aK "plates" p (aK "name" nm [])))=H1 at k0 ea f0⊢;have l2:(aK "plates" p (aK "name" nm [])).length<=2:=by
  have h1:=aP "name" nm [];have h2:=aP "plates" p (aK "name" nm []);simp at h1
  lia
 obtain ⟨f2,ef2⟩:∃f2,f2=aK "plates" p (aK "name" nm []):=⟨_,rfl⟩;rw[<-ef2] at ea l2;have et1:=k0 _ _ et (ne et);refine ⟨ν,lt,xt,rfl,.inl (aI.of et1),fun la na=>?_⟩
 have laa:la≠a:=fun z=>by rw[z,ea] at na;cases na
 refine ⟨ν,a,C,dx,ν,(by rw[ar (Ne.symm laa)];exact ea),sc0.cl,sc0.takes,by lia,?_⟩
 have k1:=(k0.new na (.lst xt)).put (.ins C dx (aK "takes" (.ref la) f2));have ea1:(aL (aL H1 la (.lst xt)) a (.ins C dx (aK "takes" (.ref la) f2))) a=some (.ins C dx (aK "takes" (.ref la) f2)):=ac;have ela1:(aL (aL H1 la (.lst xt)) a (.ins C dx (aK "takes" (.ref la) f2))) la=some (.lst xt):=by rw[ar laa];exact ac
 have f1:∀b,(aL (aL H1 la (.lst xt)) a (.ins C dx (aK "takes" (.ref la) f2))) b=none->H b=none:=fun b hb=>by
  have n1:b≠a:=fun z=>by rw[z,ac] at hb;cases hb
  have n2:b≠la:=fun z=>by rw[z,ela1] at hb;cases hb
  rw[ar n1,ar n2] at hb;exact f0 b hb
 generalize aL (aL H1 la (.lst xt)) a (.ins C dx (aK "takes" (.ref la) f2))=H2 at k1 ea1 ela1 f1⊢;have l3:=aP "takes" (.ref la) f2;obtain ⟨f3,ef3⟩:∃f3,f3=aK "takes" (.ref la) f2:=⟨_,rfl⟩;rw[<-ef3] at ea1 l3;have es1:=k1 _ _ es (ne es);refine ⟨ν,ls,xs,rfl,.inl (aI.of es1),fun lb nb=>?_⟩
 have lba:lb≠a:=fun z=>by rw[z,ea1] at nb;cases nb
 have lbl:la≠lb:=fun z=>by rw[<-z,ela1] at nb;cases nb
 refine ⟨ν,a,C,dx,ν,(by rw[ar (Ne.symm lba)];exact ea1),sc0.cl,sc0.steps,by lia,?_⟩
 have k2:=(k1.new nb (.lst xs)).put (.ins C dx (aK "steps" (.ref lb) f3));have ea2:(aL (aL H2 lb (.lst xs)) a (.ins C dx (aK "steps" (.ref lb) f3))) a=some (.ins C dx (aK "steps" (.ref lb) f3)):=ac;have elb2:(aL (aL H2 lb (.lst xs)) a (.ins C dx (aK "steps" (.ref lb) f3))) lb=some (.lst xs):=by rw[ar lba];exact ac
 have ela2:(aL (aL H2 lb (.lst xs)) a (.ins C dx (aK "steps" (.ref lb) f3))) la=some (.lst xt):=by rw[ar laa,ar lbl];exact ela1
 have f2':∀b,(aL (aL H2 lb (.lst xs)) a (.ins C dx (aK "steps" (.ref lb) f3))) b=none->H b=none:=fun b hb=>by
  have n1:b≠a:=fun z=>by rw[z,ac] at hb;cases hb
  have n2:b≠lb:=fun z=>by rw[z,elb2] at hb;cases hb
  rw[ar n1,ar n2] at hb;exact f1 b hb
 generalize aL (aL H2 lb (.lst xs)) a (.ins C dx (aK "steps" (.ref lb) f3))=H3 at k2 ea2 elb2 ela2 f2'⊢;have l4:=aP "steps" (.ref lb) f3;obtain ⟨f4,ef4⟩:∃f4,f4=aK "steps" (.ref lb) f3:=⟨_,rfl⟩;rw[<-ef4] at ea2 l4;have ek1:=k2 _ _ ek (ne ek);refine ⟨ν,lk,xk,rfl,.inl (aI.of ek1),fun lc nc=>?_⟩
 have lca:lc≠a:=fun z=>by rw[z,ea2] at nc;cases nc
 have lcb:lb≠lc:=fun z=>by rw[<-z,elb2] at nc;cases nc
 have lcl:la≠lc:=fun z=>by rw[<-z,ela2] at nc;cases nc
 refine ⟨ν,a,C,dx,ν,(by rw[ar (Ne.symm lca)];exact ea2),sc0.cl,sc0.links,by lia,?_⟩
 refine q la lb lc _ laa lba lca (f0 _ na) (f1 _ nb) (f2' _ nc) (by simp[lbl,lcl,lcb]) ((k2.new nc (.lst xk)).put _) (by rw[ar laa,ar lcl];exact ela2) (by rw[ar lba,ar lcb];exact elb2) (by rw[ar lca];exact ac) ?_
 rw[ac,ef4,ef3,ef2]
 rfl
theorem CI {dV:Value} (F:a6 K "recipe_begun" "recipe_begun" AJ dV f fd) (DZ25:wC P w K mg base bu 1 Ip ["self","name","plates","takes","steps","links"] [] (vC K)) (I_NoRow:wA P w K mg base 1 Gc ["self","at"] (dh Gc "at")):aY P w K mg base (d0 P w) 4 f fd ["values"] (jr Gh Ge Gd Gb Gc):=by
 have sc:aB ["values"] ["values"] (aq AJ):=dC (by decide+kernel)
 refine F.okX sc (fun vs H Q E h=>?_) (fun cdv A outer s H vs Q E hr h=>?_)
 ·obtain ⟨_,rfl,_⟩:=h
  rfl
 obtain ⟨v,rfl,hv⟩:=h;refine ⟨_,(ag (aO (PW.pt (cY (aw df (pv 0) br (aE _)) (cO (aw jT (av ak (pv 0) ae (fun _ _=>rfl)) ao (aE _))))) (ai (fz I_NoRow hr (by decide) rfl B.Iy rfl bP (ae<*>af))) aC) (ai (ay (zC B.Jm DZ25 hr (by decide) rfl B.Jq ((av ak (pv 0) ae (fun _ _=>rfl))<*>((av ak (pv 0) ae (fun _ _=>rfl))<*>((@bw _ _ _ _ af)<*>((@bw _ _ _ _ af)<*>((@bw _ _ _ _ af)<*>af))))))))),?_⟩
 try dsimp only[cxK]
 have sl:sizeLine=16777216:=sizeLine_eq;rcases hv with ⟨l,w,us,rfl,⟨xs,el,rl⟩,qn,qd⟩|⟨rfl,qn⟩
 rotate_left
 ·exact ⟨ν,rfl,ν,dT rfl ⟨by show 1<=sizeLine;decide,fun e ne=>eJ ne fun d H2 g2 e1 e2 dne gd ed=>⟨rfl,d,e1,qn d _ gd ed⟩⟩⟩
 refine cut (fun σ H'=>σ= [J9 l]/\H=H'/\w= "dish") (fun N hN=>?_) ?_
 ·exact ⟨ν,rfl,ν,dF (fun z=>nomatch z) ⟨ν,l,_,ω,aI.of el,(aG (j:=0) rfl),rfl,ν,E5 (fun ez=>⟨by show 1<=sizeLine;decide,fun e ne=>eJ ne fun d H2 g2 e1 e2 dne gd ed=>⟨rfl,d,e1,qn ez d _ gd ed⟩⟩) fun e=>hN _ _ ⟨rfl,rfl,e⟩⟩⟩
 rintro σ _ ⟨rfl,rfl,ew⟩;obtain ⟨n,p,rfl,q⟩:=qd ew;obtain ⟨x1,xs1,rfl,e1,rl1⟩:=aS rl;obtain ⟨x2,xs2,rfl,e2,rl2⟩:=aS rl1;cases e1;cases e2;refine ⟨ν,l,_,ω,aI.of el,(aG (j:=1) rfl),ν,l,_,ω,aI.of el,(aG (j:=2) rfl),by show 0<=sizeLine;decide,fun b0 nb0=>⟨by show 0<=sizeLine;decide,fun b1 nb1=>⟨by show 0<=sizeLine;decide,fun b2 nb2=>fun rb dxb nr nd nrd=>?_⟩⟩⟩
 have k0:=ah nb0 (.lst []);have k1:=ah nb1 (.lst []);have k2:=ah nb2 (.lst []);have gm:=iM (C:=Gb) nr nd;have gk:=(k0.trans k1).trans k2;refine ⟨rb,_,dxb,b0,b1,b2,.str n,vN p,[],[],[],rfl,ac,⟨B.Gn,B.IC,B.Ie,B.Gw,B.Gj,B.Hj⟩,gm _ _ (k2 _ _ (k1 _ _ ac)),gm _ _ (k2 _ _ ac),gm _ _ ac,fun t' s' u' H15 ta sa ua nt ns nu nd3 kp et7 es7 eu7 er=>⟨rfl,?_⟩⟩
 have gg:=gk.trans gm;exact q rb t' s' u' _ (Ae (gk.trans (gO nr nd kp)) (gk.free nr) (gg.free nt) (gg.free ns) (gg.free nu) ta sa ua nd3 er et7 es7 eu7)
theorem CJ {dV:Value} (F:a6 K "step_of" "step_of" AK dV f fd) (DZ23:wC P w K mg base bu 1 Hs ["self","name","least","most","uses","second"] [.non,.non] (jL K)) (DZ24:wC P w K mg base bu 2 HQ ["self","name","least","most","fill","uses","second"] [.non,.non] (mL K)):aY P w K mg base bu 4 f fd ["values"] (oC Gh Ge Gd):=by
 have sc:aB ["values"] ["values"] (aq AK):=dC (by decide+kernel)
 and_intros
 ·obtain ⟨_,_,_,_,_,_,rfl,_⟩:=h
  rfl
 obtain ⟨l,w,n,lo,hi,f,rfl,⟨xs,el,rl⟩,wd,fo,q⟩:=h;refine ⟨_,(ag (aO (aw bv (av ak (pv 0) ae (fun _ _=>rfl)) ao (aE _)) (ai (ay (mw B.JK DZ23 hr (by decide) rfl B.JQ ((av ak (pv 0) ae (fun _ _=>rfl))<*>((av ak (pv 0) ae (fun _ _=>rfl))<*>((av ak (pv 0) ae (fun _ _=>rfl))<*>af)))))) aC) (ag (aO (aw bv (av ak (pv 0) ae (fun _ _=>rfl)) ao (aE _)) (ai (ay (mw B.JB DZ24 hr (by decide) rfl B.JL ((av ak (pv 0) ae (fun _ _=>rfl))<*>((av ak (pv 0) ae (fun _ _=>rfl))<*>((av ak (pv 0) ae (fun _ _=>rfl))<*>((av ak (pv 0) ae (fun _ _=>rfl))<*>af))))))) aC) (ai (ay (mw B.JC DZ23 hr (by decide) rfl B.JN ((av ak (pv 0) ae (fun _ _=>rfl))<*>((av ak (pv 0) ae (fun _ _=>rfl))<*>((av ak (pv 0) ae (fun _ _=>rfl))<*>af)))))))),?_⟩
 try dsimp only[cxK]
 have sl:sizeLine=16777216:=sizeLine_eq;obtain ⟨x1,xs1,rfl,e1,rl1⟩:=aS rl;obtain ⟨x2,xs2,rfl,e2,rl2⟩:=aS rl1;obtain ⟨x3,xs3,rfl,e3,rl3⟩:=aS rl2;cases e1;cases e2;cases e3;have own2:∀{x u:Addr},H x=none->H u=none->∀a∈(So.mk x u none).own,H a=none:=fun h1 h2 a ha=>by
  simp only[So.own,Option.toList,F4,FC,or_false] at ha;rcases ha with rfl|rfl
  ·exact h1
  ·exact h2
 have own_nd:∀{x u:Addr},u≠x->(So.mk x u none).own.Nodup:=fun h=>by
  simp[So.own,h.symm]
 refine cut (fun σ H'=>σ= [J9 l]/\H=H'/\w≠ "cut") (fun N hN=>?_) ?_
 ·refine ⟨ν,l,_,ω,aI.of el,(aG (j:=0) rfl),rfl,ν,tu (fun e=>?_) fun e=>hN _ _ ⟨rfl,rfl,e⟩⟩
  subst e
  match f,fo with
  |some am,z=>exact absurd z.1 (by decide)
  |none,_=>
  refine ⟨ν,l,_,ω,aI.of el,(aG (j:=1) rfl),ν,l,_,ω,aI.of el,(aG (j:=2) rfl),ν,l,_,ω,aI.of el,(aG (j:=3) rfl),fun x dx nx nd nxd=>⟨x,_,dx,_,_,_,.non,.non,[],none,rfl,ac,⟨B.Io,B.Hn,B.Hg,B.Ho,B.Hl,B.Gz⟩,.inl ⟨rfl,rfl⟩,rfl,fun u6 s6 H6 k6 ux nu eu hs6 ex=>⟨rfl,?_⟩⟩⟩
  have gm:=iM (C:=Gh) nx nd;have g6:=gO nx nd k6;have hs6:s6= .non:=hs6;subst hs6;exact q ⟨x,u6,none⟩ _ g6 ⟨_,dx,_,_,ex,.inl ⟨rfl,rfl⟩,kg,FH gM (by decide),trivial,⟨[],eu,A2.nil⟩,rfl⟩ (own2 nx (gm.free nu)) (own_nd ux)
 rintro σ _ ⟨rfl,rfl,n1⟩;refine cut (fun σ H'=>σ= [J9 l]/\H=H'/\w≠ "warm") (fun N hN=>?_) ?_
 ·refine ⟨ν,l,_,ω,aI.of el,(aG (j:=0) rfl),rfl,ν,tu (fun e=>?_) fun e=>hN _ _ ⟨rfl,rfl,e⟩⟩
  subst e
  match f,fo,rl3,q with
  |none,z,_,_=>exact absurd rfl z
  |some am,_,rl3,q=>
  obtain ⟨x4,xs4,rfl,⟨tf,rfl,_,etf⟩,rl4⟩:=aS rl3;refine ⟨ν,l,_,ω,aI.of el,(aG (j:=1) rfl),ν,l,_,ω,aI.of el,(aG (j:=2) rfl),ν,l,_,ω,aI.of el,(aG (j:=3) rfl),ν,l,_,ω,aI.of el,(aG (j:=4) rfl),fun x dx nx nd nxd=>⟨x,_,dx,_,_,_,_,.non,.non,[],none,rfl,ac,⟨B.HH,B.Hb,B.Gx,B.Hc,B.Ha,B.Gu⟩,B.IS,.inl ⟨rfl,rfl⟩,rfl,fun u6 s6 H6 k6 ux nu eu hs6 ex=>⟨rfl,?_⟩⟩⟩
  have gm:=iM (C:=Gd) nx nd;have g6:=gO nx nd k6;have hs6:s6= .non:=hs6;subst hs6;exact q ⟨x,u6,none⟩ _ g6 ⟨_,dx,_,_,ex,.inr (.inr ⟨rfl,rfl⟩),vw,FH (aP "fill" (.ref tf) (hW (.str n) (vN lo) (vN hi) (.ref u6) .non)) (FH (Nat.succ_le_succ gM) (show 6<=10 by decide)),⟨tf,p9,g6 _ _ etf⟩,⟨[],eu,A2.nil⟩,rfl⟩ (own2 nx (gm.free nu)) (own_nd ux)
 rintro σ _ ⟨rfl,rfl,n2⟩;have e:w= "rest" :=by
  rcases wd with e|e|e
  ·exact absurd e n1
  ·exact e
  ·exact absurd e n2
 subst e
 match f,fo with
 |some am,z=>exact absurd z.1 (by decide)
 |none,_=>
  refine ⟨ν,l,_,ω,aI.of el,(aG (j:=1) rfl),ν,l,_,ω,aI.of el,(aG (j:=2) rfl),ν,l,_,ω,aI.of el,(aG (j:=3) rfl),fun x dx nx nd nxd=>⟨x,_,dx,_,_,_,.non,.non,[],none,rfl,ac,⟨B.HI,B.He,B.Gy,B.Hf,B.Hd,B.Gv⟩,.inl ⟨rfl,rfl⟩,rfl,fun u6 s6 H6 k6 ux nu eu hs6 ex=>⟨rfl,?_⟩⟩⟩
  have gm:=iM (C:=Ge) nx nd;have g6:=gO nx nd k6;have hs6:s6= .non:=hs6;subst hs6;exact q ⟨x,u6,none⟩ _ g6 ⟨_,dx,_,_,ex,.inr (.inl ⟨rfl,rfl⟩),kg,FH gM (by decide),trivial,⟨[],eu,A2.nil⟩,rfl⟩ (own2 nx (gm.free nu)) (own_nd ux)
theorem CK {dV:Value} (F:a6 K "put_step" "put_step" AL dV f fd) (DZ27:Dx P w K mg base bu 4 "step_of" ["values"] [] (oC Gh Ge Gd)) (XZ18:Dx P w K mg base (d0 P w) 3 "refuse_twice" ["name","told","at"] [] (eL Ga)) (XZ19:Dx P w K mg base (d0 P w) 1 "refuse_full" ["kept","most"] [] (eB mt)):aY P w K mg base (d0 P w) 5 f fd ["recipe","at","values"] (dH Gh Ge Gd Gb Ga on mt isStep):=by
 have sc:aB ["recipe","at","values"] ["recipe","at","values"] (aq AL):=dC (by decide+kernel)
 refine F.okX sc (fun vs H Q E h=>?_) (fun cdv A outer s H vs Q E hr h=>?_)
 ·obtain ⟨_,_,_,_,_,_,_,_,_,_,_,_,rfl,_⟩:=h
  rfl
 obtain ⟨r,l,a,G,n,p,lt,ls,lk,ks,M,rr,rfl,wh,rm,lv,ro,bd,q0,q⟩:=h;refine ⟨_,(ag (bi (b3 XZ18 hr (by decide) rfl bP ((av ak (pv 2) ae (fun _ _=>rfl))<*>((eI (own:= "step") (ys:= []) (js:= []) rfl (tj qX .nil (by decide) rfl rfl rfl rfl rfl rfl rfl rfl) (dP (bI (pv 0) rfl)) (fun C fp s H=>(mM (K:=K) rfl (pv 0) rfl)))<*>((pv 1)<*>af))))) (ag (bi (b3 XZ19 hr (by decide) rfl bP ((bI (pv 0) rfl)<*>((eY rfl B.IY)<*>af)))) (ai (bi (cZ FY Fc Fb bG (bI (pv 0) rfl) ((dN DZ27 hr ((pv 2)<*>af))<*>af)))))),?_⟩
 try dsimp only[cxK]
 have sl:sizeLine=16777216:=sizeLine_eq;have scOf:∀{w:Str} {C:Addr},ko Gh Ge Gd w C->kf K C:=fun h=>by
  rcases h with ⟨_,rfl⟩|⟨_,rfl⟩|⟨_,rfl⟩
  ·exact ⟨B.Io,B.Hn,B.Hg,B.Ho,B.Hl,B.Gz⟩
  ·exact ⟨B.HI,B.He,B.Gy,B.Hf,B.Hd,B.Gv⟩
  ·exact ⟨B.HH,B.Hb,B.Gx,B.Hc,B.Ha,B.Gu⟩
 match rr,wh,lv,ro,q0,q with
 | .step w z lo hi f,_,lv,ro,q0,q=>
 have ml:=bd.s;obtain ⟨xs,el,rl⟩:=id lv;obtain ⟨x1,xs1,rfl,e1,rl1⟩:=aS rl;cases e1;obtain ⟨dx,er⟩:=rm.er;have es:=rm.es;have kl:=rm.len;refine ⟨ν,l,_,ω,aI.of el,(aG (j:=1) rfl),ν,r,_,dx,_,ν,er,B.Gn,B.Gj,cK.2.2.2.1,ls,rfl,⟨_,aI.of es⟩,fB (vn V.str) (fun _=>False) (fun i=>kM M.steps i) (aI.of es) (by rw[F7];lia) (fun a h=>h.elim) (fun i y hy H2 g Q' hQ=>?_) fun p1 H4 np g4 hp=>?_⟩
 ·rw[FG] at hy;obtain ⟨k,hk,rfl⟩:=FQ.mp hy;have il:i<M.steps.length:=by have:=cy hk;lia
  have hs:=F6 il;rw[lK hs] at hQ;obtain ⟨C,dxk,sv,ff,ex,hC,sf,_⟩:=rm.ss i k _ hk hs;exact ⟨ν,k.x,C,dxk,ff,ν,g _ _ ex,(scOf hC).cl,(scOf hC).name,sf.name,hQ _ _ (.refl _) rfl⟩
 obtain ⟨vs,ep,rp⟩:=hp;have ey:vs=(M.steps.map fun s=>s.n).map V.str:=by
  have e:=map_getD (fun z:Str=>z) (M.steps.map fun s=>s.n) ""
  rw[F7,List.map_id'] at e;rw[rp.val,F7,kl];exact congrArg (List.map V.str) e
 subst ey;have gG:=rm.fr.trans g4;refine ⟨ν,z,p1,_,a,rfl,ep,(fun m=>dz.low (q0 .twice (oK m)) gG),fun nm=>?_⟩
 refine ⟨ν,r,_,dx,_,ν,(g4 _ _ er),B.Gn,B.Gj,cK.2.2.2.1,ls,_,12,rfl,g4 _ _ es,.inl rfl,(fun e=>kP.low (q0 .full (rR nm (by rw[F7] at e;lia))) gG),fun ne=>?_⟩
 rw[F7] at ne;refine ⟨ν,r,_,dx,_,ν,(g4 _ _ er),B.Gn,B.Gj,cK.2.2.2.1,.inl ⟨rfl,_,aI.of (g4 _ _ es)⟩,ν,l,w,z,lo,hi,f,rfl,lv.same g4,ro.1,ro.2.2.2,fun k H5 g5 sm nk ndk=>?_⟩
 have g45:=g4.trans g5;exact ⟨ls,ω,g45 _ _ es,by rw[F7];lia,q _ (rS nm (by lia)) _ _ (rm.step g45 sm (fun a ha=>g4.free (nk a ha)) ndk)⟩
theorem CL {dV:Value} (F:a6 K "put_second" "put_second" AM dV f fd) (XZ20:Dx P w K mg base (d0 P w) 3 "place_of" ["recipe","name","at"] [] (fG Gh Ge Gd Gb on)) (I_Twice:wA P w K mg base 1 Ga ["self","at"] (dh Ga "at")):aY P w K mg base (d0 P w) 4 f fd ["recipe","at","values"] (dH Gh Ge Gd Gb Ga on mt yS):=by
 have sc:aB ["recipe","at","values","step"] ["recipe","at","values"] (aq AM):=dC (by decide+kernel)
 refine F.okX sc (fun vs H Q E h=>?_) (fun cdv A outer s H vs Q E hr h=>?_)
 ·obtain ⟨_,_,_,_,_,_,_,_,_,_,_,_,rfl,_⟩:=h
  rfl
 obtain ⟨r,l,a,G,n,p,lt,ls,lk,ks,M,rr,rfl,wh,rm,lv,ro,bd,q0,q⟩:=h;refine ⟨_,(ag (cU 3 sc (av ak (bI (pv 0) rfl) (b3 XZ20 hr (by decide) rfl bP ((pv 0)<*>((av ak (pv 2) ae (fun _ _=>rfl))<*>((pv 1)<*>af)))) (fun _ _=>rfl))) (ag (aO (aw wL (bI (pv 3) rfl) br (aE _)) (ai (fz I_Twice hr (by decide) rfl B.IU rfl bP ((pv 1)<*>af))) aC) (ai (dG (pv 3) (@bM _ _ _ _ _ ((av ak (pv 2) ae (fun _ _=>rfl))<*>((av ak (pv 2) ae (fun _ _=>rfl))<*>((@bw _ _ _ _ af)<*>af)))) rfl)))),?_⟩
 try dsimp only[cxK]
 have sl:sizeLine=16777216:=sizeLine_eq;have scOf:∀{w:Str} {C:Addr},ko Gh Ge Gd w C->kf K C:=fun h=>by
  rcases h with ⟨_,rfl⟩|⟨_,rfl⟩|⟨_,rfl⟩
  ·exact ⟨B.Io,B.Hn,B.Hg,B.Ho,B.Hl,B.Gz⟩
  ·exact ⟨B.HI,B.He,B.Gy,B.Hf,B.Hd,B.Gv⟩
  ·exact ⟨B.HH,B.Hb,B.Gx,B.Hc,B.Ha,B.Gu⟩
 match rr,wh,lv,ro,q0,q with
 | .sec z lo hi,_,⟨xs,el,rl⟩,ro,q0,q=>
 have sl1:=bd.s;obtain ⟨x1,xs1,rfl,e1,rl1⟩:=aS rl;obtain ⟨x2,xs2,rfl,e2,rl2⟩:=aS rl1;obtain ⟨x3,xs3,rfl,e3,rl3⟩:=aS rl2;cases e1;cases e2;cases e3;obtain ⟨dx,er⟩:=rm.er;have es:=rm.es;have kl:=rm.len;refine ⟨ν,r,_,dx,_,ν,er,B.Gn,B.Gj,cK.2.2.2.1,ν,ν,l,_,ω,aI.of el,(aG (j:=1) rfl),ν,r,z,a,n,p,M,rfl,rm.a,by lia,(fun h=>dz.low (q0 .nostep (rV h)) rm.fr),fun i hpl H1 g1=>?_⟩
 obtain ⟨s1,hi1,_⟩:=rT hpl;have il:=cy hi1;have hk:=F6 (l:=ks) (i:=i) (by lia)
 generalize ks[i]=k at hk;have rm1:=rm.same g1;have hkx:(ks.map fun k=>V.ref k.x)[i]?=some (.ref k.x):=by rw[FG,hk];rfl
 have sm:=rm1.ss i k s1 hk hi1;obtain ⟨C,dxk,sv,ff,hx,hC,sf,l10,hf,hu,hsv⟩:=id sm;refine ⟨ls,_,ω,aI.of (g1 _ _ es),(aG hkx),?_⟩;dsimp only[bK,b6];refine cut (fun σ H'=>σ= [J9 r,some a,J9 l,J9 k.x]/\H1=H'/\s1.sec=none) (fun N hN=>?_) ?_
 ·match kso:k.sec,es1:s1.sec,hsv with
  |none,none,hsv=>
   have hsv:sv= .non:=hsv;subst hsv;exact ⟨ν,k.x,C,dxk,ff,ν,hx,(scOf hC).cl,(scOf hC).second,sf.second,rfl,ν,nF rfl (hN _ _ ⟨rfl,rfl,es1⟩)⟩
  |some l2,some (lo2,hi2,us2),⟨t2,e,_⟩=>
   subst e;exact ⟨ν,k.x,C,dxk,ff,ν,hx,(scOf hC).cl,(scOf hC).second,sf.second,rfl,ν,nT (fun z=>nomatch z) ⟨ν,by show 1<=sizeLine;decide,fun e ne=>eJ ne fun d H2 g2 e1 e2 dne gd ed=>⟨rfl,d,e1,dz.low (q0 .twice (vW hpl hi1 es1)) rm1.fr d _ gd ed⟩⟩⟩
 rintro σ _ ⟨rfl,rfl,es0⟩;refine ⟨ν,l,_,ω,aI.of (g1 _ _ el),(aG (j:=2) rfl),ν,l,_,ω,aI.of (g1 _ _ el),(aG (j:=3) rfl),by show 0<=sizeLine;decide,fun nl nnl=>⟨by show 3<=sizeLine;decide,fun nt nnt=>?_⟩⟩
 have g2:=ah nnl (.lst []);have g3:=ah nnt (.tup [vN lo,vN hi,.ref nl]);have g23:=g2.trans g3;have en:=g3 _ _ (ac (H:=H1) (a:=nl) (o:= .lst []));have et:=ac (H:=aL H1 nl (.lst [])) (a:=nt) (o:= .tup [vN lo,vN hi,.ref nl]);refine ⟨ν,k.x,C,dxk,ff,rfl,g23 _ _ hx,(scOf hC).cl,(scOf hC).second,by lia,?_⟩
 have sm':=SM.second (cC:=Gh) (cR:=Ge) (cW:=Gd) hx hC sf l10 hf hu g23 nnl en et;have nd':=rm1.own_nd (FB hk);refine q _ (Cc hpl hi1 es0) _ _ (rm1.set hk hi1 (qm g23 (by simp[So.own])) sm' rfl (fun b hb=>?_) ?_)
 ·simp only[So.own,Option.toList,F4,FC,or_false] at hb;rcases hb with rfl|rfl|rfl
  ·exact .inl (by simp[So.own])
  ·exact .inl (by simp[So.own])
  ·exact .inr nnl
 ·simp only[So.own,G3,F4,not_or] at nd';have n1:k.x≠nl:=aM hx nnl;obtain ⟨vu,eu,_⟩:=hu;have n2:k.u≠nl:=aM eu nnl;simp[So.own,Option.toList,nd'.1.1,n1,n2]
theorem CM {dV:Value} (F:a6 K "put_use" "put_use" AN dV f fd) (XZ18:Dx P w K mg base (d0 P w) 3 "refuse_twice" ["name","told","at"] [] (eL Ga)) (XZ19:Dx P w K mg base (d0 P w) 1 "refuse_full" ["kept","most"] [] (eB mt)) (XZ20:Dx P w K mg base (d0 P w) 3 "place_of" ["recipe","name","at"] [] (fG Gh Ge Gd Gb on)) (I_NoStep:wA P w K mg base 1 on ["self","at"] (dh on "at")):aY P w K mg base (d0 P w) 4 f fd ["recipe","at","values"] (dH Gh Ge Gd Gb Ga on mt yT):=by
 have sc:aB ["recipe","at","values","step","uses"] ["recipe","at","values"] (aq AN):=dC (by decide+kernel)
 refine F.okX sc (fun vs H Q E h=>?_) (fun cdv A outer s H vs Q E hr h=>?_)
 ·obtain ⟨_,_,_,_,_,_,_,_,_,_,_,_,rfl,_⟩:=h
  rfl
 obtain ⟨r,l,a,G,n,p,lt,ls,lk,ks,M,rr,rfl,wh,rm,lv,ro,bd,q0,q⟩:=h;refine ⟨_,(ag (cU 3 sc (av ak (bI (pv 0) rfl) (b3 XZ20 hr (by decide) rfl bP ((pv 0)<*>((av ak (pv 2) ae (fun _ _=>rfl))<*>((pv 1)<*>af)))) (fun _ _=>rfl))) (ag (cU 4 sc (bI (pv 3) rfl)) (ag (aO (aw bv (av ak (pv 2) ae (fun _ _=>rfl)) ao (aE _)) (ag (aO (aw df (bI (pv 3) rfl) br (aE _)) (ai (fz I_NoStep hr (by decide) rfl B.IE rfl bP ((pv 1)<*>af))) aC) (ai (cU 4 sc (av bN (bI (pv 3) rfl) ae (fun _ _=>rfl))))) aC) (ag (bi (b3 XZ18 hr (by decide) rfl bP ((av ak (pv 2) ae (fun _ _=>rfl))<*>((eI (own:= "use") (ys:= []) (js:= []) rfl (tj qX .nil (by decide) rfl rfl rfl rfl rfl rfl rfl rfl) (dP (pv 4)) (fun C fp s H=>(av (rC (K:=K) rfl) (pv 0) ae (fun _ _=>rfl))))<*>((pv 1)<*>af))))) (ag (bi (b3 XZ19 hr (by decide) rfl bP ((pv 4)<*>((eY rfl B.Je)<*>af)))) (ai (bi (cZ FY Fc Fb bG (pv 4) ((@bM _ _ _ _ _ ((av ak (pv 2) ae (fun _ _=>rfl))<*>((av ak (pv 2) ae (fun _ _=>rfl))<*>((av ak (pv 2) ae (fun _ _=>rfl))<*>af))))<*>af))))))))),?_⟩
 try dsimp only[cxK]
 have sl:sizeLine=16777216:=sizeLine_eq;have scOf:∀{w:Str} {C:Addr},ko Gh Ge Gd w C->kf K C:=fun h=>by
  rcases h with ⟨_,rfl⟩|⟨_,rfl⟩|⟨_,rfl⟩
  ·exact ⟨B.Io,B.Hn,B.Hg,B.Ho,B.Hl,B.Gz⟩
  ·exact ⟨B.HI,B.He,B.Gy,B.Hf,B.Hd,B.Gv⟩
  ·exact ⟨B.HH,B.Hb,B.Gx,B.Hc,B.Ha,B.Gu⟩
 match rr,wh,lv,ro,q0,q with
 | .use o z u,_,⟨xs,el,rl⟩,ro,q0,q=>
 have sl1:=bd.s;obtain ⟨x1,xs1,rfl,e1,rl1⟩:=aS rl;obtain ⟨x2,xs2,rfl,e2,rl2⟩:=aS rl1;obtain ⟨x3,xs3,rfl,e3,rl3⟩:=aS rl2;obtain ⟨x4,xs4,rfl,e4,rl4⟩:=aS rl3;cases e1;cases e2;cases e3;cases e4;obtain ⟨dx,er⟩:=rm.er;have es:=rm.es;have kl:=rm.len;refine ⟨ν,r,_,dx,_,ν,er,B.Gn,B.Gj,cK.2.2.2.1,ν,ν,l,_,ω,aI.of el,(aG (j:=1) rfl),ν,r,z,a,n,p,M,rfl,rm.a,by lia,(fun h=>dz.low (q0 .nostep (rW h)) rm.fr),fun i hpl H1 g1=>?_⟩
 obtain ⟨s1,hi1,_⟩:=rT hpl;have il:=cy hi1;have hk:=F6 (l:=ks) (i:=i) (by lia)
 generalize ks[i]=k at hk;have rm1:=rm.same g1;have hkx:(ks.map fun k=>V.ref k.x)[i]?=some (.ref k.x):=by rw[FG,hk];rfl
 have sm:=rm1.ss i k s1 hk hi1;have ndk:=rm1.own_nd (FB hk);obtain ⟨C,dxk,sv,ff,hx,hC,sf,l10,hf,hu,hsv⟩:=id sm;have ub:=bd.us s1 (FB hi1);refine ⟨ls,_,ω,aI.of (g1 _ _ es),(aG hkx),ν,k.x,C,dxk,ff,ν,hx,(scOf hC).cl,(scOf hC).uses,sf.uses,?_⟩;dsimp only[bK,b6];have mku:k.u∈k.own:=by simp[So.own]
 refine cut (fun σ H'=>∃ua us,σ= [J9 r,some a,J9 l,J9 k.x,J9 ua]/\H1=H'/\Uz H1 ua us/\mX o s1=some us/\us.length<=12/\∀(H2:Hp) (t:Addr) (vs:List V),H1 ua=some (.lst vs)->ax H1 H2->H2 t=some (.tup (B2 u))->je us u= .ok (us++ [u])->Q .non (aL H2 ua (.lst (vs++ [.ref t])))) (fun N hN=>?_) ?_
 ·refine ⟨ν,l,_,ω,aI.of (g1 _ _ el),(aG (j:=0) rfl),rfl,ν,tu (fun e=>?_) fun e=>?_⟩
  ·have ho:o=true:=by
    cases o with
    |true=>rfl
    |false=>exact absurd e (show ¬Str.ofString "with" =Str.ofString "orwith" from by decide)
   subst ho
   match kso:k.sec,es1:s1.sec,hsv with
   |none,none,hsv=>
    have hsv:sv= .non:=hsv;subst hsv;exact ⟨ν,k.x,C,dxk,ff,ν,hx,(scOf hC).cl,(scOf hC).second,sf.second,rfl,ν,dT rfl ⟨ν,by show 1<=sizeLine;decide,fun e ne=>eJ ne fun d H2 g2 e1 e2 dne gd ed=>⟨rfl,d,e1,dz.low (q0 .nostep (oM hpl hi1 es1)) rm1.fr d _ gd ed⟩⟩⟩
   |some l2,some (lo2,hi2,us2),⟨t2,e,et2,hu2⟩=>
   subst e;have ua2:mX true s1=some us2:=by unfold mX;rw[if_pos rfl,es1];rfl
   refine ⟨ν,k.x,C,dxk,ff,ν,hx,(scOf hC).cl,(scOf hC).second,sf.second,rfl,ν,dF (fun z=>nomatch z) ⟨ν,k.x,C,dxk,ff,ν,hx,(scOf hC).cl,(scOf hC).second,sf.second,t2,_,ω,cM.of et2,rfl,hN _ _ ⟨l2,us2,rfl,rfl,hu2,ua2,(ub.2 _ es1),fun H2 t vs ev g et hpu=>?_⟩⟩⟩
   have hpp:=jt (u:=u) hpl hi1 ua2;rw[hpu] at hpp;have eS:jN true s1 (us2++ [u])={s1 with sec:=some (lo2,hi2,us2++ [u])}:=by unfold jN;rw[if_pos rfl,es1];rfl
   dsimp only at hpp;rw[eS] at hpp;exact q _ hpp _ _ (rm1.set hk hi1 (qm g (by simp[So.own,kso])) (sm.orw ndk kso es1 ev g et) rfl (fun b hb=> .inl hb) ndk)
  ·have ho:o=false:=by
    cases o with
    |false=>rfl
    |true=>exact absurd rfl e
   subst ho;refine hN _ _ ⟨k.u,s1.uses,rfl,rfl,hu,rfl,ub.1,fun H2 t vs ev g et hpu=>?_⟩
   have hpp:=jt (u:=u) hpl hi1 (o:=false) (us:=s1.uses) rfl;rw[hpu] at hpp;exact q _ hpp _ _ (rm1.set hk hi1 (qm g mku) (sm.use ndk ev g et) rfl (fun b hb=> .inl hb) ndk)
 rintro σ _ ⟨ua,us,rfl,rfl,⟨vs,ev,rv⟩,hua,ul,fin⟩;have vl:=rv.1;have el1:=g1 _ _ el;have hby:=jt (u:=u) hpl hi1 hua;refine ⟨ν,l,_,ω,aI.of el1,(aG (j:=2) rfl),ν,ua,rfl,⟨_,aI.of ev⟩,fB (vn V.str) (fun _=>False) (fun i=>((us.map fun x=>x.1).getD i ("" :Str))) (aI.of ev) (by lia) (fun a h=>h.elim) (fun i y hy H2 g Q' hQ=>?_) fun p1 H4 np g4 hp=>?_⟩
 ·obtain ⟨x,hx',t,rfl,_,et⟩:=rv.at_ hy;have e1:(us.map fun x=>x.1).getD i ("" :Str)=x.1:=by simp[List.getD,hx']
  rw[e1] at hQ;exact ⟨ν,t,_,ω,cM.of (g _ _ et),rfl,hQ _ _ (.refl _) rfl⟩
 obtain ⟨ws,ep,rp⟩:=hp;have ey:ws=(us.map fun x=>x.1).map V.str:=by
  have e:=map_getD (fun z:Str=>z) (us.map fun x=>x.1) ""
  rw[F7,List.map_id'] at e;rw[rp.val,vl];exact congrArg (List.map V.str) e
 subst ey;have gG:=rm1.fr.trans g4;refine ⟨ν,u.1,p1,_,a,rfl,ep,(fun m=>dz.low (q0 .twice (by rw[hby,kB m])) gG),fun nm=>?_⟩
 refine ⟨ν,ua,vs,12,rfl,g4 _ _ ev,.inl rfl,(fun e=>kP.low (q0 .full (by rw[hby,mY nm (by lia)])) gG),fun ne=>?_⟩
 refine ⟨ν,.inl ⟨rfl,_,aI.of (g4 _ _ ev)⟩,ν,l,_,ω,aI.of (g4 _ _ el1),(aG (j:=2) rfl),ν,l,_,ω,aI.of (g4 _ _ el1),(aG (j:=3) rfl),ν,l,_,ω,aI.of (g4 _ _ el1),(aG (j:=4) rfl),by show 3<=sizeLine;decide,fun t nt=>?_⟩
 have g5:=g4.trans (ah nt (.tup (B2 u)));exact ⟨ua,ω,g5 _ _ ev,by lia,fin _ t vs ev g5 ac (yW nm (by lia))⟩
theorem CN {dV:Value} (F:a6 K "put_row" "put_row" AO dV f fd) (XZ21:Dx P w K mg base (d0 P w) 4 "put_take" ["recipe","at","values"] [] (dH Gh Ge Gd Gb Ga on mt vU)) (XZ22:Dx P w K mg base (d0 P w) 4 "put_link" ["recipe","at","values"] [] (dH Gh Ge Gd Gb Ga on mt vV)) (XZ28:Dx P w K mg base (d0 P w) 5 "put_step" ["recipe","at","values"] [] (dH Gh Ge Gd Gb Ga on mt isStep)) (XZ29:Dx P w K mg base (d0 P w) 4 "put_second" ["recipe","at","values"] [] (dH Gh Ge Gd Gb Ga on mt yS)) (XZ30:Dx P w K mg base (d0 P w) 4 "put_use" ["recipe","at","values"] [] (dH Gh Ge Gd Gb Ga on mt yT)):aY P w K mg base (d0 P w) 6 f fd ["recipe","at","values"] (dH Gh Ge Gd Gb Ga on mt (fun _=>True)):=by
 have sc:aB ["recipe","at","values"] ["recipe","at","values"] (aq AO):=dC (by decide+kernel)
 refine F.okX sc (fun vs H Q E h=>?_) (fun cdv A outer s H vs Q E hr h=>?_)
 ·obtain ⟨_,_,_,_,_,_,_,_,_,_,_,_,rfl,_⟩:=h
  rfl
 obtain ⟨r,l,a,G,n,p,lt,ls,lk,ks,M,rr,rfl,wh,rm,lv,ro,bd,q0,q⟩:=h;refine ⟨_,(ai (aO (aw bv (av ak (pv 2) ae (fun _ _=>rfl)) ao (aE _)) (ai (bi (b3 XZ21 hr (by decide) rfl bP ((pv 0)<*>((pv 1)<*>((pv 2)<*>af)))))) (ai (aO (aw dZ (av ak (pv 2) ae (fun _ _=>rfl)) (bY (v:=V.ref Gk) rfl B.HY rfl) (by with_unfolding_all rfl)) (ai (bi (b3 XZ28 hr (by decide) rfl bP ((pv 0)<*>((pv 1)<*>((pv 2)<*>af)))))) (ai (aO (aw bv (av ak (pv 2) ae (fun _ _=>rfl)) ao (aE _)) (ai (bi (b3 XZ29 hr (by decide) rfl bP ((pv 0)<*>((pv 1)<*>((pv 2)<*>af)))))) (ai (aO (aw dZ (av ak (pv 2) ae (fun _ _=>rfl)) (bY (v:=V.ref Gq) rfl B.Jd rfl) (by with_unfolding_all rfl)) (ai (bi (b3 XZ30 hr (by decide) rfl bP ((pv 0)<*>((pv 1)<*>((pv 2)<*>af)))))) (ai (bi (b3 XZ22 hr (by decide) rfl bP ((pv 0)<*>((pv 1)<*>((pv 2)<*>af)))))))))))))),?_⟩
 try dsimp only[cxK]
 have sl:sizeLine=16777216:=sizeLine_eq;obtain ⟨xs,el,rl⟩:=id lv;refine ⟨_,rfl,l,_,_,_,rfl,rfl,aI.of el,(aG (j:=0) rfl),rfl,_,rfl,tu (fun e=>?_) fun n1=>⟨_,rfl,l,_,_,_,rfl,rfl,aI.of el,(aG (j:=0) rfl),Gk,_,rfl,.inr (B.HM.sq _),rfl,lH _,_,rfl,A9 (gs:= ["cut","rest","warm"]) (fun e=>?_) fun n2=>⟨_,rfl,l,_,_,_,rfl,rfl,aI.of el,(aG (j:=0) rfl),rfl,_,rfl,tu (fun e=>?_) fun n3=>⟨_,rfl,l,_,_,_,rfl,rfl,aI.of el,(aG (j:=0) rfl),Gq,_,rfl,.inr (B.IQ.sq _),rfl,lH _,_,rfl,A9 (gs:= ["with","orwith"]) (fun e=>?_) fun n4=>?_⟩⟩⟩⟩
 ·obtain ⟨g,am,rfl⟩:=xN ro e;exact ⟨ν,ν,ν,r,l,a,G,n,p,lt,ls,lk,ks,M,.take g am,rfl,trivial,rm,lv,ro,bd,q0,q⟩
 ·obtain ⟨w,z,lo,hi,f,rfl⟩:=xO ro e;exact ⟨ν,ν,ν,r,l,a,G,n,p,lt,ls,lk,ks,M,.step w z lo hi f,rfl,trivial,rm,lv,ro,bd,q0,q⟩
 ·obtain ⟨z,lo,hi,rfl⟩:=Af ro e;exact ⟨ν,ν,ν,r,l,a,G,n,p,lt,ls,lk,ks,M,.sec z lo hi,rfl,trivial,rm,lv,ro,bd,q0,q⟩
 ·obtain ⟨o,z,u,rfl⟩:=Ag ro e;exact ⟨ν,ν,ν,r,l,a,G,n,p,lt,ls,lk,ks,M,.use o z u,rfl,trivial,rm,lv,ro,bd,q0,q⟩
 ·obtain ⟨w,x,y,t,rfl⟩:=xP ro n1 n2 n3 n4;exact ⟨ν,ν,ν,r,l,a,G,n,p,lt,ls,lk,ks,M,.link w x y t,rfl,trivial,rm,lv,ro,bd,q0,q⟩
theorem CO {dV:Value} (F:a6 K "read_recipe" "read_recipe" AQ dV f fd) (DZ17:Dx P w K mg base bu 9 "values_of" ["row"] [] ku) (XZ26:Dx P w K mg base (d0 P w) 4 "recipe_begun" ["values"] [] (jr Gh Ge Gd Gb Gc)) (XZ31:Dx P w K mg base (d0 P w) 6 "put_row" ["recipe","at","values"] [] (dH Gh Ge Gd Gb Ga on mt (fun _=>True))) (I_NoRow:wA P w K mg base 1 Gc ["self","at"] (dh Gc "at")):aY P w K mg base (d0 P w) 11 f fd ["text"] (mV Gh Ge Gd Gb Gc Ga on mt):=by
 have sc:aB ["text","rows","recipe","at","row","values"] ["text"] (aq AQ):=dC (by decide+kernel)
 refine F.okX sc (fun vs H Q E h=>?_) (fun cdv A outer s H vs Q E hr h=>?_)
 ·obtain ⟨_,_,rfl,_⟩:=h
  rfl
 obtain ⟨hd,rws,rfl,hg,rg,l1000,qb,qo⟩:=h;refine ⟨_,(ag (aO (fR (cX (aU (i9 (K:=K) rfl) rfl B.Gi boot_isinstance ((pv 0)<*>((eE (v:= .ty "str") rfl B.HF boot_str rfl)<*>af))))) (ai (fz I_NoRow hr (by decide) rfl B.Iy rfl bP (ae<*>af))) aC) (ag (cU 1 sc (cZ G4 PySem.F.slot_str_split PySem.F.type_str_split nU (pv 0) (ao<*>af))) (ag (cU 2 sc (b3 XZ26 hr (by decide) rfl bP ((dN DZ17 hr ((av ak (pv 1) ae (fun _ _=>rfl))<*>af))<*>af))) (ag (iZ (uL rfl rfl) rfl (vO rfl B.Iq (fT ix (pv 1) (eH ae) gD)) (iY rfl (cf (sy 3 sc) (cf (sy 4 sc) gC))) (ag (cU 5 sc (dN DZ17 hr ((pv 4)<*>af))) (ag (aO (PW.pt (cY (aw df (pv 5) br (aE _)) (cO (aw bv (av ak (pv 5) ae (fun _ _=>rfl)) ao (aE _))))) (ai (fz I_NoRow hr (by decide) rfl B.Iy rfl bP ((pv 3)<*>af))) aC) (ai (bi (b3 XZ31 hr (by decide) rfl bP ((pv 2)<*>((pv 3)<*>((pv 5)<*>af))))))))) (ai (ay (pv 2))))))),?_⟩
 try dsimp only[cxK]
 have sl:sizeLine=16777216:=sizeLine_eq;have esp:=xS hg rg;have tl:=Ce hg rg l1000;generalize Txt.join fC (hdT hd::rws.map c7)=txt at esp tl⊢;refine cut (fun σ H'=>σ= [some (.str txt),none,none,none,none,none]/\H=H') (fun N hN=>?_) ?_
 ·exact ⟨ν,_,_,_,true,rfl,.str _,rfl,ν,cg (hN _ _ ⟨rfl,rfl⟩)⟩
 rintro σ _ ⟨rfl,rfl⟩;refine ⟨ν,rfl,txt,10,rfl,rfl,by lia,fun rl nrl=>?_⟩
 have gp:=ah nrl (.lst ((Txt.split txt fC).map V.str));have ep:aL H rl (.lst ((Txt.split txt fC).map V.str)) rl=some (.lst ((hdT hd::rws.map c7).map V.str)):=by rw[ac,esp]
 dsimp only[bK,b6];change L2.wG _ _ _ _ (aL H rl (.lst ((Txt.split txt fC).map V.str)));generalize aL H rl (.lst ((Txt.split txt fC).map V.str))=H1 at gp ep⊢;clear esp tl;obtain ⟨ht1,ht2⟩:=qt hg;refine cut (fun σ H'=>∃r n p lt ls lk,hd= .ok n p/\σ= [some (.str txt),J9 rl,J9 r,none,none,none]/\RM Gh Ge Gd Gb H1 H' r n p lt ls lk [] ⟨[],[],[]⟩) (fun N hN=>?_) ?_
 ·refine ⟨ν,rl,_,ω,aI.of ep,(aG (j:=0) rfl),hdT hd,rfl,by lia,fun e H5 g5=>?_,fun w us e p5 H5 g5 np5 lv=>?_⟩
  ·refine ⟨.non,rfl,.inr ⟨rfl,?_⟩⟩;cases hd with
   |ok n p=>
    change dY (aZ n p)=none at e;rw[jg hg.1 hg.2.1 hg.2.2] at e;cases e
   |bad z=>exact dz.low (qb ⟨z,rfl⟩) (gp.trans g5)
  ·refine ⟨.ref p5,rfl,.inl ⟨p5,w,us,rfl,lv,fun nd=>?_,fun ew=>?_⟩⟩
   ·cases hd with
    |ok n p=>
     change dY (aZ n p)=some (w,us) at e;rw[jg hg.1 hg.2.1 hg.2.2] at e;cases e;exact absurd rfl nd
    |bad z=>exact dz.low (qb ⟨z,rfl⟩) (gp.trans g5)
   ·cases hd with
    |ok n p=>
     change dY (aZ n p)=some (w,us) at e;rw[jg hg.1 hg.2.1 hg.2.2] at e;cases e;exact ⟨n,p,rfl,fun r lt ls lk H6 rm=>hN _ _ ⟨r,n,p,lt,ls,lk,rfl,rfl,rm.low g5⟩⟩
    |bad z=>
     subst ew;exact absurd e (hg.2.2 us)
 rintro σ H2 ⟨r,n,p,lt,ls,lk,rfl,rfl,rm⟩;obtain ⟨qe,qk⟩:=qo n p rfl;refine cut (fun σ H'=>∃(o3 o4 o5:Option V) (ks:List So) (M:Md),σ= [some (.str txt),J9 rl,J9 r,o3,o4,o5]/\RM Gh Ge Gd Gb H1 H' r n p lt ls lk ks M/\c6 ⟨[],[],[]⟩ 1 rws= .ok M) (fun N hN=>?_) ?_
 ·refine ⟨ν,ν,rl,ν,aI.of (rm.fr _ _ ep),fun sl1 ns1=>?_⟩
  have ecd:dQ ((hdT (.ok n p)::rws.map c7).map V.str) (some (1:Int)) none=(rws.map c7).map V.str:=by
   have:=lI (xs:=(hdT (.ok n p)::rws.map c7).map V.str) (c:=1);exact this
  rw[ecd];have gs:=ah ns1 (.lst ((rws.map c7).map V.str));have e1:aL H2 sl1 (.lst ((rws.map c7).map V.str)) sl1=some (.lst ((rws.map c7).map V.str)):=ac;have rm1:=rm.same gs;have nso:sl1∉bV r lt ls lk []:=fun z=>rm.all _ z ns1
  generalize aL H2 sl1 (.lst ((rws.map c7).map V.str))=H3 at gs e1 rm1⊢;have gH:ax H (less H3 (bV r lt ls lk [])):=gp.trans rm1.less;refine ⟨sl1,rfl,⟨_,aI.of e1⟩,tJ (xs:=(rws.map c7).map V.str) (fun i σ H'=>∃(o3 o4 o5:Option V) (ks:List So) (M1:Md),σ= [some (.str txt),J9 rl,J9 r,o3,o4,o5]/\RM Gh Ge Gd Gb (less H3 (bV r lt ls lk [])) H' r n p lt ls lk ks M1/\vP M1/\c6 ⟨[],[],[]⟩ 1 rws=c6 M1 (i+1) (rws.drop i)) ⟨none,none,none,[],⟨[],[],[]⟩,rfl,rm1.top,vP.nil,rfl⟩ (fun i σ H' _ h=>?_) ?_ ?_⟩
  ·obtain ⟨_,_,_,_,_,_,rm2,_⟩:=h;exact aI.of (rm2.fr _ _ (by rw[rG nso];exact e1))
  ·rintro i y σ H4 T hy ⟨o3,o4,o5,ks,M1,rfl,rm2,bd,hM⟩ nT;rw[FG,FG] at hy;obtain ⟨z,hz,rfl⟩:=FQ.mp hy;obtain ⟨x,hr',rfl⟩:=FQ.mp hz;have ok:=rg x (FB hr');have rm3:=rm2.same (ah nT (.tup [.int ((i:Int)+1),.str (c7 x)]));refine ⟨T,ν,cM.of ac,rfl,_,ν,ω,?_⟩;generalize aL H4 T (.tup [.int ((i:Int)+1),.str (c7 x)])=H5 at rm3⊢;have tl:=(qr ok).2;have ed:rws.drop i=x::rws.drop (i+1):=by
    have il:=cy hr';rw[List.drop_eq_getElem_cons il];rw[F6 il] at hr';rw[FT hr']
   rw[ed] at hM;have ei:V.int ((i:Int)+1)=V.int ((i+1:Nat):Int):=by simp
   have er:∀H9,ax (less H3 (bV r lt ls lk [])) H9->(∃z,x= .bad z)->dz Gc (.int ((i:Int)+1)) H9 E:=fun H9 g9 ⟨z,hz⟩=>by
    subst hz;rw[ei];exact dz.low (qe (.row (i+1)) hM) (gH.trans g9)
   refine ⟨ν,c7 x,rfl,by lia,fun e H6 g6=>?_,fun w us e p5 H6 g6 np5 lv=>?_⟩
   ·dsimp only[bK,b6];cases x with
    |ok rr=>
     change dY (bD rr)=none at e;rw[rM ok] at e;cases e
    |bad z=>exact ⟨_,rfl,rfl,_,rfl,dT rfl ⟨_,rfl,by show 1<=sizeLine;decide,fun e ne=>eJ ne fun d H2 g2 e1 e2 dne gd ed=>⟨rfl,d,e1,(er _ (rm3.fr.trans g6) ⟨z,rfl⟩) d _ gd ed⟩⟩⟩
   obtain ⟨xs,el,_⟩:=id lv;dsimp only[bK,b6];cases x with
   |bad z=>
    rcases ok.2.2 with h0|⟨us',h0⟩
    ·change dY z=_ at e;rw[h0] at e;cases e
    ·change dY z=_ at e;rw[h0] at e;cases e;exact ⟨ν,rfl,ν,dF (fun z=>nomatch z) ⟨ν,p5,_,ω,aI.of el,(aG (j:=0) rfl),rfl,ν,tu (fun _=>⟨ν,by show 1<=sizeLine;decide,fun e ne=>eJ ne fun d H2 g2 e1 e2 dne gd ed=>⟨rfl,d,e1,(er _ (rm3.fr.trans g6) ⟨z,rfl⟩) d _ gd ed⟩⟩) fun z=>absurd rfl z⟩⟩
   |ok rr=>
   change dY (bD rr)=_ at e;rw[rM ok] at e;have e':qg rr=(w,us):=FT e;have nd:=vR ok;rw[e'] at nd;have lv':LV H6 p5 (qg rr).1 (qg rr).2:=by rw[e'];exact lv
   refine cut (fun σ H'=>σ= [some (.str txt),J9 rl,J9 r,some (.int ((i:Int)+1)),some (.str (bD rr)),J9 p5]/\H6=H') (fun N hN=>?_) ?_
   ·exact ⟨ν,rfl,ν,dF (fun z=>nomatch z) ⟨ν,p5,_,ω,aI.of el,(aG (j:=0) rfl),rfl,ν,tu (fun z=>absurd z nd) fun _=>hN _ _ ⟨rfl,rfl⟩⟩⟩
   rintro σ _ ⟨rfl,rfl⟩;refine ⟨ν,ν,ν,r,p5,_,_,n,p,lt,ls,lk,ks,M1,rr,rfl,trivial,rm3.same g6,lv',ok,bd,fun f hf=>?_,fun M2 k3 ks' H7 rm7=>⟨_,_,_,ks',M2,rfl,rm7,bd.put k3,hM.trans (rY k3)⟩⟩
   have k:=qe (.flt f (i+1)) (hM.trans (gx hf));rw[ei];cases f with
   |twice=>exact dz.low k gH
   |nostep=>exact dz.low k gH
   |full=>exact kP.low k gH
  ·rintro σ H5 ⟨o3,o4,o5,ks,M1,rfl,rm2,bd,hM⟩;rw[F7,F7,List.drop_length] at hM;exact hN _ _ ⟨o3,o4,o5,ks,M1,rfl,rm2.low rm1.less,hM⟩
 rintro σ H3 ⟨o3,o4,o5,ks,M,rfl,rm3,hM⟩;exact ⟨ν,qk M hM r lt ls lk ks _ (rm3.low gp)⟩
theorem CP {dV:Value} (F:a6 K "_law_cell_at" "_law_cell_at" AR dV f fd):aY P w K mg base bu 1 f fd ["_law_script","_law_k"] (uz K):=by
 have sc:aB ["_law_script","_law_k"] ["_law_script","_law_k"] (aq AR):=dC (by decide+kernel)
 and_intros
 ·obtain ⟨_,_,_,rfl,_⟩:=h
  rfl
 obtain ⟨a,ns,k,rfl,hS,h0,q⟩:=h;refine ⟨_,(ag (aO (aw jU (pv 1) (aU cB rfl B.HR boot_len ((pv 0)<*>af)) (aE _)) (ai (ay (av ak (pv 0) (pv 1) (fun _ _=>rfl)))) aC) (ai (ay ae))),?_⟩
 try dsimp only[cxK]
 refine ⟨ν,ν,a,ν,.inl hS,ω,ν,d2 (fun c=>?_) (fun c=>?_)⟩
 ·obtain ⟨v,hv⟩:=qQ h0 c;exact ⟨ν,ν,a,_,ω,hS,hv,q v⟩
 ·exact q 0
theorem CQ {dV:Value} {hd:J8} (F:a6 K "_law_whole" "_law_whole" yo dV f fd):yC hd P w K mg base 1 f fd ["_law_found"] gF:=by
 have sc:aB ["_law_found"] ["_law_found"] (aq yo):=dC (by decide+kernel)
 refine F.okH sc (fun vs H Q E h=>?_) (fun cdv A outer s H vs Q E hr h=>?_)
 ·obtain ⟨_,rfl,_⟩:=h
  rfl
 obtain ⟨v,rfl,q⟩:=h;refine ⟨_,(ai (ay (pD (aU iB rfl B.Gi boot_isinstance ((pv 0)<*>((eE (v:= .ty "int") rfl B.Jt boot_int rfl)<*>af))) (pC (t8 (aU iB rfl B.Gi boot_isinstance ((pv 0)<*>((eE (v:= .ty "bool") rfl B.Ju boot_bool rfl)<*>af)))))))),?_⟩;try dsimp only[cxK]
 refine ⟨ν,_,_,ν,.ii v,ν,fU ⟨ν,_,_,ν,.ib v,ν,q⟩⟩
theorem CS {dV:Value} (F:a6 K "_law_stream" "_law_stream" AS dV f fd):aY P w K mg base bu 1 f fd ["_law_cell","_law_many"] ke:=by
 have sc:aB ["_law_cell","_law_many","_law_number","_law_found","_law_k"] ["_law_cell","_law_many"] (aq AS):=dC (by decide+kernel)
 and_intros
 ·obtain ⟨_,_,rfl,_⟩:=h
  rfl
 obtain ⟨c,m,rfl,m0,m1,q⟩:=h;have s4:(5000:Nat)<=sizeLine:=by decide
 refine ⟨_,(ag (cU 2 sc (au bj (pv 0) ae)) (ag (cU 3 sc (@bw _ _ _ _ af)) (ag (iZ PassesOwn.never rfl (kW rfl B.Hz ((au cw (pv 1) ae)<*>af)) (sy 4 sc) (ag (cU 2 sc (au bj (au cw (au cw (au gE (pv 2) ae) ae) (pv 4)) ae)) (ai (bi (cZ FY Fc Fb bG (pv 3) ((au eV (pv 2) ae)<*>af)))))) (ai (ay (fT ix (pv 3) (eH ae) gD)))))),?_⟩;try dsimp only[cxK]
 refine ⟨ν,ω,(by show (2147483647:Int)≠0;decide),?_⟩
 have a0:=FP c (show (0:Int)<2147483647 by decide)
 have a1:=Fo c (show (0:Int)<2147483647 by decide)
 refine ⟨by show 0<=sizeLine;decide,fun l nl=>?_⟩
 try dsimp only[bK,b6]
 refine cut (fun σ H'=>∃(xs:List Int) (n:Int) (o4:Option V),σ= [some (.int c),some (.int m),some (.int n),J9 l,o4]/\ax H H'/\H' l=some (.lst (xs.map V.int))/\(xs.length:Int)=m+1/\∀x∈xs,0<=x/\x<2^31) (fun N hN=>?_) ?_
 ·refine ⟨ν,ω,ν,by lia,by lia,sM (fun i σ H'=>∃(xs:List Int) (n:Int) (o4:Option V),σ= [some (.int c),some (.int m),some (.int n),J9 l,o4]/\ax H H'/\H' l=some (.lst (xs.map V.int))/\xs.length=i/\(∀x∈xs,0<=x/\x<2^31)/\0<=n/\n<2147483647) ⟨[],_,none,rfl,ah nl _,ac,rfl,by simp,a0,a1⟩ (fun i σ H2 hi hP=>?_) (fun σ H2 hP=>?_)⟩
  ·obtain ⟨xs,n,o4,rfl,g,e,hl,hx,n0,n1⟩:=hP;have nb:Bd 31 n:=by unfold Bd;lia
   refine ⟨ν,ω,nb.ok (show Bd 16 48271 by unfold Bd;decide),ω,ν,ω,ω,(by show (2147483647:Int)≠0;decide),?_⟩
   have b0:=FP (n*48271+7919+(0+(i:Int))) (show (0:Int)<2147483647 by decide)
   have b1:=Fo (n*48271+7919+(0+(i:Int))) (show (0:Int)<2147483647 by decide)
   refine ⟨ν,.inl ⟨rfl,_,aI.of e⟩,ν,ω,⟨by decide,PyProof.noPylong_small (by decide)⟩,l,ω,e,by rw[F7];lia,?_⟩
   refine ⟨xs++ [((n*48271+7919+(0+(i:Int))).fmod 2147483647).fdiv 1009],_,ν,ja g nl _,by rw[ac,FF];rfl,by simp[hl],fun x hx'=>?_,b0,b1⟩
   rcases FM.mp hx' with k|k
   ·exact hx x k
   ·rw[FA] at k;subst k;rw[Int.fdiv_eq_ediv_of_nonneg _ (by decide)]
    lia
  ·obtain ⟨xs,n,o4,rfl,g,e,hl,hx,n0,n1⟩:=hP;exact hN _ _ ⟨xs,n,o4,rfl,g,e,by lia,hx⟩
 rintro σ H' ⟨xs,n,o4,rfl,g,e,hl,hx⟩;refine ⟨ν,ν,l,ν,aI.of e,fun p hp=>?_⟩
 have ec:dQ (xs.map V.int) (some 1) none=(xs.drop 1).map V.int:=by
  rw[vd (by rw[F7];lia),List.map_drop]
 rw[ec];exact q p _ (xs.drop 1) (g.trans (ah hp _)) ac (by rw[G6];lia) (fun x hx'=>hx x (List.mem_of_mem_drop hx'))
theorem CT {dV:Value} (F:a6 K "_law_names" "_law_names" AT dV f fd) (DZ35:Dx P w K mg base bu 1 "_law_stream" ["_law_cell","_law_many"] [] ke):yb P w K mg base 2 f fd ["_law_cell"] oY:=by
 have sc:aB ["_law_cell","_law_letters","_law_xs","_law_body","_law_size","_law_at","_law_some","_law_k","_law_sign"] ["_law_cell"] (aq AT):=dC (by decide+kernel)
 refine F.okT sc (fun n vs H Q h=>?_) (fun cdv A outer s H vs n Q hr h=>?_)
 ·obtain ⟨_,rfl,_⟩:=h
  rfl
 obtain ⟨c,rfl,q⟩:=h;have s4:(5000:Nat)<=sizeLine:=by decide
 refine ⟨_,(aN (fK (i:=1) sc.nd rfl (Or.inr rfl) x5) (aN (cc (cU 2 sc (dN DZ35 hr ((pv 0)<*>(ae<*>af))))) (aN (cc (cU 3 sc (cZ G4 PySem.F.slot_str_join PySem.F.type_str_join jI ao ((eI (own:= "_law_x") (ys:= ["_law_letters"]) (js:= [1]) rfl (tj (wB qX) (.cons rfl .nil) (by decide) rfl rfl rfl rfl rfl rfl rfl rfl) (dP (fT ix (pv 2) gD (eH ae))) (fun C fp s H=>(av uq (pv 1) (au bj (pv 0) ae) (fun _ _=>rfl))))<*>af)))) (aN (cc (cU 4 sc (au cw ae (au bj (av ak (pv 2) ae (fun _ _=>rfl)) ae)))) (aN (cc (cU 5 sc (au bj (av ak (pv 2) ae (fun _ _=>rfl)) (pv 4)))) (aN (cc (cU 6 sc (@bw _ _ _ _ af))) (aN (ya PassesOwn.never rfl (kW rfl B.Hz (ae<*>af)) (sy 7 sc) (aN (fK (i:=8) sc.nd rfl (Or.inl rfl) (x6 (pv 1) (au bj (au cw (au eV (av ak (pv 2) ae (fun _ _=>rfl)) ae) (au gE ae (pv 7))) ae) (fun _ _=>rfl))) (aN (wf (x8 FY Fc Fb bG (pv 6) (sg (sg (lY (pv 3) gD (eH (pv 5))) (fJ (pv 8))) (lY (pv 3) (eH (au cw (pv 5) ae)) (eH (pv 4)))))) iU))) (aN (cc (ay (pv 6))) iU)))))))),?_⟩
 try dsimp only[cxK]
 refine fun t0 ht0=>?_
 refine ⟨ν,c,14,rfl,by decide,by decide,fun l H1 xs g1 e1 xl xp=>?_⟩
 have at_:∀j:Int,0<=j->j<14->∃v:Int,kH (xs.map V.int) j=some (.int v):=fun j j0 j1=>qQ j0 (by rw[F7];lia)
 obtain ⟨x12,h12⟩:=at_ 12 (by decide) (by decide)
 obtain ⟨x13,h13⟩:=at_ 13 (by decide) (by decide)
 try dsimp only[bK,b6]
 refine fL (fun m σ H'=>m=t0+1/\ax H1 H'/\∃body:Str,body.length=12/\Lt body/\σ= [some (.int c),some (.str qc),J9 l,some (.str body),none,none,none,none,none]) (fun N hN=>?_) ?_
 ·refine ⟨rfl,ν,ν,l,ν,aI.of e1,fun p hp=>?_⟩
  have cl:(dQ (xs.map V.int) none (some 12)).length=12:=by
   have e0:HT.du (xs.map V.int).length 0 none=0:=rfl;have e2:HT.du (xs.map V.int).length (xs.map V.int).length (some 12)=12:=by
    unfold HT.du;rw[F7];simp;omega
   unfold dQ;rw[e0,e2,GA,G6,F7]
   lia
  have g0:=ah hp (.lst (dQ (xs.map V.int) none (some 12)));refine ⟨p,rfl,⟨_,aI.of ac⟩,vc (xs:=dQ (xs.map V.int) none (some 12)) (fun _ y=>∃z:Str,y= .str z/\z.length=1/\Lt z) (aI.of ac) (by lia) (fun x hx H3 g3 Q' hQ=>?_) (fun p2 ys H' np hl ht g' e'=>?_)⟩
  ·obtain ⟨v,rfl⟩:∃v:Int,x= .int v:=by
    have m:=hx;unfold dQ at m;have m:=List.mem_of_mem_drop (List.mem_of_mem_take m);obtain ⟨c,_,e⟩:=FE.mp m;exact ⟨c,e.symm⟩
   have ha:=rE (FP v (show (0:Int)<26 by decide)) (Fo v (show (0:Int)<26 by decide))
   exact ⟨ν,ν,ω,(by show (26:Int)≠0;decide),qc,ω,by decide,ha,hQ _ _ ⟨ν,rfl,Lt.one (by have h1:=FP v (show (0:Int)<26 by decide);have h2:=Fo v (show (0:Int)<26 by decide);lia)⟩ (.refl _)⟩
  ·obtain ⟨ws,rfl,hw,hwl⟩:=lL (ys:=ys) fun y hy=>by
    obtain ⟨i,hi⟩:=Ft.mp hy;have il:=(FL.mp hi).1;exact ht i _ y (F6 (by lia)) hi
   rw[F7] at hl;refine ⟨_,p2,ws,rfl,rfl,aI.of e',by decide,by lia,hN _ _ _ ⟨rfl,g0.trans g',_,?_,Lt.tjoin hwl,rfl⟩⟩
   rw[iK];show _+(ws.length-1)*0=12
   lia
 rintro m σ H2 ⟨rfl,g2,body,bl,bL,rfl⟩;have e2:=g2 _ _ e1;have bz:body.length<=sizeLine:=by lia
 refine ⟨ν,l,_,ω,aI.of e2,h12,ω,(by show (12:Int)≠0;decide),ω,?_⟩
 have z0:=FP x12 (show (0:Int)<12 by decide)
 have z1:=Fo x12 (show (0:Int)<12 by decide)
 refine ⟨ν,l,_,ω,aI.of e2,h13,ν,ω,by lia,?_⟩
 refine ⟨by show 0<=sizeLine;decide,fun ls ns=>?_⟩
 have g3:=g2.trans (ah ns (.lst []));try dsimp only[bK,b6]
 obtain ⟨nmA,enA⟩:∃g:Nat->Str,g=fun k:Nat=>iF body none (some (x13.fmod (1+x12.fmod 12)))++(⟨#[97+((x13.fdiv 12+5*(0+(k:Int))).fmod 26).toNat]⟩:Str)++iF body (some (x13.fmod (1+x12.fmod 12)+1)) (some (1+x12.fmod 12)):=⟨_,rfl⟩
 have c1:=FH (fX body none (some (x13.fmod (1+x12.fmod 12)))) (Nat.le_of_eq bl);have c2:=FH (fX body (some (x13.fmod (1+x12.fmod 12)+1)) (some (1+x12.fmod 12))) (Nat.le_of_eq bl);have one:∀c:Nat,(⟨#[c]⟩:Str).length=1:=fun _=>rfl
 have a0:=FP x13 (show (0:Int)<1+x12.fmod 12 by lia)
 have a1:=Fo x13 (show (0:Int)<1+x12.fmod 12 by lia)
 have ne1:(iF body none (some (x13.fmod (1+x12.fmod 12)))).length≠body.length:=by rw[rF a0,bl];lia
 have ne2:(iF body (some (x13.fmod (1+x12.fmod 12)+1)) (some (1+x12.fmod 12))).length≠body.length:=by rw[og (by lia) (by lia),bl];lia
 refine fL (fun m σ H'=>t0+1<=m/\ax H1 H'/\(∃zs:List (Str×Nat),H' ls=some (.lst (kF zs))/\zs.map (·.1)=(FI 14).map nmA/\∀p∈zs,0<p.2/\p.2<m)/\∃o7 o8:Option V,σ= [some (.int c),some (.str qc),J9 l,some (.str body),some (.int (1+x12.fmod 12)),some (.int (x13.fmod (1+x12.fmod 12))),J9 ls,o7,o8]) (fun N hN=>?_) ?_
 ·refine ⟨14,rfl,by decide,by decide,qy (n:=14) (fun i m σ H'=>t0+1<=m/\ax H1 H'/\(∃zs:List (Str×Nat),H' ls=some (.lst (kF zs))/\zs.map (·.1)=(FI i).map nmA/\∀p∈zs,0<p.2/\p.2<m)/\∃o7 o8:Option V,σ= [some (.int c),some (.str qc),J9 l,some (.str body),some (.int (1+x12.fmod 12)),some (.int (x13.fmod (1+x12.fmod 12))),J9 ls,o7,o8]) ⟨F5 _,g3,⟨[],ac,rfl,fun p hp=>nomatch hp⟩,none,none,rfl⟩ (fun i m σ H4 hi hP=>?_) (fun m σ H4 hP=>hN _ _ _ hP)⟩
  obtain ⟨lm,g4,⟨zs,els,ez,tz⟩,o7,o8,rfl⟩:=hP;have ha:=rE (FP (x13.fdiv 12+5*(0+(i:Int))) (show (0:Int)<26 by decide)) (Fo (x13.fdiv 12+5*(0+(i:Int))) (show (0:Int)<26 by decide))
  refine ⟨ν,ν,l,_,ω,aI.of (g4 _ _ e1),h13,ω,⟨by decide,PyProof.noPylong_small (by decide)⟩,ν,ω,IntMulOk.of_left (by decide),ω,ω,(by show (26:Int)≠0;decide),qc,ω,by decide,ha,fun k1 hk1=>?_⟩
  have lz:zs.length=i:=by have:=congrArg List.length ez;simpa using this
  refine ⟨ν,.inl ⟨rfl,_,aI.of els⟩,ν,ν,ν,body,rfl,bz,ne1,fun k2 hk2=>⟨ν,_,_,ω,by rw[one];lia,by lia,by lia,by lia,by lia,by lia,fun n3 k3 h3 p3 l3=>⟨ν,ν,ω,ν,ν,ν,body,rfl,bz,ne2,fun k4 hk4=>⟨_,_,ω,by rw[Str.length_append,one];lia,by lia,by lia,by lia,by lia,by lia,fun n5 k5 h5 p5 l5=>⟨ls,ω,els,(by simp[kF];lia),?_⟩⟩⟩⟩⟩
  refine ⟨by lia,ja g4 (g2.free ns) _,⟨zs++ [(nmA i,k5)],?_,?_,fun p hp=>?_⟩,_,ν⟩
  ·rw[ac];unfold kF;rw[FF,enA]
   rfl
  ·rw[FF,ez,GZ,FF]
   rfl
  ·rcases FM.mp hp with hp|hp
   ·have:=tz p hp
    lia
   ·rw[FA.mp hp];exact ⟨p5,l5⟩
 rintro m σ H4 ⟨lm,g4,⟨zs,els,ez,tz⟩,o7,o8,rfl⟩
 suffices zf:Zf (zs.map (·.1)) from ⟨_,rfl,q m ls zs H4 (by lia) (g1.trans g4) els zf tz⟩
 rw[ez];refine ⟨by simp,vy fun i j hi hj he=>?_,fun z hz=>?_⟩
 rotate_left
 ·obtain ⟨i,_,rfl⟩:=FE.mp hz;rw[enA];have a0:=FP x13 (show (0:Int)<1+x12.fmod 12 by lia)
  have a1:=Fo x13 (show (0:Int)<1+x12.fmod 12 by lia)
  have n1:=FP (x13.fdiv 12+5*(0+(i:Int))) (show (0:Int)<26 by decide)
  have n2:=Fo (x13.fdiv 12+5*(0+(i:Int))) (show (0:Int)<26 by decide)
  refine (((bL.cut _ _).app (Lt.one (by lia))).app (bL.cut _ _)).nm ?_ ?_
  ·rw[Str.length_append,Str.length_append,one];lia
  ·rw[Str.length_append,Str.length_append,one,rF a0,og (by lia) (by lia),bl];lia
 rw[enA] at he;have he':=congrArg sL he;rw[a8,a8,a8,a8,pW,pW,aT,aT,GE,GE] at he';have h1:=List.append_cancel_left he';have h2:97+((x13.fdiv 12+5*(0+(i:Int))).fmod 26).toNat=97+((x13.fdiv 12+5*(0+(j:Int))).fmod 26).toNat:=by
  injection h1
 have n1:=FP (x13.fdiv 12+5*(0+(i:Int))) (show (0:Int)<26 by decide)
 have n2:=FP (x13.fdiv 12+5*(0+(j:Int))) (show (0:Int)<26 by decide)
 have h3:(x13.fdiv 12+5*(0+(i:Int))).fmod 26=(x13.fdiv 12+5*(0+(j:Int))).fmod 26:=by lia
 rw[Int.fmod_eq_emod_of_nonneg _ (by decide),Int.fmod_eq_emod_of_nonneg _ (by decide)] at h3
 generalize x13.fdiv 12=X at h3
 lia
theorem CU {dV:Value} (F:a6 K "_law_refusal" "_law_refusal" AU dV f fd) (XZ32:Dx P w K mg base (d0 P w) 11 "read_recipe" ["text"] [] (mV Gh Ge Gd Gb Gc Ga on mt)) (HZ34:∀hd,BK hd P w K mg base 1 "_law_whole" ["_law_found"] gF):aY P w K mg base bu 12 f fd ["_law_thing"] gU:=by
 have sc:aB ["_law_thing","e","_law_some"] ["_law_thing"] (aq AU):=dC (by decide+kernel)
 and_intros
 ·obtain ⟨_,_,rfl,_⟩:=h
  rfl
 obtain ⟨h,rws,rfl,hg,rg,l1000,q⟩:=h;refine ⟨_,(ag (uI rfl rfl (fun pins E=>(ai (bi (b3 XZ32 hr (by decide) rfl bP ((pv 0)<*>af))))) (zu B.IR rfl B.IV sc.nd (i:=1) rfl rfl (fun pins a=>(ag (aO (PW.pt (cY (cX (aU (cQ (K:=K) rfl) rfl B.Gi boot_isinstance ((pv 1)<*>((bY (v:=V.ref Gg) rfl B.Hy rfl)<*>af)))) (cY (cX (aU (cQ (K:=K) rfl) rfl B.Gi boot_isinstance ((pv 1)<*>((bY (v:=V.ref Gr) rfl B.Jr rfl)<*>af)))) (cO (cX (aU (cQ (K:=K) rfl) rfl B.Gi boot_isinstance ((pv 1)<*>((bY (v:=V.ref Gm) rfl B.Jh rfl)<*>af)))))))) (ai (ay (@bM _ _ _ _ _ (ao<*>((jo fS ae)<*>af))))) aC) (ag (cU 2 sc (@bw _ _ _ _ ((aU (cQ (K:=K) rfl) rfl B.Gi boot_isinstance ((pv 1)<*>((bY (v:=V.ref Gc) rfl B.Iy rfl)<*>af)))<*>((aU (cQ (K:=K) rfl) rfl B.Gi boot_isinstance ((pv 1)<*>((bY (v:=V.ref on) rfl B.IE rfl)<*>af)))<*>((aU (cQ (K:=K) rfl) rfl B.Gi boot_isinstance ((pv 1)<*>((bY (v:=V.ref Ga) rfl B.IU rfl)<*>af)))<*>((aU (cQ (K:=K) rfl) rfl B.Gi boot_isinstance ((pv 1)<*>((bY (v:=V.ref mt) rfl B.IP rfl)<*>af)))<*>af)))))) (ag (aO (PW.pt (cY (aw jT (vY (K:=K) rfl FY PySem.F.slot_list_count PySem.F.type_list_count (tM (K:=K) rfl) (pv 2) (kU<*>af)) ae (aE _)) (cO (fR (cX (aU (cQ (K:=K) rfl) rfl B.Gi boot_isinstance ((pv 1)<*>((eE (v:= .ty "ValueError") rfl B.Ja PyProof.Rows.Boot.«ValueError» rfl)<*>af)))))))) (ai (ay (@bM _ _ _ _ _ (ao<*>((jo fS ae)<*>af))))) aC) (ag (aO (cX (av (f7 (K:=K) rfl) (pv 2) ae (fun _ _=>rfl))) (ai (ay (@bM _ _ _ _ _ (ao<*>((jo fS ae)<*>af))))) aC) (ag (aO (fR (cX (zy (j:=11) (HZ34 (some (.ref a))) (hr.suite _) (by decide) rfl ((qV (K:=K) rfl (pv 1) rfl)<*>af)))) (ai (ay (@bM _ _ _ _ _ (ao<*>((jo fS ae)<*>af))))) aC) (ai (ay (@bM _ _ _ _ _ ((av (f7 (K:=K) rfl) (@bw _ _ _ _ (ao<*>(ao<*>(ao<*>af)))) (vY (K:=K) rfl FY PySem.F.slot_list_index PySem.F.type_list_index (tN (K:=K) rfl) (pv 2) (kU<*>af)) (fun _ _=>rfl))<*>((qV (K:=K) rfl (pv 1) rfl)<*>af))))))))))) uJ)) (ai (ay (@bM _ _ _ _ _ (ao<*>((jo fS ae)<*>af)))))),?_⟩
 try dsimp only[cxK]
 have sl:sizeLine=16777216:=sizeLine_eq;refine cut (fun σ H'=>∃o1 o2,σ= [some (.str (Txt.join fC (hdT h::rws.map c7))),o1,o2]/\ax H H'/\kQ h rws=(Str.ofString "none",(-1:Int))) (fun N hN=>?_) ?_
 ·refine ⟨ν,h,rws,rfl,hg,rg,l1000,fun hb=>?_,fun n p hh=>⟨fun e he=>?_,fun M hM r lt ls lk ks H' rm=>hN _ _ ⟨none,none,rfl,rm.fr,?_⟩⟩⟩
  ·obtain ⟨z,rfl⟩:=hb;have eo:kQ (.bad z) rws=(Str.ofString "row",(0:Int)):=rfl;intro d H9 g9 ed;intro xa nxa;have ga:=ah nxa (dW xa (.ref Gc) (some d));have e9:aL H9 xa (dW xa (.ref Gc) (some d)) xa=some (dW xa (.ref Gc) (some d)):=ac;have ed9:=ga _ _ ed;have g9a:=g9.trans ga;refine ⟨Gc,true,rfl,B.Hu,fU ?_⟩;generalize aL H9 xa (dW xa (.ref Gc) (some d))=H8 at ga e9 g9a ed9⊢;refine ⟨ν,xa,_,(some d),_,false,rfl,⟨_,(ax.refl _) _ _ e9⟩,⟨_,(ax.refl _) _ _ ed9⟩,B.Gp,.own B.Hx,ν,cg ⟨ν,xa,_,(some d),_,false,rfl,⟨_,(ax.refl _) _ _ e9⟩,⟨_,(ax.refl _) _ _ ed9⟩,B.Gp,.own B.HE,ν,cg ⟨ν,xa,_,(some d),_,false,rfl,⟨_,(ax.refl _) _ _ e9⟩,⟨_,(ax.refl _) _ _ ed9⟩,B.Gp,.own B.Hw,ν,cg ?_⟩⟩⟩;refine ⟨ν,xa,_,(some d),_,true,rfl,⟨_,(ax.refl _) _ _ e9⟩,⟨_,(ax.refl _) _ _ ed9⟩,B.Gp,.own B.HP,ν,xa,_,(some d),_,false,rfl,⟨_,(ax.refl _) _ _ e9⟩,⟨_,(ax.refl _) _ _ ed9⟩,B.Gp,.own B.HD,ν,xa,_,(some d),_,false,rfl,⟨_,(ax.refl _) _ _ e9⟩,⟨_,(ax.refl _) _ _ ed9⟩,B.Gp,.own B.HN,ν,xa,_,(some d),_,false,rfl,⟨_,(ax.refl _) _ _ e9⟩,⟨_,(ax.refl _) _ _ ed9⟩,B.Gp,.own B.HA,by show 4<=sizeLine;decide,fun l nl=>?_⟩
   have gl:=ah nl (.lst [.bl true,.bl false,.bl false,.bl false]);have el:aL H8 l (.lst [.bl true,.bl false,.bl false,.bl false]) l=some (.lst [.bl true,.bl false,.bl false,.bl false]):=ac;have g8:=g9a.trans gl;dsimp only[bK,b6];generalize aL H8 l (.lst [.bl true,.bl false,.bl false,.bl false])=H7 at gl el g8⊢;refine ⟨ν,.inl ⟨rfl,_,aI.of el⟩,l,[true,false,false,false],rfl,rfl,aI.of el,rfl,ν,nF rfl ⟨ν,xa,_,(some d),_,true,rfl,⟨_,gl _ _ e9⟩,⟨_,gl _ _ ed9⟩,B.Gp,.ty B.Hv,ν,cg ?_⟩⟩;refine ⟨ν,l,_,ω,aI.of el,rfl,ν,cg ?_⟩;refine ⟨ν,xa,_,d,_,_,ν,gl _ _ e9,gl _ _ ed9,⟨B.Gp.gg,B.Id.dct,B.HX⟩,rfl,0,rfl,true,rfl,cg ?_⟩;refine ⟨by show 3<=sizeLine;decide,fun l2 nl2=>?_⟩
   have g2:=ah nl2 (.lst [.str "row",.str "step",.str "twice"]);have el2:=g2 _ _ el;have e2:aL H7 l2 (.lst [.str "row",.str "step",.str "twice"]) l2=some (.lst [.str "row",.str "step",.str "twice"]):=ac;have e99:=g2 _ _ (gl _ _ e9);have ed99:=g2 _ _ (gl _ _ ed9);have g6:=g8.trans g2;generalize aL H7 l2 (.lst [.str "row",.str "step",.str "twice"])=H6 at g2 el2 e2 e99 ed99 g6⊢;refine ⟨ν,.inl ⟨rfl,_,aI.of el2⟩,l,[true,false,false,false],0,rfl,rfl,aI.of el2,by decide,rfl,by decide,l2,_,ω,aI.of e2,rfl,ν,xa,_,d,_,_,ν,e99,ed99,⟨B.Gp.gg,B.Id.dct,B.HX⟩,rfl,by show 2<=sizeLine;decide,fun t nt=>?_⟩
   exact q t _ (g6.trans (ah nt _)) (by rw[ac,eo];try rfl)
  ·have eo:kQ h rws=outF e:=by
    subst hh;show (match c6 ⟨[],[],[]⟩ 1 rws with| .ok _=>_| .error e=>outF e)=_
    rw[he]
   cases e with
   |row i=>
    intro d H9 g9 ed;intro xa nxa;have ga:=ah nxa (dW xa (.ref Gc) (some d));have e9:aL H9 xa (dW xa (.ref Gc) (some d)) xa=some (dW xa (.ref Gc) (some d)):=ac;have ed9:=ga _ _ ed;have g9a:=g9.trans ga;refine ⟨Gc,true,rfl,B.Hu,fU ?_⟩;generalize aL H9 xa (dW xa (.ref Gc) (some d))=H8 at ga e9 g9a ed9⊢;refine ⟨ν,xa,_,(some d),_,false,rfl,⟨_,(ax.refl _) _ _ e9⟩,⟨_,(ax.refl _) _ _ ed9⟩,B.Gp,.own B.Hx,ν,cg ⟨ν,xa,_,(some d),_,false,rfl,⟨_,(ax.refl _) _ _ e9⟩,⟨_,(ax.refl _) _ _ ed9⟩,B.Gp,.own B.HE,ν,cg ⟨ν,xa,_,(some d),_,false,rfl,⟨_,(ax.refl _) _ _ e9⟩,⟨_,(ax.refl _) _ _ ed9⟩,B.Gp,.own B.Hw,ν,cg ?_⟩⟩⟩;refine ⟨ν,xa,_,(some d),_,true,rfl,⟨_,(ax.refl _) _ _ e9⟩,⟨_,(ax.refl _) _ _ ed9⟩,B.Gp,.own B.HP,ν,xa,_,(some d),_,false,rfl,⟨_,(ax.refl _) _ _ e9⟩,⟨_,(ax.refl _) _ _ ed9⟩,B.Gp,.own B.HD,ν,xa,_,(some d),_,false,rfl,⟨_,(ax.refl _) _ _ e9⟩,⟨_,(ax.refl _) _ _ ed9⟩,B.Gp,.own B.HN,ν,xa,_,(some d),_,false,rfl,⟨_,(ax.refl _) _ _ e9⟩,⟨_,(ax.refl _) _ _ ed9⟩,B.Gp,.own B.HA,by show 4<=sizeLine;decide,fun l nl=>?_⟩
    have gl:=ah nl (.lst [.bl true,.bl false,.bl false,.bl false]);have el:aL H8 l (.lst [.bl true,.bl false,.bl false,.bl false]) l=some (.lst [.bl true,.bl false,.bl false,.bl false]):=ac;have g8:=g9a.trans gl;dsimp only[bK,b6];generalize aL H8 l (.lst [.bl true,.bl false,.bl false,.bl false])=H7 at gl el g8⊢;refine ⟨ν,.inl ⟨rfl,_,aI.of el⟩,l,[true,false,false,false],rfl,rfl,aI.of el,rfl,ν,nF rfl ⟨ν,xa,_,(some d),_,true,rfl,⟨_,gl _ _ e9⟩,⟨_,gl _ _ ed9⟩,B.Gp,.ty B.Hv,ν,cg ?_⟩⟩;refine ⟨ν,l,_,ω,aI.of el,rfl,ν,cg ?_⟩;refine ⟨ν,xa,_,d,_,_,ν,gl _ _ e9,gl _ _ ed9,⟨B.Gp.gg,B.Id.dct,B.HX⟩,rfl,(i:Int),rfl,true,rfl,cg ?_⟩;refine ⟨by show 3<=sizeLine;decide,fun l2 nl2=>?_⟩
    have g2:=ah nl2 (.lst [.str "row",.str "step",.str "twice"]);have el2:=g2 _ _ el;have e2:aL H7 l2 (.lst [.str "row",.str "step",.str "twice"]) l2=some (.lst [.str "row",.str "step",.str "twice"]):=ac;have e99:=g2 _ _ (gl _ _ e9);have ed99:=g2 _ _ (gl _ _ ed9);have g6:=g8.trans g2;generalize aL H7 l2 (.lst [.str "row",.str "step",.str "twice"])=H6 at g2 el2 e2 e99 ed99 g6⊢;refine ⟨ν,.inl ⟨rfl,_,aI.of el2⟩,l,[true,false,false,false],0,rfl,rfl,aI.of el2,by decide,rfl,by decide,l2,_,ω,aI.of e2,rfl,ν,xa,_,d,_,_,ν,e99,ed99,⟨B.Gp.gg,B.Id.dct,B.HX⟩,rfl,by show 2<=sizeLine;decide,fun t nt=>?_⟩
    exact q t _ (g6.trans (ah nt _)) (by rw[ac,eo];try rfl)
   |flt f i=>
    cases f with
    |twice=>
     intro d H9 g9 ed;intro xa nxa;have ga:=ah nxa (dW xa (.ref Ga) (some d));have e9:aL H9 xa (dW xa (.ref Ga) (some d)) xa=some (dW xa (.ref Ga) (some d)):=ac;have ed9:=ga _ _ ed;have g9a:=g9.trans ga;refine ⟨Ga,true,rfl,B.HS,fU ?_⟩;generalize aL H9 xa (dW xa (.ref Ga) (some d))=H8 at ga e9 g9a ed9⊢;refine ⟨ν,xa,_,(some d),_,false,rfl,⟨_,(ax.refl _) _ _ e9⟩,⟨_,(ax.refl _) _ _ ed9⟩,B.Hr,.own B.Ih,ν,cg ⟨ν,xa,_,(some d),_,false,rfl,⟨_,(ax.refl _) _ _ e9⟩,⟨_,(ax.refl _) _ _ ed9⟩,B.Hr,.own B.IG,ν,cg ⟨ν,xa,_,(some d),_,false,rfl,⟨_,(ax.refl _) _ _ e9⟩,⟨_,(ax.refl _) _ _ ed9⟩,B.Hr,.own B.Ig,ν,cg ?_⟩⟩⟩;refine ⟨ν,xa,_,(some d),_,false,rfl,⟨_,(ax.refl _) _ _ e9⟩,⟨_,(ax.refl _) _ _ ed9⟩,B.Hr,.own B.IO,ν,xa,_,(some d),_,false,rfl,⟨_,(ax.refl _) _ _ e9⟩,⟨_,(ax.refl _) _ _ ed9⟩,B.Hr,.own B.IF,ν,xa,_,(some d),_,true,rfl,⟨_,(ax.refl _) _ _ e9⟩,⟨_,(ax.refl _) _ _ ed9⟩,B.Hr,.own B.IN,ν,xa,_,(some d),_,false,rfl,⟨_,(ax.refl _) _ _ e9⟩,⟨_,(ax.refl _) _ _ ed9⟩,B.Hr,.own B.Ir,by show 4<=sizeLine;decide,fun l nl=>?_⟩
     have gl:=ah nl (.lst [.bl false,.bl false,.bl true,.bl false]);have el:aL H8 l (.lst [.bl false,.bl false,.bl true,.bl false]) l=some (.lst [.bl false,.bl false,.bl true,.bl false]):=ac;have g8:=g9a.trans gl;dsimp only[bK,b6];generalize aL H8 l (.lst [.bl false,.bl false,.bl true,.bl false])=H7 at gl el g8⊢;refine ⟨ν,.inl ⟨rfl,_,aI.of el⟩,l,[false,false,true,false],rfl,rfl,aI.of el,rfl,ν,nF rfl ⟨ν,xa,_,(some d),_,true,rfl,⟨_,gl _ _ e9⟩,⟨_,gl _ _ ed9⟩,B.Hr,.ty B.HU,ν,cg ?_⟩⟩;refine ⟨ν,l,_,ω,aI.of el,rfl,ν,cg ?_⟩;refine ⟨ν,xa,_,d,_,_,ν,gl _ _ e9,gl _ _ ed9,⟨B.Hr.gg,B.Jb.dct,B.IT⟩,rfl,(i:Int),rfl,true,rfl,cg ?_⟩;refine ⟨by show 3<=sizeLine;decide,fun l2 nl2=>?_⟩
     have g2:=ah nl2 (.lst [.str "row",.str "step",.str "twice"]);have el2:=g2 _ _ el;have e2:aL H7 l2 (.lst [.str "row",.str "step",.str "twice"]) l2=some (.lst [.str "row",.str "step",.str "twice"]):=ac;have e99:=g2 _ _ (gl _ _ e9);have ed99:=g2 _ _ (gl _ _ ed9);have g6:=g8.trans g2;generalize aL H7 l2 (.lst [.str "row",.str "step",.str "twice"])=H6 at g2 el2 e2 e99 ed99 g6⊢;refine ⟨ν,.inl ⟨rfl,_,aI.of el2⟩,l,[false,false,true,false],2,rfl,rfl,aI.of el2,by decide,rfl,by decide,l2,_,ω,aI.of e2,rfl,ν,xa,_,d,_,_,ν,e99,ed99,⟨B.Hr.gg,B.Jb.dct,B.IT⟩,rfl,by show 2<=sizeLine;decide,fun t nt=>?_⟩
     exact q t _ (g6.trans (ah nt _)) (by rw[ac,eo];try rfl)
    |nostep=>
     intro d H9 g9 ed;intro xa nxa;have ga:=ah nxa (dW xa (.ref on) (some d));have e9:aL H9 xa (dW xa (.ref on) (some d)) xa=some (dW xa (.ref on) (some d)):=ac;have ed9:=ga _ _ ed;have g9a:=g9.trans ga;refine ⟨on,true,rfl,B.HJ,fU ?_⟩;generalize aL H9 xa (dW xa (.ref on) (some d))=H8 at ga e9 g9a ed9⊢;refine ⟨ν,xa,_,(some d),_,false,rfl,⟨_,(ax.refl _) _ _ e9⟩,⟨_,(ax.refl _) _ _ ed9⟩,B.Hh,.own B.Ib,ν,cg ⟨ν,xa,_,(some d),_,false,rfl,⟨_,(ax.refl _) _ _ e9⟩,⟨_,(ax.refl _) _ _ ed9⟩,B.Hh,.own B.Ix,ν,cg ⟨ν,xa,_,(some d),_,false,rfl,⟨_,(ax.refl _) _ _ e9⟩,⟨_,(ax.refl _) _ _ ed9⟩,B.Hh,.own B.Ia,ν,cg ?_⟩⟩⟩;refine ⟨ν,xa,_,(some d),_,false,rfl,⟨_,(ax.refl _) _ _ e9⟩,⟨_,(ax.refl _) _ _ ed9⟩,B.Hh,.own B.II,ν,xa,_,(some d),_,true,rfl,⟨_,(ax.refl _) _ _ e9⟩,⟨_,(ax.refl _) _ _ ed9⟩,B.Hh,.own B.Iw,ν,xa,_,(some d),_,false,rfl,⟨_,(ax.refl _) _ _ e9⟩,⟨_,(ax.refl _) _ _ ed9⟩,B.Hh,.own B.IH,ν,xa,_,(some d),_,false,rfl,⟨_,(ax.refl _) _ _ e9⟩,⟨_,(ax.refl _) _ _ ed9⟩,B.Hh,.own B.Ik,by show 4<=sizeLine;decide,fun l nl=>?_⟩
     have gl:=ah nl (.lst [.bl false,.bl true,.bl false,.bl false]);have el:aL H8 l (.lst [.bl false,.bl true,.bl false,.bl false]) l=some (.lst [.bl false,.bl true,.bl false,.bl false]):=ac;have g8:=g9a.trans gl;dsimp only[bK,b6];generalize aL H8 l (.lst [.bl false,.bl true,.bl false,.bl false])=H7 at gl el g8⊢;refine ⟨ν,.inl ⟨rfl,_,aI.of el⟩,l,[false,true,false,false],rfl,rfl,aI.of el,rfl,ν,nF rfl ⟨ν,xa,_,(some d),_,true,rfl,⟨_,gl _ _ e9⟩,⟨_,gl _ _ ed9⟩,B.Hh,.ty B.HL,ν,cg ?_⟩⟩;refine ⟨ν,l,_,ω,aI.of el,rfl,ν,cg ?_⟩;refine ⟨ν,xa,_,d,_,_,ν,gl _ _ e9,gl _ _ ed9,⟨B.Hh.gg,B.IL.dct,B.ID⟩,rfl,(i:Int),rfl,true,rfl,cg ?_⟩;refine ⟨by show 3<=sizeLine;decide,fun l2 nl2=>?_⟩
     have g2:=ah nl2 (.lst [.str "row",.str "step",.str "twice"]);have el2:=g2 _ _ el;have e2:aL H7 l2 (.lst [.str "row",.str "step",.str "twice"]) l2=some (.lst [.str "row",.str "step",.str "twice"]):=ac;have e99:=g2 _ _ (gl _ _ e9);have ed99:=g2 _ _ (gl _ _ ed9);have g6:=g8.trans g2;generalize aL H7 l2 (.lst [.str "row",.str "step",.str "twice"])=H6 at g2 el2 e2 e99 ed99 g6⊢;refine ⟨ν,.inl ⟨rfl,_,aI.of el2⟩,l,[false,true,false,false],1,rfl,rfl,aI.of el2,by decide,rfl,by decide,l2,_,ω,aI.of e2,rfl,ν,xa,_,d,_,_,ν,e99,ed99,⟨B.Hh.gg,B.IL.dct,B.ID⟩,rfl,by show 2<=sizeLine;decide,fun t nt=>?_⟩
     exact q t _ (g6.trans (ah nt _)) (by rw[ac,eo];try rfl)
    |full=>
     intro H9 g9;intro xa nxa;have ga:=ah nxa (dW xa (.ref mt) none);have e9:aL H9 xa (dW xa (.ref mt) none) xa=some (dW xa (.ref mt) none):=ac;have g9a:=g9.trans ga;refine ⟨mt,true,rfl,B.HB,fU ?_⟩;generalize aL H9 xa (dW xa (.ref mt) none)=H8 at ga e9 g9a⊢;refine ⟨ν,xa,_,none,_,false,rfl,⟨_,(ax.refl _) _ _ e9⟩,trivial,B.Hq,.own B.HW,ν,cg ⟨ν,xa,_,none,_,false,rfl,⟨_,(ax.refl _) _ _ e9⟩,trivial,B.Hq,.own B.Ij,ν,cg ⟨ν,xa,_,none,_,false,rfl,⟨_,(ax.refl _) _ _ e9⟩,trivial,B.Hq,.own B.HV,ν,cg ?_⟩⟩⟩;refine ⟨ν,xa,_,none,_,false,rfl,⟨_,(ax.refl _) _ _ e9⟩,trivial,B.Hq,.own B.Iv,ν,xa,_,none,_,false,rfl,⟨_,(ax.refl _) _ _ e9⟩,trivial,B.Hq,.own B.Ii,ν,xa,_,none,_,false,rfl,⟨_,(ax.refl _) _ _ e9⟩,trivial,B.Hq,.own B.Iu,ν,xa,_,none,_,true,rfl,⟨_,(ax.refl _) _ _ e9⟩,trivial,B.Hq,.own B.HZ,by show 4<=sizeLine;decide,fun l nl=>?_⟩
     have gl:=ah nl (.lst [.bl false,.bl false,.bl false,.bl true]);have el:aL H8 l (.lst [.bl false,.bl false,.bl false,.bl true]) l=some (.lst [.bl false,.bl false,.bl false,.bl true]):=ac;have g8:=g9a.trans gl;dsimp only[bK,b6];generalize aL H8 l (.lst [.bl false,.bl false,.bl false,.bl true])=H7 at gl el g8⊢;refine ⟨ν,.inl ⟨rfl,_,aI.of el⟩,l,[false,false,false,true],rfl,rfl,aI.of el,rfl,ν,nF rfl ⟨ν,xa,_,none,_,true,rfl,⟨_,gl _ _ e9⟩,trivial,B.Hq,.ty B.HC,ν,cg ?_⟩⟩;refine ⟨ν,l,_,ω,aI.of el,rfl,ν,fU ⟨ν,by show 2<=sizeLine;decide,fun t nt=>?_⟩⟩
     exact q t _ (g8.trans (ah nt _)) (by rw[ac,eo];try rfl)
  ·subst hh;show (match c6 ⟨[],[],[]⟩ 1 rws with| .ok _=>_| .error e=>outF e)=_
   rw[hM]
 rintro σ H1 ⟨o1,o2,rfl,g1,eo⟩;exact ⟨ν,by show 2<=sizeLine;decide,fun t nt=>q t _ (g1.trans (ah nt _)) (by rw[ac,eo];try rfl)⟩
theorem CV {dV:Value} (F:a6 K "_law_steps" "_law_steps" AV dV f fd):aY P w K mg base bu 1 f fd ["_law_names_here","_law_many"] kC:=by
 have sc:aB ["_law_names_here","_law_many"] ["_law_names_here","_law_many"] (aq AV):=dC (by decide+kernel)
 and_intros
 ·obtain ⟨_,_,_,rfl,_⟩:=h
  rfl
 obtain ⟨ln,zs,m,rfl,en,mz,m14,nm,q⟩:=h;refine ⟨_,(ai (ay (fW (hd:=none) (own:= "_law_k") (ys:= ["_law_names_here"]) (js:= [0]) hr.hd (tj (wB qX) (.cons rfl .nil) (by decide) rfl rfl rfl rfl rfl rfl rfl rfl) (eW rfl B.Hz ((pv 1)<*>af)) (fun C fp s H=>(au aj (au aj (au aj ao (av (f7 (K:=K) rfl) (pv 1) (pv 0) (fun _ _=>rfl))) ao) (bx b9 rfl B.HF boot_str ((au cw ae (pv 0))<*>af))))))),?_⟩
 try dsimp only[cxK]
 have sl:sizeLine=16777216:=sizeLine_eq;have l5:(Str.ofString "rest ").length=5:=by decide
 have l3:(Str.ofString " 2 ").length=3:=by decide
 refine ⟨ν,ν,by lia,by lia,?_⟩
 refine iD (n:=m) (fun i y=>y= .str (bD (ic zs i))) i8.no (by lia) (fun i hi H3 g3 Q' hQ=>?_) (fun p ys H' np hl ht g' e'=>?_)
 ·have iz:i<zs.length:=by lia
  have hz:=F6 iz;have nz:=(nm _ (List.getElem_mem iz)).len;have az:=b7 hz;have ez:=b8 hz;generalize zs[i]=z at hz nz az ez;have lp:=fh (n:=3+i) (by lia)
  refine ⟨ν,ν,ln,_,_,.str z,rfl,rfl,aI.of (g3 _ _ en),(by rw[show (0:Int)+(i:Int)=(i:Int) by lia];exact az),ω,by lia,ω,by rw[Str.length_append];lia,ν,ω,ν,gW (n:=3+i) (by lia) (by lia),?_⟩
  rw[fH (n:=3+i) (by lia)]
  refine ⟨ω,by rw[Str.length_append,Str.length_append];lia,?_⟩
  rw[vZ];exact hQ _ _ (by unfold ic;rw[ez]) (.refl _)
 ·have ey:=f8 (g:=fun k=>bD (ic zs k)) hl fun i y hy=>ht i y hy
  rw[ey] at e';exact q p _ g' np e'
theorem CW {dV:Value} (F:a6 K "_law_ahead" "_law_ahead" AW dV f fd) (DZ38:Dx P w K mg base bu 1 "_law_steps" ["_law_names_here","_law_many"] [] kC):aY P w K mg base bu 2 f fd ["_law_names_here","_law_sort"] kD:=by
 have sc:aB ["_law_names_here","_law_sort","_law_rows","_law_word"] ["_law_names_here","_law_sort"] (aq AW):=dC (by decide+kernel)
 and_intros
 ·obtain ⟨_,_,_,rfl,_⟩:=h
  rfl
 obtain ⟨ln,zs,sort,rfl,en,zz,s5,q⟩:=h;refine ⟨_,(ag (cU 2 sc (@bw _ _ _ _ ((au aj (au aj ao (av ak (pv 0) ae (fun _ _=>rfl))) ao)<*>af))) (ag (aO (PW.pt (cY (aw bv (pv 1) ae (aE _)) (cO (aw bv (pv 1) ae (aE _))))) (ag (pE (i:=3) sc.nd rfl (Or.inr rfl) (av ak (@bw _ _ _ _ (ao<*>(ao<*>af))) (au pG (pv 1) ae) (fun _ _=>rfl))) (ag (cU 2 sc (au fu (pv 2) (@bw _ _ _ _ ((au aj (au aj ao (av ak (pv 0) ae (fun _ _=>rfl))) ao)<*>((au aj (au aj ao (av ak (pv 0) ae (fun _ _=>rfl))) ao)<*>af))))) (ai (ay (au fu (pv 2) (fW (hd:=none) (own:= "_law_k") (ys:= ["_law_names_here","_law_word"]) (js:= [0,3]) hr.hd (tj (wB (wB qX)) (.cons rfl (.cons rfl .nil)) (by decide) rfl rfl rfl rfl rfl rfl rfl rfl) (eW rfl B.Hz (ae<*>af)) (fun C fp s H=>(au aj (au aj (au aj (au aj (pv 2) (av (f7 (K:=K) rfl) (pv 1) ae (fun _ _=>rfl))) ao) (av (f7 (K:=K) rfl) (pv 1) (pv 0) (fun _ _=>rfl))) ao)))))))) aC) (ag (aO (aw bv (pv 1) ae (aE _)) (ai (ay (au fu (pv 2) (dN DZ38 hr ((pv 0)<*>(ae<*>af)))))) aC) (ai (ay (pv 2)))))),?_⟩
 try dsimp only[cxK]
 have sl:sizeLine=16777216:=sizeLine_eq;obtain ⟨z0,hz0,nz0⟩:=zz.at_ (i:=0) (by decide)
 obtain ⟨zd,hzd,nzd⟩:=zz.at_ (i:=13) (by decide)
 have a0:=b7 hz0;have ad:=b7 hzd;have e0:=b8 hz0;have ed:=b8 hzd;have n0:=nz0.len;have n13:=nzd.len;rw[ed] at q;have L:(Str.ofString "dish ").length=5/\(Str.ofString " 5").length=2/\(Str.ofString "cut ").length=4/\(Str.ofString " 1 2").length=4/\(Str.ofString "or ").length=3/\(Str.ofString " 3 4").length=4/\(Str.ofString " 1 0").length=4/\(Str.ofString " ").length=1:=by decide
 obtain ⟨L1,L2,L3,L4,L5,L6,L7,L8⟩:=L;refine cut (fun σ H'=>∃r0,σ= [J9 ln,some (.int sort),J9 r0,none]/\ax H H'/\H r0=none/\H' r0=some (.lst ([aZ zd 5].map V.str))) (fun N hN=>?_) ?_
 ·refine ⟨ν,ln,_,ω,aI.of en,ad,ω,by lia,ω,by rw[Str.length_append];lia,?_⟩
  rw[lT];exact ⟨by show 1<=sizeLine;decide,fun r0 nr0=>hN _ _ ⟨r0,rfl,ah nr0 _,nr0,ac⟩⟩
 rintro σ H1 ⟨r0,rfl,g1,nr0,er0⟩;refine cut (fun σ H'=>σ= [J9 ln,some (.int sort),J9 r0,none]/\H1=H'/\sort≠2/\sort≠3) (fun N hN=>?_) ?_
 ·refine ⟨ν,rfl,ν,jE (fun e=>?_) fun m2=>⟨ν,rfl,ν,jE (fun e=>?_) fun m3=>hN _ _ ⟨rfl,rfl,by lia,by lia⟩⟩⟩
  ·have es:sort=2:=by lia
   subst es;refine ⟨by show 2<=sizeLine;decide,fun lw nw=>?_⟩
   have gw:=ah nw (.lst [.str "orwith ",.str "with "]);have ew:aL H1 lw (.lst [.str "orwith ",.str "with "]) lw=some (.lst [.str "orwith ",.str "with "]):=ac;have g2:=g1.trans gw;have er2:=gw _ _ er0;generalize aL H1 lw (.lst [.str "orwith ",.str "with "])=H2 at gw ew g2 er2⊢;have en2:=g2 _ _ en;refine ⟨ν,ω,lw,_,ω,aI.of ew,rfl,?_⟩;dsimp only[bK,b6];refine ⟨ν,ν,ln,_,ω,aI.of en2,a0,ω,by lia,ω,by rw[Str.length_append];lia,ν,ln,_,ω,aI.of en2,a0,ω,by lia,ω,by rw[Str.length_append];lia,?_⟩
   rw[m8,v5];refine ⟨by show 2<=sizeLine;decide,fun l3 n3=>?_⟩
   have g3:=ah n3 (.lst [.str (bD (.step "cut" z0 1 2 none)),.str (bD (.sec z0 3 4))]);have e3:aL H2 l3 (.lst [.str (bD (.step "cut" z0 1 2 none)),.str (bD (.sec z0 3 4))]) l3=some (.lst ([bD (.step "cut" z0 1 2 none),bD (.sec z0 3 4)].map V.str)):=ac;have er3:=g3 _ _ er2;generalize aL H2 l3 (.lst [.str (bD (.step "cut" z0 1 2 none)),.str (bD (.sec z0 3 4))])=H3 at g3 e3 er3⊢;refine ⟨r0,l3,ω,er3,e3,by simp;lia,fun s3 ns3=>?_⟩
   have g4:=ah ns3 (.lst ([aZ zd 5].map V.str++ [bD (.step "cut" z0 1 2 none),bD (.sec z0 3 4)].map V.str));have e4:aL H3 s3 (.lst ([aZ zd 5].map V.str++ [bD (.step "cut" z0 1 2 none),bD (.sec z0 3 4)].map V.str)) s3=some (.lst ([aZ zd 5,bD (.step "cut" z0 1 2 none),bD (.sec z0 3 4)].map V.str)):=ac;have g14:=(g2.trans g3).trans g4;generalize aL H3 s3 (.lst ([aZ zd 5].map V.str++ [bD (.step "cut" z0 1 2 none),bD (.sec z0 3 4)].map V.str))=H4 at g4 e4 g14⊢;dsimp only[bK,b6];have en4:=g14 _ _ en;have lw7:(oO true).length<=7:=by decide
   refine ⟨ν,7,rfl,by decide,by decide,?_⟩
   refine iD (n:=7) (fun i y=>y= .str (bD (.use true z0 (zA zs i,1,0)))) i8.no (by lia) (fun i hi H5 g5 Q' hQ=>?_) (fun p ys H' np hl ht g' e'=>?_)
   ·obtain ⟨z,hz,nz⟩:=zz.at_ (i:=i) (by lia)
    have az:=b7 hz;have ez:=b8 hz;have nl:=nz.len;have en5:=g5 _ _ en4;refine ⟨ν,ν,ln,_,ω,aI.of en5,a0,ω,?_,ω,?_,ν,ν,ln,_,_,.str z,rfl,rfl,aI.of en5,(by rw[show (0:Int)+(i:Int)=(i:Int) by lia];exact az),ω,?_,ω,?_,?_⟩
    ·change (oO true).length+z0.length<=_
     lia
    ·rw[Str.length_append];change (oO true).length+z0.length+_<=_
     lia
    ·rw[Str.length_append,Str.length_append];change (oO true).length+z0.length+_+_<=_
     lia
    ·rw[Str.length_append,Str.length_append,Str.length_append];change (oO true).length+z0.length+_+_+_<=_
     lia
    ·have ee:=m9 true z0 z;refine hQ _ _ ?_ (.refl _);rw[ez,<-ee]
     rfl
   ·have ey:=f8 (g:=fun k=>bD (.use true z0 (zA zs k,1,0))) hl fun i y hy=>ht i y hy
    rw[ey] at e';refine ⟨s3,p,ω,g' _ _ e4,e',by simp;lia,fun s5 ns5=>?_⟩
    refine q s5 _ ((g14.trans g').trans (ah ns5 _)) ((g14.trans g').free ns5) ?_;rw[ac,<-FF];simp only[bO,e0,FZ,Fe,FF,Fq,GK,List.map_nil]
    rfl
  ·have es:sort=3:=by lia
   subst es;refine ⟨by show 2<=sizeLine;decide,fun lw nw=>?_⟩
   have gw:=ah nw (.lst [.str "orwith ",.str "with "]);have ew:aL H1 lw (.lst [.str "orwith ",.str "with "]) lw=some (.lst [.str "orwith ",.str "with "]):=ac;have g2:=g1.trans gw;have er2:=gw _ _ er0;generalize aL H1 lw (.lst [.str "orwith ",.str "with "])=H2 at gw ew g2 er2⊢;have en2:=g2 _ _ en;refine ⟨ν,ω,lw,_,ω,aI.of ew,rfl,?_⟩;dsimp only[bK,b6];refine ⟨ν,ν,ln,_,ω,aI.of en2,a0,ω,by lia,ω,by rw[Str.length_append];lia,ν,ln,_,ω,aI.of en2,a0,ω,by lia,ω,by rw[Str.length_append];lia,?_⟩
   rw[m8,v5];refine ⟨by show 2<=sizeLine;decide,fun l3 n3=>?_⟩
   have g3:=ah n3 (.lst [.str (bD (.step "cut" z0 1 2 none)),.str (bD (.sec z0 3 4))]);have e3:aL H2 l3 (.lst [.str (bD (.step "cut" z0 1 2 none)),.str (bD (.sec z0 3 4))]) l3=some (.lst ([bD (.step "cut" z0 1 2 none),bD (.sec z0 3 4)].map V.str)):=ac;have er3:=g3 _ _ er2;generalize aL H2 l3 (.lst [.str (bD (.step "cut" z0 1 2 none)),.str (bD (.sec z0 3 4))])=H3 at g3 e3 er3⊢;refine ⟨r0,l3,ω,er3,e3,by simp;lia,fun s3 ns3=>?_⟩
   have g4:=ah ns3 (.lst ([aZ zd 5].map V.str++ [bD (.step "cut" z0 1 2 none),bD (.sec z0 3 4)].map V.str));have e4:aL H3 s3 (.lst ([aZ zd 5].map V.str++ [bD (.step "cut" z0 1 2 none),bD (.sec z0 3 4)].map V.str)) s3=some (.lst ([aZ zd 5,bD (.step "cut" z0 1 2 none),bD (.sec z0 3 4)].map V.str)):=ac;have g14:=(g2.trans g3).trans g4;generalize aL H3 s3 (.lst ([aZ zd 5].map V.str++ [bD (.step "cut" z0 1 2 none),bD (.sec z0 3 4)].map V.str))=H4 at g4 e4 g14⊢;dsimp only[bK,b6];have en4:=g14 _ _ en;have lw7:(oO false).length<=7:=by decide
   refine ⟨ν,7,rfl,by decide,by decide,?_⟩
   refine iD (n:=7) (fun i y=>y= .str (bD (.use false z0 (zA zs i,1,0)))) i8.no (by lia) (fun i hi H5 g5 Q' hQ=>?_) (fun p ys H' np hl ht g' e'=>?_)
   ·obtain ⟨z,hz,nz⟩:=zz.at_ (i:=i) (by lia)
    have az:=b7 hz;have ez:=b8 hz;have nl:=nz.len;have en5:=g5 _ _ en4;refine ⟨ν,ν,ln,_,ω,aI.of en5,a0,ω,?_,ω,?_,ν,ν,ln,_,_,.str z,rfl,rfl,aI.of en5,(by rw[show (0:Int)+(i:Int)=(i:Int) by lia];exact az),ω,?_,ω,?_,?_⟩
    ·change (oO false).length+z0.length<=_
     lia
    ·rw[Str.length_append];change (oO false).length+z0.length+_<=_
     lia
    ·rw[Str.length_append,Str.length_append];change (oO false).length+z0.length+_+_<=_
     lia
    ·rw[Str.length_append,Str.length_append,Str.length_append];change (oO false).length+z0.length+_+_+_<=_
     lia
    ·have ee:=m9 false z0 z;refine hQ _ _ ?_ (.refl _);rw[ez,<-ee]
     rfl
   ·have ey:=f8 (g:=fun k=>bD (.use false z0 (zA zs k,1,0))) hl fun i y hy=>ht i y hy
    rw[ey] at e';refine ⟨s3,p,ω,g' _ _ e4,e',by simp;lia,fun s5 ns5=>?_⟩
    refine q s5 _ ((g14.trans g').trans (ah ns5 _)) ((g14.trans g').free ns5) ?_;rw[ac,<-FF];simp only[bO,e0,FZ,Fe,FF,Fq,GK,List.map_nil]
    rfl
 rintro σ _ ⟨rfl,rfl,n2,n3⟩;refine cut (fun σ H'=>σ= [J9 ln,some (.int sort),J9 r0,none]/\H1=H'/\sort≠4) (fun N hN=>?_) ?_
 ·refine ⟨ν,rfl,ν,jE (fun e=>?_) fun n4=>hN _ _ ⟨rfl,rfl,by lia⟩⟩
  have es:sort=4:=by lia
  subst es;refine ⟨ν,ν,ln,zs,3,rfl,g1 _ _ en,by rw[zz.len];decide,by decide,zz.nm,fun l2 H2 g2 nl2 e2=>?_⟩
  refine ⟨r0,l2,ω,g2 _ _ er0,e2,by simp;lia,fun s3 ns3=>?_⟩
  refine q s3 _ ((g1.trans g2).trans (ah ns3 _)) ((g1.trans g2).free ns3) ?_;rw[ac,<-FF]
  rfl
 rintro σ _ ⟨rfl,rfl,n4⟩;have es:sort=0∨sort=1:=by lia
 refine ⟨ν,q r0 _ g1 nr0 ?_⟩;rcases es with rfl|rfl<;>exact er0
theorem CY {dV:Value} (F:a6 K "_law_sort_row" "_law_sort_row" AX dV f fd):aY P w K mg base bu 1 f fd ["_law_names_here","_law_sort","_law_k"] jj:=by
 have sc:aB ["_law_names_here","_law_sort","_law_k"] ["_law_names_here","_law_sort","_law_k"] (aq AX):=dC (by decide+kernel)
 and_intros
 ·obtain ⟨_,_,_,_,rfl,_⟩:=h
  rfl
 obtain ⟨ln,zs,sort,k,rfl,en,zz,s5,k14,k30,q⟩:=h;refine ⟨_,(ag (aO (aw bv (pv 1) ae (aE _)) (ai (ay (au aj (au aj (au aj ao (av ak (pv 0) (pv 2) (fun _ _=>rfl))) ao) (bx b9 rfl B.HF boot_str ((au cw ae (pv 2))<*>af))))) aC) (ag (aO (aw bv (pv 1) ae (aE _)) (ai (ay (au aj (au aj (au aj ao (av ak (pv 0) (pv 2) (fun _ _=>rfl))) ao) (bx b9 rfl B.HF boot_str ((au cw ae (pv 2))<*>af))))) aC) (ag (aO (aw bv (pv 1) ae (aE _)) (ai (ay (au aj (au aj (au aj (au aj (au aj ao (av ak (pv 0) ae (fun _ _=>rfl))) ao) (av ak (pv 0) (pv 2) (fun _ _=>rfl))) ao) (bx b9 rfl B.HF boot_str ((pv 2)<*>af))))) aC) (ag (aO (aw bv (pv 1) ae (aE _)) (ai (ay (au aj (au aj (au aj (au aj (au aj ao (av ak (pv 0) ae (fun _ _=>rfl))) ao) (av ak (pv 0) (pv 2) (fun _ _=>rfl))) ao) (bx b9 rfl B.HF boot_str ((pv 2)<*>af))))) aC) (ai (ay (au aj (au aj (au aj (au aj (au aj ao (av ak (pv 0) (au bj (pv 2) ae) (fun _ _=>rfl))) ao) (av ak (pv 0) (au bj (au cw (pv 2) ae) ae) (fun _ _=>rfl))) ao) (bx b9 rfl B.HF boot_str ((pv 2)<*>af))))))))),?_⟩
 try dsimp only[cxK]
 have sl:sizeLine=16777216:=sizeLine_eq;obtain ⟨z0,hz0,nz0⟩:=zz.at_ (i:=0) (by decide)
 have a0:=b7 hz0;have e0:=b8 hz0;have n0:=nz0.len;have L:(Str.ofString "take ").length=5/\(Str.ofString " ").length=1/\(Str.ofString "rest ").length=5/\(Str.ofString " 2 ").length=3/\(Str.ofString " 1 ").length=3/\(Str.ofString "with ").length=5/\(Str.ofString "orwith ").length=7/\(Str.ofString "within ").length=7:=by decide
 obtain ⟨L1,L2,L3,L4,L5,L6,L7,L8⟩:=L;have lp1:=fh (n:=1+k) (by lia)
 have lp3:=fh (n:=3+k) (by lia)
 have lpk:=fh (n:=k) (by lia)
 have nk:sort<4->∃z,zs[k]?=some z/\Nm z:=fun h=>zz.at_ (k14 h)
 refine ⟨ν,rfl,ν,jE (fun e=>?_) fun n1=>⟨ν,rfl,ν,jE (fun e=>?_) fun n2=>⟨ν,rfl,ν,jE (fun e=>?_) fun n3=>⟨ν,rfl,ν,jE (fun e=>?_) fun n4=>?_⟩⟩⟩⟩
 ·have es:sort=0:=by lia
  subst es;obtain ⟨z,hz,nz⟩:=nk (by decide)
  have az:=b7 hz;have ez:=b8 hz;have nl:=nz.len;refine ⟨ν,ν,ln,_,ω,aI.of en,az,ω,by lia,ω,by rw[Str.length_append];lia,ν,ω,ν,gW (n:=1+k) (by lia) (by lia),?_⟩
  rw[fH (n:=1+k) (by lia)]
  refine ⟨ω,by rw[Str.length_append,Str.length_append];lia,?_⟩
  rw[Ah];have:cL zs 0 k= .take z (1+k,1):=by show Rr.take (zA zs k) (1+k,1)=_;rw[ez]
  rw[this] at q;exact q
 ·have es:sort=1:=by lia
  subst es;obtain ⟨z,hz,nz⟩:=nk (by decide)
  have az:=b7 hz;have ez:=b8 hz;have nl:=nz.len;refine ⟨ν,ν,ln,_,ω,aI.of en,az,ω,by lia,ω,by rw[Str.length_append];lia,ν,ω,ν,gW (n:=3+k) (by lia) (by lia),?_⟩
  rw[fH (n:=3+k) (by lia)]
  refine ⟨ω,by rw[Str.length_append,Str.length_append];lia,?_⟩
  rw[vZ];have:cL zs 1 k= .step "rest" z 2 (3+k) none:=by show Rr.step "rest" (zA zs k) 2 (3+k) none=_;rw[ez]
  rw[this] at q;exact q
 ·have es:sort=2:=by lia
  subst es;obtain ⟨z,hz,nz⟩:=nk (by decide)
  have az:=b7 hz;have ez:=b8 hz;have nl:=nz.len;refine ⟨ν,ln,_,ω,aI.of en,a0,ω,by lia,ω,by rw[Str.length_append];lia,ν,ν,ln,_,ω,aI.of en,az,ω,by rw[Str.length_append,Str.length_append];lia,ω,by rw[Str.length_append,Str.length_append,Str.length_append];lia,ν,ν,gW (n:=k) rfl (by lia),?_⟩
  rw[fH (n:=k) rfl];refine ⟨ω,by rw[Str.length_append,Str.length_append,Str.length_append,Str.length_append];lia,?_⟩
  rw[Ai];have:cL zs 2 k= .use false z0 (z,1,k):=by show Rr.use false (zA zs 0) (zA zs k,1,k)=_;rw[ez,e0]
  rw[this] at q;exact q
 ·have es:sort=3:=by lia
  subst es;obtain ⟨z,hz,nz⟩:=nk (by decide)
  have az:=b7 hz;have ez:=b8 hz;have nl:=nz.len;refine ⟨ν,ln,_,ω,aI.of en,a0,ω,by lia,ω,by rw[Str.length_append];lia,ν,ν,ln,_,ω,aI.of en,az,ω,by rw[Str.length_append,Str.length_append];lia,ω,by rw[Str.length_append,Str.length_append,Str.length_append];lia,ν,ν,gW (n:=k) rfl (by lia),?_⟩
  rw[fH (n:=k) rfl];refine ⟨ω,by rw[Str.length_append,Str.length_append,Str.length_append,Str.length_append];lia,?_⟩
  rw[Cf];have:cL zs 3 k= .use true z0 (z,2,k):=by show Rr.use true (zA zs 0) (zA zs k,2,k)=_;rw[ez,e0]
  rw[this] at q;exact q
 ·have es:sort=4:=by lia
  subst es;obtain ⟨z1,hz1,nz1⟩:=zz.at_ (i:=k % 3) (by lia)
  obtain ⟨z2,hz2,nz2⟩:=zz.at_ (i:=(k+1) % 3) (by lia)
  have az1:=b7 hz1;have az2:=b7 hz2;have ez1:=b8 hz1;have ez2:=b8 hz2;have nl1:=nz1.len;have nl2:=nz2.len;have f1:((k:Int)).fmod 3=((k % 3:Nat):Int):=rH _ k 3 rfl;have f2:((k:Int)+1).fmod 3=(((k+1) % 3:Nat):Int):=rH _ (k+1) 3 (by lia)
  refine ⟨ν,ν,ω,(by show (3:Int)≠0;decide),ln,_,_,.str z1,rfl,rfl,aI.of en,(by rw[f1];exact az1),ω,by lia,ω,by rw[Str.length_append];lia,ν,ν,ω,ω,(by show (3:Int)≠0;decide),ln,_,_,.str z2,rfl,rfl,aI.of en,(by rw[f2];exact az2),ω,by rw[Str.length_append,Str.length_append];lia,ω,by rw[Str.length_append,Str.length_append,Str.length_append];lia,ν,ν,gW (n:=k) rfl (by lia),?_⟩
  rw[fH (n:=k) rfl];refine ⟨ω,by rw[Str.length_append,Str.length_append,Str.length_append,Str.length_append];lia,?_⟩
  rw[v4];have:cL zs 4 k= .link "within" z1 z2 k:=by show Rr.link "within" (zA zs (k % 3)) (zA zs ((k+1) % 3)) k=_;rw[ez1,ez2]
  rw[this] at q;exact q
theorem CZ {dV:Value} (F:a6 K "_law_read" "_law_read" AY dV f fd):aY P w K mg base bu 1 f fd ["_law_names_here","_law_sort","_law_recipe"] (rZ Gh Ge Gd Gb):=by
 have sc:aB ["_law_names_here","_law_sort","_law_recipe"] ["_law_names_here","_law_sort","_law_recipe"] (aq AY):=dC (by decide+kernel)
 and_intros
 ·obtain ⟨_,_,_,_,_,_,_,rfl,_⟩:=h
  rfl
 obtain ⟨v0,r,zs,sort,m,n,p,rfl,⟨lt,ls,lk,⟨dx,er⟩,⟨vt,et,rt⟩,⟨vs,es,rs⟩,⟨vk,ek,rk⟩⟩,s5,m30,q⟩:=h;refine ⟨_,(ag (aO (aw bv (pv 1) ae (aE _)) (ai (ay (vh (os:= ["_law_good","_law_amount"]) (ys:= []) (js:= []) rfl (DG qX .nil rfl rfl rfl rfl rfl rfl rfl) (dP (bI (pv 2) rfl)) (fun C fp s H=>xy (K:=K) (n:=2) rfl rfl (cf (nZ (os:= ["_law_good","_law_amount"]) (ys:= []) (i:=0) (by decide) rfl rfl) (cf (nZ (os:= ["_law_good","_law_amount"]) (ys:= []) (i:=1) (by decide) rfl rfl) gC))) (fun C fp s H=>(@bw _ _ _ _ ((pv 0)<*>((pv 1)<*>af))))))) aC) (ag (aO (aw bv (pv 1) ae (aE _)) (ai (ay (eI (own:= "_law_step") (ys:= []) (js:= []) rfl (tj qX .nil (by decide) rfl rfl rfl rfl rfl rfl rfl rfl) (dP (bI (pv 2) rfl)) (fun C fp s H=>(@bw _ _ _ _ ((mM (K:=K) rfl (pv 0) rfl)<*>((mM (K:=K) rfl (pv 0) rfl)<*>af))))))) aC) (ag (aO (aw bv (pv 1) ae (aE _)) (ai (ay (eI (own:= "_law_use") (ys:= []) (js:= []) rfl (tj qX .nil (by decide) rfl rfl rfl rfl rfl rfl rfl rfl) (dP (bI (av ak (bI (pv 2) rfl) ae (fun _ _=>rfl)) rfl)) (fun C fp s H=>(bx (im (K:=K) rfl) rfl B.HG boot_list ((pv 0)<*>af)))))) aC) (ag (aO (aw bv (pv 1) ae (aE _)) (ai (ay (eI (own:= "_law_use") (ys:= []) (js:= []) rfl (tj qX .nil (by decide) rfl rfl rfl rfl rfl rfl rfl rfl) (dP (av bN (bI (av ak (bI (pv 2) rfl) ae (fun _ _=>rfl)) rfl) ae (fun _ _=>rfl))) (fun C fp s H=>(bx (im (K:=K) rfl) rfl B.HG boot_list ((pv 0)<*>af)))))) aC) (ai (ay (eI (own:= "_law_link") (ys:= []) (js:= []) rfl (tj qX .nil (by decide) rfl rfl rfl rfl rfl rfl rfl rfl) (dP (bI (pv 2) rfl)) (fun C fp s H=>(bx (im (K:=K) rfl) rfl B.HG boot_list ((pv 0)<*>af)))))))))),?_⟩
 try dsimp only[cxK]
 have sl:sizeLine=16777216:=sizeLine_eq;have scOf:∀{w:Str} {C:Addr},ko Gh Ge Gd w C->kf K C:=fun h=>by
  rcases h with ⟨_,rfl⟩|⟨_,rfl⟩|⟨_,rfl⟩
  ·exact ⟨B.Io,B.Hn,B.Hg,B.Ho,B.Hl,B.Gz⟩
  ·exact ⟨B.HI,B.He,B.Gy,B.Hf,B.Hd,B.Gv⟩
  ·exact ⟨B.HH,B.Hb,B.Gx,B.Hc,B.Ha,B.Gu⟩
 refine ⟨ν,rfl,ν,jE (fun e=>?_) fun n1=>⟨ν,rfl,ν,jE (fun e=>?_) fun n2=>⟨ν,rfl,ν,jE (fun e=>?_) fun n3=>⟨ν,rfl,ν,jE (fun e=>?_) fun n4=>?_⟩⟩⟩⟩
 ·have es0:sort=0:=by lia
  subst es0;have lv:=rt.1;have lm:(bC zs 0 m).takes.length=m:=by simp[bC]
  refine ⟨ν,r,_,dx,_,ν,er,B.Gn,B.Gw,cK.2.2.1,lt,rfl,⟨_,aI.of et⟩,xU (gy zs 0) (fun a=>H a≠none) (fun i=>i) (aI.of et) (by lia) (fun a h=>h) (fun i y hy H2 g o ho Q' hQ=>?_) fun p1 H4 np g4 hp=>?_⟩
  ·obtain ⟨k1,hk1,t,b,rfl,_,_,et',eb⟩:=rt.at_ hy;obtain ⟨il,rfl⟩:=dB (f:=fun k=>((zA zs k,(1+k,1)):Str×dM)) hk1
   match o,ho with
   | [o1,o2],_=>
   refine ⟨t,ν,cM.of (g _ _ et'),rfl,_,ν,ω,⟨[some (.str (zA zs i)),some (.ref b)],rfl,rfl⟩,?_⟩;refine ⟨ν,ν,by show 2<=sizeLine;decide,fun l nl=>hQ _ _ (ah nl _) ⟨l,rfl,.inl nl,?_⟩⟩
   rw[if_pos rfl];exact ⟨b,.inr (by rw[eb];exact fun z=>nomatch z),ac,ah nl _ _ _ (g _ _ eb)⟩
  ·obtain ⟨ws,ep,rp⟩:=hp;rw[lv,lm] at rp;obtain ⟨d1,d2⟩:=gX rp;exact q p1 ws _ g4 ep d1 d2
 ·have es0:sort=1:=by lia
  subst es0;have lv:=rs.1;have lm:(bC zs 1 m).steps.length=m:=by simp[bC]
  refine ⟨ν,r,_,dx,_,ν,er,B.Gn,B.Gj,cK.2.2.2.1,ls,rfl,⟨_,aI.of es⟩,fB (gy zs 1) (fun _=>False) (fun i=>i) (aI.of es) (by lia) (fun a h=>h.elim) (fun i y hy H2 g Q' hQ=>?_) fun p1 H4 np g4 hp=>?_⟩
  ·obtain ⟨s1,hs1,x,rfl,C,dxk,u,sv,ff,ex,hC,sf,_⟩:=rs.at_ hy;obtain ⟨il,rfl⟩:=dB (f:=fN zs) hs1;have ex2:=g _ _ ex;refine ⟨ν,x,C,dxk,ff,ν,ex2,(scOf hC).cl,(scOf hC).name,sf.name,ν,x,C,dxk,ff,ν,ex2,(scOf hC).cl,(scOf hC).most,sf.most,by show 2<=sizeLine;decide,fun l nl=>hQ _ _ (ah nl _) ⟨l,rfl,.inl nl,?_⟩⟩
   rw[if_neg (by decide),ac]
   rfl
  ·obtain ⟨ws,ep,rp⟩:=hp;rw[lv,lm] at rp;obtain ⟨d1,d2⟩:=gX rp;exact q p1 ws _ g4 ep d1 d2
 ·have es0:sort=2:=by lia
  subst es0;have hst:(bC zs 2 m).steps[0]?=some (fM zs (bB zs m 1 id) (bB zs 7 1 fun _=>0)):=rfl
  obtain ⟨v1,hv1,x,rfl,C,dxk,u,sv,ff,ex,hC,sf,_,⟨vu,eu,ru⟩,hsv⟩:=rs.get hst;have lv:=ru.1;have lm:(bB zs m 1 id).length=m:=by simp[bB]
  change vu.length=(bB zs m 1 id).length at lv;refine ⟨ν,r,_,dx,_,ν,er,B.Gn,B.Gj,cK.2.2.2.1,ls,_,ω,aI.of es,(aG (j:=0) hv1),x,C,dxk,ff,ν,ex,(scOf hC).cl,(scOf hC).uses,sf.uses,u,rfl,⟨_,aI.of eu⟩,fB (gy zs 2) (fun _=>False) (fun i=>i) (aI.of eu) (by lia) (fun a h=>h.elim) (fun i y hy H2 g Q' hQ=>?_) fun p1 H4 np g4 hp=>?_⟩
  ·obtain ⟨k1,hk1,t,rfl,_,et'⟩:=ru.at_ hy;obtain ⟨il,rfl⟩:=dB (f:=fun k=>((zA zs k,1,id k):bU)) hk1
   refine ⟨ν,t,ν,.inr (cM.of (g _ _ et')),fun l nl=>hQ _ _ (ah nl _) ⟨l,rfl,.inl nl,?_⟩⟩
   rw[if_neg (by decide),ac]
   rfl
  ·obtain ⟨ws,ep,rp⟩:=hp;rw[lv,lm] at rp;obtain ⟨d1,d2⟩:=gX rp;exact q p1 ws _ g4 ep d1 d2
 ·have es0:sort=3:=by lia
  subst es0;have hst:(bC zs 3 m).steps[0]?=some (fM zs (bB zs 7 1 fun _=>0) (bB zs m 2 id)):=rfl
  obtain ⟨v1,hv1,x,rfl,C,dxk,u,sv,ff,ex,hC,sf,_,_,⟨t2,l2,e1,e2,⟨vu,eu,ru⟩⟩⟩:=rs.get hst;subst e1;have lv:=ru.1;have lm:(bB zs m 2 id).length=m:=by simp[bB]
  change vu.length=(bB zs m 2 id).length at lv;refine ⟨ν,r,_,dx,_,ν,er,B.Gn,B.Gj,cK.2.2.2.1,ls,_,ω,aI.of es,(aG (j:=0) hv1),x,C,dxk,ff,ν,ex,(scOf hC).cl,(scOf hC).second,sf.second,t2,_,ω,cM.of e2,rfl,l2,rfl,⟨_,aI.of eu⟩,fB (gy zs 3) (fun _=>False) (fun i=>i) (aI.of eu) (by lia) (fun a h=>h.elim) (fun i y hy H2 g Q' hQ=>?_) fun p1 H4 np g4 hp=>?_⟩
  ·obtain ⟨k1,hk1,t,rfl,_,et'⟩:=ru.at_ hy;obtain ⟨il,rfl⟩:=dB (f:=fun k=>((zA zs k,2,id k):bU)) hk1
   refine ⟨ν,t,ν,.inr (cM.of (g _ _ et')),fun l nl=>hQ _ _ (ah nl _) ⟨l,rfl,.inl nl,?_⟩⟩
   rw[if_neg (by decide),ac]
   rfl
  ·obtain ⟨ws,ep,rp⟩:=hp;rw[lv,lm] at rp;obtain ⟨d1,d2⟩:=gX rp;exact q p1 ws _ g4 ep d1 d2
 ·have es0:sort=4:=by lia
  subst es0;have lv:=rk.1;have lm:(bC zs 4 m).links.length=m:=by simp[bC]
  refine ⟨ν,r,_,dx,_,ν,er,B.Gn,B.Hj,cK.2.2.2.2,lk,rfl,⟨_,aI.of ek⟩,fB (gy zs 4) (fun _=>False) (fun i=>i) (aI.of ek) (by lia) (fun a h=>h.elim) (fun i y hy H2 g Q' hQ=>?_) fun p1 H4 np g4 hp=>?_⟩
  ·obtain ⟨k1,hk1,t,rfl,_,et'⟩:=rk.at_ hy;obtain ⟨il,rfl⟩:=dB (f:=fun k=>(Str.ofString "within",k % 3,(k+1) % 3,k)) hk1
   refine ⟨ν,t,ν,.inr (cM.of (g _ _ et')),fun l nl=>hQ _ _ (ah nl _) ⟨l,rfl,.inl nl,?_⟩⟩
   rw[if_neg (by decide),ac]
   rfl
  ·obtain ⟨ws,ep,rp⟩:=hp;rw[lv,lm] at rp;obtain ⟨d1,d2⟩:=gX rp;exact q p1 ws _ g4 ep d1 d2
theorem C0 {dV:Value} (F:a6 K "_law_due" "_law_due" AZ dV f fd):aY P w K mg base bu 1 f fd ["_law_names_here","_law_sort","_law_k"] v9:=by
 have sc:aB ["_law_names_here","_law_sort","_law_k"] ["_law_names_here","_law_sort","_law_k"] (aq AZ):=dC (by decide+kernel)
 and_intros
 ·obtain ⟨_,_,_,_,rfl,_⟩:=h
  rfl
 obtain ⟨ln,zs,sort,k,rfl,en,zz,s5,k14,k30,q⟩:=h;refine ⟨_,(ag (aO (aw bv (pv 1) ae (aE _)) (ai (ay (@bw _ _ _ _ ((av ak (pv 0) (pv 2) (fun _ _=>rfl))<*>((@bM _ _ _ _ _ ((au cw ae (pv 2))<*>(ae<*>af)))<*>af))))) aC) (ag (aO (aw bv (pv 1) ae (aE _)) (ai (ay (@bw _ _ _ _ ((av ak (pv 0) (pv 2) (fun _ _=>rfl))<*>((au cw ae (pv 2))<*>af))))) aC) (ag (aO (aw bv (pv 1) ae (aE _)) (ai (ay (@bw _ _ _ _ ((av ak (pv 0) (pv 2) (fun _ _=>rfl))<*>(ae<*>((pv 2)<*>af)))))) aC) (ag (aO (aw bv (pv 1) ae (aE _)) (ai (ay (@bw _ _ _ _ ((av ak (pv 0) (pv 2) (fun _ _=>rfl))<*>(ae<*>((pv 2)<*>af)))))) aC) (ai (ay (@bw _ _ _ _ (ao<*>((au bj (pv 2) ae)<*>((au bj (au cw (pv 2) ae) ae)<*>((pv 2)<*>af))))))))))),?_⟩
 try dsimp only[cxK]
 have sl:sizeLine=16777216:=sizeLine_eq;refine ⟨ν,rfl,ν,jE (fun e=>?_) fun n1=>⟨ν,rfl,ν,jE (fun e=>?_) fun n2=>⟨ν,rfl,ν,jE (fun e=>?_) fun n3=>⟨ν,rfl,ν,jE (fun e=>?_) fun n4=>?_⟩⟩⟩⟩
 ·have es:sort=0:=by lia
  subst es;obtain ⟨z,hz,nz⟩:=zz.at_ (k14 (by decide))
  have az:=b7 hz;have ez:=b8 hz;refine ⟨ν,ν,ln,_,ω,aI.of en,az,ν,ω,by show 2<=sizeLine;decide,fun t nt=>⟨by show 2<=sizeLine;decide,fun l nl=>q _ _ ((ah nt _).trans (ah nl _)) ⟨l,rfl,(ah nt _).free nl,?_⟩⟩⟩
  rw[if_pos rfl,ez];refine ⟨t,nt,ac,?_⟩;rw[ah nl _ _ _ ac];show _=some (HO.tup [V.int ((1+k:Nat):Int),V.int ((1:Nat):Int)]);rw[show ((1+k:Nat):Int)=1+(k:Int) by lia]
  try rfl
 ·have es:sort=1:=by lia
  subst es;obtain ⟨z,hz,nz⟩:=zz.at_ (k14 (by decide))
  have az:=b7 hz;have ez:=b8 hz;refine ⟨ν,ν,ln,_,ω,aI.of en,az,ν,ω,by show 2<=sizeLine;decide,fun l nl=>q _ _ (ah nl _) ⟨l,rfl,nl,?_⟩⟩
  rw[if_neg (by decide),ac]
  show _=some (HO.lst [V.str (zA zs k),V.int ((3+k:Nat):Int)]);rw[ez,show ((3+k:Nat):Int)=3+(k:Int) by lia]
  try rfl
 ·have es:sort=2:=by lia
  subst es;obtain ⟨z,hz,nz⟩:=zz.at_ (k14 (by decide))
  have az:=b7 hz;have ez:=b8 hz;refine ⟨ν,ν,ln,_,ω,aI.of en,az,ν,by show 3<=sizeLine;decide,fun l nl=>q _ _ (ah nl _) ⟨l,rfl,nl,?_⟩⟩
  rw[if_neg (by decide),ac]
  show _=some (HO.lst [V.str (zA zs k),V.int ((1:Nat):Int),V.int (k:Int)]);rw[ez];try rfl
 ·have es:sort=3:=by lia
  subst es;obtain ⟨z,hz,nz⟩:=zz.at_ (k14 (by decide))
  have az:=b7 hz;have ez:=b8 hz;refine ⟨ν,ν,ln,_,ω,aI.of en,az,ν,by show 3<=sizeLine;decide,fun l nl=>q _ _ (ah nl _) ⟨l,rfl,nl,?_⟩⟩
  rw[if_neg (by decide),ac]
  show _=some (HO.lst [V.str (zA zs k),V.int ((2:Nat):Int),V.int (k:Int)]);rw[ez];try rfl
 ·have es:sort=4:=by lia
  subst es;have f1:((k:Int)).fmod 3=((k % 3:Nat):Int):=rH _ k 3 rfl;have f2:((k:Int)+1).fmod 3=(((k+1) % 3:Nat):Int):=rH _ (k+1) 3 (by lia)
  refine ⟨ν,ω,(by show (3:Int)≠0;decide),ν,ω,ω,(by show (3:Int)≠0;decide),ν,by show 4<=sizeLine;decide,fun l nl=>q _ _ (ah nl _) ⟨l,rfl,nl,?_⟩⟩
  rw[if_neg (by decide),ac]
  dsimp only;rw[f1,f2]
  rfl
theorem C1 {dV:Value} (F:a6 K "_law_room_right" "_law_room_right" A0 dV f fd) (DZ32:Dx P w K mg base bu 11 "read_recipe" ["text"] [] (jh Gh Ge Gd Gb)) (DZ37:Dx P w K mg base bu 12 "_law_refusal" ["_law_thing"] [] gU) (DZ39:Dx P w K mg base bu 2 "_law_ahead" ["_law_names_here","_law_sort"] [] kD) (DZ40:Dx P w K mg base bu 1 "_law_sort_row" ["_law_names_here","_law_sort","_law_k"] [] jj) (DZ41:Dx P w K mg base bu 1 "_law_read" ["_law_names_here","_law_sort","_law_recipe"] [] (rZ Gh Ge Gd Gb)) (DZ42:Dx P w K mg base bu 1 "_law_due" ["_law_names_here","_law_sort","_law_k"] [] v9):aY P w K mg base bu 13 f fd ["_law_names_here","_law_sort","_law_more"] r6:=by
 have sc:aB ["_law_names_here","_law_sort","_law_more","_law_room","_law_rows","_law_text","_law_found"] ["_law_names_here","_law_sort","_law_more"] (aq A0):=dC (by decide+kernel)
 and_intros
 ·obtain ⟨_,_,_,_,rfl,_⟩:=h
  rfl
 obtain ⟨ln,zs,sort,more,rfl,en,zz,s5,hm,q⟩:=h;refine ⟨_,(ag (cU 3 sc (au cw (av ak (@bw _ _ _ _ (ae<*>(ae<*>(ae<*>(ae<*>(ae<*>af)))))) (pv 1) (fun _ _=>rfl)) (pv 2))) (ag (cU 4 sc (au fu (dN DZ39 hr ((pv 0)<*>((pv 1)<*>af))) (fW (hd:=none) (own:= "_law_k") (ys:= ["_law_names_here","_law_sort"]) (js:= [0,1]) hr.hd (tj (wB (wB qX)) (.cons rfl (.cons rfl .nil)) (by decide) rfl rfl rfl rfl rfl rfl rfl rfl) (eW rfl B.Hz ((pv 3)<*>af)) (fun C fp s H=>(dN DZ40 hr ((pv 1)<*>((pv 2)<*>((pv 0)<*>af)))))))) (ag (cU 5 sc (cZ G4 PySem.F.slot_str_join PySem.F.type_str_join jI ao ((pv 4)<*>af))) (ag (aO (aw bv (pv 2) ae (aE _)) (ai (ay (pD (eG (jK 0 (GP (GX (by decide:0+1<64) _) hr.units)) (dN DZ37 hr ((pv 5)<*>af)) (@bM _ _ _ _ _ (ao<*>((jo fS ae)<*>af))) (aE _)) (pC (eG (jK 0 (GP (GX (by decide:0+1<64) _) hr.units)) (dN DZ37 hr ((au aj (pv 5) ao)<*>af)) (@bM _ _ _ _ _ (ao<*>((jo fS ae)<*>af))) (aE _)))))) aC) (ag (cU 6 sc (dN DZ41 hr ((pv 0)<*>((pv 1)<*>((dN DZ32 hr ((pv 5)<*>af))<*>af))))) (ai (ay (eG (zH 2 (GP (GX (by decide:2+1<64) _) hr.units)) (pv 6) (fW (hd:=none) (own:= "_law_k") (ys:= ["_law_names_here","_law_sort"]) (js:= [0,1]) hr.hd (tj (wB (wB qX)) (.cons rfl (.cons rfl .nil)) (by decide) rfl rfl rfl rfl rfl rfl rfl rfl) (eW rfl B.Hz ((pv 3)<*>af)) (fun C fp s H=>(dN DZ42 hr ((pv 1)<*>((pv 2)<*>((pv 0)<*>af)))))) (aE _))))))))),?_⟩
 try dsimp only[cxK]
 have sl:sizeLine=16777216:=sizeLine_eq;have nz13:=zz.zA_nm (i:=13) (by decide)
 refine cut (fun σ H'=>∃m:Nat,σ= [J9 ln,some (.int sort),some (.int more),some (vN m),none,none,none]/\ax H H'/\((more=1/\m=(if sort=4 then 24 else 12)+1)∨(more≠1/\m<=if sort=4 then 24 else 12))) (fun N hN=>?_) ?_
 ·refine ⟨by show 5<=sizeLine;decide,fun l nl=>⟨ν,?_⟩⟩
  have g1:=ah nl (.lst [.int 12,.int 12,.int 12,.int 12,.int 24]);obtain ⟨w,hw,ew⟩:∃w:Nat,kH [V.int 12,.int 12,.int 12,.int 12,.int 24] (sort:Int)=some (vN w)/\w=if sort=4 then 24 else 12:=by
   match sort,s5 with
   |0,_=>exact ⟨12,rfl,rfl⟩
   |1,_=>exact ⟨12,rfl,rfl⟩
   |2,_=>exact ⟨12,rfl,rfl⟩
   |3,_=>exact ⟨12,rfl,rfl⟩
   |4,_=>exact ⟨24,rfl,rfl⟩
  have EI:12<=w:=by rw[ew];split<;>decide
  refine ⟨l,_,ω,aI.of ac,hw,ν,ω,hN _ _ ⟨((w:Int)+more).toNat,?_,g1,?_⟩⟩
  ·show [some (.ref ln),some (.int sort),some (.int more),some (V.int ((w:Int)+more)),none,none,none]=_;rw[show vN ((w:Int)+more).toNat=V.int ((w:Int)+more) from congrArg V.int (by lia)]
  ·rw[<-ew]
   lia
 rintro σ H1 ⟨m,rfl,g1,hmm⟩;have m25:m<=if sort=4 then 25 else 13:=by
  rcases hmm with ⟨_,e⟩|⟨_,e⟩
  ·rw[e]
   split<;>lia
  ·split at e<;>(split<;>lia)
 have m30:m<=30:=by split at m25<;>lia
 have rok:=oQ zz s5 m25;obtain ⟨hx1,hx2⟩:=gn (p:=5) nz13 (by decide)
 have rlen:(aX zs sort m).length<=100:=by
  unfold aX;rw[Fa,F7,GL];have:(bO zs sort).length<=20:=by
   match sort,s5 with
   |0,_=>simp[bO]
   |1,_=>simp[bO]
   |2,_=>simp[bO]
   |3,_=>simp[bO]
   |4,_=>simp[bO]
  lia
 refine cut (fun σ H'=>∃rl,σ= [J9 ln,some (.int sort),some (.int more),some (vN m),J9 rl,none,none]/\ax H H'/\H' rl=some (.lst ((aZ (zA zs 13) 5::(aX zs sort m).map bD).map V.str))) (fun N hN=>?_) ?_
 ·refine ⟨ν,ν,ln,zs,sort,rfl,g1 _ _ en,zz,s5,fun la H2 g2 nla ela=>⟨ν,ν,by lia,by lia,?_⟩⟩
  have g12:=g1.trans g2;refine iD (n:=m) (fun i y=>y= .str (bD (cL zs sort i))) i8.no (by lia) (fun i hi H3 g3 Q' hQ=>?_) (fun p ys H' np hl ht g' e'=>?_)
  ·refine ⟨ν,ν,ν,ln,zs,sort,i,(by rw[show (0:Int)+(i:Int)=(i:Int) by lia];rfl),(g12.trans g3) _ _ en,zz,s5,(fun c=>by rw[if_neg (by lia)] at m25;lia),by lia,hQ _ _ rfl (.refl _)⟩
  ·have ey:=f8 (g:=fun k=>bD (cL zs sort k)) hl fun i y hy=>ht i y hy
   rw[ey] at e';refine ⟨la,p,ω,g' _ _ ela,e',?_,fun s5' ns5=>hN _ _ ⟨s5',rfl,(g12.trans g').trans (ah ns5 _),?_⟩⟩
   ·have:=rlen;unfold aX at this;simp at this⊢
    lia
   ·rw[ac,<-FF,Fq];unfold aX;rw[FF,Fe]
    rfl
 rintro σ H2 ⟨rl,rfl,g2,erl⟩;refine cut (fun σ H'=>σ= [J9 ln,some (.int sort),some (.int more),some (vN m),J9 rl,some (.str (Txt.join fC (aZ (zA zs 13) 5::(aX zs sort m).map bD))),none]/\H2=H') (fun N hN=>?_) ?_
 ·exact ⟨rfl,ν,_,rl,ν,rfl,aI.of erl,by decide,Ak hx2 rok (by lia),hN _ _ ⟨rfl,rfl⟩⟩
 rintro σ _ ⟨rfl,rfl⟩;have tl:=xR (p:=5) nz13 (by decide) rok (by lia)
 refine cut (fun σ H'=>σ= [J9 ln,some (.int sort),some (.int more),some (vN m),J9 rl,some (.str (Txt.join fC (aZ (zA zs 13) 5::(aX zs sort m).map bD))),none]/\H2=H'/\more≠1) (fun N hN=>?_) ?_
 ·refine ⟨ν,rfl,ν,jE (fun e=>?_) fun e=>hN _ _ ⟨rfl,rfl,e⟩⟩
  have em:m=(if sort=4 then 24 else 12)+1:=by
   rcases hmm with ⟨_,h⟩|⟨h,_⟩
   ·exact h
   ·exact absurd e h
  obtain ⟨i1,r1⟩:=oR zz s5 [];obtain ⟨i2,r2⟩:=oR zz s5 [.bad (Str.ofString "")];rw[<-em] at r1 r2;rw[Fm] at r1;have o1:kQ (.ok (zA zs 13) 5) ((aX zs sort m).map .ok)=(Str.ofString "room",(-1:Int)):=by
   show (match c6 ⟨[],[],[]⟩ 1 ((aX zs sort m).map .ok) with| .ok _=>_| .error e=>outF e)=_
   rw[r1]
   rfl
  have o2:kQ (.ok (zA zs 13) 5) ((aX zs sort m).map .ok++ [.bad (Str.ofString "")])=(Str.ofString "room",(-1:Int)):=by
   show (match c6 ⟨[],[],[]⟩ 1 ((aX zs sort m).map .ok++ [.bad (Str.ofString "")]) with| .ok _=>_| .error e=>outF e)=_
   rw[r2]
   rfl
  have rg:∀x∈(aX zs sort m).map fi.ok,gu x:=fun x hx=>by
   obtain ⟨r,hr',rfl⟩:=FE.mp hx;exact rok r hr'
  refine ⟨ν,.ok (zA zs 13) 5,(aX zs sort m).map .ok,congrArg (fun z=> [V.str z]) (join_rows _ _),⟨nz13,by decide,by decide⟩,rg,by rw[F7];lia,fun t H3 g3 et=>?_⟩
  rw[o1] at et;refine ⟨ν,by show 2<=sizeLine;decide,fun t2 nt2=>?_⟩
  have g4:=ah nt2 (.tup [.str "room",.int (-1)]);refine ⟨t,t2,ω,cM.of (g4 _ _ et),cM.of ac,⟨⟨rfl,trivial⟩,⟨rfl,trivial⟩,trivial⟩,ν,fU ?_⟩;have eT:Txt.join fC (aZ (zA zs 13) 5::(aX zs sort m).map bD)++Str.ofString "\n" =Txt.join fC (hdT (.ok (zA zs 13) 5)::((aX zs sort m).map fi.ok++ [fi.bad (Str.ofString "")]).map c7):=by
   rw[xV _ (by simp),Fq,FF,Fe]
   rfl
  have ln1:(Str.ofString "\n").length=1:=by decide
  refine ⟨ν,ω,by lia,.ok (zA zs 13) 5,(aX zs sort m).map fi.ok++ [fi.bad (Str.ofString "")],congrArg (fun z=> [V.str z]) eT,⟨nz13,by decide,by decide⟩,(fun x hx=>?_),by rw[Fa,F7];simp;lia,fun t3 H5 g5 et3=>?_⟩
  ·rcases FM.mp hx with hx|hx
   ·exact rg x hx
   ·rw[FA.mp hx];exact lV
  rw[o2] at et3;refine ⟨ν,by show 2<=sizeLine;decide,fun t4 nt4=>?_⟩
  have g6:=ah nt4 (.tup [.str "room",.int (-1)]);exact ⟨t3,t4,ω,cM.of (g6 _ _ et3),cM.of ac,⟨⟨rfl,trivial⟩,⟨rfl,trivial⟩,trivial⟩,q _ ((((g2.trans g3).trans g4).trans g5).trans g6)⟩
 rintro σ _ ⟨rfl,rfl,em⟩;have mr:m<=if sort=4 then 24 else 12:=by
  rcases hmm with ⟨h,_⟩|⟨_,h⟩
  ·exact absurd h em
  ·exact h
 refine cut (fun σ H'=>∃(l:Addr) (ws:List V),σ= [J9 ln,some (.int sort),some (.int more),some (vN m),J9 rl,some (.str (Txt.join fC (aZ (zA zs 13) 5::(aX zs sort m).map bD))),J9 l]/\ax H2 H'/\H' l=some (.lst ws)/\ws.length=m/\∀(i:Nat) (w:V),ws[i]?=some w->kR zs sort i H' w) (fun N hN=>?_) ?_
 ·exact ⟨ν,ν,ν,zA zs 13,5,aX zs sort m,bC zs sort m,rfl,nz13,by decide,by decide,rok,by lia,kE zz s5 mr,fun r lt ls lk ks H3 rm=>⟨_,r,zs,sort,m,_,ν,rm.a,s5,m30,fun l ws H4 g4 el hl hd=>hN _ _ ⟨l,ws,rfl,rm.fr.trans g4,el,hl,hd⟩⟩⟩
 rintro σ H3 ⟨l,ws,rfl,g3,el,hl,hd⟩;have g23:=g2.trans g3;refine ⟨ν,ν,ν,by lia,by lia,vp (n:=m) (gy zs sort) (fun _=>False) (fun i=>i) i8.no (by lia) (fun a h=>h.elim) (fun i hi H4 g4 Q' hQ=>?_) fun p1 H5 np g5 hp=>?_⟩
 ·exact ⟨ν,ν,ν,ln,zs,sort,i,(by rw[show (0:Int)+(i:Int)=(i:Int) by lia];rfl),(g23.trans g4) _ _ en,zz,s5,(fun c=>by rw[if_neg (by lia)] at m25;lia),by lia,fun v H6 g6 rv=>hQ _ _ g6 (DJ rv fun a ha=> .inl ha)⟩
 ·obtain ⟨us,ep,rp⟩:=hp;obtain ⟨d1,d2⟩:=gX rp;refine ⟨l,p1,ws,us,rfl,rfl,aI.of (g5 _ _ el),aI.of ep,mK (hl.trans d1.symm) fun i x y hx hy=>((hd i x hx).same g5).alk (d2 i y hy),q _ (g23.trans g5)⟩
theorem C2 {dV:Value} (F:a6 K "_law_full_twice" "_law_full_twice" A1 dV f fd):aY P w K mg base bu 1 f fd ["_law_names_here","_law_sort","_law_at"] ju:=by
 have sc:aB ["_law_names_here","_law_sort","_law_at"] ["_law_names_here","_law_sort","_law_at"] (aq A1):=dC (by decide+kernel)
 and_intros
 ·obtain ⟨_,_,_,_,rfl,_⟩:=h
  rfl
 obtain ⟨ln,zs,sort,at_,rfl,en,zz,s5,q⟩:=h;refine ⟨_,(ag (aO (aw bv (pv 1) ae (aE _)) (ai (ay (@bM _ _ _ _ _ ((au aj (au aj ao (av ak (pv 0) (au bj (pv 2) ae) (fun _ _=>rfl))) ao)<*>(ao<*>af))))) aC) (ag (aO (aw bv (pv 1) ae (aE _)) (ai (ay (@bM _ _ _ _ _ ((au aj (au aj ao (av ak (pv 0) (au bj (pv 2) ae) (fun _ _=>rfl))) ao)<*>(ao<*>af))))) aC) (ag (aO (aw bv (pv 1) ae (aE _)) (ai (ay (@bM _ _ _ _ _ ((au aj (au aj (au aj (au aj ao (av ak (pv 0) ae (fun _ _=>rfl))) ao) (av ak (pv 0) (au bj (pv 2) ae) (fun _ _=>rfl))) ao)<*>(ao<*>af))))) aC) (ag (aO (aw bv (pv 1) ae (aE _)) (ai (ay (@bM _ _ _ _ _ ((au aj (au aj (au aj (au aj ao (av ak (pv 0) ae (fun _ _=>rfl))) ao) (av ak (pv 0) (au bj (pv 2) ae) (fun _ _=>rfl))) ao)<*>(ao<*>af))))) aC) (ai (ay (@bM _ _ _ _ _ ((au aj (au aj (au aj ao (av ak (pv 0) (au bj (pv 2) ae) (fun _ _=>rfl))) ao) (av ak (pv 0) ae (fun _ _=>rfl)))<*>(ao<*>af))))))))),?_⟩
 try dsimp only[cxK]
 have sl:sizeLine=16777216:=sizeLine_eq;obtain ⟨z0,hz0,nz0⟩:=zz.at_ (i:=0) (by decide)
 obtain ⟨z12,hz12,nz12⟩:=zz.at_ (i:=12) (by decide)
 have a0:=b7 hz0;have a12:=b7 hz12;have e0:=b8 hz0;have e12:=b8 hz12;have n0:=nz0.len;have n12:=nz12.len;have L:(Str.ofString "take ").length=5/\(Str.ofString " ").length=1/\(Str.ofString " 9").length=2/\(Str.ofString "cut ").length=4/\(Str.ofString " 1 1").length=4/\(Str.ofString "with ").length=5/\(Str.ofString "orwith ").length=7/\(Str.ofString " 8 7").length=4/\(Str.ofString "after ").length=6:=by decide
 obtain ⟨L1,L2,L3,L4,L5,L6,L7,L8,L9⟩:=L;refine ⟨ν,rfl,ν,jE (fun e=>?_) fun n1=>⟨ν,rfl,ν,jE (fun e=>?_) fun n2=>⟨ν,rfl,ν,jE (fun e=>?_) fun n3=>⟨ν,rfl,ν,jE (fun e=>?_) fun n4=>?_⟩⟩⟩⟩
 ·have es:sort=0:=by lia
  subst es;obtain ⟨j,ej,jl⟩:=yK (a:=at_) (n:=12) (by decide)
  have jl:j<12:=by lia
  obtain ⟨z,hz,nz⟩:=zz.at_ (i:=j) (by lia)
  have az:=b7 hz;have ez:=b8 hz;have nl:=nz.len;have k:=DX zz jl;rw[ez] at k;refine ⟨ν,ν,ω,(by show (12:Int)≠0;decide),ln,_,_,.str z,rfl,rfl,aI.of en,(by rw[ej];exact az),ω,(by (try simp only[Str.length_append]);lia),ω,(by (try simp only[Str.length_append]);lia),?_⟩
  rw[xW];exact ⟨by show 2<=sizeLine;decide,fun t nt=>q t _ _ _ (ah nt _) ac k⟩
 ·have es:sort=1:=by lia
  subst es;obtain ⟨j,ej,jl⟩:=yK (a:=at_) (n:=12) (by decide)
  have jl:j<12:=by lia
  obtain ⟨z,hz,nz⟩:=zz.at_ (i:=j) (by lia)
  have az:=b7 hz;have ez:=b8 hz;have nl:=nz.len;have k:=DY zz jl;rw[ez] at k;refine ⟨ν,ν,ω,(by show (12:Int)≠0;decide),ln,_,_,.str z,rfl,rfl,aI.of en,(by rw[ej];exact az),ω,(by (try simp only[Str.length_append]);lia),ω,(by (try simp only[Str.length_append]);lia),?_⟩
  rw[xX];exact ⟨by show 2<=sizeLine;decide,fun t nt=>q t _ _ _ (ah nt _) ac k⟩
 ·have es:sort=2:=by lia
  subst es;obtain ⟨j,ej,jl⟩:=yK (a:=at_) (n:=12) (by decide)
  have jl:j<12:=by lia
  obtain ⟨z,hz,nz⟩:=zz.at_ (i:=j) (by lia)
  have az:=b7 hz;have ez:=b8 hz;have nl:=nz.len;have k:=DZ zz jl;rw[ez,e0] at k;refine ⟨ν,ln,_,ω,aI.of en,a0,ω,(by (try simp only[Str.length_append]);lia),ω,(by (try simp only[Str.length_append]);lia),ν,ν,ω,(by show (12:Int)≠0;decide),ln,_,_,.str z,rfl,rfl,aI.of en,(by rw[ej];exact az),ω,(by (try simp only[Str.length_append]);lia),ω,(by (try simp only[Str.length_append]);lia),?_⟩
  rw[show Str.ofString "with " =oO false from rfl,r8]
  exact ⟨by show 2<=sizeLine;decide,fun t nt=>q t _ _ _ (ah nt _) ac k⟩
 ·have es:sort=3:=by lia
  subst es;obtain ⟨j,ej,jl⟩:=yK (a:=at_) (n:=12) (by decide)
  have jl:j<12:=by lia
  obtain ⟨z,hz,nz⟩:=zz.at_ (i:=j) (by lia)
  have az:=b7 hz;have ez:=b8 hz;have nl:=nz.len;have k:=D1 zz jl;rw[ez,e0] at k;refine ⟨ν,ln,_,ω,aI.of en,a0,ω,(by (try simp only[Str.length_append]);lia),ω,(by (try simp only[Str.length_append]);lia),ν,ν,ω,(by show (12:Int)≠0;decide),ln,_,_,.str z,rfl,rfl,aI.of en,(by rw[ej];exact az),ω,(by (try simp only[Str.length_append]);lia),ω,(by (try simp only[Str.length_append]);lia),?_⟩
  rw[show Str.ofString "orwith " =oO true from rfl,r8]
  exact ⟨by show 2<=sizeLine;decide,fun t nt=>q t _ _ _ (ah nt _) ac k⟩
 ·have es:sort=4:=by lia
  subst es;obtain ⟨j,ej,jl⟩:=yK (a:=at_) (n:=3) (by decide)
  have jl:j<3:=by lia
  obtain ⟨z,hz,nz⟩:=zz.at_ (i:=j) (by lia)
  have az:=b7 hz;have ez:=b8 hz;have nl:=nz.len;have k:=D2 zz jl;rw[ez,e12] at k;refine ⟨ν,ν,ω,(by show (3:Int)≠0;decide),ln,_,_,.str z,rfl,rfl,aI.of en,(by rw[ej];exact az),ω,(by (try simp only[Str.length_append]);lia),ω,(by (try simp only[Str.length_append]);lia),ν,ln,_,ω,aI.of en,a12,ω,(by (try simp only[Str.length_append]);lia),?_⟩
  rw[xY];exact ⟨by show 2<=sizeLine;decide,fun t nt=>q t _ _ _ (ah nt _) ac k⟩
theorem C3 {dV:Value} (F:a6 K "_law_full_wrong" "_law_full_wrong" A3 dV f fd):aY P w K mg base bu 1 f fd ["_law_names_here","_law_sort","_law_at"] jv:=by
 have sc:aB ["_law_names_here","_law_sort","_law_at","_law_some"] ["_law_names_here","_law_sort","_law_at"] (aq A3):=dC (by decide+kernel)
 and_intros
 ·obtain ⟨_,_,_,_,rfl,_⟩:=h
  rfl
 obtain ⟨ln,zs,sort,at_,rfl,en,zz,s5,q⟩:=h;refine ⟨_,(ag (cU 3 sc (@bw _ _ _ _ ((au aj (au aj ao (av ak (pv 0) ae (fun _ _=>rfl))) ao)<*>((au aj (au aj ao (av ak (pv 0) ae (fun _ _=>rfl))) ao)<*>af)))) (ag (bi (cZ FY Fc Fb bG (pv 3) ((au aj (au aj (au aj (au aj ao (av ak (pv 0) ae (fun _ _=>rfl))) ao) (av ak (pv 0) ae (fun _ _=>rfl))) ao)<*>af))) (ag (bi (cZ FY Fc Fb bG (pv 3) ((au aj (au aj (au aj (au aj ao (av ak (pv 0) ae (fun _ _=>rfl))) ao) (av ak (pv 0) ae (fun _ _=>rfl))) ao)<*>af))) (ag (bi (cZ FY Fc Fb bG (pv 3) ((au aj (au aj (au aj (au aj ao (av ak (pv 0) (au bj (pv 2) ae) (fun _ _=>rfl))) ao) (av ak (pv 0) (au bj (pv 2) ae) (fun _ _=>rfl))) ao)<*>af))) (ai (ay (@bM _ _ _ _ _ ((av ak (pv 3) (pv 1) (fun _ _=>rfl))<*>(ao<*>af))))))))),?_⟩
 try dsimp only[cxK]
 have sl:sizeLine=16777216:=sizeLine_eq;obtain ⟨z0,hz0,nz0⟩:=zz.at_ (i:=0) (by decide)
 obtain ⟨z12,hz12,nz12⟩:=zz.at_ (i:=12) (by decide)
 obtain ⟨j,ej,jl⟩:=yK (a:=at_) (n:=3) (by decide)
 obtain ⟨z,hz,nz⟩:=zz.at_ (i:=j) (by lia)
 have a0:=b7 hz0;have a12:=b7 hz12;have az:=b7 hz;have n0:=nz0.len;have n12:=nz12.len;have nl:=nz.len;have L:(Str.ofString "take ").length=5/\(Str.ofString " ").length=1/\(Str.ofString " 0").length=2/\(Str.ofString "rest ").length=5/\(Str.ofString " 2 1").length=4/\(Str.ofString "with ").length=5/\(Str.ofString "orwith ").length=7/\(Str.ofString " 9 0").length=4/\(Str.ofString " 1 1001").length=7/\(Str.ofString "within ").length=7/\(Str.ofString " 1").length=2:=by decide
 obtain ⟨L1,L2,L3,L4,L5,L6,L7,L8,L9,L10,L11⟩:=L;refine cut (fun σ H'=>∃l,σ= [J9 ln,some (.int sort),some (.int at_),J9 l]/\ax H H'/\H l=none/\H' l=some (.lst ([jB ["take",z12,aA 0],jB ["rest",z12,aA 2,aA 1]].map V.str))) (fun N hN=>?_) ?_
 ·refine ⟨ν,ln,_,ω,aI.of en,a12,ω,(by (try simp only[Str.length_append]);lia),ω,(by (try simp only[Str.length_append]);lia),ν,ln,_,ω,aI.of en,a12,ω,(by (try simp only[Str.length_append]);lia),ω,(by (try simp only[Str.length_append]);lia),?_⟩
  rw[Al,Ao];exact ⟨by show 2<=sizeLine;decide,fun l nl=>hN _ _ ⟨l,rfl,ah nl _,nl,ac⟩⟩
 rintro σ H1 ⟨l,rfl,g1,nl1,e1⟩;refine cut (fun σ H'=>σ= [J9 ln,some (.int sort),some (.int at_),J9 l]/\ax H H'/\H' l=some (.lst ([jB ["take",z12,aA 0],jB ["rest",z12,aA 2,aA 1],jB ["with",z0,z12,aA 9,aA 0]].map V.str))) (fun N hN=>?_) ?_
 ·refine ⟨ν,.inl ⟨rfl,_,aI.of e1⟩,ν,ln,_,ω,aI.of (g1 _ _ en),a0,ω,(by (try simp only[Str.length_append]);lia),ω,(by (try simp only[Str.length_append]);lia),ν,ln,_,ω,aI.of (g1 _ _ en),a12,ω,(by (try simp only[Str.length_append]);lia),ω,(by (try simp only[Str.length_append]);lia),?_⟩
  rw[Ap];exact ⟨l,ω,e1,by simp;lia,hN _ _ ⟨rfl,ja g1 nl1 _,by rw[ac];rfl⟩⟩
 rintro σ H2 ⟨rfl,g2,e2⟩;refine cut (fun σ H'=>σ= [J9 ln,some (.int sort),some (.int at_),J9 l]/\ax H H'/\H' l=some (.lst ([jB ["take",z12,aA 0],jB ["rest",z12,aA 2,aA 1],jB ["with",z0,z12,aA 9,aA 0],jB ["orwith",z0,z12,aA 1,aA 1001]].map V.str))) (fun N hN=>?_) ?_
 ·refine ⟨ν,.inl ⟨rfl,_,aI.of e2⟩,ν,ln,_,ω,aI.of (g2 _ _ en),a0,ω,(by (try simp only[Str.length_append]);lia),ω,(by (try simp only[Str.length_append]);lia),ν,ln,_,ω,aI.of (g2 _ _ en),a12,ω,(by (try simp only[Str.length_append]);lia),ω,(by (try simp only[Str.length_append]);lia),?_⟩
  rw[Ci];exact ⟨l,ω,e2,by simp;lia,hN _ _ ⟨rfl,ja g2 nl1 _,by rw[ac];rfl⟩⟩
 rintro σ H3 ⟨rfl,g3,e3⟩;refine cut (fun σ H'=>σ= [J9 ln,some (.int sort),some (.int at_),J9 l]/\ax H H'/\H' l=some (.lst ([jB ["take",z12,aA 0],jB ["rest",z12,aA 2,aA 1],jB ["with",z0,z12,aA 9,aA 0],jB ["orwith",z0,z12,aA 1,aA 1001],jB ["within",z,z,aA 1]].map V.str))) (fun N hN=>?_) ?_
 ·refine ⟨ν,.inl ⟨rfl,_,aI.of e3⟩,ν,ν,ω,(by show (3:Int)≠0;decide),ln,_,_,.str z,rfl,rfl,aI.of (g3 _ _ en),(by rw[ej];exact az),ω,(by (try simp only[Str.length_append]);lia),ω,(by (try simp only[Str.length_append]);lia),ν,ν,ω,(by show (3:Int)≠0;decide),ln,_,_,.str z,rfl,rfl,aI.of (g3 _ _ en),(by rw[ej];exact az),ω,(by (try simp only[Str.length_append]);lia),ω,(by (try simp only[Str.length_append]);lia),?_⟩
  rw[wc];exact ⟨l,ω,e3,by simp;lia,hN _ _ ⟨rfl,ja g3 nl1 _,by rw[ac];rfl⟩⟩
 rintro σ H4 ⟨rfl,g4,e4⟩;have fin:∀w,kH ([jB ["take",z12,aA 0],jB ["rest",z12,aA 2,aA 1],jB ["with",z0,z12,aA 9,aA 0],jB ["orwith",z0,z12,aA 1,aA 1001],jB ["within",z,z,aA 1]].map V.str) (sort:Int)=some (.str w)->gu (.bad w)->ze (Bu (qJ (yr (uo K) (sI 3) (sI 1)) (qJ (tC (V.str "row")) zi))) {nx:=fun x H'=>Q V.non H',rt:=Q} [some (.ref ln),some (.int sort),some (.int at_),some (.ref l)] H4:=fun w hw hb=>⟨_,rfl,_,rfl,l,_,_,_,rfl,rfl,aI.of e4,hw,by show 2<=sizeLine;decide,fun t nt=>q t _ w (g4.trans (ah nt _)) ac hb⟩
 match sort,s5,fin with
 |0,_,fin=>exact fin _ rfl (se nz12)
 |1,_,fin=>exact fin _ rfl (wa nz12)
 |2,_,fin=>exact fin _ rfl (oV nz0 nz12)
 |3,_,fin=>exact fin _ rfl (lW nz0 nz12)
 |4,_,fin=>exact fin _ rfl (tP nz)
theorem pk {dV:Value} (F:a6 K "_law_full" "_law_full" ir dV f fd) (DZ37:Dx P w K mg base bu 12 "_law_refusal" ["_law_thing"] [] gU) (DZ39:Dx P w K mg base bu 2 "_law_ahead" ["_law_names_here","_law_sort"] [] kD) (DZ40:Dx P w K mg base bu 1 "_law_sort_row" ["_law_names_here","_law_sort","_law_k"] [] jj) (DZ44:Dx P w K mg base bu 1 "_law_full_twice" ["_law_names_here","_law_sort","_law_at"] [] ju) (DZ45:Dx P w K mg base bu 1 "_law_full_wrong" ["_law_names_here","_law_sort","_law_at"] [] jv):aY P w K mg base bu 13 f fd ["_law_names_here","_law_sort","_law_at","_law_wrong"] sk:=by
 have sc:aB ["_law_names_here","_law_sort","_law_at","_law_wrong","_law_room","_law_rows","_law_row","_law_due_here"] ["_law_names_here","_law_sort","_law_at","_law_wrong"] (aq ir):=dC (by decide+kernel)
 and_intros
 ·obtain ⟨_,_,_,_,_,rfl,_⟩:=h
  rfl
 obtain ⟨ln,zs,sort,at_,wr,rfl,en,zz,s5,q⟩:=h;refine ⟨_,(@ag _ _ _ _ _ (@pE _ _ 4 _ _ _ _ sc.nd rfl (Or.inl rfl) (@av _ _ _ _ _ _ _ ak (@bw _ _ _ _ (ae<*>(ae<*>(ae<*>(ae<*>(ae<*>af)))))) (pv 1) (fun _ _=>rfl)) rfl (Or.inr rfl)) (ag (cU 5 sc (au fu (dN DZ39 hr ((pv 0)<*>((pv 1)<*>af))) (fW (hd:=none) (own:= "_law_k") (ys:= ["_law_names_here","_law_sort"]) (js:= [0,1]) hr.hd (tj (wB (wB qX)) (.cons rfl (.cons rfl .nil)) (by decide) rfl rfl rfl rfl rfl rfl rfl rfl) (eW rfl B.Hz ((pv 4)<*>af)) (fun C fp s H=>(dN DZ40 hr ((pv 1)<*>((pv 2)<*>((pv 0)<*>af)))))))) (ag (t9 (dN DZ44 hr ((pv 0)<*>((pv 1)<*>((pv 2)<*>af)))) (iY rfl (cf (sy 6 sc) (cf (sy 7 sc) gC)))) (ag (aO (cX (pv 3)) (ai (t9 (dN DZ45 hr ((pv 0)<*>((pv 1)<*>((pv 2)<*>af)))) (iY rfl (cf (sy 6 sc) (cf (sy 7 sc) gC))))) aC) (ai (ay (eG (jK 0 (GP (GX (by decide:0+1<64) _) hr.units)) (dN DZ37 hr ((cZ G4 PySem.F.slot_str_join PySem.F.type_str_join jI ao ((au fu (pv 5) (@bw _ _ _ _ ((pv 6)<*>(ao<*>af))))<*>af))<*>af)) (@bM _ _ _ _ _ ((pv 7)<*>((aU cB rfl B.HR boot_len ((pv 5)<*>af))<*>af))) (aE _)))))))),?_⟩
 try dsimp only[cxK]
 have sl:sizeLine=16777216:=sizeLine_eq;have nz13:=zz.zA_nm (i:=13) (by decide)
 have m24:hG sort<=24:=by unfold hG;split<;>decide
 refine cut (fun σ H'=>σ= [J9 ln,some (.int sort),some (.int at_),some (.bl wr),some (vN (hG sort)),none,none,none]/\ax H H') (fun N hN=>?_) ?_
 ·refine ⟨by show 5<=sizeLine;decide,fun l nl=>⟨ν,?_⟩⟩
  have g1:=ah nl (.lst [.int 12,.int 12,.int 12,.int 12,.int 24]);have hw:kH [V.int 12,.int 12,.int 12,.int 12,.int 24] (sort:Int)=some (vN (hG sort)):=by
   match sort,s5 with
   |0,_=>rfl
   |1,_=>rfl
   |2,_=>rfl
   |3,_=>rfl
   |4,_=>rfl
  exact ⟨l,_,ω,aI.of ac,hw,hN _ _ ⟨rfl,g1⟩⟩
 rintro σ H1 ⟨rfl,g1⟩;have rok:=oQ (m:=hG sort) zz s5 (by unfold hG;split<;>lia)
 obtain ⟨hx1,hx2⟩:=gn (p:=5) nz13 (by decide)
 have rlen:=tQ zs (m:=hG sort) s5 (by lia)
 refine cut (fun σ H'=>∃rl,σ= [J9 ln,some (.int sort),some (.int at_),some (.bl wr),some (vN (hG sort)),J9 rl,none,none]/\ax H H'/\H' rl=some (.lst ((aZ (zA zs 13) 5::(aX zs sort (hG sort)).map bD).map V.str))) (fun N hN=>?_) ?_
 ·refine ⟨ν,ν,ln,zs,sort,rfl,g1 _ _ en,zz,s5,fun la H2 g2 nla ela=>⟨ν,ν,by lia,by lia,?_⟩⟩
  have g12:=g1.trans g2;refine iD (n:=hG sort) (fun i y=>y= .str (bD (cL zs sort i))) i8.no (by lia) (fun i hi H3 g3 Q' hQ=>?_) (fun p ys H' np hl ht g' e'=>?_)
  ·exact ⟨ν,ν,ν,ln,zs,sort,i,(by rw[show (0:Int)+(i:Int)=(i:Int) by lia];rfl),(g12.trans g3) _ _ en,zz,s5,(fun c=>by unfold hG at hi;rw[if_neg (by lia)] at hi;lia),by lia,hQ _ _ rfl (.refl _)⟩
  ·have ey:=f8 (g:=fun k=>bD (cL zs sort k)) hl fun i y hy=>ht i y hy
   rw[ey] at e';refine ⟨la,p,ω,g' _ _ ela,e',?_,fun s5' ns5=>hN _ _ ⟨s5',rfl,(g12.trans g').trans (ah ns5 _),?_⟩⟩
   ·have:=rlen;unfold aX at this;simp at this⊢
    lia
   ·rw[ac,<-FF,Fq];unfold aX;rw[FF,Fe]
    rfl
 rintro σ H2 ⟨rl,rfl,g2,erl⟩;refine cut (fun σ H'=>∃(rr:Rr) (due:Str),σ= [J9 ln,some (.int sort),some (.int at_),some (.bl wr),some (vN (hG sort)),J9 rl,some (.str (bD rr)),some (.str due)]/\ax H2 H'/\oS zs sort rr due) (fun N hN=>?_) ?_
 ·exact ⟨ν,ν,ν,ln,zs,sort,at_,rfl,g2 _ _ en,zz,s5,fun t H3 rr due g3 et ft=>⟨_,ν,cM.of et,rfl,_,ν,ω,hN _ _ ⟨rr,due,rfl,g3,ft⟩⟩⟩
 rintro σ H3 ⟨rr,due,rfl,g3,ft⟩;refine cut (fun σ H'=>∃(x:fi) (due:Str),σ= [J9 ln,some (.int sort),some (.int at_),some (.bl wr),some (vN (hG sort)),J9 rl,some (.str (c7 x)),some (.str due)]/\ax H2 H'/\yZ zs sort x due) (fun N hN=>?_) ?_
 ·refine ⟨ν,wr,rfl,?_⟩;cases wr with
  |false=>exact cg (hN _ _ ⟨.ok rr,due,rfl,g3,ft.1,.inl ⟨rr,rfl,ft⟩⟩)
  |true=>exact fU ⟨_,rfl,_,rfl,_,rfl,ln,zs,sort,at_,rfl,(g2.trans g3) _ _ en,zz,s5,fun t H4 z g4 et bz=>⟨_,_,rfl,cM.of et,rfl,_,_,rfl,_,_,rfl,rfl,hN _ _ ⟨.bad z,"row",rfl,g3.trans g4,bz,.inr ⟨z,rfl,rfl⟩⟩⟩⟩
 clear ft g3 H3 due rr;rintro σ H3 ⟨x,due,rfl,g3,lf⟩;have o:=wn (n:=zA zs 13) (p:=5) (ts:= [.bad (Str.ofString "rest")]) zz s5 lf;have rg:∀y∈(aX zs sort (hG sort)).map fi.ok++ [x,.bad (Str.ofString "rest")],gu y:=fun y hy=>by
  rcases FM.mp hy with hy|hy
  ·obtain ⟨r,hr',rfl⟩:=FE.mp hy;exact rok r hr'
  ·rcases F4.mp hy with rfl|hy
   ·exact lf.1
   ·rw[FA.mp hy];exact wm
 have rl2:((aX zs sort (hG sort)).map fi.ok++ [x,.bad (Str.ofString "rest")]).length<=1000:=by simp;lia
 have e3:=g3 _ _ erl;have rws:(aX zs sort (hG sort)).length+1=(aZ (zA zs 13) 5::(aX zs sort (hG sort)).map bD).length:=by simp
 have cl:((aZ (zA zs 13) 5::(aX zs sort (hG sort)).map bD).map V.str).length+([V.str (c7 x),V.str "rest"]:List V).length<=sizeLine:=by simp;lia
 refine ⟨rfl,ν,ν,by show 2<=sizeLine;decide,fun l2 n2=>⟨rl,l2,ω,ah n2 _ _ _ e3,ac,cl,fun l3 n3=>?_⟩⟩
 have ej:(aZ (zA zs 13) 5::(aX zs sort (hG sort)).map bD).map V.str++ [V.str (c7 x),V.str "rest"]=((aZ (zA zs 13) 5::(aX zs sort (hG sort)).map bD)++ [c7 x,c7 (.bad (Str.ofString "rest"))]).map V.str:=by
  rw[FF]
  rfl
 rw[ej];refine ⟨_,l3,ν,rfl,aI.of ac,by decide,?_,?_⟩
 ·rw[Fq,<-show ((aX zs sort (hG sort)).map fi.ok++ [x,.bad (Str.ofString "rest")]).map c7=(aX zs sort (hG sort)).map bD++ [c7 x,c7 (.bad (Str.ofString "rest"))] by rw[FF,Fe];rfl]
  exact wp hx2 rg rl2
 have gN:=(ah n2 (.lst [V.str (c7 x),V.str "rest"])).trans (ah n3 (.lst (((aZ (zA zs 13) 5::(aX zs sort (hG sort)).map bD)++ [c7 x,c7 (.bad (Str.ofString "rest"))]).map V.str)));refine ⟨.ok (zA zs 13) 5,(aX zs sort (hG sort)).map fi.ok++ [x,.bad (Str.ofString "rest")],congrArg (fun z=> [V.str z]) (sr _ _ x (.bad (Str.ofString "rest"))),⟨nz13,by decide,by decide⟩,rg,rl2,fun t H5 g5 et=>?_⟩
 have o':kQ (.ok (zA zs 13) 5) ((aX zs sort (hG sort)).map fi.ok++ [x,.bad (Str.ofString "rest")])=_:=o;rw[o'] at et;have gA:=gN.trans g5;refine ⟨ν,ν,rl,ν,.inl (aI.of (gA _ _ e3)),by show 2<=sizeLine;decide,fun t2 nt2=>?_⟩
 have elen:(((aZ (zA zs 13) 5::(aX zs sort (hG sort)).map bD).map V.str).length:Int)=((1+(aX zs sort (hG sort)).length:Nat):Int):=by simp;lia
 rw[elen];have g6:=ah nt2 (.tup [.str due,.int ((1+(aX zs sort (hG sort)).length:Nat):Int)]);exact ⟨t,t2,ω,cM.of (g6 _ _ et),cM.of ac,⟨⟨rfl,trivial⟩,⟨rfl,trivial⟩,trivial⟩,q _ (((g2.trans g3).trans gA).trans g6)⟩
theorem iW {dV:Value} (F:a6 K "_law_two_faults" "_law_two_faults" dn dV f fd) (DZ37:Dx P w K mg base bu 12 "_law_refusal" ["_law_thing"] [] gU) (DZ38:Dx P w K mg base bu 1 "_law_steps" ["_law_names_here","_law_many"] [] kC):yb P w K mg base 13 f fd ["_law_names_here","_law_a","_law_b"] ww:=by
 have sc:aB ["_law_names_here","_law_a","_law_b","_law_rows","_law_some","_law_row","_law_due_here","_law_text"] ["_law_names_here","_law_a","_law_b"] (aq dn):=dC (by decide+kernel)
 refine F.okT sc (fun n vs H Q h=>?_) (fun cdv A outer s H vs n Q hr h=>?_)
 ·obtain ⟨_,_,_,_,rfl,_⟩:=h
  rfl
 obtain ⟨ln,zt,a,b,rfl,en,zz,tz,ha,hb,q⟩:=h;refine ⟨_,(aN (cc (cU 3 sc (@bw _ _ _ _ ((au aj (au aj ao (gB (av ak (pv 0) ae (fun _ _=>rfl)))) ao)<*>((au aj (au aj ao (gB (av ak (pv 0) ae (fun _ _=>rfl)))) ao)<*>((au aj (au aj ao (gB (av ak (pv 0) ae (fun _ _=>rfl)))) ao)<*>af)))))) (aN (cc (bi (cZ FY Fc Fb bG (pv 3) ((au aj (au aj (au aj (au aj ao (gB (av ak (pv 0) ae (fun _ _=>rfl)))) ao) (gB (av ak (pv 0) ae (fun _ _=>rfl)))) ao)<*>af)))) (aN (cc (cU 3 sc (au fu (pv 3) (dN DZ38 hr ((wg (fT ix (pv 0) (eH ae) gD))<*>((au bj (pv 2) ae)<*>af)))))) (aN (cc (cU 4 sc (rB (cF (cF (cF (cF (cF (cF (cF rA)))))))))) (aN (cc (cU 4 sc (au fu (pv 4) (rB (cF (cF (cF (cF (cF (cF rA)))))))))) (aN (fK (i:=5) sc.nd rfl (Or.inl rfl) (gz (fJ (av ak (pv 4) (au bj (pv 1) ae) (fun _ _=>rfl))) (fJ (av ak (pv 0) ae (fun _ _=>rfl))))) (aN (fK (i:=5) sc.nd rfl (Or.inl rfl) (gz (fJ (pv 5)) (fJ (av ak (pv 0) ae (fun _ _=>rfl))))) (aN (fK (i:=5) sc.nd rfl (Or.inl rfl) (gz (fJ (pv 5)) (fJ (av ak (pv 0) ae (fun _ _=>rfl))))) (aN (fK (i:=5) sc.nd rfl (Or.inl rfl) (gz (gz (fJ (pv 5)) (fJ (av ak (pv 0) ae (fun _ _=>rfl)))) (we (by rfl) B.HF (au cw ae (pv 2))))) (aN (cc (cU 6 sc (av ak (@bw _ _ _ _ (ao<*>(ao<*>af))) (au eV (au bj (pv 1) ae) ae) (fun _ _=>rfl)))) (aN (cc (cU 7 sc (cZ G4 PySem.F.slot_str_join PySem.F.type_str_join jI ao ((au fu (pv 3) (@bw _ _ _ _ ((pv 5)<*>((av ak (@bw _ _ _ _ (ao<*>(ao<*>((pv 5)<*>af)))) (au bj (pv 2) ae) (fun _ _=>rfl))<*>af))))<*>af)))) (aN (cc (ay (eG (jK 0 (GP (GX (by decide:0+1<64) _) hr.units)) (dN DZ37 hr ((pv 7)<*>af)) (@bM _ _ _ _ _ ((pv 6)<*>((aU cB rfl B.HR boot_len ((pv 3)<*>af))<*>af))) (aE _)))) iU)))))))))))),?_⟩
 try dsimp only[cxK]
 have sl:sizeLine=16777216:=sizeLine_eq;obtain ⟨zs,ezs⟩:∃zs:J4,zs=(zt.map (·.1)):=⟨_,rfl⟩;obtain ⟨t0,a0,t00,t0n⟩:=ph zz (i:=0) (by decide) tz
 obtain ⟨t1,a1,t10,t1n⟩:=ph zz (i:=1) (by decide) tz
 obtain ⟨t11,a11,t110,t11n⟩:=ph zz (i:=11) (by decide) tz
 obtain ⟨t12,a12,t120,t12n⟩:=ph zz (i:=12) (by decide) tz
 obtain ⟨t13,a13,t130,t13n⟩:=ph zz (i:=13) (by decide) tz
 have sd:=yk zt;rw[<-ezs] at zz a0 a1 a11 a12 a13 sd;have n0:=zz.zA_nm (i:=0) (by decide)
 have n1:=zz.zA_nm (i:=1) (by decide)
 have n11:=zz.zA_nm (i:=11) (by decide)
 have n12:=zz.zA_nm (i:=12) (by decide)
 have n13:=zz.zA_nm (i:=13) (by decide)
 have l0:=n0.len;have l1:=n1.len;have l11:=n11.len;have l12:=n12.len;have l13:=n13.len;have L:(Str.ofString "take ").length=5/\(Str.ofString " ").length=1/\(Str.ofString " 5").length=2/\(Str.ofString "cut ").length=4/\(Str.ofString " 1 2").length=4/\(Str.ofString "with ").length=5/\(Str.ofString "dish ").length=5/\(Str.ofString " 2").length=2/\(Str.ofString " 1 0").length=4:=by decide
 obtain ⟨L1,L2,L3,L4,L5,L6,L7,L8,L9⟩:=L;refine fL (fun m σ H'=>m=n/\∃rl,σ= [J9 ln,some (.int (a:Nat)),some (.int (b:Nat)),J9 rl,none,none,none,none]/\ax H H'/\H rl=none/\H' rl=some (.lst (([aZ (zA zs 13) 5,bD (.take (zA zs 1) (2,1)),bD (.step "cut" (zA zs 0) 1 2 none)]:J4).map V.str))) (fun N hN=>?_) ?_
 ·refine ⟨ν,ln,_,ω,aI.of en,a13,_,ν,ω,(by (try simp only[Str.length_append]);lia),ω,(by (try simp only[Str.length_append]);lia),ν,ln,_,ω,aI.of en,a1,_,ν,ω,(by (try simp only[Str.length_append]);lia),ω,(by (try simp only[Str.length_append]);lia),ν,ln,_,ω,aI.of en,a0,_,ν,ω,(by (try simp only[Str.length_append]);lia),ω,(by (try simp only[Str.length_append]);lia),?_⟩
  rw[lT,yj,m8];exact ⟨by show 3<=sizeLine;decide,fun l nl=>hN _ _ _ ⟨rfl,l,rfl,ah nl _,nl,ac⟩⟩
 rintro m σ H1 ⟨rfl,rl,rfl,g1,nrl,e1⟩;refine fL (fun m' σ H'=>m'=m/\σ= [J9 ln,some (.int (a:Nat)),some (.int (b:Nat)),J9 rl,none,none,none,none]/\ax H H'/\H' rl=some (.lst (([aZ (zA zs 13) 5,bD (.take (zA zs 1) (2,1)),bD (.step "cut" (zA zs 0) 1 2 none)]++ [bD (.use false (zA zs 0) (zA zs 1,1,0))]:J4).map V.str))) (fun N hN=>?_) ?_
 ·refine ⟨ν,.inl ⟨rfl,_,aI.of e1⟩,ν,ln,_,ω,aI.of (g1 _ _ en),a0,_,ν,ω,(by (try simp only[Str.length_append]);lia),ω,(by (try simp only[Str.length_append]);lia),ν,ln,_,ω,aI.of (g1 _ _ en),a1,_,ν,ω,(by (try simp only[Str.length_append]);lia),ω,(by (try simp only[Str.length_append]);lia),?_⟩
  rw[show Str.ofString "with " =oO false from rfl,m9]
  exact ⟨rl,ω,e1,by simp;lia,hN _ _ _ ⟨rfl,rfl,ja g1 nrl _,by rw[ac];rfl⟩⟩
 rintro m' σ H2 ⟨rfl,rfl,g2,e2⟩;obtain ⟨k3,ek3,k3l⟩:=yK (a:=(b:Int)) (n:=3) (by decide)
 obtain ⟨a13',ea13,a13l⟩:=yK (a:=(a:Int)) (n:=13) (by decide)
 have hk:k3<=2:=by lia
 have hA:a13'<13:=by lia
 have er:([aZ (zA zs 13) 5,bD (.take (zA zs 1) (2,1)),bD (.step "cut" (zA zs 0) 1 2 none)]++ [bD (.use false (zA zs 0) (zA zs 1,1,0))]++(FI k3).map fun k=>bD (ic (zs.drop 2) k):J4)=aZ (zA zs 13) 5::(cA zs k3).map bD:=by
  unfold cA;rw[FF,Fe]
  rfl
 refine fL (fun m σ H'=>m=m'/\∃rr,σ= [J9 ln,some (.int (a:Nat)),some (.int (b:Nat)),J9 rr,none,none,none,none]/\ax H H'/\H' rr=some (.lst ((aZ (zA zs 13) 5::(cA zs k3).map bD).map V.str))) (fun N hN=>?_) ?_
 ·refine ⟨ν,ν,ν,ln,ν,aI.of (g2 _ _ en),fun p hp=>⟨p,zt.drop 2,rfl,by rw[ac,tU],?_⟩⟩
  have gp:ax H (aL (aL H2 p (.lst (dQ (kF zt) (some 2) none))) p (.lst (pz (zt.drop 2)))):=by
   rw[qD];exact g2.trans (ah hp _)
  have ep:aL (aL H2 p (.lst (dQ (kF zt) (some 2) none))) p (.lst (pz (zt.drop 2))) p=some (.lst ((zs.drop 2).map V.str)):=by rw[ac,sd]
  have e2p:aL (aL H2 p (.lst (dQ (kF zt) (some 2) none))) p (.lst (pz (zt.drop 2))) rl=some (.lst (([aZ (zA zs 13) 5,bD (.take (zA zs 1) (2,1)),bD (.step "cut" (zA zs 0) 1 2 none)]++ [bD (.use false (zA zs 0) (zA zs 1,1,0))]:J4).map V.str)):=by
   rw[qD];exact ah hp _ _ _ e2
  generalize aL (aL H2 p (.lst (dQ (kF zt) (some 2) none))) p (.lst (pz (zt.drop 2)))=Hp at gp ep e2p⊢;have zl:=zz.len;refine ⟨ν,ω,(by show (3:Int)≠0;decide),p,zs.drop 2,k3,(by show [V.ref p,V.int ((b:Int).fmod 3)]=_;rw[ek3]),ep,by rw[G6];lia,by lia,(fun z hz=>zz.nm z (List.mem_of_mem_drop hz)),fun l H3 g3 nl el=>⟨rl,l,ω,g3 _ _ e2p,el,by simp;lia,fun r nr=>hN _ _ _ ⟨rfl,r,rfl,(gp.trans g3).trans (ah nr _),?_⟩⟩⟩
  rw[ac,<-FF,er]
 rintro m σ H3 ⟨rfl,rr,rfl,g3,e3⟩;clear g2 e2 g1 e1 nrl rl;refine fL (fun m' σ H'=>m'=m/\∃ls,σ= [J9 ln,some (.int (a:Nat)),some (.int (b:Nat)),J9 rr,J9 ls,none,none,none]/\ax H H'/\H' rr=some (.lst ((aZ (zA zs 13) 5::(cA zs k3).map bD).map V.str))/\H' ls=some (.lst ((["with N M 0 0","or N 2 1","orwith N M 1 1001","after N N","within N S X","apart N","take T 0"]:J4).map V.str))) (fun N hN=>?_) ?_
 ·exact ⟨by show 7<=sizeLine;decide,fun l nl=>hN _ _ _ ⟨rfl,l,rfl,g3.trans (ah nl _),ah nl _ _ _ e3,ac⟩⟩
 rintro m' σ H4 ⟨rfl,ls,rfl,g4,e4,el4⟩;refine fL (fun m σ H'=>m=m'/\∃ls,σ= [J9 ln,some (.int (a:Nat)),some (.int (b:Nat)),J9 rr,J9 ls,none,none,none]/\ax H H'/\H' rr=some (.lst ((aZ (zA zs 13) 5::(cA zs k3).map bD).map V.str))/\H' ls=some (.lst (Ec.map V.str))) (fun N hN=>?_) ?_
 ·exact ⟨ν,by show 6<=sizeLine;decide,fun l nl=>⟨ls,l,ω,ah nl _ _ _ el4,ac,by show 13<=sizeLine;decide,fun r nr=>hN _ _ _ ⟨rfl,r,rfl,(g4.trans (ah nl _)).trans (ah nr _),ah nr _ _ _ (ah nl _ _ _ e4),ac⟩⟩⟩
 rintro m σ H5 ⟨rfl,lt,rfl,g5',e5,el5⟩;obtain ⟨w,ew,wj,wl⟩:=Cp hA;have en5:=g5' _ _ en;obtain ⟨F,eF⟩:∃F:eQ,F=⟨zA zs 12,zA zs 11,zA zs 0,zA zs 1,aA (100001+b)⟩:=⟨_,rfl⟩;have fo:jk F b:=by rw[eF];exact ⟨n12,n11,n0,n1,rfl,hb⟩
 obtain ⟨r1,er1⟩:∃r:Str,r=Txt.replace w (bE [78]) (zA zs 12):=⟨_,rfl⟩;obtain ⟨r2,er2⟩:∃r:Str,r=Txt.replace r1 (bE [77]) (zA zs 11):=⟨_,rfl⟩;obtain ⟨r3,er3⟩:∃r:Str,r=Txt.replace r2 (bE [83]) (zA zs 0):=⟨_,rfl⟩;obtain ⟨r4,er4⟩:∃r:Str,r=Txt.replace r3 (bE [84]) (zA zs 1):=⟨_,rfl⟩;have q1:r1.length<=20*13:=by rw[er1];exact FH (jQ _ _ _) (Nat.mul_le_mul wl (by lia))
 have q2:r2.length<=20*13*13:=by rw[er2];exact FH (jQ _ _ _) (Nat.mul_le_mul q1 (by lia))
 have q3:r3.length<=20*13*13*13:=by rw[er3];exact FH (jQ _ _ _) (Nat.mul_le_mul q2 (by lia))
 have q4:r4.length<=20*13*13*13*13:=by rw[er4];exact FH (jQ _ _ _) (Nat.mul_le_mul q3 (by lia))
 have bd:∀{u v c d:Nat},u<=c->v<=d->u+(u+1)*v<=c+(c+1)*d:=fun h k=>Nat.add_le_add h (Nat.mul_le_mul (Nat.succ_le_succ h) k)
 have row:Txt.replace r4 (bE [88]) (aA (100001+b))=c7 (nB F a13'):=by
  rw[Co hA,<-D7 F fo.low _ wj,er4,er3,er2,er1,eF]
 have eN:Str.ofString "N" =bE [78]:=by decide
 have eM:Str.ofString "M" =bE [77]:=by decide
 have eS:Str.ofString "S" =bE [83]:=by decide
 have eT:Str.ofString "T" =bE [84]:=by decide
 have eX:Str.ofString "X" =bE [88]:=by decide
 have xl:=o9 (n:=100001+b) (by lia)
 have ix13:kH (Ec.map V.str) ((a:Int).fmod 13)=some (.str w):=by rw[ea13];exact ew
 refine fL (fun m' σ H'=>m<=m'/\σ= [J9 ln,some (.int (a:Nat)),some (.int (b:Nat)),J9 rr,J9 lt,some (.str r1),none,none]/\H5=H') (fun N hN=>?_) ?_
 ·refine ⟨ν,ν,ω,(by show (13:Int)≠0;decide),lt,_,ω,aI.of el5,ix13,w,rfl,fun k hk=>⟨ν,ln,_,ω,aI.of en5,a12,_,ν,by lia,by lia,by lia,by rw[eN];exact nj n12 (by decide),FH (bd wl l12) (by decide),hN _ _ _ ⟨by lia,by rw[eN,<-er1];rfl,rfl⟩⟩⟩
 rintro m1 σ _ ⟨le1,rfl,rfl⟩;refine fL (fun m' σ H'=>m<=m'/\σ= [J9 ln,some (.int (a:Nat)),some (.int (b:Nat)),J9 rr,J9 lt,some (.str r2),none,none]/\H5=H') (fun N hN=>?_) ?_
 ·refine ⟨ν,r1,rfl,fun k hk=>⟨ν,ln,_,ω,aI.of en5,a11,_,ν,by lia,by lia,by lia,by rw[eM];exact nj n11 (by decide),FH (bd q1 l11) (by decide),hN _ _ _ ⟨by lia,by rw[eM,<-er2];rfl,rfl⟩⟩⟩
 rintro m2 σ _ ⟨le2,rfl,rfl⟩;refine fL (fun m' σ H'=>m<=m'/\σ= [J9 ln,some (.int (a:Nat)),some (.int (b:Nat)),J9 rr,J9 lt,some (.str r3),none,none]/\H5=H') (fun N hN=>?_) ?_
 ·refine ⟨ν,r2,rfl,fun k hk=>⟨ν,ln,_,ω,aI.of en5,a0,_,ν,by lia,by lia,by lia,by rw[eS];exact nj n0 (by decide),FH (bd q2 l0) (by decide),hN _ _ _ ⟨by lia,by rw[eS,<-er3];rfl,rfl⟩⟩⟩
 rintro m3 σ _ ⟨le3,rfl,rfl⟩;refine fL (fun m' σ H'=>m<=m'/\σ= [J9 ln,some (.int (a:Nat)),some (.int (b:Nat)),J9 rr,J9 lt,some (.str (c7 (nB F a13'))),none,none]/\H5=H') (fun N hN=>?_) ?_
 ·refine ⟨ν,r3,rfl,fun k hk=>⟨ν,ln,_,ω,aI.of en5,a1,_,ν,by lia,by lia,by lia,by rw[eT];exact nj n1 (by decide),FH (bd q3 l1) (by decide),r4,(by rw[eT,<-er4]),fun k2 hk2=>⟨ν,ω,ν,ye (n:=100001+b) (by lia) (by lia),fun k4 hk4=>⟨_,ν,by lia,by lia,by lia,?_,?_,hN _ _ _ ⟨by lia,?_,rfl⟩⟩⟩⟩⟩
  ·rw[eX,fH (n:=100001+b) (by lia)]
   exact Au _ (by decide)
  ·rw[fH (n:=100001+b) (by lia)]
   exact FH (bd q4 xl) (by decide)
  ·rw[eX,fH (n:=100001+b) (by lia),row]
   rfl
 rintro m4 σ _ ⟨le4,rfl,rfl⟩;have at2:kH [V.str "row",V.str "step"] (((a:Int).fmod 13).fdiv 10)=some (.str (wu a13')):=by
  rw[ea13]
  match a13',hA with
  |0,_=>rfl
  |1,_=>rfl
  |2,_=>rfl
  |3,_=>rfl
  |4,_=>rfl
  |5,_=>rfl
  |6,_=>rfl
  |7,_=>rfl
  |8,_=>rfl
  |9,_=>rfl
  |10,_=>rfl
  |11,_=>rfl
  |12,_=>rfl
 have at3:kH [V.str "dish",V.str "",V.str (c7 (nB F a13'))] ((b:Int).fmod 3)=some (.str (c7 (eC F a13' k3))):=by
  rw[ek3]
  match k3,hk with
  |0,_=>rfl
  |1,_=>rfl
  |2,_=>rfl
 refine fL (fun m' σ H'=>m<=m'/\σ= [J9 ln,some (.int (a:Nat)),some (.int (b:Nat)),J9 rr,J9 lt,some (.str (c7 (nB F a13'))),some (.str (wu a13')),none]/\ax H5 H') (fun N hN=>?_) ?_
 ·exact ⟨by show 2<=sizeLine;decide,fun l nl=>⟨ν,ω,(by show (13:Int)≠0;decide),ω,⟨by decide,PyProof.noPylong_small (by decide)⟩,l,_,ω,aI.of ac,at2,hN _ _ _ ⟨le4,rfl,ah nl _⟩⟩⟩
 rintro m5 σ H6 ⟨le5,rfl,g6⟩;have e6:=g6 _ _ e5;have x0:=sw fo hA;have y0:=qz fo hA k3;have rok:=wt zz hk;have rlen:=l9 zs k3;obtain ⟨hx1,hx2⟩:=gn (p:=5) n13 (by decide)
 have rg:∀y∈(cA zs k3).map fi.ok++ [nB F a13',eC F a13' k3],gu y:=fun y hy=>by
  rcases FM.mp hy with hy|hy
  ·obtain ⟨r,hr',rfl⟩:=FE.mp hy;exact rok r hr'
  ·rcases F4.mp hy with rfl|hy
   ·exact x0
   ·rw[FA.mp hy];exact y0
 have rl2:((cA zs k3).map fi.ok++ [nB F a13',eC F a13' k3]).length<=1000:=by simp[rlen];lia
 have ej:(aZ (zA zs 13) 5::(cA zs k3).map bD).map V.str++ [V.str (c7 (nB F a13')),V.str (c7 (eC F a13' k3))]=((aZ (zA zs 13) 5::(cA zs k3).map bD)++ [c7 (nB F a13'),c7 (eC F a13' k3)]).map V.str:=by
  rw[FF]
  rfl
 refine fL (fun m' σ H'=>m<=m'/\σ= [some (.ref ln),some (.int (a:Nat)),some (.int (b:Nat)),some (.ref rr),some (.ref lt),some (.str (c7 (nB F a13'))),some (.str (wu a13')),some (.str (Txt.join fC ((aZ (zA zs 13) 5::(cA zs k3).map bD)++ [c7 (nB F a13'),c7 (eC F a13' k3)])))]/\ax H5 H') (fun N hN=>?_) ?_
 ·refine ⟨rfl,ν,ν,ν,by show 3<=sizeLine;decide,fun l3 n3=>⟨ν,ω,(by show (3:Int)≠0;decide),l3,_,ω,aI.of ac,at3,by show 2<=sizeLine;decide,fun l2 n2=>⟨rr,l2,ω,ah n2 _ _ _ (ah n3 _ _ _ e6),ac,(by simp[rlen];lia),fun l4 n4=>?_⟩⟩⟩
  rw[ej];refine ⟨_,l4,ν,rfl,aI.of ac,by decide,?_,hN _ _ _ ⟨le5,rfl,((g6.trans (ah n3 _)).trans (ah n2 _)).trans (ah n4 _)⟩⟩
  rw[Fq,<-show ((cA zs k3).map fi.ok++ [nB F a13',eC F a13' k3]).map c7=(cA zs k3).map bD++ [c7 (nB F a13'),c7 (eC F a13' k3)] by rw[FF,Fe];rfl]
  exact wp hx2 rg rl2
 rintro m6 σ H7 ⟨le6,rfl,g7⟩;have o:=yi (n:=zA zs 13) (p:=5) zz (F:=F) (by rw[eF]) (by rw[eF]) (by rw[eF]) hA hk [eC F a13' k3]
 refine ⟨ν,.ok (zA zs 13) 5,(cA zs k3).map fi.ok++ [nB F a13',eC F a13' k3],congrArg (fun z=> [V.str z]) (sr _ _ _ _),⟨n13,by decide,by decide⟩,rg,rl2,fun t H8 g8 et=>?_⟩
 rw[o] at et;refine ⟨ν,ν,rr,ν,.inl (aI.of (g8 _ _ (g7 _ _ e5))),by show 2<=sizeLine;decide,fun t2 nt2=>?_⟩
 have elen:(((aZ (zA zs 13) 5::(cA zs k3).map bD).map V.str).length:Int)=((1+(3+k3):Nat):Int):=by simp[rlen];lia
 rw[elen];have g9:=ah nt2 (.tup [.str (wu a13'),.int ((1+(3+k3):Nat):Int)]);exact ⟨t,t2,ω,cM.of (g9 _ _ et),cM.of ac,⟨⟨rfl,trivial⟩,⟨rfl,trivial⟩,trivial⟩,q _ _ le6⟩
theorem C4 {dV:Value} (F:a6 K "law" "law" ny dV f fd) (DZ33:Dx P w K mg base bu 1 "_law_cell_at" ["_law_script","_law_k"] [] (uz K)) (DZ35:Dx P w K mg base bu 1 "_law_stream" ["_law_cell","_law_many"] [] ke) (DZ36:Dd P w K mg base 2 "_law_names" ["_law_cell"] oY) (DZ43:Dx P w K mg base bu 13 "_law_room_right" ["_law_names_here","_law_sort","_law_more"] [] r6) (D_law_full:Dx P w K mg base bu 13 "_law_full" ["_law_names_here","_law_sort","_law_at","_law_wrong"] [] sk) (D_law_two_faults:Dd P w K mg base 13 "_law_two_faults" ["_law_names_here","_law_a","_law_b"] ww):aY P w K mg base bu 20 f fd ["_law_script"] (qP K):=by
 have sc:aB ["_law_script","_law_names_here","_law_way","_law_sort","_law_xs"] ["_law_script"] (aq ny):=dC (by decide+kernel)
 and_intros
 ·obtain ⟨_,_,rfl,_⟩:=h
  rfl
 obtain ⟨a,ns,rfl,hS,h63,q⟩:=h;refine ⟨_,(yc (aN (fK (i:=1) sc.nd rfl (Or.inl rfl) (wk DZ36 hr (by decide) rfl ((dN DZ33 hr ((pv 0)<*>(ae<*>af)))<*>af))) (aN (cc (cU 2 sc (au bj (dN DZ33 hr ((pv 0)<*>(ae<*>af))) ae))) (aN (cc (cU 3 sc (au bj (dN DZ33 hr ((pv 0)<*>(ae<*>af))) ae))) (aN (cc (cU 4 sc (dN DZ35 hr ((dN DZ33 hr ((pv 0)<*>(ae<*>af)))<*>(ae<*>af))))) (aN (cc (aO (aw jU (pv 2) ae (aE _)) (ai (sh (ay (dN DZ43 hr ((pv 1)<*>((pv 3)<*>((au pG (au bj (dN DZ33 hr ((pv 0)<*>(ae<*>af))) ae) ae)<*>af))))))) aC)) (aN (cc (aO (aw jU (pv 2) ae (aE _)) (ai (sh (ay (dN D_law_full hr ((pv 1)<*>((pv 3)<*>((av ak (pv 4) ae (fun _ _=>rfl))<*>((eG bv (pv 2) ae (aE _))<*>af)))))))) aC)) (aN (x9 (wk D_law_two_faults hr (by decide) rfl ((pv 1)<*>((av ak (pv 4) ae (fun _ _=>rfl))<*>((av ak (pv 4) ae (fun _ _=>rfl))<*>af))))) iU)))))))),?_⟩
 try dsimp only[cxK]
 have sl:sizeLine=16777216:=sizeLine_eq;refine fL (fun m' σ H'=>∃(ln:Addr) (zt:List (Str×Nat)),ax H H'/\H' ln=some (.lst (kF zt))/\Zf (zt.map (·.1))/\(∀p∈zt,0<p.2/\p.2<m')/\σ= [J9 a,J9 ln,none,none,none]) (fun N hN=>?_) ?_
 ·exact ⟨ν,a,ns,0,rfl,hS,by decide,fun c0=>⟨c0,rfl,fun m ln zt H1 lm g1 en zz tz=>hN _ _ _ ⟨ln,zt,g1,en,zz,tz,rfl⟩⟩⟩
 rintro m σ H1 ⟨ln,zt,g1,en,zz,tz,rfl⟩;have S1:=g1.seq hS;refine fL (fun m' σ H'=>m'=m/\(∃way:Nat,σ= [J9 a,J9 ln,some (.int (way:Nat)),none,none])/\H1=H') (fun N hN=>?_) ?_
 ·refine ⟨ν,a,ns,1,rfl,S1,by decide,fun c1=>⟨ω,(by show (5:Int)≠0;decide),?_⟩⟩
  have w0:=FP c1 (show (0:Int)<5 by decide)
  refine hN _ _ _ ⟨rfl,⟨(c1.fmod 5).toNat,?_⟩,rfl⟩;rw[Int.toNat_of_nonneg w0]
  rfl
 rintro m σ _ ⟨rfl,⟨way,rfl⟩,rfl⟩;refine fL (fun m' σ H'=>m'=m/\(∃sort:Nat,sort<5/\σ= [J9 a,J9 ln,some (.int (way:Nat)),some (.int (sort:Nat)),none])/\H1=H') (fun N hN=>?_) ?_
 ·refine ⟨ν,a,ns,2,rfl,S1,by decide,fun c1=>⟨ω,(by show (5:Int)≠0;decide),?_⟩⟩
  have w0:=FP c1 (show (0:Int)<5 by decide)
  have w1:=Fo c1 (show (0:Int)<5 by decide)
  refine hN _ _ _ ⟨rfl,⟨(c1.fmod 5).toNat,by lia,?_⟩,rfl⟩
  rw[Int.toNat_of_nonneg w0]
  rfl
 rintro m σ _ ⟨rfl,⟨sort,s5,rfl⟩,rfl⟩;refine fL (fun m' σ H'=>m'=m/\ax H1 H'/\∃(lx:Addr) (u v:Nat),u<=2147483647/\v<=2147483647/\H' lx=some (.lst [.int (u:Nat),.int (v:Nat)])/\σ= [J9 a,J9 ln,some (.int (way:Nat)),some (.int (sort:Nat)),J9 lx]) (fun N hN=>?_) ?_
 ·refine ⟨ν,a,ns,3,rfl,S1,by decide,fun c3=>⟨c3,2,rfl,by decide,by decide,fun lx H2 xs g2 ex xl xb=>?_⟩⟩
  match xs,xl with
  | [x,y],_=>
   have hx:=xb x (by simp)
   have hy:=xb y (by simp)
   refine hN _ _ _ ⟨rfl,g2,lx,x.toNat,y.toNat,by lia,by lia,?_,rfl⟩
   rw[Int.toNat_of_nonneg hx.1,Int.toNat_of_nonneg hy.1];exact ex
 rintro m σ H2 ⟨rfl,g2,lx,x,y,hx,hy,ex,rfl⟩;have en2:=g2 _ _ en;have S2:=g2.seq S1;have lxn:lx≠ln:=fun z=>by
  have zl:=zz.len;rw[z,en2] at ex;have:=congrArg (fun o=>match o with|some (HO.lst l)=>l.length|_=>0) ex
  simp[kF] at this zl
  lia
 have st:(aL H2 ln (.lst (pz zt))) ln=some (.lst ((zt.map (·.1)).map V.str)):=by rw[ac,pz,Fe];rfl
 have sx:(aL H2 ln (.lst (pz zt))) lx=some (.lst [.int (x:Nat),.int (y:Nat)]):=by rw[ar lxn];exact ex
 have S3:aI K (aL H2 ln (.lst (pz zt))) a (ns.map V.int):=by
  rcases S2 with r|r
  ·refine .inl ?_;have al:a≠ln:=fun z=>by
    have zl:=zz.len;rw[z] at r;rcases r with r|⟨o,r⟩
    ·rw[en2] at r
     match zt,ns,r,zl with
     | [],_,_,zl=>cases zl
     |_::_,[],r,_=>cases r
     |_::_,_::_,r,_=>cases r
    ·rw[en2] at r;cases r
   rcases r with r|⟨o,r⟩
   ·exact .inl (by rw[ar al];exact r)
   ·exact .inr ⟨o,by rw[ar al];exact r⟩
  ·exact .inr r
 refine fL (fun m' σ H'=>m'=m/\σ= [J9 a,J9 ln,some (.int (way:Nat)),some (.int (sort:Nat)),J9 lx]/\H2=H') (fun N hN=>?_) ?_
 ·refine ⟨ν,ω,ν,?_⟩
  by_cases c:(way:Int)<2
  ·rw[decide_eq_true c];refine fU ⟨ln,zt,en2,?_⟩;refine ⟨ν,ν,ν,a,ns,4,rfl,S3,by decide,fun c4=>⟨ω,(by show (3:Int)≠0;decide),ω,?_⟩⟩
   have f1:=FP c4 (show (0:Int)<3 by decide)
   have f2:=Fo c4 (show (0:Int)<3 by decide)
   exact ⟨ln,zt.map (·.1),sort,c4.fmod 3-1,rfl,st,zz,s5,by lia,fun H' _=>q H'⟩
  ·rw[decide_eq_false c];exact cg (hN _ _ _ ⟨rfl,rfl,rfl⟩)
 rintro m σ _ ⟨rfl,rfl,rfl⟩;refine fL (fun m' σ H'=>m'=m/\σ= [J9 a,J9 ln,some (.int (way:Nat)),some (.int (sort:Nat)),J9 lx]/\H2=H') (fun N hN=>?_) ?_
 ·refine ⟨ν,ω,ν,?_⟩
  by_cases c:(way:Int)<4
  ·rw[decide_eq_true c];refine fU ⟨ln,zt,en2,?_⟩;exact ⟨ν,ν,ν,lx,_,ω,aI.of sx,rfl,ν,rfl,ln,zt.map (·.1),sort,x,ν,st,zz,s5,fun H' _=>q H'⟩
  ·rw[decide_eq_false c];exact cg (hN _ _ _ ⟨rfl,rfl,rfl⟩)
 rintro m σ _ ⟨rfl,rfl,rfl⟩;exact ⟨ν,ν,lx,_,ω,aI.of ex,rfl,ν,lx,_,ω,aI.of ex,rfl,ln,zt,x,y,rfl,en2,zz,tz,hx,hy,fun m' H' _=>q H'⟩
end
theorem A4 {l:PySem.W.OpenLaw} {w:World} {K:F0} {h:Heap} {mg:JZ} {fa ke ki kj hh kk kl kn kp kq ks hi hj hk hm hn ho hp hq hr hs ht hu hv hw hx hy hz h0 h1 h2 h3 g2 h4 h5 h6 h9 hA hB hC hD hE hF hH Ji Il g3 Hi Gh Hk Go Gg Gr Gm Gc on Gb Ge Gk Gs Gf mt Ga Gq Gd Hs HQ Ip IA Ic Iz:Addr} (X:K.In h) (G:h.Ns mainGlobals mg) (hfa:mg "law" =some (.ref fa))
  {e3 e4 el em e5 e6 gD gu:J7} {e7 en e8 gE:J3} {e9 eD eF eM d9 eN eo ep eq er dw es eS eT eV eX dK eZ gG gv gw g0 fb g1:Value}
  {dZ:Tok}
  {bt:Tok}
  {ea:Tok}
  {bv:Tok}
  {cv:Tok}
  {cw:Tok}
  {dx:Tok}
  {c0:Tok}
  {jU:Addr} {hI:Value} {hK:J7} {hL:Nat} {hM:J3} {g4:Tok}
  {gH:Addr} {gI:Value} {gN:J7} {gT:Nat} {gU:J3}
  {gV:Addr} {ha:Value} {hb:J7} {hc:Nat} {he:J3}
  (ku:bR K ke "read_figures" Ed .none)
  (kw:bR K ki "is_whole" Ee .none)
  (ky:bR K kj "divisor" Ef .none)
  (k0:FD K mainGlobals "fraction" =some (some (.ref hh)))
  (k1:FnAt K hh "fraction" "fraction" De (.ref jU))
  (k2:bR K kk "plus" Eg .none)
  (k3:bR K kl "round_down" Eh .none)
  (k4:bR K kn "amount_text" Ei .none)
  (k5:bR K kp "loosely_read_term" Ej .none)
  (k6:bR K kq "loosely_read" Ek .none)
  (k7:bR K ks "read_amount" El .none)
  (hN:bR K hi "is_name" Av .none)
  (hO:bR K hj "words_of" Aw .none)
  (hP:bR K hk "number_of" Ax .none)
  (hQ:bR K hm "amount_from" Ay .none)
  (hR:bR K hn "value_of" Az .none)
  (hS:bR K ho "values_by" AA .none)
  (hT:bR K hp "agree" AB .none)
  (hX:bR K hq "values_of" AC .none)
  (hY:bR K hr "refuse_twice" AD .none)
  (hZ:bR K hs "refuse_full" AE .none)
  (ia:bR K ht "place_of" AF .none)
  (ib:bR K hu "put_take" AG .none)
  (ih:bR K hv "put_link" AH .none)
  (ii:bR K hw "recipe_begun" AJ .none)
  (ij:bR K hx "step_of" AK .none)
  (il:bR K hy "put_step" AL .none)
  (io:bR K hz "put_second" AM .none)
  (iv:bR K h0 "put_use" AN .none)
  (ix:bR K h1 "put_row" AO .none)
  (iy:bR K h2 "read_recipe" AQ .none)
  (iz:bR K h3 "_law_cell_at" AR .none)
  (i1:FD K mainGlobals "_law_whole" =some (some (.ref g2)))
  (i2:FnAt K g2 "_law_whole" "_law_whole" yo .none)
  (i3:bR K h4 "_law_stream" AS .none)
  (i5:bR K h5 "_law_names" AT .none)
  (iH:bR K h6 "_law_refusal" AU .none)
  (iU:bR K h9 "_law_steps" AV .none)
  (ji:bR K hA "_law_ahead" AW .none)
  (jj:bR K hB "_law_sort_row" AX .none)
  (jl:bR K hC "_law_read" AY .none)
  (jm:bR K hD "_law_due" AZ .none)
  (js:bR K hE "_law_room_right" A0 .none)
  (ju:bR K hF "_law_full_twice" A1 .none)
  (jv:bR K hH "_law_full_wrong" A3 .none)
  (eb:bR K Ji "_law_full" ir .none)
  (be:bR K Il "_law_two_faults" dn .none)
  (jz:FD K mainGlobals "law" =some (some (.ref g3)))
  (j0:K.lookup g3=some ⟨gG,gD,.func (Fn "law" "law" (cN ny) (bZ ny) (aq ny) .none gv gw g0 gu fb g1),gE⟩) (j1:G9 K fb "law" =true) (j2:Fl K (.ref g3)=true)
  (ec:FD K mainGlobals "LETTERS" =some (some (.str "abcdefghijklmnopqrstuvwxyz" dZ)))
  (bz:FD K mainGlobals "MOST_LETTERS" =some (some (.int 12 bt)))
  (ed:FD K mainGlobals "FIGURES" =some (some (.str "0123456789" ea)))
  (b0:FD K mainGlobals "MOST_FIGURES" =some (some (.int 30 bv)))
  (c1:FD K mainGlobals "MOST_TAKES" =some (some (.int 12 cv)))
  (c2:FD K mainGlobals "MOST_STEPS" =some (some (.int 12 cw)))
  (d1:FD K mainGlobals "MOST_USES" =some (some (.int 12 dx)))
  (c3:FD K mainGlobals "MOST_LINKS" =some (some (.int 24 c0)))
  (c4:FD K mainGlobals "ValueError" =some none)
  (g6:FD K mainGlobals "abs" =some none)
  (gd:FD K mainGlobals "bool" =some none)
  (d3:FD K mainGlobals "enumerate" =some none)
  (g7:FD K mainGlobals "int" =some none)
  (c7:FD K mainGlobals "isinstance" =some none)
  (g8:FD K mainGlobals "len" =some none)
  (ge:FD K mainGlobals "list" =some none)
  (fc:FD K mainGlobals "range" =some none)
  (g9:FD K mainGlobals "str" =some none)
  (gA:FD K mainGlobals "zip" =some none)
  (et:FD K mainGlobals "BOUNDS" =some (some (.ref Hi)))
  (gC:FD K mainGlobals "Cut" =some (some (.ref Gh)))
  (ff:FD K mainGlobals "FORMS" =some (some (.ref Hk)))
  (c9:FD K mainGlobals "LINK_WORDS" =some (some (.ref Go)))
  (dM:FD K mainGlobals "NoAmount" =some (some (.ref Gg)))
  (eu:FD K mainGlobals "NoName" =some (some (.ref Gr)))
  (dR:FD K mainGlobals "NoNumber" =some (some (.ref Gm)))
  (fg:FD K mainGlobals "NoRow" =some (some (.ref Gc)))
  (ev:FD K mainGlobals "NoStep" =some (some (.ref on)))
  (ew:FD K mainGlobals "Recipe" =some (some (.ref Gb)))
  (gg:FD K mainGlobals "Rest" =some (some (.ref Ge)))
  (cB:FD K mainGlobals "STEP_WORDS" =some (some (.ref Gk)))
  (gi:FD K mainGlobals "Step" =some (some (.ref Gs)))
  (cC:FD K mainGlobals "StoveError" =some (some (.ref Gf)))
  (ee:FD K mainGlobals "TooMany" =some (some (.ref mt)))
  (fl:FD K mainGlobals "Twice" =some (some (.ref Ga)))
  (d4:FD K mainGlobals "USE_WORDS" =some (some (.ref Gq)))
  (gj:FD K mainGlobals "Warm" =some (some (.ref Gd)))
  (atZ23:FR K (.ref Gs) "__init__" =some (some (.ref Hs)))
  (jH:FnAt K Hs "__init__" "Step.__init__" ym (.ref gH))
  (atZ24:FR K (.ref Gd) "__init__" =some (some (.ref HQ)))
  (jI:FnAt K HQ "__init__" "Warm.__init__" yn (.ref gV))
  (jT:BX K Gb Ip "__init__" "Recipe.__init__" AI .none)
  (kd:K.lookup jU=some ⟨hI,hK,.seq #[.int 1 g4] hL,hM⟩)
  (hf:K.lookup gH=some ⟨gI,gN,.seq #[.none,.none] gT,gU⟩)
  (hg:K.lookup gV=some ⟨ha,hb,.seq #[.none,.none] hc,he⟩)
  (bU:oa K Gk ["cut","rest","warm"])
  (cD:oa K Gq ["with","orwith"])
  (bW:oa K Go ["after","within","apart"])
  (ex:oh w K Hk sA)
  (ef:oh w K Hi pi)
  (dS:GU K Gg wz "ValueError.__new__" =true)
  (dV:XI K Gg)
  (eg:GU K mt wz "ValueError.__new__" =true)
  (eh:XI K mt)
  (dW:XT K Gg)
  (cI:XT K Gf)
  (ab:G2 K (.ref Gg) (.ref Gg)=some true)
  (aj:G2 K (.ref Gc) (.ref Gf)=some true)
  (ad:G2 K (.ref on) (.ref Gf)=some true)
  (ak:G2 K (.ref Ga) (.ref Gf)=some true)
  (h8:G2 K (.ref mt) (.ref Gf)=some true)
  (h7:F3 K (.ref Gg) (.ref Gf)=some true)
  (a3:F3 K (.ref Gc) (.ref Gg)=some false)
  (b1:F3 K (.ref Gc) (.ref Gr)=some false)
  (a4:F3 K (.ref Gc) (.ref Gm)=some false)
  (ca:F3 K (.ref Gc) (.ref Gc)=some true)
  (b2:F3 K (.ref Gc) (.ref on)=some false)
  (cb:F3 K (.ref Gc) (.ref Ga)=some false)
  (bf:F3 K (.ref Gc) (.ref mt)=some false)
  (az:F3 K (.ref on) (.ref Gg)=some false)
  (bg:F3 K (.ref on) (.ref Gr)=some false)
  (a0:F3 K (.ref on) (.ref Gm)=some false)
  (b4:F3 K (.ref on) (.ref Gc)=some false)
  (bj:F3 K (.ref on) (.ref on)=some true)
  (b6:F3 K (.ref on) (.ref Ga)=some false)
  (a5:F3 K (.ref on) (.ref mt)=some false)
  (aC:F3 K (.ref Ga) (.ref Gg)=some false)
  (b9:F3 K (.ref Ga) (.ref Gr)=some false)
  (aV:F3 K (.ref Ga) (.ref Gm)=some false)
  (cd:F3 K (.ref Ga) (.ref Gc)=some false)
  (bG:F3 K (.ref Ga) (.ref on)=some false)
  (ce:F3 K (.ref Ga) (.ref Ga)=some true)
  (bk:F3 K (.ref Ga) (.ref mt)=some false)
  (al:F3 K (.ref mt) (.ref Gg)=some false)
  (ba:F3 K (.ref mt) (.ref Gr)=some false)
  (am:F3 K (.ref mt) (.ref Gm)=some false)
  (bl:F3 K (.ref mt) (.ref Gc)=some false)
  (bb:F3 K (.ref mt) (.ref on)=some false)
  (bm:F3 K (.ref mt) (.ref Ga)=some false)
  (a1:F3 K (.ref mt) (.ref mt)=some true)
  (an:F3 K (.ref Gc) (.type "ValueError")=some true)
  (af:F3 K (.ref on) (.type "ValueError")=some true)
  (ap:F3 K (.ref Ga) (.type "ValueError")=some true)
  (tx:F3 K (.ref mt) (.type "ValueError")=some true)
  (fo:XA K Gc Gf)
  (fp:FR K (.ref Gc) "at" =some none)
  (ey:XA K on Gf)
  (ez:FR K (.ref on) "at" =some none)
  (fq:XA K Ga Gf)
  (fr:FR K (.ref Ga) "at" =some none)
  (fs:XI K Gc)
  (e0:XI K on)
  (ft:XI K Ga)
  (fu:mh K Gs)
  (fx:Mk K Gs Hs)
  (gk:mh K Gh)
  (gm:Mk K Gh Hs)
  (fy:mh K Ge)
  (f0:Mk K Ge Hs)
  (f1:mh K Gd)
  (f2:Mk K Gd HQ)
  (ei:mh K Gb)
  (ej:Mk K Gb Ip)
  (d5:aD K Gh "name")
  (cR:aD K Gh "least")
  (d6:aD K Gh "most")
  (d7:aD K Gh "uses")
  (ch:aD K Gh "second")
  (cW:aD K Ge "name")
  (ci:aD K Ge "least")
  (da:aD K Ge "most")
  (db:aD K Ge "uses")
  (bL:aD K Ge "second")
  (dc:aD K Gd "name")
  (cj:aD K Gd "least")
  (dd:aD K Gd "most")
  (df:aD K Gd "uses")
  (bN:aD K Gd "second")
  (dj:aD K Gd "fill")
  (bS:aD K Gb "name")
  (bc:aD K Gb "plates")
  (bp:aD K Gb "takes")
  (bq:aD K Gb "steps")
  (bs:aD K Gb "links")
  (bd:zB K Gs "__init__" Hs)
  (f3:wD K Gs)
  (go:wD K Gh)
  (f4:wD K Ge)
  (f5:wD K Gd)
  (ek:wD K Gb)
  (d8:F3 K (.ref Gh) (.ref Gh)=some true)
  (dl:F3 K (.ref Gh) (.ref Ge)=some false)
  (dp:F3 K (.ref Gh) (.ref Gd)=some false)
  (dq:F3 K (.ref Gh) (.ref Gs)=some true)
  (dr:F3 K (.ref Ge) (.ref Gh)=some false)
  (ck:F3 K (.ref Ge) (.ref Ge)=some true)
  (cl:F3 K (.ref Ge) (.ref Gd)=some false)
  (co:F3 K (.ref Ge) (.ref Gs)=some true)
  (dt:F3 K (.ref Gd) (.ref Gh)=some false)
  (cp:F3 K (.ref Gd) (.ref Ge)=some false)
  (cs:F3 K (.ref Gd) (.ref Gd)=some true)
  (ct:F3 K (.ref Gd) (.ref Gs)=some true)
  (a2:F3 K (.ref Gb) (.ref Gb)=some true)
  (fC:A8 K Gc IA)
  (gp:K.lookup IA=some ⟨e9,e3,.func (Fn "__init__" "NoRow.__init__" (cN hU) (bZ hU) (aq hU) .none eD eF eM e4 d9 eN),e7⟩) (fI:G9 K d9 "NoRow.__init__" =true) (gq:Fl K (.ref IA)=true)
  (e1:A8 K on Ic)
  (fS:K.lookup Ic=some ⟨eo,el,.func (Fn "__init__" "NoStep.__init__" (cN fk) (bZ fk) (aq fk) .none ep eq er em dw es),en⟩) (e2:G9 K dw "NoStep.__init__" =true) (ga:Fl K (.ref Ic)=true)
  (gb:A8 K Ga Iz)
  (gs:K.lookup Iz=some ⟨eS,e5,.func (Fn "__init__" "Twice.__init__" (cN hV) (bZ hV) (aq hV) .none eT eV eX e6 dK eZ),e8⟩) (gc:G9 K dK "Twice.__init__" =true) (gt:Fl K (.ref Iz)=true)
  :∃fd:FuncData,(∀(s:Shared) (v:Value),BindsTo s fd ⟨[v],[]⟩ [("_law_script",v)])/\∀base:Heap,K.In base->base.Ns mainGlobals mg->aY l.prog w K mg base bu 20 fa fd ["_law_script"] (qP K):=by
 have e:=hfa.symm.trans (FN X G jz);cases e;have B:Bn w K mg Hi Gh Hk Go Gg Gr Gm Gc on Gb Ge Gk Gs Gf mt Ga Gq Gd Hs HQ Ip:=⟨Exists.intro _<|FN X G ec,Exists.intro _<|FN X G bz,Exists.intro _<|FN X G ed,Exists.intro _<|FN X G b0,Exists.intro _<|FN X G c1,Exists.intro _<|FN X G c2,Exists.intro _<|FN X G d1,Exists.intro _<|FN X G c3,Fw X G c4,Fw X G g6,Fw X G gd,Fw X G d3,Fw X G g7,Fw X G c7,Fw X G g8,Fw X G ge,Fw X G fc,Fw X G g9,Fw X G gA,FN X G et,FN X G gC,FN X G ff,FN X G c9,FN X G dM,FN X G eu,FN X G dR,FN X G fg,FN X G ev,FN X G ew,FN X G gg,FN X G cB,FN X G gi,FN X G cC,FN X G ee,FN X G fl,FN X G d4,FN X G gj,bU,cD,bW,ex,ef,dS,dV,eg,eh,dW,cI,ab,aj,ad,ak,h8,h7,a3,b1,a4,ca,b2,cb,bf,az,bg,a0,b4,bj,b6,a5,aC,b9,aV,cd,bG,ce,bk,al,ba,am,bl,bb,bm,a1,an,af,ap,tx,fo,fp,ey,ez,fq,fr,fs,e0,ft,fu,fx,gk,gm,fy,f0,f1,f2,ei,ej,d5,cR,d6,d7,ch,cW,ci,da,db,bL,dc,cj,dd,df,bN,dj,bS,bc,bp,bq,bs,bd,f3,go,f4,f5,ek,d8,dl,dp,dq,dr,ck,cl,co,dt,cp,cs,ct,a2⟩;obtain ⟨_,_,_,_,_,_,_,_,_,lZ3,cZ3,kZ3⟩:=k1;obtain ⟨_,_,_,_,_,_,_,_,_,lZ34,cZ34,kZ34⟩:=i2;obtain ⟨_,_,_,_,_,_,_,_,_,lZ23,cZ23,kZ23⟩:=jH;obtain ⟨_,_,_,_,_,_,_,_,_,lZ24,cZ24,kZ24⟩:=jI;have FZ3:=dU (st:=De) lZ3 cZ3 kZ3;have FZ23:=dU (st:=ym) lZ23 cZ23 kZ23;have FZ24:=dU (st:=yn) lZ24 cZ24 kZ24;have FZ34:=dU (st:=yo) lZ34 cZ34 kZ34;have Flaw:=dU (st:=ny) j0 j1 j2;have F_NoRow:=dU (st:=hU) gp fI gq;have F_NoStep:=dU (st:=fk) fS e2 ga;have F_Twice:=dU (st:=hV) gs gc gt;refine ⟨Fn "law" "law" (cN ny) (bZ ny) (aq ny) .none gv gw g0 gu fb g1,?bind,fun base _ _=>?ok⟩
 case bind=>exact fun s v=> .of_eq rfl
 case ok=>
  have z9:Bx l.prog w base:=⟨⟩;have I_NoRow:wA l.prog w K mg base 1 Gc ["self","at"] (dh Gc "at"):=⟨IA,_,wx B F_NoRow,fC,F_NoRow.binds0 (ps:= ["self","at"]) fun _ _ _ _ _ _ us hl=>match us,hl with| [_,_],_=>rfl⟩
  have I_NoStep:wA l.prog w K mg base 1 on ["self","at"] (dh on "at"):=⟨Ic,_,tV B F_NoStep,e1,F_NoStep.binds0 (ps:= ["self","at"]) fun _ _ _ _ _ _ us hl=>match us,hl with| [_,_],_=>rfl⟩
  have I_Twice:wA l.prog w K mg base 1 Ga ["self","at"] (dh Ga "at"):=⟨Iz,_,wy B F_Twice,gb,F_Twice.binds0 (ps:= ["self","at"]) fun _ _ _ _ _ _ us hl=>match us,hl with| [_,_],_=>rfl⟩
  have DZ0:=fe z9 X G ku (fun _ _ _ _ _ _=>cx fun _=>rfl) fun F=>Em B F
  have DZ1:=fe z9 X G kw (fun _ _ _ _ _ _=>cx fun _=>rfl) fun F=>En B F
  have DZ2:=fe z9 X G ky (fun _ _ _ _ _ _=>eP fun _ _=>rfl) fun F=>Eo B F
  have DZ3:Dx l.prog w K mg base bu 2 "fraction" ["top","bottom"] [.int 1] wX:=⟨hh,_,Ep B FZ3 DZ1 DZ2,FN X G k0,kZ3,FZ3.binds (ps:= ["top","bottom"]) (ds:= []) kd rfl fun _ _ _ _ _ _ us hl=>match us,hl with| [_,_],_=>⟨_,rfl,rfl⟩,⟨[.int 1 g4],FZ3.binds (ps:= ["top","bottom"]) (ds:= [.int 1 g4]) kd rfl fun _ _ _ _ _ _ us hl=>match us,hl with| [_],_=>⟨_,rfl,rfl⟩| [],h=>absurd h (by simp)|_::_::_,h=>absurd h (by simp),.cons ⟨_,rfl⟩ .nil⟩⟩
  have DZ4:=fe z9 X G k2 (fun _ _ _ _ _ _=>eP fun _ _=>rfl) fun F=>Er B F DZ3
  have DZ5:=fe z9 X G k3 (fun _ _ _ _ _ _=>cx fun _=>rfl) fun F=>Es B F
  have DZ6:=fe z9 X G k4 (fun _ _ _ _ _ _=>cx fun _=>rfl) fun F=>Et B F DZ5
  have DZ7:=fe z9 X G k5 (fun _ _ _ _ _ _=>cx fun _=>rfl) fun F=>Eu B F DZ0 DZ3
  have DZ8:=fe z9 X G k6 (fun _ _ _ _ _ _=>cx fun _=>rfl) fun F=>Ev B F DZ4 DZ7
  have XZ9:=fe z9 X G k7 (fun _ _ _ _ _ _=>cx fun _=>rfl) fun F=>Ew B F DZ6 DZ8
  have DZ9:Dx l.prog w K mg base bu 5 "read_amount" ["text"] [] rj:=XZ9.calm u9;have DZ10:=fe z9 X G hN (fun _ _ _ _ _ _=>cx fun _=>rfl) fun F=>Cq B F
  have DZ11:=fe z9 X G hO (fun _ _ _ _ _ _=>cx fun _=>rfl) fun F=>Cr B F
  have DZ12:=fe z9 X G hP (fun _ _ _ _ _ _=>cH fun _ _ _=>rfl) fun F=>Cs B F DZ0
  have DZ13:=fe z9 X G hQ (fun _ _ _ _ _ _=>eP fun _ _=>rfl) fun F=>Ct B F XZ9
  have DZ14:=fe z9 X G hR (fun _ _ _ _ _ _=>eP fun _ _=>rfl) fun F=>Cu B F DZ10 DZ12 DZ13
  have DZ15:=fe z9 X G hS (fun _ _ _ _ _ _=>eP fun _ _=>rfl) fun F=>Cv B F DZ14
  have DZ16:=fe z9 X G hT (fun _ _ _ _ _ _=>cx fun _=>rfl) fun F=>Cw B F
  have DZ17:=fe z9 X G hX (fun _ _ _ _ _ _=>cx fun _=>rfl) fun F=>Cy B F DZ11 DZ15 DZ16
  have XZ18:=fe z9 X G hY (fun _ _ _ _ _ _=>cH fun _ _ _=>rfl) fun F=>Cz B F I_Twice
  have DZ18:Dx l.prog w K mg base bu 3 "refuse_twice" ["name","told","at"] [] ie:=XZ18.calm (fun _ _ _ _ h=>h.elim)
  have XZ19:=fe z9 X G hZ (fun _ _ _ _ _ _=>eP fun _ _=>rfl) fun F=>CA B F
  have DZ19:Dx l.prog w K mg base bu 1 "refuse_full" ["kept","most"] [] ie:=XZ19.calm (fun _ _ _ _ h=>h.elim)
  have XZ20:=fe z9 X G ia (fun _ _ _ _ _ _=>cH fun _ _ _=>rfl) fun F=>CB B F I_NoStep
  have DZ20:Dx l.prog w K mg base bu 3 "place_of" ["recipe","name","at"] [] ie:=XZ20.calm (fun _ _ _ _ h=>h.elim)
  have XZ21:=fe z9 X G ib (fun _ _ _ _ _ _=>cH fun _ _ _=>rfl) fun F=>CC B F XZ18 XZ19
  have DZ21:Dx l.prog w K mg base bu 4 "put_take" ["recipe","at","values"] [] ie:=XZ21.calm (fun _ _ _ _ h=>h.elim)
  have XZ22:=fe z9 X G ih (fun _ _ _ _ _ _=>cH fun _ _ _=>rfl) fun F=>CD B F XZ19 XZ20
  have DZ22:Dx l.prog w K mg base bu 4 "put_link" ["recipe","at","values"] [] ie:=XZ22.calm (fun _ _ _ _ h=>h.elim)
  have DZ23:wC l.prog w K mg base bu 1 Hs ["self","name","least","most","uses","second"] [.non,.non] (jL K):=⟨_,CF B FZ23,FZ23.binds (ps:= ["self","name","least","most","uses","second"]) (ds:= []) hf rfl fun _ _ _ _ _ _ us hl=>match us,hl with| [_,_,_,_,_,_],_=>⟨_,rfl,rfl⟩,⟨[.none,.none],FZ23.binds (ps:= ["self","name","least","most","uses","second"]) (ds:= [.none,.none]) hf rfl fun _ _ _ _ _ _ us hl=>match us,hl with| [_,_,_,_],_=>⟨_,rfl,rfl⟩| [],h=>absurd h (by simp)| [_],h=>absurd h (by simp)| [_,_],h=>absurd h (by simp)| [_,_,_],h=>absurd h (by simp)|_::_::_::_::_::_,h=>absurd h (by simp),.cons rfl (.cons rfl .nil)⟩⟩
  have DZ24:wC l.prog w K mg base bu 2 HQ ["self","name","least","most","fill","uses","second"] [.non,.non] (mL K):=⟨_,CG B FZ24 DZ23,FZ24.binds (ps:= ["self","name","least","most","fill","uses","second"]) (ds:= []) hg rfl fun _ _ _ _ _ _ us hl=>match us,hl with| [_,_,_,_,_,_,_],_=>⟨_,rfl,rfl⟩,⟨[.none,.none],FZ24.binds (ps:= ["self","name","least","most","fill","uses","second"]) (ds:= [.none,.none]) hg rfl fun _ _ _ _ _ _ us hl=>match us,hl with| [_,_,_,_,_],_=>⟨_,rfl,rfl⟩| [],h=>absurd h (by simp)| [_],h=>absurd h (by simp)| [_,_],h=>absurd h (by simp)| [_,_,_],h=>absurd h (by simp)| [_,_,_,_],h=>absurd h (by simp)|_::_::_::_::_::_::_,h=>absurd h (by simp),.cons rfl (.cons rfl .nil)⟩⟩
  have DZ25:=EZ z9 jT (fun _ _ _ _ _ _=>zJ fun _ _ _ _ _ _=>rfl) fun F=>CH B F
  have XZ26:=fe z9 X G ii (fun _ _ _ _ _ _=>cx fun _=>rfl) fun F=>CI B F DZ25 I_NoRow
  have DZ26:Dx l.prog w K mg base bu 4 "recipe_begun" ["values"] [] ie:=XZ26.calm (fun _ _ _ _ h=>h.elim)
  have DZ27:=fe z9 X G ij (fun _ _ _ _ _ _=>cx fun _=>rfl) fun F=>CJ B F DZ23 DZ24
  have XZ28:=fe z9 X G il (fun _ _ _ _ _ _=>cH fun _ _ _=>rfl) fun F=>CK B F DZ27 XZ18 XZ19
  have DZ28:Dx l.prog w K mg base bu 5 "put_step" ["recipe","at","values"] [] ie:=XZ28.calm (fun _ _ _ _ h=>h.elim)
  have XZ29:=fe z9 X G io (fun _ _ _ _ _ _=>cH fun _ _ _=>rfl) fun F=>CL B F XZ20 I_Twice
  have DZ29:Dx l.prog w K mg base bu 4 "put_second" ["recipe","at","values"] [] ie:=XZ29.calm (fun _ _ _ _ h=>h.elim)
  have XZ30:=fe z9 X G iv (fun _ _ _ _ _ _=>cH fun _ _ _=>rfl) fun F=>CM B F XZ18 XZ19 XZ20 I_NoStep
  have DZ30:Dx l.prog w K mg base bu 4 "put_use" ["recipe","at","values"] [] ie:=XZ30.calm (fun _ _ _ _ h=>h.elim)
  have XZ31:=fe z9 X G ix (fun _ _ _ _ _ _=>cH fun _ _ _=>rfl) fun F=>CN B F XZ21 XZ22 XZ28 XZ29 XZ30
  have DZ31:Dx l.prog w K mg base bu 6 "put_row" ["recipe","at","values"] [] ie:=XZ31.calm (fun _ _ _ _ h=>h.elim)
  have XZ32:=fe z9 X G iy (fun _ _ _ _ _ _=>cx fun _=>rfl) fun F=>CO B F DZ17 XZ26 XZ31 I_NoRow
  have DZ32:Dx l.prog w K mg base bu 11 "read_recipe" ["text"] [] (jh Gh Ge Gd Gb):=XZ32.calm v8;have DZ33:=fe z9 X G iz (fun _ _ _ _ _ _=>eP fun _ _=>rfl) fun F=>CP B F
  have bZ34:=FZ34.binds0 (ps:= ["_law_found"]) fun _ _ _ _ _ _=>cx (fun _=>rfl)
  have HZ34:∀hd,BK hd l.prog w K mg base 1 "_law_whole" ["_law_found"] gF:=fun hd=>⟨g2,_,CQ B FZ34,FN X G i1,kZ34,bZ34⟩
  have DZ34:Dx l.prog w K mg base bu 1 "_law_whole" ["_law_found"] [] gF:=(HZ34 none).calm;have DZ35:=fe z9 X G i3 (fun _ _ _ _ _ _=>eP fun _ _=>rfl) fun F=>CS B F
  have DZ36:=EH z9 X G i5 (fun _ _ _ _ _ _=>cx fun _=>rfl) fun F=>CT B F DZ35
  have DZ37:=fe z9 X G iH (fun _ _ _ _ _ _=>cx fun _=>rfl) fun F=>CU B F XZ32 HZ34
  have DZ38:=fe z9 X G iU (fun _ _ _ _ _ _=>eP fun _ _=>rfl) fun F=>CV B F
  have DZ39:=fe z9 X G ji (fun _ _ _ _ _ _=>eP fun _ _=>rfl) fun F=>CW B F DZ38
  have DZ40:=fe z9 X G jj (fun _ _ _ _ _ _=>cH fun _ _ _=>rfl) fun F=>CY B F
  have DZ41:=fe z9 X G jl (fun _ _ _ _ _ _=>cH fun _ _ _=>rfl) fun F=>CZ B F
  have DZ42:=fe z9 X G jm (fun _ _ _ _ _ _=>cH fun _ _ _=>rfl) fun F=>C0 B F
  have DZ43:=fe z9 X G js (fun _ _ _ _ _ _=>cH fun _ _ _=>rfl) fun F=>C1 B F DZ32 DZ37 DZ39 DZ40 DZ41 DZ42
  have DZ44:=fe z9 X G ju (fun _ _ _ _ _ _=>cH fun _ _ _=>rfl) fun F=>C2 B F
  have DZ45:=fe z9 X G jv (fun _ _ _ _ _ _=>cH fun _ _ _=>rfl) fun F=>C3 B F
  have D_law_full:=fe z9 X G eb (fun _ _ _ _ _ _=>zI fun _ _ _ _=>rfl) fun F=>pk B F DZ37 DZ39 DZ40 DZ44 DZ45
  have D_law_two_faults:=EH z9 X G be (fun _ _ _ _ _ _=>cH fun _ _ _=>rfl) fun F=>iW B F DZ37 DZ38
  exact C4 B Flaw DZ33 DZ35 DZ36 DZ43 D_law_full D_law_two_faults
theorem walk {l:PySem.W.OpenLaw} {q:Program} {loose:J4} {XP:JZ->Heap->Prop} {YP:World->Heap->Prop} {d:DefRec} {K:Params->F0} (hn:l.most=some 63) (hdf:d.params.defaults= [])
  (hY:∀(w:World) (h:Heap),YP w h->(K w.params).In h)
  (F:∀(w:World) (mg:JZ) (fa:Addr) (h:Heap),(K w.params).In h->h.Ns mainGlobals mg->mg d.name=some (.ref fa)->
   ∃fd:FuncData,(∀(s:Shared) (u:Value),BindsTo s fd ⟨[u],[]⟩ [("_law_script",u)])/\∀base:Heap,(K w.params).In base->base.Ns mainGlobals mg->aY l.prog w (K w.params) mg base bu 20 fa fd ["_law_script"] (qP (K w.params))):
  PySem.W.WalkO q loose XP YP l.row.toRowW d [] (fun f vs=>PySem.call f vs):=
 L2.wV (n:=63) (k:=20) (x:= "_law_script") (CX:=fun _=>bu) (sp:=fun w=>qP (K w.params)) hn (by decide) hdf ⟨rfl,by decide,by decide⟩ hY F (fun _ _ a ns hl _ hS=>⟨a,ns,rfl,hS,hl,fun _=>rfl⟩) fun _ _ _ _ _ z=>z
end Lk37
open PySem PySem.W PyProof.Rows
set_option maxRecDepth 100000 in
set_option maxHeartbeats 0 in
theorem PySem.Challenge.cw_stovework_k37_room_and_first_fault_holds : PySem.Challenge.rw_stovework_k37_room_and_first_fault.Holds := by
 refine Lk37.hd ?_
 k_fill
 refine Lk37.walk (l:=PySem.Challenge.rw_stovework_k37_room_and_first_fault) rfl rfl (fun w h Y=>PySem.W.kIn_of Y) ?F
 case F=>
  intro w mg fa h KX G hmg
  refine' Lk37.A4 KX G hmg ?a ?b ?c ?d ?e ?f ?g ?h ?i ?j ?k ?l ?m ?n ?o ?p ?q ?r ?s ?t ?u ?v ?w ?x ?y ?z ?A ?B ?C ?D ?E ?F ?G ?H ?I ?J ?K ?L ?M ?N ?O ?P ?Q ?R ?S ?T ?U ?V ?W ?X ?Y ?Z ?aa ?ab ?ac ?ad ?ae ?af ?ag ?ah ?ai ?aj ?ak ?al ?am ?an ?ao ?ap ?aq ?ar ?au ?av ?aw ?ax ?ay ?az ?aA ?aB ?aC ?aD ?aE ?aF ?aG ?aH ?aI ?aJ ?aK ?aL ?aM ?aN ?aO ?aP ?aQ ?aR ?aS ?aT ?aU ?aV ?aW ?aX ?aY ?aZ ?ba ?bb ?bc ?bd ?be ?bf ?bg ?bh ?bi ?bj ?bk ?bl ?bm ?bn ?bo ?bp ?bq ?br ?bs ?bt ?bu ?bv ?bw ?bx ?bz ?bA ?bB ?bC ?bD ?bE ?bF ?bG ?bH ?bI ?bJ ?bK ?bL ?bM ?bN ?bO ?bP ?bQ ?bR ?bS ?bT ?bU ?bV ?bW ?bX ?bY ?bZ ?ca ?cb ?cc ?cd ?ce ?cf ?cg ?ch ?ci ?cj ?ck ?cl ?cm ?cn ?co ?cp ?cq ?cr ?cs ?ct ?cu ?cv ?cw ?cx ?cy ?cz ?cA ?cB ?cC ?cD ?cE ?cF ?cG ?cH ?cI ?cJ ?cK ?cL ?cM ?cN ?cO ?cP ?cQ ?cR ?cS ?cT ?cU ?cV ?cW ?cX ?cY ?cZ ?da ?db ?dc ?dd ?de ?df ?dg ?dh ?di ?dj ?dk
  case a|b|c=>exact ⟨by k_is,_,_,_,_,_,_,_,_,_,by k_is,by k_is,by k_is⟩
  case d=>k_is
  case e=>exact ⟨_,_,_,_,_,_,_,_,_,by k_is,by k_is,by k_is⟩
  case f|g|h|i|j|k|l|m|n|o|p|q|r|s|t|u|v|w|x|y|z|A|B|C|D|E|F=>exact ⟨by k_is,_,_,_,_,_,_,_,_,_,by k_is,by k_is,by k_is⟩
  case G=>k_is
  case H=>exact ⟨_,_,_,_,_,_,_,_,_,by k_is,by k_is,by k_is⟩
  case I|J|K|L|M|N|O|P|Q|R|S|T|U=>exact ⟨by k_is,_,_,_,_,_,_,_,_,_,by k_is,by k_is,by k_is⟩
  case V|W|X|Y|Z|aa|ab|ac|ad|ae|af|ag|ah|ai|aj|ak|al|am|an|ao|ap|aq|ar|au|av|aw|ax|ay|az|aA|aB|aC|aD|aE|aF|aG|aH|aI|aJ|aK|aL|aM=>k_is
  case aN=>exact ⟨_,_,_,_,_,_,_,_,_,by k_is,by k_is,by k_is⟩
  case aO=>k_is
  case aP=>exact ⟨_,_,_,_,_,_,_,_,_,by k_is,by k_is,by k_is⟩
  case aQ=>exact ⟨by k_is,_,_,_,_,_,_,_,_,_,by k_is,by k_is,by k_is⟩
  case aR|aS|aT=>k_is
  case aU=>exact ⟨_,_,_,by k_is,rfl,rfl,by decide,.cons ⟨_,rfl⟩ (.cons ⟨_,rfl⟩ (.cons ⟨_,rfl⟩ (.nil)))⟩
  case aV=>exact ⟨_,_,_,by k_is,rfl,rfl,by decide,.cons ⟨_,rfl⟩ (.cons ⟨_,rfl⟩ (.nil))⟩
  case aW=>exact ⟨_,_,_,by k_is,rfl,rfl,by decide,.cons ⟨_,rfl⟩ (.cons ⟨_,rfl⟩ (.cons ⟨_,rfl⟩ (.nil)))⟩
  case aX=>exact ⟨by decide,_,_,_,by k_is,⟨rfl,rfl,rfl⟩,rfl,(.cons ⟨_,_,_,by k_is,rfl,rfl,by decide,.cons ⟨_,rfl⟩ (.cons ⟨_,rfl⟩ (.nil))⟩ (.cons ⟨_,_,_,by k_is,rfl,rfl,by decide,.cons ⟨_,rfl⟩ (.cons ⟨_,rfl⟩ (.nil))⟩ (.cons ⟨_,_,_,by k_is,rfl,rfl,by decide,.cons ⟨_,rfl⟩ (.cons ⟨_,rfl⟩ (.cons ⟨_,rfl⟩ (.nil)))⟩ (.cons ⟨_,_,_,by k_is,rfl,rfl,by decide,.cons ⟨_,rfl⟩ (.cons ⟨_,rfl⟩ (.cons ⟨_,rfl⟩ (.nil)))⟩ (.cons ⟨_,_,_,by k_is,rfl,rfl,by decide,.cons ⟨_,rfl⟩ (.cons ⟨_,rfl⟩ (.cons ⟨_,rfl⟩ (.cons ⟨_,rfl⟩ (.nil))))⟩ (.cons ⟨_,_,_,by k_is,rfl,rfl,by decide,.cons ⟨_,rfl⟩ (.cons ⟨_,rfl⟩ (.cons ⟨_,rfl⟩ (.nil)))⟩ (.cons ⟨_,_,_,by k_is,rfl,rfl,by decide,.cons ⟨_,rfl⟩ (.cons ⟨_,rfl⟩ (.cons ⟨_,rfl⟩ (.cons ⟨_,rfl⟩ (.nil))))⟩ (.cons ⟨_,_,_,by k_is,rfl,rfl,by decide,.cons ⟨_,rfl⟩ (.cons ⟨_,rfl⟩ (.cons ⟨_,rfl⟩ (.cons ⟨_,rfl⟩ (.nil))))⟩ (.cons ⟨_,_,_,by k_is,rfl,rfl,by decide,.cons ⟨_,rfl⟩ (.cons ⟨_,rfl⟩ (.nil))⟩ (.cons ⟨_,_,_,by k_is,rfl,rfl,by decide,.cons ⟨_,rfl⟩ (.cons ⟨_,rfl⟩ (.cons ⟨_,rfl⟩ (.nil)))⟩ (.cons ⟨_,_,_,by k_is,rfl,rfl,by decide,.cons ⟨_,rfl⟩ (.cons ⟨_,rfl⟩ (.nil))⟩ .nil)))))))))))⟩
  case aY=>exact ⟨by decide,_,_,_,by k_is,⟨rfl,rfl,rfl⟩,rfl,(.cons ⟨_,_,_,by k_is,rfl,rfl,by decide,.cons ⟨_,rfl⟩ (.cons ⟨_,rfl⟩ (.nil))⟩ (.cons ⟨_,_,_,by k_is,rfl,rfl,by decide,.cons ⟨_,rfl⟩ (.cons ⟨_,rfl⟩ (.nil))⟩ (.cons ⟨_,_,_,by k_is,rfl,rfl,by decide,.cons ⟨_,rfl⟩ (.cons ⟨_,rfl⟩ (.nil))⟩ (.cons ⟨_,_,_,by k_is,rfl,rfl,by decide,.cons ⟨_,rfl⟩ (.cons ⟨_,rfl⟩ (.nil))⟩ (.cons ⟨_,_,_,by k_is,rfl,rfl,by decide,.cons ⟨_,rfl⟩ (.cons ⟨_,rfl⟩ (.nil))⟩ (.cons ⟨_,_,_,by k_is,rfl,rfl,by decide,.cons ⟨_,rfl⟩ (.cons ⟨_,rfl⟩ (.nil))⟩ (.cons ⟨_,_,_,by k_is,rfl,rfl,by decide,.cons ⟨_,rfl⟩ (.cons ⟨_,rfl⟩ (.nil))⟩ (.cons ⟨_,_,_,by k_is,rfl,rfl,by decide,.cons ⟨_,rfl⟩ (.cons ⟨_,rfl⟩ (.nil))⟩ .nil))))))))⟩
  case aZ=>kernel_rfl
  case ba=>exact ⟨⟨by k_is,by k_is,by k_is⟩,by kernel_rfl,by k_is,by k_is,by k_is,by k_is⟩
  case bb=>kernel_rfl
  case bc=>exact ⟨⟨by k_is,by k_is,by k_is⟩,by kernel_rfl,by k_is,by k_is,by k_is,by k_is⟩
  case bd|be=>exact ⟨by k_is,by kernel_rfl,by k_is⟩
  case bf|bg|bh|bi|bj=>k_is
  case bk|bl|bm|bn|bo|bp|bq|br|bs|bt|bu|bv|bw|bx|bz|bA|bB|bC|bD|bE|bF|bG|bH|bI|bJ|bK|bL|bM|bN|bO|bP|bQ|bR=>kernel_rfl
  case bS=>exact ⟨by k_is,by kernel_rfl,by kernel_rfl,by k_is⟩
  case bT=>k_is
  case bU=>exact ⟨by k_is,by kernel_rfl,by kernel_rfl,by k_is⟩
  case bV=>k_is
  case bW=>exact ⟨by k_is,by kernel_rfl,by kernel_rfl,by k_is⟩
  case bX=>k_is
  case bY|bZ|ca=>exact ⟨⟨by k_is,by k_is,by k_is⟩,by kernel_rfl,by k_is,by k_is,by k_is,by k_is⟩
  case cb|cc|cd|ce|cf|cg|ch|ci|cj|ck=>exact ⟨by k_is,by k_is,by k_is,by k_is⟩
  case cl|cm|cn|co|cp|cq|cr|cs|ct|cu|cv|cw|cx|cy|cz|cA|cB|cC|cD|cE|cF=>(unfold L2.aD;k_is)
  case cG|cH|cI|cJ|cK|cL=>exact ⟨by k_is,by k_is,by k_is,by k_is⟩
  case cM|cN|cO|cP|cQ|cR|cS|cT|cU|cV|cW|cX|cY=>kernel_rfl
  case cZ=>exact ⟨⟨_,_,_,_,_,_,_,_,_,_,_,_,_,_,_,_,by k_is,by kernel_rfl,by k_is,by kernel_rfl⟩,by k_is,by k_is⟩
  case da|db|dc=>k_is
  case dd=>exact ⟨⟨_,_,_,_,_,_,_,_,_,_,_,_,_,_,_,_,by k_is,by kernel_rfl,by k_is,by kernel_rfl⟩,by k_is,by k_is⟩
  case de|df|dg=>k_is
  case dh=>exact ⟨⟨_,_,_,_,_,_,_,_,_,_,_,_,_,_,_,_,by k_is,by kernel_rfl,by k_is,by kernel_rfl⟩,by k_is,by k_is⟩
  case di|dj|dk=>k_is
