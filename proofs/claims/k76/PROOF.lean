import PyProof.Rows.All
import Wide.All
import OpenK.AllK
import Wide.FinOn
import Lean
import PyProof.EqAt
import PyProof.EqKinds
import PyProof.TupleCall
import PyProof.NeKinds
import PyProof.StationsW
import PyProof.RulesAs
import PyProof.ExcArgsOwn
import PyProof.CompFree
import PyProof.ExcInit
import PyProof.ConsumeWalk
import PyProof.Rows.SeqGen
import PyProof.StrWalks
import PyProof.SliceStr2
import PyProof.MeetsStr
import KE.KIntText
import PyProof.Rows.FStr
import PyProof.StrCalls6
import PyProof.StrBlockL
import PyProof.ToksMono
import PyProof.WalkInts
import PyProof.Rows.MinMaxN
import PyProof.StrLawsReplace
import PyProof.StrLawsTight
import PyProof.Rows.StrLawsPart
import PyProof.DictWalks
import KE.KEqDict
import KE.KDictLaws
import KE.KRevIter
import PyProof.ListCopy
import PyProof.CollectIter
import PyProof.Rows.SetFrom
import PyProof.Rows.SortShellK
import PyProof.Rows.SortStr
import PyProof.Rows.SortWalk
import KE.KDictSum
import KE.KSortTup
import PyProof.TupleOfSeq
import PyProof.Rows.SortRuns
import PyProof.FactsAll.tuple_2
import PyProof.WalksEnum
import PyProof.EnumMake
import PyProof.EnumFor
import PyProof.ZipIter
import KE.KDictOf
import PyProof.DictItems
import PyProof.FactsAll.dict_itemiterator_1
import PyProof.Rows.StrMul
import KE.KDictList
import PyProof.Rows.SumAny
import KE.KIsAll
import PyProof.StrLaws
import PyProof.Rows.SortRev
import PyProof.FactsAll.tuple_1
import PyProof.PureInt
import PyProof.Conv_int_bool
import PyProof.Rows.CallKwBuiltin
import PySem.Challenge.RW_stovework_k76_whole_no_false_paper
set_option maxHeartbeats 4000000
noncomputable section
abbrev KY:=PySem.Value->PySem.Shared->Prop
abbrev KZ:=PySem.Str->Option PySem.Value
abbrev La:=List (PySem.Addr×PySem.Obj)
abbrev Lb:=List PySem.Str
abbrev Lc:=List PySem.Addr
abbrev Ld:=List PySem.Value
abbrev Le:=Option PySem.Addr
abbrev Lg:=Option PySem.Value
open Array renaming length_toList → Im, getElem?_toList → J6, getElem?_eq_getElem → JS, getElem?_eq_none → K4, getElem?_eq_some_iff → KB
open Bool renaming and_eq_true → II, false_ne_true → Iy, false_or → JR, true_and → JU, false_and → Jg, and_false → Jh, eq_iff_iff → Jj, false_eq_true → Jn, not_eq_true → K3, or_eq_true → K7, not_true → K8, true_or → KD, or_false → KF
open Int renaming toNat_natCast → IP, le_refl → JZ, zero_add → Jb, toNat_of_nonneg → Jc
open List renaming length_map → I0, getElem?_eq_getElem → IA, length_append → IB, getElem?_eq_some_iff → IC, mem_of_getElem? → ID, getElem?_map → IG, mem_cons → IK, getElem_mem → IL, mem_singleton → IM, length_take → IR, mem_append → IS, all_eq_true → IT, length_singleton → IU, mem_map → IV, map_map → IW, mem_cons_of_mem → IX, size_toArray → IY, mem_append_right → Ik, map_append → Il, length_drop → Io, range → Ip, mem_cons_self → Iq, take_length → Ir, length_cons → Iu, any_eq_true → Iv, mem_iff_getElem? → Iw, not_mem_nil → Iz, map_cons → J1, length_range → J5, getElem?_append_right → J7, mem_range → JB, append_assoc → JE, eq_nil_of_length_eq_zero → JF, sum_cons → JG, getElem?_append_left → JH, length_reverse → JN, getD_eq_getElem?_getD → JP, mem_filter → JT, find?_cons → Ja, append_nil → Ji, nodup_cons → Jl, pairwise_cons → Jm, any_cons → Jo, mem_map_of_mem → Jr, length_filter_le → Jt, getElem?_eq_none → Ju, take_add_one → Jx, nodup_append → Jy, map_congr_left → K1, length_pos_iff → K2, take_of_length_le → K5, range_succ → K6, length_replicate → KA, map_eq_nil_iff → KE, any_append → KI
open Nat renaming le_refl → IH, ne_of_lt → IQ, le_trans → J8, lt_of_lt_of_le → JA, zero_le → JC, lt_succ_iff_lt_or_eq → JV, lt_succ_of_lt → JX, ne_of_gt → Jp, le_succ → Jz, not_lt_zero → K9, mul_le_mul → KC, lt_irrefl → KH
open Option renaming map_eq_some_iff → IF, bind_eq_some_iff → J2, isSome_iff_exists → J4, map_some → Jw
open Option.some renaming inj → JW
open PyProof renaming noPylong_small → IJ
open PyProof.Rows renaming callWith_type1 → J9
open PySem renaming mem_of_lookup → JQ
open PySem.F renaming plainAttrs_list → IN, type_list_append → IZ, slot_list_append → Ij, type_list_extend → Jd, slot_list_extend → Je, plain_list_iadd → KG
open PySem.W renaming Frag → IE, nsIn → J3, mg_none_of → JD, mg_of → JY, kia_one → Jf, emptyDict → Jk, fnOf → Jq, findIn → Js, instObj → Jv, keepIn → K0
open PySem.W.Fast renaming te14364793385576792824 → JI, te14289696077712309145 → JJ, te11892475500146522536 → JK, te10274390034422433532 → JL, te10156331382660048174 → JM, te6613529449190102663 → JO
namespace Ht
open PySem PySem.W PyProof.Rows
noncomputable def t8 (ok:Thread->Bool) (st:SharedT->Thread->Option (SharedT×Thread)) (n:Nat):SharedT->Thread->Option SharedT:=
 Nat.rec (motive:=fun _=>SharedT->Thread->Option SharedT) (fun _ _=>none) (fun _ ih s t=>
  Bool.rec (motive:=fun _=>Option SharedT)
   (Bool.rec (motive:=fun _=>Option SharedT) none (Option.rec (motive:=fun _=>Option SharedT) none (fun r=>Prod.rec (motive:=fun _=>Option SharedT) (fun s' t'=>ih s' t') r) (st s t)) (ok t))
   (some s) (through t)) n
theorem ve {tb:String->Option Builtin} {p:Program} {w:World} {m:Nat} {ann:Lg}:∀{n:Nat} {s s':SharedT} {t:Thread},t8 (stepOk m ann) (stepT (denote tb) p w) n s t=some s'->topRun tb p w m ann n s.abs t=some s'.abs
 |0,_,_,_,h=>by cases h
 |n+1,s,s',t,h=>by
  unfold topRun;have h':Bool.rec (motive:=fun _=>Option SharedT)
   (Bool.rec (motive:=fun _=>Option SharedT) none (Option.rec (motive:=fun _=>Option SharedT) none (fun r=>Prod.rec (motive:=fun _=>Option SharedT) (fun s' t'=>t8 (stepOk m ann) (stepT (denote tb) p w) n s' t') r) (stepT (denote tb) p w s t)) (stepOk m ann t))
   (some s) (through t)=some s':=h
  cases ht:through t with
  |true=>rw[ht] at h';cases h';rfl
  |false=>
   rw[ht] at h';cases hk:stepOk m ann t with
   |false=>rw[hk] at h';cases h'
   |true=>
    rw[hk] at h';cases hs:stepT (denote tb) p w s t with
    |none=>rw[hs] at h';cases h'
    |some r=>
     obtain ⟨s₂,t₂⟩:=r;rw[hs] at h';dsimp only;rw[stepT_spec hs];exact ve h'
noncomputable def grow (l:List Obj):Nat->BT->Option BT:=
 List.rec (motive:=fun _=>Nat->BT->Option BT) (fun _ t=>some t) (fun o _ ih n t=>
  Bool.rec (motive:=fun _=>Option BT) none (ih (n+1) (t.ins n o)) ((t.ins n o).get n).isSome) l
theorem vh {life:Life}:∀{l:List Obj} {n:Nat} {t t':BT},grow l n t=some t'->absHeap t' (n+l.length) life=⟨(absHeap t n life).objs++l.toArray,life⟩
 | [],n,t,t',h=>by
  cases h;simp[absHeap]
 |o::l,n,t,t',h=>by
  have h':Bool.rec (motive:=fun _=>Option BT) none (grow l (n+1) (t.ins n o)) ((t.ins n o).get n).isSome=some t':=h
  cases e:((t.ins n o).get n).isSome with
  |false=>rw[e] at h';cases h'
  |true=>
   rw[e] at h';have z:=vh (life:=life) h';rw[absHeap_ins e] at z;rw[show n+(o::l).length=n+1+l.length by rw[Iu];lia,z]
   simp[Heap.push]
noncomputable def treeOf (s:Shared):Option SharedT:=
 Option.rec (motive:=fun _=>Option SharedT) none (fun t=>some ⟨t,s.heap.objs.size,s.heap.life,s.gens,s.drawn,s.toks,s.os⟩) (grow s.heap.objs.toList 0 .nil)
theorem t9 {s:Shared} {s':SharedT} (h:treeOf s=some s'):s'.abs=s:=by
 have h':Option.rec (motive:=fun _=>Option SharedT) none (fun t=>some ⟨t,s.heap.objs.size,s.heap.life,s.gens,s.drawn,s.toks,s.os⟩) (grow s.heap.objs.toList 0 .nil)=some s':=h
 cases e:grow s.heap.objs.toList 0 .nil with
 |none=>rw[e] at h';cases h'
 |some t=>
  rw[e] at h';cases h';have z:=vh (life:=s.heap.life) e;obtain ⟨⟨objs,life⟩,gens,drawn,toks,os⟩:=s;simp only[SharedT.abs];have z':absHeap t objs.size life=⟨objs,life⟩:=by
   simpa [absHeap,BT.list] using z
  rw[z']
noncomputable def x6 (ok:Nat->Lg->Thread->Bool) (st:SharedT->Thread->Option (SharedT×Thread)) (p:Program) (N:Nat) (s₀:Shared):Option Shared:=
 Bool.rec (motive:=fun _=>Option Shared) none
  ((treeOf s₀).bind fun t₀=>(t8 (ok s₀.heap.objs.size (s₀.heap.nsMap mainGlobals "__annotations__")) st N t₀ (topStub p)).bind fun t₁=>
   (fun s₁=>Bool.rec (motive:=fun _=>Option Shared) none (some s₁) (staticsOk (importedModules p.main.body) s₀.heap s₁.heap&&namesBound p s₁.heap&&gensDone s₁&&laidKept s₀.heap s₁.heap)) t₁.abs)
  (s₀.heap.isNs mainGlobals&&s₀.gens.size==0)
theorem x9 {tb:String->Option Builtin} {p:Program} {w:World} {N:Nat} {s₀ s:Shared} (h:x6 stepOk (stepT (denote tb) p w) p N s₀=some s):topFrom tb p w N s₀=some s:=by
 unfold x6 at h;unfold topFrom;cases e:s₀.heap.isNs mainGlobals&&s₀.gens.size==0 with
 |false=>rw[e] at h;cases h
 |true=>
  rw[e] at h;obtain ⟨t₀,e0,h⟩:=J2.mp h;obtain ⟨t₁,e1,h⟩:=J2.mp h;have r:=ve e1;rw[t9 e0] at r;dsimp only;rw[r];dsimp only at h;show (match staticsOk (importedModules p.main.body) s₀.heap t₁.abs.heap&&namesBound p t₁.abs.heap&&gensDone t₁.abs&&laidKept s₀.heap t₁.abs.heap with|true=>some t₁.abs|false=>none)=some s
  cases q:staticsOk (importedModules p.main.body) s₀.heap t₁.abs.heap&&namesBound p t₁.abs.heap&&gensDone t₁.abs&&laidKept s₀.heap t₁.abs.heap with
  |false=>rw[q] at h;cases h
  |true=>rw[q] at h;exact h
noncomputable def qh (ok:Nat->Lg->Thread->Bool) (st:SharedT->Thread->Option (SharedT×Thread)) (p:Program) (N:Nat) (s₀:Shared):Option Shared:=
 (treeOf s₀).bind fun t₀=>(t8 (ok s₀.heap.objs.size (s₀.heap.nsMap mainGlobals "__annotations__")) st N t₀ (topStub p)).map fun t₁=>t₁.abs
noncomputable def Am (p:Program) (s₀ s₁:Shared):Bool:=(s₀.heap.isNs mainGlobals&&s₀.gens.size==0)&&(staticsOk (importedModules p.main.body) s₀.heap s₁.heap&&namesBound p s₁.heap&&gensDone s₁&&laidKept s₀.heap s₁.heap)
theorem ya {tb:String->Option Builtin} {p:Program} {w:World} {N:Nat} {s₀ s:Shared} (h:qh stepOk (stepT (denote tb) p w) p N s₀=some s) (c:Am p s₀ s=true):topFrom tb p w N s₀=some s:=by
 apply x9;unfold qh at h;obtain ⟨t₀,e0,h⟩:=J2.mp h;obtain ⟨t₁,e1,rfl⟩:=IF.mp h;unfold Am at c;rw[II] at c;unfold x6;rw[c.1];show ((treeOf s₀).bind fun t₀=>_)=_
 rw[e0];show ((t8 _ _ N t₀ (topStub p)).bind fun t₁=>_)=_
 rw[e1];show (Bool.rec (motive:=fun _=>Option Shared) none (some t₁.abs) (staticsOk (importedModules p.main.body) s₀.heap t₁.abs.heap&&namesBound p t₁.abs.heap&&gensDone t₁.abs&&laidKept s₀.heap t₁.abs.heap):Option Shared)=_
 rw[c.2]
abbrev Look (p:Program) (N:Nat) {α:Type} (f:Shared->Shared->α) (v:World->α):Prop:=∀w:World,((importEnds treeTable (opening p) w N (start (opening p)).1 (start (opening p)).2).bind fun s=>(fenceModules? p s).bind fun s₀=>(qh stepOk (stepT (denote treeTable) p w) p N s₀).map fun s₁=>f s₀ s₁)=some (v w)
theorem Look.at_ {p:Program} {N:Nat} {α:Type} {f:Shared->Shared->α} {v:World->α} (h:Look p N f v) (w:World) {s s₀ s₁:Shared} (a:importEnds treeTable (opening p) w N (start (opening p)).1 (start (opening p)).2=some s) (b:fenceModules? p s=some s₀) (c:qh stepOk (stepT (denote treeTable) p w) p N s₀=some s₁):f s₀ s₁=v w:=by
 have:=h w;rw[a] at this;replace this:((fenceModules? p s).bind fun s₀=>(qh stepOk (stepT (denote treeTable) p w) p N s₀).map fun s₁=>f s₀ s₁)=some (v w):=this
 rw[b] at this;replace this:((qh stepOk (stepT (denote treeTable) p w) p N s₀).map fun s₁=>f s₀ s₁)=some (v w):=this
 rw[c] at this;injection this
theorem yb {p q:Program} {loose:Lb} {Xt:Shared->Bool} {α:Type} {Yf:Shared->α} {Ya:World->α} {N:Nat} {g0:Bool} (hc:Look p N (fun s₀ s₁=>Am p s₀ s₁) fun _=>true)
  (h1:Look p N (fun _ s=>openSeen q loose (importedModules p.main.body) Xt g0 s) fun _=>openGood q loose) (h2:Look p N (fun _ s=>Yf s) Ya):LeftO p q loose Xt Yf Ya N g0:=fun w=>by
 obtain ⟨s,a,e⟩:=J2.mp (hc w);obtain ⟨s₀,b,e⟩:=J2.mp e;obtain ⟨s₁,c,e⟩:=IF.mp e;have z:openEnds treeTable p w N=some s₁:=by
  unfold openEnds fencedOpening;rw[a];show (fenceModules? p s).bind _=_;rw[b];exact ya c e
 rw[z];show some (_,_)=some (_,_);rw[h1.at_ w a b c,h2.at_ w a b c]
noncomputable def vm (t:SharedT) (a:Addr):Option Obj:=Bool.rec (motive:=fun _=>Option Obj) none ((fun o=>Bool.rec (motive:=fun _=>Option Obj) (some o) none (Obj.isFreed o)) ((t.tree.get a).getD default)) (Nat.blt a t.n)
theorem wJ (t:SharedT) (a:Addr):vm t a=t.abs.heap.get? a:=by
 unfold vm SharedT.abs Heap.get?;dsimp only;rw[absHeap_at];cases h:Nat.blt a t.n with
 |false=>
  rw[if_neg fun z=>by rw[Nat.blt_eq.mpr z] at h;cases h]
 |true=>
  rw[if_pos (Nat.blt_eq.mp h)];obtain ⟨cls,dict,data,slots⟩:=(t.tree.get a).getD default;cases data<;>rfl
theorem wK {p:Program} {N:Nat} {as:Lc} {v:World->List (Option Obj)}
  (h:∀w:World,((importEnds treeTable (opening p) w N (start (opening p)).1 (start (opening p)).2).bind fun s=>(fenceModules? p s).bind fun s₀=>(treeOf s₀).bind fun t₀=>(t8 (stepOk s₀.heap.objs.size (s₀.heap.nsMap mainGlobals "__annotations__")) (stepT (denote treeTable) p w) N t₀ (topStub p)).map fun t₁=>as.map (vm t₁))=some (v w)):
  Look p N (fun _ s=>as.map s.heap.get?) v:=fun w=>by
 obtain ⟨s,a,e⟩:=J2.mp (h w);obtain ⟨s₀,b,e⟩:=J2.mp e;obtain ⟨t₀,c,e⟩:=J2.mp e;obtain ⟨t₁,d,e⟩:=IF.mp e;rw[a];show (fenceModules? p s).bind _=_;rw[b];show (qh stepOk (stepT (denote treeTable) p w) p N s₀).map _=_;unfold qh;rw[c];show ((t8 _ _ N t₀ (topStub p)).map fun t₁=>t₁.abs).map _=_
 rw[d];show some (as.map t₁.abs.heap.get?)=_;rw[<-e,show (as.map (vm t₁))=as.map t₁.abs.heap.get? from K1 fun a _=>wJ t₁ a]
theorem BM {p:Program} {N:Nat} {α β γ δ ε ζ η:Type} {f:Shared->Shared->α×β×γ×δ×ε×ζ×η} {v:World->α×β×γ×δ×ε×ζ×η} (h1:Look p N (fun a b=>(f a b).1) fun w=>(v w).1) (h2:Look p N (fun a b=>(f a b).2.2.1) fun w=>(v w).2.2.1)
  (h3:Look p N (fun a b=>(f a b).2.2.2.1) fun w=>(v w).2.2.2.1) (h4:Look p N (fun a b=>(f a b).2.2.2.2.2.1) fun w=>(v w).2.2.2.2.2.1) (h5:Look p N (fun a b=>((f a b).2.1,(f a b).2.2.2.2.1,(f a b).2.2.2.2.2.2)) fun w=>((v w).2.1,(v w).2.2.2.2.1,(v w).2.2.2.2.2.2)):Look p N f v:=fun w=>by
 obtain ⟨s,a,e⟩:=J2.mp (h1 w);obtain ⟨s₀,b,e⟩:=J2.mp e;obtain ⟨s₁,c,e⟩:=IF.mp e;have e1:=h1.at_ w a b c;have e2:=h2.at_ w a b c;have e3:=h3.at_ w a b c;have e4:=h4.at_ w a b c;have e5:=h5.at_ w a b c;rw[a];show (fenceModules? p s).bind _=_;rw[b];show (qh stepOk (stepT (denote treeTable) p w) p N s₀).map _=_;rw[c];obtain ⟨f1,f2⟩:=Prod.mk.inj e5;obtain ⟨f2,f3⟩:=Prod.mk.inj f2;have f4:f s₀ s₁=v w:=Prod.ext e1 (Prod.ext f1 (Prod.ext e2 (Prod.ext e3 (Prod.ext f2 (Prod.ext e4 f3)))));exact congrArg some f4
end Ht
set_option Elab.async false
set_option linter.all false
set_option maxRecDepth 100000
namespace Lk76
open PySem PySem.W PyProof.Rows
noncomputable def qv:Program:={PySem.Challenge.pw_stovework_k76_whole_no_false_paper with main:={PySem.Challenge.pw_stovework_k76_whole_no_false_paper.main with body:=([1,2,3,4,6,7,8,10,11,12,13,14,15,16,17,18,19,20,21,22,23,24,25,26,28,29,30,31,32,33,34,35,37,38,39,40,42,43,44,45,46,48,49,50,51,53,54,55,56,57,58,59,60,61,62,64,65,66,67,68,69,70,71,72,73,74,75,76,77,79,80,81,82,83,84,85,86,87,88,89,90,91,92,93,94,95,96,97,98,99,100,101,102,103,104,105,106,107,108,109,110,111,112]:List Nat).filterMap fun i=>PySem.Challenge.pw_stovework_k76_whole_no_false_paper.main.body[i]?}}
noncomputable def lo:Lb:= []
theorem head {α:Type} {Yf:Shared->α} {Ya:World->α} {YP:World->Heap->Prop} {d:DefRec} {kwd:List (Str×Expr)} (left:LeftO PySem.Challenge.pw_stovework_k76_whole_no_false_paper qv lo (fun s=>xlAt qv [] s&&recOk [] s) Yf Ya 7700)
  (hY:∀w s,Yf s=Ya w->YP w s.heap) (hYk:∀w h h',YP w h->(∀b o,h.get? b=some o->h'.get? b=some o)->YP w h') (hd:defOf qv PySem.Challenge.rw_stovework_k76_whole_no_false_paper.row.name=some (d,kwd))
  (hp:PySem.Challenge.rw_stovework_k76_whole_no_false_paper.row.prog.theDef PySem.Challenge.rw_stovework_k76_whole_no_false_paper.row.name=some (d.params,d.body,d.scope)) (hk:kwWritten? d.params.kwonlyargs d.params.kw_defaults=some kwd)
  (said:PySem.Challenge.rw_stovework_k76_whole_no_false_paper.row.wellSaid=true) (hw:PySem.Challenge.rw_stovework_k76_whole_no_false_paper.row.toRowW.promised) (call:WalkO qv lo (XL qv []) YP PySem.Challenge.rw_stovework_k76_whole_no_false_paper.row.toRowW d kwd fun f vs=>PySem.call f vs):PySem.Challenge.rw_stovework_k76_whole_no_false_paper.row.Holds:=
 holds_open left hY hYk (fun s e=>xl_of s (Bool.and_eq_true_iff.mp e).1) XL.keeps hd hp hk (fun s e=>recFacts_of (Bool.and_eq_true_iff.mp e).2) rfl said (by decide+kernel) ⟨rfl,rfl,rfl,rfl,rfl,by decide+kernel⟩ hw call
set_option maxHeartbeats 0 in
theorem la:Ht.Look PySem.Challenge.pw_stovework_k76_whole_no_false_paper 7700 (fun s₀ s₁=>Ht.Am PySem.Challenge.pw_stovework_k76_whole_no_false_paper s₀ s₁) (fun _=>true):=by
 (intro w;rw[JL,JJ,JO,JM,JK,JI];kernel_rfl)
set_option maxHeartbeats 0 in
theorem HH:Ht.Look PySem.Challenge.pw_stovework_k76_whole_no_false_paper 7700 (fun _ s=>(openSeen qv lo (importedModules PySem.Challenge.pw_stovework_k76_whole_no_false_paper.main.body) (fun s=>xlAt qv [] s&&recOk [] s) true s).1) (fun _=>(openGood qv lo).1):=by
 dsimp only[openSeen,openGood]
 (intro w;rw[JL,JJ,JO,JM,JK,JI];kernel_rfl)
set_option maxHeartbeats 0 in
theorem Bv:Ht.Look PySem.Challenge.pw_stovework_k76_whole_no_false_paper 7700 (fun _ s=>(openSeen qv lo (importedModules PySem.Challenge.pw_stovework_k76_whole_no_false_paper.main.body) (fun s=>xlAt qv [] s&&recOk [] s) true s).2.2.1) (fun _=>(openGood qv lo).2.2.1):=by
 dsimp only[openSeen,openGood]
 (intro w;rw[JL,JJ,JO,JM,JK,JI];kernel_rfl)
set_option maxHeartbeats 0 in
theorem HI:Ht.Look PySem.Challenge.pw_stovework_k76_whole_no_false_paper 7700 (fun _ s=>(openSeen qv lo (importedModules PySem.Challenge.pw_stovework_k76_whole_no_false_paper.main.body) (fun s=>xlAt qv [] s&&recOk [] s) true s).2.2.2.1) (fun _=>(openGood qv lo).2.2.2.1):=by
 dsimp only[openSeen,openGood]
 (intro w;rw[JL,JJ,JO,JM,JK,JI];kernel_rfl)
set_option maxHeartbeats 0 in
theorem HJ:Ht.Look PySem.Challenge.pw_stovework_k76_whole_no_false_paper 7700 (fun _ s=>(openSeen qv lo (importedModules PySem.Challenge.pw_stovework_k76_whole_no_false_paper.main.body) (fun s=>xlAt qv [] s&&recOk [] s) true s).2.2.2.2.2.1) (fun _=>(openGood qv lo).2.2.2.2.2.1):=by
 dsimp only[openSeen,openGood]
 (intro w;rw[JL,JJ,JO,JM,JK,JI];kernel_rfl)
set_option maxHeartbeats 0 in
theorem HK:Ht.Look PySem.Challenge.pw_stovework_k76_whole_no_false_paper 7700 (fun _ s=>((openSeen qv lo (importedModules PySem.Challenge.pw_stovework_k76_whole_no_false_paper.main.body) (fun s=>xlAt qv [] s&&recOk [] s) true s).2.1,(openSeen qv lo (importedModules PySem.Challenge.pw_stovework_k76_whole_no_false_paper.main.body) (fun s=>xlAt qv [] s&&recOk [] s) true s).2.2.2.2.1,(openSeen qv lo (importedModules PySem.Challenge.pw_stovework_k76_whole_no_false_paper.main.body) (fun s=>xlAt qv [] s&&recOk [] s) true s).2.2.2.2.2.2)) (fun _=>((openGood qv lo).2.1,(openGood qv lo).2.2.2.2.1,(openGood qv lo).2.2.2.2.2.2)):=by
 dsimp only[openSeen,openGood]
 (intro w;rw[JL,JJ,JO,JM,JK,JI];kernel_rfl)
theorem lb:Ht.Look PySem.Challenge.pw_stovework_k76_whole_no_false_paper 7700 (fun _ s=>(openSeen qv lo (importedModules PySem.Challenge.pw_stovework_k76_whole_no_false_paper.main.body) (fun s=>xlAt qv [] s&&recOk [] s) true s)) (fun _=>(openGood qv lo)):=Ht.BM HH Bv HI HJ HK
end Lk76
local macro_rules| `(tactic|o_head $H)=> `(tactic|(refine Lk76.head (Yf:=PySem.W.Hook.obs $H) (Ya:=PySem.W.Hook.val $H) (YP:=PySem.W.Hook.says $H) ?hl (PySem.W.Hook.of $H) (PySem.W.Hook.keeps $H) (by rfl) (by rfl) (by rfl) (by assumption) ?hw ?hc;(case hl=>(refine Ht.yb Lk76.la Lk76.lb ?c;(case c=>(refine Ht.wK ?c2;(case c2=>(intro w;rw[JL,JJ,JO,JM,JK,JI];kernel_rfl))))))))
namespace PySem.W.Fast
noncomputable def tw16775275554450052949:PySem.Program:=PySem.Challenge.pw_stovework_k76_whole_no_false_paper
theorem te16775275554450052949:PySem.Challenge.pw_stovework_k76_whole_no_false_paper=tw16775275554450052949:=rfl
end PySem.W.Fast
set_option maxHeartbeats 0 in
open_top Lk76.hd for PySem.Challenge.rw_stovework_k76_whole_no_false_paper
namespace L2
open PySem PySem.Spec PyProof.Rows
abbrev Key:=Sum Int Str
noncomputable def oJ:Key->Value->Bool
 | .inl k,v=>Value.isInt k v
 | .inr x,v=>Value.isStrOf x v
noncomputable def Gq (w:World):Key->Int
 | .inl k=>hashInt k
 | .inr x=>hashStr w x
theorem cZ:∀{k:Key} {v:Value},oJ k v=true->(∃i t,k=Sum.inl i/\v=Value.int i t)∨(∃x t,k=Sum.inr x/\v=Value.str x t)
 | .inl i,v,h=>by
  obtain ⟨t,e⟩:=Value.isInt_shape (k:=i) (v:=v) h;exact .inl ⟨i,t,rfl,e⟩
 | .inr x,v,h=>by
  obtain ⟨t,e⟩:=Value.isStrOf_shape (x:=x) (v:=v) h;exact .inr ⟨x,t,rfl,e⟩
theorem wM (i:Int) (t:Tok):oJ (.inl i) (.int i t)=true:=by simp[oJ,Value.isInt]
theorem wN (x:Str) (t:Tok):oJ (.inr x) (.str x t)=true:=by simp[oJ,Value.isStrOf]
theorem BN (a b:Int):decide ((Sum.inl a:Key)=Sum.inl b)=(a==b):=by
 by_cases e:a=b
 ·subst e;simp
 ·have h:¬(Sum.inl a:Key)=Sum.inl b:=fun q=>e (Sum.inl.inj q)
  rw[decide_eq_false h];exact (beq_eq_false_iff_ne.mpr e).symm
theorem BO (a b:Str):decide ((Sum.inr a:Key)=Sum.inr b)=decide (a=b):=by
 by_cases e:a=b
 ·subst e;simp
 ·have h:¬(Sum.inr a:Key)=Sum.inr b:=fun q=>e (Sum.inr.inj q)
  rw[decide_eq_false h,decide_eq_false e]
theorem BP (a:Int) (b:Str):decide ((Sum.inl a:Key)=Sum.inr b)=false:=decide_eq_false (fun q=>nomatch q)
theorem BQ (a:Str) (b:Int):decide ((Sum.inr a:Key)=Sum.inl b)=false:=decide_eq_false (fun q=>nomatch q)
noncomputable def aU (prog:Program) (w:World):PySem.KeyKind prog w Key where
 is:=oJ
 hash:=Gq w
 inj:=fun v a b ha hb=>by
  rcases cZ ha with ⟨i,t,rfl,rfl⟩|⟨x,t,rfl,rfl⟩
  ·rcases cZ hb with ⟨j,u,rfl,e⟩|⟨y,u,rfl,e⟩
   ·injection e with e1 _;rw[e1]
   ·exact nomatch e
  ·rcases cZ hb with ⟨j,u,rfl,e⟩|⟨y,u,rfl,e⟩
   ·exact nomatch e
   ·injection e with e1 _;rw[e1]
 byValue:=fun k v h=>by
  rcases cZ h with ⟨i,t,rfl,rfl⟩|⟨x,t,rfl,rfl⟩<;>rfl
 pyHash:=fun hv h=>by
  rcases cZ hv with ⟨i,t,rfl,rfl⟩|⟨x,t,rfl,rfl⟩
  ·exact wpAny_pyHash_int h
  ·exact wpAny_pyHash_str h
 eqBool:=fun hu hv h=>by
  rcases cZ hu with ⟨i,t,rfl,rfl⟩|⟨x,t,rfl,rfl⟩
  ·rcases cZ hv with ⟨j,u,rfl,rfl⟩|⟨y,u,rfl,rfl⟩
   ·rw[BN] at h;exact wpAny_eqBool_int h
   ·rw[BP] at h;exact SeqAt.EqAt.int_str i t y u _ _ _ _ h
  ·rcases cZ hv with ⟨j,u,rfl,rfl⟩|⟨y,u,rfl,rfl⟩
   ·rw[BQ] at h;exact SeqAt.EqAt.str_int x t j u _ _ _ _ h
   ·rw[BO] at h;exact wpAny_eqBool_str h
 «strs» :=fun k x t v h=>by
  rcases cZ h with ⟨i,u,rfl,e⟩|⟨y,u,rfl,e⟩
  ·exact nomatch e
  ·injection e with e1 _
   subst e1;cases v<;>rfl
theorem rH (prog:Program) (w:World) (i:Int) (t:Tok):(aU prog w).is (.inl i) (.int i t)=true:=wM i t
theorem rJ (prog:Program) (w:World) (x:Str) (t:Tok):(aU prog w).is (.inr x) (.str x t)=true:=wN x t
inductive V where
 |non|bl (b:Bool)|int (i:Int)|str (x:Str)|byt (b:Array UInt8)|flt (b:UInt64)|ref (a:Addr)|ty (n:String)
 deriving DecidableEq
def RelV:V->Value->Prop
 | .non,u=>u=Value.none
 | .bl b,u=>u=Value.bool b
 | .int i,u=>∃t,u=Value.int i t
 | .str x,u=>∃t,u=Value.str x t
 | .byt b,u=>∃t,u=Value.bytes b t
 | .flt b,u=>∃t,u=Value.float b t
 | .ref a,u=>u=Value.ref a
 | .ty n,u=>u=Value.type n
abbrev bN:List V->Ld->Prop:=Paired RelV
theorem bN.length {xs:List V} {us:Ld} (r:bN xs us):xs.length=us.length:=Paired.length r
theorem bN.get:∀{xs:List V} {us:Ld} {i:Nat} {x:V},bN xs us->xs[i]?=some x->∃u,us[i]?=some u/\RelV x u
 |_,_,_,_,.nil,e=>by simp at e
 |_,_,0,_,.cons r _,e=>by simp at e;subst e;exact ⟨_,rfl,r⟩
 |_,_,i+1,x,.cons _ t,e=>by
  obtain ⟨u,h1,h2⟩:=bN.get (i:=i) (x:=x) t (by simpa using e)
  exact ⟨u,by simpa using h1,h2⟩
theorem bN.set {x:V} {u:Value} (r:RelV x u):∀{xs:List V} {us:Ld} (i:Nat),bN xs us->bN (xs.set i x) (us.set i u)
 |_,_,_,.nil=> .nil
 |_,_,0,.cons _ t=> .cons r t
 |_,_,i+1,.cons q t=> .cons q (bN.set r i t)
theorem bN.append:∀{xs ys:List V} {us ws:Ld},bN xs us->bN ys ws->bN (xs++ys) (us++ws)
 |_,_,_,_,.nil,s=>s
 |_,_,_,_,.cons r t,s=> .cons r (bN.append t s)
theorem bN.take:∀{xs:List V} {us:Ld} (n:Nat),bN xs us->bN (xs.take n) (us.take n)
 |_,_,0,_=> .nil
 |_,_,_+1,.nil=> .nil
 |_,_,n+1,.cons r t=> .cons r (bN.take n t)
theorem bN.drop:∀{xs:List V} {us:Ld} (n:Nat),bN xs us->bN (xs.drop n) (us.drop n)
 |_,_,0,r=>r
 |_,_,_+1,.nil=> .nil
 |_,_,n+1,.cons _ t=>bN.drop n t
def jC:Option V->Lg->Prop
 |some v,some u=>RelV v u
 |none,none=>True
 |_,_=>False
def KV {κ:Type}:List (κ×V)->List (κ×Value)->Prop:=Paired fun (p:κ×V) (q:κ×Value)=>p.1=q.1/\RelV p.2 q.2
noncomputable def kV:Key->V
 | .inl i=> .int i
 | .inr x=> .str x
inductive HO where
  |lst (xs:List V)
  |tup (xs:List V)
  |dK (kvs:List (Key×V))|dT (kvs:List (List Key×V))
  |set (S:Int->Bool) (n:Nat)
  |ins (C dx:Addr) (fs:List (Str×V))
  |own (x:Addr)
  |xd (fs:List (Str×V))
  |met (f x:Addr)
  |rng (lo hi:Int)
  |frz (o:Obj) (u:HO)
  |tbl (ps:Array Value)
  |ext (φ:Heap->Prop)
abbrev Hp:=Addr->Option HO
noncomputable def aK (H:Hp) (a:Addr) (o:HO):Hp:=fun b=>if b=a then some o else H b
theorem ag {H:Hp} {a:Addr} {o:HO}:aK H a o a=some o:=by unfold aK;rw[if_pos rfl]
theorem aQ {H:Hp} {a b:Addr} {o:HO} (h:b≠a):aK H a o b=H b:=by unfold aK;rw[if_neg h]
theorem jN {H:Hp} {a b:Addr} {o u:HO} (h:H a=some o) (h':H b=some u) (d:o≠u):a≠b:=by
 intro e;subst e;rw[h] at h';exact d (JW h')
theorem eM {H:Hp} {a b:Addr} {o:HO} (h:H a=some o) (h':H b=none):a≠b:=by
 intro e;subst e;rw[h] at h';cases h'
section
variable (P:Program) (w:World)
def cR (H:Hp) (h:Heap) (a:Addr):HO->Prop
 | .lst xs=>xs.length<=sizeLine/\∃(its:Ld) (n:Nat),bN xs its/\h.get? a=some {cls:= .type "list",data:= .seq its.toArray n}
 | .tup xs=>xs.length<=sizeLine/\∃its:Ld,bN xs its/\IsTup h a its.toArray
 | .dK kvs=>kvs.length<=sizeLine/\(a==sysModules)=false/\∃vs,KV kvs vs/\h.DictOf (aU P w) a vs
 | .dT kvs=>kvs.length<=sizeLine/\(a==sysModules)=false/\∃xs:List (List Key×Addr×Value),
   Paired (fun (p:List Key×V) (q:List Key×Addr×Value)=>p.1=q.1/\H q.2.1=some (.tup (p.1.map kV))/\RelV p.2 q.2.2) kvs xs/\
   ∃o es ep,h.get? a=some o/\o.ExactDict/\o.data= .dict es ep/\es.toList=xs.map (entryOfKey (tupleKind (aU P w)))/\(xs.map (·.1)).Nodup
 | .set S n=>h.SetOf (intKind P w) a S n
 | .ins C dx fs=>H dx=some (.own a)/\fs.length<=1000/\dx≠a/\h.get? a=some (Jv C dx)/\
   ∃mA,h.Ns1 dx mA/\(∀f,jC (fs.lookup f) (mA f))/\PySem.Within mA (fs.map (·.1))
 | .own _=>∃o,h.get? a=some o
 | .xd fs=>∃mA,h.Ns1 a mA/\∀f,jC (fs.lookup f) (mA f)
 | .rng lo hi=>∃t u v,h.get? a=some {cls:= .type "range",data:= .fields #[.int lo t,.int hi u,.int 1 v]}
 | .frz o u=>h.get? a=some o/\cR H h a u
 | .tbl ps=>h.get? a=some {cls:= .none,data:= .fields ps}
 | .met f x=>h.get? a=some (PySem.W.methodObj (.ref f) (.ref x))
 | .ext φ=>φ h/\(∃o,h.get? a=some o)/\∀h1 h2:Heap,φ h1->(∀o,h1.get? a=some o->h2.get? a=some o)->φ h2
def jv (H:Hp) (h:Heap):Prop:=∀a o,H a=some o->cR P w H h a o
end
section
variable {P:Program} {w:World} {H H':Hp} {h h':Heap} {a:Addr} {o:HO}
theorem cR.lt (x:cR P w H h a o):a<h.objs.size:=by
 cases o with
 |lst xs=>obtain ⟨_,_,_,_,e⟩:=x;exact Heap.lt_size e
 |tup xs=>obtain ⟨_,_,_,p⟩:=x;exact p.lt
 |dK kvs=>obtain ⟨_,_,_,_,o,_,_,e,_⟩:=x;exact Heap.lt_size e
 |dT kvs=>obtain ⟨_,_,_,_,o,_,_,e,_⟩:=x;exact Heap.lt_size e
 |set S n=>obtain ⟨o,_,_,_,e,_⟩:=x;exact Heap.lt_size e
 |ins C dx fs=>obtain ⟨_,_,_,e,_⟩:=x;exact Heap.lt_size e
 |own y=>obtain ⟨_,e⟩:=x;exact Heap.lt_size e
 |xd fs=>obtain ⟨_,⟨_,_,_,e,_⟩,_⟩:=x;exact Heap.lt_size e
 |rng lo hi=>obtain ⟨_,_,_,e⟩:=x;exact Heap.lt_size e
 |frz ob u=>obtain ⟨e,_⟩:=x;exact Heap.lt_size e
 |tbl ps=>exact Heap.lt_size (show h.get? a=some _ from x)
 |met f y=>exact Heap.lt_size (show h.get? a=some _ from x)
 |ext φ=>obtain ⟨_,⟨_,e⟩,_⟩:=x;exact Heap.lt_size e
theorem Paired.mapP {α β:Type} {F G:α->β->Prop}:∀{l₁:List α} {l₂:List β},Paired F l₁ l₂->(∀a b,F a b->G a b)->Paired G l₁ l₂
 |_,_,.nil,_=> .nil
 |_,_,.cons r t,f=> .cons (f _ _ r) (Paired.mapP t f)
theorem cR.stay (x:cR P w H h a o) (k:∀b u,(b=a∨H b=some (.own a))->h.get? b=some u->h'.get? b=some u)
  (ho:∀b,H b=some (.own a)->H' b=some (.own a)) (ht:∀b xs,H b=some (.tup xs)->H' b=some (.tup xs)):cR P w H' h' a o:=by
 induction o with
 |lst xs=>obtain ⟨z,its,n,r,e⟩:=x;exact ⟨z,its,n,r,k _ _ (.inl rfl) e⟩
 |tup xs=>obtain ⟨z,its,r,ob,e,c⟩:=x;exact ⟨z,its,r,ob,k _ _ (.inl rfl) e,c⟩
 |dK kvs=>obtain ⟨z,y,vs,r,ob,es,ep,e,c⟩:=x;exact ⟨z,y,vs,r,ob,es,ep,k _ _ (.inl rfl) e,c⟩
 |dT kvs=>
  obtain ⟨z,y,xs,r,ob,es,ep,e,c⟩:=x;exact ⟨z,y,xs,Paired.mapP r fun p q z=>⟨z.1,ht _ _ z.2.1,z.2.2⟩,ob,es,ep,k _ _ (.inl rfl) e,c⟩
 |set S n=>obtain ⟨ob,es,ep,t,e,c⟩:=x;exact ⟨ob,es,ep,t,k _ _ (.inl rfl) e,c⟩
 |ins C dx fs=>
  obtain ⟨d,z,ne,e,mA,⟨od,es,ep,e2,c⟩,r⟩:=x;exact ⟨ho _ d,z,ne,k _ _ (.inl rfl) e,mA,⟨od,es,ep,k _ _ (.inr d) e2,c⟩,r⟩
 |own y=>obtain ⟨ob,e⟩:=x;exact ⟨ob,k _ _ (.inl rfl) e⟩
 |xd fs=>obtain ⟨mA,⟨od,es,ep,e,c⟩,r⟩:=x;exact ⟨mA,⟨od,es,ep,k _ _ (.inl rfl) e,c⟩,r⟩
 |rng lo hi=>obtain ⟨t,u,v,e⟩:=x;exact ⟨t,u,v,k _ _ (.inl rfl) e⟩
 |frz ob u ih=>obtain ⟨e,q⟩:=x;exact ⟨k _ _ (.inl rfl) e,ih q⟩
 |tbl ps=>
  have e:h.get? a=some {cls:= .none,data:= .fields ps}:=x;show h'.get? a=some {cls:= .none,data:= .fields ps};exact k a _ (.inl rfl) e
 |met f y=>
  have e:h.get? a=some (PySem.W.methodObj (.ref f) (.ref y)):=x;show h'.get? a=some (PySem.W.methodObj (.ref f) (.ref y));exact k a _ (.inl rfl) e
 |ext φ=>obtain ⟨p,⟨o,e⟩,st⟩:=x;exact ⟨st _ _ p fun o q=>k _ _ (.inl rfl) q,⟨o,k _ _ (.inl rfl) e⟩,st⟩
theorem jv.lt (x:jv P w H h) (e:H a=some o):a<h.objs.size:=(x a o e).lt
theorem jv.fresh (x:jv P w H h) (e:h.objs.size<=a):H a=none:=by
 cases q:H a with
 |none=>rfl
 |some u=>exact absurd (JA (x.lt q) e) (KH _)
theorem jv.kept (x:jv P w H h) (k:∀b u,h.get? b=some u->h'.get? b=some u):jv P w H h':=fun a o e=>
 (x a o e).stay (fun b u _ q=>k b u q) (fun _ q=>q) fun _ _ q=>q
theorem jv.laid (x:jv P w H h) (k:∀b u,h.get? b=some u->h'.get? b=some u) (hp:h.objs.size<=a) (new:cR P w (aK H a o) h' a o):jv P w (aK H a o) h':=fun b u e=>by
 have hn:=x.fresh hp
 by_cases hb:b=a
 ·subst hb;rw[ag] at e;cases e;exact new
 ·rw[aQ hb] at e;exact (x b u e).stay (fun c v _ q=>k c v q) (fun c q=>by rw[aQ (eM q hn)];exact q) fun c xs q=>by rw[aQ (eM q hn)];exact q
end
def Rd (H:Hp) (a:Addr) (u:HO):Prop:=H a=some u∨∃o,H a=some (.frz o u)
theorem Rd.ok {P:Program} {w:World} {H:Hp} {h:Heap} {a:Addr} {u:HO} (r:Rd H a u) (x:jv P w H h):cR P w H h a u:=by
 rcases r with r|⟨o,r⟩
 ·exact x a u r
 ·obtain ⟨_,q⟩:=x a _ r;exact q
def D3:Option HO->Prop
 |some (.lst _)=>True
 |some (.dK _)=>True
 |some (.dT _)=>True
 |some (.set _ _)=>True
 |some (.ins _ _ _)=>True
 |some (.ext _)=>True
 |_=>False
section
variable {P:Program} {w:World} {H:Hp} {h h':Heap} {x e:Addr} {o':HO}
theorem jv.write (ok:jv P w H h) (mu:D3 (H x)) (he:e=x∨H e=some (.own x)) (k:∀b u,b≠e->h.get? b=some u->h'.get? b=some u) (heo:∃u,h'.get? e=some u)
  (new:cR P w (aK H x o') h' x o'):jv P w (aK H x o') h':=fun b u q=>by
 have nown:∀c y,H c=some (.own y)->c≠x:=fun c y r z=>by subst z;rw[r] at mu;exact mu
 have ntup:∀c xs,H c=some (.tup xs)->c≠x:=fun c xs r z=>by subst z;rw[r] at mu;exact mu
 by_cases hb:b=x
 ·subst hb;rw[ag] at q;cases q;exact new
 ·rw[aQ hb] at q
  by_cases hbe:b=e
  ·have q':H b=some (.own x):=by
    rcases he with z|z
    ·exact absurd (hbe.trans z) hb
    ·rw[hbe];exact z
   rw[q] at q';cases q';obtain ⟨v,hv⟩:=heo;exact ⟨v,by rw[hbe];exact hv⟩
  ·refine (ok b u q).stay (fun c v hc r=>k c v ?_ r) (fun c r=>by rw[aQ (nown c b r)];exact r) fun c xs r=>by rw[aQ (ntup c xs r)];exact r
   rcases hc with rfl|hc
   ·exact hbe
   ·rintro rfl;rcases he with z|z
    ·exact nown c b hc z
    ·rw[hc] at z;cases z;exact hb rfl
end
structure Un (fs ex:Lc) (H H':Hp) (h h':Heap):Prop where
 keep:∀b o,h.get? b=some o->H b=none->b∉fs->b∉ex->h'.get? b=some o
 slot:∀b o,h.get? b=some o->H b=none->b∈fs->b∉ex->∃sl,h'.get? b=some {o with slots:=sl}
 free:∀b o,h.get? b=some o->H b=none->b∉ex->H' b=none
 there:∀b o,h.get? b=some o->b∉ex->∃o',h'.get? b=some o'
 tups:∀b xs,H b=some (.tup xs)->H' b=some (.tup xs)
 frzs:∀b o u,H b=some (.frz o u)->H' b=some (.frz o u)
 tbls:∀b ps,H b=some (.tbl ps)->∃more,H' b=some (.tbl (ps++more))
section
variable {fs fs' ex ex':Lc} {H H1 H2:Hp} {h h1 h2 h':Heap} {a x e:Addr} {o:HO}
theorem Un.any (u:Un fs ex H H1 h h1) {b:Addr} {ob:Obj} (q:h.get? b=some ob) (n:H b=none) (hx:b∉ex):∃sl,h1.get? b=some {ob with slots:=sl}:=by
 by_cases hb:b∈fs
 ·exact u.slot b ob q n hb hx
 ·exact ⟨ob.slots,u.keep b ob q n hb hx⟩
theorem Un.kept (k:∀b u,h.get? b=some u->h'.get? b=some u):Un fs ex H H h h':=
 ⟨fun b ob q _ _ _=>k b ob q,fun b ob q _ _ _=>⟨ob.slots,k b ob q⟩,fun _ _ _ n _=>n,fun b ob q _=>⟨ob,k b ob q⟩,fun _ _ q=>q,fun _ _ _ q=>q,fun _ ps q=>⟨#[],by rw[q];simp⟩⟩
theorem Un.refl:Un fs ex H H h h:=Un.kept fun _ _ q=>q
theorem Un.laid (k:∀b u,h.get? b=some u->h'.get? b=some u) (hp:h.objs.size<=a) (hn:H a=none):Un fs ex H (aK H a o) h h' where
 keep:=fun b u q _ _ _=>k b u q
 slot:=fun b u q _ _ _=>⟨u.slots,k b u q⟩
 free:=fun b u q n _=>by rw[aQ (IQ (JA (Heap.lt_size q) hp))];exact n
 there:=fun b u q _=>⟨u,k b u q⟩
 tups:=fun b xs q=>by rw[aQ (eM q hn)];exact q
 frzs:=fun b u xs q=>by rw[aQ (eM q hn)];exact q
 tbls:=fun b ps q=>⟨#[],by rw[aQ (eM q hn),q];simp⟩
theorem Un.write (mu:D3 (H x)) (he:e=x∨H e=some (.own x)) (k:∀b u,b≠e->h.get? b=some u->h'.get? b=some u) (heo:∃u,h'.get? e=some u):Un fs ex H (aK H x o) h h':=by
 have hx:∀b,H b=none->b≠x:=fun b n z=>by subst z;rw[n] at mu;exact mu
 have hb:∀b,H b=none->b≠e:=fun b n z=>by
  subst z;rcases he with r|r
  ·exact hx b n r
  ·rw[n] at r;cases r
 have hm:∀b u,H b=some u->¬D3 (some u)->b≠x:=fun b u q nm z=>by subst z;rw[q] at mu;exact nm mu
 refine ⟨fun b u q n _ _=>k b u (hb b n) q,fun b u q n _ _=>⟨u.slots,k b u (hb b n) q⟩,fun b u q n _=>by rw[aQ (hx b n)];exact n,fun b u q _=>?_,
  fun b xs q=>by rw[aQ (hm b _ q fun z=>z)];exact q,fun b u xs q=>by rw[aQ (hm b _ q fun z=>z)];exact q,fun b ps q=>⟨#[],by rw[aQ (hm b _ q fun z=>z),q];simp⟩⟩
 by_cases hbe:b=e
 ·subst hbe;exact heo
 ·exact ⟨u,k b u hbe q⟩
end
noncomputable def Gb (h:Heap) (H:Hp):Lc:=(Ip h.objs.size).filter fun a=>(H a).isSome
noncomputable def qi (h:Heap) (H:Hp):Heap:=PySem.W.hideAll h (Gb h H)
theorem wO (h:Heap) (H:Hp):(qi h H).objs.size=h.objs.size:=PySem.W.hideAll_size _ _
theorem yc {h:Heap} {H:Hp} {b:Addr} {o:Obj} (e:h.get? b=some o) (n:H b=none):(qi h H).get? b=some o:=
 PySem.W.hideAll_get _ e fun hm=>by
  have q:(H b).isSome=true:=(JT.mp hm).2;rw[n] at q;simp at q
theorem Ao {h:Heap} {H:Hp} {b:Addr} {o:Obj} (e:(qi h H).get? b=some o):h.get? b=some o/\H b=none:=by
 have e':h.get? b=some o:=PySem.W.of_hideAll (Gb h H) e;refine ⟨e',?_⟩;cases q:H b with
 |none=>rfl
 |some x=>
  have hm:b∈Gb h H:=JT.mpr ⟨JB.mpr (Heap.lt_size e'),by simp[q]⟩
  have z:(qi h H).get? b=none:=PySem.W.hideAll_none (Gb h H) hm;rw[z] at e;cases e
structure Mod (K:IE) (mg:KZ) (base:Heap):Prop where
 kin:K.In base
 glob:base.Ns mainGlobals mg
 blt:∃mb,base.Ns builtinsNs mb/\∀x:Str,x≠ "__name__" ->mb x=bootBuiltins x
 nolimit:base.NoLimit
structure Cx where
 prog:Program
 w:World
 K:IE
 mg:Str->Lg
 base:Heap
 A:Around
 N:Lb
 s₀:Shared
 H₀:Hp
 env:Env
 outer:List Env
 stack:List Env
 ex:Lc
 fn:Str->Bool
 calm:Bool
 pn:La
 xe:Value->Shared->Prop
noncomputable def wP (l:List Env):Lc:=l.filterMap (·.frame)
abbrev Cx.fs (X:Cx):Lc:=wP X.outer
def Gc (sc:Scope) (x:Str):Prop:=sc.names.lookup x=some .local∨sc.names.lookup x=some .cell∨sc.names.lookup x=some .free
def Loc (sc:Scope) (x:Str):Prop:=sc.names.lookup x=some .local∨sc.names.lookup x=some .cell
def Look (env:Env) (h:Heap) (m:KZ) (x:Str) (u:Value):Prop:=
 (env.kindOf x=some .local/\m x=some u)∨((env.kindOf x=some .cell∨env.kindOf x=some .free)/\∃c,env.cells.lookup x=some c/\h.IsCell c (some u))
structure Cx.Ok (X:Cx):Prop where
 mod:Mod X.K X.mg X.base
 kind:X.env.scope.kind= .function
 glob:X.env.globals=mainGlobals
 blt:X.env.builtins=builtinsNs
 above:X.s₀.heap.objs.size<=X.env.locals
 inj:∀x y c,X.env.cells.lookup x=some c->X.env.cells.lookup y=some c->x=y
 has:∀x,(X.env.kindOf x=some .cell∨X.env.kindOf x=some .free)->∃c,X.env.cells.lookup x=some c
 cab:∀x c,X.fn x=true->X.env.cells.lookup x=some c->X.s₀.heap.objs.size<=c
 hd:X.calm=true->X.A.handled=none
 frames:X.A.frames=some X.stack
 stk:X.stack=X.outer∨(X.stack=X.env::X.outer/\X.env.frame=some X.env.locals)
 exf:∀b∈X.ex,b≠X.env.locals/\∀x c,X.env.cells.lookup x=some c->c≠b
 bs:∀b o,X.base.get? b=some o->X.s₀.heap.get? b=some o/\X.H₀ b=none
 bsz:X.base.objs.size<=X.s₀.heap.objs.size
 noex:∀b o,X.base.get? b=some o->b∉X.ex
 exfs:∀b∈X.ex,b∉X.fs
 funs:X.s₀.heap.FunFrames X.base X.outer
 frf:∀b∈X.fs,X.H₀ b=none
structure aY (X:Cx) (pins:La) (σ:List (Option V)) (H:Hp) (s:Shared):Prop where
 ok:X.Ok
 os:s.os=X.s₀.os
 bare:AllBare s.gens
 base:Un X.fs X.ex X.H₀ H X.s₀.heap s.heap
 loc:∃m,s.heap.Ns X.env.locals m/\∀(i:Nat) (x:Str) (v:V),X.N[i]?=some x->σ[i]?=some (some v)->Gc X.env.scope x->∃u,RelV v u/\Look X.env s.heap m x u
 cell:∀x c,X.env.cells.lookup x=some c->∃v,s.heap.IsCell c v
 free:H X.env.locals=none
 freeC:∀x c,X.env.cells.lookup x=some c->H c=none
 pin:∀p∈X.pn++pins,s.heap.get? p.1=some p.2/\H p.1=none/\p.1≠X.env.locals/\p.1∉X.fs/\∀v,p.2.data≠ .cell v
 hok:jv X.prog X.w H s.heap
 len:σ.length=X.N.length
variable {X:Cx} {pins:La} {σ:List (Option V)} {H H':Hp} {s:Shared} {h':Heap}
theorem Cx.Ok.nofr (ok:X.Ok) {b:Addr} {o:Obj} (e:X.base.get? b=some o):b∉X.fs:=fun hb=>by
 have:=(ok.funs.mem hb).1;rw[e] at this;cases this
theorem aY.bs (I:aY X pins σ H s):∀b o,X.base.get? b=some o->s.heap.get? b=some o/\H b=none:=fun b o e=>
 ⟨I.base.keep b o (I.ok.bs b o e).1 (I.ok.bs b o e).2 (I.ok.nofr e) (I.ok.noex b o e),I.base.free b o (I.ok.bs b o e).1 (I.ok.bs b o e).2 (I.ok.noex b o e)⟩
theorem aY.bk (I:aY X pins σ H s):∀b o,X.base.get? b=some o->s.heap.get? b=some o:=fun b o e=>(I.bs b o e).1
theorem aY.mod (I:aY X pins σ H s):Mod X.K X.mg X.base:=I.ok.mod
theorem aY.kIn (I:aY X pins σ H s):X.K.In s.heap:=I.ok.mod.kin.keeps I.bk
theorem aY.lt (I:aY X pins σ H s):X.env.locals<s.heap.objs.size:=let ⟨_,hn,_⟩:=I.loc;hn.lt
theorem aY.sz (I:aY X pins σ H s):X.s₀.heap.objs.size<=s.heap.objs.size:=J8 I.ok.above (Nat.le_of_lt I.lt)
theorem aY.nofs (I:aY X pins σ H s) {a:Addr} (h:s.heap.objs.size<=a):a∉X.fs:=fun hb=>by
 obtain ⟨_,o,ho,_⟩:=I.ok.funs.mem hb;exact absurd (JA (Heap.lt_size ho) (J8 I.sz h)) (KH _)
theorem aY.cne (I:aY X pins σ H s):∀x c,X.env.cells.lookup x=some c->c≠X.env.locals:=fun x c e z=>by
 obtain ⟨v,o,ho,hd⟩:=I.cell x c e;obtain ⟨m,⟨o',es,ep,ho',hd',_⟩,_⟩:=I.loc;rw[z,ho'] at ho;cases ho;rw[hd'] at hd;cases hd
theorem aY.funs (I:aY X pins σ H s):s.heap.FunFrames X.base X.outer:=by
 have all:∀(l:List Env),(∀b∈wP l,b∈X.fs)->X.s₀.heap.FunFrames X.base l->s.heap.FunFrames X.base l:=by
  intro l
  induction l with
  |nil=>intro _ _;trivial
  |cons env r ih=>
   intro hs hl;obtain ⟨hk,⟨L,o,hf,hn,ho,hd⟩,hr⟩:=hl;have hL:L∈X.fs:=hs L (by unfold wP;rw[List.filterMap_cons,hf];exact Iq)
   obtain ⟨sl,e⟩:=I.base.slot L o ho (I.ok.frf L hL) hL fun z=>I.ok.exfs L z hL
   exact ⟨hk,⟨L,_,hf,hn,e,hd⟩,ih (fun b hb=>hs b (by unfold wP;rw[List.filterMap_cons,hf];exact IX _ hb)) hr⟩
 exact all X.outer (fun _ hb=>hb) I.ok.funs
theorem aY.stack (I:aY X pins σ H s):s.heap.FunFrames X.base X.stack:=by
 rcases I.ok.stk with e|⟨e,hf⟩
 ·rw[e];exact I.funs
 ·rw[e];obtain ⟨m,hn,_⟩:=I.loc;refine .cons (by rw[I.ok.kind];decide) hf hn ?_ I.funs
  exact Heap.get?_none_of_le (J8 I.ok.bsz I.ok.above)
theorem aY.stkSub (I:aY X pins σ H s):∀b∈wP X.stack,b∈X.env.locals::X.fs:=fun b hb=>by
 rcases I.ok.stk with e|⟨e,hf⟩
 ·rw[e] at hb;exact IX _ hb
 ·rw[e] at hb;unfold wP at hb;rw[List.filterMap_cons,hf] at hb;exact hb
theorem aY.stkFree (I:aY X pins σ H s):∀b∈wP X.stack,H b=none:=fun b hb=>by
 rcases IK.mp (I.stkSub b hb) with e|hb
 ·rw[e];exact I.free
 ·obtain ⟨_,o,ho,_⟩:=I.ok.funs.mem hb;exact I.base.free b o ho (I.ok.frf b hb) fun z=>I.ok.exfs b z hb
theorem aY.step {g':Array GenState} {t':Nat} {d':Drawn} {ch:Lc} (I:aY X pins σ H s)
  (hch:∀b∈ch,(b∈X.ex∨X.s₀.heap.objs.size<=b)/\b≠X.env.locals/\(∀x c,X.env.cells.lookup x=some c->c≠b)/\∀p∈X.pn++pins,p.1≠b)
  (keep:∀b o,b≠X.env.locals->b∉X.fs->b∉ch->s.heap.get? b=some o->H b=none->h'.get? b=some o)
  (slot:∀b o,b≠X.env.locals->b∈X.fs->b∉ch->s.heap.get? b=some o->H b=none->∃sl,h'.get? b=some {o with slots:=sl}) (free:∀b o,b∉ch->s.heap.get? b=some o->H b=none->H' b=none)
  (there:∀b o,b∉ch->s.heap.get? b=some o->∃o',h'.get? b=some o')
  (tups:∀b xs,H b=some (.tup xs)->H' b=some (.tup xs)) (frzs:∀b o u,H b=some (.frz o u)->H' b=some (.frz o u)) (tbls:∀b ps,H b=some (.tbl ps)->∃more,H' b=some (.tbl (ps++more)))
  (ns:∀m,s.heap.Ns X.env.locals m->h'.Ns X.env.locals m) (hok:jv X.prog X.w H' h') (hg:AllBare g'):
  aY X pins σ H' {s with heap:=h',gens:=g',drawn:=d',toks:=t'}:=by
 have neL:∀b o,X.s₀.heap.get? b=some o->b≠X.env.locals:=fun b o e=>IQ (JA (Heap.lt_size e) I.ok.above)
 have neC:∀b o,X.s₀.heap.get? b=some o->b∉X.ex->b∉ch:=fun b o e hx hb=>by
  rcases (hch b hb).1 with z|z
  ·exact hx z
  ·exact absurd (JA (Heap.lt_size e) z) (KH _)
 have cellK:∀x c,X.env.cells.lookup x=some c->∀v,s.heap.IsCell c v->h'.IsCell c v:=fun x c e v ⟨o,ho,hd⟩=>by
  have nch:c∉ch:=fun z=>(hch c z).2.2.1 x c e rfl
  by_cases hc:c∈X.fs
  ·obtain ⟨sl,q⟩:=slot c o (I.cne x c e) hc nch ho (I.freeC x c e);exact ⟨_,q,hd⟩
  ·exact ⟨o,keep c o (I.cne x c e) hc nch ho (I.freeC x c e),hd⟩
 refine ⟨I.ok,I.os,hg,⟨fun b o e n hb hx=>?_,fun b o e n hb hx=>?_,fun b o e n hx=>?_,fun b o e hx=>?_,fun b xs e=>tups b xs (I.base.tups b xs e),fun b o xs e=>frzs b o xs (I.base.frzs b o xs e),fun b ps e=>?_⟩,?_,fun x c e=>?_,?_,fun x c e=>?_,fun p hp=>?_,hok,I.len⟩
 ·exact keep b o (neL b o e) hb (neC b o e hx) (I.base.keep b o e n hb hx) (I.base.free b o e n hx)
 ·obtain ⟨sl,e1⟩:=I.base.slot b o e n hb hx;obtain ⟨sl',e2⟩:=slot b _ (neL b o e) hb (neC b o e hx) e1 (I.base.free b o e n hx);exact ⟨sl',e2⟩
 ·obtain ⟨o',e1⟩:=I.base.there b o e hx;exact free b o' (neC b o e hx) e1 (I.base.free b o e n hx)
 ·obtain ⟨o',e1⟩:=I.base.there b o e hx;exact there b o' (neC b o e hx) e1
 ·obtain ⟨m1,e1⟩:=I.base.tbls b ps e;obtain ⟨m2,e2⟩:=tbls b _ e1;exact ⟨m1++m2,by rw[e2,Array.append_assoc]⟩
 ·obtain ⟨m,hn,hl⟩:=I.loc;refine ⟨m,ns m hn,fun i x v e1 e2 e3=>?_⟩
  obtain ⟨u,r,l⟩:=hl i x v e1 e2 e3;refine ⟨u,r,?_⟩;rcases l with l|⟨k,c,e,z⟩
  ·exact .inl l
  ·exact .inr ⟨k,c,e,cellK x c e _ z⟩
 ·obtain ⟨v,z⟩:=I.cell x c e;exact ⟨v,cellK x c e v z⟩
 ·obtain ⟨m,⟨o,_,_,ho,_⟩,_⟩:=I.loc;exact free _ o (fun z=>(hch _ z).2.1 rfl) ho I.free
 ·obtain ⟨v,o,ho,hd⟩:=I.cell x c e;exact free c o (fun z=>(hch c z).2.2.1 x c e rfl) ho (I.freeC x c e)
 ·obtain ⟨e,n,ne,nf,d⟩:=I.pin p hp;have nch:p.1∉ch:=fun z=>(hch p.1 z).2.2.2 p hp rfl
  exact ⟨keep p.1 p.2 ne nf nch e n,free p.1 p.2 nch e n,ne,nf,d⟩
theorem aY.un {t':Nat} (I:aY X pins σ H s) (u:Un X.fs [] H H' s.heap h') (hok:jv X.prog X.w H' h'):aY X pins σ H' {s with heap:=h',toks:=t'}:=by
 obtain ⟨m,⟨o,es,ep,ho,r⟩,_⟩:=id I.loc;obtain ⟨sl,hL⟩:=u.any ho I.free (by simp)
 exact I.step (g':=s.gens) (d':=s.drawn) (ch:= []) (fun _ z=>nomatch z) (fun b o _ hb _ e n=>u.keep b o e n hb (by simp)) (fun b o _ hb _ e n=>u.slot b o e n hb (by simp)) (fun b o _ e n=>u.free b o e n (by simp)) (fun b o _ e=>u.there b o e (by simp)) u.tups u.frzs u.tbls (fun m' hm=>by
  obtain ⟨o',es',ep',ho',r'⟩:=hm;rw[ho] at ho';cases ho';exact ⟨_,es',ep',hL,r'⟩) hok I.bare
theorem aY.call {g':Array GenState} {t':Nat} {d':Drawn} {ch:Lc} (I:aY X pins σ H s) (u:Un (wP X.stack) ch H H' s.heap h') (hok:jv X.prog X.w H' h') (hg:AllBare g')
  (hch:∀b∈ch,(b∈X.ex∨X.s₀.heap.objs.size<=b)/\b≠X.env.locals/\(∀x c,X.env.cells.lookup x=some c->c≠b)/\∀p∈X.pn++pins,p.1≠b):
  aY X pins σ H' {s with heap:=h',gens:=g',drawn:=d',toks:=t'}:=by
 obtain ⟨m,⟨o,es,ep,ho,r⟩,_⟩:=id I.loc;obtain ⟨sl,hL⟩:=u.any ho I.free fun z=>(hch _ z).2.1 rfl
 exact I.step (ch:=ch) hch (fun b o hL hb hc e n=>u.keep b o e n (fun z=>(IK.mp (I.stkSub b z)).elim hL hb) hc) (fun b o _ _ hc e n=>u.any e n hc) (fun b o hc e n=>u.free b o e n hc) (fun b o hc e=>u.there b o e hc) u.tups u.frzs u.tbls (fun m' hm=>by
  obtain ⟨o',es',ep',ho',r'⟩:=hm;rw[ho] at ho';cases ho';exact ⟨_,es',ep',hL,r'⟩) hok hg
theorem aY.turned {t':Nat} {it:Addr} (I:aY X pins σ H s) (k:∀b o,b≠it->s.heap.get? b=some o->h'.get? b=some o) (hn:H it=none) (hL:it≠X.env.locals)
  (h1:it∈X.ex∨X.s₀.heap.objs.size<=it) (h2:∀x c,X.env.cells.lookup x=some c->c≠it) (h3:∀p∈X.pn++pins,p.1≠it):aY X pins σ H {s with heap:=h',toks:=t'}:=by
 have nit:∀b u,H b=some u->b≠it:=fun b u e z=>by rw[z,hn] at e;cases e
 refine I.step (g':=s.gens) (d':=s.drawn) (ch:= [it]) (fun b hb=>?_) (fun b o _ _ hc e _=>k b o (fun z=>hc (by simp[z])) e) (fun b o _ _ hc e _=>⟨o.slots,k b o (fun z=>hc (by simp[z])) e⟩) (fun _ _ _ _ n=>n)
  (fun b o hc e=>⟨o,k b o (fun z=>hc (by simp[z])) e⟩) (fun _ _ e=>e) (fun _ _ _ e=>e) (fun b ps e=>⟨#[],by rw[e];simp⟩) (fun m hm=>?_) (fun b u e=>?_) I.bare
 ·have e:b=it:=by simpa using hb
  subst e;exact ⟨h1,hL,h2,h3⟩
 ·obtain ⟨o,es,ep,ho,r⟩:=hm;exact ⟨o,es,ep,k _ o (Ne.symm hL) ho,r⟩
 ·refine (I.hok b u e).stay (fun c v hc q=>k c v ?_ q) (fun _ q=>q) fun _ _ q=>q
  rcases hc with z|z
  ·rw[z];exact nit b u e
  ·exact nit c _ z
theorem aY.tok (I:aY X pins σ H s) (t:Nat):aY X pins σ H {s with toks:=t}:=I.un (h':=s.heap) (t':=t) Un.refl I.hok
theorem aY.kept {t':Nat} (I:aY X pins σ H s) (k:∀b u,s.heap.get? b=some u->h'.get? b=some u):aY X pins σ H {s with heap:=h',toks:=t'}:=I.un (Un.kept k) (I.hok.kept k)
theorem aY.laid {a:Addr} {o:HO} {t':Nat} (I:aY X pins σ H s) (k:∀b u,s.heap.get? b=some u->h'.get? b=some u) (hp:s.heap.objs.size<=a) (new:cR X.prog X.w (aK H a o) h' a o):
  aY X pins σ (aK H a o) {s with heap:=h',toks:=t'}:=I.un (Un.laid k hp (I.hok.fresh hp)) (I.hok.laid k hp new)
theorem aY.write {x e:Addr} {o:HO} {t':Nat} (I:aY X pins σ H s) (mu:D3 (H x)) (he:e=x∨H e=some (.own x)) (k:∀b u,b≠e->s.heap.get? b=some u->h'.get? b=some u) (heo:∃u,h'.get? e=some u)
  (new:cR X.prog X.w (aK H x o) h' x o):aY X pins σ (aK H x o) {s with heap:=h',toks:=t'}:=I.un (Un.write mu he k heo) (I.hok.write mu he k heo new)
theorem aY.pins_of {pins':La} (I:aY X pins σ H s) (h:∀p∈pins',s.heap.get? p.1=some p.2/\H p.1=none/\p.1≠X.env.locals/\p.1∉X.fs/\∀v,p.2.data≠ .cell v):aY X pins' σ H s:=
 ⟨I.ok,I.os,I.bare,I.base,I.loc,I.cell,I.free,I.freeC,fun p hp=>(IS.mp hp).elim (fun z=>I.pin p (List.mem_append_left _ z)) (h p),I.hok,I.len⟩
theorem rK {N:Lb} (hN:N.Nodup) {i j:Nat} {x:Str} (a:N[i]?=some x) (b:N[j]?=some x):i=j:=by
 obtain ⟨h1,e1⟩:=IC.mp a;obtain ⟨h2,e2⟩:=IC.mp b;exact (List.getElem_inj hN).mp (e1.trans e2.symm)
theorem oK {M:Model} {A:Around} {E:KY} {i:Nat} {x:Str} {v:V} {u:Value} {Q:Unit->Shared->Prop} (I:aY X pins σ H s) (hN:X.N.Nodup) (hi:X.N[i]?=some x) (hx:Loc X.env.scope x) (r:RelV v u)
  (h:∀s',aY X pins (σ.set i (some v)) H s'->(∃a,Heap.SameBut a s.heap s'.heap/\(a=X.env.locals∨X.env.cells.lookup x=some a))->Q () s') (hf:X.fn x=true∨X.env.scope.names.lookup x=some .local:=by first|exact .inl rfl|exact .inr rfl|assumption):wpAny M A (storeName X.env x u) Q E s:=by
 obtain ⟨m,hn,hl⟩:=id I.loc;have hcls:(X.env.scope.kind== .class||(X.env.scope.kind== .module&&X.env.locals !=X.env.globals))=false:=by rw[I.ok.kind];rfl
 have hiσ:i<σ.length:=by rw[I.len];exact (IC.mp hi).1
 have cne:=I.cne;have tracked:∀{a:Addr} {h':Heap},(∃o,s.heap.get? a=some o/\H a=none)->Heap.SameBut a s.heap h'->jv X.prog X.w H h':=fun {a h'} ha hs b ob e=>by
  obtain ⟨_,_,hfree⟩:=ha;refine (I.hok b ob e).stay (fun c w' hc q=>(hs.2 c ?_).trans q) (fun _ q=>q) fun _ _ q=>q
  rintro rfl;rcases hc with rfl|hc
  ·rw[hfree] at e;cases e
  ·rw[hfree] at hc;cases hc
 rcases hx with hk|hk
 ·refine wpAny_storeName_local hk hn (fun h' hn' hs=>?_) hcls
  obtain ⟨oL,_,_,hoL,_⟩:=id hn;refine h _ ⟨I.ok,I.os,I.bare,⟨fun b o e n hb hx=>?_,fun b o e n hb hx=>?_,I.base.free,fun b o e hx=>?_,I.base.tups,I.base.frzs,I.base.tbls⟩,⟨_,hn',fun j y v' e1 e2 e3=>?_⟩,fun y c e=>?_,I.free,I.freeC,fun p hp=>?_,tracked ⟨oL,hoL,I.free⟩ hs,by simpa using I.len⟩ ⟨_,hs,.inl rfl⟩
  ·exact (hs.2 b (IQ (JA (Heap.lt_size e) I.ok.above))).trans (I.base.keep b o e n hb hx)
  ·obtain ⟨sl,e1⟩:=I.base.slot b o e n hb hx;exact ⟨sl,(hs.2 b (IQ (JA (Heap.lt_size e) I.ok.above))).trans e1⟩
  ·obtain ⟨o',e1⟩:=I.base.there b o e hx;exact ⟨o',(hs.2 b (IQ (JA (Heap.lt_size e) I.ok.above))).trans e1⟩
  ·by_cases hj:j=i
   ·subst hj;rw[hi] at e1;cases e1;rw[List.getElem?_set_self hiσ] at e2;cases e2;exact ⟨u,r,.inl ⟨hk,by simp⟩⟩
   ·rw[List.getElem?_set_ne (Ne.symm hj)] at e2;obtain ⟨u',r',q⟩:=hl j y v' e1 e2 e3;refine ⟨u',r',?_⟩;rcases q with ⟨k,e⟩|⟨k,c,e,z⟩
    ·refine .inl ⟨k,?_⟩;have:y≠x:=fun e=>hj (rK hN e1 (e▸hi))
     simp[this,e]
    ·exact .inr ⟨k,c,e,z.sameBut hs (cne y c e)⟩
  ·obtain ⟨w',z⟩:=I.cell y c e;exact ⟨w',z.sameBut hs (cne y c e)⟩
  ·obtain ⟨e,n,ne,nf,d⟩:=I.pin p hp;exact ⟨(hs.2 p.1 ne).trans e,n,ne,nf,d⟩
 ·have hfn:X.fn x=true:=by
   rcases hf with z|z
   ·exact z
   ·rw[z] at hk;cases hk
  obtain ⟨c,hc⟩:=I.ok.has x (.inl hk);obtain ⟨w',z⟩:=I.cell x c hc;refine wpAny_storeName_cell I.ok.kind hk hc z (fun h' hc' hs=>?_)
  obtain ⟨oc,hoc,hocd⟩:=id z;refine h {s with heap:=h'} ⟨I.ok,I.os,I.bare,⟨fun b o e n hb hx=>?_,fun b o e n hb hx=>?_,I.base.free,fun b o e hx=>?_,I.base.tups,I.base.frzs,I.base.tbls⟩,⟨m,hn.sameBut hs (Ne.symm (cne x c hc)),fun j y v' e1 e2 e3=>?_⟩,fun y c' e=>?_,I.free,I.freeC,fun p hp=>?_,tracked ⟨oc,hoc,I.freeC x c hc⟩ hs,by simpa using I.len⟩ ⟨c,hs,.inr hc⟩
  ·exact (hs.2 b (IQ (JA (Heap.lt_size e) (I.ok.cab x c hfn hc)))).trans (I.base.keep b o e n hb hx)
  ·obtain ⟨sl,e1⟩:=I.base.slot b o e n hb hx;exact ⟨sl,(hs.2 b (IQ (JA (Heap.lt_size e) (I.ok.cab x c hfn hc)))).trans e1⟩
  ·obtain ⟨o',e1⟩:=I.base.there b o e hx;exact ⟨o',(hs.2 b (IQ (JA (Heap.lt_size e) (I.ok.cab x c hfn hc)))).trans e1⟩
  ·by_cases hj:j=i
   ·subst hj;rw[hi] at e1;cases e1;rw[List.getElem?_set_self hiσ] at e2;cases e2;exact ⟨u,r,.inr ⟨.inl hk,c,hc,hc'⟩⟩
   ·rw[List.getElem?_set_ne (Ne.symm hj)] at e2;obtain ⟨u',r',q⟩:=hl j y v' e1 e2 e3;refine ⟨u',r',?_⟩;rcases q with q|⟨k,c',e,z'⟩
    ·exact .inl q
    ·refine .inr ⟨k,c',e,z'.sameBut hs ?_⟩;rintro rfl;exact hj (rK hN e1 (I.ok.inj _ _ _ e hc▸hi))
  ·by_cases hcc:c'=c
   ·subst hcc;exact ⟨_,hc'⟩
   ·obtain ⟨w2,z2⟩:=I.cell y c' e;exact ⟨w2,z2.sameBut hs hcc⟩
  ·obtain ⟨e,n,ne,nf,d⟩:=I.pin p hp;refine ⟨(hs.2 p.1 ?_).trans e,n,ne,nf,d⟩;intro q;rw[q,hoc] at e;have q':oc=p.2:=JW e;exact d w' (by rw[<-q'];exact hocd)
theorem mJ {M:Model} {A:Around} {E:KY} {i:Nat} {x:Str} {v:V} {u:Value} {Q:Unit->Shared->Prop} (I:aY X pins σ H s) (hN:X.N.Nodup) (hi:X.N[i]?=some x) (hx:Loc X.env.scope x) (r:RelV v u)
  (h:∀s',aY X pins (σ.set i (some v)) H s'->Q () s') (hf:X.fn x=true∨X.env.scope.names.lookup x=some .local:=by first|exact .inl rfl|exact .inr rfl|assumption):wpAny M A (storeName X.env x u) Q E s:=
 oK I hN hi hx r (fun s' I' _=>h s' I') hf
theorem aY.call' {s':Shared} {ch:Lc} (I:aY X pins σ H s) (ho:s'.os=s.os) (u:Un (wP X.stack) ch H H' s.heap s'.heap) (hok:jv X.prog X.w H' s'.heap) (hg:AllBare s'.gens)
  (hch:∀b∈ch,(b∈X.ex∨X.s₀.heap.objs.size<=b)/\b≠X.env.locals/\(∀x c,X.env.cells.lookup x=some c->c≠b)/\∀p∈X.pn++pins,p.1≠b):aY X pins σ H' s':=by
 obtain ⟨h',g',d',t',o'⟩:=s';have e:o'=s.os:=ho;subst e;exact I.call (g':=g') (t':=t') (d':=d') u hok hg hch
abbrev XK:=Value->Le->Hp->Prop
abbrev St:=List (Option V)
abbrev VK:=V->Hp->Prop
abbrev TE:=St->Hp->VK->Prop
abbrev TT:=St->Hp->(Bool->Hp->Prop)->Prop
abbrev TA:=St->Hp->(List V->Hp->Prop)->Prop
structure Ends where
 nx:St->Hp->Prop
 rt:VK
 bk:St->Hp->Prop:=fun _ _=>False
 ct:St->Hp->Prop:=fun _ _=>False
abbrev TS:=Ends->St->Hp->Prop
def EP (X:Cx) (pins:La) (σ:St) (Q:VK) (u:Value) (s':Shared):Prop:=∃v H',aY X pins σ H' s'/\RelV v u/\Q v H'
def TP (X:Cx) (pins:La) (σ:St) (Q:Bool->Hp->Prop) (b:Bool) (s':Shared):Prop:=∃H',aY X pins σ H' s'/\Q b H'
def AP (X:Cx) (pins:La) (σ:St) (Q:List V->Hp->Prop) (us:Ld) (s':Shared):Prop:=∃vs H',aY X pins σ H' s'/\bN vs us/\Q vs H'
def SP (X:Cx) (pins:La) (D:Ends) (f:Flow) (s':Shared):Prop:=
 match f with
 | .next=>∃σ' H',aY X pins σ' H' s'/\D.nx σ' H'
 | .brk=>∃σ' H',aY X pins σ' H' s'/\D.bk σ' H'
 | .cont=>∃σ' H',aY X pins σ' H' s'/\D.ct σ' H'
 | .ret u=>∃v σ' H',aY X pins σ' H' s'/\RelV v u/\D.rt v H'
def PE (X:Cx) (e:Expr) (t:TE):Prop:=
 ∀(pins:La) (s:Shared) (σ:St) (H:Hp) (Q:VK),aY X pins σ H s->t σ H Q->wpAny (model X.prog X.w) X.A (eval e X.env) (EP X pins σ Q) X.xe s
def PT (X:Cx) (e:Expr) (t:TT):Prop:=
 ∀(pins:La) (s:Shared) (σ:St) (H:Hp) (Q:Bool->Hp->Prop),aY X pins σ H s->t σ H Q->wpAny (model X.prog X.w) X.A (isTrue e X.env (eval e X.env)) (TP X pins σ Q) X.xe s
def PW (X:Cx) (e:Expr) (t:TT):Prop:=
 ∀(whole:Sem Value) (pins:La) (s:Shared) (σ:St) (H:Hp) (Q:Bool->Hp->Prop),aY X pins σ H s->t σ H Q->wpAny (model X.prog X.w) X.A (isTrue e X.env whole) (TP X pins σ Q) X.xe s
theorem PW.pt {X:Cx} {e:Expr} {t:TT} (h:PW X e t):PT X e t:=h _
def PA (X:Cx) (es:List Expr) (t:TA):Prop:=
 ∀(pos:Pos) (pins:La) (s:Shared) (σ:St) (H:Hp) (Q:List V->Hp->Prop),aY X pins σ H s->t σ H Q->wpAny (model X.prog X.w) X.A (spliced (backTo pos (starEach es X.env))) (AP X pins σ Q) X.xe s
def PS (X:Cx) (st:Stmt) (t:TS):Prop:=
 ∀(pins:La) (s:Shared) (σ:St) (H:Hp) (D:Ends),aY X pins σ H s->t D σ H->wpAny (model X.prog X.w) X.A (exec st X.env) (SP X pins D) X.xe s
def x4 (X:Cx) (st:List Stmt) (t:TS):Prop:=
 ∀(pins:La) (s:Shared) (σ:St) (H:Hp) (D:Ends),aY X pins σ H s->t D σ H->wpAny (model X.prog X.w) X.A (execs st X.env) (SP X pins D) X.xe s
theorem cx {α:Type} {t:Sem α} {Q Q':α->Shared->Prop} {M:Model} {A:Around} {E:KY} {s:Shared} (h:wpAny M A t Q E s) (hQ:∀a s,Q a s->Q' a s):wpAny M A t Q' E s:=wpAny_mono h hQ fun _ _ x=>x
section
noncomputable def mV (o:Option (Option V)) (k:V->Prop):Prop:=match o with|some (some v)=>k v|_=>False
noncomputable def mB (x:V) (k:Bool->Prop):Prop:=match x with| .bl c=>k c|_=>False
noncomputable def mI (x:V) (k:Int->Prop):Prop:=match x with| .int i=>k i|_=>False
theorem mV.e {o:Option (Option V)} {k:V->Prop} (h:mV o k):∃v,o=some (some v)/\k v:=by
 unfold mV at h
 split at h
 ·exact ⟨_,rfl,h⟩
 ·exact h.elim
theorem mB.e {x:V} {k:Bool->Prop} (h:mB x k):∃v,x= .bl v/\k v:=by
 unfold mB at h
 split at h
 ·exact ⟨_,rfl,h⟩
 ·exact h.elim
theorem mI.e {x:V} {k:Int->Prop} (h:mI x k):∃v,x= .int v/\k v:=by
 unfold mI at h
 split at h
 ·exact ⟨_,rfl,h⟩
 ·exact h.elim
theorem mI.e2 {x y:V} {k:Int->Int->Prop} (h:mI x fun i=>mI y fun j=>k i j):∃i j,x= .int i/\y= .int j/\k i j:=by
 obtain ⟨i,hi,h⟩:=h.e;obtain ⟨j,hj,h⟩:=h.e;exact ⟨i,j,hi,hj,h⟩
theorem mV.i {v:V} {k:V->Prop} (h:k v):mV (some (some v)) k:=h
theorem mB.i {v:Bool} {k:Bool->Prop} (h:k v):mB (.bl v) k:=h
def D4 (i:Nat):TE:=fun σ H Q=>mV σ[i]? fun v=>Q v H
def tC (v:V):TE:=fun _ H Q=>Q v H
theorem BR {i:Nat} {x:Str} {pos:Pos} (hN:X.N[i]?=some x) (hv:Gc X.env.scope x) (hd:(x==("__debug__" :Str))=false:=by decide) (hcd:(x==("__classdict__" :Str))=false:=by decide):PE X (.Name x pos) (D4 i):=by
 intro pins s σ H Q I h;obtain ⟨v,e,h⟩:=mV.e h;obtain ⟨m,hn,hl⟩:=I.loc;obtain ⟨u,r,l⟩:=hl i x v hN e hv;have fin:EP X pins σ Q u s:=⟨v,H,I,r,h⟩;rcases l with ⟨hk,hm⟩|⟨hk,c,hc,hcell⟩
 ·exact wpAny_Name (wpAny_loadName_local I.ok.kind hk hn hm fin) hd
 ·rcases hk with hk|hk
  ·exact wpAny_Name (wpAny_loadName_cell I.ok.kind hk hc hcell fin) hd
  ·exact wpAny_Name (wpAny_loadName_free I.ok.kind hk hc hcell fin hcd) hd
theorem ae {i j pos}:PE X (.Constant (.int i) j pos) (tC (.int i)):=fun _ _ _ H _ I h=>wpAny_Constant_int ⟨.int i,H,I.tok _,⟨_,rfl⟩,h⟩
theorem cB {b j pos}:PE X (.Constant (.bool b) j pos) (tC (.bl b)):=fun _ _ _ H _ I h=>Constant_bool ⟨.bl b,H,I,rfl,h⟩
theorem bz {j pos}:PE X (.Constant .none j pos) (tC .non):=fun _ _ _ H _ I h=>Constant_none ⟨.non,H,I,rfl,h⟩
theorem bW {x j pos}:PE X (.Constant (.str x) j pos) (tC (.str x)):=fun _ _ _ H _ I h=>Calls.Constant_str ⟨.str x,H,I.tok _,⟨_,rfl⟩,h⟩
def Gl (X:Cx) (x:Str):Prop:=X.env.kindOf x=some .globalImplicit
theorem qj {E:KY} {pins:La} {s:Shared} {σ:St} {H:Hp} {x:Str} {u:Value} {pos:Pos} {Q:KY} (I:aY X pins σ H s) (hg:Gl X x) (hm:X.mg x=some u) (h:Q u s)
  (hd:(x==("__debug__" :Str))=false:=by decide):wpAny (model X.prog X.w) X.A (eval (.Name x pos) X.env) Q E s:=
 Calls.Name_function_global I.ok.kind hg (Calls.loadGlobal_global (by rw[I.ok.glob];exact I.mod.glob.keeps I.bk) hm h) hd
theorem dX {E:KY} {pins:La} {s:Shared} {σ:St} {H:Hp} {x:Str} {u:Value} {pos:Pos} {Q:KY} (I:aY X pins σ H s) (hg:Gl X x) (hm:X.mg x=none) (hv:bootBuiltins x=some u) (h:Q u s)
  (hn:x≠ "__name__" :=by decide) (hd:(x==("__debug__" :Str))=false:=by decide):wpAny (model X.prog X.w) X.A (eval (.Name x pos) X.env) Q E s:=by
 obtain ⟨mb,h1,h2⟩:=I.mod.blt;exact Calls.Name_function_global I.ok.kind hg (Calls.loadGlobal_builtin (by rw[I.ok.glob];exact I.mod.glob.keeps I.bk) hm (by rw[I.ok.blt];exact h1.keeps I.bk) ((h2 x hn).trans hv) h) hd
theorem qk {x:Str} {v:V} {u:Value} {pos:Pos} (hg:Gl X x) (hm:X.mg x=some u) (r:RelV v u) (hd:(x==("__debug__" :Str))=false:=by decide):PE X (.Name x pos) (tC v):=
 fun _ _ _ H _ I h=>qj I hg hm ⟨v,H,I,r,h⟩ hd
theorem Ap {x:Str} {v:V} {u:Value} {pos:Pos} (hg:Gl X x) (hm:X.mg x=none) (hv:bootBuiltins x=some u) (r:RelV v u) (hn:x≠ "__name__" :=by decide) (hd:(x==("__debug__" :Str))=false:=by decide):PE X (.Name x pos) (tC v):=
 fun _ _ _ H _ I h=>dX I hg hm hv ⟨v,H,I,r,h⟩ hn hd
variable {a b:Expr} {ta tb:TE} {pos:Pos}
def PC (X:Cx) (op:CmpOp) (a b:Expr) (t:TE):Prop:=
 ∀(pins:La) (s:Shared) (σ:St) (H:Hp) (Q:VK),aY X pins σ H s->t σ H Q->
  wpAny (model X.prog X.w) X.A (eval a X.env) (fun v s₁=>wpAny (model X.prog X.w) X.A (eval b X.env) (fun u s₂=>wpAny (model X.prog X.w) X.A (compareOp op v u) (EP X pins σ Q) X.xe s₂) X.xe s₁) X.xe s
def tB (t:TE):TT:=fun σ H Q=>t σ H fun x H1=>mB x fun c=>Q c H1
theorem uc {op:CmpOp} {t:TE} (h:PC X op a b t) (h1:behindInMarks op b=false:=by first|exact nobehind _ (by decide) (by decide)|rfl):PT X (.Compare a [op] [b] pos) (tB t):=by
 intro pins s σ H Q I hw;refine wpAny_isTrue_Compare1 (cx (h pins s σ H _ I hw) fun v s1 h1=>cx h1 fun u s2 h2=>cx h2 fun c s3 ⟨x,H1,I1,r1,q1⟩=>?_) h1
 obtain ⟨d,rfl,q⟩:=mB.e q1;cases r1;exact wpAny_truthy_bool ⟨H1,I1,q⟩
theorem c5 {e:Expr} {t:TE} (h:PE X e t) (he:∀whole,isTrue e X.env whole=(do let v<-whole;standAt e.pos;holding [v] (truthy v)):=by intro _;rfl):PT X e (tB t):=by
 intro pins s σ H Q I hw;refine isTrue_plain (cx (h pins s σ H _ I hw) fun v s1 ⟨x,H1,I1,r1,q1⟩=>?_) (he _)
 obtain ⟨d,rfl,q⟩:=mB.e q1;cases r1;exact wpAny_truthy_bool ⟨H1,I1,q⟩
variable {tA tB':TT} {rest:List Expr}
def Gr (t u:TT):TT:=fun σ H Q=>t σ H fun c H1=>if c=true then u σ H1 Q else Q false H1
def HL (t u:TT):TT:=fun σ H Q=>t σ H fun c H1=>if c=true then Q true H1 else u σ H1 Q
def Gs (t:TT):TT:=fun σ H Q=>t σ H fun c H1=>Q (!c) H1
theorem cp (ha:PT X a tA):PW X (.BoolOp .And [a] pos) tA:=by
 intro wh pins s σ H Q I h;refine isTrue_and (cx (ha pins s σ H Q I h) fun c s1 e=>?_)
 cases c with
 |true=>exact isTrue_and_nil e
 |false=>exact e
theorem dY (ha:PT X a tA):PW X (.BoolOp .Or [a] pos) tA:=by
 intro wh pins s σ H Q I h;refine isTrue_or (cx (ha pins s σ H Q I h) fun c s1 e=>?_)
 cases c with
 |false=>exact isTrue_or_nil e
 |true=>exact e
theorem cK (ha:PT X a tA) (hb:PW X (.BoolOp .And (b::rest) pos) tB'):PW X (.BoolOp .And (a::b::rest) pos) (Gr tA tB'):=by
 intro wh pins s σ H Q I h;refine isTrue_and (cx (ha pins s σ H _ I h) fun c s1 ⟨H1,I1,q1⟩=>?_)
 cases c with
 |true=>exact hb wh pins s1 σ H1 Q I1 q1
 |false=>exact ⟨H1,I1,q1⟩
theorem fr (ha:PT X a tA) (hb:PW X (.BoolOp .Or (b::rest) pos) tB'):PW X (.BoolOp .Or (a::b::rest) pos) (HL tA tB'):=by
 intro wh pins s σ H Q I h;refine isTrue_or (cx (ha pins s σ H _ I h) fun c s1 ⟨H1,I1,q1⟩=>?_)
 cases c with
 |true=>exact ⟨H1,I1,q1⟩
 |false=>exact hb wh pins s1 σ H1 Q I1 q1
theorem cS (ha:PT X a tA):PT X (.UnaryOp .Not a pos) (Gs tA):=by
 intro pins s σ H Q I h;exact isTrue_not (ha pins s σ H (fun c H1=>Q (!c) H1) I h)
def D5 (ta tb:TE):TE:=fun σ H Q=>ta σ H fun x H1=>mB x fun c=>if c=true then tb σ H1 Q else Q (.bl false) H1
def Gu (ta tb:TE):TE:=fun σ H Q=>ta σ H fun x H1=>mB x fun c=>if c=true then Q (.bl true) H1 else tb σ H1 Q
theorem ki {op} {t:TE} (h:PE X a t):PE X (.BoolOp op [a] pos) t:=fun pins s σ H Q I hw=>BoolOp_one (h pins s σ H Q I hw)
theorem ql (ha:PE X a ta) (hb:PE X (.BoolOp .And (b::rest) pos) tb):PE X (.BoolOp .And (a::b::rest) pos) (D5 ta tb):=by
 intro pins s σ H Q I h;refine BoolOp_and (cx (ha pins s σ H _ I h) fun v s1 ⟨x,H1,I1,r1,q1⟩=>?_)
 obtain ⟨c,rfl,q1⟩:=mB.e q1;cases r1;refine wpAny_truthy_bool ?_;cases c with
 |true=>exact hb pins s1 σ H1 Q I1 q1
 |false=>exact ⟨.bl false,H1,I1,rfl,q1⟩
theorem yd (ha:PE X a ta) (hb:PE X (.BoolOp .Or (b::rest) pos) tb):PE X (.BoolOp .Or (a::b::rest) pos) (Gu ta tb):=by
 intro pins s σ H Q I h;refine BoolOp_or (cx (ha pins s σ H _ I h) fun v s1 ⟨x,H1,I1,r1,q1⟩=>?_)
 obtain ⟨c,rfl,q1⟩:=mB.e q1;cases r1;refine wpAny_truthy_bool ?_;cases c with
 |false=>exact hb pins s1 σ H1 Q I1 q1
 |true=>exact ⟨.bl true,H1,I1,rfl,q1⟩
def HM (t:TT) (ta tb:TE):TE:=fun σ H Q=>t σ H fun c H1=>if c=true then ta σ H1 Q else tb σ H1 Q
theorem mK {c:Expr} (hc:PT X c tA) (ha:PE X a ta) (hb:PE X b tb):PE X (.IfExp c a b pos) (HM tA ta tb):=by
 intro pins s σ H Q I h;refine wpAny_IfExp (cx (hc pins s σ H _ I h) fun d s1 ⟨H1,I1,q1⟩=>?_)
 cases d with
 |true=>exact ha pins s1 σ H1 Q I1 q1
 |false=>exact hb pins s1 σ H1 Q I1 q1
end
def aD (K:IE) (H:Hp) (a:Addr) (xs:List V):Prop:=
 Rd H a (.lst xs)∨
  ∃(o:Obj) (its:Array Value) (n:Nat),K.lookup a=some o/\o.cls= .type "list" /\o.dict=none/\o.data= .seq its n/\its.size<=sizeLine/\bN xs its.toList
def bg (K:IE) (H:Hp) (a:Addr) (xs:List V):Prop:=
 Rd H a (.tup xs)∨
  ∃(o:Obj) (its:Array Value) (n:Nat),K.lookup a=some o/\o.cls= .type "tuple" /\o.data= .seq its n/\its.size<=sizeLine/\bN xs its.toList
noncomputable def Gv:Value->Option V
 | .none=>some .non
 | .bool b=>some (.bl b)
 | .int i _=>some (.int i)
 | .str x _=>some (.str x)
 | .bytes b _=>some (.byt b)
 | .float b _=>some (.flt b)
 | .ref a=>some (.ref a)
 | .type n=>some (.ty n)
 |_=>none
theorem RelV.abs {x:V} {u:Value} (r:RelV x u):Gv u=some x:=by
 cases x with
 |non=>cases r;rfl
 |bl _=>cases r;rfl
 |int _=>obtain ⟨t,rfl⟩:=r;rfl
 |str _=>obtain ⟨t,rfl⟩:=r;rfl
 |byt _=>obtain ⟨t,rfl⟩:=r;rfl
 |flt _=>obtain ⟨t,rfl⟩:=r;rfl
 |ref _=>cases r;rfl
 |ty _=>cases r;rfl
theorem RelV.inj {x y:V} {u:Value} (r:RelV x u) (q:RelV y u):x=y:=JW (r.abs.symm.trans q.abs)
theorem bN.inj:∀{xs ys:List V} {us:Ld},bN xs us->bN ys us->xs=ys
 |_,_,_,.nil,.nil=>rfl
 |_,_,_,.cons r t,.cons r' t'=>by rw[r.inj r',bN.inj t t']
variable {σ:St} {a:Addr} {xs ys:List V}
theorem aD.of {K:IE} (h:H a=some (.lst xs)):aD K H a xs:= .inl (.inl h)
theorem bg.of {K:IE} (h:H a=some (.tup xs)):bg K H a xs:= .inl (.inl h)
theorem aY.list (I:aY X pins σ H s) (h:aD X.K H a xs):∃its:Ld,bN xs its/\PlainL s.heap a its.toArray/\xs.length<=sizeLine:=by
 rcases h with h|⟨o,its,n,hk,hc,hd,hs,hz,r⟩
 ·obtain ⟨z,its,n,r,e⟩:=h.ok I.hok;exact ⟨its,r,⟨_,n,e,rfl,rfl,rfl⟩,z⟩
 ·refine ⟨its.toList,r,⟨o,n,I.kIn a o hk,hc,hd,by simpa using hs⟩,?_⟩
  have e:=r.length;simp only[Im] at e
  lia
theorem aY.tuple (I:aY X pins σ H s) (h:bg X.K H a xs):∃its:Ld,bN xs its/\IsTup s.heap a its.toArray/\xs.length<=sizeLine:=by
 rcases h with h|⟨o,its,n,hk,hc,hs,hz,r⟩
 ·obtain ⟨z,its,r,p⟩:=h.ok I.hok;exact ⟨its,r,p,z⟩
 ·refine ⟨its.toList,r,⟨o,I.kIn a o hk,hc,n,by simpa using hs⟩,?_⟩
  have e:=r.length;simp only[Im] at e
  lia
theorem aY.list_inj (I:aY X pins σ H s) (h:aD X.K H a xs) (h':aD X.K H a ys):xs=ys:=by
 obtain ⟨its,r,⟨o,n,e,_,_,d⟩,_⟩:=I.list h;obtain ⟨its',r',⟨o',n',e',_,_,d'⟩,_⟩:=I.list h';rw[e] at e';cases e';rw[d] at d';injection d' with d1 _
 have:its=its':=by simpa using congrArg Array.toList d1
 subst this;exact r.inj r'
abbrev Cx.wish (X:Cx) (E:KY):Cx:={X with xe:=E}
abbrev Cx.nox (X:Cx):Cx:=X.wish fun _ _=>False
theorem Cx.Ok.wish {X:Cx} (ok:X.Ok) (E:KY):(X.wish E).Ok:=
 ⟨ok.mod,ok.kind,ok.glob,ok.blt,ok.above,ok.inj,ok.has,ok.cab,ok.hd,ok.frames,ok.stk,ok.exf,ok.bs,ok.bsz,ok.noex,ok.exfs,ok.funs,ok.frf⟩
theorem Cx.Ok.unwish {X:Cx} {E:KY} (ok:(X.wish E).Ok):X.Ok:=
 ⟨ok.mod,ok.kind,ok.glob,ok.blt,ok.above,ok.inj,ok.has,ok.cab,ok.hd,ok.frames,ok.stk,ok.exf,ok.bs,ok.bsz,ok.noex,ok.exfs,ok.funs,ok.frf⟩
variable {E:KY}
theorem aY.wish (I:aY X pins σ H s) (E:KY):aY (X.wish E) pins σ H s:=⟨I.ok.wish E,I.os,I.bare,I.base,I.loc,I.cell,I.free,I.freeC,I.pin,I.hok,I.len⟩
theorem aY.unwish (I:aY (X.wish E) pins σ H s):aY X pins σ H s:=⟨I.ok.unwish,I.os,I.bare,I.base,I.loc,I.cell,I.free,I.freeC,I.pin,I.hok,I.len⟩
theorem SP.unwish {D:Ends} {f:Flow} {s':Shared} (h:SP (X.wish E) pins D f s'):SP X pins D f s':=by
 cases f with
 |next=>obtain ⟨σ',H',I,q⟩:=h;exact ⟨σ',H',I.unwish,q⟩
 |brk=>obtain ⟨σ',H',I,q⟩:=h;exact ⟨σ',H',I.unwish,q⟩
 |cont=>obtain ⟨σ',H',I,q⟩:=h;exact ⟨σ',H',I.unwish,q⟩
 |ret u=>obtain ⟨v,σ',H',I,r,q⟩:=h;exact ⟨v,σ',H',I.unwish,r,q⟩
theorem x4.nox {st:List Stmt} {t:TS} (h:x4 X.nox st t):x4 X st t:=fun pins s σ H D I hw=>
 wpAny_mono (h pins s σ H D (I.wish _) hw) (fun _ _ q=>q.unwish) fun _ _ z=>False.elim z
section
variable {st:Stmt} {rest:List Stmt} {t u:TS} {e:Expr} {te:TE} {pos:Pos}
def c9:TS:=fun D σ H=>D.nx σ H
def bb (t u:TS):TS:=fun D σ H=>t {D with nx:=u D} σ H
theorem aB:x4 X [] c9:=fun _ _ σ H _ I h=>wpAny_execs_nil ⟨σ,H,I,h⟩
theorem ah (h1:PS X st t) (h2:x4 X rest u):x4 X (st::rest) (bb t u):=by
 intro pins s σ H D I h;refine wpAny_execs_cons (cx (h1 pins s σ H {D with nx:=u D} I h) fun f s1 q=>?_)
 cases f with
 |next=>
  obtain ⟨σ',H',I',q⟩:=q;exact h2 pins s1 σ' H' D I' q
 |ret v=>exact q
 |brk=>exact q
 |cont=>exact q
theorem ak (h1:PS X st t):x4 X [st] t:=by
 intro pins s σ H D I h;refine wpAny_execs_cons (cx (h1 pins s σ H D I h) fun f s1 q=>?_)
 cases f with
 |next=>exact wpAny_execs_nil q
 |ret v=>exact q
 |brk=>exact q
 |cont=>exact q
def BS:TS:=fun D σ H=>D.bk σ H
theorem ye:PS X (.Break pos) BS:=fun _ _ σ H _ I h=>wpAny_Break ⟨σ,H,I,h⟩
theorem aY.quiet {pins:La} {σ:St} {H:Hp} {s:Shared} (I:aY X pins σ H s):interactive X.env=false:=by simp[interactive,I.ok.kind]
def D6 (te:TE):TS:=fun D σ H=>te σ H fun _ H1=>D.nx σ H1
theorem bI (he:PE X e te) (hs:swapsWith e none pos.line X.env=pure false:=by rfl):PS X (.Expr e pos) (D6 te):=by
 intro pins s σ H D I h;exact wpAny_Expr_any (cx (he pins s σ H _ I h) fun v s1 ⟨x,H1,I1,r1,q1⟩=>⟨σ,H1,I1,q1⟩) I.quiet hs
def Gw (te:TE):TS:=fun D σ H=>te σ H D.rt
theorem aw (he:PE X e te):PS X (.Return (some e) pos) (Gw te):=by
 intro pins s σ H D I h;exact wpAny_Return_some (cx (he pins s σ H _ I h) fun v s1 ⟨x,H1,I1,r1,q1⟩=>⟨x,σ,H1,I1,r1,q1⟩)
def Gx (c:TT) (t u:TS):TS:=fun D σ H=>c σ H fun b H1=>if b=true then t D σ H1 else u D σ H1
theorem aN {c:Expr} {a b:List Stmt} {tc:TT} (hc:PT X c tc) (ha:x4 X a t) (hb:x4 X b u):PS X (.If c a b pos) (Gx tc t u):=by
 intro pins s σ H D I h;refine wpAny_If (cx (hc pins s σ H _ I h) fun d s1 ⟨H1,I1,q1⟩=>?_)
 cases d with
 |true=>exact ha pins s1 σ H1 D I1 q1
 |false=>exact hb pins s1 σ H1 D I1 q1
def BU:TS:=fun _ _ _=>False
theorem cL:PS X st BU:=fun _ _ _ _ _ _ h=>h.elim
end
abbrev TG:=V->St->Hp->(St->Hp->Prop)->Prop
abbrev Bw:=List V->St->Hp->(St->Hp->Prop)->Prop
def PG (X:Cx) (target:Expr) (t:TG):Prop:=
 ∀(pins:La) (s:Shared) (σ:St) (H:Hp) (v:V) (u:Value) (Q:St->Hp->Prop),aY X pins σ H s->RelV v u->t v σ H Q->
  wpAny (model X.prog X.w) X.A (assign target X.env u) (fun _ s'=>∃σ' H',aY X pins σ' H' s'/\Q σ' H') X.xe s
def D7 (X:Cx) (ts:List Expr) (t:Bw):Prop:=
 ∀(pins:La) (s:Shared) (σ:St) (H:Hp) (vs:List V) (us:Ld) (Q:St->Hp->Prop),aY X pins σ H s->bN vs us->t vs σ H Q->
  wpAny (model X.prog X.w) X.A (assignInOrder ((assignEach ts X.env).map (·.2)) us) (fun _ s'=>∃σ' H',aY X pins σ' H' s'/\Q σ' H') X.xe s
abbrev BV:=V->V->V->Hp->(Hp->Prop)->Prop
def D8 (X:Cx) (t:BV):Prop:=
 ∀(pins:La) (s:Shared) (σ:St) (H:Hp) (o i v:V) (ov iv u:Value) (Q:Hp->Prop),aY X pins σ H s->RelV o ov->RelV i iv->RelV v u->t o i v H Q->
  wpAny (model X.prog X.w) X.A (setItem ov iv u) (fun _ s'=>∃H',aY X pins σ H' s'/\Q H') X.xe s
abbrev Gd:=V->V->Hp->VK->Prop
def Hw (X:Cx) (op:Operator) (t:Gd):Prop:=
 ∀(pins:La) (s:Shared) (σ:St) (H:Hp) (x y:V) (v u:Value) (Q:VK),aY X pins σ H s->RelV x v->RelV y u->t x y H Q->
  wpAny (model X.prog X.w) X.A (inplaceOp op v u) (EP X pins σ Q) X.xe s
section
variable {pos:Pos}
def cE (i:Nat):TG:=fun v σ H Q=>Q (σ.set i (some v)) H
theorem fH {i:Nat} {x:Str} (hN:X.N.Nodup) (hi:X.N[i]?=some x) (hx:Loc X.env.scope x) (hf:X.fn x=true∨X.env.scope.names.lookup x=some .local:=by first|exact .inl rfl|exact .inr rfl|assumption):PG X (.Name x pos) (cE i):=by
 intro pins s σ H v u Q I r h;exact wpAny_assign_Name (mJ I hN hi hx r (fun s' I'=>⟨_,H,I',h⟩) hf)
def Gy:Bw:=fun vs σ H Q=>vs= []/\Q σ H
def D9 (t:TG) (u:Bw):Bw:=fun vs σ H Q=>∃v r,vs=v::r/\t v σ H fun σ' H'=>u r σ' H' Q
theorem ca:D7 X [] Gy:=by
 intro pins s σ H vs us Q I r h;obtain ⟨e,h⟩:=h;subst e;cases r;exact assignInOrder_nil ⟨σ,H,I,h⟩
theorem aH {e:Expr} {es:List Expr} {t:TG} {u:Bw} (h1:PG X e t) (h2:D7 X es u)
  (hs:(assignEach (e::es) X.env).map (·.2)=assign e X.env::(assignEach es X.env).map (·.2):=by rfl):D7 X (e::es) (D9 t u):=by
 intro pins s σ H vs us Q I r h;obtain ⟨v,vr,e1,h⟩:=h;subst e1;cases r with
 |cons r rr=>
  rw[hs];refine assignInOrder_cons (cx (h1 pins s σ H _ _ _ I r h) fun _ s1 ⟨σ1,H1,I1,q1⟩=>?_)
  exact h2 pins s1 σ1 H1 _ _ Q I1 rr q1
def Ea (K:IE) (n:Nat) (t:Bw):TG:=fun v σ H Q=>∃a xs,v= .ref a/\bg K H a xs/\xs.length=n/\t xs σ H Q
theorem cT {es:List Expr} {k:Nat} {t:Bw} {n:Nat} (hc:X.calm=true) (h:D7 X es t)
  (hn:(assignEach es X.env).length=n:=by rfl) (hst:(assignEach es X.env).findIdx? (·.1)=none:=by rfl):PG X (.Tuple es k pos) (Ea X.K n t):=by
 intro pins s σ H v u Q I r hw;obtain ⟨a,xs,e1,hq,hl,hw⟩:=hw;subst e1;cases r;obtain ⟨its,rv,ht,hz⟩:=I.tuple hq;refine assign_Tuple_tuple (I.ok.hd hc) ht (by simp[hn,<-hl,rv.length]) hst fun h' hx=>?_
 have I1:aY X pins σ H {s with heap:=h'}:=I.kept (t':=s.toks) fun b o e=>hx b o (IQ (Heap.lt_size e)) e
 exact h pins _ σ H xs _ Q I1 (by simpa using rv) hw
def Gz (to ti:TE) (t:BV):TG:=fun v σ H Q=>to σ H fun o H1=>ti σ H1 fun i H2=>t o i v H2 fun H3=>Q σ H3
theorem yf {o i:Expr} {to ti:TE} {t:BV} (ho:PE X o to) (hi:PE X i ti) (hs:D8 X t)
  (ha:∀v,assign (.Subscript o i pos) X.env v=(do
   let ov<-holding [v] (eval o X.env)
   let iv<-holding [v,ov] (eval i X.env)
   standAt pos
   holding [v,ov,iv] (setItem ov iv v)
   release [v,ov,iv] []):=by intro _;rfl):PG X (.Subscript o i pos) (Gz to ti t):=by
 intro pins s σ H v u Q I r h;rw[ha];refine wpAny_bind (wpAny_holding (cx (ho pins s σ H _ I h) fun ov s1 ⟨x,H1,I1,r1,q1⟩=>?_))
 refine wpAny_bind (wpAny_holding (cx (hi pins s1 σ H1 _ I1 q1) fun iv s2 ⟨y,H2,I2,r2,q2⟩=>?_))
 refine wpAny_bind (wpAny_standAt (wpAny_bind (wpAny_holding (cx (hs pins s2 σ H2 x y v ov iv u _ I2 r1 r2 r q2) fun _ s3 ⟨H3,I3,q3⟩=>?_))))
 exact wpAny_release ⟨σ,H3,I3,q3⟩
def ud (te:TE) (g:TG):TS:=fun D σ H=>te σ H fun x H1=>g x σ H1 D.nx
theorem kj {tg e:Expr} {te:TE} {g:TG} (he:PE X e te) (hg:PG X tg g) (hs:swapsWithSole [tg] e pos.line X.env=pure false:=by rfl) (hw:swappedStores [tg] e X.env=pure none:=by rfl)
  (h1:(assignEach [tg] X.env).map (·.2)= [assign tg X.env]:=by rfl):PS X (.Assign [tg] e pos) (ud te g):=by
 intro pins s σ H D I h;refine wpAny_Assign_stores (cx (he pins s σ H _ I h) fun v s1 ⟨x,H1,I1,r1,q1⟩=>?_) hs hw
 rw[h1];exact cx (hg pins s1 σ H1 x v _ I1 r1 q1) fun _ s2 q=>q
theorem fQ {i:Nat} {x:Str} {e:Expr} {te:TE} {pos':Pos} (hN:X.N.Nodup) (hi:X.N[i]?=some x) (hx:Loc X.env.scope x) (he:PE X e te) (hs:swapsWith e (some (.Name x pos')) pos.line X.env=pure false:=by rfl) (hf:X.fn x=true∨X.env.scope.names.lookup x=some .local:=by first|exact .inl rfl|exact .inr rfl|assumption):
  PS X (.Assign [.Name x pos'] e pos) (ud te (cE i)):=by
 intro pins s σ H D I h;refine wpAny_Assign_Name (cx (he pins s σ H _ I h) fun v s1 ⟨y,H1,I1,r1,q1⟩=>?_) hs
 exact mJ I1 hN hi hx r1 (fun s2 I2=>⟨_,H1,I2,q1⟩) hf
def GA (i:Nat) (te:TE) (ti:Gd):TS:=fun D σ H=>mV σ[i]? fun x=>te σ H fun y H1=>ti x y H1 fun z H2=>D.nx (σ.set i (some z)) H2
theorem yg {i:Nat} {x:Str} {e:Expr} {te:TE} {op:Operator} {ti:Gd} {pos':Pos} (hN:X.N.Nodup) (hi:X.N[i]?=some x) (hx:Loc X.env.scope x) (he:PE X e te) (ho:Hw X op ti) (hf:X.fn x=true∨X.env.scope.names.lookup x=some .local:=by first|exact .inl rfl|exact .inr rfl|assumption):
  PS X (.AugAssign (.Name x pos') op e pos) (GA i te ti):=by
 intro pins s σ H D I h;obtain ⟨v,e1,h⟩:=mV.e h;obtain ⟨m,hn,hl⟩:=I.loc;have vis:Gc X.env.scope x:=by rcases hx with k|k;exact .inl k;exact .inr (.inl k)
 obtain ⟨u,r,l⟩:=hl i x v hi e1 vis;refine wpAny_AugAssign_Name ?_;have go:wpAny (model X.prog X.w) X.A (eval e X.env) (fun w s₂=>wpAny (model X.prog X.w) X.A (inplaceOp op u w) (fun r s₃=>wpAny (model X.prog X.w) X.A (storeName X.env x r) (fun _=>SP X pins D .next) X.xe s₃) X.xe s₂) X.xe s:=by
  refine cx (he pins s σ H _ I h) fun w s1 ⟨y,H1,I1,r1,q1⟩=>?_
  refine cx (ho pins s1 σ H1 v y u w _ I1 r r1 q1) fun z s2 ⟨zv,H2,I2,r2,q2⟩=>?_
  exact mJ I2 hN hi hx r2 (fun s3 I3=>⟨_,H2,I3,q2⟩) hf
 rcases l with ⟨hk,hm⟩|⟨hk,c,hc,hcell⟩
 ·exact wpAny_loadName_local I.ok.kind hk hn hm go
 ·rcases hk with hk|hk
  ·exact wpAny_loadName_cell I.ok.kind hk hc hcell go
  ·rcases hx with k|k
   ·have:X.env.scope.names.lookup x=some .free:=hk;rw[k] at this;cases this
   ·have:X.env.scope.names.lookup x=some .free:=hk;rw[k] at this;cases this
def HN (f:Int->Int->Int):Gd:=fun x y H Q=>mI x fun i=>mI y fun j=>Q (.int (f i j)) H
theorem yh:Hw X .Add (HN fun i j=>i+j):=by
 intro pins s σ H x y v u Q I r1 r2 h;obtain ⟨i,j,e1,e2,q⟩:=mI.e2 h;subst e1;subst e2;obtain ⟨t,rfl⟩:=r1;obtain ⟨t',rfl⟩:=r2;exact iadd_int ⟨.int _,H,I.tok _,⟨_,rfl⟩,q⟩
end
structure It where
 go:Nat->Hp->Prop
 yld:Nat->Hp->V->Hp->Prop
 stop:Nat->Hp->Prop
def fk (X:Cx) (pins:La) (H:Hp) (b:Addr):Prop:=
 H b=none/\b≠X.env.locals/\b∉X.fs/\(b∈X.ex∨X.s₀.heap.objs.size<=b)/\(∀x c,X.env.cells.lookup x=some c->c≠b)/\∀p∈X.pn++pins,p.1≠b
theorem aY.fpOk {X:Cx} {pins:La} {σ:St} {H H':Hp} {s:Shared} {b:Addr} (I:aY X pins σ H s) (hb:s.heap.objs.size<=b) (hn:H' b=none):fk X pins H' b:=by
 refine ⟨hn,Jp (JA I.lt hb),I.nofs hb,.inr (J8 I.sz hb),fun x c e z=>?_,fun p hp z=>?_⟩
 ·obtain ⟨v,q⟩:=I.cell x c e;exact absurd (JA q.lt (by rw[z];exact hb)) (KH _)
 ·exact absurd (JA (Heap.lt_size (I.pin p hp).1) (by rw[z];exact hb)) (KH _)
structure Turn (P:Program) (w:World) (K:IE) (tg:Expr) (J:It) (fp:Lc) (it:Addr) (tn:Nat->Heap->Prop):Prop where
 mem:it∈fp
 obj:∀i h,tn i h->∀b∈fp,∃o,h.get? b=some o/\∀v,o.data≠ .cell v
 keep:∀i h h',tn i h->(∀b∈fp,∀o,h.get? b=some o->h'.get? b=some o)->tn i h'
 item:∀(X:Cx),X.prog=P->X.w=w->X.K=K->X.calm=true->∀(i:Nat) (pins:La) (s:Shared) (σ:St) (H:Hp) (E:KY),aY X pins σ H s->(∀b∈fp,fk X pins H b)->tn i s.heap->J.go i H->
  wpAny (model P w) X.A (pyNext (.ref it)) (fun r s1=>∃u,r=some u/\
   wpAny (model P w) X.A (letOwnedTupleGo tg (.ref it) u) (fun _ s2=>∃x H',aY X pins σ H' s2/\RelV x u/\J.yld i H x H'/\tn (i+1) s2.heap/\∀b∈fp,H' b=none) E s1) E s
 done:∀(X:Cx),X.prog=P->X.w=w->X.K=K->X.calm=true->∀(i:Nat) (pins:La) (s:Shared) (σ:St) (H:Hp) (E:KY),aY X pins σ H s->(∀b∈fp,fk X pins H b)->tn i s.heap->J.stop i H->
  wpAny (model P w) X.A (pyNext (.ref it)) (fun r s1=>r=none/\aY X pins σ H s1) E s
 self:∀(A:Around) (i:Nat) (s:Shared) (Q:KY) (E:KY),tn i s.heap->Q (.ref it) s->wpAny (model P w) A (pyIter (.ref it)) Q E s
abbrev TI:=St->Hp->(It->Hp->Prop)->Prop
def GB (X:Cx) (pins:La) (σ:St) (tg:Expr) (R:It->Hp->Prop) (itv:Value) (s2:Shared):Prop:=
 ∃(it:Addr) (fp:Lc) (tn:Nat->Heap->Prop) (J:It) (H':Hp),itv= .ref it/\aY X pins σ H' s2/\Turn X.prog X.w X.K tg J fp it tn/\tn 0 s2.heap/\(∀b∈fp,fk X pins H' b)/\R J H'
def PI (X:Cx) (tg iter:Expr) (wi:TI):Prop:=
 ∀(pins:La) (s:Shared) (σ:St) (H:Hp) (R:It->Hp->Prop),aY X pins σ H s->wi σ H R->
  wpAny (model X.prog X.w) X.A (eval iter X.env) (fun v s1=>wpAny (model X.prog X.w) X.A (pyIter v) (GB X pins σ tg R) X.xe s1) X.xe s
theorem rL {M:Model} {A:Around} {E:KY} {s:Shared} {tg:Expr} {it:Addr} {u:Value} {o:Obj} {n:String} {vs:Array Value} {Q:Unit->Shared->Prop} (ho:s.heap.get? it=some o) (hc:o.cls= .type n) (hd:o.data= .fields vs)
    (hn: ["enumerate","zip","dict_itemiterator","dict_reverseitemiterator","odict_iterator","itertools.zip_longest","itertools.pairwise"].contains n=false) (hQ:Q () s):wpAny M A (letOwnedTupleGo tg (.ref it) u) Q E s:=by
  unfold letOwnedTupleGo;cases tg<;>first
    |exact wpAny_pure hQ
    | (cases u<;>first
        |exact wpAny_pure hQ
        | (refine wpAny_bind (wpAny_load ho ?_)
           rw[hc,hd];show wpAny M A (if (["enumerate","zip","dict_itemiterator","dict_reverseitemiterator","odict_iterator","itertools.zip_longest","itertools.pairwise"].contains n&&vs[0]?==some (rawInt _))=true then _ else _) Q E s
           rw[if_neg (by intro h;rw[hn,Jg] at h;cases h)]
           exact wpAny_pure hQ))
noncomputable def Aq (K:IE) (a:Addr):It:=
 ⟨fun i H=>∃xs x,aD K H a xs/\xs[i]?=some x,fun i H x H'=>H'=H/\∀xs,aD K H a xs->xs[i]?=some x,fun i H=>∃xs,aD K H a xs/\xs.length<=i⟩
noncomputable def By (lo:Int) (n:Nat):It:=⟨fun i _=>i<n,fun i H x H'=>H'=H/\x= .int (lo+i),fun i _=>n<=i⟩
theorem wQ {P:Program} {w:World} {K:IE} {tg:Expr} (a it:Addr):Turn P w K tg (Aq K a) [it] it (fun i h=>h.IsListIter it a i) where
 mem:=by simp
 obj:=fun i h st b hb=>by
  have e:b=it:=by simpa using hb
  subst e;obtain ⟨o,e,c,d⟩:=st;exact ⟨o,e,fun v z=>by rw[d] at z;cases z⟩
 keep:=fun i h h' st k=>st.at fun o e=>k it (by simp) o e
 item:=by
  intro X hP hw hK hc i pins s σ H E I hf st hg;subst hP hw hK;obtain ⟨xs,x,hq,hx⟩:=hg;obtain ⟨its,rv,p,hz⟩:=I.list hq;obtain ⟨u,hu,ru⟩:=rv.get hx;obtain ⟨f0,f1,f2,f3,f4,f5⟩:=hf it (by simp)
  refine wpAny_pyNext_list_item st p.isList (x:=u) (by simpa using hu) fun h' st' sb=>?_
  have I1:aY X pins σ H {s with heap:=h'}:=I.turned (t':=s.toks) (fun b o hb e=>(sb.2 b hb).trans e) f0 f1 f3 f4 f5
  obtain ⟨o,e,c,d⟩:=id st';exact ⟨u,rfl,rL (s:={s with heap:=h'}) e c d (by decide) ⟨x,H,I1,ru,⟨rfl,fun ys hy=>by rw[I.list_inj hy hq];exact hx⟩,st',fun b hb=>(hf b hb).1⟩⟩
 done:=by
  intro X hP hw hK hc i pins s σ H E I hf st hg;subst hP hw hK;obtain ⟨xs,hq,hx⟩:=hg;obtain ⟨its,rv,p,hz⟩:=I.list hq;obtain ⟨f0,f1,f2,f3,f4,f5⟩:=hf it (by simp)
  have hl:=rv.length;exact wpAny_pyNext_list_end (I.ok.hd hc) st p.isList (by simp;lia) fun h' eb=>⟨rfl,I.turned (t':=s.toks) (fun b o hb e=>eb b o hb e) f0 f1 f3 f4 f5⟩
 self:=fun _ _ _ _ _ st h=>wpAny_pyIter_listiter st h
theorem ue {P:Program} {w:World} {K:IE} {tg:Expr} (it:Addr) (lo:Int) (n:Nat):Turn P w K tg (By lo n) [it] it (fun i h=>IsRangeIter h it (lo+(i:Nat)*1) ((n:Int)-(i:Nat)) 1) where
 mem:=by simp
 obj:=fun i h st b hb=>by
  have e:b=it:=by simpa using hb
  subst e;exact ⟨_,st,fun v z=>by
   have z':Data.fields _=Data.cell v:=z;cases z'⟩
 keep:=fun i h h' st k=>k it (by simp) _ st
 item:=by
  intro X hP hw hK hc i pins s σ H E I hf st hg;subst hP hw hK;obtain ⟨f0,f1,f2,f3,f4,f5⟩:=hf it (by simp)
  have W:=Walks.range (prog:=X.prog) (w:=X.w) (I.ok.hd hc) it lo 1 n;refine W.item i s _ _ hg st fun v h' tk hv st' kk=>?_
  obtain ⟨t,rfl⟩:=hv;have I1:aY X pins σ H {s with heap:=h',toks:=tk}:=I.turned (fun b o hb e=>kk b o (by simpa using hb) e) f0 f1 f3 f4 f5
  refine ⟨_,rfl,rL (s:={s with heap:=h',toks:=tk}) (n:= "range_iterator") st' rfl rfl (by decide) ⟨.int (lo+i),H,I1,⟨t,?_⟩,⟨rfl,rfl⟩,st',fun b hb=>(hf b hb).1⟩⟩
  rw[Int.mul_one]
 done:=by
  intro X hP hw hK hc i pins s σ H E I hf st hg;subst hP hw hK;obtain ⟨f0,f1,f2,f3,f4,f5⟩:=hf it (by simp)
  exact wpAny_pyNext_range_end (I.ok.hd hc) st (by have:n<=i:=hg;lia) fun h' eb=>⟨rfl,I.turned (t':=s.toks) (fun b o hb e=>eb b o hb e) f0 f1 f3 f4 f5⟩
 self:=fun _ _ _ _ _ st h=>wpAny_pyIter_rangeiter st h
variable {tg:Expr}
def Bz (K:IE) (tl:TE):TI:=fun σ H R=>tl σ H fun x H1=>∃a,x= .ref a/\(∃xs,aD K H1 a xs)/\R (Aq K a) H1
theorem aI {l:Expr} {tl:TE} (hl:PE X l tl):PI X tg l (Bz X.K tl):=by
 intro pins s σ H R I h;refine cx (hl pins s σ H _ I h) fun v s1 ⟨x,H1,I1,r1,q1⟩=>?_
 obtain ⟨a,e,⟨xs,hq⟩,q⟩:=q1;subst e;cases r1;obtain ⟨its,rv,p,hz⟩:=I1.list hq;refine wpAny_pyIter_list p.isList ?_;refine ⟨s1.heap.objs.size,[s1.heap.objs.size],_,_,H1,rfl,I1.kept (t':=s1.toks) fun b o e=>Heap.get?_push_of_some _ e,wQ a _,⟨_,Heap.get?_push_size _ rfl,rfl,rfl⟩,fun b hb=>?_,q⟩
 have e:b=s1.heap.objs.size:=by simpa using hb
 subst e;exact I1.fpOk (IH _) (I1.hok.fresh (IH _))
theorem rM {pins:La} {σ:St} {H:Hp} {s:Shared} {R:It->Hp->Prop} {E:KY} {lo hi:Int} {t u v:Tok} {tk:Nat} (I:aY X pins σ H s) (h1: -(2^62)<=lo) (h2:lo<2^62) (h3: -(2^62)<=hi) (h4:hi<2^62)
  (q:R (By lo (hi-lo).toNat) H):wpAny (model X.prog X.w) X.A (pyIter (.ref s.heap.objs.size)) (GB X pins σ tg R) E {s with heap:=s.heap.push {cls:= .type "range",data:= .fields #[.int lo t,.int hi u,.int 1 v]},toks:=tk}:=by
 refine wpAny_pyIter_range (IsRange.new ..) (small_one h1 h2 h3 h4) ?_;have I1:aY X pins σ H {s with heap:=s.heap.push {cls:= .type "range",data:= .fields #[.int lo t,.int hi u,.int 1 v]},toks:=tk}:=I.kept fun b o e=>Heap.get?_push_of_some _ e
 refine ⟨(s.heap.push {cls:= .type "range",data:= .fields #[.int lo t,.int hi u,.int 1 v]}).objs.size,[(s.heap.push {cls:= .type "range",data:= .fields #[.int lo t,.int hi u,.int 1 v]}).objs.size],_,_,H,rfl,
  I1.kept (t':=tk) fun b o e=>Heap.get?_push_of_some _ e,ue _ lo (hi-lo).toNat,?_,fun b hb=>?_,q⟩
 ·have e1:lo+((0:Nat):Int)*1=lo:=by simp
  have e2:(((hi-lo).toNat:Nat):Int)-((0:Nat):Int)=Builtin.Range.rangeSize lo hi 1:=by rw[rangeSize_one];split<;>lia
  show IsRangeIter _ _ (lo+((0:Nat):Int)*1) ((((hi-lo).toNat:Nat):Int)-((0:Nat):Int)) 1;rw[e1,e2];exact Heap.get?_push_size _ rfl
 ·have e:b=(s.heap.push {cls:= .type "range",data:= .fields #[.int lo t,.int hi u,.int 1 v]}).objs.size:=by simpa using hb
  subst e;exact I1.fpOk (IH _) (I1.hok.fresh (IH _))
def Eb (ta:TA):TI:=fun σ H R=>ta σ H fun vs H1=>∃j:Int,vs= [.int j]/\ -(2^62)<=j/\j<2^62/\R (By 0 j.toNat) H1
def Ec (ta:TA):TI:=fun σ H R=>ta σ H fun vs H1=>∃i j:Int,vs= [.int i,.int j]/\(-(2^62)<=i/\i<2^62/\ -(2^62)<=j/\j<2^62)/\R (By i (j-i).toNat) H1
theorem bJ {a:Expr} {ta:TA} {p pos:Pos} (hg:Gl X "range") (hm:X.mg "range" =none) (ha:PA X [a] ta) (hs:starEach [a] X.env= [(false,eval a X.env)]:=by rfl):PI X tg (.Call (.Name "range" p) [a] [] pos) (Eb ta):=by
 intro pins s σ H R I h;refine Call_ (dX I hg hm boot_range (J9 (cx (ha pos pins s σ H _ I h) fun us s1 ⟨vs,H1,I1,r1,q1⟩=>?_) hs rfl))
 obtain ⟨j,e,q1,q2,q⟩:=q1;subst e;cases r1 with
 |cons r rr=>
  cases rr;obtain ⟨t,rfl⟩:=r;exact call_range_1 (rM I1 (by lia) (by lia) q1 q2 (by simpa using q))
theorem wR {a b:Expr} {ta:TA} {p pos:Pos} (hg:Gl X "range") (hm:X.mg "range" =none) (ha:PA X [a,b] ta) (hs:starEach [a,b] X.env= [(false,eval a X.env),(false,eval b X.env)]:=by rfl) (hs2:starEach [b] X.env= [(false,eval b X.env)]:=by rfl):
  PI X tg (.Call (.Name "range" p) [a,b] [] pos) (Ec ta):=by
 intro pins s σ H R I h;refine Call_ (dX I hg hm boot_range (J9 (cx (ha pos pins s σ H _ I h) fun us s1 ⟨vs,H1,I1,r1,q1⟩=>?_) (by rw[hs,hs2]) (by rw[hs2];rfl)))
 obtain ⟨i,j,e,⟨q1,q2,q3,q4⟩,q⟩:=q1;subst e;cases r1 with
 |cons r rr=>
  cases rr with
  |cons r' rr=>
   cases rr;obtain ⟨t,rfl⟩:=r;obtain ⟨t',rfl⟩:=r';exact call_range_2 (rM I1 q1 q2 q3 q4 q)
def GC (wi:TI) (g:TG) (tb:TS):TS:=fun D σ H=>wi σ H fun J H1=>∃W:Nat->Nat->St->Hp->Prop,(∃m,W 0 m σ H1)/\∀i m σ H,W i m σ H->
 (J.stop i H/\D.nx σ H)∨(J.go i H/\∃N:St->Hp->Prop,(∀σ' H',N σ' H'->∃m',m'<m/\W (i+1) m' σ' H')/\∀x H',J.yld i H x H'->g x σ H' fun σ2 H2=>tb {D with nx:=N,ct:=N,bk:=D.nx} σ2 H2)
noncomputable def mL (fp:Lc) (h:Heap):La:=fp.filterMap fun b=>(h.get? b).map fun o=>(b,o)
theorem dn {fp:Lc} {h:Heap} {b:Addr} {o:Obj} (hb:b∈fp) (e:h.get? b=some o):(b,o)∈mL fp h:=List.mem_filterMap.mpr ⟨b,hb,by rw[e];rfl⟩
theorem wS {fp:Lc} {h:Heap} {p:Addr×Obj} (hp:p∈mL fp h):p.1∈fp/\h.get? p.1=some p.2:=by
 obtain ⟨b,hb,e⟩:=List.mem_filterMap.mp hp;cases q:h.get? b with
 |none=>rw[q] at e;cases e
 |some o=>
  rw[q] at e;have e':(b,o)=p:=JW e;subst e';exact ⟨hb,q⟩
theorem aY.pinned {pins:La} {σ:St} {H:Hp} {s:Shared} {fp:Lc} (I:aY X pins σ H s) (hf:∀b∈fp,fk X pins H b) (ho:∀b∈fp,∃o,s.heap.get? b=some o/\∀v,o.data≠ .cell v):aY X (pins++mL fp s.heap) σ H s:=
 I.pins_of fun p hp=>(IS.mp hp).elim (fun z=>I.pin p (Ik _ z)) fun z=>by
  obtain ⟨hb,e⟩:=wS z;obtain ⟨f0,f1,f2,_⟩:=hf p.1 hb;obtain ⟨o,e',d⟩:=ho p.1 hb;rw[e] at e';cases e';exact ⟨e,f0,f1,f2,d⟩
theorem aY.unpinned {pins pl:La} {σ:St} {H:Hp} {s:Shared} (I:aY X (pins++pl) σ H s):aY X pins σ H s:=I.pins_of fun p hp=>I.pin p (Ik _ (List.mem_append_left _ hp))
theorem aP {iter:Expr} {body:List Stmt} {wi:TI} {g:TG} {tb:TS} {pos:Pos} (hp:PassesOwn (model X.prog X.w) X.A X.env X.xe) (hc:X.calm=true) (hi:PI X tg iter wi) (hg:PG X tg g) (hb:x4 X body tb)
  (hs:∀x,foldedSetIterable iter X.env x=pure x:=by intro _;rfl):PS X (.For tg iter body [] pos) (GC wi g tb):=by
 intro pins s σ H D I h;refine wpAny_For (cx (hi pins s σ H _ I h) fun v s1 h1=>cx h1 fun itv s2 h2=>?_) hs
 obtain ⟨it,fp,tn,J,H2,e,I2,T,st2,f2,W,⟨m0,w0⟩,turn⟩:=h2;subst e;have stat:∀{H':Hp},(∀b∈fp,H' b=none)->∀b∈fp,fk X pins H' b:=fun hn b hb=>⟨hn b hb,(f2 b hb).2⟩
 refine codeAny_forLoop_any (fun n s'=>∃i σ' H',aY X pins σ' H' s'/\tn i s'.heap/\(∀b∈fp,H' b=none)/\W i n σ' H') ?_ m0 ⟨0,σ,H2,I2,st2,fun b hb=>(f2 b hb).1,w0⟩
 rintro n s3 ⟨i,σ3,H3,I3,st3,fr3,w3⟩;rcases turn i n σ3 H3 w3 with ⟨stop,qn⟩|⟨go,N,hN,step⟩
 ·refine wpAny_passesOwn hp (cx (T.done X rfl rfl rfl hc i pins s3 σ3 H3 X.xe I3 (stat fr3) st3 stop) fun r s4 ⟨hr,I4⟩=>?_)
  subst hr;exact wpAny_execs_nil ⟨σ3,H3,I4,qn⟩
 ·refine wpAny_passesOwn hp (cx (T.item X rfl rfl rfl hc i pins s3 σ3 H3 X.xe I3 (stat fr3) st3 go) fun r s4 ⟨u,hr,h4⟩=>?_)
  subst hr;refine wpAny_passesOwn hp (cx h4 fun _ s5 ⟨x,H5,I5,r5,y5,st5,fr5⟩=>?_)
  have I5':=I5.pinned (stat fr5) (T.obj _ _ st5);refine wpAny_passesOwn hp (cx (hg _ s5 σ3 H5 x u _ I5' r5 (step x H5 y5)) fun _ s6 ⟨σ6,H6,I6,q6⟩=>?_)
  refine wpAny_passesOwn hp (cx (hb _ s6 σ6 H6 _ I6 q6) fun f s7 q7=>?_)
  have again:∀{σ7:St} {H7:Hp},aY X (pins++mL fp s5.heap) σ7 H7 s7->N σ7 H7->∃m,m<n/\∃i σ' H',aY X pins σ' H' s7/\tn i s7.heap/\(∀b∈fp,H' b=none)/\W i m σ' H':=fun {σ7 H7} I7 n7=>by
   obtain ⟨m',hm,w7⟩:=hN σ7 H7 n7;refine ⟨m',hm,i+1,σ7,H7,I7.unpinned,T.keep _ _ _ st5 fun b hb o e=>(I7.pin (b,o) (Ik _ (Ik _ (dn hb e)))).1,fun b hb=>?_,w7⟩
   obtain ⟨o,e,d⟩:=T.obj _ _ st5 b hb;exact (I7.pin (b,o) (Ik _ (Ik _ (dn hb e)))).2.1
  cases f with
  |next=>obtain ⟨σ7,H7,I7,n7⟩:=q7;exact again I7 n7
  |cont=>obtain ⟨σ7,H7,I7,n7⟩:=q7;exact again I7 n7
  |brk=>obtain ⟨σ7,H7,I7,q7⟩:=q7;exact ⟨σ7,H7,I7.unpinned,q7⟩
  |ret v=>obtain ⟨x7,σ7,H7,I7,r7,q7⟩:=q7;exact ⟨x7,σ7,H7,I7.unpinned,r7,q7⟩
theorem aV {K:IE} {a:Addr} {xs:List V} {g:TG} {tb:TS} {D:Ends} {σ:St} {H:Hp} (Pv:Nat->St->Hp->Prop) (h0:Pv 0 σ H) (hl:∀i σ H,i<=xs.length->Pv i σ H->aD K H a xs)
  (hs:∀i x σ H,xs[i]?=some x->Pv i σ H->g x σ H fun σ2 H2=>tb {D with nx:=Pv (i+1),ct:=Pv (i+1),bk:=D.nx} σ2 H2) (hd:∀σ H,Pv xs.length σ H->D.nx σ H):
  ∃W:Nat->Nat->St->Hp->Prop,(∃m,W 0 m σ H)/\∀i m σ H,W i m σ H->
   ((Aq K a).stop i H/\D.nx σ H)∨((Aq K a).go i H/\∃N:St->Hp->Prop,(∀σ' H',N σ' H'->∃m',m'<m/\W (i+1) m' σ' H')/\∀x H',(Aq K a).yld i H x H'->g x σ H' fun σ2 H2=>tb {D with nx:=N,ct:=N,bk:=D.nx} σ2 H2):=by
 refine ⟨fun i m σ H=>m=xs.length-i/\i<=xs.length/\Pv i σ H,⟨xs.length,by simp,JC _,h0⟩,?_⟩
 rintro i m σ H ⟨rfl,hi,p⟩;have q:=hl i σ H hi p
 by_cases hlt:i<xs.length
 ·refine .inr ⟨⟨xs,xs[i],q,by simp[hlt]⟩,Pv (i+1),fun σ' H' p'=>⟨xs.length-(i+1),by lia,rfl,hlt,p'⟩,fun x H' y=>?_⟩
  obtain ⟨e,y⟩:=y;subst e;exact hs i x σ _ (y xs q) p
 ·have e:i=xs.length:=by lia
  subst e;exact .inl ⟨⟨xs,q,IH _⟩,hd σ H p⟩
theorem bP {lo:Int} {n:Nat} {g:TG} {tb:TS} {D:Ends} {σ:St} {H:Hp} (Pv:Nat->St->Hp->Prop) (h0:Pv 0 σ H)
  (hs:∀i σ H,i<n->Pv i σ H->g (.int (lo+i)) σ H fun σ2 H2=>tb {D with nx:=Pv (i+1),ct:=Pv (i+1),bk:=D.nx} σ2 H2) (hd:∀σ H,Pv n σ H->D.nx σ H):
  ∃W:Nat->Nat->St->Hp->Prop,(∃m,W 0 m σ H)/\∀i m σ H,W i m σ H->
   ((By lo n).stop i H/\D.nx σ H)∨((By lo n).go i H/\∃N:St->Hp->Prop,(∀σ' H',N σ' H'->∃m',m'<m/\W (i+1) m' σ' H')/\∀x H',(By lo n).yld i H x H'->g x σ H' fun σ2 H2=>tb {D with nx:=N,ct:=N,bk:=D.nx} σ2 H2):=by
 refine ⟨fun i m σ H=>m=n-i/\i<=n/\Pv i σ H,⟨n,by simp,JC _,h0⟩,?_⟩
 rintro i m σ H ⟨rfl,hi,p⟩
 by_cases hlt:i<n
 ·refine .inr ⟨hlt,Pv (i+1),fun σ' H' p'=>⟨n-(i+1),by lia,rfl,hlt,p'⟩,fun x H' y=>?_⟩
  obtain ⟨e,y⟩:=y;subst e y;exact hs i σ _ hlt p
 ·have e:i=n:=by lia
  subst e;exact .inl ⟨IH _,hd σ H p⟩
abbrev R2:=V->V->Hp->VK->Prop
def iL (X:Cx) (f:Value->Value->Sem Value) (r:R2):Prop:=
 ∀(pins:La) (s:Shared) (σ:St) (H:Hp) (x y:V) (v u:Value) (Q:VK),aY X pins σ H s->RelV x v->RelV y u->r x y H Q->
  wpAny (model X.prog X.w) X.A (f v u) (EP X pins σ Q) X.xe s
def GD (X:Cx) (f:Value->Sem Value) (r:V->Hp->VK->Prop):Prop:=
 ∀(pins:La) (s:Shared) (σ:St) (H:Hp) (x:V) (v:Value) (Q:VK),aY X pins σ H s->RelV x v->r x H Q->
  wpAny (model X.prog X.w) X.A (f v) (EP X pins σ Q) X.xe s
def eY (X:Cx) (f:Value) (r:List V->Hp->VK->Prop):Prop:=
 ∀(pins:La) (s:Shared) (σ:St) (H:Hp) (xs:List V) (us:Ld) (Q:VK),aY X pins σ H s->bN xs us->r xs H Q->
  wpAny (model X.prog X.w) X.A (call f us) (EP X pins σ Q) X.xe s
def Ge (r:R2) (ta tb:TE):TE:=fun σ H Q=>ta σ H fun x H1=>tb σ H1 fun y H2=>r x y H2 Q
def HP (r:V->Hp->VK->Prop) (ta:TE):TE:=fun σ H Q=>ta σ H fun x H1=>r x H1 Q
def rI (C:Int->Int->Prop) (g:Int->Int->V):R2:=fun x y H Q=>mI x fun i=>mI y fun j=>C i j/\Q (g i j) H
def BA (g:Int->Int->V):R2:=fun x y H Q=>mI x fun i=>mI y fun j=>Q (g i j) H
def rU (g:Int->V):V->Hp->VK->Prop:=fun x H Q=>∃i,x= .int i/\Q (g i) H
section
variable {a b c:Expr} {ta tb tc:TE} {pos:Pos}
theorem BW (ha:PE X a ta) (hb:PE X b tb) {pins:La} {s:Shared} {σ:St} {H:Hp} {R:V->V->Hp->Prop} (I:aY X pins σ H s)
  (h:ta σ H fun x H1=>tb σ H1 fun y H2=>R x y H2) {Q:KY} {f:Value->Value->Sem Value}
  (hf:∀v u s2 x y H2,aY X pins σ H2 s2->RelV x v->RelV y u->R x y H2->wpAny (model X.prog X.w) X.A (f v u) Q X.xe s2):
  wpAny (model X.prog X.w) X.A (eval a X.env) (fun v s₁=>wpAny (model X.prog X.w) X.A (eval b X.env) (fun u s₂=>wpAny (model X.prog X.w) X.A (f v u) Q X.xe s₂) X.xe s₁) X.xe s:=by
 refine cx (ha pins s σ H _ I h) fun v s1 ⟨x,H1,I1,r1,q1⟩=>?_
 refine cx (hb pins s1 σ H1 _ I1 q1) fun u s2 ⟨y,H2,I2,r2,q2⟩=>?_
 exact hf v u s2 x y H2 I2 r1 r2 q2
theorem am {op:Operator} {r:R2} (ho:iL X (binaryOp op) r) (ha:PE X a ta) (hb:PE X b tb):PE X (.BinOp a op b pos) (Ge r ta tb):=by
 intro pins s σ H Q I h;exact wpAny_BinOp (BW ha hb I h fun v u s2 x y H2 I2 rx ry q=>ho pins s2 σ H2 x y v u Q I2 rx ry q)
theorem mM {op:UnaryOp} {r:V->Hp->VK->Prop} (ho:GD X (unaryOp op) r) (ha:PE X a ta):PE X (.UnaryOp op a pos) (HP r ta):=by
 intro pins s σ H Q I h;exact UnaryOp_ (cx (ha pins s σ H _ I h) fun v s1 ⟨x,H1,I1,r1,q1⟩=>ho pins s1 σ H1 x v Q I1 r1 q1)
theorem Gf {f:Value->Value->Sem Value} {C:Int->Int->Prop} {g:Int->Int->Int}
  (rule:∀(i j:Int) (t u:Tok) (s:Shared) (Q:KY) (E:KY),C i j->Q (.int (g i j) s.toks) {s with toks:=s.toks+1}->wpAny (model X.prog X.w) X.A (f (.int i t) (.int j u)) Q E s):
  iL X f (rI C fun i j=> .int (g i j)):=by
 intro pins s σ H x y v u Q I rx ry h;obtain ⟨i,j,rfl,rfl,hc,q⟩:=mI.e2 h;obtain ⟨t,rfl⟩:=rx;obtain ⟨t',rfl⟩:=ry;exact rule i j t t' s _ _ hc ⟨.int (g i j),H,I.tok _,⟨_,rfl⟩,q⟩
theorem Ed {f:Value->Value->Sem Value} {g:Int->Int->Int}
  (rule:∀(i j:Int) (t u:Tok) (s:Shared) (Q:KY) (E:KY),Q (.int (g i j) s.toks) {s with toks:=s.toks+1}->wpAny (model X.prog X.w) X.A (f (.int i t) (.int j u)) Q E s):
  iL X f (BA fun i j=> .int (g i j)):=by
 intro pins s σ H x y v u Q I rx ry h;obtain ⟨i,j,rfl,rfl,q⟩:=mI.e2 h;obtain ⟨t,rfl⟩:=rx;obtain ⟨t',rfl⟩:=ry;exact rule i j t t' s _ _ ⟨.int (g i j),H,I.tok _,⟨_,rfl⟩,q⟩
theorem As {f:Value->Value->Sem Value} {g:Int->Int->Bool}
  (rule:∀(i j:Int) (t u:Tok) (s:Shared) (Q:KY) (E:KY),Q (.bool (g i j)) s->wpAny (model X.prog X.w) X.A (f (.int i t) (.int j u)) Q E s):
  iL X f (BA fun i j=> .bl (g i j)):=by
 intro pins s σ H x y v u Q I rx ry h;obtain ⟨i,j,rfl,rfl,q⟩:=mI.e2 h;obtain ⟨t,rfl⟩:=rx;obtain ⟨t',rfl⟩:=ry;exact rule i j t t' s _ _ ⟨.bl (g i j),H,I,rfl,q⟩
theorem aW:iL X (binaryOp .Add) (BA fun i j=> .int (i+j)):=Ed fun _ _ _ _ _ _ _ q=>add_int q
theorem fR:iL X (binaryOp .Sub) (BA fun i j=> .int (i-j)):=Ed fun _ _ _ _ _ _ _ q=>sub_int q
theorem aR:iL X (binaryOp .Mod) (rI (fun _ j=>j≠0) fun i j=> .int (i.fmod j)):=Gf fun _ _ _ _ _ _ _ hc q=>mod_int' hc q
theorem HQ {f:Value->Sem Value} {g:Int->Int}
  (rule:∀(i:Int) (t:Tok) (s:Shared) (Q:KY) (E:KY),Q (.int (g i) s.toks) {s with toks:=s.toks+1}->wpAny (model X.prog X.w) X.A (f (.int i t)) Q E s):
  GD X f (rU fun i=> .int (g i)):=by
 intro pins s σ H x v Q I rx h;obtain ⟨i,rfl,q⟩:=h;obtain ⟨t,rfl⟩:=rx;exact rule i t s _ _ ⟨.int (g i),H,I.tok _,⟨_,rfl⟩,q⟩
theorem jD:GD X (unaryOp .USub) (rU fun i=> .int (-i)):=HQ fun _ _ _ _ _ q=>neg_int q
end
noncomputable def Ee:V->V->Bool
 | .non,.non=>true| .non,.int _=>true| .int _,.non=>true| .non,.bl _=>true| .bl _,.non=>true| .non,.str _=>true| .str _,.non=>true
 | .int _,.int _=>true| .bl _,.bl _=>true| .str _,.str _=>true| .byt _,.byt _=>true
 | .int _,.str _=>true| .str _,.int _=>true| .bl _,.str _=>true| .str _,.bl _=>true
 |_,_=>false
def HR:R2:=fun x y H Q=>Ee x y=true/\Q (.bl (decide (x=y))) H
def HS:R2:=fun x y H Q=>Ee x y=true/\Q (.bl (!decide (x=y))) H
theorem vn {i j:Int}:decide (V.int i=V.int j)=(i==j):=by
 rw[Jj];simp
theorem yi {i j:Bool}:decide (V.bl i=V.bl j)=(i==j):=by
 rw[Jj];simp
theorem vo {i j:Str}:decide (V.str i=V.str j)=(i==j):=by
 rw[Jj];simp
theorem vv {i j:Array UInt8}:decide (V.byt i=V.byt j)=(i.toList==j.toList):=by
 rw[Jj];cases i;cases j;simp
section
variable {a b c:Expr} {ta tb tc:TE} {pos:Pos}
theorem cr {pins:La} {σ:St} {H:Hp} {s:Shared} {Q:VK} {k k':Bool} (I:aY X pins σ H s) (q:Q (.bl k) H) (e:k=k'):EP X pins σ Q (.bool k') s:=by
 subst e;exact ⟨.bl k,H,I,rfl,q⟩
theorem cu:iL X (compareOp .Eq) HR:=by
 intro pins s σ H x y v u Q I rx ry h;obtain ⟨hs,q⟩:=h;cases x with
 |non=>
  cases rx;cases y with
  |non=>cases ry;exact PySem.EqNone.eq_none_none (cr I q (by simp))
  |bl j=>cases ry;exact PySem.EqNone.eq_none_bool (cr I q (by simp))
  |int j=>obtain ⟨t',rfl⟩:=ry;exact PySem.EqNone.eq_none_int (cr I q (by simp))
  |str j=>obtain ⟨t',rfl⟩:=ry;exact PySem.EqNone.eq_none_str (cr I q (by simp))
  |_=>exact absurd (show false=true from hs) Iy
 |bl i=>
  cases rx;cases y with
  |non=>cases ry;exact PySem.EqNone.eq_bool_none (cr I q (by simp))
  |bl j=>cases ry;exact eq_bool (cr I q yi)
  |str j=>obtain ⟨t',rfl⟩:=ry;exact PySem.EqMixed.eq_bool_str (cr I q (by simp))
  |_=>exact absurd (show false=true from hs) Iy
 |int i=>
  obtain ⟨t,rfl⟩:=rx;cases y with
  |non=>cases ry;exact PySem.EqNone.eq_int_none (cr I q (by simp))
  |int j=>obtain ⟨t',rfl⟩:=ry;exact eq_int (cr I q vn)
  |str j=>obtain ⟨t',rfl⟩:=ry;exact PySem.EqMixed.eq_int_str (cr I q (by simp))
  |_=>exact absurd (show false=true from hs) Iy
 |str i=>
  obtain ⟨t,rfl⟩:=rx;cases y with
  |non=>cases ry;exact PySem.EqNone.eq_str_none (cr I q (by simp))
  |bl j=>cases ry;exact PySem.EqMixed.eq_str_bool (cr I q (by simp))
  |int j=>obtain ⟨t',rfl⟩:=ry;exact PySem.EqMixed.eq_str_int (cr I q (by simp))
  |str j=>obtain ⟨t',rfl⟩:=ry;exact eq_str (cr I q vo)
  |_=>exact absurd (show false=true from hs) Iy
 |byt i=>
  obtain ⟨t,rfl⟩:=rx;cases y with
  |byt j=>obtain ⟨t',rfl⟩:=ry;exact PySem.W.eq_bytes (cr I q vv)
  |_=>exact absurd (show false=true from hs) Iy
 |_=>cases y<;>exact absurd (show false=true from hs) Iy
theorem eZ:iL X (compareOp .NotEq) HS:=by
 intro pins s σ H x y v u Q I rx ry h;obtain ⟨hs,q⟩:=h;cases x with
 |non=>
  cases rx;cases y with
  |non=>cases ry;exact PySem.EqNone.ne_none_none (cr I q (by simp))
  |bl j=>cases ry;exact PySem.EqNone.ne_none_bool (cr I q (by simp))
  |int j=>obtain ⟨t',rfl⟩:=ry;exact PySem.EqNone.ne_none_int (cr I q (by simp))
  |str j=>obtain ⟨t',rfl⟩:=ry;exact PySem.EqNone.ne_none_str (cr I q (by simp))
  |_=>exact absurd (show false=true from hs) Iy
 |bl i=>
  cases rx;cases y with
  |non=>cases ry;exact PySem.EqNone.ne_bool_none (cr I q (by simp))
  |bl j=>cases ry;exact ne_bool (cr I q (congrArg not yi))
  |str j=>obtain ⟨t',rfl⟩:=ry;exact PySem.EqMixed.ne_bool_str (cr I q (by simp))
  |_=>exact absurd (show false=true from hs) Iy
 |int i=>
  obtain ⟨t,rfl⟩:=rx;cases y with
  |non=>cases ry;exact PySem.EqNone.ne_int_none (cr I q (by simp))
  |int j=>obtain ⟨t',rfl⟩:=ry;exact ne_int (cr I q (congrArg not vn))
  |str j=>obtain ⟨t',rfl⟩:=ry;exact PySem.EqMixed.ne_int_str (cr I q (by simp))
  |_=>exact absurd (show false=true from hs) Iy
 |str i=>
  obtain ⟨t,rfl⟩:=rx;cases y with
  |non=>cases ry;exact PySem.EqNone.ne_str_none (cr I q (by simp))
  |bl j=>cases ry;exact PySem.EqMixed.ne_str_bool (cr I q (by simp))
  |int j=>obtain ⟨t',rfl⟩:=ry;exact PySem.EqMixed.ne_str_int (cr I q (by simp))
  |str j=>obtain ⟨t',rfl⟩:=ry;exact ne_str (cr I q (congrArg not vo))
  |_=>exact absurd (show false=true from hs) Iy
 |byt i=>
  obtain ⟨t,rfl⟩:=rx;cases y with
  |byt j=>obtain ⟨t',rfl⟩:=ry;exact PySem.W.ne_bytes (cr I q (congrArg not vv))
  |_=>exact absurd (show false=true from hs) Iy
 |_=>cases y<;>exact absurd (show false=true from hs) Iy
theorem dS:iL X (compareOp .Lt) (BA fun i j=> .bl (decide (i<j))):=As fun _ _ _ _ _ _ _ q=>lt_int q
theorem dA:iL X (compareOp .LtE) (BA fun i j=> .bl (decide (i<=j))):=As fun _ _ _ _ _ _ _ q=>le_int q
theorem gS:iL X (compareOp .Gt) (BA fun i j=> .bl (decide (j<i))):=As fun _ _ _ _ _ _ _ q=>gt_int q
theorem yj:iL X (compareOp .GtE) (BA fun i j=> .bl (decide (j<=i))):=As fun _ _ _ _ _ _ _ q=>ge_int q
theorem gK:iL X (compareOp .Is) (fun x y H Q=>y= .non/\Q (.bl (decide (x= .non))) H):=by
 intro pins s σ H x y v u Q I rx ry h;obtain ⟨rfl,q⟩:=h;cases ry;refine is_none_gen (cr I q ?_);cases x<;>first
  |(cases rx;rfl)
  |(obtain ⟨t,rfl⟩:=rx;rfl)
theorem gD:iL X (compareOp .IsNot) (fun x y H Q=>y= .non/\Q (.bl (!decide (x= .non))) H):=by
 intro pins s σ H x y v u Q I rx ry h;obtain ⟨rfl,q⟩:=h;cases ry;refine isnot_none_gen (cr I q ?_);cases x<;>first
  |(cases rx;rfl)
  |(obtain ⟨t,rfl⟩:=rx;rfl)
theorem aF (b:Expr) {op:CmpOp} (h:op≠ .In:=by decide) (h2:op≠ .NotIn:=by decide):behindInMarks op b=false:=by
 have e1:(op==CmpOp.In)=false:=by cases op<;>first|rfl|exact absurd rfl h
 have e2:(op==CmpOp.NotIn)=false:=by cases op<;>first|rfl|exact absurd rfl h2
 cases b<;>simp[behindInMarks,e1,e2]
theorem dP {op:CmpOp} {r:R2} (ho:iL X (compareOp op) r) (ha:PE X a ta) (hb:PE X b tb) (hm:behindInMarks op b=false):PE X (.Compare a [op] [b] pos) (Ge r ta tb):=by
 intro pins s σ H Q I h;exact wpAny_Compare1 (BW ha hb I h fun v u s2 x y H2 I2 rx ry q=>ho pins s2 σ H2 x y v u Q I2 rx ry q) hm
def yk (t:TE):TT:=fun σ H Q=>t σ H fun x H'=>mB x fun k=>Q k H'
theorem au {op:CmpOp} {r:R2} (ho:iL X (compareOp op) r) (ha:PE X a ta) (hb:PE X b tb) (hm:behindInMarks op b=false):PT X (.Compare a [op] [b] pos) (yk (Ge r ta tb)):=by
 intro pins s σ H Q I h;refine wpAny_isTrue_Compare1 (cx (ha pins s σ H _ I h) fun v s1 ⟨x,H1,I1,r1,q1⟩=>cx (hb pins s1 σ H1 _ I1 q1) fun u s2 ⟨y,H2,I2,r2,q2⟩=>
  cx (ho pins s2 σ H2 x y v u _ I2 r1 r2 q2) fun c s3 ⟨z,H3,I3,r3,q3⟩=>?_) hm
 obtain ⟨k,e,q3⟩:=mB.e q3;subst e;cases r3;exact wpAny_truthy_bool ⟨H3,I3,q3⟩
def ym (r r':R2) (ta tb tc:TE):TE:=fun σ H Q=>ta σ H fun x H1=>tb σ H1 fun y H2=>r x y H2 fun z H3=>mB z fun k=>
 (if k=true then tc σ H3 fun w' H4=>r' y w' H4 Q else Q (.bl false) H3)
theorem yn {op op':CmpOp} {r r':R2} (ho:iL X (compareOp op) r) (ho':iL X (compareOp op') r') (ha:PE X a ta) (hb:PE X b tb) (hc:PE X c tc)
  (hm:lastMarks [op,op'] [b,c]=false:=by with_unfolding_all rfl):PE X (.Compare a [op,op'] [b,c] pos) (ym r r' ta tb tc):=by
 intro pins s σ H Q I h;refine Compare_chain (cx (ha pins s σ H _ I h) fun v s1 ⟨x,H1,I1,r1,q1⟩=>chain_link (cx (hb pins s1 σ H1 _ I1 q1) fun u s2 ⟨y,H2,I2,r2,q2⟩=>
  cx (ho pins s2 σ H2 x y v u _ I2 r1 r2 q2) fun d s3 ⟨z,H3,I3,r3,q3⟩=>?_)) hm
 obtain ⟨k,e,q3⟩:=mB.e q3;subst e;cases r3;refine wpAny_truthy_bool ?_;cases k with
 |false=>exact ite_ff ⟨.bl false,H3,I3,rfl,q3⟩
 |true=>exact ite_tt (chain_last (cx (hc pins s3 σ H3 _ I3 q3) fun w' s4 ⟨z',H4,I4,r4,q4⟩=>ho' pins s4 σ H4 y z' u w' Q I4 r2 r4 q4))
theorem cX {op op':CmpOp} {r r':R2} (ho:iL X (compareOp op) r) (ho':iL X (compareOp op') r') (ha:PE X a ta) (hb:PE X b tb) (hc:PE X c tc)
  (hm:lastMarks [op,op'] [b,c]=false:=by with_unfolding_all rfl):PT X (.Compare a [op,op'] [b,c] pos) (yk (ym r r' ta tb tc)):=by
 intro pins s σ H Q I h;refine isTrue_chain (cx (ha pins s σ H _ I h) fun v s1 ⟨x,H1,I1,r1,q1⟩=>test_link (cx (hb pins s1 σ H1 _ I1 q1) fun u s2 ⟨y,H2,I2,r2,q2⟩=>
  cx (ho pins s2 σ H2 x y v u _ I2 r1 r2 q2) fun d s3 ⟨z,H3,I3,r3,q3⟩=>?_)) hm
 obtain ⟨k,e,q3⟩:=mB.e q3;subst e;cases r3;refine wpAny_truthy_bool ?_;cases k with
 |false=>
  obtain ⟨k',e',q'⟩:=mB.e q3;cases e';exact ite_ff ⟨H3,I3,q'⟩
 |true=>
  refine ite_tt (test_last (cx (hc pins s3 σ H3 _ I3 q3) fun w' s4 ⟨z',H4,I4,r4,q4⟩=>cx (ho' pins s4 σ H4 y z' u w' _ I4 r2 r4 q4) fun d' s5 ⟨z2,H5,I5,r5,q5⟩=>?_))
  obtain ⟨k2,e2,q5⟩:=mB.e q5;subst e2;cases r5;exact wpAny_truthy_bool ⟨H5,I5,q5⟩
theorem km:(sizeLine:Nat)<2^63:=by rw[sizeLine_eq];decide
theorem iq:iL X (binaryOp .Add) (fun x y H Q=>∃i j,x= .str i/\y= .str j/\i.length+j.length<=sizeLine/\Q (.str (i++j)) H):=by
 intro pins s σ H x y v u Q I rx ry h;obtain ⟨i,j,rfl,rfl,hz,q⟩:=h;obtain ⟨t,rfl⟩:=rx;obtain ⟨t',rfl⟩:=ry;exact add_str (fun t' tk=>⟨.str (i++j),H,I.tok _,⟨_,rfl⟩,q⟩) hz
theorem vals1 {x:V} {us:Ld} (r:bN [x] us):∃u,us= [u]/\RelV x u:=by
 cases r with
 |cons r1 r2=>cases r2;exact ⟨_,rfl,r1⟩
theorem vals2 {x y:V} {us:Ld} (r:bN [x,y] us):∃u w',us= [u,w']/\RelV x u/\RelV y w':=by
 cases r with
 |cons r1 r2=>
  cases r2 with
  |cons r3 r4=>cases r4;exact ⟨_,_,rfl,r1,r3⟩
theorem yo:eY X (.builtin "abs") (fun xs H Q=>∃i,xs= [.int i]/\Q (.int (if i<0 then-i else i)) H):=by
 intro pins s σ H xs us Q I r h;obtain ⟨i,rfl,q⟩:=h;obtain ⟨u,rfl,t,rfl⟩:=vals1 r;exact call_abs_int fun u tk=>⟨.int (if i<0 then-i else i),H,I.tok _,⟨_,rfl⟩,q⟩
theorem i8 (hc:X.calm=true):eY X (.builtin "max") (fun xs H Q=>∃i j,xs= [.int i,.int j]/\Q (.int (if j>i then j else i)) H):=by
 intro pins s σ H xs us Q I r h;obtain ⟨i,j,rfl,q⟩:=h;obtain ⟨u,w',rfl,⟨t,rfl⟩,⟨t',rfl⟩⟩:=vals2 r;refine max_two_ints (I.ok.hd hc) fun h' tk k=>⟨_,H,I.kept k,?_,q⟩
 by_cases hj:j>i
 ·rw[if_pos hj,if_pos hj];exact ⟨_,rfl⟩
 ·rw[if_neg hj,if_neg hj];exact ⟨_,rfl⟩
theorem wT (hc:X.calm=true):eY X (.builtin "min") (fun xs H Q=>∃i j,xs= [.int i,.int j]/\Q (.int (if j<i then j else i)) H):=by
 intro pins s σ H xs us Q I r h;obtain ⟨i,j,rfl,q⟩:=h;obtain ⟨u,w',rfl,⟨t,rfl⟩,⟨t',rfl⟩⟩:=vals2 r;refine min_two_ints (I.ok.hd hc) fun h' tk k=>⟨_,H,I.kept k,?_,q⟩
 by_cases hj:j<i
 ·rw[if_pos hj,if_pos hj];exact ⟨_,rfl⟩
 ·rw[if_neg hj,if_neg hj];exact ⟨_,rfl⟩
end
structure wU (h:Heap) (x dx C:Addr) (mA:KZ):Prop where
 obj:h.get? x=some (Jv C dx)
 ns:h.Ns1 dx mA
 ne:dx≠x
theorem wV {h:Heap} {dx:Addr} {mA:KZ} (n:h.Ns1 dx mA):∃od,h.get? dx=some od/\∀name,PySem.W.lookIn name od=some (mA name):=by
 obtain ⟨o,es,ep,ho,hd,hk,_,hm⟩:=n;refine ⟨o,ho,fun name=>?_⟩
 have e:=hm name;unfold nsFind findBy at e;rw[<-Array.find?_toList] at e;unfold PySem.W.lookIn;rw[hd];dsimp only
 split
 ·rename_i y q;rw[q] at e;exact congrArg some e
 ·rename_i q;rw[q] at e;have a:es.toList.any (·.refKey)=false:=by
   rw[List.any_eq_false];intro y hy;obtain ⟨z,t,hkey⟩:=hk y (Array.mem_toList_iff.mp hy);simp[DictEntry.refKey,hkey]
  have a':¬es.toList.any (·.refKey)=true:=by rw[a];exact Iy
  rw[if_neg a'];exact congrArg some e
theorem wU.look {h:Heap} {x dx C:Addr} {mA:KZ} (I:wU h x dx C mA):∃od,PySem.W.InstAt h x (Jv C dx) C (some od)/\∀name,PySem.W.lookIn name od=some (mA name):=
 let ⟨od,ho,hl⟩:=wV I.ns
 ⟨od,⟨I.obj,rfl,rfl,ho⟩,hl⟩
section
variable {prog:Program} {w:World} {A:Around} {K:IE} {x dx C f:Addr} {mA:KZ} {name:Str} {v:Value}
theorem At {expr:Bool} {Q:KY} (X:K.In s.heap) (I:wU s.heap x dx C mA) (hg:PySem.W.plainGet K C name=true) (hh:PySem.W.hasDictIn K C=true)
  (ha:Js K (.ref C) name=some none) (hv:mA name=some v) (hv':PySem.W.handedIn v=true) (h:Q v {s with toks:=s.toks+1}):
  wpAny (model prog w) A (getAttr (.ref x) name expr) Q E s:=by
 obtain ⟨od,J,hl⟩:=I.look;exact PySem.W.get_value X J (PySem.W.plainGet_of hg).1 (PySem.W.findObj_own hh ha rfl (by rw[hl,hv])) hv' h
theorem Au {ns:Lb} {Q:Unit->Shared->Prop} (X:K.In s.heap) (I:wU s.heap x dx C mA)
  (hs:Js K (.ref C) "__setattr__" =some (some (.builtin "object.__setattr__"))) (hp:PySem.W.plainOver K C=true) (ht:PySem.W.takerIn K C name=some none) (hh:PySem.W.hasDictIn K C=true)
  (hw:PySem.Within mA ns) (hsz:ns.length<=sizeLine)
  (h:∀h',wU h' x dx C (fun y=>if y=name then some v else mA y)->Heap.SameBut dx s.heap h'->Q () {s with heap:=h',toks:=s.toks+2}):
  wpAny (model prog w) A (setAttr (.ref x) name v) Q E s:=by
 obtain ⟨od,J,hl⟩:=I.look;refine PySem.W.set_plain X J hs (PySem.W.osa_open (s:={s with toks:=s.toks+1}) (r:=none) X J hp ht fun b=>?_)
 obtain ⟨cd,hc,hd'⟩:=PySem.W.any_some hh;have hx:s.heap.get? x=some ⟨.ref C,some dx,.plain,#[]⟩:=I.obj;refine wpAny_bind (wpAny_pure (wpAny_bind (wpAny_bind (wpAny_loadPart hx (wpAny_bind (PySem.W.Looks.here (s:={s with toks:=s.toks+1}) (PySem.W.looks_clsIn X hc) ?_))))))
 rw[hd'];refine wpAny_pure (a:=some dx) (wpAny_bind (wpAny_pure (wpAny_bind ?_)));refine wpAny_nsSet1 (s:={s with toks:=s.toks+1}) I.ns fun h' hn2 hs2=>?_
 obtain ⟨oD,esD,epD,hoD,hdD,hcD⟩:=hn2.count (PySem.Within.cons name v hw);refine wpAny_bind (wpAny_lookBehind hoD (by rw[hdD];exact pastItsLine_dict (J8 hcD (by rw[Iu];lia))) ?_)
 exact wpAny_pure (h _ ⟨(hs2.2 _ (Ne.symm I.ne)).trans I.obj,hn2,I.ne⟩ hs2)
theorem yq {R:Result->Shared->Prop} {vs:Ld} {kw:List (Str×Value)} (X:K.In s.heap) (hm:PySem.W.makesIn K C=true)
  (hi:Js K (.ref C) "__init__" =some (some (.ref f))) (hf:PySem.W.typeIn K (.ref f)=some (.type "function"))
  (h:codeAny (model prog w) (A.under (.builtin "type.__call__" ⟨.ref C::vs,kw⟩)) (.call (.ref f) ⟨.ref (s.heap.objs.size+1)::vs,kw⟩) (PySem.W.InitBack (s.heap.objs.size+1) R)
   {s with heap:=(s.heap.push Jk).push (Jv C s.heap.objs.size)}):
  codeAny (model prog w) A (.call (.ref C) ⟨vs,kw⟩) R s:=by
 obtain ⟨hh,g,d,t,os⟩:=s;exact PySem.W.make_core (PySem.W.makes_of X hm) (PySem.W.looks_findIn X hi) (fun self=>PySem.W.bind_fn X self hf) (.inl rfl) h
end
noncomputable def bK (f:Str) (v:V):List (Str×V)->List (Str×V)
 | []=> [(f,v)]
 |(g,x)::r=>if g=f then (g,v)::r else (g,x)::bK f v r
theorem bL (f g:Str) (v:V):∀fs:List (Str×V),(bK f v fs).lookup g=if g=f then some v else fs.lookup g
 | []=>by
  show List.lookup g [(f,v)]=_
  by_cases h:g=f
  ·have hb:(g==f)=true:=beq_iff_eq.mpr h;simp only[List.lookup,hb,if_pos h]
  ·have hb:(g==f)=false:=beq_eq_false_iff_ne.mpr h;simp only[List.lookup,hb,if_neg h]
 |(k,x)::r=>by
  have ih:=bL f g v r;rw[show bK f v ((k,x)::r)=(if k=f then (k,v)::r else (k,x)::bK f v r) from rfl]
  by_cases hk:k=f
  ·rw[if_pos hk]
   by_cases h:g=k
   ·have hb:(g==k)=true:=beq_iff_eq.mpr h;simp only[List.lookup,hb,if_pos (h.trans hk)]
   ·have hb:(g==k)=false:=beq_eq_false_iff_ne.mpr h;simp only[List.lookup,hb,if_neg (fun e:g=f=>h (e.trans hk.symm))]
  ·rw[if_neg hk]
   by_cases h:g=k
   ·have hb:(g==k)=true:=beq_iff_eq.mpr h;simp only[List.lookup,hb,if_neg (fun e:g=f=>hk (h.symm.trans e))]
   ·have hb:(g==k)=false:=beq_eq_false_iff_ne.mpr h;simp only[List.lookup,hb];exact ih
theorem kn (f:Str) (v:V):∀fs:List (Str×V),f∈(bK f v fs).map (·.1)/\∀g,g∈fs.map (·.1)->g∈(bK f v fs).map (·.1)
 | []=>⟨by simp[bK],fun g h=>by simp at h⟩
 |(k,x)::r=>by
  obtain ⟨i1,i2⟩:=kn f v r;rw[show bK f v ((k,x)::r)=(if k=f then (k,v)::r else (k,x)::bK f v r) from rfl]
  by_cases hk:k=f
  ·rw[if_pos hk];subst hk;exact ⟨by simp,fun g h=>by simpa using h⟩
  ·rw[if_neg hk];refine ⟨?_,fun g h=>?_⟩
   ·rw[J1];exact IX _ i1
   ·rw[J1] at h⊢;rcases IK.mp h with e|e
    ·exact IK.mpr (.inl e)
    ·exact IX _ (i2 g e)
theorem bX (f:Str) (v:V):∀fs:List (Str×V),(bK f v fs).length<=fs.length+1
 | []=>by simp[bK]
 |(k,x)::r=>by
  have ih:=bX f v r;rw[show bK f v ((k,x)::r)=(if k=f then (k,v)::r else (k,x)::bK f v r) from rfl]
  by_cases hk:k=f
  ·rw[if_pos hk,Iu,Iu];lia
  ·rw[if_neg hk,Iu,Iu];lia
theorem jC.some_of {v:V} {o:Lg} (r:jC (some v) o):∃u,o=some u/\RelV v u:=by
 cases o with
 |none=>exact (show False from r).elim
 |some u=>exact ⟨u,rfl,r⟩
theorem wW {v:V} {u:Value} (r:RelV v u):PySem.W.handedIn u=true:=by
 cases v with
 |non=>cases (show u=Value.none from r);rfl
 |bl b=>cases (show u=Value.bool b from r);rfl
 |int i=>obtain ⟨t,e⟩:=(show ∃t,u=Value.int i t from r);cases e;rfl
 |str x=>obtain ⟨t,e⟩:=(show ∃t,u=Value.str x t from r);cases e;rfl
 |byt b=>obtain ⟨t,e⟩:=(show ∃t,u=Value.bytes b t from r);cases e;rfl
 |flt b=>obtain ⟨t,e⟩:=(show ∃t,u=Value.float b t from r);cases e;rfl
 |ref a=>cases (show u=Value.ref a from r);rfl
 |ty n=>cases (show u=Value.type n from r);rfl
section
variable {P:Program} {w:World} {h:Heap} {C dx:Addr} {fs fs':List (Str×V)}
theorem qm (hok:jv P w H h) (e:H a=some (.ins C dx fs)):∃mA,wU h a dx C mA/\(∀f,jC (fs.lookup f) (mA f))/\PySem.Within mA (fs.map (·.1))/\fs.length<=1000/\H dx=some (.own a):=by
 obtain ⟨d,z,ne,ob,mA,n,r,q⟩:=(show cR P w H h a (.ins C dx fs) from hok a _ e)
 exact ⟨mA,⟨ob,n,ne⟩,r,q,z,d⟩
end
structure Av (K:IE) (C:Addr):Prop where
 pg:PySem.W.plainGet K C Str.empty=true
 hd:PySem.W.hasDictIn K C=true
 po:PySem.W.plainOver K C=true
 sa:Js K (.ref C) "__setattr__" =some (some (.builtin "object.__setattr__"))
theorem Av.get {K:IE} {C:Addr} (c:Av K C) (f:Str):PySem.W.plainGet K C f=true:=c.pg
def dq (K:IE) (C:Addr) (f:Str):Prop:=Js K (.ref C) f=some none
theorem dq.taker {K:IE} {C:Addr} {f:Str} (n:dq K C f):PySem.W.takerIn K C f=some none:=by
 unfold PySem.W.takerIn;rw[show Js K (.ref C) f=some none from n]
 rfl
section
variable {C dx:Addr} {fs:List (Str×V)} {f:Str} {v:V} {A:Around}
theorem uf {b:Bool} {Q:KY} (I:aY X pins σ H s) (e:H a=some (.ins C dx fs)) (c:Av X.K C) (n:dq X.K C f) (l:fs.lookup f=some v)
  (h:∀u s',aY X pins σ H s'->RelV v u->Q u s'):wpAny (model X.prog X.w) A (getAttr (.ref a) f b) Q E s:=by
 obtain ⟨mA,O,r,_,_,_⟩:=qm I.hok e;obtain ⟨u,hu,ru⟩:=jC.some_of (v:=v) (o:=mA f) (by rw[<-l];exact r f)
 exact At I.kIn O (c.get f) c.hd n hu (wW ru) (h u _ (I.tok _) ru)
theorem ug {y:V} {u:Value} {Q:Unit->Shared->Prop} (I:aY X pins σ H s) (e:H a=some (.ins C dx fs)) (c:Av X.K C) (n:dq X.K C f) (hl:fs.length<1000) (ry:RelV y u)
  (h:∀s',aY X pins σ (aK H a (.ins C dx (bK f y fs))) s'->Q () s'):wpAny (model X.prog X.w) A (setAttr (.ref a) f u) Q E s:=by
 obtain ⟨mA,O,r,wi,_,ho⟩:=qm I.hok e;have hz:(fs.map (·.1)).length<=sizeLine:=by rw[I0,sizeLine_eq];lia
 refine Au I.kIn O c.sa c.po n.taker c.hd wi hz fun h' O' sb=>h _ ?_
 have hd:∃o,h'.get? dx=some o:=let ⟨o,_,_,e',_⟩:=O'.ns;⟨o,e'⟩;refine I.write (x:=a) (e:=dx) (by rw[e];exact True.intro) (.inr ho) (fun b q hb z=>(sb.2 b hb).trans z) hd ?_
 refine ⟨by rw[aQ O.ne];exact ho,?_,O.ne,O'.obj,_,O'.ns,fun g=>?_,fun g hg=>?_⟩
 ·have:=bX f y fs;lia
 ·show jC ((bK f y fs).lookup g) (if g=f then some u else mA g)
  rw[bL]
  by_cases q:g=f
  ·rw[if_pos q,if_pos q];exact ry
  ·rw[if_neg q,if_neg q];exact r g
 ·by_cases q:g=f
  ·rw[q];exact (kn f y fs).1
  ·refine (kn f y fs).2 g (wi g fun z=>hg ?_)
   show (if g=f then some u else mA g)=none
   rw[if_neg q];exact z
theorem aY.made (I:aY X pins σ H s):aY X pins σ (aK (aK H s.heap.objs.size (.own (s.heap.objs.size+1))) (s.heap.objs.size+1) (.ins C s.heap.objs.size []))
  {s with heap:=(s.heap.push Jk).push (Jv C s.heap.objs.size)}:=by
 have e1:(s.heap.push Jk).get? s.heap.objs.size=some Jk:=Heap.get?_push_size s.heap rfl;have e2:((s.heap.push Jk).push (Jv C s.heap.objs.size)).get? (s.heap.objs.size+1)=some (Jv C s.heap.objs.size):=by
  have:=Heap.get?_push_size (s.heap.push Jk) (o:=Jv C s.heap.objs.size) rfl
  rwa [Heap.size_push] at this
 have e3:(s.heap.push Jk).Ns s.heap.objs.size (fun _=>none):=⟨Jk,#[],_,e1,rfl,(fun e he=>absurd he (by simp)),fun _=>rfl⟩
 have I1:=I.laid (a:=s.heap.objs.size) (o:= .own (s.heap.objs.size+1)) (h':=s.heap.push Jk) (t':=s.toks) (fun b u q=>Heap.get?_push_of_some _ q) (IH _) ⟨_,e1⟩
 refine I1.laid (a:=s.heap.objs.size+1) (o:= .ins C s.heap.objs.size []) (t':=s.toks) (fun b u q=>Heap.get?_push_of_some _ q) (Nat.le_of_eq (Heap.size_push _ _)) ?_
 have ne:s.heap.objs.size≠s.heap.objs.size+1:=IQ (Nat.lt_succ_self _);refine ⟨by rw[aQ ne,ag],JC _,ne,e2,fun _=>none,(Heap.Ns1.of_empty e3).at fun o q=>Heap.get?_push_of_some _ q,fun _=>True.intro,fun y hy=>absurd rfl hy⟩
theorem Aw {prog:Program} {w:World} {env:Env} {e:Expr} {f:Str} {pos:Pos} {s:Shared} {Q:KY} (hb:attributeBase e f env (eval e env)=eval e env)
  (h:wpAny (model prog w) A (eval e env) (fun o s₁=>wpAny (model prog w) A (getAttr o f true) Q E s₁) E s):wpAny (model prog w) A (eval (.Attribute e f pos) env) Q E s:=
 Attribute_any_ h (by rw[arm_eval_Attribute,hb])
end
def GE (K:IE) (ta:TE) (f:Str):TE:=fun σ H Q=>ta σ H fun x H1=>∃a C dx fs v,x= .ref a/\H1 a=some (.ins C dx fs)/\Av K C/\dq K C f/\fs.lookup f=some v/\Q v H1
def GF (K:IE) (ta tv:TE) (f:Str):TS:=fun D σ H=>tv σ H fun y H1=>ta σ H1 fun x H2=>∃a C dx fs,x= .ref a/\H2 a=some (.ins C dx fs)/\Av K C/\dq K C f/\fs.length<1000/\
 D.nx σ (aK H2 a (.ins C dx (bK f y fs)))
section
variable {o e value:Expr} {f:Str} {pos pos' tpos:Pos} {ta tv:TE}
theorem cz (he:PE X e ta) (hb:attributeBase e f X.env (eval e X.env)=eval e X.env):PE X (.Attribute e f pos) (GE X.K ta f):=by
 intro pins s σ H Q I h;refine Aw hb (cx (he pins s σ H _ I h) fun u s1 ⟨x,H1,I1,rx,a,C,dx,fs,v,ex,ea,c,n,l,q⟩=>?_)
 subst ex;obtain rfl:u=Value.ref a:=rx;exact uf I1 ea c n l fun u' s2 I2 ru=>⟨v,H1,I2,ru,q⟩
theorem mN (ha:PE X o ta) (hv:PE X value tv) (hs:swapsWith value (some (.Attribute o f pos')) pos.line X.env=pure false):PS X (.Assign [.Attribute o f pos'] value pos) (GF X.K ta tv f):=by
 intro pins s σ H D I h;refine plainObj_wpAny_Assign_Attribute (cx (hv pins s σ H _ I h) fun u s1 ⟨y,H1,I1,ry,q⟩=>cx (ha pins s1 σ H1 _ I1 q) fun ov s2 ⟨x,H2,I2,rx,a,C,dx,fs,ex,ea,c,n,l,q2⟩=>?_) hs
 subst ex;obtain rfl:ov=Value.ref a:=rx;exact ug I2 ea c n l ry fun s3 I3=>⟨σ,_,I3,q2⟩
end
section
variable {A:Around} {Q:KY} {c:Value} {b:Bool}
inductive jO (K:IE) (H:Hp):V->Value->Prop where
 |non:jO K H .non (.type "NoneType")
 |bl (x:Bool):jO K H (.bl x) (.type "bool")
 |int (i:Int):jO K H (.int i) (.type "int")
 |str (x:Str):jO K H (.str x) (.type "str")
 |flt (x:UInt64):jO K H (.flt x) (.type "float")
 |lst {a:Addr} {xs:List V} (e:H a=some (.lst xs)):jO K H (.ref a) (.type "list")
 |frz {a:Addr} {o:Obj} {xs:List V} (e:H a=some (.frz o (.lst xs))):jO K H (.ref a) (.type "list")
 |tup {a:Addr} {xs:List V} (e:H a=some (.tup xs)):jO K H (.ref a) (.type "tuple")
 |dK {a:Addr} {kvs:List (Key×V)} (e:H a=some (.dK kvs)):jO K H (.ref a) (.type "dict")
 |dT {a:Addr} {kvs:List (List Key×V)} (e:H a=some (.dT kvs)):jO K H (.ref a) (.type "dict")
 |ins {a C dx:Addr} {fs:List (Str×V)} (e:H a=some (.ins C dx fs)) (cl:Av K C) (ha:Js K (.ref C) "__class__" =some (some (.builtin "object.__class__")))
   (hn:PySem.W.specialIn K (.builtin "object.__class__") "__get__" =some (some (.builtin "getset_descriptor.__get__"))) (htk:PySem.W.takesIn K (.builtin "object.__class__")=some true)
   (hm:PySem.W.mroIn K C (.type "object")=some true):jO K H (.ref a) (.ref C)
theorem wX {x:V} {u t:Value} (I:aY X pins σ H s) (rx:RelV x u) (ty:jO X.K H x t) (e:PySem.W.kitOne X.K t c=some b) (h:∀tk,Q (.bool b) {s with toks:=tk}):
  wpAny (model X.prog X.w) A (call (.builtin "isinstance") [u,c]) Q E s:=by
 cases ty with
 |non=>cases (show u=Value.none from rx);exact Jf PySem.W.kitx_none I.kIn True.intro e (fun z=>nomatch z) h
 |bl y=>cases (show u=Value.bool y from rx);exact Jf PySem.W.kitx_bool I.kIn True.intro e (fun z=>nomatch z) h
 |int i=>obtain ⟨t,q⟩:=(show ∃t,u=Value.int i t from rx);cases q;exact Jf PySem.W.kitx_int I.kIn True.intro e (fun z=>nomatch z) h
 |str y=>obtain ⟨t,q⟩:=(show ∃t,u=Value.str y t from rx);cases q;exact Jf PySem.W.kitx_str I.kIn True.intro e (fun z=>nomatch z) h
 |flt y=>obtain ⟨t,q⟩:=(show ∃t,u=Value.float y t from rx);cases q;exact Jf PySem.W.kitx_float I.kIn True.intro e (fun z=>nomatch z) h
 | @lst a xs ea=>
  cases (show u=Value.ref a from rx)
  obtain ⟨_,_,n,_,h1⟩:=(show cR X.prog X.w H s.heap a (.lst xs) from I.hok a _ ea)
  exact Jf PySem.W.kitx_list I.kIn ⟨_,h1,rfl⟩ e (fun z=>nomatch z) h
 | @frz a ob xs ea=>
  cases (show u=Value.ref a from rx)
  obtain ⟨_,_,_,n,_,h1⟩:=(show cR X.prog X.w H s.heap a (.frz ob (.lst xs)) from I.hok a _ ea)
  exact Jf PySem.W.kitx_list I.kIn ⟨_,h1,rfl⟩ e (fun z=>nomatch z) h
 | @tup a xs ea=>
  cases (show u=Value.ref a from rx)
  obtain ⟨_,_,_,p⟩:=(show cR X.prog X.w H s.heap a (.tup xs) from I.hok a _ ea)
  obtain ⟨o,h1,h2,_⟩:=p;exact Jf PySem.W.kitx_tuple I.kIn ⟨o,h1,h2⟩ e (fun z=>nomatch z) h
 | @dK a kvs ea=>
  cases (show u=Value.ref a from rx)
  obtain ⟨_,_,vs,_,p⟩:=(show cR X.prog X.w H s.heap a (.dK kvs) from I.hok a _ ea)
  obtain ⟨o,es,ep,h1,h2,_⟩:=p;exact Jf PySem.W.kitx_dict I.kIn ⟨o,h1,h2.1⟩ e (fun z=>nomatch z) h
 | @dT a kvs ea=>
  cases (show u=Value.ref a from rx)
  obtain ⟨_,_,xs,_,o,es,ep,h1,h2,_⟩:=(show cR X.prog X.w H s.heap a (.dT kvs) from I.hok a _ ea)
  exact Jf PySem.W.kitx_dict I.kIn ⟨o,h1,h2.1⟩ e (fun z=>nomatch z) h
 | @ins a C dx fs ea cl ha hn htk hm=>
  cases (show u=Value.ref a from rx)
  obtain ⟨mA,O,_⟩:=qm I.hok ea;obtain ⟨od,J,_⟩:=O.look;exact Jf (PySem.W.kitx_own (cl.get _) cl.hd ha hn htk hm) I.kIn J e (fun z=>nomatch z) h
end
structure fo (k:Nat) (A:Around):Prop where
 hd:A.handled=none
 dp:A.depth+3*k+5<recursionLimit
 un:A.units+16*k+200<cLine
theorem fo.mono {j k:Nat} {A:Around} (r:fo k A) (h:j<=k):fo j A:=⟨r.hd,by have:=r.dp;lia,by have:=r.un;lia⟩
theorem fo.deeper {k:Nat} {A:Around} (r:fo (k+1) A) (env:Env):fo k (A.deeper env):=
 ⟨r.hd,by have:=r.dp;show A.depth+1+3*k+5<_;lia,by have:=r.un;show A.units+3+16*k+200<_;lia⟩
theorem uh {A:Around} {C:Addr} {us:Ld} {kw:List (Str×Value)}:(A.under (.builtin "type.__call__" ⟨.ref C::us,kw⟩)).depth=A.depth+1:=by
 first|rfl|simp[Around.under,Code.weight,Code.isCreation,Code.isGuard,Code.isCaller,Code.frames,Code.isFrame,guardIds]
theorem ui {A:Around} {C:Addr} {us:Ld} {kw:List (Str×Value)}:(A.under (.builtin "type.__call__" ⟨.ref C::us,kw⟩)).units=A.units+1:=by
 first|rfl|simp[Around.under,Code.cUnits,Code.frames,Code.isFrame]
theorem fo.make {k:Nat} {A:Around} (r:fo (k+1) A) (C:Addr) (us:Ld) (kw:List (Str×Value)):fo k (A.under (.builtin "type.__call__" ⟨.ref C::us,kw⟩)):=
 ⟨r.hd,by have:=r.dp;rw[uh];lia,by have:=r.un;rw[ui];lia⟩
theorem fo.depth {k:Nat} {A:Around} (r:fo k A):A.depth<recursionLimit:=by have:=r.dp;lia
theorem fo.units {k:Nat} {A:Around} (r:fo k A):A.units+64<cLine:=by have:=r.un;lia
theorem fo.units0 {k:Nat} {A:Around} (r:fo k A):A.units<cLine:=by have:=r.un;lia
def GG:TA:=fun _ H Q=>Q [] H
def Ef (ta:TE) (tr:TA):TA:=fun σ H Q=>ta σ H fun x H1=>tr σ H1 fun xs H2=>Q (x::xs) H2
section
variable {e:Expr} {es:List Expr} {te:TE} {t:TA} {pos:Pos}
theorem ac:PA X [] GG:=fun _ _ _ _ H Q I h=>Calls.spliced_nil ⟨[],H,I,.nil,h⟩
theorem aa (ha:PE X e te) (hr:PA X es t) (hs:starEach (e::es) X.env=(false,eval e X.env)::starEach es X.env:=by rfl):PA X (e::es) (Ef te t):=by
 intro pos pins s σ H Q I h;rw[hs];show wpAny _ _ (spliced ((false,eval e X.env)::backTo pos (starEach es X.env))) _ _ s;refine Calls.spliced_cons (cx (ha pins s σ H _ I h) fun u s1 ⟨x,H1,I1,r1,q1⟩=>?_)
 exact cx (hr pos pins s1 σ H1 _ I1 q1) fun us s2 ⟨xs,H2,I2,r2,q2⟩=>⟨x::xs,H2,I2,.cons r1 r2,q2⟩
def GH (t:TA):TE:=fun σ H Q=>t σ H fun xs H1=>xs.length<=sizeLine/\∀p,H1 p=none->Q (.ref p) (aK H1 p (.tup xs))
def GI (t:TA):TE:=fun σ H Q=>t σ H fun xs H1=>xs.length<=sizeLine/\∀p,H1 p=none->Q (.ref p) (aK H1 p (.lst xs))
theorem bc {x1} (h:PA X es t):PE X (.Tuple es x1 pos) (GH t):=by
 intro pins s σ H Q I hq;refine wpAny_Tuple_spliced (cx (h pos pins s σ H _ I hq) fun us s1 ⟨xs,H1,I1,r,z,q⟩=>⟨by rw[<-r.length];exact z,?_⟩)
 have hf:H1 s1.heap.objs.size=none:=I1.hok.fresh (IH _);refine ⟨.ref s1.heap.objs.size,aK H1 s1.heap.objs.size (.tup xs),I1.laid (t':=s1.toks) (fun b u e=>Heap.get?_push_of_some _ e) (IH _) ?_,rfl,q _ hf⟩
 exact ⟨z,us,r,⟨_,Heap.get?_push_size _ rfl,rfl,_,rfl⟩⟩
theorem aO (h:PA X es t):PE X (.List es pos) (GI t):=by
 intro pins s σ H Q I hq;refine wpAny_List_spliced (cx (h pos pins s σ H _ I hq) fun us s1 ⟨xs,H1,I1,r,z,q⟩=>⟨by rw[<-r.length];exact z,?_⟩)
 have hf:H1 s1.heap.objs.size=none:=I1.hok.fresh (IH _);refine ⟨.ref s1.heap.objs.size,aK H1 s1.heap.objs.size (.lst xs),I1.laid (t':=s1.toks) (fun b u e=>Heap.get?_push_of_some _ e) (IH _) ?_,rfl,q _ hf⟩
 exact ⟨z,us,0,r,Heap.get?_push_size _ rfl⟩
end
abbrev Sp:=List V->Hp->VK->XK->Prop
abbrev vw:=List Env->Hp->Shared->XK->Value->Shared->Prop
structure uj (P:Program) (w:World) (K:IE) (mg:KZ) (base:Heap) (A:Around) (outer:List Env) (s:Shared) (H:Hp):Prop where
 frames:A.frames=some outer
 mod:Mod K mg base
 bs:∀b o,base.get? b=some o->s.heap.get? b=some o/\H b=none
 bsz:base.objs.size<=s.heap.objs.size
 funs:s.heap.FunFrames base outer
 frf:∀b∈wP outer,H b=none
 hok:jv P w H s.heap
 bare:AllBare s.gens
def CE (outer:List Env) (P:Program) (w:World) (H:Hp) (s:Shared) (Q:VK) (u:Value) (s':Shared):Prop:=
 ∃v H',s'.os=s.os/\AllBare s'.gens/\Un (wP outer) [] H H' s.heap s'.heap/\jv P w H' s'.heap/\RelV v u/\Q v H'
def CR (CX:vw) (outer:List Env) (P:Program) (w:World) (H:Hp) (s:Shared) (Q:VK) (E:XK) (r:Result) (s':Shared):Prop:=
 match r with
 | .ok (.ret u)=>CE outer P w H s Q u s'
 | .ok _=>False
 | .error e=>CX outer H s E e s'
structure bq (P:Program) (w:World) (K:IE) (mg:KZ) (base:Heap) (CX:vw) (k:Nat) (f:Addr) (fd:FuncData) (ps:Lb) (sp:Sp):Prop where
 len:∀vs H Q E,sp vs H Q E->vs.length=ps.length
 run:∀(A:Around) (outer:List Env) (s:Shared) (H:Hp) (args:Args) (us:Ld) (vs:List V) (Q:VK) (E:XK),fo k A->uj P w K mg base A outer s H->BindsTo s fd args (ps.zip us)->bN vs us->sp vs H Q E->
  codeAny (model P w) A (.call (.ref f) args) (CR CX outer P w H s Q E) s
theorem uj.make {P:Program} {w:World} {K:IE} {mg:KZ} {base:Heap} {A:Around} {outer:List Env} {s:Shared} {H:Hp} (e:uj P w K mg base A outer s H) (C:Addr) (us:Ld) (kw:List (Str×Value)):
  uj P w K mg base (A.under (.builtin "type.__call__" ⟨.ref C::us,kw⟩)) outer s H:=⟨by first|exact e.frames|(simpa [Around.under,Code.envs,Code.isFrame,pushEnvs] using e.frames),e.mod,e.bs,e.bsz,e.funs,e.frf,e.hok,e.bare⟩
variable {s':Shared}
theorem aY.env0 (I:aY X pins σ H s):uj X.prog X.w X.K X.mg X.base X.A X.stack s H:=
 ⟨I.ok.frames,I.ok.mod,I.bs,J8 I.ok.bsz I.sz,I.stack,I.stkFree,I.hok,I.bare⟩
theorem aY.after {Q:VK} {u:Value} (I:aY X pins σ H s) (h:CE X.stack X.prog X.w H s Q u s'):EP X pins σ Q u s':=by
 obtain ⟨v,H',os,bare,un,hok,r,q⟩:=h;obtain ⟨hh,g,d,t,os'⟩:=s';obtain rfl:os'=s.os:=os;exact ⟨v,H',I.call (h':=hh) (g':=g) (d':=d) (t':=t) (ch:= []) un hok bare (fun b z=>absurd z (by simp)),r,q⟩
def yr (sp:Sp) (dvs:List V) (E:XK) (t:TA):TE:=fun σ H Q=>t σ H fun vs H1=>sp (vs++dvs) H1 Q E
def BB (C:Addr) (sp:Sp) (dvs:List V) (E:XK) (t:TA):TE:=fun σ H Q=>t σ H fun vs H1=>∀x dx,H1 x=none->H1 dx=none->dx≠x->
 sp (.ref x::(vs++dvs)) (aK (aK H1 dx (.own x)) x (.ins C dx [])) (fun v H2=>v= .non/\Q (.ref x) H2) E
def Binds (K:IE) (fd:FuncData) (ps:Lb) (ds:Ld):Prop:=
 ∀(s:Shared) (us:Ld),K.In s.heap->(us++ds).length=ps.length->BindsTo s fd ⟨us,[]⟩ (ps.zip (us++ds))
theorem Binds.all {K:IE} {fd:FuncData} {ps:Lb} (h:∀us:Ld,us.length=ps.length->bindArgs fd ⟨us,[]⟩=pure (ps.zip us)):Binds K fd ps []:=fun s us _ hl=>by
 rw[Ji] at hl⊢;exact .of_eq (h us hl)
def mO (CX:vw) (X:Cx) (E:XK):Prop:=∀(pins:La) (σ:St) (H:Hp) (s:Shared) (e:Value) (s':Shared),aY X pins σ H s->CX X.stack H s E e s'->X.xe e s'
section
variable {CX:vw} {k:Nat} {f C:Addr} {fd:FuncData} {ps:Lb} {sp:Sp} {dvs:List V} {ds:Ld} {E:XK} {x m:Str} {p pos apos:Pos} {e o:Expr} {es:List Expr} {ta:TE} {t:TA}
theorem BX {pins:La} {σ:St} {H:Hp} {s:Shared} {Q:VK} {us:Ld} {vs:List V} (F:bq X.prog X.w X.K X.mg X.base CX k f fd ps sp) (hr:fo k X.A) (hb:Binds X.K fd ps ds) (hd:bN dvs ds) (hx:mO CX X E)
  (I:aY X pins σ H s) (r:bN vs us) (h:sp (vs++dvs) H Q E):wpAny (model X.prog X.w) X.A (call (.ref f) us) (EP X pins σ Q) X.xe s:=by
 have r2:bN (vs++dvs) (us++ds):=r.append hd;have hl:(us++ds).length=ps.length:=by rw[<-r2.length];exact F.len _ _ _ _ h
 refine wpAny_call (codeAny_mono (F.run X.A X.stack s H ⟨us,[]⟩ (us++ds) (vs++dvs) Q E hr I.env0 (hb s us I.kIn hl) r2 h) fun r s' hq=>?_)
 cases r with
 |error e=>exact hx pins σ H s e s' I hq
 |ok fl=>
  cases fl with
  |ret u=>exact I.after hq
  |next=>exact False.elim hq
  |brk=>exact False.elim hq
  |cont=>exact False.elim hq
theorem Ax (F:bq X.prog X.w X.K X.mg X.base CX k f fd ps sp) (hr:fo k X.A) (hg:Gl X x) (hm:X.mg x=some (.ref f)) (hk:K0 X.K (.ref f)=true) (hb:Binds X.K fd ps ds) (hd:bN dvs ds) (hx:mO CX X E)
  (ha:PA X (e::es) t) (hdb:(x==("__debug__" :Str))=false:=by decide) (he:starEach (e::es) X.env=(false,eval e X.env)::starEach es X.env:=by rfl) (hpl:(backTo pos (starEach es X.env)).any (·.1)=false:=by rfl):
  PE X (.Call (.Name x p) (e::es) [] pos) (yr sp dvs E t):=by
 intro pins s σ H Q I h;refine wpAny_Call_Name_kw (qj I hg hm ?_ hdb);refine PySem.W.callWith_K (h₀:=X.base) I.ok.mod.kin hk (cx (ha pos pins s σ H _ I h) fun us s1 ⟨vs,H1,I1,r,q⟩=>⟨I1.kIn,?_⟩) he hpl
 exact BX F hr hb hd hx I1 r q
structure Mk (K:IE) (C f:Addr):Prop where
 makes:PySem.W.makesIn K C=true
 init:Js K (.ref C) "__init__" =some (some (.ref f))
 fn:PySem.W.isFn K (.ref f)=true
 kp:K0 K (.ref C)=true
theorem yt {pins:La} {σ:St} {H:Hp} {s:Shared} {Q:VK} {us:Ld} {vs:List V} (M:Mk X.K C f) (F:bq X.prog X.w X.K X.mg X.base CX k f fd ps sp) (hr:fo (k+1) X.A) (hb:Binds X.K fd ps ds) (hd:bN dvs ds)
  (hx:mO CX X E) (I:aY X pins σ H s) (r:bN vs us)
  (h:∀x dx,H x=none->H dx=none->dx≠x->sp (.ref x::(vs++dvs)) (aK (aK H dx (.own x)) x (.ins C dx [])) (fun v H2=>v= .non/\Q (.ref x) H2) E):
  wpAny (model X.prog X.w) X.A (call (.ref C) us) (EP X pins σ Q) X.xe s:=by
 have hq:=h (s.heap.objs.size+1) s.heap.objs.size (I.hok.fresh (Jz _)) (I.hok.fresh (IH _)) (IQ (Nat.lt_succ_self _));have I2:=aY.made (C:=C) I;have r2:bN (V.ref (s.heap.objs.size+1)::(vs++dvs)) (Value.ref (s.heap.objs.size+1)::(us++ds)):= .cons rfl (r.append hd);have hl:(Value.ref (s.heap.objs.size+1)::us++ds).length=ps.length:=by
  have e:=r2.length;rw[F.len _ _ _ _ hq] at e;exact e.symm
 refine wpAny_call (yq (f:=f) I.kIn M.makes M.init (beq_iff_eq.mp M.fn) (codeAny_mono (F.run _ X.stack _ _ ⟨Value.ref (s.heap.objs.size+1)::us,[]⟩ (Value.ref (s.heap.objs.size+1)::(us++ds)) _ _ E (hr.make C us [])
  (I2.env0.make C us []) (hb _ (Value.ref (s.heap.objs.size+1)::us) I2.kIn hl) r2 hq) fun r s' hq'=>?_))
 cases r with
 |error e=>exact hx pins σ _ _ e s' I2 hq'
 |ok fl=>
  cases fl with
  |ret u=>
   obtain ⟨v,H',I3,rv,ev,q3⟩:=I2.after hq';subst ev;exact ⟨rv,⟨V.ref (s.heap.objs.size+1),H',I3,rfl,q3⟩⟩
  |next=>exact False.elim hq'
  |brk=>exact False.elim hq'
  |cont=>exact False.elim hq'
theorem Ay (M:Mk X.K C f) (F:bq X.prog X.w X.K X.mg X.base CX k f fd ps sp) (hr:fo (k+1) X.A) (hg:Gl X x) (hm:X.mg x=some (.ref C)) (hb:Binds X.K fd ps ds) (hd:bN dvs ds) (hx:mO CX X E)
  (ha:PA X (e::es) t) (hdb:(x==("__debug__" :Str))=false:=by decide) (he:starEach (e::es) X.env=(false,eval e X.env)::starEach es X.env:=by rfl) (hpl:(backTo pos (starEach es X.env)).any (·.1)=false:=by rfl):
  PE X (.Call (.Name x p) (e::es) [] pos) (BB C sp dvs E t):=by
 intro pins s σ H Q I h;refine wpAny_Call_Name_kw (qj I hg hm ?_ hdb);refine PySem.W.callWith_K (h₀:=X.base) I.ok.mod.kin M.kp (cx (ha pos pins s σ H _ I h) fun us s1 ⟨vs,H1,I1,r,q⟩=>⟨I1.kIn,?_⟩) he hpl
 exact yt M F hr hb hd hx I1 r q
end
structure aE (N P:Lb) (sc:Scope):Prop where
 kind:sc.kind= .function
 co:sc.isCoroutine=false
 gen:sc.isGenerator=false
 nd:N.Nodup
 pre:N.take P.length=P
 par:∀x∈P,sc.names.lookup x=some .local∨sc.names.lookup x=some .cell
 nofree:∀y∈sc.names,y.2≠ .free
theorem oM {kindOf:Str->Option NameKind} {x:Str}:∀{binds:List (Str×Value)} {m:KZ},(∀v,(x,v)∉binds)->bindL kindOf binds m x=m x
 | [],_,_=>rfl
 |(n,v)::r,m,h=>by
  unfold bindL;rw[oM fun w hw=>h w (IX _ hw)]
  split
  ·have:x≠n:=by rintro rfl;exact h v Iq
   simp[this]
  ·rfl
theorem oN {kindOf:Str->Option NameKind} {x:Str}:∀{binds:List (Str×Value)} {m:KZ},(∀v,(x,v)∉binds)->bindC kindOf binds m x=m x
 | [],_,_=>rfl
 |(n,v)::r,m,h=>by
  unfold bindC;rw[oN fun w hw=>h w (IX _ hw)]
  split
  ·rfl
  ·have:x≠n:=by rintro rfl;exact h v Iq
   simp[this]
theorem oO {kindOf:Str->Option NameKind} {x:Str} {v:Value}:∀{P:Lb} {vs:Ld} {i:Nat} {m:KZ},P.Nodup->P[i]?=some x->vs[i]?=some v->kindOf x=some .local->
  bindL kindOf (P.zip vs) m x=some v
 | [],_,_,_,_,h,_,_=>by simp at h
 |_::_,[],_,_,_,_,h,_=>by simp at h
 |p::P,w::vs,0,m,nd,h1,h2,hk=>by
  simp at h1 h2;subst h1;subst h2;show bindL kindOf ((p,w)::P.zip vs) m p=_;unfold bindL;rw[oM fun v hv=>(Jl.mp nd).1 (List.of_mem_zip hv).1,if_pos hk]
  simp
 |p::P,w::vs,i+1,m,nd,h1,h2,hk=>by
  show bindL kindOf ((p,w)::P.zip vs) m x=_;unfold bindL;exact oO (i:=i) (Jl.mp nd).2 (by simpa using h1) (by simpa using h2) hk
theorem oP {kindOf:Str->Option NameKind} {x:Str} {v:Value}:∀{P:Lb} {vs:Ld} {i:Nat} {m:KZ},P.Nodup->P[i]?=some x->vs[i]?=some v->kindOf x≠some .local->
  bindC kindOf (P.zip vs) m x=some v
 | [],_,_,_,_,h,_,_=>by simp at h
 |_::_,[],_,_,_,_,h,_=>by simp at h
 |p::P,w::vs,0,m,nd,h1,h2,hk=>by
  simp at h1 h2;subst h1;subst h2;show bindC kindOf ((p,w)::P.zip vs) m p=_;unfold bindC;rw[oN fun v hv=>(Jl.mp nd).1 (List.of_mem_zip hv).1,if_neg hk]
  simp
 |p::P,w::vs,i+1,m,nd,h1,h2,hk=>by
  show bindC kindOf ((p,w)::P.zip vs) m x=_;unfold bindC;exact oP (i:=i) (Jl.mp nd).2 (by simpa using h1) (by simpa using h2) hk
noncomputable def start (N:Lb) (vs:List V):St:=vs.map some++List.replicate (N.length-vs.length) none
noncomputable def wY (CX:vw) (P:Program) (w:World) (K:IE) (mg:KZ) (base:Heap) (N:Lb) (qual:Str) (scope:Scope) (f:Addr) (cd:Value) (A:Around) (outer:List Env) (s:Shared) (H:Hp) (E:XK):Cx where
 prog:=P
 w:=w
 K:=K
 mg:=mg
 base:=base
 A:=A.deeper (envOfC qual scope s.heap.objs.size f cd)
 N:=N
 s₀:=s
 H₀:=H
 env:=envOfC qual scope s.heap.objs.size f cd
 outer:=outer
 stack:=envOfC qual scope s.heap.objs.size f cd::outer
 ex:= []
 calm:=true
 fn:=fun _=>true
 pn:= []
 xe:=fun e s'=>wpAny (model P w) (A.deeper (envOfC qual scope s.heap.objs.size f cd)) (leaving (envOfC qual scope s.heap.objs.size f cd) e) (fun _ s''=>CX outer H s E e s'') (fun e' s''=>CX outer H s E e' s'') s'
theorem rN {sc:Scope} {n:Nat} {x:Str} (h:sc.names.lookup x=some .cell):∃c,(cellsFrom n sc.names []).lookup x=some c:=by
 have q:=PySem.W.cellsFrom_some sc.names n [] (.inl h);exact J4.mp q
theorem wZ {CX:vw} {P:Program} {w:World} {K:IE} {mg:KZ} {base:Heap} {N ps:Lb} {qual:Str} {scope:Scope} {f:Addr} {cd:Value} {A:Around} {outer:List Env} {s s1:Shared} {H:Hp} {E:XK} {us:Ld} {vs:List V}
  (S:aE N ps scope) (hd:A.handled=none) (e0:uj P w K mg base A outer s H) (hl:vs.length=ps.length) (r:bN vs us)
  (x:InCallC s s.heap.objs.size (bindL (envOfC qual scope s.heap.objs.size f cd).kindOf (ps.zip us) fun _=>none) (cellsFrom (s.heap.objs.size+1) scope.names []) (bindC (envOfC qual scope s.heap.objs.size f cd).kindOf (ps.zip us) fun _=>none) s1):
  aY (wY CX P w K mg base N qual scope f cd A outer s H E) [] (start N vs) H s1:=by
 have hpl:ps.length<=N.length:=by have:=congrArg List.length S.pre;rw[IR] at this;lia
 obtain ⟨h1,tk,rfl,hk⟩:=x.done;have noA:∀b:Addr,b∉(wY CX P w K mg base N qual scope f cd A outer s H E).ex:=fun b z=>absurd (show b∈([]:Lc) from z) (by simp)
 refine ⟨⟨e0.mod,S.kind,rfl,rfl,IH _,fun y z c h1 h2=>?_,fun y hy=>?_,fun y c _ h=>?_,fun _=>hd,Around.frames_deeper e0.frames,.inr ⟨rfl,rfl⟩,fun b z=>absurd z (noA b),e0.bs,e0.bsz,fun b _ _=>noA b,fun b z=>absurd z (noA b),e0.funs,e0.frf⟩,
  rfl,e0.bare,Un.kept hk,⟨_,x.toInCall.ns,fun i y v h1 h2 h3=>?_⟩,fun y c h=>⟨_,x.cell y c h⟩,e0.hok.fresh (IH _),fun y c h=>?_,fun p hp=>absurd (show p∈([]:La) from hp) (by simp),e0.hok.kept hk,?_⟩
 ·exact name_of_addr x.apart (JQ h1) (JQ h2)
 ·have hy:scope.names.lookup y=some .cell∨scope.names.lookup y=some .free:=hy;rcases hy with hy|hy
  ·exact rN hy
  ·exact absurd rfl (S.nofree _ (JQ hy))
 ·exact Nat.le_of_lt (x.above y c (JQ h))
 ·have hi:i<vs.length:=by
   unfold start at h2
   by_cases hi:i<vs.length
   ·exact hi
   ·rw[J7 (by simpa using hi)] at h2
    rw[List.getElem?_replicate] at h2
    split at h2<;>cases h2
  have ha:vs[i]?=some v:=by
   unfold start at h2;rw[JH (by simpa using hi),IG] at h2
   cases e:vs[i]? with
   |none=>rw[e] at h2;cases h2
   |some a=>rw[e] at h2;cases h2;rfl
  obtain ⟨u,hu,rv⟩:=r.get ha;have hp:ps[i]?=some y:=by
   rw[<-S.pre,List.getElem?_take_of_lt (by lia)];exact h1
  have ndP:ps.Nodup:=by rw[<-S.pre];exact S.nd.sublist (List.take_sublist _ _)
  refine ⟨u,rv,?_⟩;rcases S.par y (ID hp) with k|k
  ·exact .inl ⟨k,oO ndP hp hu k⟩
  ·obtain ⟨c,e⟩:=rN (n:=s.heap.objs.size+1) k;refine .inr ⟨.inl k,c,e,?_⟩;have q:=x.cell y c e;rw[oP ndP hp hu (by show scope.names.lookup y≠_;rw[k];decide)] at q
   exact q
 ·exact e0.hok.fresh (Nat.le_of_lt (x.above y c (JQ h)))
 ·unfold start;show _=N.length;rw[IB,I0,KA]
  lia
theorem Eg {CX:vw} {P:Program} {w:World} {K:IE} {mg:KZ} {base:Heap} {k:Nat} {f:Addr} {name qual:Str} {params:Arguments} {body:List Stmt} {scope:Scope} {dV kV doc pm cdv ct oc:Value} {an od:Le}
  {osl:Array Lg} {N ps:Lb} {sp:Sp} (lk:K.lookup f=some ⟨oc,od,.func (Jq name qual params body scope dV kV doc pm an cdv ct),osl⟩) (hcd:PySem.W.codeIn K cdv qual=true) (S:aE N ps scope)
  (len:∀vs H Q E,sp vs H Q E->vs.length=ps.length)
  (hbody:∀(A:Around) (outer:List Env) (s:Shared) (H:Hp) (vs:List V) (Q:VK) (E:XK),fo k (A.deeper (envOfC qual scope s.heap.objs.size f cdv))->sp vs H Q E->
   ∃t,x4 (wY CX P w K mg base N qual scope f cdv A outer s H E) body t/\t {nx:=fun _ H'=>Q .non H',rt:=Q} (start N vs) H):
  bq P w K mg base CX (k+1) f (Jq name qual params body scope dV kV doc pm an cdv ct) ps sp:=by
 refine ⟨len,fun A outer s H args us vs Q E hr e0 hb r hsp=>?_⟩
 have hl:=len _ _ _ _ hsp;have KX:K.In s.heap:=e0.mod.kin.keeps fun b o e=>(e0.bs b o e).1
 have lim:s.heap.NoLimit:=e0.mod.nolimit.keeps fun b o e=>(e0.bs b o e).1
 have hkind:∀y∈ps.zip us,scope.names.lookup y.1=some .local∨(scope.names.lookup y.1=some .cell/\((cellsFrom (s.heap.objs.size+1) scope.names []).lookup y.1).isSome=true):=fun ⟨n,v⟩ hy=>by
  rcases S.par n (List.of_mem_zip hy).1 with q|q
  ·exact .inl q
  ·exact .inr ⟨q,PySem.W.cellsFrom_some _ _ _ (.inl q)⟩
 refine codeAny_call_function hr.depth (KX _ _ lk) rfl S.co S.gen rfl (PySem.W.codeRec_of KX hcd) (hb _ _ _ _ ?_);refine wpAny_newFunctionEnv_cells S.kind hkind fun env he s1 x=>?_
 subst he;refine ⟨lim.keeps x.toInCall.keep,codeAny_func ?_⟩;obtain ⟨t,ht,hq⟩:=hbody A outer s H vs Q E (hr.deeper _) hsp;have I:aY (wY CX P w K mg base N qual scope f cdv A outer s H E) [] (start N vs) H s1:=wZ S hr.hd e0 hl r x;refine wpAny_mono (ht [] s1 (start N vs) H _ I hq) (fun fl s' hs=>?_) fun e s' hs=>hs
 have fin:∀{σ':St} {H':Hp} {v:V} {u:Value},aY (wY CX P w K mg base N qual scope f cdv A outer s H E) [] σ' H' s'->RelV v u->Q v H'->CE outer P w H s Q u s':=
  fun {σ' H' v u} J rv q=>⟨v,H',J.os,J.bare,J.base,J.hok,rv,q⟩
 cases fl with
 |ret u=>
  obtain ⟨v,σ',H',J,rv,q⟩:=hs;exact fin J rv q
 |next=>
  obtain ⟨σ',H',J,q⟩:=hs;exact fin (v:=V.non) (u:=Value.none) J rfl q
 |brk=>
  obtain ⟨_,_,_,q⟩:=hs;exact False.elim q
 |cont=>
  obtain ⟨_,_,_,q⟩:=hs;exact False.elim q
section
variable {x:Str} {p pos:Pos} {e:Expr} {es:List Expr} {t:TA} {id T:String} {r:List V->Hp->VK->Prop}
def Hz (r:List V->Hp->VK->Prop) (t:TA):TE:=fun σ H Q=>t σ H fun vs H1=>r vs H1 Q
theorem ay (hc:eY X (.builtin id) r) (hg:Gl X x) (hm:X.mg x=none) (hv:bootBuiltins x=some (.builtin id)) (ha:PA X (e::es) t) (hn:x≠ "__name__" :=by decide) (hdb:(x==("__debug__" :Str))=false:=by decide)
  (he:starEach (e::es) X.env=(false,eval e X.env)::starEach es X.env:=by rfl) (hpl:(backTo pos (starEach es X.env)).any (·.1)=false:=by rfl):PE X (.Call (.Name x p) (e::es) [] pos) (Hz r t):=by
 intro pins s σ H Q I h;refine wpAny_Call_Name_kw (dX I hg hm hv ?_ hn hdb);exact PyProof.Rows.callWith_builtin1 (cx (ha pos pins s σ H _ I h) fun us s1 ⟨vs,H1,I1,r1,q1⟩=>hc pins s1 σ H1 vs us Q I1 r1 q1) he hpl
theorem cM (hc:eY X (.type T) r) (hg:Gl X x) (hm:X.mg x=none) (hv:bootBuiltins x=some (.type T)) (ha:PA X (e::es) t) (hn:x≠ "__name__" :=by decide) (hdb:(x==("__debug__" :Str))=false:=by decide)
  (he:starEach (e::es) X.env=(false,eval e X.env)::starEach es X.env:=by rfl) (hpl:(backTo pos (starEach es X.env)).any (·.1)=false:=by rfl):PE X (.Call (.Name x p) (e::es) [] pos) (Hz r t):=by
 intro pins s σ H Q I h;refine wpAny_Call_Name_kw (dX I hg hm hv ?_ hn hdb);exact J9 (cx (ha pos pins s σ H _ I h) fun us s1 ⟨vs,H1,I1,r1,q1⟩=>hc pins s1 σ H1 vs us Q I1 r1 q1) he hpl
end
end L2
open Lean in
local macro_rules|`(⟨$xs,*⟩)=>do
 let mut y:Array (TSyntax `term):=#[]
 let mut c:=false
 for x in xs.getElems do
  if x.raw.getId== `ν then
   c:=true
   y:=(y.push (←`(_))).push (←`(rfl))
  else if x.raw.getId== `ω then
   c:=true
   y:=(((y.push (←`(_))).push (←`(_))).push (←`(rfl))).push (←`(rfl))
  else y:=y.push x
 if c then `(⟨$y,*⟩) else Macro.throwUnsupported
local macro_rules|`($a<*>$b)=>`(@L2.aa _ _ _ _ _ $a $b rfl)
set_option hygiene false in
local macro_rules|`(tactic|and_intros)=>`(tactic|refine F.ok sc (fun vs H Q E h=>by repeat first|(obtain ⟨rfl,_⟩:=h;rfl)|obtain ⟨_,h⟩:=h) (fun cdv A outer s H vs Q E hr h=>?_))
local macro_rules|`(tactic|exists $a,*)=>`(tactic|refine ⟨$a,*, ?_⟩)
local macro_rules|`(($x,$y,*))=>`(⟨$x,$y,*⟩)
open Lean in
def sb (b:Nat) (t u:Array Syntax):Nat->Syntax->Syntax
 |n+1,.node i k a=>
  let c:=a.map (sb b t u n)
  let g (s:Syntax):=match s.isNatLit? with |some m=>if b<=m then t.getD (m-b) .missing else .missing|_=>.missing
  let r:=g (.node i k a)
  if !r.isMissing&&r.getNumArgs+r.getId.toString.length>0&& !r.isOfKind `Lean.Parser.Term.hole then r
  else if k== `Lean.Parser.Tactic.sleep then u.getD (a[1]!.isNatLit?.getD 0) .missing
  else if k== `Lean.Parser.Term.app&& !(g a[0]!).isMissing then
   let r:=if c[0]!.isOfKind `Lean.Parser.Term.paren then c[0]![1] else c[0]!
   if r.isOfKind `Lean.Parser.Term.app then .node i k #[r[0],mkNullNode (r[1].getArgs++c[1]!.getArgs)] else .node i k #[r,c[1]!]
  else if k== `Lean.Parser.Command.universe then .node i `Lean.Parser.Command.end #[mkAtom "end",mkNullNode (if a[1]![0].getId== `z0 then #[] else #[a[1]![0],mkNullNode])]
  else .node i k c
 |_,s=>s
open Lean in
local macro_rules|`(mutual $c* end)=>do
 let c:=c.raw
 let mut t:=c[0]![1][1].getArgs
 let some f:=c[1]!.find? (·.isOfKind `Lean.Parser.Tactic.first)|Macro.throwUnsupported
 let mut u<-f[1].getArgs.mapM fun a=>return (<-`(tactic|($(.mk a[1])))).raw
 for _ in [0:9] do
  let g:=sb 36 t u 999
  t:=t.map g
  u:=u.map g
 return mkNullNode ((c.extract 2 c.size).map (sb 36 t u 999))
mutual
#check f
 (λ_ _=>rfl)
 _
 _
 _
 _
 (by decide)
 _
 _
 _
 _
 _
 (by decide+kernel)
 _
 _
 _
 _
 s.heap.objs.size
 _
 _
 _
 _
 _
 _
 _
 _
 _
 _
 _
 _
 _
 _
 _
 _
 _
 _
 _
 _
 _
 _
 _
 _
 _
 (by lia)
 _
 _
 _
 _
 _
 _
 _
 _
 _
 _
 _
 _
 _
 _
 _
 _
 _
 _
 _
 _
 _
 _
 _
 _
 _
 _
 _
 _
 _
 _
 _
 _
 _
 _
 (X.block scope cl s3.heap.objs.size (own::ys) own fp s3 369)
 {cls:= .type "set",dict:=none,data:= .set #[] 0 493}
 (λ_ _ _ _ _ _=>bR λ_ _=>rfl)
 Heap.get?_push_of_some
 PassesOwn.never
 (pv 0)
 (bK "tasks" 181 196)
 (cok (gG gR) 371 41 rfl rfl rfl rfl rfl rfl rfl rfl)
 (T.length:Int)
 _
 (λ_ _ _ _ _ _=>cW λ_ _ _=>rfl)
 (cok gR .nil 41 rfl rfl rfl rfl rfl rfl rfl rfl)
 (0,0,0)
 IntMulOk.of_left
 (pv 2)
 _
 (pv 1)
 Heap.get?_push_size
 (model prog w)
 (ao 506 118 ae 36)
 (by with_unfolding_all rfl)
 (.ListComp elt [⟨.Name own px,iter,[],0⟩] scope pos)
 (by decide,IJ 41)
 (model X.prog X.w)
 (ao aA 163 ae 36)
 xs.length
 (by simp)
 (ao aA 118 ae 36)
 (X.block scope cl C (own::ys) own fp s H)
 (λa h=>h.elim)
 (ao aA 129 ae 36)
 _
 (λ_ _ _ _ _ _=>fb λ_ _ _ _=>rfl)
 (@aO _ _ _ _ ac)
 (pv 3)
 (cok (gG (gG (gG gR))) (.cons rfl (.cons rfl 371)) 41 rfl rfl rfl rfl rfl rfl rfl rfl)
 (.lst [])
 (ay ar rfl B.IO boot_len 501)
 (S.length:Int)
 (ao aA 127 ae 36)
 (_,ag,((hall.take k).append (.one (dJ rr1 ff))).append (hall.drop 291))
 (aF _)
 (ak (aw cB))
 {cls:= .type "tuple",data:= .seq (ys.map λ(i:Nat)=>rawInt i).toArray}
 (ay ar rfl B.IO boot_len 257)
 (λi=>decide (V.int (((T.getD (F1.getD i 0).toNat []).length:Nat):Int)=V.int 2))
 (λa=>a≠p/\(H1 a=none∨Z a))
 (λ_=>False)
 (.tup [.int 508,.int 454,.int m1])
 (.dK kvs)
 (pv 4)
 (cz 118 rfl)
 (cj DZ55 hr (118<*>420))
 (.dK (bM D))
 (0+(i:Int))
 ((relabel scope X.env).names.all λp=> !(p.2== .cell||p.2== .free)||(cl.lookup p.1).isSome)
 {cls:= .type "range",data:= .fields #[.int lo t,.int hi u,.int 1 v]}
 (.refl _)
 (X.blockT scope cl s3.heap.objs.size (os++ys) os fp s3 369)
 (∀y H5,aC H2 H5->R (λa=>H2 a=none∨Z a) H5 y (f i)->Q' y H5)
 (R.getD i 125)
 (bS T R i)
 (cok (gG (gG gR)) (.cons rfl 371) 41 rfl rfl rfl rfl rfl rfl rfl rfl)
 (Int×Value)
 ((aT R M).length:Int)
 (aH 331 (aH 323 ca))
 (.ref s2.heap.objs.size)
 _
 (.ref p)
 (.ListComp elt [⟨.Name own px,iter,[cond],0⟩] scope pos)
 (by show (3:Int)≠0;decide)
 (118<*>501)
 {cls:= .type "list",dict:=none,data:= .seq ([]:Ld).toArray}
 (X.blockT scope cl C (os++ys) os fp s H)
 (rfl,aJ _ _ (rfl,rfl,?_))
 (R.length:Int)
 (scope.names.all λp=> !(p.2== .local)||scope.names.lookup p.1==some .local)
 (intBits_le_64 78 78)
 ((cJ A T P O).map jo)
 (λt k=>H t=some (.tup (k.map V.int)))
 (pv 5)
 (127<*>ac)
 (.lst (bs.map V.ref++ [.ref t1]))
 (bK "tools" 521 [])
 (2*121+n)
 (List Int)
 (λn s'=>∃i zs o0 H',aY 113 [] (o0::be js σ) H' s'/\tn i s'.heap/\(∀b∈fp,H' b=none)/\W i n zs H')
 _
 (·.1)
 (by show (4:Int)≠0;decide)
 (∀h',Heap.SameBut C s6.heap h'->aY X pins σ H5 {s6 with heap:=h'})
 (λz=>by subst z;rw[h] at q;cases q)
 (λ_ _=>False)
 (ay ar rfl B.IO boot_len 438)
 (∀σ' H',N σ' H'->∃m',m'<m/\W 301 m' σ' H')
 ((Addr×Addr×Addr)×(Pk×List Ky))
 (g1.trans g2)
 (R.getD p.2.toNat 125)
 (R.getD p.1.toNat 125)
 (Int×Int)
 (147<*>ac)
 (m7 521 181 522 (.ref pl') (.int n))
 (bu ce 118 (bH (am aW 127 ae)) bO)
 (bK "arcs" 522 119)
 (λc=>?_)
 (by rw[I0];lia)
 ((W2.length+1:Nat):Int)
 (λr s'=>r= .ok (.ret (.bool true))/\OldK s₁.heap s'.heap/\s'.os=s₁.os/\AllBare s'.gens)
 (PW.pt (cK 332 (cp (au da 137 (@bc _ _ _ _ _ (bW<*>(bW<*>(bW<*>ac)))) 133))))
 (ns.map V.int)
 (λ_ _ _ _ _ _=>iV λ_=>rfl)
 (by show (2:Int)≠0;decide)
 {cls:= .type "list",dict:=none,data:= .seq acc c,slots:= #[]}
 {cls:= .type "list",data:= .seq its.toArray n}
 (.ListComp elt [⟨tg,iter,[],0⟩] scope pos)
 (.lst (S.map V.int))
 (ay ar rfl B.IO boot_len (140<*>ac))
 (.lst (vs.take k))
 (λk=>decide (k.getD 0 0∈S2)&&decide (k.getD 1 0∈S2))
 (λN hN=>?_)
 (if bZ 422 t=true then bf (bS T R n) z else 0)
 (if (c:Int)<0 then ((c:Int)+(xs.length:Int)).toNat else min (c:Int).toNat xs.length)
 (.frz o 162)
 {s with heap:=h',toks:=tk}
 (λk y hy Hk gk Q' hQ=>?_)
 {cls:= .type "list",data:= .seq vs.toArray}
 {D with nx:=Pv 301,ct:=Pv 301,bk:=D.nx}
 (λi=>decide (iJ (c.1.getD i none)=V.non))
 (Heap.lt_size e)
 (SetTable.grown es1.size)
 (ak (aw bz))
 (.lst (C.map V.int))
 (((cN T R z).drop 291).map (λi:Nat=>V.int (i:Int)))
 (n0,m0)
 (by simpa using h)
 ((bw T P i).getD k 387)
 (IH _)
 (wpAny_pure ?_)
 (by rw[IB,IB,IR,Io,IU];lia)
 (Or.inr rfl)
 (I.ok.hd hc)
 (.lst (ba.map V.ref))
 (λc2=>?_)
 (bu ce 118 bO (bH 127))
 (118<*>ac)
 (by intro z;cases z)
 ((R.getD i 125).2.1-(R.getD i 125).1)
 {cls:= .type "list",data:= .seq ([]:Ld).toArray}
 (ao 506 129 ae 36)
 ((model prog w).w.params.followText "set-order")
 ((bw T P i).map λw:Wy=>w.2.1)
 (163<*>ac)
 (bs.map V.ref)
 (aK (aK H3 ol 149) t0 (.tup [.ref kl,.ref ol]))
 (.ref 52)
 (ay ar rfl B.IO boot_len 194)
 (List Key×V)
 (.tup [.str "chain",.ref c0])
 (.ref l)
 (.tup [.str "split",.str "chain",.str "ring"])
 (!w.params.followText "set-order" &&(!t.plain&&decide (es.size>1)))
 (λw hw=>iQ rx fx r fs w (by simpa using hw))
 (.lst [.int ((mo.fdiv 5).fmod 3*90),.int ((c.fdiv 5).fmod 2*180)])
 (.lst 514)
 (if u.1=z then u.2.1 else 0)
 (.tup [.int (i:Int),.ref b])
 (ak (bI (de IN Ij IZ bx 127 ((@bc _ _ _ _ _ (bW<*>213))<*>ac))))
 (λa=>H a=none)
 (m,hn,λh' hs'=>(.ref p,H5,J h' hs',rfl,q))
 (compEnvC scope cl s3.heap.objs.size X.env)
 (Prod.mk (P) (O++ [[i,j]]))
 (fg V.int)
 (.lst (M.map V.int))
 (cx (ha pos pins s σ H _ I h) λus s1 (vs,H1,I1,r1,q1)=>?_)
 (by show 2<=sizeLine;decide,λtn ntn=>?_)
 (λC fp s H=>132)
 (kvs.any λkv=>decide (kv.1=k))
 (118<*>(129<*>194))
 (k+1)
 (gm.trans ff)
 {s with heap:=s.heap.push 114}
 (λ_ s' hq=>wpAny_pure (wpAny_pure hq))
 (by kernel_rfl)
 (_,130 _ rfl,rfl,rfl)
 (.lst ys)
 (λk=>decide (V.int ((due.getD k []).getD 1 0)=V.int x))
 (λk=>decide (V.int ((due.getD k []).getD 0 0)=V.int x))
 _
 (i+1)
 (.lst [.int (2*i),.int (2*i+1),.int (2*j),.int (2*j+1)])
 (scope.names.all λp=> !(p.2== .cell))
 (bJ rfl B.Kc (157<*>ac))
 (aD.of el)
 (Key×V)
 {D with nx:=N,ct:=N,bk:=D.nx}
 (cH ps)
 (ay ar rfl B.IO boot_len 213)
 (.ref it)
 (x==("__debug__" :Str))
 (n1,m1)
 (ak (aw 127))
 (List Key×Addr×Value)
 (Ik _ (Ik _ (dn hb e)))
 (ay ar rfl B.IO boot_len (143<*>ac))
 {s with heap:=h'}
 (by rw[rv.1];lia)
 (V.int i=V.int j)
 (.lst [.int (L+1),.non,.int 462])
 {cls:= .type "slice",data:= .fields #[vl,vu,.none]}
 (pv 6)
 (cP 4 sc)
 ((aU prog w).hash (.inl y))
 (λz=>hb (by simp[z]))
 (by rw[isSubtype_type];kernel_rfl)
 (.refl _,aJ none none rfl)
 (λ_=>?_)
 (tZ (.int slot 0) i S es.size ep)
 _
 (cP 3 sc)
 (au cu 129 ae 154)
 (ak (aw 147))
 (_,aD.of el)
 _
 (∀b o,s.heap.get? b=some o->h'.get? b=some o)
 (λi hi H2 x H3 g hy=>?_)
 (kvs.map λkv=>if kv.1=k then (kv.1,y) else kv)
 (am aX 127 ae)
 (.Name own px)
 (.tup [.int (1+le2),.int (1+le2+mx2),.ref u2])
 (.lst [.int (2*i0),.int (2*i0+1),.int (2*i0)])
 (λ_ _ z=>nomatch z)
 (λc1=>?_)
 (w.params.setOrder S ep)
 (pv 7)
 (cP 5 sc)
 (cP 2 sc)
 (ao aA 147 ae 36)
 (.lst us0)
 ((x1.trans x2).trans x3)
 (λi σ H' _ h=>by rw[<-h.1];exact aD.of eu)
 (by rw[decide_eq_false c2,Jh])
 (by rw[decide_eq_false c1,Jg])
 (aJ _ _ rfl)
 (.frz o 166)
 (.ext λh=>h.IsItemsView v td)
 (!t.plain&&decide (es.size>1))
 (λc=>(⟨#[c]⟩:Str))
 (λa=>a≠l/\H0 a=none)
 (g2 _ _ er)
 (by simpa using hv)
 (118<*>(129<*>213))
 (.tup [.int x,.int w'])
 (.tup [.int le,.int (r.2.1-r.1+mx),.ref u])
 (.ref a)
 (.ref I)
 (.int x)
 (aK H2 s2.heap.objs.size 149)
 (.lst ((C.drop 1).map V.int))
 (.cons rfl .nil)
 (.builtin "len")
 (bT _ _ _ rfl)
 (am aZ ae 147)
 (R.map rk)
 (193<*>ac)
 (.int (i:Int))
 (its.toArray.size:Int)
 (he pins s σ H _ I h)
 (by show 2<=sizeLine;decide,λtr ntr=>?_)
 (by show 2<=sizeLine;decide,λtq ntq=>?_)
 (by show 2<=sizeLine;decide,λt2 nt2=>?_)
 (by show 1<=sizeLine;decide,λl1 nl1=>?_)
 (by rw[<-J6];exact hv)
 (min 1 (C.map V.int).length)
 (aJ none none rfl)
 (0,0,[])
 (.int m)
 (λi H2 g hi=>(xs,xs[i],g.seq hS,IA hi))
 (by have z:=p.isList;rw[e] at z;exact z)
 (.tup [.ref td,.ref tl,.ref la,.ref lp])
 (.lst ((P.map iJ).set i 518))
 (.ins Ix dx (bK "apart" (.ref pl') 216))
 (some (.int 167)::be js σ)
 (gu (K:=K) rfl)
 (@bc _ _ _ _ _ (147<*>264))
 (.tup [.str "ways",.int i])
 (.lst xs)
 (.lst (cs.map V.int))
 _
 (g3.trans g4)
 (cO 2 sc 146)
 (aT R M)
 (.lst (P.map iJ))
 (λk y hy H2 g2 Q' hQ=>?_)
 (λk σ H' _ h=>aD.of (h.2.1 _ _ es))
 (false,eval e X.env)
 (ak cL)
 {cls:= .type "list",data:= .seq #[]}
 (λi=>decide (0<=i)&&decide (i<121))
 (λi y hy H3 g Q' hQ=>?_)
 (· < ·)
 (zs.map λz=>V.ref z.1.1)
 (rfl,rfl,bg.of et,rfl,?_)
 (rfl,.inl 305,dF (by rw[ll];lia) ?_)
 (rfl,.inl (aD.of es1),?_)
 (by lia,IJ 78)
 (am aZ ae 193)
 (am aR (am aX 118 ae) ae)
 (ae<*>ac)
 (aK H2 l (.lst (vs++us)))
 (R.getD n 125)
 (.dT kvs)
 ((cJ A T c.1 c.2).map jo)
 ((S2.drop 291).map V.int)
 (rfl,_,aD.of ec)
 (.ref t)
 {s with heap:=h',drawn:=d,toks:=tk}
 (starEach es X.env)
 (pure (Prod.mk (Value.ref I) ([])))
 (g3.trans ((e4.trans e5).trans e6))
 (aU prog w)
 (.lst (C1.map V.int++C2.map V.int))
 (.call (.ref fa) ⟨[.ref a],[]⟩)
 (pv 8)
 (by simp only[IY]<;>lia)
 (_,aD.of ev)
 (164<*>ac)
 (.tup [.str wd,.ref c2])
 (.lst [.str n0,.str n1])
 (.int 167)
 (.Call (.Name x p) (e::es) [] pos)
 (λi=>F1.getD i 0)
 (rfl,rfl)
 (hgo i H2 g hin,?_,λx H3 hy=>?_)
 (g2.trans g3)
 (ao aM 143 127 36)
 (ao aM 118 193 36)
 (af np _)
 (aU X.prog X.w)
 (aI 118)
 (IL il)
 (G.getD k [])
 (2*(i:Int)+1)
 (.type "set")
 (.str z)
 (.ref T)
 (.lst (vp++ [.ref tr]))
 (.int c)
 (.bl _,H,I,rfl,?_)
 (ho pins s σ H _ I h)
 (L+1+c17.fmod (2*L+2))
 (.tup [.ref p,.ref o])
 (.lst (vs++ [.ref a]))
 (!t.led&& !es.isEmpty)
 (∃m,W 0 m σ H)
 (κ×V)
 (eval iter X.env)
 (bw T P i)
 (.tup (k.map kV))
 (.inl rfl)
 (some j)
 (some (c:Int))
 (am aZ ae 163)
 (am aX 147 ae)
 (S2.map V.int)
 (R.getD j 125)
 (M.length:Int)
 (∃m,s6.heap.Ns C m)
 (∀b∈fp,H' b=none)
 (ok.sub (x,c) (JQ e))
 (cX dA dS ae 152 129)
 (cT rfl (aH 348 178))
 (_,aD.of eu)
 (116 _ e)
 (.lst (zs.map V.str))
 (.lst (hs.map V.int))
 (.lst (cs.map V.ref))
 (λi=>0+(i:Int))
 (EP X pins σ Q)
 (.lst [.ref t1])
 (.lst [.ref t0])
 (.fresh 0 0 led)
 ⟨i.toNat,by lia⟩
 (λa=>a≠lp)
 (n1,m1')
 (g3.trans ge)
 (aI 127)
 (.builtin id)
 ((0:Nat):Int)
 (129<*>ac)
 ⟨_,rfl⟩
 (u.map 201)
 (l.map 201)
 (gW hr)
 (bU (K:=K) rfl)
 (F2.length:Int)
 (2*(i:Int))
 ((i+1:Nat):Int)
 (pv 9)
 (.int f)
 (.Name y py)
 (λz=>z.1 rfl)
 (ys.map V.str)
 (aK H3 t1 161)
 (IL kl)
 (F2.getD k [])
 (.int (j:Int))
 (cN T R z)
 (aD.of ef)
 (.ref td')
 (.ref al')
 (κ×Value)
#check by first|(have sl:sizeLine=16777216:=sizeLine_eq)|(have I7':=I7.pinned (fpB n7) (T.obj _ _ t7);have hst:=step x H7 y7;have own':(relabel scope X.env).names.lookup own=some .local:=lookup_relabel_local ok.ownL;refine cx (fH (X:=X.block scope cl s3.heap.objs.size (own::ys) own fp s3 369) (i:=0) (x:=own) (pos:=px) ok.nd rfl (.inl own') (.inr own') _ s7 _ H7 x u (λσ' H'=>σ'=some x::be js σ/\H'=H7) I7' r7 444) λ_ s8 (σ8,H8,I8,e8,eH8)=>?_)|(have f5:=af np5 (.lst (vs.take k++ [.ref tn]++vs.drop 291));have ff:=(f2.trans f3).trans (f4.trans f5);have hall:=rl.imp λ_ _ q=>dJ q 292)|(unfold Builtin.«set_iterator.__next__»;refine wpAny_bind (m:=slotArgs _ _ _) ?_;show wpAny _ _ 430 _ _ s;refine wpAny_pure ?_;refine wpAny_bind (wpAny_fieldsOf hI rfl ?_);show wpAny _ _ (setEntries S>>=_) _ _ s)|(obtain ⟨it,fp,tn,J,H2,rfl,I2,T,st2,f2,q2⟩:=h2;obtain ⟨W,⟨m0,w0⟩,turn⟩:=q2 s2.heap.objs.size (I2.hok.fresh 249);refine wpAny_newObj_type (wpAny_newFunctionEnv ncell (by intro y hy;simp at hy) (λh1 hns hsb=>?_) ok.kind))|(refine wpAny_bind (m:=slotArgs _ _ _) ?_;show wpAny _ _ 430 _ _ s;refine wpAny_pure ?_;refine wpAny_bind (wpAny_fieldsOf hI rfl ?_);show wpAny _ _ (setEntries S>>=_) _ _ s;refine wpAny_bind (fM hS ?_))|(show wpAny _ _ 430 _ _ s;refine wpAny_pure ?_;refine wpAny_bind (wpAny_fieldsOf hI rfl ?_);show wpAny _ _ (setEntries S>>=_) _ _ s;refine wpAny_bind (fM hS ?_);rw[if_neg 139])|(refine jH _hi λe0 l1 l2 l3 l4 l5 ed _r1 _hj=>?_)|(have f3:=af np3 (.lst (vs.take k++ [.ref tn]));refine (ν,aJ lp _ (rfl,aD.of ((gm.trans (f2.trans f3)) _ _ el),λp4 np4=>?_)))|(refine lt3 ?_;intro D' r2 r1)|(have f4:=af np4 (.lst (vs.drop 291));refine (aG p3 p4 _ _ (rfl,rfl,f4 _ _ ag,ag,by rw[IB,IR,Io,IU];lia,λp5 np5=>?_)))|(obtain ⟨vs,el,rT⟩:=_r1;obtain ⟨rl,ml,et,⟨bs,er,rR⟩,em⟩:=id N.plan)|(refine (aJ T' _ (rfl,bg.of ag,rfl,aJ _ _ 187)))|(clear h _hi _hj _hk;subst _r1)|(dsimp only at hns hsb⊢;rw[<-e3] at hns hsb;have hk:∀b o,s3.heap.get? b=some o->h1.get? b=some o:=λb o e=>hsb.extBut b o (IQ 241) (Heap.get?_push_of_some _ e))|(have f2:=af np2 (.lst [.ref tn]);refine (aG p1 p2 _ _ (rfl,rfl,f2 _ _ hp1,ag,by rw[IR,IU];lia,λp3 np3=>?_)))|(intro X hP hw hK hc i pins s σ H E I hf st hg;subst hP hw hK)|(refine cut (λσ H'=>σ= [Lh lp,some (.int w),some (.int (k:Int)),some (.int put),Lh tr,none,none]/\aC H H') 232 ?_)|(refine wpAny_pyIter_slot hT dh (wpAny_call_entry dh hT fL ?_ (fW _));show wpAny _ _ (ret 367) _ _ s;exact wpAny_pure (ν,"set_iterator",_,hT,bV.lookup,hQ))|(apply codeAny_builtin F.entry_set_update_loop;rw[Around.under_plainId F.plain_set_update_loop _];show wpAny _ _ (pyNext 367>>=_) _ _ s;apply wpAny_bind)|(refine Calls.callWith_builtin rfl (Calls.evalArgs_plain ?_);refine Calls.spliced_cons (x:=eval (.Call (.Name "set" p2) [e] [] pos2) X.env) (rest:= []) ?_;apply wpAny_Call_Name_kw;refine dX I g2 m2 b2 ?_ 41 41)|(refine cx (bx _ s9 _ H9 179 [y] 179 [yv] (λ_ H'=>H'=aK H9 s2.heap.objs.size (.lst (zs++ [y]))) I9 rfl (.cons r9 .nil) (_,zs,y,rfl,rfl,hD9,hz,rfl)) λ_ s10 (_,H10,I10,_,e10)=>?_)|(have f1:=af np1 230;have hp1:aK Ht p1 230 p1=some (.lst (vs.take k)):=ag;generalize aK Ht p1 230=Hm at f1 hp1⊢;have gm:=(gt).trans f1;have er:=f1 _ _ e;have ec:=f1 _ _ ec1)|(generalize hs3:({s2 with heap:=s2.heap.push 185,toks:=s2.toks}:Shared)=s3 at I3)|(replace e:=ft _ _ e;replace ec1:=ft _ _ ec1;have okc:=okr.os _ _ rfl;have hw1:wd= "chain" ∨wd= "ring" ∨wd= "split" :=okr.ok.1.1;clear hN;refine (ν,aJ lp _ (rfl,aD.of (gt _ _ el),λp1 np1=>?_)))|(have f3:∀b∈fp,fk X pins 369 b:=λb hb=>(by rw[aQ (IQ (fpo b hb))];exact (f2 b hb).1,(f2 b hb).2))|(rw[IG] at hy;obtain ⟨i,hi,rfl⟩:=IF.mp hy)|(clear h_ _hi _hj;subst _r1)|(refine lN ?_;intro D' r1)|(show wpAny _ _ (exec _ X.env) _ _ _;rw[exec_Assign_Name_used _ _ _ _ hsw];refine wpAny_bind (wpAny_standAt (wpAny_bind ?_)))|(have f1:=af np1 230;have hp1:aK H p1 230 p1=some (.lst (vs.take k)):=ag;generalize aK H p1 230=Hm at f1 hp1⊢;have gm:=(g0).trans f1)|(refine wpAny_comprehension_free rfl hs ok.clos ok.kind nloc (cx (hi pins s σ H _ I h) λv s1 h1=>cx h1 λitv s2 h2=>?_))|(refine dR _hj λD T A B2 n P _hk=>?_)|(clear h _hi _hj _hk _hl;subst _r1)|(obtain ⟨b,hb,rfl⟩:=cF hy)|(have g0:=af nl 149;have e0:aK H l 149 l=some (.lst []):=ag;generalize aK H l 149=H0 at g0 e0⊢)|(show wpAny _ _ (newExc (.type "StopIteration") []>>=_) _ _ _;refine wpAny_bind ?_;simp only[newExc,newTuple];refine wpAny_bind (wpAny_newObj_type ?_ (by size_fits)))|(subst hr;obtain ⟨m,hn,_⟩:=id I6.loc;exact fin _ _ s6 H5 _ (m,hn) (λh' hs'=>kt I3 f3 I6 hs') (I3.fpOk 249 (show H5 s3.heap.objs.size=none from I6.free)) qn)|(refine dR N.net.ex λdx td tl al pl fs _hi=>?_)|(refine (by show 0<=sizeLine;decide,λl nl=>?_))|(have lr:(bs.map V.ref).length=R.length:=by rw[I0,rR.1,I0])|(clear h _hi _hj;subst _r1)|(have J0:=iS (h1:=h1) ok I3 f3 lt3 hns hk (s2.toks+0);have t0:tn 0 h1:=T.keep 0 _ _ st2 λb hb o e=>hk b o (by rw[e3];exact Heap.get?_push_of_some _ e))|(have e3:s3.heap=s2.heap.push {cls:= .type "list",dict:=none,data:= .seq ([]:Ld).toArray}:=by rw[<-hs3])|(refine (by show 1<=sizeLine;decide,λp2 np2=>?_))|(dsimp only;refine wpAny_bind (wpAny_bind (wpAny_askSetting 250)))|(refine cA _hi λ_r1 _hj=>?_)|(intro pins s σ H Q I h;apply wpAny_Call_Name_kw;refine dX I g1 m1 b1 ?_ 41 41)|(have hk:=IA kl;have eb:=ra.2 k b _ hb hk;obtain ⟨p,q',g,ek,_⟩:=tr _ 516;rw[ek] at eb hk)|(refine cA _hj λhA hB=>?_)|(have q:=lookup_all ok.has z;simp only[beq_self_eq_true,Bool.or_true,K8,JR] at q;exact J4.mp q)|(obtain ⟨wd,ys,ew,iw⟩:=im raG okr.ok.1;refine (aG tr _ _ _ (rfl,rfl,bg.of ew,aS (j:=0) rfl,by show 3<=sizeLine;decide,λtt ntt=>?_)))|(intro pins s σ H xs us Q I r h)|(have lt3:∀b∈fp,b<s3.heap.objs.size:=λb hb=>by rw[e3,Heap.size_push];exact JX (fpo b hb))|(obtain ⟨h',g',d',tk',os'⟩:=s';have eg:g'=s.gens:=mv.gens;have ed:d'=s.drawn:=mv.drawn;have eo:os'=s.os:=mv.os;subst eg ed eo)|(apply wpAny_bind)|(refine wpAny_bind (m:=firstArgMember _ _) (wpAny_of_eq (a:=Value.none) (by first|rfl|(simp only[firstArgMember];rfl)) ?_))|(have q:=lookup_all ok.has z;simp only[beq_self_eq_true,KD,K8,JR] at q;exact J4.mp q)|(refine dR _hj λD T A B2 R M _hk=>?_)|(have gT:=af nT 278;have g2:=g1.trans gT;have ec2:=gT _ _ ec;have rc2:=rc.imp λ_ _ q=>dJ q gT)|(unfold cI at hz;obtain ⟨k,hk,rfl⟩:=IV.mp hz;obtain ⟨h1,h2⟩:=JT.mp hk)|(refine dU _hk λO _hl=>?_)|(intro pins s σ H x y v u Q I rx ry h)|(refine (by show 0<=sizeLine;decide,λle nle=>?_))|(obtain ⟨f0,f1,f2,f3,f4,f5⟩:=hf it 139)|(subst hs3;exact codeAny_compStart_list loop (T.self _ 0 _ _ _ t0 loop))|(clear h _hi;subst _r1)|(have hr:=IA hi;obtain ⟨t,ht,et⟩:=rR.get (show (R.map rk)[i]?=some (rk R[i]) by rw[IG,hr];rfl))|(and_intros)|(rw[show its.toArray.any (uo x)=its.any (uo x) by simp,jP r fs])|(obtain ⟨ni,hni⟩:∃ni:Nat,i=(ni:Int):=494)|(apply Calls.spliced_nil;obtain ⟨its,rv,pl,hz⟩:=I1.list hq)|(obtain ⟨o,e,d⟩:=T.obj _ _ t7 b hb;exact (I10.pin (b,o) 315).2.1)|(obtain ⟨its,rv,p,hz⟩:=I.list h1;have hi:=mC rv;obtain ⟨xs,e⟩:=hi.allInts.items)|(obtain ⟨⟨slot,z1,z2,hI⟩,hS⟩:=st)|(obtain ⟨o,e,_⟩:=T.obj 0 _ st2 b hb;exact Heap.lt_size e)|(rw[IG] at hy;obtain ⟨j,hj,rfl⟩:=IF.mp hy)|(refine (aJ a _ (rfl,bg.of ea,rfl,aJ _ _ (rfl,aJ _ _ 187))))|(refine cx (he _ _ _ _ _ s8 _ H8 _ I8 hst) λyv s9 (y,H9,I9,r9,hD9,m',hm,w9)=>?_)|(refine (bT x t i (rfl,eX D T A B2 n P (O,(NC,il,λp H1 g1 np (vs,ev,rv)=>?_)))))|(rw[eus] at eu;refine (aJ p2 _ (rfl,aD.of eu,by simpa using ne,λM hM hle=>?_)))|(rintro n s5 ⟨i,zs,o0,H5,I5,t5,n5,w5⟩;obtain ⟨hD,hw⟩:=turn i n zs H5 w5)|(subst hr;refine cx h6 λ_ s7 (x,H7,I7,r7,y7,t7,n7)=>?_)|(refine dN _hk λ_r1 _ _ _hl=>?_)|(have kl:k<due.length:=by rw[<-ra.1];exact (IC.mp hb).1)|(refine EE ?_;intro D' r7 r6 r5 r4 r3 r2 r1)|(have hT:s.TypeIs 367 "set_iterator" :=(_,hI,rfl))|(exact absurd cw 41)|(refine Cl ?_;intro D' r3 r2 r1)|(clear h_ _hi _hj _hk;subst _r1)|(refine cA _hi λhw _hj=>?_)|(have np:¬(p≠p/\(H1 p=none∨Z p)):=λz=>z.1 rfl)|(clear h_ _hi;subst _r1)|(obtain ⟨σ',H',I',a,o,kvs,e,nf,p⟩:=q1;exact (σ',_,I'.thaw e nf,p))|(obtain ⟨e,he,a,rfl,_,ea⟩:=ru.at_ hy)|(intro pins s σ H x vs v us Q I rx rv h)|(refine wpAny_bind (fM hS ?_);rw[if_neg 139])|(have q:=IT.mp ok.nocell y hy;rw[z] at q;simp at q)|(replace hp1:=(f8.trans f9) _ _ hp1;replace gm:=gm.trans (f8.trans f9))|(show wpAny _ A (load s.heap.objs.size>>=_) _ _ _)|(intro pins s σ H Q I h)|(have hli:s1.heap.IsList a its.toArray:=pl.isList)|(refine dR NC.net.ex λdx td tl al pl fs _hi=>?_)|(clear _hi _hj _hk _hl;subst _r1;rw[aL hw] at hQ)|(simp only[SetTable.fits,II,beq_iff_eq] at ft)|(rw[IG] at hy;obtain ⟨z,hz,rfl⟩:=IF.mp hy)|(injection h1 with h1)|(have ft:=af ntt 272)|(generalize aK H2 le 149=H3 at ge⊢;have k3:=k2.trans ge)|(clear _hi _hj _hk _hl _hm;subst _r1)|(refine cA _hk λN q=>?_)|(refine iO h λx t _hi=>?_)|(obtain ⟨oc,od,kV,doc,pm,an,cdv,ct,osl,rfl,lk,hcd⟩:=F.ex)|(refine (ν,aJ lp _ (rfl,aD.of (g0 _ _ el),λp1 np1=>?_)))|(rw[Heap.size_push];simp only[IK,not_or])|(refine ip _hi λ_r1 nl g1 el lC _hj=>?_)|(obtain ⟨z,hd,vs,rel,dd⟩:=mR I.hok e)|(simp only[IK,Iz,or_false] at hb)|(obtain ⟨z,its,n,r,hl,e⟩:=I.lstM hH)|(obtain ⟨c1,e,ec1⟩:=raG;rw[e] at ew)|(rintro i m σ H ⟨rfl,hi,p⟩)|(subst ex;obtain rfl:u=Value.ref a:=rx)|(rw[if_pos c1] at h;injection h with h)|(have ge:=af nle 149)|(simp only[Jn,if_false])|(refine wpAny_pure ?_)|(refine iO _hj λtw uw _hk=>?_)|(refine iC _hk λ_r1 _ _hl=>?_)|(have q:=IT.mp ok.loc y hy;rw[z] at q)|(refine (rfl,xg 328 328))|(exact (λz=>hZ a h (z▸hp),.inr h))|(obtain ⟨vt,et,rT⟩:=id hT)|(apply wpAny_pure)|(refine dN _hi λetp etd hT _hj=>?_)|(obtain ⟨vs,rel,D⟩:=jX I hz hd)|(intro pins s σ H R I h)|(refine wpAny_bind ?_)|(obtain ⟨vs,el,rT⟩:=_r1)|(obtain ⟨us,eu,ru⟩:=hp2)|(rw[e] at q;exact q)|(rw[kk1,du 78])
namespace HT
open PySem PyProof.Rows
section
variable {prog:Program} {w:World} {A:Around} {E:KY} {s:Shared}
noncomputable def gi (n d:Nat):Option Int->Nat
 |none=>d
 |some v=>if v<0 then (v+(n:Int)).toNat else min v.toNat n
universe z0
universe HT
namespace L2
open PySem PySem.Spec PyProof.Rows
abbrev TO:=St->Hp->(Option Int->Hp->Prop)->Prop
def PO (X:Cx) (e:Option Expr) (t:TO):Prop:=
 ∀(pins:La) (s:Shared) (σ:St) (H:Hp) (Q:Option Int->Hp->Prop),aY X pins σ H s->t σ H Q->
  wpAny 136 X.A (evalPart e X.env) (λu s'=>∃o H',aY X pins σ H' s'/\IsPart u o/\Q o H') X.xe s
def Az:TO:=λ_ H Q=>Q none H
def Eh (t:TE):TO:=λσ H Q=>t σ H λx H1=>∃i,x= .int i/\Q (some i) H1
section
variable {X:Cx} {e:Expr} {te:TE} {lo hi:Option Expr} {tl th:TO} {pos p2:Pos}
theorem bO:PO X none Az:=by
 sleep 100;rw[evalPart_none];exact wpAny_pure (none,H,I,.none,h)
theorem bH (h:PE X e te):PO X (some e) (Eh te):=by
 intro pins s σ H Q I hw;rw[evalPart_some];refine cx (h pins s σ H _ I hw) λu s1 (x,H1,I1,r1,q1)=>?_
 obtain ⟨i,rfl,q⟩:=q1;obtain ⟨t,rfl⟩:=r1;exact (some i,H1,I1,.int i t,q)
def Gg (X:Cx) (r:V->Option Int->Option Int->Hp->VK->Prop):Prop:=
 ∀(pins:La) (s:Shared) (σ:St) (H:Hp) (x:V) (v vl vu:Value) (lo hi:Option Int) (sl:Addr) (Q:VK),aY X pins σ H s->RelV x v->s.heap.IsSliceOf sl vl vu .none->IsPart vl lo->IsPart vu hi->r x lo hi H Q->
  ∃T id,typeLookup (.type T) "__getitem__" =pure (some 499)/\s.TypeIs v T/\wpAny 136 X.A (getItem v (.ref sl)) 490 X.xe s
def HU (r:V->Option Int->Option Int->Hp->VK->Prop) (te:TE) (tl th:TO):TE:=λσ H Q=>te σ H λx H1=>tl σ H1 λl H2=>th σ H2 λu H3=>r x l u H3 Q
theorem bu {r:V->Option Int->Option Int->Hp->VK->Prop} (hr:Gg X r) (he:PE X e te) (hl:PO X lo tl) (hu:PO X hi th):PE X (.Subscript e (.Slice lo hi none p2) pos) (HU r te tl th):=by
 sleep 100;refine Subscript_ (cx 379 λv s1 (x,H1,I1,r1,q1)=>?_)
 refine wpAny_Slice (cx (hl pins s1 σ H1 _ I1 q1) λvl s2 (l,H2,I2,pl,q2)=>cx (hu pins s2 σ H2 _ I2 q2) λvu s3 (u,H3,I3,pu,q3)=>?_)
 rw[evalPart_none];sleep 125;have I4:aY X pins σ H3 {s3 with heap:=s3.heap.push 321}:=I3.kept (t':=s3.toks) λb ob q=>116 _ q
 obtain ⟨T,id,hT,ht,hg⟩:=hr pins {s3 with heap:=s3.heap.push 321} σ H3 x v vl vu l u s3.heap.objs.size Q I4 r1 (Heap.IsSliceOf.new ..) pl pu q3
 show wpAny 136 X.A (subscriptTail e (.Slice lo hi none p2) v (.ref s3.heap.objs.size)) 490 X.xe {s3 with heap:=s3.heap.push 321}
 exact tail_any (ops:= [.ref s3.heap.objs.size,v]) ht hT hg 133
noncomputable def gU (xs:List V) (lo hi:Option Int):List V:=(xs.drop (HT.gi 138 0 lo)).take (HT.gi 138 138 hi-HT.gi 138 0 lo)
theorem rO (xs:List V) (lo hi:Option Int):(gU xs lo hi).length<=xs.length:=by
 unfold gU;rw[IR,Io]
 lia
universe z0
noncomputable def yu (n:Nat) (i:Int):Option Nat:=if 0<=i then (if i<n then some i.toNat else none) else if-(n:Int)<=i then some (i+n).toNat else none
noncomputable def io {α:Type} (xs:List α) (i:Int):Option α:=(yu 138 i).bind λj=>xs[j]?
theorem vx {n:Nat} {i:Int} {j:Nat} (h:yu n i=some j):seqIndex? i n=some j/\j<n/\ -(n:Int)<=i/\i<n:=by
 unfold yu at h
 by_cases h0:0<=i
 ·rw[if_pos h0] at h
  by_cases h1:i<n
  ·rw[if_pos h1] at h;have e:i.toNat=j:=JW h;exact (by rw[seqIndex_of h0 h1,e],by lia,by lia,h1)
  ·rw[if_neg h1] at h;cases h
 ·rw[if_neg h0] at h
  by_cases h1: -(n:Int)<=i
  ·rw[if_pos h1] at h;have e:(i+n).toNat=j:=JW h;exact (by rw[seqIndex_neg 78 h1,e],by lia,h1,by lia)
  ·rw[if_neg h1] at h;cases h
theorem qo {α:Type} {xs:List α} {i:Int} {v:α} (h:io xs i=some v):∃j,seqIndex? i 138=some j/\xs[j]?=some v/\j<xs.length/\ -(xs.length:Int)<=i/\i<xs.length:=by
 unfold io at h;cases e:yu xs.length i with
 |none=>rw[e] at h;cases h
 |some j=>
  rw[e] at h;obtain ⟨h1,h2,h3,h4⟩:=vx e;exact (j,h1,h,h2,h3,h4)
theorem aS {α:Type} {xs:List α} {j:Nat} {v:α} (h:xs[j]?=some v):io xs (j:Int)=some v:=by
 have hj:j<xs.length:=(IC.mp h).1;have e:yu 138 (j:Int)=some j:=by
  unfold yu;rw[if_pos 78,if_pos 78];simp
 unfold io;rw[e];exact h
theorem rP {α:Type} (xs:List α) (v:α):io (xs++ [v]) (-1)=some v:=by
 have hl:(xs++ [v]).length=138+1:=by simp
 have e:yu (xs++ [v]).length (-1)=some xs.length:=by
  unfold yu;rw[hl,if_neg 41,if_pos 78]
  congr 1
  lia
 unfold io;rw[e];show (xs++ [v])[xs.length]?=some v;simp
def AA (b:Expr):Prop:=∀o i,subscripted b false o i=operate [o,i] (getItem o i)
def DV (X:Cx) (r:R2):Prop:=
 ∀(value slice:Expr) (pins:La) (s:Shared) (σ:St) (H:Hp) (x y:V) (v u:Value) (Q:VK),aY X pins σ H s->RelV x v->RelV y u->r x y H Q->
  subscripted slice false v u=operate [v,u] (getItem v u)->wpAny 136 X.A (subscriptTail value slice v u) 490 X.xe s
def GJ (X:Cx) (id:String) (r:V->List V->Hp->VK->Prop):Prop:=
 ∀(pins:La) (s:Shared) (σ:St) (H:Hp) (x:V) (xs:List V) (v:Value) (us:Ld) (Q:VK),aY X pins σ H s->RelV x v->bN xs us->r x xs H Q->
  wpAny 136 X.A (call 499 (v::us)) 490 X.xe s
section
variable {X:Cx} {a b:Expr} {ta tb:TE} {pos:Pos}
theorem ao {r:R2} (hr:DV X r) (ha:PE X a ta) (hb:PE X b tb) (hs:AA b):PE X (.Subscript a b pos) (Ge r ta tb):=by
 sleep 100;exact Subscript_ (BW ha hb I h λv u s2 x y H2 I2 rx ry q=>hr a b pins s2 σ H2 x y v u Q I2 rx ry q (hs _ _))
def Ei (K:IE):R2:=λx y H Q=>∃p xs i v,x= .ref p/\y= .int i/\aD K H p xs/\io xs i=some v/\Q v H
def Ej (K:IE):R2:=λx y H Q=>∃p xs i v,x= .ref p/\y= .int i/\bg K H p xs/\io xs i=some v/\Q v H
def GK:R2:=λx y H Q=>∃z i c,x= .str z/\y= .int i/\z.length<=sizeLine/\io z.cps.toList i=some c/\Q (.str ⟨#[c]⟩) H
theorem aM:DV X (Ei X.K):=by
 intro value slice pins s σ H x y v u Q I rx ry h hs;obtain ⟨p,xs,i,z,rfl,rfl,hq,he,q⟩:=h;cases rx;obtain ⟨t,rfl⟩:=ry;obtain ⟨its,r,pl,hz⟩:=I.list hq;obtain ⟨j,h1,h2,h3,h4,h5⟩:=qo he;obtain ⟨w,ew,rw'⟩:=r.get h2;have hl:=r.length;have hn:=km;have fin:EP X pins σ Q w s:=(z,H,I,rw',q)
 by_cases h0:0<=i
 ·have hj:i.toNat=j:=by
   rw[seqIndex_of h0 h5] at h1;exact JW h1
  exact item_listR pl.isList h0 78 (by rw[hj];simpa using ew) fin hs
 ·have hj:(i+378).toNat=j:=by
   rw[seqIndex_neg 78 h4] at h1
   rw[IY,<-hl];exact JW h1
  exact subscriptTail_builtinR (x:=w) pl.isList.typeIs slot_list_getitem.lookup
   (wpAny_getItem_list_neg (Q:=λr s'=>r=w/\EP X pins σ Q r s') pl.isList 78 (by rw[IY]<;>lia) 78 (by rw[hj];simpa using ew) ⟨rfl,fin⟩) hs
theorem aA:DV X (Ej X.K):=by
 intro value slice pins s σ H x y v u Q I rx ry h hs;obtain ⟨p,xs,i,z,rfl,rfl,hq,he,q⟩:=h;cases rx;obtain ⟨t,rfl⟩:=ry;obtain ⟨its,r,pl,hz⟩:=I.tuple hq;obtain ⟨j,h1,h2,h3,h4,h5⟩:=qo he;obtain ⟨w,ew,rw'⟩:=r.get h2;have hl:=r.length;have hn:=km;have fin:EP X pins σ Q w s:=(z,H,I,rw',q);exact subscriptTail_builtinR (x:=w) pl.typeIs slot_tuple_getitem.lookup
  (getItem_tuple (j:=j) (Q:=λr s'=>r=w/\EP X pins σ Q r s') pl 78 78 (by rw[IY,<-hl];exact h1) (by simpa using ew) ⟨rfl,fin⟩) hs
theorem uk:DV X GK:=by
 intro value slice pins s σ H x y v u Q I rx ry h hs;obtain ⟨z,i,c,rfl,rfl,hz,he,q⟩:=h;obtain ⟨t,rfl⟩:=rx;obtain ⟨t',rfl⟩:=ry;obtain ⟨j,h1,h2,h3,h4,h5⟩:=qo he;have hl:z.cps.toList.length=z.length:=by simp[Str.length]
 rw[hl] at h1 h4 h5;have hn:=km;exact tail_any (typeIs_str s z t) slot_str_getitem.lookup (getItem_str (c:=c) (by
  have e1:decide (i< -(2^63:Int))=false:=decide_eq_false 78
  have e2:decide (i≥2^63)=false:=decide_eq_false 78
  rw[e1,e2,KF]) (by rw[h1];simpa using h2) ⟨.str ⟨#[c]⟩,H,I.tok _,502,q⟩) hs
theorem um (its:Ld) (n j:Nat) (u:Value):Obj.mapSeq (·.setIfInBounds j u) 226={cls:= .type "list",data:= .seq (its.set j u).toArray n}:=by
 simp[Obj.mapSeq]
theorem aY.lst {pins:La} {σ:St} {H:Hp} {s:Shared} {p:Addr} {xs:List V} (I:aY X pins σ H s) (h:H p=some 398):
  ∃(its:Ld) (n:Nat),bN xs its/\s.heap.get? p=some 226/\xs.length<=sizeLine:=by
 obtain ⟨z,its,n,r,e⟩:=I.hok p _ h;exact (its,n,r,e,z)
theorem aY.lstUpd {pins:La} {σ:St} {H:Hp} {s:Shared} {p:Addr} {xs ys:List V} {its its':Ld} {n n':Nat} {f:Obj->Obj} (I:aY X pins σ H s) (h:H p=some 398)
  (ho:s.heap.get? p=some 226) (hf:f 226={cls:= .type "list",data:= .seq its'.toArray n'}) (r:bN ys its') (hz:ys.length<=sizeLine) (t:Nat):
  aY X pins σ (aK H p 297) {s with heap:=s.heap.update p f,toks:=t}:=by
 have e:(s.heap.update p f).get? p=some {cls:= .type "list",data:= .seq its'.toArray n'}:=by
  rw[Heap.get?_update_self f ho (by rw[hf]<;>rfl),hf]
 refine I.write (x:=p) (e:=p) (by rw[h];trivial) 471 (λb u hb q=>(Heap.get?_update_other _ _ (Ne.symm hb)).trans q) (_,e) ?_
 exact (hz,its',n',r,e)
def Ek:V->V->V->Hp->(Hp->Prop)->Prop:=λo i v H Q=>∃p xs k j,o= .ref p/\i= .int k/\H p=some 398/\yu 138 k=some j/\Q (aK H p (.lst (xs.set j v)))
theorem set_list:D8 X Ek:=by
 intro pins s σ H o i v ov iv u Q I ro ri rv h;obtain ⟨p,xs,k,j,rfl,rfl,hp,hj,q⟩:=h;cases ro;obtain ⟨t,rfl⟩:=ri;obtain ⟨its,n,r,ho,hz⟩:=I.lst hp;obtain ⟨h1,h2,h3,h4⟩:=vx hj;have hl:=r.length;have hn:=km;have I':aY X pins σ (aK H p (.lst (xs.set j v))) {s with heap:=s.heap.update p (Obj.mapSeq (·.setIfInBounds j u))}:=
  I.lstUpd hp ho (um its n j u) (r.set rv j) (by rw[List.length_set];exact hz) s.toks
 by_cases h0:0<=k
 ·have hk:k.toNat=j:=by
   rw[seqIndex_of h0 h4] at h1;exact JW h1
  exact PySem.W.ki_setAt ho h0 78 (by rw[IY,<-hl];exact h4) (by rw[hk];exact (_,I',q))
 ·have hk:(k+378).toNat=j:=by
   rw[seqIndex_neg 78 h3] at h1
   rw[IY,<-hl];exact JW h1
  exact PySem.W.ki_setBack ho 78 (by rw[IY,<-hl];exact h3) 78 (by rw[hk];exact (_,I',q))
theorem qq (lo hi:Option Int) (n:Nat):(sliceBounds lo hi none n).1=((HT.gi n 0 lo:Nat):Int)/\(sliceBounds lo hi none n).2.1=((HT.gi n n hi:Nat):Int)/\(sliceBounds lo hi none n).2.2=1:=by
 refine (?_,?_,rfl)
 ·cases lo with
  |none=>simp[sliceBounds,HT.gi]
  |some i=>
   simp only[sliceBounds,HT.gi,Option.getD_none,show (1:Int)>0 by decide,if_true]
   by_cases h:i<0
   ·simp only[h,if_true]<;>lia
   ·simp only[h,if_false]<;>lia
 ·cases hi with
  |none=>simp[sliceBounds,HT.gi]
  |some i=>
   simp only[sliceBounds,HT.gi,Option.getD_none,show (1:Int)>0 by decide,if_true]
   by_cases h:i<0
   ·simp only[h,if_true]<;>lia
   ·simp only[h,if_false]<;>lia
theorem oy (its:Ld) (lo hi:Option Int):slicePick its.toArray lo hi none=((its.drop (HT.gi its.length 0 lo)).take (HT.gi its.length its.length hi-HT.gi its.length 0 lo)).toArray:=by
 obtain ⟨h1,h2,h3⟩:=qq lo hi its.toArray.size;unfold slicePick;rw[h1,h2,h3];simp only[sliceRange_one,pick_run,IY]<;>rfl
def El (K:IE):V->Option Int->Option Int->Hp->VK->Prop:=λx lo hi H Q=>∃a xs,x= .ref a/\aD K H a xs/\∀p,H p=none->Q 181 (aK H p (.lst (gU xs lo hi)))
theorem ce:Gg X (El X.K):=by
 intro pins s σ H x v vl vu lo hi sl Q I rx hs pl pu h;obtain ⟨a,xs,rfl,hx,q⟩:=h;cases rx;obtain ⟨its,r,ht,hz⟩:=I.list hx;have hlen:=r.length;exists "list",_,slot_list_getitem.lookup,ht.isList.typeIs;refine wpAny_getItem_list_slice ht.isList hs pl pu .none 139 ?_ (by rw[IY]<;>lia)
 rw[oy,<-hlen];refine (.ref 52,_,I.laid (t':=s.toks) (o:= .lst (gU xs lo hi)) (λb ob q=>116 _ q) 249 ?_,rfl,q _ (I.hok.fresh 249))
 exact (J8 (rO xs lo hi) hz,_,0,(r.drop (HT.gi 138 0 lo)).take (HT.gi 138 138 hi-HT.gi 138 0 lo),130 _ rfl)
noncomputable def iP:V->Bool
 | .non=>true
 | .bl _=>true
 | .int _=>true
 | .str _=>true
 |_=>false
noncomputable def Ah:V->V->Bool
 | .non,.non=>true
 | .bl a,.bl b=>a==b
 | .bl a,.int b=>(if a then 1 else 0)==b
 | .int a,.bl b=>a==(if b then 1 else 0)
 | .int a,.int b=>a==b
 | .str a,.str b=>a==b
 |_,_=>false
theorem BY {A:Around} {s:Shared} {y x:V} {u v:Value} (ry:RelV y u) (rx:RelV x v) (fy:iP y=true) (fx:iP x=true):SeqAt.EqAt A s u v (Ah y x):=by
 cases y with
 |non=>
  cases ry;cases x with
  |non=>cases rx;exact SeqAt.EqAt.same _
  |bl b=>cases rx;exact SeqAt.EqAt.none_bool b
  |int b=>obtain ⟨t,rfl⟩:=rx;exact SeqAt.EqAt.none_int b t
  |str b=>obtain ⟨t,rfl⟩:=rx;exact SeqAt.EqAt.none_str b t
  |_=>exact absurd (show false=true from fx) Iy
 |bl a=>
  cases ry;cases x with
  |non=>cases rx;exact SeqAt.EqAt.bool_none a
  |bl b=>cases rx;exact SeqAt.EqAt.bool_bool a b
  |int b=>obtain ⟨t,rfl⟩:=rx;exact SeqAt.EqAt.bool_int a b t
  |str b=>obtain ⟨t,rfl⟩:=rx;exact SeqAt.EqAt.bool_str a b t
  |_=>exact absurd (show false=true from fx) Iy
 |int a=>
  obtain ⟨t',rfl⟩:=ry;cases x with
  |non=>cases rx;exact SeqAt.EqAt.int_none a t'
  |bl b=>cases rx;exact SeqAt.EqAt.int_bool a t' b
  |int b=>obtain ⟨t,rfl⟩:=rx;exact SeqAt.EqAt.int_int a t' b t
  |str b=>obtain ⟨t,rfl⟩:=rx;exact SeqAt.EqAt.int_str a t' b t
  |_=>exact absurd (show false=true from fx) Iy
 |str a=>
  obtain ⟨t',rfl⟩:=ry;cases x with
  |non=>cases rx;exact SeqAt.EqAt.str_none a t'
  |bl b=>cases rx;exact SeqAt.EqAt.str_bool a t' b
  |int b=>obtain ⟨t,rfl⟩:=rx;exact SeqAt.EqAt.str_int a t' b t
  |str b=>obtain ⟨t,rfl⟩:=rx;exact SeqAt.EqAt.str_str a t' b t
  |_=>exact absurd (show false=true from fx) Iy
 |_=>exact absurd (show false=true from fy) Iy
noncomputable def uo (x:V) (u:Value):Bool:=match u with
 | .none=>Ah .non x
 | .bool b=>Ah (.bl b) x
 | .int i _=>Ah (.int i) x
 | .str z _=>Ah 456 x
 |_=>false
theorem yw {x y:V} {u:Value} (r:RelV y u) (f:iP y=true):uo x u=Ah y x:=by
 cases y with
 |non=>cases r;rfl
 |bl b=>cases r;rfl
 |int i=>obtain ⟨t,rfl⟩:=r;rfl
 |str z=>obtain ⟨t,rfl⟩:=r;rfl
 |_=>exact absurd (show false=true from f) Iy
theorem jP {x:V}:∀{xs:List V} {us:Ld},bN xs us->xs.all iP=true->us.any (uo x)=xs.any λy=>Ah y x
 |_,_,.nil,_=>rfl
 |y::xs,u::us,.cons r t,f=>by
  rw[List.all_cons,II] at f;rw[Jo,Jo,yw r f.1,jP t f.2]
theorem iQ {A:Around} {s:Shared} {x:V} {v:Value} (rx:RelV x v) (fx:iP x=true):∀{xs:List V} {us:Ld},bN xs us->xs.all iP=true->∀u∈us,SeqAt.EqAt A s u v (uo x u)
 |_,_,.nil,_=>λu hu=>by cases hu
 |y::xs,u::us,.cons r t,f=>λu' hu=>by
  rw[List.all_cons,II] at f;rcases IK.mp hu with rfl|hu
  ·rw[yw r f.1];exact BY r rx f.1 fx
  ·exact iQ rx fx t f.2 u' hu
noncomputable def uq (x:V) (xs:List V):Bool:=xs.any λy=>Ah y x
def GL (K:IE) (neg:Bool):R2:=λx y H Q=>∃p xs,y= .ref p/\(aD K H p xs∨bg K H p xs)/\iP x=true/\xs.all iP=true/\Q (.bl (if neg then !uq x xs else uq x xs)) H
theorem da:iL X (compareOp .In) (GL X.K false):=by
 sleep 62;obtain ⟨p,xs,rfl,hq,fx,fs,q⟩:=h;cases ry;rcases hq with hq|hq
 ·obtain ⟨its,r,pl,hz⟩:=I.list hq;refine SeqAt.in_listAt (uo x) pl.isList 274 460
  sleep 69
  exact q
 ·obtain ⟨its,r,pl,hz⟩:=I.tuple hq;refine SeqAt.in_tupleAt (uo x) pl 274 460
  sleep 69
  exact q
theorem jQ:iL X (compareOp .NotIn) (GL X.K true):=by
 sleep 62;obtain ⟨p,xs,rfl,hq,fx,fs,q⟩:=h;cases ry;rcases hq with hq|hq
 ·obtain ⟨its,r,pl,hz⟩:=I.list hq;refine SeqAt.notIn_listAt (uo x) pl.isList 274 460
  sleep 69
  exact q
 ·obtain ⟨its,r,pl,hz⟩:=I.tuple hq;refine SeqAt.notIn_tupleAt (uo x) pl 274 460
  sleep 69
  exact q
theorem qr:iL X (compareOp .NotIn) (λx y H Q=>∃i j,x= .str i/\y= .str j/\Q (.bl (!(!(Builtin.Str.occurrences j i 0 j.length 1).isEmpty))) H):=by
 sleep 62;obtain ⟨i,j,rfl,rfl,q⟩:=h;obtain ⟨t,rfl⟩:=rx;obtain ⟨t',rfl⟩:=ry;exact notIn_str (.bl _,H,I,rfl,q)
theorem ar:eY X 372 (λxs H Q=>∃p ys,xs= [.ref p]/\(aD X.K H p ys∨bg X.K H p ys)/\Q (.int ys.length) H):=by
 sleep 52;obtain ⟨p,ys,rfl,hq,q⟩:=h;obtain ⟨u,rfl,rx⟩:=vals1 r;cases rx;have hn:=km;rcases hq with hq|hq
 ·obtain ⟨its,r',pl,hz⟩:=I.list hq;have hlen:=r'.length;exact Calls.call_len_list pl.isList 436 (.int ys.length,H,I.tok _,(s.toks+1,by rw[IY,hlen]),q)
 ·obtain ⟨its,r',pl,hz⟩:=I.tuple hq;have hlen:=r'.length;exact len_tuple pl 436 (.int ys.length,H,I.tok _,(s.toks+1,by rw[IY,hlen]),q)
theorem jR:eY X 372 (λxs H Q=>∃z,xs= [.str z]/\z.length<=sizeLine/\Q (.int z.length) H):=by
 sleep 52;obtain ⟨z,rfl,hz,q⟩:=h;obtain ⟨u,rfl,t,rfl⟩:=vals1 r;have hn:=km;exact len_str 78 (.int z.length,H,I.tok _,⟨ν⟩,q)
theorem cy:eY X (.type "list") (λxs H Q=>∃p ys,xs= [.ref p]/\(aD X.K H p ys∨bg X.K H p ys)/\∀l,H l=none->Q 271 (aK H l 297)):=by
 sleep 52;obtain ⟨p,ys,rfl,hq,q⟩:=h;obtain ⟨u,rfl,rx⟩:=vals1 r;cases rx;have fin:∀(its:Ld),bN ys its->ys.length<=sizeLine->∀(h':Heap) (c':Nat),(∀b o',s.heap.get? b=some o'->h'.get? b=some o')->
   h'.get? 52=some {cls:= .type "list",dict:=none,data:= .seq its.toArray c',slots:= #[]}->EP X pins σ Q 267 {s with heap:=h'}:=λits r' hz h' c' kp e=>
  ⟨.ref 52,_,I.laid (t':=s.toks) kp 249 (show cR X.prog X.w _ h' _ 297 from ⟨hz,its,c',r',e⟩),rfl,q _ (I.hok.fresh 249)⟩
 rcases hq with hq|hq
 ·obtain ⟨its,r',pl,hz⟩:=I.list hq;have hlen:=r'.length;obtain ⟨o,ho,hc,n,hd⟩:=pl.isList;exact call_list_seq p 471 ho hc hd (λh' c' kp e=>fin its r' hz h' c' kp e) 436
 ·obtain ⟨its,r',pl,hz⟩:=I.tuple hq;have hlen:=r'.length;obtain ⟨o,ho,hc,n,hd⟩:=pl;exact call_list_seq p (.inr rfl) ho hc hd (λh' c' kp e=>fin its r' hz h' c' kp e) 436
def GM (K:IE) (T:String) (x:V) (H:Hp):Prop:=match x with
 | .str _=>T= "str"
 | .int _=>T= "int"
 | .ref p=>(T= "list" /\∃xs,aD K H p xs)∨(T= "tuple" /\∃o,K.lookup p=some o/\o.cls= .type "tuple" /\o.dict=none)∨
   (T= "dict" /\((∃kvs,H p=some 162)∨∃kvs,H p=some 423))∨(T= "set" /\∃S n,H p=some (.set S n))
 |_=>False
theorem yx {pins:La} {σ:St} {H:Hp} {s:Shared} {T:String} {x:V} {v:Value} (I:aY X pins σ H s) (r:RelV x v) (ty:GM X.K T x H):
  s.TypeIs v T/\∀a,v= .ref a->∃ob,s.heap.get? a=some ob/\ob.dict=none:=by
 cases x with
 |str z=>
  obtain ⟨t,rfl⟩:=r;cases (show T= "str" from ty)
  exact (typeIs_str s z t,λ_ e=>nomatch e)
 |int i=>
  obtain ⟨t,rfl⟩:=r;cases (show T= "int" from ty)
  exact (typeIs_int s i t,λ_ e=>nomatch e)
 |ref p=>
  cases r;rcases ty with ⟨rfl,xs,hq⟩|⟨rfl,o,hk,hc,hd⟩|⟨rfl,hk⟩|⟨rfl,S,n,hk⟩
  ·obtain ⟨its,_,pl,_⟩:=I.list hq;refine (pl.isList.typeIs,λa e=>?_)
   cases e;obtain ⟨o,n,e,c,hd,_⟩:=pl;exact (o,e,hd)
  ·refine ((o,I.kIn p o hk,hc),λa e=>?_)
   cases e;exact (o,I.kIn _ o hk,hd)
  ·have z:∃o,s.heap.get? p=some o/\o.ExactDict:=by
    rcases hk with ⟨kvs,hk⟩|⟨kvs,hk⟩
    ·obtain ⟨_,_,_,_,o,_,_,e,ex,_⟩:=I.hok p _ hk;exact (o,e,ex)
    ·obtain ⟨_,_,_,_,o,_,_,e,ex,_⟩:=I.hok p _ hk;exact (o,e,ex)
   obtain ⟨o,e,ex⟩:=z;refine ((o,e,ex.1),λa e2=>?_)
   cases e2;exact (o,e,ex.2.1)
  ·obtain ⟨o,_,_,_,e,ex,_⟩:=I.hok p _ hk;refine ((o,e,ex.1),λa e2=>?_)
   cases e2;exact (o,e,ex.2.1)
 |_=>exact False.elim ty
def GN (K:IE) (T:String) (r:V->List V->Hp->VK->Prop) (to:TE):TE:=λσ H Q=>to σ H λx H1=>GM K T x H1/\r x [] H1 Q
def HV (K:IE) (T:String) (r:V->List V->Hp->VK->Prop) (to:TE) (t:TA):TE:=λσ H Q=>to σ H λx H1=>GM K T x H1/\t σ H1 λxs H2=>r x xs H2 Q
variable {o e:Expr} {es:List Expr} {to:TE} {t:TA} {name:Str} {apos cpos:Pos} {T id:String} {r:V->List V->Hp->VK->Prop}
theorem qu (pa:PlainAttrs T) (slot:Slot T name id) (hty:typeOf 499=pure (.type "method_descriptor")) (hm:GJ X id r) (ho:PE X o to)
  (hbase:attributeBase o name X.env (eval o X.env)=eval o X.env:=by rfl) (hline:(apos.endLine==cpos.line)=true:=by rfl):PE X (.Call (.Attribute o name apos) [] [] cpos) (GN X.K T r to):=by
 sleep 100;refine wpAny_Call_method0_late hbase hline (cx 461 λv s1 (x,H1,I1,r1,ty,q1)=>?_)
 obtain ⟨h1,h2⟩:=yx I1 r1 ty;exact (T,id,pa,slot,hty,h1,h2,Calls.callWith_builtin rfl (PySem.evalArgs_none (hm pins s1 σ H1 x [] v [] Q I1 r1 .nil q1)))
theorem de (pa:PlainAttrs T) (slot:Slot T name id) (hty:typeOf 499=pure (.type "method_descriptor")) (hm:GJ X id r) (ho:PE X o to) (ha:PA X (e::es) t)
  (hbase:attributeBase o name X.env (eval o X.env)=eval o X.env:=by rfl)
  (hfew:((backTo cpos (starEach (e::es) X.env)).all (λx=> !x.1)&&(backToKw cpos (keywordEach [] X.env)).all (λx=>x.1.isSome)
   &&decide ((e::es).length+([]:List Keyword).length+(if ([]:List Keyword).isEmpty then 0 else 1)<30))=true:=by rfl)
  (hline:(apos.endLine==cpos.line)=true:=by rfl) (hs:starEach (e::es) X.env=(false,eval e X.env)::starEach es X.env:=by rfl) (hplain:(backTo cpos 429).any 201=false:=by rfl):
  PE X (.Call (.Attribute o name apos) (e::es) [] cpos) (HV X.K T r to t):=by
 sleep 100;refine wpAny_Call_method_late hbase hfew hline rfl (cx 461 λv s1 (x,H1,I1,r1,ty,q1)=>?_)
 obtain ⟨h1,h2⟩:=yx I1 r1 ty;exists T,id,pa,slot,hty,h1,h2;have hA:=ha cpos pins s1 σ H1 _ I1 q1;rw[hs] at hA⊢;refine Calls.callWith_builtin (by show (false||(backTo cpos 429).any 201)=false;rw[hplain]<;>rfl) (Calls.evalArgs_plain ?_)
 exact cx hA λus s2 (vs,H2,I2,r2,q2)=>hm pins s2 σ H2 x vs v us Q I2 r1 r2 q2
universe z0
def Gh (X:Cx) (id:String) (r:V->List V->Hp->VK->Prop):Prop:=
 ∀(pins:La) (s:Shared) (σ:St) (H:Hp) (x:V) (xs:List V) (v:Value) (us:Ld) (Q:VK),aY X pins σ H s->RelV x v->bN xs us->r x xs H Q->
  wpAny 136 X.A (call 499 (v::us)) 490 X.xe s
theorem bN.one:∀{x:V} {us:Ld},bN [x] us->∃u,us= [u]/\RelV x u
 |_,_,.cons r .nil=>⟨_,rfl,r⟩
theorem bN.zero:∀{us:Ld},bN [] us->us= []
 |_,.nil=>rfl
theorem bN.dropLast {xs:List V} {us:Ld} (h:bN xs us):bN xs.dropLast us.dropLast:=by
 induction h with
 |nil=>exact .nil
 |cons r t ih=>
  cases t with
  |nil=>exact .nil
  |cons q t'=>exact .cons r ih
theorem ur {α:Type} (l:List α):l.eraseIdx (l.length-1)=l.dropLast:=by
 induction l with
 |nil=>rfl
 |cons a r ih=>
  cases r with
  |nil=>rfl
  |cons b r=>
   have e:(a::b::r).length-1=((b::r).length-1)+1:=by
    have h1:(a::b::r).length=r.length+2:=rfl;have h2:(b::r).length=r.length+1:=rfl
    lia
   rw[e,List.eraseIdx_cons_succ,ih]
   all_goals rfl
section
variable {X:Cx} {pins:La} {σ:St} {H:Hp} {s:Shared} {l b:Addr} {xs ys zs:List V}
theorem aY.lset {its its':Ld} {n:Nat} {f:Array Value->Array Value} {t':Nat} (I:aY X pins σ H s) (hH:H l=some 398)
  (e:s.heap.get? l=some 226) (hf:f its.toArray=its'.toArray) (hv:bN ys its') (hz:ys.length<=sizeLine):
  aY X pins σ (aK H l 297) {s with heap:=s.heap.update l (Obj.mapSeq f),toks:=t'}:=by
 have q:=PySem.IsL.update e f;rw[hf] at q;refine I.write (x:=l) (e:=l) (by rw[hH];exact trivial) 471 (λb' u hb hu=>(Heap.get?_update_other s.heap (Obj.mapSeq f) (Ne.symm hb)).trans hu) (_,q) ?_
 exact (hz,its',_,hv,q)
theorem aY.lnew {its:Ld} {t':Nat} (I:aY X pins σ H s) (hv:bN ys its) (hz:ys.length<=sizeLine):
  aY X pins σ (aK H 52 297) {s with heap:=s.heap.push {cls:= .type "list",data:= .seq its.toArray},toks:=t'}:=
 I.laid (λ_ _ q=>116 _ q) 249 ⟨hz,its,0,hv,130 _ rfl⟩
theorem aY.fresh (I:aY X pins σ H s):H 52=none:=I.hok.fresh 249
theorem aY.lstM (I:aY X pins σ H s) (hH:H l=some 398):xs.length<=sizeLine/\∃(its:Ld) (n:Nat),bN xs its/\xs.length=its.length/\s.heap.get? l=some {cls:= .type "list",data:= .seq its.toArray n}:=by
 obtain ⟨z,its,n,r,e⟩:=I.hok l _ hH;exact (z,its,n,r,r.length,e)
theorem yz {n:Nat} (h:n<=sizeLine):Builtin.List.listTooLong n=false:=by
 unfold Builtin.List.listTooLong;exact decide_eq_false 78
universe z0
variable {X:Cx}
def AB:V->List V->Hp->VK->Prop:=λx vs H Q=>∃l xs y,x= .ref l/\vs= [y]/\H l=some 398/\xs.length<sizeLine/\Q .non (aK H l (.lst (xs++ [y])))
theorem bx:Gh X "list.append" AB:=by
 sleep 95;obtain ⟨l,xs,y,rfl,rfl,hH,hz,q⟩:=h;cases rx;obtain ⟨u,rfl,ru⟩:=rv.one;sleep 118;refine call_meets F.slot_list_append (_,e,rfl) F.entry_list_append (F.args_list_append_2 _ _) (PySem.list_append l its.toArray n u (by rw[IY];lia)) (e,?_)
 refine (.non,_,I.lset (its':=its++ [u]) hH e 139 (r.append (.cons ru .nil)) ?_,rfl,q)
 rw[IB,IU]
 lia
def AC:V->List V->Hp->VK->Prop:=λx vs H Q=>∃l b xs zs,x= .ref l/\vs= [.ref b]/\H l=some 398/\H b=some (.lst zs)/\xs.length+zs.length<=sizeLine/\Q .non (aK H l (.lst (xs++zs)))
theorem fB:Gh X "list.extend" AC:=by
 sleep 95;obtain ⟨l,b,xs,zs,rfl,rfl,hH,hB,hz,q⟩:=h;cases rx;obtain ⟨u,rfl,ru⟩:=rv.one;cases ru;sleep 118;obtain ⟨z2,its2,n2,r2,hl2,e2⟩:=I.lstM hB;have hsz:its.toArray.size+its2.toArray.size<=sizeLine:=by rw[IY,IY];lia
 have hlong:¬(!its.toArray.isEmpty&&Builtin.List.listTooLong (its.toArray.size+its2.toArray.size))=true:=by
  rw[yz hsz,Jh];exact Iy
 refine call_meets F.slot_list_extend (_,e,rfl) F.entry_list_extend (F.args_list_extend_2 _ _)
  (AutoSeq1.list_extend_list_list_0 l its.toArray n b its2.toArray n2 hlong (by rw[IY];lia) 78) ⟨e,e2,?_⟩
 refine (.non,_,I.lset (its':=its++its2) hH e 139 (r.append r2) ?_,rfl,q)
 rw[IB]
 lia
def GO:V->List V->Hp->VK->Prop:=λx vs H Q=>∃l xs y,x= .ref l/\vs= []/\H l=some 398/\xs[138-1]?=some y/\Q y (aK H l (.lst xs.dropLast))
theorem yA:Gh X "list.pop" GO:=by
 sleep 95;obtain ⟨l,xs,y,rfl,rfl,hH,hy,q⟩:=h;cases rx;have hus:=rv.zero;subst hus;sleep 118;obtain ⟨u,hu,ru⟩:=r.get hy;have hy':its.toArray[its.toArray.size-1]?=some u:=by
  show its.toArray[its.length-1]?=some u;rw[<-J6,<-hl];exact hu
 refine call_meets F.slot_list_pop (_,e,rfl) F.entry_list_pop (F.args_list_pop_1 _) (MeetsSeq.list_pop_last l its.toArray n u hy' (by rw[IY];lia)) (e,?_)
 refine (y,_,I.lset (its':=its.dropLast) hH e ?_ r.dropLast ?_,ru,q)
 ·show its.toArray.eraseIdxIfInBounds (its.toArray.size-1)=its.dropLast.toArray;rw[IY,List.eraseIdxIfInBounds_toArray,ur]
 ·rw[List.length_dropLast]
  lia
def GP:R2:=λx y H Q=>∃l b xs zs,x= .ref l/\y= .ref b/\H l=some 398/\H b=some (.lst zs)/\xs.length+zs.length<=sizeLine/\∀p,H p=none->Q 181 (aK H p (.lst (xs++zs)))
theorem bQ:iL X (binaryOp .Add) GP:=by
 sleep 62;obtain ⟨l,b,xs,zs,rfl,rfl,hH,hB,hz,q⟩:=h;cases rx;cases ry;sleep 118;obtain ⟨z2,its2,n2,r2,hl2,e2⟩:=I.lstM hB;refine PySem.P.add_list e e2 ?_ (by rw[IY,IY];lia)
 have ea:its.toArray++its2.toArray=(its++its2).toArray:=by simp
 rw[ea];exact (.ref _,_,I.lnew (t':=s.toks) (r.append r2) (by rw[IB];lia),rfl,q _ I.fresh)
section
variable {κ:Type} [DecidableEq κ]
noncomputable def gj (kvs:List 467) (k:κ):Option V:=(kvs.find? λkv=>decide (kv.1=k)).map (·.2)
noncomputable def putK (kvs:List 467) (k:κ) (v:V):List (κ×V):=
 if 289=true then kvs.map (λkv=>if kv.1=k then (kv.1,v) else kv) else kvs++ [(k,v)]
theorem dE {p:κ×V} {r:List 467} {k:κ} (e:p.1=k):gj (p::r) k=some p.2:=by simp[gj,Ja,e]
theorem dG {p:κ×V} {r:List 467} {k:κ} (e:¬p.1=k):gj (p::r) k=gj r k:=by simp[gj,Ja,e]
theorem jS (k:κ):∀kvs:List 467,289=(gj kvs k).isSome
 | []=>rfl
 |p::r=>by
  rw[Jo]
  by_cases e:p.1=k
  ·simp only[dE e,decide_eq_true e,KD,Option.isSome_some]
  ·rw[dG e,decide_eq_false e,JR];exact jS k r
theorem rQ (k j:κ) (y:V):∀kvs:List 467,gj 338 j=(gj kvs j).map λx=>if j=k then y else x
 | []=>rfl
 |p::r=>by
  have ih:=rQ k j y r;rw[J1]
  by_cases h:p.1=k
  ·rw[if_pos h]
   by_cases e:p.1=j
   ·rw[dE (p:=(p.1,y)) e,dE e,Jw,if_pos (e.symm.trans h)]
   ·rw[dG (p:=(p.1,y)) e,dG e,ih]
  ·rw[if_neg h]
   by_cases e:p.1=j
   ·rw[dE (p:=p) e,dE e,Jw,if_neg (λz=>h (e.trans z))]
   ·rw[dG (p:=p) e,dG e,ih]
theorem oQ (k j:κ) (y:V):∀kvs:List 467,gj kvs k=none->gj (kvs++ [(k,y)]) j=if j=k then some y else gj kvs j
 | [],_=>by
  by_cases e:k=j
  ·rw[if_pos e.symm];exact dE (p:=(k,y)) e
  ·rw[if_neg (λz=>e z.symm)];exact dG (p:=(k,y)) e
 |p::r,hn=>by
  rw[List.cons_append];have hk:¬p.1=k:=λz=>by rw[dE z] at hn;cases hn
  rw[dG hk] at hn;have ih:=oQ k j y r hn
  by_cases e:p.1=j
  ·rw[dE e,dE e,if_neg (λz=>hk (e.trans z))]
  ·rw[dG e,dG e,ih]
theorem yB (kvs:List 467) (k j:κ) (y:V):gj (putK kvs k y) j=if j=k then some y else gj kvs j:=by
 unfold putK
 by_cases a:289=true
 ·rw[if_pos a,rQ];rw[jS] at a
  by_cases e:j=k
  ·obtain ⟨x,hx⟩:=J4.mp a;rw[if_pos e,e,hx,Jw,if_pos rfl]
  ·rw[if_neg e];cases gj kvs j with
   |none=>rfl
   |some x=>rw[Jw,if_neg e]
 ·rw[if_neg a];refine oQ k j y kvs ?_;rw[jS] at a;cases q:gj kvs k with
  |none=>rfl
  |some x=>rw[q] at a;exact (a rfl).elim
theorem iR (kvs:List 467) (k:κ) (v:V):(putK kvs k v).length<=kvs.length+1:=by
 unfold putK
 split
 ·rw[I0];lia
 ·rw[IB,Iu,List.length_nil];lia
theorem jC.isSome_eq {o:Option V} {u:Lg} (r:jC o u):o.isSome=u.isSome:=by
 cases o with
 |none=>cases u with
  |none=>rfl
  |some _=>exact (show False from r).elim
 |some _=>cases u with
  |none=>exact (show False from r).elim
  |some _=>rfl
theorem jC.getD {o:Option V} {u:Lg} {d:V} {d':Value} (r:jC o u) (rd:RelV d d'):RelV (o.getD d) (u.getD d'):=by
 cases o with
 |none=>cases u with
  |none=>exact rd
  |some _=>exact (show False from r).elim
 |some _=>cases u with
  |none=>exact (show False from r).elim
  |some _=>exact r
theorem KV.val {kvs:List 467} {vs:List 523} (r:KV kvs vs) (k:κ):jC (gj kvs k) (valueAt vs k):=by
 unfold KV at r
 induction r with
 |nil=>exact True.intro
 | @cons p q ps qs h t ih=>
  obtain ⟨h1,h2⟩:=h
  by_cases e:p.1=k
  ·have e':q.1=k:=h1.symm.trans e;have b:valueAt (q::qs) k=some q.2:=by simp[valueAt,Ja,e']
   rw[dE e,b];exact h2
  ·have e':¬q.1=k:=λz=>e (h1.trans z)
   have b:valueAt (q::qs) k=valueAt qs k:=by simp[valueAt,Ja,e']
   rw[dG e,b];exact ih
theorem KV.any {kvs:List 467} {vs:List 523} (r:KV kvs vs) (k:κ):289=vs.any λkv=>decide (kv.1=k):=by
 unfold KV at r
 induction r with
 |nil=>rfl
 |cons h t ih=>rw[Jo,Jo,ih,h.1]
theorem KV.repl {kvs:List 467} {vs:List 523} (r:KV kvs vs) (k:κ) {y:V} {u:Value} (ry:RelV y u):
  KV 338 (vs.map λkv=>if kv.1=k then (kv.1,u) else kv):=by
 unfold KV at r⊢
 induction r with
 |nil=>exact .nil
 | @cons p q ps qs h t ih=>
  rw[J1,J1];refine .cons ?_ ih;obtain ⟨h1,h2⟩:=h
  by_cases e:p.1=k
  ·rw[if_pos e,if_pos (h1.symm.trans e)];exact (h1,ry)
  ·rw[if_neg e,if_neg (λz=>e (h1.trans z))];exact (h1,h2)
theorem KV.put {kvs:List 467} {vs:List 523} (r:KV kvs vs) (k:κ) {y:V} {u:Value} (ry:RelV y u):KV (putK kvs k y) (stored vs k u):=by
 unfold putK stored;rw[r.any k]
 by_cases e:(vs.any λkv=>decide (kv.1=k))=true
 ·rw[if_pos e,if_pos e];exact r.repl k ry
 ·rw[if_neg e,if_neg e];exact Paired.snoc r (rfl,ry)
theorem KV.length {kvs:List 467} {vs:List 523} (r:KV kvs vs):kvs.length=vs.length:=Paired.length r
universe z0
theorem mQ {P:Program} {w:World} {k:Key} {u:Value} (r:RelV (kV k) u):(aU P w).is k u=true:=by
 cases k with
 |inl i=>obtain ⟨t,e⟩:=(show ∃t,u=Value.int i t from r);subst e;exact rH P w i t
 |inr x=>obtain ⟨t,e⟩:=(show ∃t,u=Value.str x t from r);subst e;exact rJ P w x t
theorem oR {P:Program} {w:World}:∀{ks:List Key} {us:Ld},bN (ks.map kV) us->ItemsAre (aU P w) ks us
 | [],_,r=>by rw[List.map_nil] at r;cases r;exact .nil
 |k::ks,_,r=>by
  rw[J1] at r;cases r with
  |cons h t=>exact .cons (mQ h) (oR t)
abbrev KT (H:Hp):List 269->List 314->Prop:=Paired λp q=>p.1=q.1/\H q.2.1=some (.tup (p.1.map kV))/\RelV p.2 q.2.2
theorem KT.val {H:Hp} {kvs:List 269} {xs:List 314} (r:KT H kvs xs) (k:List Key):jC (gj kvs k) ((atKey xs k).map (·.2)):=by
 induction r with
 |nil=>exact True.intro
 | @cons p q ps qs h t ih=>
  obtain ⟨h1,_,h2⟩:=h
  by_cases e:p.1=k
  ·have e':q.1=k:=h1.symm.trans e;have b:atKey (q::qs) k=some q.2:=by simp[atKey,Ja,e']
   rw[dE e,b];exact h2
  ·have e':¬q.1=k:=λz=>e (h1.trans z)
   have b:atKey (q::qs) k=atKey qs k:=by simp[atKey,Ja,e']
   rw[dG e,b];exact ih
theorem KT.repl {H:Hp} {kvs:List 269} {xs:List 314} (r:KT H kvs xs) (k:List Key) {y:V} {u:Value} (ry:RelV y u):
  KT H 338 (xs.map (putAt k u)):=by
 induction r with
 |nil=>exact .nil
 | @cons p q ps qs h t ih=>
  rw[J1,J1];refine .cons ?_ ih;obtain ⟨h1,h2,h3⟩:=h;unfold putAt
  by_cases e:p.1=k
  ·rw[if_pos e,if_pos (h1.symm.trans e)];exact (h1,h2,ry)
  ·rw[if_neg e,if_neg (λz=>e (h1.trans z))];exact (h1,h2,h3)
theorem KT.put {H:Hp} {kvs:List 269} {xs:List 314} (r:KT H kvs xs) (k:List Key) {b:Addr} {y:V} {u:Value} (hb:H b=some 470) (ry:RelV y u):
  KT H (putK kvs k y) (storedH xs k b u):=by
 have e:289=(atKey xs k).isSome:=by
  rw[jS,(r.val k).isSome_eq,Option.isSome_map]
 unfold putK storedH;rw[e]
 by_cases q:(atKey xs k).isSome=true
 ·rw[if_pos q,if_pos q];exact r.repl k ry
 ·rw[if_neg q,if_neg q];exact Paired.snoc r (rfl,hb,ry)
theorem KT.keeps {H H':Hp} {kvs:List 269} {xs:List 314} (r:KT H kvs xs) (ht:∀b ys,H b=some (.tup ys)->H' b=some (.tup ys)):KT H' kvs xs:=
 Paired.mapP r λ_ _ z=>⟨z.1,ht _ _ z.2.1,z.2.2⟩
section
variable {P:Program} {w:World} {H:Hp} {h:Heap} {a:Addr}
theorem BC {u:HO} (ok:jv P w H h) (e:Rd H a u):cR P w H h a u:=e.ok ok
theorem mR {kvs:List 306} (ok:jv P w H h) (e:Rd H a 162):kvs.length<=sizeLine/\(a==sysModules)=false/\∃vs,KV kvs vs/\h.DictOf (aU P w) a vs:=
 show cR P w H h a 162 from BC ok e
theorem vy {kvs:List 306} (ok:jv P w H h) (e:H a=some 162):kvs.length<=sizeLine/\(a==sysModules)=false/\∃vs,KV kvs vs/\h.DictOf (aU P w) a vs:=mR ok (.inl e)
theorem mS {ks:List Key} (ok:jv P w H h) (e:H a=some (.tup (ks.map kV))):(tupleKind (aU P w)).is h ks a:=by
 obtain ⟨_,its,r,o,h1,h2,n,h3⟩:=(show cR P w H h a (.tup (ks.map kV)) from ok a _ e)
 exact (o,its.toArray,n,h1,h2,h3,by simpa using oR r)
theorem oS {kvs:List 269} (ok:jv P w H h) (e:Rd H a 423):kvs.length<=sizeLine/\(a==sysModules)=false/\
  ∃xs,KT H kvs xs/\h.DictOfH (tupleKind (aU P w)) a xs:=by
 obtain ⟨z,y,xs,r,o,es,ep,h1,h2,h3,h4,h5⟩:=(show cR P w H h a 423 from BC ok e)
 refine (z,y,xs,r,o,es,ep,h1,h2,h3,h4,λx hx=>?_,h5)
 have all:∀{l:List 269} {m:List 314},KT H l m->∀x∈m,(tupleKind (aU P w)).is h x.1 x.2.1:=by
  intro l m q
  induction q with
  |nil=>intro x hx;exact nomatch hx
  | @cons p q ps qs hq t ih=>
   intro x hx;rcases IK.mp hx with e|hx
   ·subst e;exact mS ok (by rw[<-hq.1];exact hq.2.1)
   ·exact ih x hx
 exact all r x hx
theorem Em {kvs:List 269} (ok:jv P w H h) (e:H a=some 423):kvs.length<=sizeLine/\(a==sysModules)=false/\
  ∃xs,KT H kvs xs/\h.DictOfH (tupleKind (aU P w)) a xs:=oS ok (.inl e)
universe z0
def jU (H:Hp) (a:Addr) (y:V) (r:Option V):Prop:=
 (∃kvs k,Rd H a 162/\y=kV k/\r=gj kvs k)∨∃kvs k b,Rd H a 423/\y= .ref b/\H b=some 470/\r=gj kvs k
def rV (H:Hp) (a:Addr) (y v:V) (H':Hp):Prop:=
 (∃kvs k,H a=some 162/\y=kV k/\kvs.length<sizeLine/\H'=aK H a (.dK (putK kvs k v)))∨
 ∃kvs k b,H a=some 423/\y= .ref b/\H b=some 470/\kvs.length<sizeLine/\H'=aK H a (.dT (putK kvs k v))
theorem jU.t {H:Hp} {a b:Addr} {kvs:List 269} {k:List Key} (e:H a=some 423) (eb:H b=some 470):jU H a (.ref b) (gj kvs k):= .inr (kvs,k,b,.inl e,rfl,eb,rfl)
theorem rV.k {H:Hp} {a:Addr} {kvs:List 306} {k:Key} {v:V} (e:H a=some 162) (hl:kvs.length<sizeLine):rV H a (kV k) v (aK H a (.dK (putK kvs k v))):= .inl (kvs,k,e,rfl,hl,rfl)
theorem rV.t {H:Hp} {a b:Addr} {kvs:List 269} {k:List Key} {v:V} (e:H a=some 423) (eb:H b=some 470) (hl:kvs.length<sizeLine):
  rV H a (.ref b) v (aK H a (.dT (putK kvs k v))):= .inr ⟨kvs,k,b,e,rfl,eb,hl,rfl⟩
section
variable {pins:La} {σ:St} {H:Hp} {s:Shared} {a:Addr} {y v:V} {u r:Value} {o:Option V} {A:Around} {E:KY}
theorem aY.big (I:aY X pins σ H s):sysModules<s.heap.objs.size:=by
 have h:mainGlobals<s.heap.objs.size:=(I.mod.glob.keeps I.bk).lt;exact Nat.lt_trans 41 h
theorem w6 {Q:KY} (hu:A.units+1<cLine) (I:aY X pins σ H s) (g:jU H a y (some v)) (ry:RelV y u) (h:∀w' s',aY X pins σ H s'->RelV v w'->Q w' s'):
  wpAny 136 A (getItem 366 u) Q E s:=by
 rcases g with ⟨kvs,k,e,ey,l⟩|⟨kvs,k,b,e,ey,eb,l⟩
 ·subst ey;sleep 116;obtain ⟨w',hw,rw'⟩:=jC.some_of (v:=v) (o:=valueAt vs k) (by rw[l];exact rel.val k)
  exact wpAny_getItem_of (mQ ry) dd.mapOf hw (h w' _ (I.tok _) rw')
 ·subst ey;cases (show u=Value.ref b from ry)
  obtain ⟨z,hd,xs,rel,dd⟩:=oS I.hok e;obtain ⟨w',hw,rw'⟩:=jC.some_of (v:=v) (o:=(atKey xs k).map (·.2)) (by rw[l];exact rel.val k)
  obtain ⟨p,hp,hp2⟩:=IF.mp hw;refine wpAny_getItem_heap (tupleKind_room_in1 hu) (mS I.hok eb) dd hp ?_;rw[hp2];exact h w' _ (I.tok _) rw'
theorem AD {Q:KY} (hu:A.units+1<cLine) (I:aY X pins σ H s) (g:jU H a y o) (ry:RelV y u) (h:∀s',aY X pins σ H s'->Q (.bool (!o.isSome)) s'):
  wpAny 136 A (compareOp .NotIn u 366) Q E s:=by
 rcases g with ⟨kvs,k,e,ey,l⟩|⟨kvs,k,b,e,ey,eb,l⟩
 ·subst ey;sleep 116;refine wpAny_notIn_of (mQ ry) hd dd.mapOf ?_;rw[<-(rel.val k).isSome_eq,<-l];exact h _ (I.tok _)
 ·subst ey;cases (show u=Value.ref b from ry)
  obtain ⟨z,hd,xs,rel,dd⟩:=oS I.hok e;refine wpAny_notIn_heap (tupleKind_room_in1 hu) (mS I.hok eb) hd dd ?_;have q:=(rel.val k).isSome_eq;rw[Option.isSome_map] at q;rw[<-q,<-l];exact h _ (I.tok _)
theorem vA {h':Heap} {t':Nat} {ob:HO} (I:aY X pins σ H s) (mu:D3 (H a)) (hs:Heap.SameBut a s.heap h') (he:∃q,h'.get? a=some q) (new:cR X.prog X.w (aK H a ob) h' a ob):
  aY X pins σ (aK H a ob) {s with heap:=h',toks:=t'}:=
 I.write (x:=a) (e:=a) mu 471 (λb q hb z=>(hs.2 b hb).trans z) he new
theorem BZ {P:Program} {w:World} {H':Hp} {h':Heap} {kvs:List 306} {vs:List (Key×Value)} (z:kvs.length<=sizeLine) (hd:(a==sysModules)=false) (rel:KV kvs vs) (dd:h'.DictOf (aU P w) a vs):
  cR P w H' h' a (.dK kvs):=⟨z,hd,vs,rel,dd⟩
theorem xa {H':Hp} {Q:Unit->Shared->Prop} (hu:A.units+1<cLine) (I:aY X pins σ H s) (g:rV H a y v H') (ry:RelV y u) (rv:RelV v r) (h:∀s',aY X pins σ H' s'->Q () s'):
  wpAny 136 A (setItem 366 u r) Q E s:=by
 rcases g with ⟨kvs,k,e,ey,l,eH⟩|⟨kvs,k,b,e,ey,eb,l,eH⟩
 ·subst ey eH;obtain ⟨z,hd,vs,rel,dd⟩:=vy I.hok e;have hz:vs.length<=sizeLine:=by rw[<-rel.length];exact z
  have hl:(putK kvs k v).length<=sizeLine:=by have:=iR kvs k v;lia
  refine wpAny_setItem_pairs (hsz:=hz) (mQ ry) dd λh' dd' hs=>h _ ?_
  have he:∃q,h'.get? a=some q:=let ⟨q,_,_,hq,_⟩:=dd';⟨q,hq⟩;exact vA I (by rw[e];exact True.intro) hs he (BZ hl hd (rel.put k rv) dd')
 ·subst ey eH;cases (show u=Value.ref b from ry)
  obtain ⟨z,hd,xs,rel,dd⟩:=Em I.hok e;have hz:xs.length<=sizeLine:=by rw[<-Paired.length rel];exact z
  have hl:(putK kvs k v).length<=sizeLine:=by have:=iR kvs k v;lia
  refine wpAny_setItem_heap (hsz:=hz) (tupleKind_room_in1 hu) (mS I.hok eb) dd λh' dd' hs=>h _ ?_
  obtain ⟨q,es,ep,hq,h2,h3,h4,_,h5⟩:=dd';refine vA I (by rw[e];exact True.intro) hs ⟨q,hq⟩ ⟨hl,hd,_,(rel.put k eb rv).keeps λc ys ec=>?_,q,es,ep,hq,h2,h3,h4,h5⟩
  rw[aQ (jN ec e (λz=>nomatch z))]
  exact ec
universe z0
section
variable {pins:La} {σ:St} {H:Hp} {s:Shared} {a:Addr} {kvs:List (Key×V)} {k:Key} {u:Value} {A:Around} {E:KY}
theorem En {Q:KY} (I:aY X pins σ H s) (e:Rd H a 162) (h:∀t s',aY X pins σ H s'->Q (.int kvs.length t) s'):wpAny 136 A (call 372 [.ref a]) Q E s:=by
 sleep 116;refine call_len_dict hd dd (by rw[<-rel.length];rw[sizeLine_eq] at z;lia) ?_
 rw[<-rel.length];exact h _ _ (I.tok _)
universe z0
def Eo (i:Expr):Prop:=∀ov iv,subscripted i false ov iv=operate [ov,iv] (getItem ov iv)
theorem AE {prog:Program} {w:World} {A:Around} {E:KY} {s:Shared} {env:Env} {value slice:Expr} {pos:Pos} {T id:String} {Q:KY}
  (hl:typeLookup (.type T) "__getitem__" =pure (some 499)) (hs:Eo slice)
  (h:wpAny 131 A (eval value env) (λo s₁=>wpAny 131 A (eval slice env) (λi s₂=>s₂.TypeIs o T/\wpAny 131 A (getItem o i) Q E s₂) E s₁) E s):
  wpAny 131 A (eval (.Subscript value slice pos) env) Q E s:=by
 refine Subscript_ (wpAny_mono h (λo s₁ h₁=>wpAny_mono h₁ (λi s₂ h₂=>?_) λ_ _ x=>x) λ_ _ x=>x)
 obtain ⟨hT,h₂⟩:=h₂;unfold subscriptTail;sleep 136;rw[getitemInPython_of_ne hT.not_modules];refine wpAny_bind (wpAny_specialOf hT hl ?_);have fin:wpAny 131 A (subscripted slice false o i) (λr s₃=>wpAny 131 A (letTemporaryGo value o r>>=λ_=>pure r) Q E s₃) E s₂:=by
  rw[hs o i];exact wpAny_operating (wpAny_mono h₂ (λr s₃ h₃=>wpAny_bind (wpAny_letTemporaryGo (wpAny_pure h₃))) λ_ _ x=>x)
 first
  |exact wpAny_pure (wpAny_bind fin)
  |exact wpAny_bind (wpAny_pure (wpAny_bind fin))
  |exact wpAny_bind fin
theorem rW {X:Cx} {pins:La} {σ:St} {H:Hp} {s:Shared} {a:Addr} {y:V} {o:Option V} (I:aY X pins σ H s) (g:jU H a y o):s.TypeIs 366 "dict" :=by
 rcases g with ⟨kvs,k,e,_,_⟩|⟨kvs,k,b,e,_,_,_⟩
 ·obtain ⟨_,_,vs,_,dd⟩:=mR I.hok e;exact dd.typeIs
 ·obtain ⟨_,_,xs,_,dd⟩:=oS I.hok e;exact dd.typeIs
def Ep (td ty:TE):TE:=λσ H Q=>td σ H λx H1=>ty σ H1 λy H2=>∃a v,x= .ref a/\jU H2 a y (some v)/\Q v H2
def AF (ty td:TE):TE:=λσ H Q=>ty σ H λy H1=>td σ H1 λx H2=>∃a o,x= .ref a/\jU H2 a y o/\Q (.bl (!o.isSome)) H2
def Er (td ty tv:TE):TS:=λD σ H=>tv σ H λv H1=>td σ H1 λx H2=>ty σ H2 λy H3=>∃a H4,x= .ref a/\rV H3 a y v H4/\D.nx σ H4
section
variable {o i e value:Expr} {pos pos' tpos:Pos} {td ty tv:TE}
theorem i9 (hu:X.A.units+1<cLine) (ho:PE X o td) (hi:PE X i ty) (hs:Eo i):PE X (.Subscript o i pos) (Ep td ty):=by
 sleep 100;refine AE PySem.F.slot_dict_getitem.lookup hs (cx 461 λu s1 (x,H1,I1,rx,q1)=>cx (hi pins s1 σ H1 _ I1 q1) λiv s2 (y,H2,I2,ry,a,v,ex,g,q2)=>?_)
 sleep 121;exact (rW I2 g,w6 hu I2 g ry λw' s3 I3 rw'=>(v,H2,I3,rw',q2))
theorem ko (hu:X.A.units+1<cLine) (hi:PE X i ty) (ho:PE X o td):PC X .NotIn i o (AF ty td):=by
 sleep 100;refine cx (hi pins s σ H _ I h) λiv s1 (y,H1,I1,ry,q1)=>cx (ho pins s1 σ H1 _ I1 q1) λu s2 (x,H2,I2,rx,a,ov,ex,g,q2)=>?_
 sleep 121;exact AD hu I2 g ry λs3 I3=>(.bl (!ov.isSome),H2,I3,rfl,q2)
theorem vB (hu:X.A.units+1<cLine) (ho:PE X o td) (hi:PE X i ty) (hv:PE X value tv) (hs:swapsWith value (some (.Subscript o i pos')) pos.line X.env=pure false):
  PS X (.Assign [.Subscript o i pos'] value pos) (Er td ty tv):=by
 intro pins s σ H D I h;refine wpAny_Assign_Subscript (cx (hv pins s σ H _ I h) λr s1 (v,H1,I1,rv,q1)=>cx (ho pins s1 σ H1 _ I1 q1) λu s2 (x,H2,I2,rx,q2)=>cx (hi pins s2 σ H2 _ I2 q2) λiv s3 (y,H3,I3,ry,a,H4,ex,g,q3)=>?_) hs
 sleep 121;exact xa hu I3 g ry rv λs4 I4=>(σ,H4,I4,q3)
universe z0
theorem yC {P:Program} {w:World} {H:Hp} (h:Heap) (hb:sysModules<h.objs.size):cR P w H (h.push {cls:= .type "dict",data:= .dict #[]}) h.objs.size (.dK []):=
 ⟨JC _,beq_eq_false_iff_ne.mpr (Ne.symm (IQ hb)),[],.nil,Heap.DictOf.new h⟩
theorem yD {P:Program} {w:World} {H:Hp} (h:Heap) (hb:sysModules<h.objs.size):cR P w H (h.push {cls:= .type "dict",data:= .dict #[]}) h.objs.size (.dT []):=
 ⟨JC _,beq_eq_false_iff_ne.mpr (Ne.symm (IQ hb)),[],.nil,_,#[],0,130 _ rfl,⟨rfl,rfl,rfl⟩,rfl,rfl,List.nodup_nil⟩
def B1:TE:=λ_ H Q=>∀p,H p=none->Q 181 (aK H p (.dK []))
def B3:TE:=λ_ H Q=>∀p,H p=none->Q 181 (aK H p (.dT []))
section
variable {pos:Pos}
theorem yE:PE X (.Dict [] [] pos) B1:=λpins s σ H Q I h=>
 wpAny_Dict_empty ⟨.ref 52,_,I.laid (a:=52) (o:= .dK []) (t':=s.toks) (λ_ _ q=>116 _ q) 249 (yC s.heap I.big),rfl,h _ (I.hok.fresh 249)⟩
theorem yF:PE X (.Dict [] [] pos) B3:=λpins s σ H Q I h=>
 wpAny_Dict_empty ⟨.ref 52,_,I.laid (a:=52) (o:= .dT []) (t':=s.toks) (λ_ _ q=>116 _ q) 249 (yD s.heap I.big),rfl,h _ (I.hok.fresh 249)⟩
universe z0
structure M2 (X:Cx) (o:Expr) (m:Str) (apos:Pos) (e f:Expr) (cpos:Pos):Prop where
 base:attributeBase o m X.env (eval o X.env)=eval o X.env
 few:((backTo cpos (starEach [e,f] X.env)).all (λx=> !x.1)&&(backToKw cpos (keywordEach [] X.env)).all (λx=>x.1.isSome)
  &&decide (([e,f]:List Expr).length+([]:List Keyword).length+(if ([]:List Keyword).isEmpty then 0 else 1)<30))=true
 line:(apos.endLine==cpos.line)=true
 trees:backTo cpos (starEach [e,f] X.env)= [407,(false,eval f X.env)]
def HC (H:Hp) (a:Addr):Prop:=(∃kvs,Rd H a 162)∨∃kvs,Rd H a 423
theorem B4 {X:Cx} {pins:La} {σ:St} {H:Hp} {s:Shared} {a:Addr} (I:aY X pins σ H s) (d:HC H a):
  s.TypeIs 366 "dict" /\(∀b,Value.ref a= .ref b->∃ob,s.heap.get? b=some ob/\ob.dict=none)/\(a==sysModules)=false:=by
 rcases d with ⟨kvs,e⟩|⟨kvs,e⟩
 ·obtain ⟨_,hd,vs,_,dd⟩:=mR I.hok e;refine (dd.typeIs,λb q=>?_,hd)
  cases q;obtain ⟨ob,_,_,h1,h2,_⟩:=dd;exact (ob,h1,h2.2.1)
 ·obtain ⟨_,hd,xs,_,dd⟩:=oS I.hok e;refine (dd.typeIs,λb q=>?_,hd)
  cases q;obtain ⟨ob,_,_,h1,h2,_⟩:=dd;exact (ob,h1,h2.2.1)
section
variable {pins:La} {σ:St} {H:Hp} {s:Shared} {a:Addr} {y d:V} {u r:Value} {o:Option V} {A:Around} {E:KY}
theorem B5 {Q:KY} (hu:A.units+1<cLine) (I:aY X pins σ H s) (g:jU H a y o) (ry:RelV y u) (rd:RelV d r) (h:∀w' s',aY X pins σ H s'->RelV (o.getD d) w'->Q w' s'):
  wpAny 136 A (call (.builtin "dict.get") [.ref a,u,r]) Q E s:=by
 rcases g with ⟨kvs,k,e,ey,l⟩|⟨kvs,k,b,e,ey,eb,l⟩
 ·subst ey;sleep 116;refine call_meetsIn PySem.F.slot_dict_get dd.typeIs PySem.F.entry_dict_get (PySem.F.args_dict_get_3 _ _ _) (meets_dict_get_default 450 a (mQ ry) hd r) (_,dd.mapOf,h _ _ (I.tok _) ?_);rw[l];exact (rel.val k).getD rd
 ·subst ey;cases (show u=Value.ref b from ry)
  obtain ⟨z,hd,xs,rel,dd⟩:=oS I.hok e;refine call_meetsIn PySem.F.slot_dict_get dd.typeIs PySem.F.entry_dict_get (PySem.F.args_dict_get_3 _ _ _) (meetsH_dict_get_default (tupleKind 450) a b hd r) (tupleKind_room_in1 hu,k,xs,mS I.hok eb,dd,h _ _ (I.tok _) ?_);rw[l];exact (rel.val k).getD rd
universe z0
def B6 (td ty tx:TE):TE:=λσ H Q=>td σ H λx H1=>∃a,x= .ref a/\HC H1 a/\ty σ H1 λy H2=>tx σ H2 λz H3=>∃o,jU H3 a y o/\Q (o.getD z) H3
section
variable {o e f:Expr} {apos cpos:Pos} {td ty tx:TE}
theorem yG (hu:X.A.units+1<cLine) (ho:PE X o td) (he:PE X e ty) (hf:PE X f tx) (m:M2 X o "get" apos e f cpos):PE X (.Call (.Attribute o "get" apos) [e,f] [] cpos) (B6 td ty tx):=by
 sleep 100;refine wpAny_Call_method m.base m.few m.line PySem.F.plainAttrs_dict PySem.F.slot_dict_get PySem.F.type_dict_get (cx 461 λu s1 (x,H1,I1,rx,a,ex,d,q1)=>?_)
 sleep 121;obtain ⟨t1,t2,_⟩:=B4 I1 d;exists t1,t2;rw[m.trees];refine Calls.callWith_builtin rfl (Calls.evalArgs_plain (Calls.spliced_cons (cx (he pins s1 σ H1 _ I1 q1) λiv s2 (y,H2,I2,ry,q2)=>
  Calls.spliced_cons (cx (hf pins s2 σ H2 _ I2 q2) λfv s3 ⟨z,H3,I3,rz,ov,g,q3⟩=>Calls.spliced_nil ?_))))
 exact B5 hu I3 g ry rz λw' s4 I4 rw'=>(_,H3,I4,rw',q3)
universe z0
universe L2
namespace Att
open PySem PySem.W PySem.Calls PyProof.Rows
theorem l9 {P:Params} {h:Heap}:∀(ns:List Int) (vs:Ld),WellAll P h vs (ns.map WData.int)->IntsAre vs ns:=by
 intro ns
 induction ns with
 |nil=>
  intro vs w;rw[List.map_nil] at w;cases w;exact .nil
 |cons n ns ih=>
  intro vs w;rw[J1] at w;cases w with
  |cons a b=>
   cases a;exact .cons _ _ (ih _ b)
theorem xc {l:OpenLaw} {n:Nat} (hn:l.most=some n) {P:Params} {h:Heap} {args:List WData} {vals:Ld}
  (hpre:l.row.toRowW.claim.pre args=true) (hwl:WellAll P h vals args):
  ∃a vs ns,vals= [Value.ref a]/\args= [WData.list (ns.map WData.int)]/\h.get? a=some 238/\IntsAre vs ns/\ns.length<=n:=by
 have hsh:WShape.hasAll [] args [.list .int]=true:=(pre_splitW hpre).1;have hc:l.pre.holds [] {args:=args}=true:=(pre_splitW hpre).2;obtain ⟨d,r,rfl,h1,h2⟩:=hasAllW_cons hsh;obtain rfl:=hasAllW_nil h2;obtain ⟨xs,rfl,h3⟩:=hasW_list h1;obtain ⟨ns,rfl⟩:=items_int h3;have hlen:ns.length<=n:=by
  unfold OpenLaw.pre at hc;have h4:(WTm.not (.lt (.lit (.int (n:Int))) (.len (.arg 0)))).holds [] {args:= [.list (ns.map .int)]}=true:=by
   have h4:=(holds_andW hc).1;rw[hn] at h4;exact h4
  have h5:=condW_of h4 (w_not (w_lt w_lit (w_len_list (w_arg rfl))));rw[I0] at h5;refine Nat.le_of_not_lt λq=>?_
  have q':(n:Int)<((ns.length:Nat):Int):=by lia
  first
   |(rw[decide_eq_true q'] at h5;exact absurd h5 (by decide))
   |(simp at h5;lia)
 cases hwl with
 |cons w1 w2=>
  cases w2;cases w1 with
  |list ho hall=>exact ⟨_,_,ns,rfl,rfl,ho,l9 ns _ hall,hlen⟩
theorem xf (l:OpenLaw) (args:List WData):l.row.toRowW.claim.post args (.bool true) args=true:=
 postW_of (r:=l.row.toRowW) (X:=(true==true))
  (show WShape.has [] (.bool true) .bool=true by first|rfl|decide|simp[WShape.has,WShape.arms,WShape.armsAll])
  (show (WTm.eq .res (.lit (.bool true))).value [] {args:=args,res:=some (.bool true),after:=args}=some (.bool (true==true)) from w_eq_bool (w_res rfl) w_lit) rfl
theorem rX {l:OpenLaw} {n:Nat} {q:Program} {loose:Lb} {XP:KZ->Heap->Prop} {YP:World->Heap->Prop} {d:DefRec}
  (hn:l.most=some n) (hdf:d.params.defaults= [])
  (call:∀(w:World) (s₀ s₁:Shared) (mg mb:KZ) (fa:Addr) (o:Obj) (pm cd doc:Value) (a:Addr) (vs:Ld) (ns:List Int),
   Ground q loose [] XP w s₀ mg mb s₁.heap->YP w s₁.heap->
   s₁.heap.get? fa=some o->o.data= .func (docDef d.name d.params d.body d.scope pm cd doc)->s₁.heap.CodeRec cd d.name->mg d.name=some (.ref fa)->
   s₁.heap.get? a=some 238->IntsAre vs ns->ns.length<=n->s₁.gens= #[]->
   codeAny (model l.prog w) callerA 434 220 s₁):
  WalkO q loose XP YP l.row.toRowW d [] (λf vs=>PySem.call f vs):=by
 intro w s₀ s₁ mg mb G Y fa o pm cd doc dV kV ho hd hcd hD hmg hg args vals as hpre hlay hrd hwl hlo;obtain rfl:dV= .none:=Dflts.none hD hdf;obtain rfl:kV= .none:=Dflts.noKw hD;obtain ⟨a,vs,ns,rfl,rfl,hobj,hints,hlen⟩:=xc hn hpre hwl;refine enter_call (codeAny_mono (call w s₀ s₁ mg mb fa o pm cd doc a vs ns G Y ho (fd_plain hd) hcd hmg hobj hints hlen hg) λr s' hq=>?_)
 obtain ⟨rfl,h2,h3,h4⟩:=hq;exact (.inl (.bool true,.bool true,[],rfl,λ_=>rfl,.bool true,xf l _,λ_=>(List.Pairwise.nil,λ_ hm=>(nomatch hm))),h2,h3,h4)
universe Att
namespace L2
open PySem PySem.Spec PyProof.Rows
theorem kr:∀{vs:Ld} {ns:List Int},IntsAre vs ns->bN 222 vs
 |_,_,.nil=> .nil
 |_,_,.cons n t h=> .cons ⟨t,rfl⟩ (kr h)
def B7 (H:Hp):Prop:=∀b,H b=none∨∃o xs,H b=some (.frz o 398)
theorem yH {P:Program} {w:World} {K:IE} {mg mb:KZ} {CX:vw} {k:Nat} {fa a:Addr} {fd:FuncData} {x:Str} {sp:Sp} {s₁:Shared} {vs:Ld} {ns:List Int}
  (KX:K.In s₁.heap) (hns:s₁.heap.Ns mainGlobals mg) (hb:s₁.heap.Ns builtinsNs mb) (hbb:∀x:Str,x≠ "__name__" ->mb x=bootBuiltins x) (hlim:s₁.heap.NoLimit) (hg:s₁.gens= #[])
  (ha:s₁.heap.get? a=some 238) (hi:IntsAre vs ns) (hl:ns.length<=sizeLine) (hr:fo k callerA)
  (F:∀base:Heap,K.In base->base.Ns mainGlobals mg->bq P w K mg base CX k fa fd [x] sp) (hbind:∀(s:Shared) (u:Value),BindsTo s fd ⟨[u],[]⟩ [(x,u)])
  (hsp:∀H:Hp,B7 H->aD K H a 222->sp [.ref a] H (λv _=>v= .bl true) λ_ _ _=>False)
  (hCX:∀H e s',CX [] H s₁ (λ_ _ _=>False) e s'->False):
  codeAny (model P w) callerA 434 220 s₁:=by
 have rv:=kr hi;have lenV:=hi.length;have core:∀H:Hp,B7 H->aD K H a 222->jv P w H s₁.heap->(∀b,H b≠none->b=a)->(H a≠none->K.lookup a=none)->
   codeAny (model P w) callerA 434 220 s₁:=by
  intro H hO hS hok hA hK;have base_of:∀{b:Addr} {o:Obj},s₁.heap.get? b=some o->H b=none->(qi s₁.heap H).get? b=some o:=λe n=>yc e n
  have noA:∀{b:Addr} {o:Obj} {es:Array DictEntry} {ep:Nat},s₁.heap.get? b=some o->o.data= .dict es ep->H b=none:=λ{b o es ep} e d=>by
   cases q:H b with
   |none=>rfl
   |some u=>
    have e':b=a:=hA b (by rw[q];simp)
    subst e';rw[ha] at e;cases e;have d':Data.seq vs.toArray _=Data.dict es ep:=d;cases d'
  have nsK:∀{b:Addr} {m:KZ},s₁.heap.Ns b m->(qi s₁.heap H).Ns b m:=λ{b m} (o,es,ep,e,d,r)=>(o,es,ep,base_of e (noA e d),d,r)
  have hKb:K.In (qi s₁.heap H):=λb o e=>base_of (KX b o e) (by
   cases q:H b with
   |none=>rfl
   |some u=>
    have e':b=a:=hA b (by rw[q];simp)
    subst e';rw[hK (by rw[q];simp)] at e;cases e)
  have hM:Mod K mg (qi s₁.heap H):=⟨hKb,nsK hns,⟨mb,nsK hb,hbb⟩,let ⟨mc,h1,h2⟩:=hlim;⟨mc,nsK h1,h2⟩⟩;have e0:uj P w K mg (qi s₁.heap H) callerA [] s₁ H:=(rfl,hM,λb o e=>Ao e,Nat.le_of_eq (wO _ _),trivial,λb hb=>absurd (show b∈([]:Lc) from hb) (by simp),hok,.of_eq hg)
  refine codeAny_mono ((F _ hKb (nsK hns)).run callerA [] s₁ H ([.ref a],[]) [.ref a] [.ref a] _ _ hr e0 (hbind s₁ 366) 371 (hsp H hO hS)) λr s' h=>?_
  cases r with
  |error e=>exact (hCX H e s' h).elim
  |ok fl=>
   cases fl with
   |next=>exact False.elim h
   |brk=>exact False.elim h
   |cont=>exact False.elim h
   |ret u=>
    obtain ⟨v,H',os,bare,un,hok',r',q⟩:=h;have q':v= .bl true:=q;subst q';obtain rfl:u=Value.bool true:=r';refine (rfl,OldK.of_keep λb o e=>?_,os,bare)
    cases q:H b with
    |none=>exact un.keep b o e q (by intro z;exact absurd (show b∈([]:Lc) from z) 139) 139
    |some u=>
     rcases hO b with z|⟨ob,xs,z⟩
     ·rw[q] at z;cases z
     ·have z2:=un.frzs b ob _ z;obtain ⟨e1,_⟩:=hok b _ z;obtain ⟨e2,_⟩:=hok' b _ z2;rw[e] at e1;cases e1;exact e2
 cases hk:K.lookup a with
 |some o=>
  have e:=KX a o hk;rw[ha] at e;cases e;refine core (λ_=>none) (λ_=> .inl rfl) (.inr (_,vs.toArray,_,hk,rfl,rfl,rfl,by rw[IY,lenV];exact hl,by simpa using rv)) (λb u z=>by have z':(none:Option HO)=some u:=z;cases z') (λb z=>absurd rfl z) λz=>absurd rfl z
 |none=>
  refine core (λb=>if b=a then some (.frz 238 (.lst 222)) else none) (λb=>?_) (.inl (.inr (238,if_pos rfl))) (λb u z=>?_) (λb z=>?_) λ_=>hk
  ·by_cases hb:b=a
   ·exact .inr (_,_,if_pos hb)
   ·exact .inl (if_neg hb)
  ·by_cases hb:b=a
   ·have z':=(if_pos hb).symm.trans z;cases z';subst hb;exact (ha,by rw[I0];exact hl,vs,_,rv,ha)
   ·have z':=(if_neg hb).symm.trans z;cases z'
  ·by_cases hb:b=a
   ·exact hb
   ·exact absurd (if_neg hb) z
theorem AG {l:PySem.W.OpenLaw} {n k:Nat} {q:Program} {loose:Lb} {XP:KZ->Heap->Prop} {YP:World->Heap->Prop} {d:DefRec} {K:Params->IE} {CX:World->vw} {sp:World->Sp} {x:Str}
  (hn:l.most=some n) (hn2:n<=sizeLine) (hdf:d.params.defaults= []) (hr:fo k callerA)
  (hY:∀(w:World) (h:Heap),YP w h->(K w.params).In h)
  (F:∀(w:World) (mg:KZ) (fa:Addr) (h:Heap),(K w.params).In h->h.Ns mainGlobals mg->mg d.name=some (.ref fa)->
   ∃fd:FuncData,(∀(s:Shared) (u:Value),BindsTo s fd ⟨[u],[]⟩ [(x,u)])/\
    ∀base:Heap,(K w.params).In base->base.Ns mainGlobals mg->bq l.prog w (K w.params) mg base (CX w) k fa fd [x] (sp w))
  (hsp:∀(w:World) (H:Hp) (a:Addr) (ns:List Int),ns.length<=n->B7 H->aD (K w.params) H a 222->sp w [.ref a] H (λv _=>v= .bl true) λ_ _ _=>False)
  (hCX:∀(w:World) (H:Hp) (s:Shared) (e:Value) (s':Shared),CX w [] H s (λ_ _ _=>False) e s'->False):
  PySem.W.WalkO q loose XP YP l.row.toRowW d [] (λf vs=>PySem.call f vs):=by
 refine Att.rX hn hdf λw s₀ s₁ mg mb fa o pm cd doc a vs ns G Y ho hd hcd hmg hobj hints hlen hg=>?_
 have KX:=hY w _ Y;obtain ⟨fd,hb,hF⟩:=F w mg fa _ KX G.T.g hmg;exact yH KX G.T.g G.T.b G.T.builtins G.T.nolimit hg hobj hints (J8 hlen hn2) hr hF hb (λH hO hS=>hsp w H a ns hlen hO hS) λH e s'=>hCX w H s₁ e s'
noncomputable def fU (s:Stmt):Arguments:=match s with
 | .FunctionDef _ a _ _ _ _ _ _ _ _=>a
 |_=>{posonlyargs:= [],args:= [],vararg:=none,kwonlyargs:= [],kw_defaults:= [],kwarg:=none,defaults:= []}
noncomputable def fJ (s:Stmt):List Stmt:=match s with
 | .FunctionDef _ _ b _ _ _ _ _ _ _=>b
 |_=> []
noncomputable def av (s:Stmt):Scope:=match s with
 | .FunctionDef _ _ _ _ _ _ sc _ _ _=>sc
 |_=>{kind:= .function,names:= [],isGenerator:=false,isCoroutine:=false}
abbrev bj:vw:=λ_ _ _ _ _ _=>False
abbrev E0:XK:=λ_ _ _=>False
theorem BD {X:Cx}:mO bj X E0:=λ_ _ _ _ _ _ _ h=>h.elim
theorem gW {A:Around} {k:Nat} (hr:fo k A):A.units+1<cLine:=Nat.lt_of_le_of_lt (Nat.add_le_add_left (by decide:1<=64) _) hr.units
variable {X:Cx}
theorem pv (i:Nat) {x:Str} {pos:Pos} (hN:X.N[i]?=some x:=by rfl) (hv:Gc X.env.scope x:=by first|exact Or.inl rfl|exact Or.inr (Or.inl rfl)|exact Or.inr 252) (hd:311=false:=by decide)
  (hcd:(x==("__classdict__" :Str))=false:=by decide):PE X (.Name x pos) (D4 i):=BR hN hv hd hcd
theorem df {A B:Prop} (h:B):if false=true then A else B:=by
 rw[if_neg Iy];exact h
theorem dy {A B:Prop} (h:A):if true=true then A else B:=by
 rw[if_pos rfl];exact h
def aC (H H':Hp):Prop:=∀b o,H b=some o->H' b=some o
theorem aC.refl (H:Hp):aC H H:=λ_ _ h=>h
theorem aC.trans {H H1 H2:Hp} (a:aC H H1) (b:aC H1 H2):aC H H2:=λc o h=>b c o (a c o h)
theorem aC.free {H H':Hp} (e:aC H H') {l:Addr} (h:H' l=Option.none):H l=Option.none:=by
 cases q:H l with
 |none=>rfl
 |some o=>
  rw[e l o q] at h;cases h
theorem aC.seq {K:IE} {H H':Hp} {a:Addr} {xs:List V} (e:aC H H') (h:aD K H a xs):aD K H' a xs:=by
 rcases h with (h|⟨o,h⟩)|h
 ·exact .inl (.inl (e _ _ h))
 ·exact .inl (.inr (o,e _ _ h))
 ·exact .inr h
theorem aZ:iL X (binaryOp .Mult) (rI (λi j=>IntMulOk i j) λi j=> .int (i*j)):=Gf λ_ _ _ _ _ _ _ hc q=>mul_int q hc
theorem aX:iL X (binaryOp .FloorDiv) (rI (λi j=>j≠0/\Builtin.divisionGoesByPylong i j=false) λi j=> .int (i.fdiv j)):=Gf λ_ _ _ _ _ _ _ hc q=>floordiv_int hc.1 q (.inl hc.2)
theorem vC:iL X (binaryOp .Pow) (rI (λi j=>0<=j/\(Builtin.Int.intBits i:Int)*j<=2^27) λi j=> .int (i^j.toNat)):=Gf λ_ _ _ _ _ _ _ hc q=>pow_int hc.1 hc.2 q
universe L2
namespace Sw
open PySem
universe Sw
namespace L2
open PySem
universe L2
namespace Sw
open PySem L2
theorem dT {p A B:Prop} [Decidable p] (h:p) (a:A):if decide p=true then A else B:=by rw[if_pos (decide_eq_true h)];exact a
theorem dF {p A B:Prop} [Decidable p] (h:¬p) (b:B):if decide p=true then A else B:=by rw[if_neg (by simp[h])];exact b
theorem d2 {p A B:Prop} [Decidable p] (h1:p->A) (h2:¬p->B):if decide p=true then A else B:=by
 by_cases h:p
 ·exact dT h (h1 h)
 ·exact dF h (h2 h)
theorem nT {p A B:Prop} [Decidable p] (h:¬p) (a:A):if (!decide p)=true then A else B:=by rw[if_pos (by simp[h])];exact a
theorem nF {p A B:Prop} [Decidable p] (h:p) (b:B):if (!decide p)=true then A else B:=by rw[if_neg (by simp[h])];exact b
theorem vi {a b:Int} (h:a=b):V.int a=V.int b:=by rw[h]
theorem vj {a b:Int} (h:V.int a=V.int b):a=b:=by cases h;rfl
theorem xg {a b:Int} {A B:Prop} (h1:a=b->A) (h2:a≠b->B):if decide (V.int a=V.int b)=true then A else B:=d2 (λh=>h1 (vj h)) λh=>h2 λe=>h (vi e)
theorem Ai {a b:Int} {A B:Prop} (h1:a≠b->A) (h2:a=b->B):if (!decide (V.int a=V.int b))=true then A else B:=by
 by_cases h:a=b
 ·exact nF (vi h) (h2 h)
 ·exact nT (λe=>h (vj e)) (h1 h)
theorem HW {a b:Int} {A B:Prop} (h:a≠b) (x:B):if decide (V.int a=V.int b)=true then A else B:=dF (λe=>h (vj e)) x
theorem GQ {a b:Int} {A B:Prop} (h:a=b) (x:B):if (!decide (V.int a=V.int b))=true then A else B:=nF (vi h) x
def qw (K:IE):Sp:=λvs H Q _=>∃(a:Addr) (ns:List Int) (k:Int),vs= [.ref a,.int k]/\aD K H a 222/\0<=k/\∀v:Int,Q (.int v) H
def vD (K:IE):Sp:=λvs H Q _=>∃(a:Addr) (ns:List Int),vs= [.ref a]/\aD K H a 222/\ns.length<=63/\∀H',Q (.bl true) H'
theorem AH {ns:List Int} {k:Int} (h0:0<=k) (h:k<(((ns.map V.int).length:Nat):Int)):∃v:Int,io 222 k=some (.int v):=by
 rw[I0] at h;have hk:k.toNat<ns.length:=by lia
 have ek:k=((k.toNat:Nat):Int):=by lia
 have q:io 222 ((k.toNat:Nat):Int)=some (.int ns[k.toNat]):=aS (by rw[IG,IA hk]<;>rfl)
 rw[<-ek] at q;exact (_,q)
theorem cut {t u:TS} {D:Ends} {σ:L2.St} {H:Hp} (I:L2.St->Hp->Prop) (h1:∀N:L2.St->Hp->Prop,(∀σ H,I σ H->N σ H)->t {D with nx:=N} σ H) (h2:∀σ H,I σ H->u D σ H):bb t u D σ H:=h1 _ h2
theorem af {H:Hp} {p:Addr} (h:H p=none) (o:HO):aC H (aK H p o):=λb u q=>by rw[aQ (eM q h)];exact q
structure bv (K:IE) (x qual:Str) (st:Stmt) (dV:Value) (f:Addr) (fd:FuncData):Prop where
 ex:∃(oc:Value) (od:Le) (kV doc pm:Value) (an:Le) (cdv ct:Value) (osl:Array Lg),
  fd=Jq x qual (fU st) (fJ st) (av st) dV kV doc pm an cdv ct/\K.lookup f=some ⟨oc,od,.func fd,osl⟩/\PySem.W.codeIn K cdv qual=true
 kp:K0 K (.ref f)=true
section
variable {P:Program} {w:World} {K:IE} {mg:KZ} {base:Heap}
theorem bv.ok {x qual:Str} {st:Stmt} {dV:Value} {f:Addr} {fd:FuncData} {N ps:Lb} {k:Nat} {sp:Sp} (F:bv K x qual st dV f fd) (S:aE N ps (av st)) (len:∀vs H Q E,sp vs H Q E->vs.length=ps.length)
  (hbody:∀(cdv:Value) (A:Around) (outer:List Env) (s:Shared) (H:Hp) (vs:List V) (Q:VK) (E:XK),fo k (A.deeper (PyProof.Rows.envOfC qual (av st) 52 f cdv))->sp vs H Q E->
   ∃t,x4 (wY bj P w K mg base N qual (av st) f cdv A outer s H E).nox (fJ st) t/\t {nx:=λ_ H'=>Q .non H',rt:=Q} (start N vs) H):bq P w K mg base bj 291 f fd ps sp:=by
 sleep 112;refine Eg lk hcd S len λA outer s H vs Q E hr hsp=>?_
 obtain ⟨t,h,q⟩:=hbody cdv A outer s H vs Q E hr hsp;exact (t,h.nox,q)
theorem bv.binds {x qual:Str} {st:Stmt} {T:Addr} {f:Addr} {fd:FuncData} {ps:Lb} {o:Obj} {items:Array Value} {n:Nat} {ds:Ld} (F:bv K x qual st 457 f fd) (ho:K.lookup T=some o) (hs:o.data= .seq items n)
  (h:∀(kV doc pm:Value) (an:Le) (cdv ct:Value) (us:Ld),(us++ds).length=ps.length->∃k:Option (Array Value)->Sem (List (Str×Value)),bindArgs (Jq x qual (fU st) (fJ st) (av st) 457 kV doc pm an cdv ct) ⟨us,[]⟩=seqItems? 457>>=k/\k (some items)=pure (ps.zip (us++ds))):Binds K fd ps ds:=by
 sleep 112;intro s us KX hl;obtain ⟨k,h1,h2⟩:=h kV doc pm an cdv ct us hl;exact PySem.W.binds_K KX rfl ho hs h1 h2
theorem bv.binds0 {x qual:Str} {st:Stmt} {dV:Value} {f:Addr} {fd:FuncData} {ps:Lb} (F:bv K x qual st dV f fd)
  (h:∀(kV doc pm:Value) (an:Le) (cdv ct:Value) (us:Ld),us.length=ps.length->bindArgs (Jq x qual (fU st) (fJ st) (av st) dV kV doc pm an cdv ct) ⟨us,[]⟩=pure (ps.zip us)):Binds K fd ps []:=by
 sleep 112;exact .all (h kV doc pm an cdv ct)
theorem qx {x qual:Str} {st:Stmt} {f:Addr} {oc dV:Value} {od an:Le} {osl:Array Lg} {kV doc pm cdv ct:Value} (l:K.lookup f=some ⟨oc,od,.func (Jq x qual (fU st) (fJ st) (av st) dV kV doc pm an cdv ct),osl⟩)
  (c:PySem.W.codeIn K cdv qual=true) (k:K0 K (.ref f)=true):bv K x qual st dV f (Jq x qual (fU st) (fJ st) (av st) dV kV doc pm an cdv ct):=⟨⟨oc,od,kV,doc,pm,an,cdv,ct,osl,rfl,l,c⟩,k⟩
universe z0
universe Sw
namespace XH
open PySem
universe XH
namespace L2
open PySem PySem.Spec PyProof.Rows XH
noncomputable def Es (n:Bool) (a:Addr) (cls:Value) (dx:Le):HO:= .ext λh=>∃ox vs,h.get? a=some ox/\ox.cls=cls/\ox.dict=dx/\ox.data= .fields vs/\vs[2]?=some .none/\(n=true->1<vs.size/\vs[1]?=some .none)
abbrev Cx.block (X:Cx) (scope:Scope) (cl:List (Str×Addr)) (C:Addr) (N:Lb) (own:Str) (fp:Lc) (s:Shared) (H:Hp):Cx:=
 {X with env:=compEnvC scope cl C X.env,N:=N,s₀:=s,H₀:=H,outer:=X.stack,stack:=X.stack,ex:=fp,fn:=λy=>y==own,pn:= [],xe:=λ_ _=>False}
structure gn (X:Cx) (scope:Scope) (cl:List (Str×Addr)) (own:Str) (ys:Lb) (js:List Nat):Prop where
 clos:closureFor scope X.env=pure cl
 nocell:303=true
 kind:scope.kind= .function
 loc:189=true
 ownL:scope.names.lookup own=some .local
 sub:∀p∈cl,X.env.cells.lookup p.1=some p.2
 has:168=true
 noown:cl.lookup own=none
 nd:(own::ys).Nodup
 at_:∀(i:Nat) (y:Str),ys[i]?=some y->∃j:Nat,js[i]?=some j/\X.N[j]?=some y/\(X.env.scope.names.lookup y=some .cell∨X.env.scope.names.lookup y=some .free)/\((relabel scope X.env).names.lookup y=some .cell∨(relabel scope X.env).names.lookup y=some .free)
 len:js.length=ys.length
noncomputable def be (js:List Nat) (σ:St):St:=js.map λj=>(σ[j]?).getD none
def rY (js:List Nat) (te:TE) (σ:St) (Q:VK):It->Hp->Prop:=λJ H1=>∀p,H1 p=none->∃W:Nat->Nat->List V->Hp->Prop,(∃m,W 0 m [] (aK H1 p 149))/\
 ∀i m ys H2,W i m ys H2->H2 p=some 297/\((J.stop i H2/\Q 181 H2)∨(J.go i H2/\ys.length<sizeLine/\∀x H3,J.yld i H2 x H3->te (some x::be js σ) H3 λy H4=>H4 p=some 297/\∃m',m'<m/\W 301 m' (ys++ [y]) (aK H4 p (.lst (ys++ [y])))))
def oT (wi:TI) (js:List Nat) (te:TE):TE:=λσ H Q=>wi σ H (rY js te σ Q)
theorem lookup_all {α:Type} {f:Str×α->Bool} {x:Str} {a:α}:∀{l:List (Str×α)},l.all f=true->l.lookup x=some a->f (x,a)=true:=by
 intro l h e;exact IT.mp h _ (JQ e)
section
variable {prog:Program} {w:World} {A:Around} {R:Result->Shared->Prop} {s:Shared}
theorem iu {elt target iter:Expr} {scope:Scope} {pos:Pos} {it acc:Value} {env:Env} (I:Nat->Shared->Prop)
  (turn:∀n s,I n s->wpAny 131 A (pyNext it) (λr s1=>match r with
   |none=>R (.ok .next) s1
   |some v=>wpAny 131 A (letOwnedTupleGo target it v) (λ_ s2=>wpAny 131 A (assign target env v) (λ_ s3=>wpAny 131 A (eval elt env) (λx s4=>
     wpAny 131 A (call (.builtin "list.append") [acc,x]) (λ_ s5=>∃m,m<n/\I m s5) 205 s4) 205 s3) 205 s2) 205 s1) 205 s)
  (n:Nat) (h:I n s):codeAny 131 A (.compLoop (.ListComp elt [⟨target,iter,[],0⟩] scope pos) 0 it acc env) R s:=by
 apply codeAny_loop rfl I ?_ n h;intro n s hI;show wpAny _ _ ((compTurn (.ListComp elt [⟨target,iter,[],0⟩] scope pos) 0 it acc env).onRaise _) _ _ s;apply wpAny_noted;rw[compTurn_list1];sleep 55;apply wpAny_standAt;sleep 55;refine wpAny_mono (turn n s hI) (λr s1 h1=>?_) λ_ _ z=>z.elim
 cases r with
 |none=>exact wpAny_pure h1
 |some v=>
  sleep 55;refine wpAny_mono h1 (λ_ s2 h2=>?_) λ_ _ z=>z.elim
  sleep 55;refine wpAny_mono h2 (λ_ s3 h3=>?_) λ_ _ z=>z.elim
  sleep 55;sleep 55;refine wpAny_mono h3 (λx s4 h4=>?_) λ_ _ z=>z.elim
  sleep 55;refine wpAny_mono h4 (λ_ s5 h5=>?_) λ_ _ z=>z.elim
  exact wpAny_pure (wpAny_pure (rfl,h5))
universe z0
variable {X:Cx} {scope:Scope} {cl:List (Str×Addr)} {own:Str} {ys:Lb} {js:List Nat} {fp:Lc} {pins:La} {σ:St} {H:Hp} {s s4:Shared}
theorem iS {h1:Heap} (ok:gn X scope cl own ys js) (I:aY X pins σ H s) (hf:∀b∈fp,fk X pins H b) (hlt:∀b∈fp,b<52) (hns:h1.Ns 52 (λ_=>none))
  (hk:∀b o,s.heap.get? b=some o->h1.get? b=some o) (tk:Nat):
  aY (X.block scope cl 52 (own::ys) own fp s H) [] (none::be js σ) H {s with heap:=h1,toks:=tk}:=by
 have sub:∀y c,cl.lookup y=some c->X.env.cells.lookup y=some c:=λy c e=>ok.sub (y,c) (JQ e)
 refine ⟨⟨I.ok.mod,ok.kind,I.ok.glob,I.ok.blt,IH _,λx y c e1 e2=>I.ok.inj x y c (sub x c e1) (sub y c e2),λx hx=>?_,λx c e1 e2=>?_,I.ok.hd,I.ok.frames,.inl rfl,λb hb=>(IQ (hlt b hb),λx c e=>(hf b hb).2.2.2.2.1 x c (sub x c e)),
  I.bs,J8 I.ok.bsz I.sz,λb o e hb=>?_,λb hb z=>?_,I.stack,I.stkFree⟩,rfl,I.bare,Un.kept hk,⟨_,hns,λi y v e1 e2 e3=>?_⟩,λy c e=>?_,I.hok.fresh 249,λy c e=>I.freeC y c (sub y c e),λp hp=>absurd (show p∈([]:La) from hp) 139,I.hok.kept hk,?_⟩
 ·have hx':(relabel scope X.env).names.lookup x=some .cell∨(relabel scope X.env).names.lookup x=some .free:=hx;rcases hx' with z|z
  ·sleep 57
  ·sleep 50
 ·have e1':(x==own)=true:=e1;have e:x=own:=beq_iff_eq.mp e1';have e2':cl.lookup x=some c:=e2;rw[e,ok.noown] at e2';cases e2'
 ·rcases (hf b hb).2.2.2.1 with z|z
  ·exact I.ok.noex b o e z
  ·exact absurd (JA (Heap.lt_size (I.ok.bs b o e).1) z) (KH _)
 ·rcases IK.mp (I.stkSub b z) with q|q
  ·exact (hf b hb).2.1 q
  ·exact (hf b hb).2.2.1 q
 ·cases i with
  |zero=>cases e2
  |succ i=>
   have e1':ys[i]?=some y:=e1;obtain ⟨j,hj,hN,hX,hc⟩:=ok.at_ i y e1';have e2':(be js σ)[i]?=some (some v):=e2;unfold be at e2';rw[IG,hj] at e2';have hs:σ[j]?=some (some v):=by
    cases q:σ[j]? with
    |none=>rw[Jw,q] at e2';cases e2'
    |some o=>rw[Jw,q] at e2';exact e2'
   obtain ⟨m,hn,hl⟩:=I.loc;obtain ⟨u,r,l⟩:=hl j y v hN hs (hX.elim (λz=> .inr (.inl z)) λz=> .inr (.inr z))
   refine (u,r,.inr (hc,?_));rcases l with ⟨k,_⟩|⟨k,c,hcl,hcell⟩
   ·have k':X.env.scope.names.lookup y=some .local:=k;rcases hX with z|z<;>(rw[z] at k';cases k')
   ·have ex:∃c',cl.lookup y=some c':=by
     rcases hc with z|z
     ·sleep 57
     ·sleep 50
    obtain ⟨c',hc'⟩:=ex;have e:=sub y c' hc';rw[hcl] at e;cases e;obtain ⟨oc,hoc,hd⟩:=hcell;exact (c,hc',oc,hk _ _ hoc,hd)
 ·obtain ⟨v,oc,hoc,hd⟩:=I.cell y c (sub y c e);exact (v,oc,hk _ _ hoc,hd)
 ·show (none::be js σ).length=(own::ys).length;simp[be,ok.len]
theorem kt {H':Hp} {h':Heap} {σ':St} (I:aY X pins σ H s) (hf:∀b∈fp,fk X pins H b) (J:aY (X.block scope cl 52 (own::ys) own fp s H) [] σ' H' s4) (hs:Heap.SameBut 52 s4.heap h'):
  aY X pins σ H' {s4 with heap:=h'}:=by
 have low:∀b o,s.heap.get? b=some o->b≠s.heap.objs.size:=λb o e=>IQ 241
 have B:=J.base;have u:Un (wP X.stack) fp H H' s.heap h':={
  keep:=λb o q n hb hx=>(hs.2 b (low b o q)).trans (B.keep b o q n hb hx)
  slot:=λb o q n hb hx=>by
   obtain ⟨sl,e⟩:=B.slot b o q n hb hx;exact (sl,(hs.2 b (low b o q)).trans e)
  free:=B.free
  there:=λb o q hx=>by
   obtain ⟨o',e⟩:=B.there b o q hx;exact (o',(hs.2 b (low b o q)).trans e)
  tups:=B.tups
  frzs:=B.frzs
  tbls:=B.tbls}
 have hn:H' 52=none:=J.free;have hk:jv X.prog X.w H' h':=λa o e=>(J.hok a o e).stay (λb v hb q=>(hs.2 b (by
  intro z;rcases hb with z'|z'
  ·rw[<-z',z,hn] at e;cases e
  ·rw[z,hn] at z';cases z')).trans q) (λ_ q=>q) λ_ _ q=>q
 exact I.call' (s':={s4 with heap:=h'}) (ch:=fp) J.os u hk J.bare λb hb=>⟨(hf b hb).2.2.2.1,(hf b hb).2.1,(hf b hb).2.2.2.2.1,(hf b hb).2.2.2.2.2⟩
section
variable {elt iter:Expr} {px pos:Pos} {wi:TI} {te:TE}
theorem oU (hc:X.calm=true) (ok:gn X scope cl own ys js) (hi:PI X 340 iter wi)
  (he:∀(C:Addr) (fp:Lc) (s:Shared) (H:Hp),PE 141 elt te)
  (hs:∀x,foldedSetIterable iter X.env x=pure x)
  {pins:La} {s:Shared} {σ:St} {H:Hp} {Q:VK} {use:Option (Value->Sem Unit)} {QQ:KY} {pp:Pos} (I:aY X pins σ H s) (h:(oT wi js te) σ H Q)
  (fin:∀(p C:Addr) (s6:Shared) (H5:Hp) (v:Flow),479->203->fk X pins H5 C->Q 181 H5->compPost 136 X.A X.xe use QQ 181 C (.ok v) s6):
  wpAny 136 X.A (comprehension 134 scope X.env pp (newList []) false 468 use) QQ X.xe s:=by
 have ncell:∀y∈scope.names,y.2≠ .cell:=λy hy z=>by
  sleep 97
 have nloc:∀y∈scope.names,y.2= .local->scope.names.lookup y.1=some .local:=λy hy z=>by
  sleep 128
  simpa using q
 sleep 31
 sleep 4
 have I3:=I2.laid (a:=s2.heap.objs.size) (o:= .lst []) (h':=s2.heap.push 185) (t':=s2.toks) (λb u q=>116 _ q) 249
  ⟨JC _,[],0,.nil,130 _ rfl⟩
 have fpo:∀b∈fp,b<s2.heap.objs.size:=λb hb=>by
  sleep 75
 sleep 25
 sleep 23
 sleep 43
 sleep 53
 sleep 14
 sleep 42
 have fpB:∀{H':Hp},480->∀b∈fp,fk 113 [] H' b:=λ{H'} hn b hb=>
  ⟨hn b hb,IQ (lt3 b hb),λz=>(IK.mp (I3.stkSub b z)).elim (f3 b hb).2.1 (f3 b hb).2.2.1,.inl hb,λx c e=>(f3 b hb).2.2.2.2.1 x c 481,λp hp=>absurd (show p∈([]:La) from hp) 139⟩
 have loop:codeAny 136 X.A (.compLoop 134 0 310 179 282)
   (compPost 136 X.A X.xe use QQ 179 s3.heap.objs.size) {s3 with heap:=h1,toks:=s2.toks+0}:=by
  refine iu 199 ?_ m0
   ⟨0,[],none,_,J0,t0,λb hb=>(f3 b hb).1,w0⟩
  sleep 81;rcases hw with ⟨stop,qn⟩|⟨go,hz,step⟩
  ·refine cx (T.done 113 rfl rfl rfl hc i [] s5 _ H5 205 I5 (fpB n5) t5 stop) λr s6 (hr,I6)=>?_
   sleep 37
  ·refine cx (T.item 113 rfl rfl rfl hc i [] s5 _ H5 205 I5 (fpB n5) t5 go) λr s6 (u,hr,h6)=>?_
   sleep 82
   sleep 1
   subst e8 eH8;sleep 78
   sleep 21
   subst e10;refine (m',hm,i+1,zs++ [y],some x,_,I10.unpinned,T.keep _ _ _ t7 λb hb o e=>(I10.pin (b,o) 315).1,λb hb=>?_,w9)
   sleep 72
 sleep 65
theorem cQ (hc:X.calm=true) (ok:gn X scope cl own ys js) (hi:PI X 340 iter wi)
  (he:∀(C:Addr) (fp:Lc) (s:Shared) (H:Hp),PE 141 elt te)
  (hs:∀x,foldedSetIterable iter X.env x=pure x:=by intro _;rfl):PE X 134 (oT wi js te):=λpins s σ H Q I h=>by
 rw[eval_ListComp];exact oU hc ok hi he hs I h λp C s6 H5 v (m,hn) J _ q=>281
universe z0
theorem my {X:Cx} {pins:La} {σ:St} {i:Nat} {y:Str} {py:Pos} {D:Ends} (hN:X.N.Nodup) (hi':X.N[i]?=some y) (hy:X.env.scope.names.lookup y=some .local) (p C:Addr) (s6:Shared) (H5:Hp) (v:Flow) (hm:∃m,s6.heap.Ns C m) (J:∀h',Heap.SameBut C s6.heap h'->aY X pins σ H5 {s6 with heap:=h'}) (fC:fk X pins H5 C) (qn:cE i 181 σ H5 D.nx):compPost 136 X.A X.xe (some (assign 512 X.env)) (λ_ s'=>SP X pins D .next s') 181 C (.ok v) s6:=by
 obtain ⟨m,hn⟩:=hm;obtain ⟨k0,k1,k2,k3,k4,k5⟩:=fC;show wpAny _ X.A (assign 512 X.env 181) _ _ _;refine wpAny_assign_Name (oK (v:= .ref p) (J s6.heap (Heap.SameBut.refl _ _)) hN hi' (.inl hy) rfl (λs7 I7 hsb=>?_) (.inr hy))
 obtain ⟨a',sb,ha⟩:=hsb;have ne:C≠a':=by
  rcases ha with z|z
  ·rw[z];exact k1
  ·exact λw=>k4 _ _ z w.symm
 exact (m,hn.sameBut sb ne,λh' hs'=>(_,H5,I7.turned (t':=s7.toks) (λb o hb e=>(hs'.2 b hb).trans e) k0 k1 k3 k4 k5,qn))
open PySem.Builtin PySem.Builtin.ObjectAttr
theorem oz:entryFor table "proto.unchain" =some Builtin.«proto.unchain» :=entryFor_of_fast 295
def me (hd:Lg) (H:Hp):Prop:=∀v,hd=some v->∃a n cls dx,v= .ref a/\H a=some (Es n a cls dx)
theorem me.no {H:Hp}:me none H:=λ_ z=>nomatch z
section
variable {prog:Program} {w:World} {A:Around} {E:KY}
theorem ut {it hx:Addr} {ox:Obj} {vs:Array Value} {x left step:Int} {Q:Lg->Shared->Prop} (hh:A.handled=some (.ref hx)) (ho:s.heap.get? hx=some ox) (hd:ox.data= .fields vs) (h2:vs[2]?=some .none)
  (hit:IsRangeIter s.heap it x left step) (hleft:left<=0) (hQ:∀h',Heap.ExtBut it s.heap h'->Q none 317):wpAny 131 A (pyNext 310) Q E s:=by
 have hT:s.TypeIs 310 "range_iterator" :=(_,hit,rfl);unfold pyNext;refine wpAny_bind (wpAny_attempt (wpAny_callSpecial?_slot (name:=Str.ofString "__next__") hT F.slot_range_iterator_next
  (wpAny_call_entry F.slot_range_iterator_next hT F.entry_range_iterator_next ?_ (F.args_range_iterator_next_1 _))))
 show wpAny _ _ (field 310 0>>=_) _ _ s;refine wpAny_bind (wpAny_field hit rfl (x:=rawInt x) rfl ?_);show wpAny _ _ (field 310 1>>=_) _ _ s;refine wpAny_bind (wpAny_field hit rfl (x:=rawInt left) rfl ?_);show wpAny _ _ (field 310 2>>=_) _ _ s;refine wpAny_bind (wpAny_field hit rfl (x:=rawInt step) rfl ?_);show wpAny _ _ (if left<=0 then _ else _) _ _ s
 rw[if_pos hleft];refine wpAny_bind (wpAny_rule ?_);sleep 136;sleep 36
 sleep 56
 refine wpAny_newObj_type ?_ (by size_fits)
 simp only[raiseNew];refine wpAny_bind (wpAny_handled ?_);rw[show A.in1.handled=some (.ref hx) from hh]
 have g0:s.heap.get? (s.heap.push {cls:= .type "tuple",dict:=none,data:= .seq ([]:Ld).toArray}).objs.size=none:=Heap.get?_none_of_le (by rw[Heap.size_push];lia)
 have ne:hx≠(s.heap.push {cls:= .type "tuple",dict:=none,data:= .seq ([]:Ld).toArray}).objs.size:=λz=>by
  rw[z,g0] at ho;cases ho
 dsimp only;rw[if_pos (bne_iff_ne.mpr λz=>ne (Value.ref.inj z))]
 refine wpAny_bind (wpAny_holding (wpAny_runValue (codeAny_builtin oz ?_)));show wpAny _ _ (field (.ref hx) 2>>=_) _ _ _;refine wpAny_bind (wpAny_field (116 _ (116 _ ho)) hd h2 ?_);rw[if_pos (by rfl)]
 refine wpAny_bind (wpAny_pure 250);refine wpAny_bind (m:=updateField _ 2 _) (wpAny_setField (130 _ rfl) rfl (by show 2<6;decide) ?_)
 refine wpAny_throw ?_;refine wpAny_bind (wpAny_isInstance (T:= "StopIteration") (b:=true) (_,Heap.get?_update_self _ (130 _ rfl) rfl,rfl) isSubtype_stop ?_);refine wpAny_pure (hQ _ λb o hb e=>?_)
 rw[Heap.get?_update_other _ _ (by
  intro z;rw[z] at g0;rw[g0] at e;cases e)]
 exact 116 _ 485
universe z0
structure BE (hd:Lg) (P:Program) (w:World) (K:IE) (tg:Expr) (J:It) (fp:Lc) (it:Addr) (tn:Nat->Heap->Prop):Prop where
 mem:it∈fp
 obj:∀i h,tn i h->∀b∈fp,∃o,h.get? b=some o/\∀v,o.data≠ .cell v
 keep:∀i h h',tn i h->(∀b∈fp,∀o,h.get? b=some o->h'.get? b=some o)->tn i h'
 item:∀(X:Cx),X.prog=P->X.w=w->X.K=K->X.A.handled=hd->∀(i:Nat) (pins:La) (s:Shared) (σ:St) (H:Hp) (E:KY),aY X pins σ H s->(∀b∈fp,fk X pins H b)->tn i s.heap->J.go i H->
  wpAny (model P w) X.A (pyNext 310) (λr s1=>∃u,r=some u/\
   wpAny (model P w) X.A (letOwnedTupleGo tg 310 u) (λ_ s2=>∃x H',aY X pins σ H' s2/\RelV x u/\J.yld i H x H'/\tn 301 s2.heap/\∀b∈fp,H' b=none) E s1) E s
 done:∀(X:Cx),X.prog=P->X.w=w->X.K=K->X.A.handled=hd->∀(i:Nat) (pins:La) (s:Shared) (σ:St) (H:Hp) (E:KY),aY X pins σ H s->(∀b∈fp,fk X pins H b)->tn i s.heap->J.stop i H->
  wpAny (model P w) X.A (pyNext 310) (λr s1=>r=none/\aY X pins σ H s1) E s
 self:∀(A:Around) (i:Nat) (s:Shared) (Q:KY) (E:KY),tn i s.heap->Q 310 s->wpAny (model P w) A (pyIter 310) Q E s
def Et (hd:Lg) (X:Cx) (pins:La) (σ:St) (tg:Expr) (R:It->Hp->Prop) (itv:Value) (s2:Shared):Prop:=
 ∃(it:Addr) (fp:Lc) (tn:Nat->Heap->Prop) (J:It) (H':Hp),itv= .ref it/\aY X pins σ H' s2/\BE hd X.prog X.w X.K tg J fp it tn/\tn 0 s2.heap/\(∀b∈fp,fk X pins H' b)/\R J H'
def Gi (hd:Lg) (X:Cx) (tg iter:Expr) (wi:TI):Prop:=
 ∀(pins:La) (s:Shared) (σ:St) (H:Hp) (R:It->Hp->Prop),aY X pins σ H s->wi σ H R->
  wpAny 136 X.A 468 (λv s1=>wpAny 136 X.A (pyIter v) (Et hd X pins σ tg R) X.xe s1) X.xe s
noncomputable def yI (hd:Lg) (lo:Int) (n:Nat):It:=⟨λi _=>i<n,λi H x H'=>H'=H/\x= .int (lo+i),λi H=>n<=i/\me hd H⟩
theorem rZ {hd:Lg} {P:Program} {w:World} {K:IE} {tg:Expr} (it:Addr) (lo:Int) (n:Nat):BE hd P w K tg (yI hd lo n) [it] it (λi h=>IsRangeIter h it (lo+(i:Nat)*1) ((n:Int)-(i:Nat)) 1) where
 mem:=by simp
 obj:=λi h st b hb=>by
  have e:b=it:=by simpa using hb
  subst e;exact ⟨_,st,λv z=>by
   have z':Data.fields _=Data.cell v:=z;cases z'⟩
 keep:=λi h h' st k=>k it 139 _ st
 item:=by
  intro X hP hw hK hA i pins s σ H E I hf st hg;subst hP hw hK;sleep 64
  have hg':i<n:=hg;refine wpAny_pyNext_range_item st 78 λh' st' sb=>?_
  have I1:aY X pins σ H {s with heap:=h',toks:=s.toks+1}:=I.turned (λb o hb e=>(sb.2 b hb).trans e) f0 f1 f3 f4 f5
  have st2:IsRangeIter h' it (lo+509*1) ((n:Int)-509) 1:=by
   have e1:lo+509*1=lo+(i:Int)*1+1:=by push_cast;lia
   have e2:(n:Int)-509=(n:Int)-(i:Int)-1:=by push_cast;lia
   rw[e1,e2];exact st'
  refine ⟨_,rfl,rL (s:={s with heap:=h',toks:=s.toks+1}) (n:= "range_iterator") st2 rfl rfl 41 ⟨.int (lo+i),H,I1,⟨s.toks,?_⟩,⟨rfl,rfl⟩,st2,λb hb=>(hf b hb).1⟩⟩
  rw[Int.mul_one]
 done:=by
  intro X hP hw hK hA i pins s σ H E I hf st hg;subst hP hw hK;sleep 64
  obtain ⟨hl,hk⟩:=hg;cases hd with
  |none=>exact wpAny_pyNext_range_end hA st 78 λh' eb=>⟨rfl,I.turned (t':=s.toks) (λb o hb e=>eb b o hb e) f0 f1 f3 f4 f5⟩
  |some v=>
   obtain ⟨a,m,cls,dx,rfl,e⟩:=hk v rfl;obtain ⟨⟨ox,vs,h1,h2,h3,h4,h6,h5⟩,_⟩:=(show cR X.prog X.w H s.heap a (Es m a cls dx) from I.hok a _ e)
   exact ut hA h1 h4 h6 st 78 λh' eb=>(rfl,I.turned (t':=s.toks) (λb o hb e=>eb b o hb e) f0 f1 f3 f4 f5)
 self:=λ_ _ _ _ _ st h=>wpAny_pyIter_rangeiter st h
def Eu (hd:Lg) (ta:TA):TI:=λσ H R=>ta σ H λvs H1=>∃j:Int,vs= [.int j]/\ -(2^62)<=j/\j<2^62/\R (yI hd 0 j.toNat) H1
section
variable {tg:Expr} {hd:Lg}
theorem xh {pins:La} {σ:St} {H:Hp} {s:Shared} {R:It->Hp->Prop} {E:KY} {lo hi:Int} {t u v:Tok} {tk:Nat} (I:aY X pins σ H s) (h1: -(2^62)<=lo) (h2:lo<2^62) (h3: -(2^62)<=hi) (h4:hi<2^62)
  (q:R (yI hd lo (hi-lo).toNat) H):wpAny 136 X.A (pyIter 267) (Et hd X pins σ tg R) E {s with heap:=s.heap.push 169,toks:=tk}:=by
 refine wpAny_pyIter_range (IsRange.new ..) (small_one h1 h2 h3 h4) ?_;have I1:aY X pins σ H {s with heap:=s.heap.push 169,toks:=tk}:=I.kept λb o e=>116 _ e
 refine ⟨(s.heap.push 169).objs.size,[(s.heap.push 169).objs.size],_,_,H,rfl,
  I1.kept (t':=tk) λb o e=>116 _ e,rZ _ lo (hi-lo).toNat,?_,λb hb=>?_,q⟩
 ·have e1:lo+500*1=lo:=by simp
  have e2:(((hi-lo).toNat:Nat):Int)-500=Builtin.Range.rangeSize lo hi 1:=by rw[rangeSize_one];split<;>lia
  show IsRangeIter _ _ (lo+500*1) ((((hi-lo).toNat:Nat):Int)-500) 1;rw[e1,e2];exact 130 _ rfl
 ·have e:b=(s.heap.push 169).objs.size:=by simpa using hb
  subst e;exact I1.fpOk 249 (I1.hok.fresh 249)
theorem gX {a:Expr} {ta:TA} {p pos:Pos} (hg:Gl X "range") (hm:X.mg "range" =none) (ha:PA X [a] ta) (hs:starEach [a] X.env= [(false,eval a X.env)]:=by rfl):Gi hd X tg (.Call (.Name "range" p) [a] [] pos) (Eu hd ta):=by
 sleep 135;refine Call_ (dX I hg hm boot_range (J9 286 hs rfl))
 obtain ⟨j,e,q1,q2,q⟩:=q1;subst e;cases r1 with
 |cons r rr=>
  cases rr;obtain ⟨t,rfl⟩:=r;exact call_range_1 (xh I1 78 78 q1 q2 (by simpa using q))
universe z0
section
variable {elt iter:Expr} {px pos:Pos} {wi:TI} {te:TE} {hd:Lg}
theorem mU (hA:X.A.handled=hd) (ok:gn X scope cl own ys js) (hi:Gi hd X 340 iter wi)
  (he:∀(C:Addr) (fp:Lc) (s:Shared) (H:Hp),PE 141 elt te)
  (hs:∀x,foldedSetIterable iter X.env x=pure x)
  {pins:La} {s:Shared} {σ:St} {H:Hp} {Q:VK} {use:Option (Value->Sem Unit)} {QQ:KY} {pp:Pos} (I:aY X pins σ H s) (h:(oT wi js te) σ H Q)
  (fin:∀(p C:Addr) (s6:Shared) (H5:Hp) (v:Flow),479->203->fk X pins H5 C->Q 181 H5->compPost 136 X.A X.xe use QQ 181 C (.ok v) s6):
  wpAny 136 X.A (comprehension 134 scope X.env pp (newList []) false 468 use) QQ X.xe s:=by
 have ncell:∀y∈scope.names,y.2≠ .cell:=λy hy z=>by
  sleep 97
 have nloc:∀y∈scope.names,y.2= .local->scope.names.lookup y.1=some .local:=λy hy z=>by
  sleep 128
  simpa using q
 sleep 31
 sleep 4
 have I3:=I2.laid (a:=s2.heap.objs.size) (o:= .lst []) (h':=s2.heap.push 185) (t':=s2.toks) (λb u q=>116 _ q) 249
  ⟨JC _,[],0,.nil,130 _ rfl⟩
 have fpo:∀b∈fp,b<s2.heap.objs.size:=λb hb=>by
  sleep 75
 sleep 25
 sleep 23
 sleep 43
 sleep 53
 sleep 14
 sleep 42
 have fpB:∀{H':Hp},480->∀b∈fp,fk 113 [] H' b:=λ{H'} hn b hb=>
  ⟨hn b hb,IQ (lt3 b hb),λz=>(IK.mp (I3.stkSub b z)).elim (f3 b hb).2.1 (f3 b hb).2.2.1,.inl hb,λx c e=>(f3 b hb).2.2.2.2.1 x c 481,λp hp=>absurd (show p∈([]:La) from hp) 139⟩
 have loop:codeAny 136 X.A (.compLoop 134 0 310 179 282)
   (compPost 136 X.A X.xe use QQ 179 s3.heap.objs.size) {s3 with heap:=h1,toks:=s2.toks+0}:=by
  refine iu 199 ?_ m0
   ⟨0,[],none,_,J0,t0,λb hb=>(f3 b hb).1,w0⟩
  sleep 81;rcases hw with ⟨stop,qn⟩|⟨go,hz,step⟩
  ·refine cx (T.done 113 rfl rfl rfl hA i [] s5 _ H5 205 I5 (fpB n5) t5 stop) λr s6 (hr,I6)=>?_
   sleep 37
  ·refine cx (T.item 113 rfl rfl rfl hA i [] s5 _ H5 205 I5 (fpB n5) t5 go) λr s6 (u,hr,h6)=>?_
   sleep 82
   sleep 1
   subst e8 eH8;sleep 78
   sleep 21
   subst e10;refine (m',hm,i+1,zs++ [y],some x,_,I10.unpinned,T.keep _ _ _ t7 λb hb o e=>(I10.pin (b,o) 315).1,λb hb=>?_,w9)
   sleep 72
 sleep 65
theorem jV (hA:X.A.handled=hd) (ok:gn X scope cl own ys js) (hi:Gi hd X 340 iter wi)
  (he:∀(C:Addr) (fp:Lc) (s:Shared) (H:Hp),PE 141 elt te)
  (hs:∀x,foldedSetIterable iter X.env x=pure x:=by intro _;rfl):PE X 134 (oT wi js te):=λpins s σ H Q I h=>by
 rw[eval_ListComp];exact mU hA ok hi he hs I h λp C s6 H5 v (m,hn) J _ q=>281
theorem yJ {i:Nat} {y:Str} {py spos:Pos} (hN:X.N.Nodup) (hi':X.N[i]?=some y) (hy:X.env.scope.names.lookup y=some .local) (hA:X.A.handled=hd) (ok:gn X scope cl own ys js) (hi:Gi hd X 340 iter wi)
  (he:∀(C:Addr) (fp:Lc) (s:Shared) (H:Hp),PE 141 elt te)
  (hsw:swapsWith 134 (some 512) spos.line X.env=pure true:=by rfl) (hs:∀x,foldedSetIterable iter X.env x=pure x:=by intro _;rfl):
  PS X (.Assign [.Name y py] 134 spos) (ud (oT wi js te) (cE i)):=λpins s σ H D I h=>by
 sleep 29;show wpAny _ X.A (do let _<-comprehension (.ListComp elt [⟨.Name own px,iter,[],0⟩] scope pos) scope X.env _ (newList []) false (eval iter X.env) (some (assign (.Name y py) X.env))) _ _ s
 exact wpAny_bind (wpAny_mono (mU hA ok hi he hs I h (my hN hi' hy)) 294 λ_ _ e=>e)
universe z0
universe L2
namespace Sw
open PySem L2 XH
structure Dx (P:Program) (w:World) (K:IE) (mg:KZ) (base:Heap) (CX:vw) (k:Nat) (x:Str) (ps:Lb) (dvs:List V) (sp:Sp) where
 f:Addr
 fd:FuncData
 ok:bq P w K mg base CX k f fd ps sp
 m:mg x=some (.ref f)
 q:K0 K (.ref f)=true
 b:Binds K fd ps []
 bd:∃ds,Binds K fd ps ds/\bN dvs ds
section
variable {X:Cx} {k j:Nat} {x:Str} {ps:Lb} {sp:Sp} {p pos:Pos} {e:Expr} {es:List Expr} {t:TA} {dvs:List V} {E:St->XK}
theorem B8 (D:Dx X.prog X.w X.K X.mg X.base bj k x ps dvs sp) (hr:fo j X.A) (hk:k<=j) (hg:Gl X x) (ha:PA X (e::es) t) (hdb:311=false:=by decide)
  (he:starEach (e::es) X.env=(false,eval e X.env)::starEach es X.env:=by rfl) (hpl:(backTo pos 429).any 201=false:=by rfl):
  PE X 442 (yr sp [] E0 t):=
 Ax D.ok (hr.mono hk) hg D.m D.q D.b .nil BD ha hdb he hpl
universe z0
universe Sw
namespace L2
open PySem PySem.Spec PyProof.Rows XH
theorem xi {X:Cx} {K:IE} (hK:X.K=K):eY X (.builtin "isinstance") (λxs H Q=>∃x t T b,xs= [x,.ty T]/\jO K H x t/\PySem.W.kitOne K t (.type T)=some b/\Q (.bl b) H):=by
 subst hK;sleep 52;obtain ⟨x,t,T,b,rfl,ty,e,q⟩:=h;obtain ⟨u,w',rfl,e1,e2⟩:=vals2 r;cases e2;exact wX I e1 ty e λtk=>(.bl b,H,I.tok tk,rfl,q)
universe L2
namespace Sw
open PySem L2 XH
universe Sw
namespace L2
open PySem PySem.Spec PyProof.Rows XH
universe L2
namespace Sw
open PySem L2 XH PyProof.Rows
theorem yK {hd:Lg} {H H':Hp} (h:me hd H) (g:aC H H'):me hd H':=λv e=>by
 obtain ⟨a,n,cls,dx,e1,e2⟩:=h v e;exact (a,n,cls,dx,e1,g _ _ e2)
theorem dQ {H H':Hp} {p:Addr} (g:aC H H') (h:H p=none) (o:HO):aC H (aK H' p o):=λb u q=>by
 rw[aQ (eM q h)];exact g b u q
theorem AI {hd:Lg} {n:Nat} {js:List Nat} {te:TE} {σ:L2.St} {H1:Hp} {Q:VK} (P:Nat->V->Prop) (hok:me hd H1) (hn:n<=sizeLine)
  (step:∀i,i<n->∀H3,aC H1 H3->∀Q':VK,(∀y H4,P i y->aC H3 H4->Q' y H4)->te 394 H3 Q')
  (fin:∀p ys H',H1 p=none->ys.length=n->(∀i y,ys[i]?=some y->P i y)->aC H1 H'->H' p=some 297->Q 181 H'):
  rY js te σ Q (yI hd 0 n) H1:=by
 intro p hp;exists λi m ys H2=>i<=n/\m=n-i/\ys.length=i/\(∀j y,ys[j]?=some y->P j y)/\aC H1 H2/\H2 p=some 297,(n,JC _,rfl,rfl,λj y e=>by simp at e,af hp _,ag)
 rintro i m ys H2 ⟨hi,rfl,hl,hP,g,e⟩;exists e
 by_cases hin:i<n
 ·refine .inr (hin,by lia,λx H3 hy=>?_)
  obtain ⟨rfl,rfl⟩:=hy;refine step i hin H3 g _ λy H4 py g4=>(g4 _ _ e,n-301,by lia,hin,rfl,by simp[hl],λj z ez=>?_,dQ (g.trans g4) hp _,ag)
  by_cases hj:j<ys.length
  ·rw[JH hj] at ez;exact hP j z ez
  ·rw[J7 78] at ez
   have h0:j-ys.length=0:=by
    rcases Nat.eq_zero_or_pos (j-ys.length) with q|q
    ·exact q
    ·rw[Ju (by simp;lia)] at ez;cases ez
   rw[h0] at ez;have hji:j=i:=by lia
   subst hji;cases ez;exact py
 ·have e2:i=n:=by lia
  subst e2;exact .inl ((IH _,yK hok g),fin p ys H2 hp hl hP g e)
def ku (X:Cx) (scope:Scope) (ys:Lb) (js:List Nat):Prop:=∀(i:Nat) (y:Str),ys[i]?=some y->∃j:Nat,js[i]?=some j/\X.N[j]?=some y/\(X.env.scope.names.lookup y=some .cell∨X.env.scope.names.lookup y=some .free)/\((relabel scope X.env).names.lookup y=some .cell∨(relabel scope X.env).names.lookup y=some .free)
theorem gR {X:Cx} {scope:Scope}:ku X scope [] []:=λi y h=>by simp at h
theorem gG {X:Cx} {scope:Scope} {ys:Lb} {js:List Nat} {y:Str} {j:Nat} (t:ku X scope ys js) (h1:X.N[j]?=some y:=by rfl) (h2:X.env.scope.names.lookup y=some .cell∨X.env.scope.names.lookup y=some .free:=by first|exact Or.inl rfl|exact Or.inr rfl)
  (h3:(relabel scope X.env).names.lookup y=some .cell∨(relabel scope X.env).names.lookup y=some .free:=by first|exact Or.inl rfl|exact Or.inr rfl):ku X scope (y::ys) (j::js):=λi z h=>by
 cases i with
 |zero=>
  cases h;exact (j,rfl,h1,h2,h3)
 |succ i=>exact t i z h
inductive uu (X:Cx):List (Str×Addr)->Prop where
 |nil:uu X []
 |cons {y:Str} {c:Addr} {cl:List (Str×Addr)} (h:X.env.cells.lookup y=some c) (t:uu X cl):uu X ((y,c)::cl)
theorem uu.all {X:Cx} {cl:List (Str×Addr)} (h:uu X cl):∀p∈cl,X.env.cells.lookup p.1=some p.2:=by
 induction h with
 |nil=>intro p hp;simp at hp
 |cons h _ ih=>
  intro p hp;rcases IK.mp hp with e|e
  ·rw[e];exact h
  ·exact ih p e
theorem cok {X:Cx} {scope:Scope} {cl:List (Str×Addr)} {own:Str} {ys:Lb} {js:List Nat} (a:ku X scope ys js) (s:uu X cl) (nd:(own::ys).Nodup) (len:js.length=ys.length) (clos:closureFor scope X.env=pure cl) (nocell:303=true) (kind:scope.kind= .function)
  (loc:189=true) (ownL:scope.names.lookup own=some .local) (has:168=true) (noown:cl.lookup own=none):gn X scope cl own ys js:=
 ⟨clos,nocell,kind,loc,ownL,s.all,has,noown,nd,a,len⟩
structure GR (P:Program) (w:World) (K:IE) (mg:KZ) (base:Heap) (CX:vw) (k:Nat) (f:Addr) (ps:Lb) (dvs:List V) (sp:Sp) where
 fd:FuncData
 ok:bq P w K mg base CX k f fd ps sp
 b:Binds K fd ps []
 bd:∃ds,Binds K fd ps ds/\bN dvs ds
section
variable {X:Cx} {k j:Nat} {f C:Addr} {ps:Lb} {sp:Sp} {dvs:List V} {x m:Str} {p pos apos:Pos} {e o:Expr} {es:List Expr} {ta tb:TE} {t:TA}
theorem B9 (M:Mk X.K C f) (D:GR X.prog X.w X.K X.mg X.base bj k f ps dvs sp) (hr:fo j X.A) (hk:k+1<=j) (hg:Gl X x) (hm:X.mg x=some (.ref C)) (ha:PA X (e::es) t) (hdb:311=false:=by decide)
  (he:starEach (e::es) X.env=(false,eval e X.env)::starEach es X.env:=by rfl) (hpl:(backTo pos 429).any 201=false:=by rfl):PE X 442 (BB C sp [] E0 t):=
 Ay M D.ok (hr.mono hk) hg hm D.b .nil BD ha hdb he hpl
universe z0
universe Sw
namespace L2
open PySem PySem.Spec PyProof.Rows
variable {X:Cx} {pins:La} {σ:St} {H:Hp} {s:Shared} {h':Heap}
theorem aY.turnedNew {ch:Lc} {T:Addr} {o:HO} {t':Nat} (I:aY X pins σ H s) (hf:∀b∈ch,fk X pins H b) (k:∀b u,b∉ch->s.heap.get? b=some u->h'.get? b=some u) (hp:s.heap.objs.size<=T) (new:cR X.prog X.w (aK H T o) h' T o):
  aY X pins σ (aK H T o) {s with heap:=h',toks:=t'}:=by
 have nT:H T=none:=I.hok.fresh hp;have ne:∀b u,H b=some u->b≠T:=λb u e z=>by rw[z,nT] at e;cases e
 have nch:∀b u,H b=some u->b∉ch:=λb u e z=>by rw[(hf b z).1] at e;cases e
 have up:∀b u,H b=some u->aK H T o b=some u:=λb u e=>by rw[aQ (ne b u e)];exact e
 refine I.step (g':=s.gens) (d':=s.drawn) (ch:=ch) (λb hb=>?_) (λb u _ _ hc e _=>k b u hc e) (λb u _ _ hc e _=>(u.slots,k b u hc e)) (λb u _ e n=>?_)
  (λb u hc e=>⟨u,k b u hc e⟩) (λb xs e=>up b _ e) (λb u v e=>up b _ e) (λb ps e=>⟨#[],by rw[up b _ e];simp⟩) (λm hm=>?_) (λb u e=>?_) I.bare
 ·obtain ⟨f0,f1,f2,f3,f4,f5⟩:=hf b hb;exact (f3,f1,f4,f5)
 ·have:b≠T:=IQ (JA 241 hp);rw[aQ this];exact n
 ·obtain ⟨u,es,ep,ho,r⟩:=hm;exact (u,es,ep,k _ u (λz=>(hf _ z).2.1 rfl) ho,r)
 ·by_cases c:b=T
  ·subst c;rw[ag] at e;cases e;exact new
  ·rw[aQ c] at e;refine (I.hok b u e).stay (λc' v hc q=>k c' v ?_ q) (λ_ q=>up _ _ q) λ_ _ q=>up _ _ q
   rcases hc with z|z
   ·rw[z];exact nch b u e
   ·exact nch c' _ z
theorem aY.turnedAll {ch:Lc} {t':Nat} (I:aY X pins σ H s) (hf:∀b∈ch,fk X pins H b) (k:∀b u,b∉ch->s.heap.get? b=some u->h'.get? b=some u):aY X pins σ H {s with heap:=h',toks:=t'}:=by
 have nch:∀b u,H b=some u->b∉ch:=λb u e z=>by rw[(hf b z).1] at e;cases e
 refine I.step (g':=s.gens) (d':=s.drawn) (ch:=ch) (λb hb=>?_) (λb u _ _ hc e _=>k b u hc e) (λb u _ _ hc e _=>(u.slots,k b u hc e)) (λb u _ e n=>n)
  (λb u hc e=>⟨u,k b u hc e⟩) (λb xs e=>e) (λb u v e=>e) (λb ps e=>⟨#[],by rw[e];simp⟩) (λm hm=>?_) (λb u e=>?_) I.bare
 ·obtain ⟨f0,f1,f2,f3,f4,f5⟩:=hf b hb;exact (f3,f1,f4,f5)
 ·obtain ⟨u,es,ep,ho,r⟩:=hm;exact (u,es,ep,k _ u (λz=>(hf _ z).2.1 rfl) ho,r)
 ·refine (I.hok b u e).stay (λc' v hc q=>k c' v ?_ q) (λ_ q=>q) λ_ _ q=>q
  rcases hc with z|z
  ·rw[z];exact nch b u e
  ·exact nch c' _ z
noncomputable def Ev (K:IE) (l:Addr):It:=
 ⟨λi H=>∃xs x,aD K H l xs/\xs[i]?=some x,λi H v H'=>∃(T:Addr) (x:V),v= .ref T/\H T=none/\(∀xs,aD K H l xs->xs[i]?=some x)/\H'=aK H T (.tup [.int i,x]),λi H=>∃xs,aD K H l xs/\xs.length<=i⟩
theorem xj {P:Program} {w:World} {K:IE} {elts:List Expr} {k:Nat} {pos:Pos} (l e it:Addr) (ne:e≠it):Turn P w K (.Tuple elts k pos) (Ev K l) [e,it] e (λi h=>(∃old,IsEnum h e it i old)/\h.IsListIter it l i) where
 mem:=by simp
 obj:=λi h st b hb=>by
  obtain ⟨⟨old,he⟩,o,e1,c,d⟩:=st;rcases IK.mp hb with z|z
  ·subst z;exact (_,he,λv z=>by cases z)
  ·rw[IM.mp z];exact (o,e1,λv z=>by rw[d] at z;cases z)
 keep:=λi h h' st k=>⟨let ⟨old,he⟩:=st.1;⟨old,k e (by simp) _ he⟩,st.2.at λo q=>k it (by simp) o q⟩
 item:=by
  sleep 16;obtain ⟨xs,x,hq,hx⟩:=hg;obtain ⟨its,rv,p,hz⟩:=I.list hq;obtain ⟨u,hu,ru⟩:=rv.get hx;obtain ⟨⟨old,he⟩,hit⟩:=st;refine wpAny_pyNext_enum_item he hit p.isList (x:=u) (by simpa using hu) ne λh1 ho hit' hT hsz hk=>?_
  refine ⟨_,rfl,wpAny_letOwnedTupleGo_enum (s:={s with heap:=h1,toks:=s.toks+1}) ho λh2 he2 hs2=>?_⟩
  have nT:H 52=none:=I.hok.fresh 249;have el:e<s.heap.objs.size:=Heap.lt_size he;have il:it<s.heap.objs.size:=by obtain ⟨_,q,_⟩:=hit;exact Heap.lt_size q
  have hT2:h2.get? 52=some {cls:= .type "tuple",data:= .seq #[.int i s.toks,u]}:=(hs2.2 _ (Jp el)).trans hT;have kp:∀b o,b∉ [e,it]->s.heap.get? b=some o->h2.get? b=some o:=λb o hb q=>by
   simp at hb;exact (hs2.2 b hb.1).trans (hk b o hb.1 hb.2 q)
  refine ⟨.ref 52,aK H 52 (.tup [.int i,x]),I.turnedNew (t':=s.toks+1) (ch:= [e,it]) hf kp 249 (by show 2<=sizeLine;decide,[.int i s.toks,u],.cons ⟨ν⟩ (.cons ru .nil),(_,hT2,rfl,0,rfl)),rfl,
   ⟨_,x,rfl,nT,λys hy=>by rw[I.list_inj hy hq];exact hx,rfl⟩,⟨⟨u,?_⟩,?_⟩,λb hb=>?_⟩
  ·simpa using he2
  ·exact hit'.at λo q=>(hs2.2 it (Ne.symm ne)).trans q
  ·have bl:b≠s.heap.objs.size:=by
    rcases IK.mp hb with z|z
    ·rw[z];exact IQ el
    ·rw[IM.mp z];exact IQ il
   rw[aQ bl];exact (hf b hb).1
 done:=by
  sleep 16;obtain ⟨xs,hq,hx⟩:=hg;obtain ⟨its,rv,p,hz⟩:=I.list hq;obtain ⟨⟨old,he⟩,hit⟩:=st;have hl:=rv.length;exact wpAny_pyNext_enum_end 253 he hit p.isList (by simp;lia) λh' eb=>(rfl,I.turnedAll (t':=s.toks) (ch:= [e,it]) hf λb o hb q=>eb b o 325 q)
 self:=λ_ _ _ _ _ st h=>let ⟨_,he⟩:=st.1;wpAny_pyIter_enum he h
def Ew (K:IE) (ta:TA):TI:=λσ H R=>ta σ H λvs H1=>∃l:Addr,vs= [.ref l]/\(∃xs,aD K H1 l xs)/\R (Ev K l) H1
theorem boot_enumerate:bootBuiltins "enumerate" =some (.type "enumerate"):=by kernel_rfl
theorem jc {X:Cx} {a:Expr} {ta:TA} {elts:List Expr} {k:Nat} {tp p pos:Pos} (hg:Gl X "enumerate") (hm:X.mg "enumerate" =none) (ha:PA X [a] ta) (hs:starEach [a] X.env= [(false,eval a X.env)]:=by rfl):PI X (.Tuple elts k tp) (.Call (.Name "enumerate" p) [a] [] pos) (Ew X.K ta):=by
 sleep 135;refine Call_ (dX I hg hm boot_enumerate (J9 286 hs rfl))
 obtain ⟨l,e,⟨xs,hq⟩,q⟩:=q1;subst e;cases r1 with
 |cons r rr=>
  cases rr;cases r;obtain ⟨its,rv,p1,hz⟩:=I1.list hq;refine call_enumerate_list p1.isList λh' he hit hsz hk=>?_
  refine wpAny_pyIter_enum (s:={s1 with heap:=h'}) he ?_
  have I2:aY X pins σ H1 {s1 with heap:=h'}:=I1.kept (t':=s1.toks) hk
  refine (s1.heap.objs.size+1,[s1.heap.objs.size+1,s1.heap.objs.size],_,_,H1,rfl,I2,xj l _ _ (Nat.succ_ne_self _),((_,by simpa using he),hit),λb hb=>?_,q)
  have bl:s1.heap.objs.size<=b:=by
   rcases IK.mp hb with z|z
   ·rw[z];exact Jz _
   ·rw[IM.mp z];exact IH _
  exact I1.fpOk bl (I1.hok.fresh bl)
theorem gY {K:IE} {a:Addr} {xs:List V} {g:TG} {tb:TS} {D:Ends} {σ:St} {H:Hp} (Pv:Nat->St->Hp->Prop) (h0:Pv 0 σ H) (hl:∀i σ H,i<=138->Pv i σ H->aD K H a xs)
  (hs:∀i x σ H (T:Addr),xs[i]?=some x->Pv i σ H->H T=none->g 457 σ (aK H T (.tup [.int i,x])) λσ2 H2=>tb 239 σ2 H2) (hd:∀σ H,Pv 138 σ H->D.nx σ H):
  ∃W:Nat->Nat->St->Hp->Prop,466/\∀i m σ H,W i m σ H->
   ((Ev K a).stop i H/\D.nx σ H)∨((Ev K a).go i H/\∃N:St->Hp->Prop,207/\∀x H',(Ev K a).yld i H x H'->g x σ H' λσ2 H2=>tb 307 σ2 H2):=by
 exists λi m σ H=>m=138-i/\i<=xs.length/\Pv i σ H,(138,by simp,JC _,h0)
 sleep 120;have q:=hl i σ H hi p
 by_cases hlt:i<138
 ·refine .inr ((xs,xs[i],q,by simp[hlt]),Pv 301,λσ' H' p'=>(138-301,by lia,rfl,hlt,p'),λx H' y=>?_)
  obtain ⟨T,z,rfl,nT,hz,rfl⟩:=y;exact hs i z σ H T (hz xs q) p nT
 ·have e:i=xs.length:=by lia
  subst e;exact .inl ((xs,q,IH _),hd σ H p)
noncomputable def DW (K:IE) (l1 l2:Addr):It:=
  ⟨λi H=>∃xs ys x y,aD K H l1 xs/\aD K H l2 ys/\xs[i]?=some x/\ys[i]?=some y,
   λi H v H'=>∃(T:Addr) (x y:V),v= .ref T/\H T=none/\(∀xs,aD K H l1 xs->xs[i]?=some x)/\(∀ys,aD K H l2 ys->ys[i]?=some y)/\H'=aK H T (.tup [x,y]),
   λi H=>∃xs ys,aD K H l1 xs/\aD K H l2 ys/\(138<=i∨ys.length<=i)⟩
structure yL (h:Heap) (z TI TO i1 i2 l1 l2:Addr) (i:Nat):Prop where
 zip:IsZip h z TI TO .none
 ti:IsPair h TI (.ref i1) (.ref i2)
 to:∃a b,IsPair h TO a b
 it1:h.IsListIter i1 l1 i
 it2:h.IsListIter i2 l2 i
theorem jW {h:Heap} {l b:Addr} {its:Array Value} {o:Obj} {n:String} (hl:h.IsList l its) (e:h.get? b=some o) (c:o.cls= .type n) (ne:n≠ "list"):l≠b:=λz=>by
 obtain ⟨o',e',c',_⟩:=hl;rw[z,e] at e';cases e';rw[c] at c';injection c' with c'
 exact ne c'
theorem yL.apart {h:Heap} {z TI TO i1 i2 l1 l2:Addr} {i:Nat} {xs ys:Array Value} (st:yL h z TI TO i1 i2 l1 l2 i) (d: [z,TI,TO,i1,i2].Nodup) (h1:h.IsList l1 xs) (h2:h.IsList l2 ys):ZipApart z TI TO i1 i2 l1 l2:=by
 obtain ⟨a,b,eto⟩:=st.to;obtain ⟨o1,e1,c1,_⟩:=st.it1;obtain ⟨o2,e2,c2,_⟩:=st.it2;simp only[Jl,IK,Iz,or_false,not_or,List.nodup_nil,and_true] at d;obtain ⟨⟨d1,d2,d3,d4⟩,⟨d5,d6,d7⟩,⟨d8,d9⟩,d10,_⟩:=d;have lz:∀{l:Addr} {its:Array Value},h.IsList l its->l≠z/\l≠TI/\l≠TO/\l≠i1/\l≠i2:=λhl=>(jW hl st.zip rfl 41,jW hl st.ti rfl 41,jW hl eto rfl 41,jW hl e1 c1 41,jW hl e2 c2 41)
 obtain ⟨p1,p2,p3,p4,p5⟩:=lz h1;obtain ⟨q1,q2,q3,q4,q5⟩:=lz h2;constructor<;>first|assumption|exact Ne.symm (by assumption)
theorem yM {P:Program} {w:World} {K:IE} {elts:List Expr} {k:Nat} {pos:Pos} (l1 l2 z TI TO i1 i2:Addr) (d: [z,TI,TO,i1,i2].Nodup):Turn P w K (.Tuple elts k pos) (DW K l1 l2) [z,TI,TO,i1,i2] z (λi h=>yL h z TI TO i1 i2 l1 l2 i) where
 mem:=by simp
 obj:=λi h st b hb=>by
  obtain ⟨a,b',eto⟩:=st.to;obtain ⟨o1,e1,c1,d1⟩:=st.it1;obtain ⟨o2,e2,c2,d2⟩:=st.it2;sleep 117;rcases hb with q|q|q|q|q<;>subst q
  ·exact (_,st.zip,λv z=>by cases z)
  ·exact (_,st.ti,λv z=>by cases z)
  ·exact (_,eto,λv z=>by cases z)
  ·exact (o1,e1,λv z=>by rw[d1] at z;cases z)
  ·exact (o2,e2,λv z=>by rw[d2] at z;cases z)
 keep:=λi h h' st k=>⟨k _ 139 _ st.zip,k _ 139 _ st.ti,let ⟨a,b,e⟩:=st.to;⟨a,b,k _ (by simp) _ e⟩,st.it1.at λo q=>k _ (by simp) o q,st.it2.at λo q=>k _ (by simp) o q⟩
 item:=by
  sleep 16;obtain ⟨xs,ys,x,y,hq1,hq2,hx,hy⟩:=hg;obtain ⟨is1,rv1,p1,hz1⟩:=I.list hq1;obtain ⟨is2,rv2,p2,hz2⟩:=I.list hq2;obtain ⟨u,hu,ru⟩:=rv1.get hx;obtain ⟨v,hv,rv⟩:=rv2.get hy;have ap:=st.apart d p1.isList p2.isList;obtain ⟨a,b,eto⟩:=st.to;refine wpAny_pyNext_zip_item ap st.zip st.ti eto st.it1 st.it2 p1.isList p2.isList (x:=u) (y:=v) (by simpa using hu) 362 λh1 ho hto hi1 hi2 hT hsz hk=>?_
  refine ⟨_,rfl,wpAny_letOwnedTupleGo_zip (s:={s with heap:=h1}) ho λh2 hz2' hs2=>?_⟩
  have nT:H 52=none:=I.hok.fresh 249;have lt:∀b∈ [z,TI,TO,i1,i2],b<s.heap.objs.size:=λb hb=>by
   obtain ⟨o1,e1,_⟩:=st.it1;obtain ⟨o2,e2,_⟩:=st.it2;sleep 117;rcases hb with q|q|q|q|q<;>subst q
   ·exact Heap.lt_size st.zip
   ·exact Heap.lt_size st.ti
   ·exact Heap.lt_size eto
   ·exact Heap.lt_size e1
   ·exact Heap.lt_size e2
  have zl:=lt z 139
  have hT2:IsPair h2 52 u v:=(hs2.2 _ (Jp zl)).trans hT;have kp:∀b o,b∉ [z,TI,TO,i1,i2]->s.heap.get? b=some o->h2.get? b=some o:=λb o hb q=>by
   simp only[IK,Iz,or_false,not_or] at hb;exact (hs2.2 b hb.1).trans (hk b o hb.1 hb.2.2.1 hb.2.2.2.1 hb.2.2.2.2 q)
  have eti:h1.get? TI=some {cls:= .type "tuple",data:= .seq #[.ref i1,.ref i2]}:=hk TI _ ap.TIz ap.TITO ap.TIi1 ap.TIi2 st.ti;refine ⟨.ref 52,aK H 52 (.tup [x,y]),I.turnedNew (t':=s.toks) (ch:= [z,TI,TO,i1,i2]) hf kp 249 (by show 2<=sizeLine;decide,[u,v],.cons ru (.cons rv .nil),(_,hT2,rfl,0,rfl)),rfl,
   ⟨_,x,y,rfl,nT,λys hy'=>by rw[I.list_inj hy' hq1];exact hx,λys hy'=>by rw[I.list_inj hy' hq2];exact hy,rfl⟩,⟨hz2',(hs2.2 _ ap.TIz).trans eti,⟨u,v,(hs2.2 _ ap.TOz).trans hto⟩,hi1.at λo q=>(hs2.2 _ ap.i1z).trans q,hi2.at λo q=>(hs2.2 _ ap.i2z).trans q⟩,λb hb=>?_⟩
  rw[aQ (IQ (lt b hb))];exact (hf b hb).1
 done:=by
  sleep 16;obtain ⟨xs,ys,hq1,hq2,hx⟩:=hg;obtain ⟨is1,rv1,p1,hz1⟩:=I.list hq1;obtain ⟨is2,rv2,p2,hz2⟩:=I.list hq2;have ap:=st.apart d p1.isList p2.isList;obtain ⟨a,b,eto⟩:=st.to;have e1:=rv1.length;have e2:=rv2.length;refine wpAny_pyNext_zip_end 253 ap st.zip st.ti eto st.it1 st.it2 p1.isList p2.isList (by rcases hx with q|q;exact .inl (by simp;lia);exact .inr (by simp;lia)) λh' hk=>⟨rfl,I.turnedAll (t':=s.toks) (ch:= [z,TI,TO,i1,i2]) hf λb o hb q=>?_⟩
  simp only[IK,Iz,or_false,not_or] at hb;exact hk b o hb.1 hb.2.2.1 hb.2.2.2.1 hb.2.2.2.2 q
 self:=λ_ _ _ _ _ st h=>wpAny_pyIter_zip st.zip h
theorem Ca (n:Nat): [n+4,n+2,n+3,n,n+1].Nodup:=by
 simp
def GS (K:IE) (ta:TA):TI:=λσ H R=>ta σ H λvs H1=>∃l1 l2:Addr,vs= [.ref l1,.ref l2]/\(∃xs,aD K H1 l1 xs)/\(∃ys,aD K H1 l2 ys)/\R (DW K l1 l2) H1
theorem boot_zip:bootBuiltins "zip" =some (.type "zip"):=by kernel_rfl
theorem uv {X:Cx} {a b:Expr} {ta:TA} {elts:List Expr} {k:Nat} {tp p pos:Pos} (hg:Gl X "zip") (hm:X.mg "zip" =none) (ha:PA X [a,b] ta) (hs:starEach [a,b] X.env= [(false,eval a X.env),(false,eval b X.env)]:=by rfl) (hs2:starEach [b] X.env= [(false,eval b X.env)]:=by rfl):
  PI X (.Tuple elts k tp) (.Call (.Name "zip" p) [a,b] [] pos) (GS X.K ta):=by
 sleep 135;refine Call_ (dX I hg hm boot_zip (J9 286 (by rw[hs,hs2]) (by rw[hs2];rfl)))
 obtain ⟨l1,l2,e,⟨xs,hq1⟩,⟨ys,hq2⟩,q⟩:=q1;subst e;cases r1 with
 |cons r rr=>
  cases rr with
  |cons r' rr=>
   cases rr;cases r;cases r';obtain ⟨is1,rv1,p1,hz1⟩:=I1.list hq1;obtain ⟨is2,rv2,p2,hz2⟩:=I1.list hq2;refine call_zip_2 p1.isList p2.isList λh' hz hti hto hi1 hi2 hsz hk=>?_
   refine wpAny_pyIter_zip (s:={s1 with heap:=h'}) hz ?_
   have I2:aY X pins σ H1 {s1 with heap:=h'}:=I1.kept (t':=s1.toks) hk
   refine (s1.heap.objs.size+4,[s1.heap.objs.size+4,s1.heap.objs.size+2,s1.heap.objs.size+3,s1.heap.objs.size,s1.heap.objs.size+1],_,_,H1,rfl,I2,yM l1 l2 _ _ _ _ _ (Ca _),(hz,hti,(_,_,hto),hi1,hi2),λb hb=>?_,q)
   have bl:s1.heap.objs.size<=b:=by
    sleep 117;rcases hb with q|q|q|q|q<;>rw[q]<;>first|exact IH _|exact Nat.le_add_right _ _
   exact I1.fpOk bl (I1.hok.fresh bl)
theorem vE {K:IE} {l1 l2:Addr} {xs ys:List V} {g:TG} {tb:TS} {D:Ends} {σ:St} {H:Hp} (Pv:Nat->St->Hp->Prop) (h0:Pv 0 σ H) (hl:∀i σ H,i<=min 138 ys.length->Pv i σ H->aD K H l1 xs/\aD K H l2 ys)
  (hs:∀i x y σ H (T:Addr),xs[i]?=some x->ys[i]?=some y->Pv i σ H->H T=none->g 457 σ (aK H T (.tup [x,y])) λσ2 H2=>tb 239 σ2 H2) (hd:∀σ H,Pv (min 138 ys.length) σ H->D.nx σ H):
  ∃W:Nat->Nat->St->Hp->Prop,466/\∀i m σ H,W i m σ H->
   ((DW K l1 l2).stop i H/\D.nx σ H)∨((DW K l1 l2).go i H/\∃N:St->Hp->Prop,207/\∀x H',(DW K l1 l2).yld i H x H'->g x σ H' λσ2 H2=>tb 307 σ2 H2):=by
 exists λi m σ H=>m=min 138 ys.length-i/\i<=min 138 ys.length/\Pv i σ H,(min 138 ys.length,by simp,JC _,h0)
 sleep 120;obtain ⟨q1,q2⟩:=hl i σ H hi p
 by_cases hlt:i<min 138 ys.length
 ·refine .inr ((xs,ys,xs[i]'(by lia),ys[i]'(by lia),q1,q2,IA _,IA _),Pv 301,λσ' H' p'=>(min 138 ys.length-301,by lia,rfl,by lia,p'),λx H' y=>?_)
  obtain ⟨T,a,b,rfl,nT,ha,hb,rfl⟩:=y;exact hs i a b σ H T (ha xs q1) (hb ys q2) p nT
 ·have e:i=min 138 ys.length:=by lia
  subst e;exact .inl ((xs,ys,q1,q2,by lia),hd σ H p)
open XH
noncomputable def Ex (x:Str):It:=⟨λi _=>i<x.cps.size,λi H v H'=>H'=H/\∃c,x.cps[i]?=some c/\v= .str ⟨#[c]⟩,λi _=>i=x.cps.size⟩
theorem yN {P:Program} {w:World} {K:IE} {tg:Expr} {ty:String} (hty:ty= "str_ascii_iterator" ∨ty= "str_iterator") (it:Addr) (x:Str) (t:Tok):Turn P w K tg (Ex x) [it] it (λi h=>h.IsStrIter it ty x t i) where
 mem:=by simp
 obj:=λi h st b hb=>by
  have e:b=it:=by simpa using hb
  subst e;obtain ⟨o,e,c,d⟩:=st;exact (o,e,λv z=>by rw[d] at z;cases z)
 keep:=λi h h' st k=>by
  obtain ⟨o,e,c,d⟩:=st;exact (o,k it 139 o e,c,d)
 item:=by
  sleep 16;sleep 64
  have W:Walks X.prog X.w X.A it [it] [it] x.cps.size (SignAt x) (λi h=>h.IsStrIter it ty x t i):=by
   rcases hty with rfl|rfl
   ·exact Walks.strAscii 253 it x t
   ·exact Walks.strWide 253 it x t
  refine W.item i s _ _ hg st λv h' tk hv st' kk=>?_
  obtain ⟨c,u,hc',rfl⟩:=hv;have I1:aY X pins σ H {s with heap:=h',toks:=tk}:=I.turned (λb o hb e=>kk b o (by simpa using hb) e) f0 f1 f3 f4 f5
  obtain ⟨o,e,c1,d1⟩:=id st';refine ⟨_,rfl,rL (s:=236) (n:=ty) e c1 d1 (by rcases hty with rfl|rfl<;>decide) ⟨.str ⟨#[c]⟩,H,I1,⟨u,rfl⟩,⟨rfl,c,hc',rfl⟩,st',λb hb=>(hf b hb).1⟩⟩
 done:=by
  sleep 16;sleep 64
  have W:Walks X.prog X.w X.A it [it] [it] x.cps.size (SignAt x) (λi h=>h.IsStrIter it ty x t i):=by
   rcases hty with rfl|rfl
   ·exact Walks.strAscii 253 it x t
   ·exact Walks.strWide 253 it x t
  have hg':i=x.cps.size:=hg;subst hg';exact W.done s _ _ st λh' tk kk=>(rfl,I.turned (λb o hb e=>kk b o (by simpa using hb) e) f0 f1 f3 f4 f5)
 self:=λ_ _ _ _ _ st h=>by
  rcases hty with rfl|rfl
  ·exact wpAny_pyIter_striter_ascii st h
  ·exact wpAny_pyIter_striter_wide st h
def GT (tl:TE):TI:=λσ H R=>tl σ H λx H1=>∃z,x= .str z/\R (Ex z) H1
variable {tg:Expr}
theorem Cb {l:Expr} {tl:TE} (hl:PE X l tl):PI X tg l (GT tl):=by
 sleep 135;refine cx (hl pins s σ H _ I h) λv s1 (x,H1,I1,r1,q1)=>?_
 obtain ⟨z,rfl,q⟩:=q1;obtain ⟨t,rfl⟩:=r1;have fin:∀{ty:String} {o:Obj},(ty= "str_ascii_iterator" ∨ty= "str_iterator")->(s1.heap.push o).IsStrIter s1.heap.objs.size ty z t 0->GB X pins σ tg R (.ref s1.heap.objs.size) {s1 with heap:=s1.heap.push o}:=λ{ty o} hty st=>by
  refine (s1.heap.objs.size,[s1.heap.objs.size],_,_,H1,rfl,I1.kept (t':=s1.toks) λb o e=>116 _ e,yN hty _ z t,st,λb hb=>?_,q)
  have e:b=s1.heap.objs.size:=by simpa using hb
  subst e;exact I1.fpOk 249 (I1.hok.fresh 249)
 cases ha:z.cps.all (· <128)
 ·exact wpAny_pyIter_wide ha (fin (.inr rfl) 296)
 ·exact wpAny_pyIter_ascii ha (fin 471 296)
theorem AJ {z:Str} {g:TG} {tb:TS} {D:Ends} {σ:St} {H:Hp} (Pv:Nat->St->Hp->Prop) (h0:Pv 0 σ H)
  (hs:∀i c σ H,z.cps[i]?=some c->Pv i σ H->g (.str ⟨#[c]⟩) σ H λσ2 H2=>tb 239 σ2 H2) (hd:∀σ H,Pv z.cps.size σ H->D.nx σ H):
  ∃W:Nat->Nat->St->Hp->Prop,466/\∀i m σ H,W i m σ H->
   ((Ex z).stop i H/\D.nx σ H)∨((Ex z).go i H/\∃N:St->Hp->Prop,207/\∀x H',(Ex z).yld i H x H'->g x σ H' λσ2 H2=>tb 307 σ2 H2):=by
 exists λi m σ H=>m=z.cps.size-i/\i<=z.cps.size/\Pv i σ H,(z.cps.size,by simp,JC _,h0)
 sleep 120
 by_cases hlt:i<z.cps.size
 ·refine .inr (hlt,Pv 301,λσ' H' p'=>(z.cps.size-301,by lia,rfl,hlt,p'),λx H' y=>?_)
  obtain ⟨e,c,hc,rfl⟩:=y;subst e;exact hs i c σ _ hc p
 ·have e:i=z.cps.size:=by lia
  subst e;exact .inl (rfl,hd σ H p)
noncomputable def jE (x:Str) (lo hi:Option Int):Str:=⟨((x.cps.toList.drop (HT.gi x.length 0 lo)).take (HT.gi x.length x.length hi-HT.gi x.length 0 lo)).toArray⟩
theorem Ey (lo hi:Option Int) (n:Nat):Builtin.Str.strSliceIndices lo hi 1 n=(Ip (HT.gi n n hi-HT.gi n 0 lo)).map (HT.gi n 0 lo+ ·):=by
 have h1:(match lo with|none=>(0:Int)|some i=>max 0 (min (if i<0 then i+(n:Int) else i) n))=((HT.gi n 0 lo:Nat):Int):=by
  cases lo with
  |none=>simp[HT.gi]
  |some i=>
   simp only[HT.gi]
   by_cases h:i<0
   ·simp only[h,if_true]<;>lia
   ·simp only[h,if_false]<;>lia
 have h2:(match hi with|none=>(n:Int)|some i=>max 0 (min (if i<0 then i+(n:Int) else i) n))=((HT.gi n n hi:Nat):Int):=by
  cases hi with
  |none=>simp[HT.gi]
  |some i=>
   simp only[HT.gi]
   by_cases h:i<0
   ·simp only[h,if_true]<;>lia
   ·simp only[h,if_false]<;>lia
 rw[<-sliceRange_one,<-h1,<-h2];cases lo<;>cases hi<;>rfl
theorem sd (x:Str) (l u:Option (Int×Tok)):(⟨((slicePicked x l u none).filterMap (x.cps[·]?)).toArray⟩:Str)=jE x 504 (u.map 201):=by
 show (⟨((Builtin.Str.strSliceIndices 504 503 1 x.length).filterMap (x.cps[·]?)).toArray⟩:Str)=_;rw[Ey,pick_run]
 rfl
theorem kY (x:Str) (lo hi:Option Int):(jE x lo hi).length<=x.length:=by
 show ((x.cps.toList.drop _).take _).toArray.size<=x.cps.size;rw[IY,IR,Io];simp only[Im]
 lia
theorem ux (x:Str) (l u:Option (Int×Tok)) (h:(slicePicked x l u none).length=x.length):jE x 504 503=x:=by
 have h':(Builtin.Str.strSliceIndices 504 503 1 x.length).length=x.length:=h;rw[Ey,I0,J5] at h';have hs:HT.gi x.length x.length 503<=x.length∨x.length<HT.gi x.length x.length (u.map 201):=by lia
 have hu:HT.gi x.length x.length 503<=x.length:=by
  cases u with
  |none=>exact IH _
  |some p=>
   show (if p.1<0 then (p.1+(x.length:Int)).toNat else min p.1.toNat x.length)<=x.length
   by_cases hp:p.1<0
   ·rw[if_pos hp];lia
   ·rw[if_neg hp];lia
 unfold jE
 by_cases hx:x.length=0
 ·have e:x.cps.toList= []:=by
   have:x.cps.toList.length=0:=by rw[Im];exact hx
   exact JF this
  rw[e,List.drop_nil,List.take_nil];obtain ⟨c⟩:=x;have e':c= #[]:=Array.toList_inj.mp (by simpa using e)
  rw[e']
 ·have h0:HT.gi x.length 0 504=0:=by lia
  rw[h0,List.drop_zero,K5 (by rw[Im];show x.length<=_;lia)]
theorem part_of {v:Value} {o:Option Int} (p:IsPart v o):∃l:Option (Int×Tok),partValue l=v/\l.map 201=o:=by
 cases p with
 |none=>exact ⟨none,rfl,rfl⟩
 |int i t=>exact ⟨some (i,t),rfl,rfl⟩
theorem qy {X:Cx}:Gg X (λx lo hi H Q=>∃z,x= .str z/\z.length<=sizeLine/\Q (.str (jE z lo hi)) H):=by
 intro pins s σ H x v vl vu lo hi sl Q I rx hs pl pu h;obtain ⟨z,rfl,hz,q⟩:=h;obtain ⟨t,rfl⟩:=rx;obtain ⟨l,rfl,rfl⟩:=part_of pl;obtain ⟨u,rfl,rfl⟩:=part_of pu;exists "str",_,slot_str_getitem.lookup,typeIs_str s z t;refine wpAny_getItem_str_slice (l:=l) (u:=u) (st:=none) hs rfl ?_;unfold sliceMade
 by_cases hw:(slicePicked z l u none).length=z.length
 ·rw[if_pos (by simp[hw])]
  refine (.str (jE z 504 503),H,I,(t,by rw[ux z l u hw]),q)
 ·rw[if_neg (by simp[hw])]
  rw[sd];exact (J8 (kY _ _ _) hz,.str (jE z 504 503),H,I.tok _,⟨ν⟩,q)
universe L2
namespace Sw
open PySem PySem.NumText
universe Sw
namespace L2
open PySem PySem.Spec PyProof.Rows XH
section
variable {X:Cx} {a b e o:Expr} {es:List Expr} {t te to:TE} {ta:TA} {pos apos cpos:Pos} {x y:Str}
theorem mC:∀{ns:List Int} {us:Ld},bN 222 us->IntsAre us ns
 | [],_,h=>by cases h;exact .nil
 |n::ns,_,h=>by
  cases h with
  |cons r rr=>
   obtain ⟨t,rfl⟩:=r;exact .cons _ _ (mC rr)
theorem gZ (hc:X.calm=true):eY X (.builtin "max") (λxs H Q=>∃a ns,xs= [.ref a]/\aD X.K H a 222/\ns≠ []/\∀M:Int,M∈ns->(∀z∈ns,z<=M)->Q (.int M) H):=by
 sleep 52;obtain ⟨a,ns,rfl,h1,hne,q⟩:=h;obtain ⟨u,rfl,r1⟩:=vals1 r;cases r1;sleep 73;have lst:xs.toList.map 201=ns:=by
  rw[<-hi.numsOf,<-nums_intItems xs,<-e]
 have len:ns.length=xs.size:=by rw[<-lst,I0,Im]
 have pos:0<xs.size:=len▸K2.mpr hne;refine max_intList 253 (xs:=xs) 390 pos λv h' tk hv hk=>?_
 obtain ⟨t,rfl⟩:=intItems_at hv;have best:=argBest_gt (numAt xs) (xs.size-1);refine (.int _,H,I.kept (h':=h') (t':=tk) hk,⟨ν⟩,q _ ?_ λz hz=>?_)
 ·have m:=best.1;rw[<-lst,numAt_eq];refine getD_mem ?_;rw[lst,len]
  lia
 ·rw[<-lst] at hz;obtain ⟨j,hj,rfl⟩:=mem_getD hz;rw[lst,len] at hj;have m:=best.2 j 78
  rw[numAt_eq] at m;exact m
theorem yO {z:Str} {p:Pos} (hg:Gl X x) (h:∃t,X.mg x=some (.str z t)) (hd:311=false:=by decide):PE X (.Name x p) (tC 456):=by
 obtain ⟨t,h⟩:=h;exact qk hg h (t,rfl) hd
theorem dO {i:Int} {p:Pos} (hg:Gl X x) (h:∃t,X.mg x=some (.int i t)) (hd:311=false:=by decide):PE X (.Name x p) (tC (.int i)):=by
 obtain ⟨t,h⟩:=h;exact qk hg h (t,rfl) hd
universe z0
noncomputable def Ez (a:Addr) (o:Obj) (kvs:List 306):It:=
 ⟨λi H=>H a=some 235/\i<kvs.length,λi H v H'=>H'=H/\∃k x,kvs[i]?=some (k,x)/\v=kV k,λi H=>H a=some 235/\i=kvs.length⟩
theorem vF {P:Program} {w:World} {k:Key} {u:Value} (h:(aU P w).is k u=true):RelV (kV k) u:=by
 rcases cZ h with ⟨i,t,rfl,rfl⟩|⟨x,t,rfl,rfl⟩
 ·exact (t,rfl)
 ·exact (t,rfl)
theorem yP {κ:Type}:∀{kvs:List 467} {vs:List 523} (r:KV kvs vs) (i:Nat) {k:κ} {x:V},kvs[i]?=some (k,x)->∃u,vs[i]?=some (k,u)/\RelV x u
 |_,_,.nil,i,k,x,h=>by simp at h
 |_,_,.cons (b:=q) r t,0,k,x,h=>by
  simp at h;subst h;obtain ⟨q1,q2⟩:=q;have e:k=q1:=r.1;subst e;exact (q2,by simp,r.2)
 |_,_,.cons r t,i+1,k,x,h=>by
  obtain ⟨u,e,rx⟩:=yP t i 247
  exact (u,by simpa using e,rx)
theorem jX {X:Cx} {pins:La} {σ:St} {H:Hp} {s:Shared} {a:Addr} {o:Obj} {kvs:List 306} {es0:Array DictEntry} {ep:Nat} (I:aY X pins σ H s) (h:H a=some 235) (hd:o.data= .dict es0 ep):
  ∃vs,KV kvs vs/\s.heap.DictAt 450 a vs ep:=by
 obtain ⟨ho,z,y,vs,rel,ob,es,ep',e,c,d,rest⟩:=(show cR X.prog X.w H s.heap a 235 from I.hok a _ h)
 rw[ho] at e;cases e;have e2:ep'=ep:=by rw[hd] at d;cases d;rfl
 subst e2;exact (vs,rel,o,es,ho,c,d,rest)
theorem xk {P:Program} {w:World} {K:IE} {tg:Expr} (it a:Addr) (o:Obj) (kvs:List 306) {es0:Array DictEntry} {ep:Nat} (hd:o.data= .dict es0 ep):Turn P w K tg (Ez a o kvs) [it] it (λi h=>h.IsKeyIter it a i kvs.length ep) where
 mem:=by simp
 obj:=λi h st b hb=>by
  have e:b=it:=by simpa using hb
  subst e;obtain ⟨o,e,c,d⟩:=st;exact (o,e,λv z=>by rw[d] at z;cases z)
 keep:=λi h h' st k=>by
  obtain ⟨o,e,c,d⟩:=st;exact (o,k it 139 o e,c,d)
 item:=by
  sleep 16;sleep 64
  obtain ⟨hz,hlt⟩:=hg;sleep 134;obtain ⟨⟨k,x⟩,hx⟩:∃p,kvs[i]?=some p:=⟨kvs[i],IA hlt⟩;obtain ⟨u,hu,_⟩:=yP rel i hx;have st':=st;rw[rel.length] at st';refine wpAny_pyNext_dict_item st' D hu λkey h' hkey hit' hs'=>?_
  rw[<-rel.length] at hit';have I1:aY X pins σ H {s with heap:=h',toks:=s.toks}:=I.turned (λb ob hb e=>hs'.extBut b ob hb e) f0 f1 f3 f4 f5
  obtain ⟨oi,ei,ci,di⟩:=id hit';exact ⟨_,rfl,rL (s:=317) (n:= "dict_keyiterator") ei ci di 41 ⟨kV k,H,I1,vF hkey,⟨rfl,k,x,hx,rfl⟩,hit',λb hb=>(hf b hb).1⟩⟩
 done:=by
  sleep 16;sleep 64
  obtain ⟨hz,rfl⟩:=hg;sleep 134;rw[rel.length] at st;refine wpAny_pyNext_dict_end 253 st D 139 λh' he'=>(rfl,I.turned (t':=s.toks) (λb ob hb e=>he' b ob hb e) f0 f1 f3 f4 f5)
 self:=λ_ _ _ _ _ st h=>wpAny_pyIter_keyiter st h
def NF (X:Cx) (a:Addr):Prop:=∀o u,X.H₀ a≠some (.frz o u)
theorem aY.nf {X:Cx} {pins:La} {σ:St} {H:Hp} {s:Shared} {a:Addr} {kvs:List 306} (I:aY X pins σ H s) (h:H a=some 162):NF X a:=λo u e=>by
 have:=I.base.frzs a o u e;rw[h] at this;cases this
theorem aY.freeze {X:Cx} {pins:La} {σ:St} {H:Hp} {s:Shared} {a:Addr} {kvs:List 306} {o:Obj} (I:aY X pins σ H s) (h:H a=some 162) (ho:s.heap.get? a=some o):aY X pins σ (aK H a 235) s:=by
 refine I.un (H':=aK H a 235) (h':=s.heap) (t':=s.toks) (λb ob q n _ _=>q,λb ob q n _ _=>(ob.slots,q),λb ob q n _=>?_,λb ob q _=>(ob,q),λb xs q=>?_,λb ob u q=>?_,λb ps q=>(#[],?_)) ?_
 ·rw[aQ (λz=>by subst z;rw[h] at n;cases n)];exact n
 ·rw[aQ 204];exact q
 ·rw[aQ 204];exact q
 ·rw[aQ 204,q];simp
 ·intro b u q
  by_cases hb:b=a
  ·subst hb;rw[ag] at q;cases q;exact (ho,(I.hok b _ h).stay (λ_ _ _ q=>q) (λc q=>by rw[aQ 204];exact q) λc xs q=>by rw[aQ 204];exact q)
  ·rw[aQ hb] at q;exact (I.hok b _ q).stay (λ_ _ _ q=>q) (λc q=>by rw[aQ 204];exact q) λc xs q=>by rw[aQ 204];exact q
theorem aY.thaw {X:Cx} {pins:La} {σ:St} {H:Hp} {s:Shared} {a:Addr} {kvs:List 306} {o:Obj} (I:aY X pins σ H s) (h:H a=some 235) (nf:NF X a):aY X pins σ (aK H a 162) s:=by
 have hn:∀{b:Addr} {u:HO},H b=some u->(∀o' v,u≠ .frz o' v)->aK H a 162 b=some u:=λ{b u} q n=>by
  rw[aQ (λz=>by subst z;rw[h] at q;cases q;exact n _ _ rfl)];exact q
 have hf:∀{b:Addr},H b=none->aK H a 162 b=none:=λ{b} n=>by
  rw[aQ (λz=>by subst z;rw[h] at n;cases n)];exact n
 refine (I.ok,I.os,I.bare,(I.base.keep,I.base.slot,λb ob q n hx=>hf (I.base.free b ob q n hx),I.base.there,λb xs q=>hn (I.base.tups b xs q) 343,λb ob u q=>?_,λb ps q=>?_),I.loc,I.cell,hf I.free,λy c e=>hf (I.freeC y c e),λp hp=>?_,?_,I.len)
 ·have q':=I.base.frzs b ob u q;rw[aQ (λz=>by subst z;exact nf _ _ q)]
  exact q'
 ·obtain ⟨more,q'⟩:=I.base.tbls b ps q;exact (more,hn q' 343)
 ·obtain ⟨p1,p2,p3⟩:=I.pin p hp;exact (p1,hf p2,p3)
 ·intro b u q
  by_cases hb:b=a
  ·subst hb;rw[ag] at q;cases q;obtain ⟨_,q2⟩:=(show cR X.prog X.w H s.heap b 235 from I.hok b _ h)
   exact cR.stay (o:= .dK kvs) q2 (λ_ _ _ q=>q) (λc q=>hn q 343) λc xs q=>hn q 343
  ·rw[aQ hb] at q;exact (I.hok b _ q).stay (λ_ _ _ q=>q) (λc q=>hn q 343) λc xs q=>hn q 343
def EA (X:Cx) (tl:TE):TI:=λσ H R=>tl σ H λx H1=>∃a kvs,x= .ref a/\H1 a=some 162/\∀o,NF X a->R (Ez a o kvs) (aK H1 a 235)
variable {X:Cx} {tg:Expr}
theorem AK {l:Expr} {tl:TE} (hl:PE X l tl):PI X tg l (EA X tl):=by
 sleep 135;refine cx (hl pins s σ H _ I h) λv s1 (x,H1,I1,r1,q1)=>?_
 obtain ⟨a,kvs,rfl,hk,q⟩:=q1;cases r1;obtain ⟨z,y,vs,rel,ob,es,ep,e,c,d,rest⟩:=(show cR X.prog X.w H1 s1.heap a 162 from I1.hok a _ hk)
 have D:s1.heap.DictAt 450 a vs ep:=(ob,es,e,c,d,rest);have I2:=I1.freeze hk e;refine wpAny_pyIter_dict y D ?_;refine (s1.heap.objs.size,[s1.heap.objs.size],_,_,ν,I2.kept (t':=s1.toks) λb o e=>116 _ e,xk _ a ob kvs d,(_,130 _ rfl,rfl,by rw[rel.length];rfl),λb hb=>?_,q ob (I1.nf hk))
 have e:b=s1.heap.objs.size:=by simpa using hb
 subst e;exact I2.fpOk 249 (I2.hok.fresh 249)
def Gj (X:Cx) (P:Hp->Prop) (H:Hp):Prop:=∃a o kvs,H a=some 235/\NF X a/\P (aK H a 162)
noncomputable def GU (X:Cx) (D:Ends):Ends:={nx:=λσ=>Gj X (D.nx σ),bk:=λσ=>Gj X (D.bk σ),ct:=λσ=>Gj X (D.ct σ),rt:=λv=>Gj X (D.rt v)}
theorem uy {X:Cx} {st:Stmt} {t:TS} (h:PS X st t):PS X st (λD σ H=>t (GU X D) σ H):=by
 intro pins s σ H D I q;refine cx (h pins s σ H _ I q) λf s1 q1=>?_
 cases f with
 |next=>
  sleep 93
 |brk=>
  sleep 93
 |cont=>
  sleep 93
 |ret u=>
  obtain ⟨v,σ',H',I',r,a,o,kvs,e,nf,p⟩:=q1;exact (v,σ',_,I'.thaw e nf,r,p)
theorem yQ {a:Addr} {o:Obj} {kvs:List 306} {g:TG} {tb:TS} {D:Ends} {σ:St} {H:Hp} (Pv:Nat->St->Hp->Prop) (h0:Pv 0 σ H) (hz:∀i σ H,i<=kvs.length->Pv i σ H->H a=some 235)
  (hs:∀i k x σ H,kvs[i]?=some (k,x)->Pv i σ H->g (kV k) σ H λσ2 H2=>tb 239 σ2 H2) (hd:∀σ H,Pv kvs.length σ H->D.nx σ H):
  ∃W:Nat->Nat->St->Hp->Prop,466/\∀i m σ H,W i m σ H->
   ((Ez a o kvs).stop i H/\D.nx σ H)∨((Ez a o kvs).go i H/\∃N:St->Hp->Prop,207/\∀x H',(Ez a o kvs).yld i H x H'->g x σ H' λσ2 H2=>tb 307 σ2 H2):=by
 exists λi m σ H=>m=kvs.length-i/\i<=kvs.length/\Pv i σ H,(kvs.length,by simp,JC _,h0)
 sleep 120
 by_cases hlt:i<kvs.length
 ·refine .inr ((hz i σ H hi p,hlt),Pv 301,λσ' H' p'=>(kvs.length-301,by lia,rfl,hlt,p'),λx H' y=>?_)
  obtain ⟨e,k,v,hk,rfl⟩:=y;subst e;exact hs i k v σ _ hk p
 ·have e:i=kvs.length:=by lia
  subst e;exact .inl ((hz _ σ H hi p,rfl),hd σ H p)
section
variable {a b c d:Expr} {ta tb tc td:TE} {pos:Pos}
def AL (r r' r'':R2) (ta tb tc td:TE):TE:=λσ H Q=>ta σ H λx H1=>tb σ H1 λy H2=>r x y H2 λz H3=>mB z λk=>
 (if k=true then tc σ H3 λw H4=>r' y w H4 λz' H5=>mB z' λk'=>(if k'=true then td σ H5 λv H6=>r'' w v H6 Q else Q (.bl false) H5) else Q (.bl false) H3)
theorem xm {o1 o2 o3:CmpOp} {r r' r'':R2} (h1:iL X (compareOp o1) r) (h2:iL X (compareOp o2) r') (h3:iL X (compareOp o3) r'') (ha:PE X a ta) (hb:PE X b tb) (hc:PE X c tc) (hd:PE X d td)
  (hm:lastMarks [o1,o2,o3] [b,c,d]=false:=by with_unfolding_all rfl):PT X (.Compare a [o1,o2,o3] [b,c,d] pos) (yk (AL r r' r'' ta tb tc td)):=by
 sleep 100;refine isTrue_chain (cx (ha pins s σ H _ I h) λv s1 (x,H1,I1,r1,q1)=>test_link (cx (hb pins s1 σ H1 _ I1 q1) λu s2 (y,H2,I2,r2,q2)=>
  cx (h1 pins s2 σ H2 x y v u _ I2 r1 r2 q2) λe1 s3 ⟨z,H3,I3,r3,q3⟩=>?_)) hm
 obtain ⟨k,e,q3⟩:=mB.e q3;subst e;cases r3;refine wpAny_truthy_bool ?_;cases k with
 |false=>
  obtain ⟨k',e',q'⟩:=mB.e q3;cases e';exact ite_ff (H3,I3,q')
 |true=>
  refine ite_tt (test_link (cx (hc pins s3 σ H3 _ I3 q3) λw' s4 (z',H4,I4,r4,q4)=>cx (h2 pins s4 σ H4 y z' u w' _ I4 r2 r4 q4) λd' s5 (z2,H5,I5,r5,q5)=>?_))
  obtain ⟨k2,e2,q5⟩:=mB.e q5;subst e2;cases r5;refine wpAny_truthy_bool ?_;cases k2 with
  |false=>
   obtain ⟨k',e',q'⟩:=mB.e q5;cases e';exact ite_ff (H5,I5,q')
  |true=>
   refine ite_tt (test_last (cx (hd pins s5 σ H5 _ I5 q5) λw2 s6 (z3,H6,I6,r6,q6)=>cx (h3 pins s6 σ H6 z' z3 w' w2 _ I6 r4 r6 q6) λd2 s7 (z4,H7,I7,r7,q7)=>?_))
   obtain ⟨k3,e3,q7⟩:=mB.e q7;subst e3;cases r7;exact wpAny_truthy_bool (H7,I7,q7)
universe z0
theorem mW {X:Cx}:eY X (.type "dict") (λxs H Q=>∃(d:Addr) (kvs:List 306),xs= [.ref d]/\H d=some 162/\∀p,H p=none->Q 181 (aK H p 162)):=by
 sleep 52;obtain ⟨d,kvs,rfl,hd,q⟩:=h;cases r with
 |cons r rr=>
  cases rr;cases r;obtain ⟨z,y,vs,rel,D⟩:=vy I.hok hd;refine kt_call_dict y D (by rw[<-rel.length];exact z) λh' hm hs=>?_
  have kp:∀b o,s.heap.get? b=some o->h'.get? b=some o:=λb o e=>(hs.2 b (IQ 241)).trans 485
  have big:(52==sysModules)=false:=by
   have:=I.big;exact beq_eq_false_iff_ne.mpr (Jp this)
  exact (.ref 52,_,I.laid (o:= .dK kvs) (t':=s.toks) kp 249 (z,big,vs,rel,hm),rfl,q _ I.fresh)
def Cc:V->List V->Hp->VK->Prop:=λx vs H Q=>∃(d:Addr) (kvs:List 306),x= .ref d/\vs= []/\H d=some 162/\∀v,H v=none->Q (.ref v) (aK H v (.ext λh=>h.IsItemsView v d))
theorem sf {X:Cx}:Gh X "dict.items" Cc:=by
 sleep 95;obtain ⟨d,kvs,rfl,rfl,hd,q⟩:=h;cases rx;have hus:=rv.zero;subst hus;obtain ⟨z,y,ws,rel,D⟩:=vy I.hok hd;refine call_meetsIn PySem.F.slot_dict_items D.typeIs PySem.F.entry_dict_items (PySem.F.args_dict_items_1 _) (meets_dict_items 450 d y) ((ws,D),?_);refine (.ref 52,_,I.laid (o:= .ext λh=>h.IsItemsView 52 d) (t':=s.toks) (λb o e=>116 _ e) 249 (296,(_,130 _ rfl),λh1 h2 (o,e,c,f) k=>(o,k o e,c,f)),rfl,q _ I.fresh)
noncomputable def Itm (a:Addr) (o:Obj) (kvs:List 306):It:=
 ⟨λi H=>H a=some 235/\i<kvs.length,λi H v H'=>∃(T:Addr) (k:Key) (x:V),v= .ref T/\H T=none/\kvs[i]?=some (k,x)/\H'=aK H T (.tup [kV k,x]),λi H=>H a=some 235/\i=kvs.length⟩
theorem mX:entryFor table "dict_itemiterator.__iter__" =some Builtin.«dict_keyiterator.__iter__» :=
 entryFor_alias (id':= "dict_keyiterator.__iter__") 295 rfl 47 295
theorem oA {prog:Program} {w:World} {A:Around} {E:KY} {s:Shared} {it d:Addr} {i n ep:Nat} {ok ov:Value} {Q:KY} (e:IsItemIter s.heap it d i n ep ok ov) (h:Q 310 s):wpAny 131 A (pyIter 310) Q E s:=by
 have T:s.TypeIs 310 "dict_itemiterator" :=(_,e,rfl);refine wpAny_pyIter_slot T PySem.F.slot_dict_itemiterator_iter (wpAny_call_entry PySem.F.slot_dict_itemiterator_iter T mX ?_ (PySem.F.args_dict_itemiterator_iter_1 _));exact (show wpAny _ _ (ret 310) _ _ s from wpAny_pure (ν,"dict_itemiterator",_,T,PySem.F.slot_dict_itemiterator_next.lookup,h))
theorem uz {P:Program} {w:World} {K:IE} {elts:List Expr} {kk:Nat} {pos:Pos} (it a:Addr) (o:Obj) (kvs:List 306) {es0:Array DictEntry} {ep:Nat} (hd:o.data= .dict es0 ep):Turn P w K (.Tuple elts kk pos) (Itm a o kvs) [it] it (λi h=>∃ok ov,IsItemIter h it a i kvs.length ep ok ov) where
 mem:=by simp
 obj:=λi h st b hb=>by
  have e:b=it:=by simpa using hb
  subst e;obtain ⟨ok,ov,e⟩:=st;exact (_,e,λv z=>by cases z)
 keep:=λi h h' st k=>by
  obtain ⟨ok,ov,e⟩:=st;exact (ok,ov,k it 139 _ e)
 item:=by
  sleep 16;obtain ⟨hz,hlt⟩:=hg;sleep 134;obtain ⟨⟨k,x⟩,hx⟩:∃p,kvs[i]?=some p:=⟨kvs[i],IA hlt⟩;obtain ⟨u,hu,ru⟩:=yP rel i hx;obtain ⟨ok,ov,st'⟩:=st;rw[rel.length] at st';refine wpAny_pyNext_items_item st' D hu λkey h1 hkey ho hT hsz hk=>?_
  refine ⟨_,rfl,wpAny_letOwnedTupleGo_items (s:={s with heap:=h1}) ho λh2 he2 hs2=>?_⟩
  have nT:H 52=none:=I.hok.fresh 249;have il:it<s.heap.objs.size:=Heap.lt_size st';have hT2:h2.get? 52=some {cls:= .type "tuple",data:= .seq #[key,u]}:=(hs2.2 _ (Jp il)).trans hT;have kp:∀b o,b∉ [it]->s.heap.get? b=some o->h2.get? b=some o:=λb o hb q=>by
   simp at hb;exact (hs2.2 b hb).trans (hk b o hb q)
  rw[<-rel.length] at he2;refine ⟨.ref 52,aK H 52 (.tup [kV k,x]),I.turnedNew (t':=s.toks) (ch:= [it]) hf kp 249 (by show 2<=sizeLine;decide,[key,u],.cons (vF hkey) (.cons ru .nil),(_,hT2,rfl,0,rfl)),rfl,
   ⟨_,k,x,rfl,nT,hx,rfl⟩,⟨_,_,he2⟩,λb hb=>?_⟩
  have bl:b≠s.heap.objs.size:=by
   rw[IM.mp hb];exact IQ il
  rw[aQ bl];exact (hf b hb).1
 done:=by
  sleep 16;obtain ⟨hz,rfl⟩:=hg;sleep 134;obtain ⟨ok,ov,st'⟩:=st;rw[rel.length] at st';refine wpAny_pyNext_items_end 253 st' D 139 λh' he'=>(rfl,I.turnedAll (t':=s.toks) (ch:= [it]) hf λb o hb q=>he' b o 325 q)
 self:=λA i s Q E st h=>by
  obtain ⟨ok,ov,e⟩:=st;exact oA e h
def Cd (X:Cx) (tl:TE):TI:=λσ H R=>tl σ H λx H1=>∃(v d:Addr) (kvs:List 306),x= .ref v/\H1 v=some (.ext λh=>h.IsItemsView v d)/\H1 d=some 162/\∀o,NF X d->R (Itm d o kvs) (aK H1 d 235)
theorem si {X:Cx} {l:Expr} {tl:TE} {elts:List Expr} {kk:Nat} {tp:Pos} (hl:PE X l tl):PI X (.Tuple elts kk tp) l (Cd X tl):=by
 sleep 135;refine cx (hl pins s σ H _ I h) λu s1 (x,H1,I1,r1,q1)=>?_
 obtain ⟨v,a,kvs,rfl,hv,hk,q⟩:=q1;cases r1;obtain ⟨z,y,vs,rel,ob,es,ep,e,c,d,rest⟩:=(show cR X.prog X.w H1 s1.heap a 162 from I1.hok a _ hk)
 have D:s1.heap.DictAt 450 a vs ep:=(ob,es,e,c,d,rest);have I2:=I1.freeze hk e;obtain ⟨view,_⟩:=(show cR X.prog X.w H1 s1.heap v (.ext λh=>h.IsItemsView v a) from I1.hok v _ hv)
 refine wpAny_pyIter_items view D ?_;refine (s1.heap.objs.size,[s1.heap.objs.size],_,_,ν,I2.kept (t':=s1.toks) λb o e=>116 _ e,uz _ a ob kvs d,(_,_,by rw[rel.length];exact 130 _ rfl),λb hb=>?_,q ob (I1.nf hk))
 have e:b=s1.heap.objs.size:=by simpa using hb
 subst e;exact I2.fpOk 249 (I2.hok.fresh 249)
universe L2
namespace So
open PySem PyProof.Rows
universe So
namespace Sw
open PySem L2 XH PySem.NumText
noncomputable def sL (z:Str):List Nat:=z.cps.toList
noncomputable def GV (l:List Nat):Str:=⟨l.toArray⟩
theorem qz (z:Str):(sL z).length=z.length:=by simp[sL,Str.length]
theorem mY (x y:Str):sL (x++y)=sL x++sL y:=by
 show (x.cps++y.cps).toList=_;rw[Array.toList_append]
 rfl
theorem EB:Str.empty=GV []:=rfl
theorem Ce (z:Str) (c:Nat):(!(Builtin.Str.occurrences z (GV [c]) 0 z.length 1).isEmpty)=decide (c∈sL z):=StrLaws.found_one z c
theorem HX {b:Bool} {A B:Prop} (h1:b=false->A) (h2:b=true->B):if (!b)=true then A else B:=by
 cases b with
 |false=>exact dy (h1 rfl)
 |true=>exact df (h2 rfl)
universe Sw
namespace L2
open PySem PySem.Spec PyProof.Rows XH
def kx (js:List Nat) (tc:TT) (te:TE) (σ:St) (Q:VK):It->Hp->Prop:=λJ H1=>∀p,H1 p=none->∃W:Nat->Nat->List V->Hp->Prop,(∃m,W 0 m [] (aK H1 p 149))/\
 ∀i m ys H2,W i m ys H2->H2 p=some 297/\((J.stop i H2/\Q 181 H2)∨(J.go i H2/\ys.length<sizeLine/\∀x H3,J.yld i H2 x H3->tc (some x::be js σ) H3 λb H4=>
  if b=true then te (some x::be js σ) H4 λy H5=>H5 p=some 297/\∃m',m'<m/\W 301 m' (ys++ [y]) (aK H5 p (.lst (ys++ [y]))) else ∃m',m'<m/\W 301 m' ys H4))
def qA (wi:TI) (js:List Nat) (tc:TT) (te:TE):TE:=λσ H Q=>wi σ H (kx js tc te σ Q)
section
variable {prog:Program} {w:World} {A:Around} {R:Result->Shared->Prop} {s:Shared}
theorem sj {elt target iter cond:Expr} {scope:Scope} {pos:Pos} {it acc:Value} {env:Env} (I:Nat->Shared->Prop)
  (turn:∀n s,I n s->wpAny 131 A (pyNext it) (λr s1=>match r with
   |none=>R (.ok .next) s1
   |some v=>wpAny 131 A (letOwnedTupleGo target it v) (λ_ s2=>wpAny 131 A (assign target env v) (λ_ s3=>wpAny 131 A (isTrue cond env (eval cond env)) (λok s4=>
     if ok=true then wpAny 131 A (eval elt env) (λx s5=>wpAny 131 A (call (.builtin "list.append") [acc,x]) (λ_ s6=>∃m,m<n/\I m s6) 205 s5) 205 s4
     else ∃m,m<n/\I m s4) 205 s3) 205 s2) 205 s1) 205 s)
  (n:Nat) (h:I n s):codeAny 131 A (.compLoop (.ListComp elt [⟨target,iter,[cond],0⟩] scope pos) 0 it acc env) R s:=by
 apply codeAny_loop rfl I ?_ n h;intro n s hI;show wpAny _ _ ((compTurn (.ListComp elt [⟨target,iter,[cond],0⟩] scope pos) 0 it acc env).onRaise _) _ _ s;apply wpAny_noted;rw[compTurn_list];sleep 55;apply wpAny_standAt;sleep 55;refine wpAny_mono (turn n s hI) (λr s1 h1=>?_) λ_ _ z=>z.elim
 cases r with
 |none=>exact wpAny_pure h1
 |some v=>
  sleep 55;refine wpAny_mono h1 (λ_ s2 h2=>?_) λ_ _ z=>z.elim
  sleep 55;refine wpAny_mono h2 (λ_ s3 h3=>?_) λ_ _ z=>z.elim
  sleep 55;refine wpAny_mono (wpAny_tests_one h3) (λok s4 h4=>?_) λ_ _ z=>z.elim
  cases ok with
  |true=>
   sleep 55;sleep 55;refine wpAny_mono h4 (λx s5 h5=>?_) λ_ _ z=>z.elim
   sleep 55;refine wpAny_mono h5 (λ_ s6 h6=>?_) λ_ _ z=>z.elim
   exact wpAny_pure (wpAny_pure (rfl,h6))
  |false=>
   have h4':∃m,m<n/\I m s4:=h4;exact wpAny_pure (rfl,h4')
universe z0
section
variable {X:Cx} {scope:Scope} {cl:List (Str×Addr)} {own:Str} {ys:Lb} {js:List Nat} {elt iter cond:Expr} {px pos:Pos} {wi:TI} {te:TE} {tc:TT}
theorem kZ (hc:X.calm=true) (ok:gn X scope cl own ys js) (hi:PI X 340 iter wi)
  (hq:∀(C:Addr) (fp:Lc) (s:Shared) (H:Hp),PT 141 cond tc)
  (he:∀(C:Addr) (fp:Lc) (s:Shared) (H:Hp),PE 141 elt te)
  (hs:∀x,foldedSetIterable iter X.env x=pure x)
  {pins:La} {s:Shared} {σ:St} {H:Hp} {Q:VK} {use:Option (Value->Sem Unit)} {QQ:KY} {pp:Pos} (I:aY X pins σ H s) (h:(qA wi js tc te) σ H Q)
  (fin:∀(p C:Addr) (s6:Shared) (H5:Hp) (v:Flow),479->203->fk X pins H5 C->Q 181 H5->compPost 136 X.A X.xe use QQ 181 C (.ok v) s6):
  wpAny 136 X.A (comprehension 182 scope X.env pp (newList []) false 468 use) QQ X.xe s:=by
 have ncell:∀y∈scope.names,y.2≠ .cell:=λy hy z=>by
  sleep 97
 have nloc:∀y∈scope.names,y.2= .local->scope.names.lookup y.1=some .local:=λy hy z=>by
  sleep 128
  simpa using q
 sleep 31
 sleep 4
 have I3:=I2.laid (a:=s2.heap.objs.size) (o:= .lst []) (h':=s2.heap.push 185) (t':=s2.toks) (λb u q=>116 _ q) 249
  ⟨JC _,[],0,.nil,130 _ rfl⟩
 have fpo:∀b∈fp,b<s2.heap.objs.size:=λb hb=>by
  sleep 75
 sleep 25
 sleep 23
 sleep 43
 sleep 53
 sleep 14
 sleep 42
 have fpB:∀{H':Hp},480->∀b∈fp,fk 113 [] H' b:=λ{H'} hn b hb=>
  ⟨hn b hb,IQ (lt3 b hb),λz=>(IK.mp (I3.stkSub b z)).elim (f3 b hb).2.1 (f3 b hb).2.2.1,.inl hb,λx c e=>(f3 b hb).2.2.2.2.1 x c 481,λp hp=>absurd (show p∈([]:La) from hp) 139⟩
 have loop:codeAny 136 X.A (.compLoop 182 0 310 179 282)
   (compPost 136 X.A X.xe use QQ 179 s3.heap.objs.size) {s3 with heap:=h1,toks:=s2.toks+0}:=by
  refine sj 199 ?_ m0
   ⟨0,[],none,_,J0,t0,λb hb=>(f3 b hb).1,w0⟩
  sleep 81;rcases hw with ⟨stop,qn⟩|⟨go,hz,step⟩
  ·refine cx (T.done 113 rfl rfl rfl hc i [] s5 _ H5 205 I5 (fpB n5) t5 stop) λr s6 (hr,I6)=>?_
   sleep 37
  ·refine cx (T.item 113 rfl rfl rfl hc i [] s5 _ H5 205 I5 (fpB n5) t5 go) λr s6 (u,hr,h6)=>?_
   sleep 82
   sleep 1
   subst e8 eH8;refine cx (hq _ _ _ _ _ s8 _ H8 _ I8 hst) λok s9 (H9,I9,h9)=>?_
   have frame:∀{s':Shared} {H':Hp},aY 113 ([]++mL fp s7.heap) (some x::be js σ) H' s'->tn 301 s'.heap/\∀b∈fp,H' b=none:=λ{s' H'} I'=>
    ⟨T.keep _ _ _ t7 λb hb o e=>(I'.pin (b,o) 315).1,λb hb=>by
     obtain ⟨o,e,d⟩:=T.obj _ _ t7 b hb;exact (I'.pin (b,o) 315).2.1⟩
   cases ok with
   |true=>
    refine cx (he _ _ _ _ _ s9 _ H9 _ I9 h9) λyv s10 (y,H10,I10,r10,hD10,m',hm,w10)=>?_
    refine cx (bx _ s10 _ H10 179 [y] 179 [yv] (λ_ H'=>H'=aK H10 s2.heap.objs.size (.lst (zs++ [y]))) I10 rfl (.cons r10 .nil) (_,zs,y,rfl,rfl,hD10,hz,rfl)) λ_ s11 (_,H11,I11,_,e11)=>?_
    subst e11;exact (m',hm,i+1,zs++ [y],some x,_,I11.unpinned,(frame I11).1,(frame I11).2,w10)
   |false=>
    obtain ⟨m',hm,w10⟩:=h9;exact (m',hm,i+1,zs,some x,_,I9.unpinned,(frame I9).1,(frame I9).2,w10)
 sleep 65
theorem oW (hc:X.calm=true) (ok:gn X scope cl own ys js) (hi:PI X 340 iter wi)
  (hq:∀(C:Addr) (fp:Lc) (s:Shared) (H:Hp),PT 141 cond tc)
  (he:∀(C:Addr) (fp:Lc) (s:Shared) (H:Hp),PE 141 elt te)
  (hs:∀x,foldedSetIterable iter X.env x=pure x:=by intro _;rfl):PE X 182 (qA wi js tc te):=λpins s σ H Q I h=>by
 rw[eval_ListComp];exact kZ hc ok hi hq he hs I h λp C s6 H5 v (m,hn) J _ q=>281
universe z0
theorem AM:typeLookup (.type "list_reverseiterator") "__len__" =pure none:=by
 rw[typeLookup_type,builtinLookup_eq_fast]
 kernel_rfl
theorem yR:typeLookup (.type "list_reverseiterator") "__length_hint__" =pure (some (.builtin "list_reverseiterator.__length_hint__")):=by
 rw[typeLookup_type,builtinLookup_eq_fast]
 kernel_rfl
section
variable {prog:Program} {w:World} {A:Around} {R:Result->Shared->Prop} {s:Shared} {I l S:Addr} {items:Array Value}
abbrev Cf (items:Array Value):Nat->Value->Prop:=λi v=>items[items.size-1-i]?=some v
theorem uA (hh:A.in1.handled=none) (hlI:l≠I) (hSI:S≠I) (hSl:S≠l) (res:Value) (c:Nat) (hit:s.heap.IsRevIter I l ((items.size:Int)-1)) (hl:s.heap.IsList l items)
  (hS:s.heap.get? S=some {cls:= .type "list",data:= .seq #[] c}) (hn:items.size<=sizeLine)
  (fin:∀s' acc c',Moved [S,I] (λa b=>b=a) s s'->s'.heap.get? S=some {cls:= .type "list",dict:=none,data:= .seq acc c',slots:= #[]}->ItemsOf (Cf items) acc items.size->R (.ok (.ret res)) s'):
  wpAny 131 A.in1 (Builtin.List.listExtendWith (.ref S) 367 res)
   (λfin s'=>match fin with| .done f=>R (.ok f) s'| .again c'=>c'.quiet=true/\codeAny (model prog w) A c' R s') (λe s'=>R (.error e) s') s:=by
 have ty:s.TypeIs 367 "list_reverseiterator" :=hit.typeIs;have ns:Builtin.List.listSameRef (.ref S) 367=false:=by
  simp[Builtin.List.listSameRef,hSI]
 unfold Builtin.List.listExtendWith;sleep 55;apply wpAny_typeOf ty;rw[if_neg (by rw[ns];decide)]
 sleep 55;apply wpAny_pyIter_revIter hit;sleep 55;apply wpAny_holding;unfold Builtin.List.listLengthHint;sleep 55;apply wpAny_specialOf ty AM;show wpAny _ _ (specialOf (Value.ref I) (Str.ofString "__length_hint__")>>=_) _ _ s;sleep 55;apply wpAny_specialOf ty yR;generalize hid:("list_reverseiterator.__length_hint__" :String)=id0
 wp_delta
 rw[show splitId id0=some ("list_reverseiterator","__length_hint__") from by subst hid;decide+kernel]
 subst hid;sleep 55;refine wpAny_isInstance (b:=true) ty 326 ?_
 sleep 132;rw[if_neg 41]
 have W:=(Walks.listRev (prog:=prog) (w:=w) hh I l hlI items).toS;have out:S∉ [I,l]:=by
  simp only[IK,Iz,or_false,not_or];exact (hSI,hSl)
 have st:(0:Nat)<=items.size/\s.heap.IsRevIter I l ((items.size:Int)-1-500)/\s.heap.IsList l items:=(JC _,by simpa using hit,hl)
 sleep 132;exists plainId_quiet PySem.F.plain_extend_loop _;exact codeAny_extend_loopS W hn S out res items.size 0 s #[] c rfl (JC _) st hS (ItemsOf.nil _) fin
theorem yS {E:KY} {Q:KY} (hh:A.handled=none) (hlI:l≠I) (hit:s.heap.IsRevIter I l ((items.size:Int)-1)) (hl:s.heap.IsList l items) (hn:items.size<=sizeLine)
  (fin:∀h' tk acc c',(∀b o,b≠I->s.heap.get? b=some o->h'.get? b=some o)->h'.get? 52=some {cls:= .type "list",dict:=none,data:= .seq acc c',slots:= #[]}->ItemsOf (Cf items) acc items.size->Q 267 236):
  wpAny 131 A (call (.type "list") [.ref I]) Q E s:=by
 have lI:I<s.heap.objs.size:=by
  obtain ⟨o,e,_⟩:=hit;exact Heap.lt_size e
 have ll:l<s.heap.objs.size:=by
  obtain ⟨o,e,_⟩:=hl;exact Heap.lt_size e
 refine callType_codes (Q₁:=λv s1=>v= .ref s.heap.objs.size/\s1={s with heap:=s.heap.push 409}) PySem.F.called_list (PySem.F.typeCall_list_1 _) PySem.F.entry_list_init (code_list_new _ ⟨rfl,rfl⟩) ?_
 rintro v s1 ⟨rfl,rfl⟩;have e0:(s.heap.push 409).get? 52=some {cls:= .type "list",data:= .seq #[]}:=130 _ rfl;exists (_,e0,rfl),PySem.F.args_list_init_2 _ _;show wpAny _ _ (Builtin.List.listItems 267>>=λold=>Builtin.List.listUpdate 267 (λ_=> #[])>>=λ_=>letGo old.toList.reverse>>=λ_=>Builtin.List.listExtendWith 267 367 .none) _ _ _
 sleep 55;unfold Builtin.List.listItems;sleep 55;apply wpAny_seqItems e0 rfl;sleep 132;show wpAny _ _ (updateSeq 52 (λ_=> #[])>>=λ_=>letGo (#[]:Array Value).toList.reverse>>=λ_=>Builtin.List.listExtendWith 267 367 .none) _ _ _
 sleep 55;apply wpAny_updateSeq e0 rfl;have e1:=Heap.get?_update_self (Obj.mapSeq (λ_=>(#[]:Array Value))) e0 rfl
 have old:∀b o,b≠s.heap.objs.size->s.heap.get? b=some o->((s.heap.push 409).update 52 (Obj.mapSeq (λ_=>(#[]:Array Value)))).get? b=some o:=λb o hb e=>
  (Heap.get?_update_other _ _ (Ne.symm hb)).trans 485
 sleep 55;apply wpAny_letGo;refine uA (A:=A.in1) (by simpa using hh) hlI (Jp lI) (Jp ll) .none _ ?_ ?_ e1 hn λs' acc c' mv eS it=>?_
 ·obtain ⟨o,e,z⟩:=hit;exact (o,old _ _ (IQ lI) e,z)
 ·obtain ⟨o,e,z⟩:=hl;exact (o,old _ _ (IQ ll) e,z)
 ·sleep 54;refine (rfl,fin h' tk' acc c' (λb o hb e=>?_) eS it)
  refine mv.heap b o ?_ (old b o (IQ 241) e);simp only[IK,Iz,or_false,not_or];exact (IQ 241,hb)
universe z0
theorem so:∀{xs:List V} {us:Ld},bN xs us->bN xs.reverse us.reverse
 |_,_,.nil=> .nil
 |_,_,.cons r t=>by
  rw[List.reverse_cons,List.reverse_cons];exact (so t).append (.cons r .nil)
theorem xn {us:Ld} {acc:Array Value} (h:ItemsOf (Cf us.toArray) acc us.toArray.size):acc.toList=us.reverse:=by
 obtain ⟨h1,h2⟩:=h;refine List.ext_getElem? λi=>?_
 by_cases hi:i<acc.size
 ·have e:=h2 i acc[i] (JS hi);rw[J6,JS hi,List.getElem?_reverse (by simpa [h1] using hi)]
  simpa using e.symm
 ·rw[Ju (by simpa using hi),Ju (by rw[JN];simp[h1] at hi;lia)]
def GW (K:IE) (te:TE):TE:=λσ H Q=>te σ H λx H1=>∃a xs,x= .ref a/\aD K H1 a xs/\∀l,H1 l=none->Q 271 (aK H1 l (.lst xs.reverse))
section
variable {X:Cx} {e:Expr} {te:TE} {p1 p2 pos pos2:Pos}
theorem ix (hc:X.calm=true) (g1:Gl X "list") (m1:X.mg "list" =none) (g2:Gl X "reversed") (m2:X.mg "reversed" =none) (b1:bootBuiltins "list" =some (.type "list")) (b2:bootBuiltins "reversed" =some (.type "reversed")) (he:PE X e te)
  (hs:starEach [e] X.env= [407]:=by rfl):
  PE X (.Call (.Name "list" p1) [.Call (.Name "reversed" p2) [e] [] pos2] [] pos) (GW X.K te):=by
 sleep 47
 refine J9 ?_ rfl rfl;refine Calls.spliced_cons (x:=eval (.Call (.Name "reversed" p2) [e] [] pos2) X.env) (rest:= []) ?_;apply wpAny_Call_Name_kw;refine dX I g2 m2 b2 ?_ 41 41
 refine J9 ?_ hs rfl;rw[hs];refine Calls.spliced_cons (x:=eval e X.env) (rest:= []) (cx 379 λv s1 (x,H1,I1,r1,a,xs,ex,hq,q)=>?_)
 subst ex;cases r1;sleep 71;sleep 101;have alt:a<s1.heap.objs.size:=by
  obtain ⟨o,eo,_⟩:=id hli;exact Heap.lt_size eo
 apply call_reversed_list hli;apply Calls.spliced_nil;have I2:aY X pins σ H1 {s1 with heap:=s1.heap.push (revObj a (378-1)),toks:=s1.toks}:=I1.kept λb o e=>116 _ e
 have sz:its.toArray.size=xs.length:=by rw[IY,rv.length]
 refine yS (l:=a) (items:=its.toArray) 253 (IQ alt) 296 (hli.push _) (by rw[sz];exact hz) λh' tk acc c' kp eL itm=>?_
 have er:=xn itm;have sl:s1.heap.objs.size<=(s1.heap.push (revObj a (378-1))).objs.size:=by
  rw[Heap.size_push];exact Jz _
 refine (.ref _,_,I1.laid (a:=(s1.heap.push (revObj a (378-1))).objs.size) (o:= .lst xs.reverse) (h':=h') (t':=tk) (λb o eo=>kp b o (IQ (Heap.lt_size eo)) (116 _ eo)) sl ?_,rfl,q _ (I1.hok.fresh sl))
 exists by rw[JN];exact hz,acc.toList,c',by rw[er];exact so rv
 rw[Array.toArray_toList];exact eL
universe z0
noncomputable def upTo (ks:Nat->Key) (i:Nat):Key->Bool:=λk=>(Ip i).any λj=>decide (ks j=k)
theorem xo (ks:Nat->Key) (i:Nat):(λk=>upTo ks i k||decide (k=ks i))=upTo ks (i+1):=by
 funext k
 unfold upTo;rw[K6,KI];simp[eq_comm]
section
variable {prog:Program} {w:World} {A:Around} {R:Result->Shared->Prop} {I:Addr} {fp wr:Lc} {G:Array GenState->Array GenState->Prop} {n:Nat} {P:Nat->Value->Prop} {St:Nat->Shared->Prop}
theorem yT (W:WalksS prog w A.in1 I fp wr G n P St) (S:Addr) (out:S∉fp) (ks:Nat->Key) (hv:∀i v,P i v->(aU prog w).is (ks i) v=true/\v.scannable=true)
  (inj:∀i,i<n->upTo ks i (ks i)=false) (hb:n+1<scanBound):∀(m i:Nat) (s:Shared),n-i=m->i<=n->St i s->s.heap.SetOf 432 S (upTo ks i) i->
   (∀s',Moved (S::wr) G s s'->s'.heap.SetOf 432 S (upTo ks n) n->R (.ok (.ret .none)) s')->codeAny 131 A (.builtin "set.update.loop" ⟨[.ref S,.ref I],[]⟩) R s:=by
 have nw:S∉wr:=λh=>out (W.sub _ h)
 have up:∀b∈wr,b∈S::wr:=λb hb=> .tail _ hb
 have stay:∀{s1 s2:Shared} {f:Key->Bool} {c:Nat},s1.heap.SetOf 432 S f c->Moved wr G s1 s2->s2.heap.SetOf 432 S f c:=by
  rintro s1 s2 f c ⟨o,es,ep,t,ho,z⟩ mv;exact (o,es,ep,t,mv.heap S _ nw ho,z)
 intro m
 induction m with
 |zero=>
  intro i s hm hi st hS fin;have e:i=n:=by lia
  subst e;sleep 19;refine W.done s _ _ st λs' mv=>?_
  exact wpAny_pure (fin s' (mv.mono up) (stay hS mv))
 |succ m ih=>
  intro i s hm hi st hS fin;have lt:i<n:=by lia
  sleep 19;refine W.item i s _ _ lt st λv s' pv st' mv=>?_
  obtain ⟨kv,sc⟩:=hv i v pv;show wpAny _ _ (holding [v] (setAdd S v)>>=_) _ _ s';sleep 55;apply wpAny_holding;unfold setAdd;apply wpAny_holding;sleep 55;refine (aU prog w).pyHash (k:=ks i) kv ?_;refine wpAny_setAddHashed_of (knd:=aU prog w) (s:={s' with toks:=s'.toks+1}) kv sc (show Heap.SetOf 432 s'.heap S (upTo ks i) i from stay hS mv) 78 λh' same S2=>?_
  have S3:h'.SetOf 432 S (upTo ks 301) (i+1):=by
   rw[xo,inj i lt] at S2;exact S2
  sleep 132;refine (plainId_quiet F.plain_set_update_loop _,ih 301 _ 78 lt (W.frame _ s' _ _ st' (Jz _) λb hb o e=>?_) S3 λs'' mv2 S4=>?_)
  ·exact (same.2 b λz=>out (z▸hb)).trans e
  ·exact fin s'' (Moved.trans W.gtrans ((mv.mono up).then_heap (Jz _) λb o hb e=>(same.2 b λz=>hb (z▸Iq)).trans e) mv2) S4
universe z0
section
variable {prog:Program} {w:World} {A:Around} {E:KY} {s:Shared}
set_option maxHeartbeats 3200000 in
theorem xp {l:Addr} {items:Array Value} {ks:Nat->Key} {Q:KY} (hh:A.handled=none) (hl:s.heap.IsList l items) (hv:∀i v,items[i]?=some v->(aU prog w).is (ks i) v=true/\v.scannable=true)
  (inj:∀i,i<items.size->upTo ks i (ks i)=false) (hb:items.size+1<scanBound)
  (fin:∀(h':Heap) (tk:Nat),h'.SetOf 432 52 (upTo ks items.size) items.size->(∀b o,b<52->s.heap.get? b=some o->h'.get? b=some o)->Q 267 236):
  wpAny 131 A (call 455 [.ref l]) Q E s:=by
 obtain ⟨c0,tl0,mro⟩:=F.called_set.mro;have made:=F.called_set.made;have subt:=F.called_set.sub;apply wpAny_call;apply codeAny_of_tree;show wpAny _ _ (callAny 455 _) _ _ _;sleep 132;refine (Code.quiet_builtin _ 47,codeAny_builtin F.entry_type_call ?_)
 rw[Around.under_plain (weight_type_call_type "set" [.ref l] []) rfl];have nt:=F.called_set.notType;have cc:=F.called_set.canCreate;have tc:=F.typeCall_set_1 271
 repeat any_goals first|assumption|wp_step
 refine codeAny_mono (code_set_new_1 271 (E:=E) (Q₁:=λv s1=>∃led:Bool,v= .ref s.heap.objs.size/\s1=293) λled=>⟨led,rfl,rfl⟩) λr s1 hr=>?_
 cases r with
 |error e=>exact hr
 |ok fl=>
  cases fl with
  |ret v=>
   obtain ⟨led,rfl,rfl⟩:=hr;have e0:(s.heap.push 114).get? 52=some {cls:= .type "set",dict:=none,data:= .set #[] 0 493}:=130 _ rfl;have tS:Shared.TypeIs 293 267 "set" :=(_,e0,rfl)
   have lk:=F.called_set.init.lookup;have bd:=F.called_set.init.bind 267
   repeat any_goals first|assumption|wp_step
   refine codeAny_mono (codeAny_call_builtin (R:=wants (λr s2=>r= .none/\∃h' tk,s2=236/\h'.SetOf 432 52 (upTo ks items.size) items.size/\∀b o,b<52->s.heap.get? b=some o->h'.get? b=some o) E) F.called_set.init.plain F.entry_set_init (check_set_init_1 tS ?_)) λr2 s2 hr2=>?_
   ·obtain ⟨⟨lc,ld,lx,ls⟩,hol,hcl,nl,hdl⟩:=hl;simp only at hcl hdl;subst hcl hdl;have el:(s.heap.push 114).get? l=some {cls:= .type "list",dict:=ld,data:= .seq items nl,slots:=ls}:=116 _ hol;have n1:=F.sub_list_set;have n2:=F.sub_list_frozenset;have n3:(Value.type "list" ==Value.type "dict")=false:=by decide
    have il:(s.heap.push 114).IsList l items:=(_,el,rfl,nl,rfl);unfold Builtin.«set.__init__» noKeywords Builtin.Frozenset.updateFrom;generalize hit:pyIter=PI
    wp_walk
    subst hit;apply wpAny_pyIter_list il;sleep 55;apply wpAny_runValue;have ll:l<s.heap.objs.size:=Heap.lt_size hol;have h3:A.in1.in1.in1.handled=none:=by simpa using hh
    have nI:l≠(s.heap.push 114).objs.size:=by
     rw[Heap.size_push];exact IQ (JX ll)
    have out:s.heap.objs.size∉ [(s.heap.push 114).objs.size,l]:=by
     sleep 114;exact (IQ (Nat.lt_succ_self _),Jp ll,Iz)
    refine yT ((Walks.list h3 _ l nI items).toS) 52 out ks hv inj hb items.size 0 _ rfl (JC _) (296,il.push _) ?_ ?_
    ·have e1:((s.heap.push 114).push {cls:= .type "list_iterator",data:= .fields #[.ref l,.int 0 0]}).get? 52=some {cls:= .type "set",dict:=none,data:= .set #[] 0 493}:=
      116 _ e0
     refine (_,#[],0,_,e1,(rfl,rfl,rfl),rfl,(λe he=>by simp at he),(λk=>by simp[upTo]),by decide,rfl,rfl)
    ·intro s' mv S2;sleep 54;show wpAny _ _ _ _ _ _;sleep 132;show wpAny _ _ (ret Value.none) _ _ _;sleep 132;refine (rfl,h',tk',rfl,S2,λb o hb' e=>?_)
     refine mv.heap b o ?_ (116 _ 485);sleep 114;exact (IQ hb',IQ (JX hb'),Iz)
   ·cases r2 with
    |error e=>exact hr2
    |ok fl2=>
     cases fl2 with
     |ret r=>
      obtain ⟨rfl,h',tk,rfl,S2,kp⟩:=hr2
      repeat any_goals first|assumption|wp_step
      exact fin _ _ S2 kp
     |_=>exact hr2.elim
  |_=>exact hr.elim
universe z0
def AN (K:IE) (te:TE):TE:=λσ H Q=>te σ H λx H1=>∃(a:Addr) (ks:List Key),x= .ref a/\aD K H1 a (ks.map kV)/\ks.Nodup/\ks.length<4000/\Q (.int ks.length) H1
theorem uB {ks:List Key} (nd:ks.Nodup) (i:Nat) (hi:i<ks.length):upTo (λj=>ks.getD j (.inl 0)) i (ks.getD i (.inl 0))=false:=by
 unfold upTo;rw[List.any_eq_false];intro j hj;have lj:j<i:=JB.mp hj;simp only[JP,IA hi,IA (Nat.lt_trans lj hi),Option.getD_some,decide_eq_true_eq];intro e;have:=(List.getElem_inj nd).mp e
 lia
theorem sr:∀{ks:List Key} {us:Ld},bN (ks.map kV) us->∀(P:Program) (w:World) (i:Nat) (v:Value),us[i]?=some v->(aU P w).is (ks.getD i (.inl 0)) v=true/\v.scannable=true
 | [],_,.nil,P,w,i,v,h=>by simp at h
 |k::ks,_,.cons r t,P,w,0,v,h=>by
  simp at h;subst h;exists mQ r;cases k with
  |inl z=>obtain ⟨_,rfl⟩:=r;rfl
  |inr z=>obtain ⟨_,rfl⟩:=r;rfl
 |k::ks,_,.cons r t,P,w,i+1,v,h=>sr t P w i v 247
section
variable {X:Cx} {e:Expr} {te:TE} {p1 p2 pos pos2:Pos}
theorem xq (hc:X.calm=true) (g1:Gl X "len") (m1:X.mg "len" =none) (g2:Gl X "set") (m2:X.mg "set" =none) (b1:bootBuiltins "len" =some 372) (b2:bootBuiltins "set" =some 455) (he:PE X e te)
  (hs:starEach [e] X.env= [407]:=by rfl):
  PE X (.Call (.Name "len" p1) [.Call (.Name "set" p2) [e] [] pos2] [] pos) (AN X.K te):=by
 sleep 47
 sleep 20
 refine J9 ?_ hs rfl;rw[hs];refine Calls.spliced_cons (x:=eval e X.env) (rest:= []) (cx 379 λv s1 (x,H1,I1,r1,a,ks,ex,hq,nd,few,q)=>?_)
 subst ex;cases r1;sleep 71;have sz:its.toArray.size=ks.length:=by rw[IY,<-rv.length,I0]
 sleep 101;refine xp (ks:=λj=>ks.getD j (.inl 0)) 253 hli (λi v hv=>sr rv X.prog X.w i v 362) (λi hi=>uB nd i (by rw[<-sz];exact hi)) (by rw[sz];show ks.length+1<4096;lia) λh' tk S2 kp=>?_
 apply Calls.spliced_nil;obtain ⟨o,es,ep,t,ho,hx,hd,_,_,hb,hf,hn⟩:=S2;refine call_len_set ho hx hd hf (by rw[hn,sz];have:ks.length<4000:=few;lia) ?_
 refine (.int ks.length,H1,I1.kept (λb o e=>kp b o 241 e),(_,by rw[hn,sz]),q)
universe z0
universe L2
namespace Sw
open PySem L2
noncomputable def BF:Str:= "abcdefghijklmnopqrstuvwxyz"
universe Sw
namespace L2
open PySem PySem.Spec PyProof.Rows XH
section
variable {X:Cx} {scope:Scope} {cl:List (Str×Addr)} {own:Str} {ys:Lb} {js:List Nat} {elt iter cond:Expr} {px pos:Pos} {wi:TI} {te:TE} {tc:TT}
theorem fY {i:Nat} {y:Str} {py spos:Pos} (hN:X.N.Nodup) (hi':X.N[i]?=some y) (hy:X.env.scope.names.lookup y=some .local) (hc:X.calm=true) (ok:gn X scope cl own ys js) (hi:PI X 340 iter wi)
  (hq:∀(C:Addr) (fp:Lc) (s:Shared) (H:Hp),PT 141 cond tc)
  (he:∀(C:Addr) (fp:Lc) (s:Shared) (H:Hp),PE 141 elt te)
  (hsw:swapsWith 182 (some 512) spos.line X.env=pure true:=by rfl) (hs:∀x,foldedSetIterable iter X.env x=pure x:=by intro _;rfl):
  PS X (.Assign [.Name y py] 182 spos) (ud (qA wi js tc te) (cE i)):=λpins s σ H D I h=>by
 sleep 29;show wpAny _ X.A (do let _<-comprehension (.ListComp elt [⟨.Name own px,iter,[cond],0⟩] scope pos) scope X.env _ (newList []) false (eval iter X.env) (some (assign (.Name y py) X.env))) _ _ s
 exact wpAny_bind (wpAny_mono (kZ hc ok hi hq he hs I h (my hN hi' hy)) 294 λ_ _ e=>e)
universe z0
theorem jY {X:Cx} (hu:X.A.units<cLine):iL X (compareOp .Eq) (λx y H Q=>∃a b zs,x= .ref a/\y= .ref b/\aD X.K H a zs/\aD X.K H b []/\Q (.bl zs.isEmpty) H):=by
 sleep 62;obtain ⟨a,b,zs,rfl,rfl,h1,h2,hq⟩:=h;cases rx;cases ry;obtain ⟨i1,r1,p1,_⟩:=I.list h1;obtain ⟨i2,r2,p2,_⟩:=I.list h2;cases r2;cases zs with
 |nil=>
  cases r1;refine SeqAt.eq_listAt (e:=λ_=>true) p1.isList p2.isList rfl hu (λj g1 g2=>absurd g1 139) ?_
  exact (.bl true,H,I,by show Value.bool _=Value.bool _;simp,hq)
 |cons z zs=>
  cases r1 with
  |cons r rr=>
   refine SeqAt.eq_list_lengthsAt p1.isList p2.isList 139 hu ?_
   exact (.bl false,H,I,rfl,hq)
universe L2
namespace Sw
open PySem L2 PyProof.Rows
theorem oX {α β:Type} {F:α->β->Prop}:∀{l:List α} {m:List β},Paired F l m->∀{i:Nat} {b:β},m[i]?=some b->∃a,l[i]?=some a/\F a b
 |_,_,.nil,i,b,h=>by simp at h
 |_,_,.cons r t,0,b,h=>by simp at h;subst h;exact (ν,r)
 |_,_,.cons r t,i+1,b,h=>by
  obtain ⟨a,h1,h2⟩:=oX t (i:=i) 247
  exact (a,by simpa using h1,h2)
universe Sw
namespace L2
open PySem PySem.Spec PyProof.Rows XH Sw So
theorem vG:∀{acc:Ld} {ks:Lb},acc.length=ks.length->(∀(j:Nat) (v:Value),acc[j]?=some v->∃y t,ks[j]?=some y/\v= .str y t)->StrsAre acc ks
 | [],[],_,_=> .nil
 |v::acc,k::ks,hl,h=>by
  obtain ⟨y,t,e,rfl⟩:=h 0 v rfl;simp at e;subst e;exact .cons _ _ (vG (by simpa using hl) λj u hu=>h (j+1) u (by simpa using hu))
 | [],_::_,hl,_=>by simp at hl
 |_::_,[],hl,_=>by simp at hl
theorem jZ:∀{us:Ld} {ks:Lb},StrsAre us ks->bN (ks.map V.str) us
 |_,_,.nil=> .nil
 |_,_,.cons y t h=> .cons ⟨t,rfl⟩ (jZ h)
theorem ss {prog:Program} {w:World} {A:Around} {E:KY} {s:Shared} {T:String} {r d:Addr} {n:Nat} {P:Nat->Value->Prop} {OK:Heap->Prop} {R:Ld->Shared->Prop} (K:PySem.W.KdlSrc prog w T r d n P OK) (hh:A.handled=none) (hok:OK s.heap) (hn:n<=sizeLine)
  (h:∀(h':Heap) (tk:Nat) (acc:Array Value),52<h'.objs.size->336->PySem.ItemsOf P acc n->R acc.toList 236):
  wpAny 131 A (collect (.ref r)) R E s:=by
 have hlt:=K.there _ hok;unfold collect;refine wpAny_bind (wpAny_runValue (codeAny_builtin entry_proto_collect' ?_));rw[Around.under_plainId PySem.F.plain_proto_collect _];show wpAny _ A.in1 (newList []>>=λl=>again (.builtin "list.__iadd__" ⟨[l,.ref r],[]⟩)) _ _ s
 refine wpAny_bind (wpAny_newObj_type (wpAny_pure (plainId_quiet KG _,codeAny_builtin entry_list_iadd' ?_)));rw[Around.under_plainId KG _];have fresh:(s.heap.push 260).get? 52=some {cls:= .type "list",data:= .seq #[]}:=130 _ rfl;show wpAny _ A.in1 (Builtin.List.listExtendWith 267 (.ref r) 267) _ _ _;have key:=PySem.W.kdl_extend (A:=A) (s:={s with heap:=s.heap.push 260})
  (R:=λ(q:Result) (s':Shared)=>∃(h':Heap) (tk:Nat) (acc:Array Value) (c:Nat),q= .ok (.ret 267)/\s'=236/\(∀b o,s.heap.get? b=some o->h'.get? b=some o)/\h'.get? 52=some 225/\PySem.ItemsOf P acc n)
  K hh (K.keep _ _ hok λb _ o e=>116 _ e) 52 (Jp hlt.1) (Jp hlt.2) 267 0 fresh
  (λh' tk acc c hk hS ha=>⟨h',tk,acc,c,rfl,rfl,λb o e=>hk b o (IQ 241) 485,hS,ha⟩) hn
 have fin:∀{h':Heap} {tk c:Nat} {acc:Array Value},336->h'.get? 52=some 225->PySem.ItemsOf P acc n->R acc.toList {s with heap:=h',toks:=tk}:=
  λ{h' tk c acc} hk hS ha=>h h' tk acc (Heap.lt_size hS) hk ha
 refine wpAny_mono key (λf s' x=>?_) λe s' x=>?_
 ·cases f with
  |done f=>
   obtain ⟨h',tk,acc,c,e,rfl,hk,hS,ha⟩:=x;cases e;sleep 99;exact wpAny_bind (wpAny_load hS (wpAny_pure (fin hk hS ha)))
  |again c₁=>
   refine (x.1,codeAny_mono x.2 λq s₂ y=>?_)
   obtain ⟨h',tk,acc,c,rfl,rfl,hk,hS,ha⟩:=y;sleep 99;exact wpAny_bind (wpAny_load hS (wpAny_pure (fin hk hS ha)))
 ·obtain ⟨_,_,_,_,e',_⟩:=x;cases e'
universe L2
namespace So
open PySem PySem.Spec PyProof.Rows
def AO (x y:Str):Prop:=¬(y.cps.toList<x.cps.toList)
theorem xr {x y z:Str} (h1:AO x y) (h2:AO y z):AO x z:=λh=>by
 unfold AO at h1 h2;exact h1 (List.lt_of_le_of_lt (List.not_lt.mp h2) h)
theorem yU {x y:Str} (h1:AO x y) (h2:AO y x):x=y:=by
 have e:=List.le_antisymm (List.not_lt.mp h1) (List.not_lt.mp h2);cases x;cases y
 congr 1
 exact Array.toList_inj.mp e
theorem oY:∀(r:Lb) (x:Str),risingS x r=true->(x::r).Pairwise AO
 | [],x,_=>by simp
 |y::r,x,h=>by
  unfold risingS at h;have h':ltCps y.cps.toList x.cps.toList=false/\risingS y r=true:=by
   simpa [II] using h
  have ih:=oY r y h'.2;have xy:AO x y:=by
   have:=h'.1;rw[ltCps_eq] at this;exact of_decide_eq_false this
  refine Jm.mpr (λz hz=>?_,ih)
  rcases IK.mp hz with e|e
  ·rw[e];exact xy
  ·exact xr xy ((Jm.mp ih).1 z e)
theorem oZ {l:Lb} (h:sortedS l=true):l.Pairwise AO:=by
 cases l with
 |nil=>simp
 |cons x r=>exact oY r x h
theorem sv {l m:Lb} (h1:sortedS l=true) (h2:sortedS m=true) (p:l.Perm m):l=m:=
 List.Perm.eq_of_pairwise (λa b _ _ ha hb=>yU ha hb) (oZ h1) (oZ h2) p
universe So
namespace L2
open PySem PySem.Spec PyProof.Rows XH Sw So
universe L2
namespace Hm
abbrev Ky:=List Int
open PySem PySem.SeqAt PySem.MeetsSeq
universe Hm
namespace L2
open PySem PySem.Spec PyProof.Rows XH Sw So Hm
section
variable {X:Cx} {scope:Scope} {cl:List (Str×Addr)} {own:Str} {ys:Lb} {js:List Nat} {elt iter:Expr} {px pos:Pos} {wi:TI} {te:TE}
theorem hE {i:Nat} {y:Str} {py spos:Pos} (hN:X.N.Nodup) (hi':X.N[i]?=some y) (hy:X.env.scope.names.lookup y=some .local) (hc:X.calm=true) (ok:gn X scope cl own ys js) (hi:PI X 340 iter wi)
  (he:∀(C:Addr) (fp:Lc) (s:Shared) (H:Hp),PE 141 elt te)
  (hsw:swapsWith 134 (some 512) spos.line X.env=pure true:=by rfl) (hs:∀x,foldedSetIterable iter X.env x=pure x:=by intro _;rfl):
  PS X (.Assign [.Name y py] 134 spos) (ud (oT wi js te) (cE i)):=λpins s σ H D I h=>by
 sleep 29;show wpAny _ X.A (do let _<-comprehension (.ListComp elt [⟨.Name own px,iter,[],0⟩] scope pos) scope X.env _ (newList []) false (eval iter X.env) (some (assign (.Name y py) X.env))) _ _ s
 exact wpAny_bind (wpAny_mono (oU hc ok hi he hs I h (my hN hi' hy)) 294 λ_ _ e=>e)
universe z0
variable {X:Cx}
theorem sw:∀{ws:Lb} {us:Ld},bN (ws.map V.str) us->StrsAre us ws
 | [],_,h=>by cases h;exact .nil
 |w::ws,_,h=>by
  cases h with
  |cons r rr=>
   obtain ⟨t,rfl⟩:=r;exact .cons _ _ (sw rr)
theorem AQ:GJ X "str.join" (λx vs H Q=>∃z a ws,x= .str z/\vs= [.ref a]/\aD X.K H a (ws.map V.str)/\z.length<=16/\(ws.map (λx=>x.length)).sum+ws.length<=1048576/\Q (.str (Txt.join z ws)) H):=by
 sleep 95;obtain ⟨z,a,ws,rfl,rfl,hS,hz,hl,q⟩:=h;obtain ⟨t,rfl⟩:=rx;obtain ⟨u,rfl,ru⟩:=vals1 rv;cases ru;obtain ⟨its,r,p,_⟩:=I.list hS;exact join_listW p.isList (by simpa using sw r) hz hl λt' k=>(.str _,H,I.tok _,⟨ν⟩,q)
universe L2
namespace Sw
open PySem L2 XH PySem.NumText
theorem AR (x:Str) (gs:Lb):uq (.str x) (gs.map V.str)=decide (x∈gs):=by
 unfold uq;rw[Jj];simp[Ah]
theorem vH (gs:Lb):(gs.map V.str).all iP=true:=by
 rw[IT];intro x hx;obtain ⟨g,_,rfl⟩:=IV.mp hx
 rfl
theorem Gk {x:Str} {gs:Lb} {A B:Prop} (h1:x∈gs->A) (h2:x∉gs->B):if (if false=true then !uq (.str x) (gs.map V.str) else uq (.str x) (gs.map V.str))=true then A else B:=by
 rw[if_neg (by decide:¬false=true),AR]
 exact d2 h1 h2
universe Sw
namespace L2
open PySem PySem.Spec PyProof.Rows XH Sw So Hm
theorem j2 {X:Cx} (hu:X.A.units<cLine):iL X (compareOp .NotEq) (λx y H Q=>∃a b zs,x= .ref a/\y= .ref b/\aD X.K H a zs/\aD X.K H b []/\Q (.bl (!zs.isEmpty)) H):=by
 sleep 62;obtain ⟨a,b,zs,rfl,rfl,h1,h2,hq⟩:=h;cases rx;cases ry;obtain ⟨i1,r1,p1,_⟩:=I.list h1;obtain ⟨i2,r2,p2,_⟩:=I.list h2;cases r2;cases zs with
 |nil=>
  cases r1;refine SeqAt.RcNeAt.lists (e:=λ_=>true) p1.isList p2.isList rfl hu (λj g1 g2=>absurd g1 139) _ _ _ _ ?_
  exact (.bl false,H,I,by show Value.bool _=Value.bool _;simp,hq)
 |cons z zs=>
  cases r1 with
  |cons r rr=>
   refine SeqAt.RcNeAt.lists_lengths p1.isList p2.isList 139 hu _ _ _ _ ?_
   exact (.bl true,H,I,rfl,hq)
theorem dH {xs:List V} {c:Nat} (h:c<=138):gU xs none 473=xs.take c:=by
 have e1:HT.gi 138 0 none=0:=rfl;have e2:HT.gi 138 138 473=c:=by
  show 234=c
  rw[if_neg 78]
  lia
 unfold gU;rw[e1,e2,List.drop_zero,Nat.sub_zero]
theorem du {xs:List V} {c:Nat} (h:c<=138):gU xs 473 none=xs.drop c:=by
 have e1:HT.gi 138 0 473=c:=by
  show 234=c
  rw[if_neg 78]
  lia
 have e2:HT.gi 138 138 none=xs.length:=rfl;unfold gU;rw[e1,e2,K5 (by rw[Io];lia)]
universe L2
namespace Sw
open PySem L2 XH Hm
theorem vI {n j:Nat} (h:j<n):yu n (j:Int)=some j:=by
 unfold yu;rw[if_pos 78,if_pos 78]
 rfl
theorem dC {xs:List V} {i:Nat} {v:V} (h:xs[i]?=some v):io xs 167=some v:=by
 rw[Jb];exact aS h
def Fl (l:Addr) (H H':Hp):Prop:=∀a o,a≠l->H a=some o->H' a=some o
theorem Fl.refl (l:Addr) (H:Hp):Fl l H H:=λ_ _ _ h=>h
theorem Fl.trans {l:Addr} {H H1 H2:Hp} (a:Fl l H H1) (b:Fl l H1 H2):Fl l H H2:=λc o n h=>b c o n (a c o n h)
theorem Fl.of {l:Addr} {H H':Hp} (g:aC H H'):Fl l H H':=λa o _ h=>g a o h
theorem Fl.put (l:Addr) (H:Hp) (o:HO):Fl l H (aK H l o):=λa u n h=>by rw[aQ n];exact h
universe Sw
namespace L2
open PySem PySem.Spec PyProof.Rows XH Sw Hm
universe L2
namespace Sw
open PySem L2 XH Hm
def dZ {α:Type} (R:Addr->α->Prop) (as:Lc) (xs:List α):Prop:=as.length=xs.length/\∀(i:Nat) (a:Addr) (x:α),as[i]?=some a->xs[i]?=some x->R a x
theorem dZ.imp {α:Type} {R S:Addr->α->Prop} {as:Lc} {xs:List α} (h:dZ R as xs) (f:∀a x,R a x->S a x):dZ S as xs:=(h.1,λi a x e1 e2=>f a x (h.2 i a x e1 e2))
theorem dZ.get {α:Type} {R:Addr->α->Prop} {as:Lc} {xs:List α} (h:dZ R as xs) {i:Nat} {x:α} (e:xs[i]?=some x):∃a,as[i]?=some a/\R a x:=by
 have il:i<as.length:=by rw[h.1];exact (IC.mp e).1
 exact (_,IA il,h.2 i _ x (IA il) e)
theorem dZ.nil {α:Type} {R:Addr->α->Prop}:dZ R [] ([]:List α):=(rfl,λi a x e=>by simp at e)
theorem dZ.snoc {α:Type} {R:Addr->α->Prop} {as:Lc} {xs:List α} (h:dZ R as xs) {a:Addr} {x:α} (r:R a x):dZ R (as++ [a]) (xs++ [x]):=by
 refine (by simp[h.1],λi b y e1 e2=>?_)
 have il:=(IC.mp e1).1
 by_cases c:i<as.length
 ·rw[JH c] at e1;rw[JH (by rw[<-h.1];exact c)] at e2
  exact h.2 i b y e1 e2
 ·have ei:i=as.length:=by simp at il;lia
  subst ei;rw[J7 249] at e1;rw[J7 (by rw[h.1];exact IH _),h.1] at e2
  simp at e1 e2;subst e1 e2;exact r
def bn (H:Hp) (l:Addr) (ks:List Ky):Prop:=∃as:Lc,H l=some (.lst (as.map V.ref))/\dZ 192 as ks
theorem bn.same {H H':Hp} {l:Addr} {ks:List Ky} (h:bn H l ks) (g:aC H H'):bn H' l ks:=by
 obtain ⟨as,e,r⟩:=h;exact (as,g _ _ e,r.imp λa k q=>g _ _ q)
universe Sw
namespace L2
open PySem PySem.Spec PyProof.Rows XH
theorem uC {X:Cx}:eY X 372 (λxs H Q=>∃(d:Addr) (kvs:List 306),xs= [.ref d]/\H d=some 162/\Q (.int kvs.length) H):=by
 sleep 52;obtain ⟨d,kvs,rfl,hd,q⟩:=h;obtain ⟨u,rfl,ru⟩:=vals1 r;cases ru;exact En I (.inl hd) λt s' I'=>(.int kvs.length,H,I',(t,rfl),q)
theorem bU {X:Cx} {K:IE} (h:X.K=K):DV X (Ej K):=by
 subst h;exact aA
theorem gu {X:Cx} {K:IE} (h:X.K=K):DV X (Ei K):=by
 subst h;exact aM
theorem mZ {X:Cx} {K:IE} (h:X.K=K):eY X (.type "list") (λxs H Q=>∃p ys,xs= [.ref p]/\(aD K H p ys∨bg K H p ys)/\∀l,H l=none->Q 271 (aK H l 297)):=by
 subst h;exact cy
theorem m6:bootBuiltins "dict" =some (.type "dict"):=by kernel_rfl
universe L2
namespace Sw
open PySem L2 XH Hm
noncomputable def m7 (td tl al pl n:V):List (Str×V):=bK "moments" n (bK "apart" pl (bK "arcs" al (bK "tasks" tl (bK "tools" td []))))
theorem AS {td tl al pl n:V}:(m7 td tl al pl n).lookup ("tools" :Str)=some td/\(m7 td tl al pl n).lookup ("tasks" :Str)=some tl/\(m7 td tl al pl n).lookup ("arcs" :Str)=some al/\(m7 td tl al pl n).lookup ("apart" :Str)=some pl/\(m7 td tl al pl n).lookup ("moments" :Str)=some n:=by
 unfold m7;exists ?_,?_,?_,?_
 ·rw[bL,if_neg 41,bL,if_neg 41,bL,if_neg 41,bL,if_neg 41,bL,if_pos rfl]
 ·rw[bL,if_neg 41,bL,if_neg 41,bL,if_neg 41,bL,if_pos rfl]
 ·rw[bL,if_neg 41,bL,if_neg 41,bL,if_pos rfl]
 ·rw[bL,if_neg 41,bL,if_pos rfl]
 ·rw[bL,if_pos rfl]
def Fx (x:Addr) (H H':Hp):Prop:=∀a o,a≠x->H a=some o->H' a=some o
theorem Fx.of {x:Addr} {H H':Hp} (g:aC H H'):Fx x H H':=λa o _ h=>g a o h
theorem Fx.put (x:Addr) (H:Hp) (o:HO):Fx x H (aK H x o):=λa u n h=>by rw[aQ n];exact h
theorem Fx.trans {x:Addr} {H H1 H2:Hp} (a:Fx x H H1) (b:Fx x H1 H2):Fx x H H2:=λc o n h=>b c o n (a c o n h)
theorem bn.fx {x:Addr} {H H':Hp} {l:Addr} {ks:List Ky} {C dx:Addr} {fs:List (Str×V)} (h:bn H l ks) (ex:H x=some (.ins C dx fs)) (g:Fx x H H'):bn H' l ks:=by
 obtain ⟨as,e,r⟩:=h;exact ⟨as,g _ _ (jN e ex 258) e,r.imp λa k q=>g _ _ (jN q ex 258) q⟩
def vJ:Sp:=λvs H Q _=>∃(al:Addr) (m:Int) (A:List Ky),vs= [.ref al,.int m]/\bn H al A/\A.length<=600/\(∀k∈A,∃p q g:Int,k= [p,q,g]/\0<=p/\p<m/\0<=q/\q<m/\ -1000000000<=g/\g<=1000000000)/\Q .non H
universe Sw
namespace L2
open PySem PySem.Spec PyProof.Rows XH
abbrev Cx.blockT (X:Cx) (scope:Scope) (cl:List (Str×Addr)) (C:Addr) (N:Lb) (os:Lb) (fp:Lc) (s:Shared) (H:Hp):Cx:=
 {X with env:=compEnvC scope cl C X.env,N:=N,s₀:=s,H₀:=H,outer:=X.stack,stack:=X.stack,ex:=fp,fn:=λy=>os.contains y,pn:= [],xe:=λ_ _=>False}
structure j3 (X:Cx) (scope:Scope) (cl:List (Str×Addr)) (os:Lb) (ys:Lb) (js:List Nat):Prop where
 clos:closureFor scope X.env=pure cl
 nocell:303=true
 kind:scope.kind= .function
 loc:189=true
 sub:∀p∈cl,X.env.cells.lookup p.1=some p.2
 has:168=true
 noown:∀x∈os,cl.lookup x=none
 at_:Sw.ku X scope ys js
 len:js.length=ys.length
def uD (n:Nat) (g:TG) (js:List Nat) (te:TE) (σ:St) (Q:VK):It->Hp->Prop:=λJ H1=>∀p,H1 p=none->∃W:Nat->Nat->List V->Hp->Prop,(∃m,W 0 m [] (aK H1 p 149))/\
 ∀i m ys H2,W i m ys H2->H2 p=some 297/\((J.stop i H2/\Q 181 H2)∨(J.go i H2/\ys.length<sizeLine/\∀x H3,J.yld i H2 x H3->∀o:St,o.length=n->g x (o++be js σ) H3 λσ4 H4=>(∃o':St,o'.length=n/\σ4=o'++be js σ)/\
  te σ4 H4 λy H5=>H5 p=some 297/\∃m',m'<m/\W 301 m' (ys++ [y]) (aK H5 p (.lst (ys++ [y])))))
def uE (wi:TI) (n:Nat) (g:TG) (js:List Nat) (te:TE):TE:=λσ H Q=>wi σ H (uD n g js te σ Q)
section
variable {X:Cx} {scope:Scope} {cl:List (Str×Addr)} {os:Lb} {ys:Lb} {js:List Nat} {fp:Lc} {pins:La} {σ:St} {H:Hp} {s s4:Shared}
theorem qB {h1:Heap} (ok:j3 X scope cl os ys js) (I:aY X pins σ H s) (hf:∀b∈fp,fk X pins H b) (hlt:∀b∈fp,b<52) (hns:h1.Ns 52 (λ_=>none))
  (hk:∀b o,s.heap.get? b=some o->h1.get? b=some o) (tk:Nat):
  aY (X.blockT scope cl 52 (os++ys) os fp s H) [] (os.map (λ_=>none)++be js σ) H {s with heap:=h1,toks:=tk}:=by
 have sub:∀y c,cl.lookup y=some c->X.env.cells.lookup y=some c:=λy c e=>ok.sub (y,c) (JQ e)
 refine ⟨⟨I.ok.mod,ok.kind,I.ok.glob,I.ok.blt,IH _,λx y c e1 e2=>I.ok.inj x y c (sub x c e1) (sub y c e2),λx hx=>?_,λx c e1 e2=>?_,I.ok.hd,I.ok.frames,.inl rfl,λb hb=>(IQ (hlt b hb),λx c e=>(hf b hb).2.2.2.2.1 x c (sub x c e)),
  I.bs,J8 I.ok.bsz I.sz,λb o e hb=>?_,λb hb z=>?_,I.stack,I.stkFree⟩,rfl,I.bare,Un.kept hk,⟨_,hns,λi y v e1 e2 e3=>?_⟩,λy c e=>?_,I.hok.fresh 249,λy c e=>I.freeC y c (sub y c e),λp hp=>absurd (show p∈([]:La) from hp) 139,I.hok.kept hk,?_⟩
 ·have hx':(relabel scope X.env).names.lookup x=some .cell∨(relabel scope X.env).names.lookup x=some .free:=hx;rcases hx' with z|z
  ·sleep 57
  ·sleep 50
 ·have e1':os.contains x=true:=e1;have e2':cl.lookup x=some c:=e2;rw[ok.noown x (List.contains_iff_mem.mp e1')] at e2';cases e2'
 ·rcases (hf b hb).2.2.2.1 with z|z
  ·exact I.ok.noex b o e z
  ·exact absurd (JA (Heap.lt_size (I.ok.bs b o e).1) z) (KH _)
 ·rcases IK.mp (I.stkSub b z) with q|q
  ·exact (hf b hb).2.1 q
  ·exact (hf b hb).2.2.1 q
 ·by_cases hi:i<os.length
  ·have e2':(os.map (λ_=>(none:Option V))++be js σ)[i]?=some (some v):=e2
   rw[JH (by rw[I0];exact hi),IG,IA hi] at e2'
   cases e2'
  ·have e1'':(os++ys)[i]?=some y:=e1;have e2'':(os.map (λ_=>(none:Option V))++be js σ)[i]?=some (some v):=e2
   rw[J7 78] at e1''
   rw[J7 218,I0] at e2''
   have e1':=e1'';have e2:=e2'';clear e1 e1'' e2'';generalize i-os.length=i at e1' e2;obtain ⟨j,hj,hN,hX,hc⟩:=ok.at_ i y e1';have e2':(be js σ)[i]?=some (some v):=e2;unfold be at e2';rw[IG,hj] at e2';have hs:σ[j]?=some (some v):=by
    cases q:σ[j]? with
    |none=>rw[Jw,q] at e2';cases e2'
    |some o=>rw[Jw,q] at e2';exact e2'
   obtain ⟨m,hn,hl⟩:=I.loc;obtain ⟨u,r,l⟩:=hl j y v hN hs (hX.elim (λz=> .inr (.inl z)) λz=> .inr (.inr z))
   refine (u,r,.inr (hc,?_));rcases l with ⟨k,_⟩|⟨k,c,hcl,hcell⟩
   ·have k':X.env.scope.names.lookup y=some .local:=k;rcases hX with z|z<;>(rw[z] at k';cases k')
   ·have ex:∃c',cl.lookup y=some c':=by
     rcases hc with z|z
     ·sleep 57
     ·sleep 50
    obtain ⟨c',hc'⟩:=ex;have e:=sub y c' hc';rw[hcl] at e;cases e;obtain ⟨oc,hoc,hd⟩:=hcell;exact (c,hc',oc,hk _ _ hoc,hd)
 ·obtain ⟨v,oc,hoc,hd⟩:=I.cell y c (sub y c e);exact (v,oc,hk _ _ hoc,hd)
 ·show (os.map (λ_=>(none:Option V))++be js σ).length=(os++ys).length
  simp[be,ok.len]
theorem uF {H':Hp} {h':Heap} {σ':St} (I:aY X pins σ H s) (hf:∀b∈fp,fk X pins H b) (J:aY (X.blockT scope cl 52 (os++ys) os fp s H) [] σ' H' s4) (hs:Heap.SameBut 52 s4.heap h'):
  aY X pins σ H' {s4 with heap:=h'}:=by
 have low:∀b o,s.heap.get? b=some o->b≠s.heap.objs.size:=λb o e=>IQ 241
 have B:=J.base;have u:Un (wP X.stack) fp H H' s.heap h':={
  keep:=λb o q n hb hx=>(hs.2 b (low b o q)).trans (B.keep b o q n hb hx)
  slot:=λb o q n hb hx=>by
   obtain ⟨sl,e⟩:=B.slot b o q n hb hx;exact (sl,(hs.2 b (low b o q)).trans e)
  free:=B.free
  there:=λb o q hx=>by
   obtain ⟨o',e⟩:=B.there b o q hx;exact (o',(hs.2 b (low b o q)).trans e)
  tups:=B.tups
  frzs:=B.frzs
  tbls:=B.tbls}
 have hn:H' 52=none:=J.free;have hk:jv X.prog X.w H' h':=λa o e=>(J.hok a o e).stay (λb v hb q=>(hs.2 b (by
  intro z;rcases hb with z'|z'
  ·rw[<-z',z,hn] at e;cases e
  ·rw[z,hn] at z';cases z')).trans q) (λ_ q=>q) λ_ _ q=>q
 exact I.call' (s':={s4 with heap:=h'}) (ch:=fp) J.os u hk J.bare λb hb=>⟨(hf b hb).2.2.2.1,(hf b hb).2.1,(hf b hb).2.2.2.2.1,(hf b hb).2.2.2.2.2⟩
universe z0
section
variable {X:Cx} {scope:Scope} {cl:List (Str×Addr)} {os:Lb} {ys:Lb} {js:List Nat} {elt iter tg:Expr} {px pos:Pos} {wi:TI} {te:TE} {g:TG}
theorem m9 (hc:X.calm=true) (ok:j3 X scope cl os ys js) (hi:PI X tg iter wi)
  (hg:∀(C:Addr) (fp:Lc) (s:Shared) (H:Hp),PG 186 tg g)
  (he:∀(C:Addr) (fp:Lc) (s:Shared) (H:Hp),PE 186 elt te)
  (hs:∀x,foldedSetIterable iter X.env x=pure x)
  {pins:La} {s:Shared} {σ:St} {H:Hp} {Q:VK} {use:Option (Value->Sem Unit)} {QQ:KY} {pp:Pos} (I:aY X pins σ H s) (h:(uE wi os.length g js te) σ H Q)
  (fin:∀(p C:Addr) (s6:Shared) (H5:Hp) (v:Flow),479->203->fk X pins H5 C->Q 181 H5->compPost 136 X.A X.xe use QQ 181 C (.ok v) s6):
  wpAny 136 X.A (comprehension 227 scope X.env pp (newList []) false 468 use) QQ X.xe s:=by
 have ncell:∀y∈scope.names,y.2≠ .cell:=λy hy z=>by
  sleep 97
 have nloc:∀y∈scope.names,y.2= .local->scope.names.lookup y.1=some .local:=λy hy z=>by
  sleep 128
  simpa using q
 sleep 31
 sleep 4
 have I3:=I2.laid (a:=s2.heap.objs.size) (o:= .lst []) (h':=s2.heap.push 185) (t':=s2.toks) (λb u q=>116 _ q) 249
  ⟨JC _,[],0,.nil,130 _ rfl⟩
 have fpo:∀b∈fp,b<s2.heap.objs.size:=λb hb=>by
  sleep 75
 sleep 25
 sleep 23
 sleep 43
 sleep 53
 sleep 14
 have J0:=qB (h1:=h1) ok I3 f3 lt3 hns hk (s2.toks+0);have t0:tn 0 h1:=T.keep 0 _ _ st2 λb hb o e=>hk b o (by rw[e3];exact 116 _ e)
 have fpB:∀{H':Hp},480->∀b∈fp,fk 171 [] H' b:=λ{H'} hn b hb=>
  ⟨hn b hb,IQ (lt3 b hb),λz=>(IK.mp (I3.stkSub b z)).elim (f3 b hb).2.1 (f3 b hb).2.2.1,.inl hb,λx c e=>(f3 b hb).2.2.2.2.1 x c 481,λp hp=>absurd (show p∈([]:La) from hp) 139⟩
 have loop:codeAny 136 X.A (.compLoop 227 0 310 179 282)
   (compPost 136 X.A X.xe use QQ 179 s3.heap.objs.size) {s3 with heap:=h1,toks:=s2.toks+0}:=by
  refine iu (λn s'=>∃i zs o0 H',aY 171 [] (o0++be js σ) H' s'/\o0.length=os.length/\tn i s'.heap/\(∀b∈fp,H' b=none)/\W i n zs H') ?_ m0
   ⟨0,[],os.map (λ_=>none),_,J0,I0 _,t0,λb hb=>(f3 b hb).1,w0⟩
  rintro n s5 ⟨i,zs,o0,H5,I5,l5,t5,n5,w5⟩;obtain ⟨hD,hw⟩:=turn i n zs H5 w5;rcases hw with ⟨stop,qn⟩|⟨go,hz,step⟩
  ·refine cx (T.done 171 rfl rfl rfl hc i [] s5 _ H5 205 I5 (fpB n5) t5 stop) λr s6 (hr,I6)=>?_
   subst hr;obtain ⟨m,hn,_⟩:=id I6.loc;exact fin _ _ s6 H5 _ (m,hn) (λh' hs'=>uF I3 f3 I6 hs') (I3.fpOk 249 (show H5 s3.heap.objs.size=none from I6.free)) qn
  ·refine cx (T.item 171 rfl rfl rfl hc i [] s5 _ H5 205 I5 (fpB n5) t5 go) λr s6 (u,hr,h6)=>?_
   sleep 82
   have I7':=I7.pinned (fpB n7) (T.obj _ _ t7);have hst:=step x H7 y7;refine cx (hg _ _ _ _ _ s7 _ H7 x u _ I7' r7 (hst o0 l5)) λ_ s8 (σ8,H8,I8,(o8,l8,e8),hst)=>?_
   subst e8;sleep 78
   sleep 21
   subst e10;refine (m',hm,i+1,zs++ [y],o8,_,I10.unpinned,l8,T.keep _ _ _ t7 λb hb o e=>(I10.pin (b,o) 315).1,λb hb=>?_,w9)
   sleep 72
 sleep 65
theorem yV (hc:X.calm=true) (ok:j3 X scope cl os ys js) (hi:PI X tg iter wi)
  (hg:∀(C:Addr) (fp:Lc) (s:Shared) (H:Hp),PG 186 tg g)
  (he:∀(C:Addr) (fp:Lc) (s:Shared) (H:Hp),PE 186 elt te)
  (hs:∀x,foldedSetIterable iter X.env x=pure x:=by intro _;rfl):PE X 227 (uE wi os.length g js te):=λpins s σ H Q I h=>by
 rw[eval_ListComp];exact m9 hc ok hi hg he hs I h λp C s6 H5 v (m,hn) J _ q=>281
universe z0
universe L2
namespace Sw
open PySem L2 XH
theorem EC {X:Cx} {scope:Scope} {cl:List (Str×Addr)} {os ys:Lb} {js:List Nat} (a:ku X scope ys js) (s:uu X cl) (len:js.length=ys.length) (clos:closureFor scope X.env=pure cl) (nocell:303=true) (kind:scope.kind= .function)
  (loc:189=true) (has:168=true) (noown:(os.all λx=>(cl.lookup x).isNone)=true):j3 X scope cl os ys js:=
 ⟨clos,nocell,kind,loc,s.all,has,λx hx=>by have:=IT.mp noown x hx;simpa using this,a,len⟩
theorem vK {X:Cx} {K:IE} {es:List Expr} {k:Nat} {t:Bw} {n:Nat} {pos:Pos} (hK:X.K=K) (hc:X.calm=true) (h:D7 X es t) (hn:(assignEach es X.env).length=n:=by rfl) (hst:(assignEach es X.env).findIdx? 201=none:=by rfl):PG X (.Tuple es k pos) (Ea K n t):=by
 subst hK;exact cT hc h hn hst
theorem j4 {X:Cx} {scope:Scope} {cl:List (Str×Addr)} {C:Addr} {fp:Lc} {s:Shared} {H:Hp} {os ys:Lb} {i:Nat} {x:Str} {pos:Pos} (nd:(os++ys).Nodup) (hi:(os++ys)[i]?=some x) (hl:(relabel scope X.env).names.lookup x=some .local):PG 186 (.Name x pos) (cE i):=
 fH (X:=X.blockT scope cl C (os++ys) os fp s H) nd hi (.inl hl) (.inr hl)
universe Sw
namespace L2
open PySem PySem.Spec PyProof.Rows XH
section
variable {X:Cx} {scope:Scope} {cl:List (Str×Addr)} {os:Lb} {ys:Lb} {js:List Nat} {elt iter tg:Expr} {px pos:Pos} {wi:TI} {te:TE} {g:TG}
theorem yW {i:Nat} {y:Str} {py spos:Pos} (hN:X.N.Nodup) (hi':X.N[i]?=some y) (hy:X.env.scope.names.lookup y=some .local) (hc:X.calm=true) (ok:j3 X scope cl os ys js) (hi:PI X tg iter wi)
  (hg:∀(C:Addr) (fp:Lc) (s:Shared) (H:Hp),PG 186 tg g)
  (he:∀(C:Addr) (fp:Lc) (s:Shared) (H:Hp),PE 186 elt te)
  (hsw:swapsWith 227 (some 512) spos.line X.env=pure true:=by rfl) (hs:∀x,foldedSetIterable iter X.env x=pure x:=by intro _;rfl):
  PS X (.Assign [.Name y py] 227 spos) (ud (uE wi os.length g js te) (cE i)):=λpins s σ H D I h=>by
 sleep 29;show wpAny _ X.A (do let _<-comprehension (.ListComp elt [⟨tg,iter,[],0⟩] scope pos) scope X.env _ (newList []) false (eval iter X.env) (some (assign (.Name y py) X.env))) _ _ s
 exact wpAny_bind (wpAny_mono (m9 hc ok hi hg he hs I h (my hN hi' hy)) 294 λ_ _ e=>e)
universe z0
universe L2
namespace Sw
open PySem L2 XH
universe Sw
namespace L2
open PySem PySem.Spec PyProof.Rows
universe L2
namespace Sw
open PySem L2 XH
universe Sw
namespace L2
open PySem PySem.Spec PyProof.Rows
universe L2
namespace Sw
open PySem L2 XH
universe Sw
namespace L2
open PySem PySem.Spec PyProof.Rows XH
noncomputable def jw (n:Nat) (pr:Nat->Bool) (f:Nat->V):List V:=((Ip n).filter pr).map f
theorem uG (n:Nat) (pr:Nat->Bool) (f:Nat->V):jw (n+1) pr f=jw n pr f++(if pr n=true then [f n] else []):=by
 unfold jw;rw[K6,List.filter_append,Il]
 congr 1
 cases h:pr n<;>simp[List.filter_cons,h]
theorem xt (n:Nat) (pr:Nat->Bool) (f:Nat->V):(jw n pr f).length<=n:=by
 unfold jw;rw[I0];have:=Jt pr (Ip n)
 rwa [J5] at this
theorem uH {J:It} {n:Nat} {js:List Nat} {tc:TT} {te:TE} {σ:L2.St} {H1:Hp} {Q:VK} (pr:Nat->Bool) (f:Nat->V) (hz:n<=sizeLine)
  (hgo:∀i H2,aC H1 H2->i<n->J.go i H2) (hst:∀H2,aC H1 H2->J.stop n H2)
  (step:∀i,i<n->∀H2 x H3,aC H1 H2->J.yld i H2 x H3->H3=H2/\(∀R:Bool->Hp->Prop,R (pr i) H2->tc (some x::be js σ) H2 R)/\(pr i=true->∀Q':VK,Q' (f i) H2->te (some x::be js σ) H2 Q'))
  (fin:∀p H',H1 p=none->aC H1 H'->H' p=some (.lst (jw n pr f))->Q 181 H'):kx js tc te σ Q J H1:=by
 intro p hp;exists λi m ys H2=>i<=n/\m=n-i/\ys=jw i pr f/\aC H1 H2/\H2 p=some 297,(n,JC _,rfl,rfl,Sw.af hp _,ag)
 rintro i m ys H2 ⟨hi,rfl,rfl,g,e⟩;exists e
 by_cases hin:i<n
 ·refine .inr 445
  ·have:=xt i pr f
   lia
  obtain ⟨rfl,h1,h2⟩:=step i hin H2 x H3 g hy;refine h1 _ ?_;have tk:=uG i pr f;cases hpr:pr i with
  |true=>
   rw[hpr,if_pos rfl] at tk;rw[if_pos rfl];exact h2 hpr _ (e,n-301,by lia,hin,rfl,tk.symm,Sw.dQ g hp _,ag)
  |false=>
   rw[hpr,if_neg 41,Ji] at tk
   rw[if_neg 41]
   exact (n-301,by lia,hin,rfl,tk.symm,g,e)
 ·have e2:i=n:=by lia
  subst e2;exact .inl (hst H2 g,fin p H2 hp g e)
theorem xu {K:IE} {a:Addr} {xs:List V} {js:List Nat} {tc:TT} {te:TE} {σ:L2.St} {H1:Hp} {Q:VK} (pr:Nat->Bool) (f:Nat->V) (hS:aD K H1 a xs) (hz:xs.length<=sizeLine)
  (s1:∀i x,xs[i]?=some x->∀H2,aC H1 H2->∀R:Bool->Hp->Prop,R (pr i) H2->tc (some x::be js σ) H2 R)
  (s2:∀i x,xs[i]?=some x->∀H2,aC H1 H2->∀Q':VK,Q' (f i) H2->te (some x::be js σ) H2 Q')
  (fin:∀p H',H1 p=none->aC H1 H'->H' p=some (.lst (jw 138 pr f))->Q 181 H'):kx js tc te σ Q (Aq K a) H1:=by
 refine uH pr f hz 389 (λH2 g=>(xs,g.seq hS,IH _)) 337 fin
 obtain ⟨rfl,hx⟩:=hy;have ex:=hx xs (g.seq hS);exact (rfl,s1 i x ex _ g,λ_=>s2 i x ex _ g)
universe L2
namespace Sw
open PySem L2 XH
universe Sw
namespace L2
open PySem PySem.Spec PyProof.Rows XH Sw So
universe L2
namespace Sw
open PySem L2 XH Hm
theorem dZ.append {α:Type} {R:Addr->α->Prop} {as bs:Lc} {xs ys:List α} (h:dZ R as xs) (k:dZ R bs ys):dZ R (as++bs) (xs++ys):=by
 refine (by simp[h.1,k.1],λi a x e1 e2=>?_)
 by_cases c:i<as.length
 ·rw[JH c] at e1;rw[JH (by rw[<-h.1];exact c)] at e2
  exact h.2 i a x e1 e2
 ·rw[J7 78] at e1
  rw[J7 (by rw[<-h.1];lia),<-h.1] at e2
  exact k.2 _ a x e1 e2
universe Sw
namespace L2
open PySem PySem.Spec PyProof.Rows XH Sw Hm
universe L2
namespace Sw
open PySem L2 XH Hm
abbrev Rn:=Int×Int×Int
noncomputable def rk (r:Rn):Ky:= [r.1,r.2.1,r.2.2]
def nc (H:Hp) (t:Addr) (R:List Rn) (M:List Int):Prop:=∃rl ml:Addr,H t=some (.tup [.ref rl,.ref ml])/\bn H rl 375/\H ml=some 285
theorem nc.same {H H':Hp} {t:Addr} {R:List Rn} {M:List Int} (h:nc H t R M) (g:aC H H'):nc H' t R M:=by
 obtain ⟨rl,ml,a,b,c⟩:=h;exact (rl,ml,g _ _ a,b.same g,g _ _ c)
noncomputable def aT:List Rn->List Int->List Int
 | [],M=>M
 |r::R,M=>r.1::r.2.1::aT R M
theorem eQ (M:List Int):∀R:List Rn,(aT R M).length=2*R.length+M.length
 | []=>by simp[aT]
 |r::R=>by simp[aT,eQ M R];lia
theorem sx (M:List Int):∀(R:List Rn) (i:Nat),(aT R M)[2*R.length+i]?=M[i]?
 | [],i=>by simp[aT]
 |r::R,i=>by
  have e:2*(r::R).length+i=(2*R.length+i)+1+1:=by simp;lia
  rw[e];show (aT R M)[2*R.length+i]?=_;exact sx M R i
theorem j5 (M:List Int):∀(R:List Rn) (i:Nat) (r:Rn),R[i]?=some r->(aT R M)[2*i]?=some r.1/\(aT R M)[2*i+1]?=some r.2.1
 | [],i,r,h=>by simp at h
 |q::R,0,r,h=>by
  simp at h;subst h;exact 444
 |q::R,i+1,r,h=>by
  have ih:=j5 M R i r 247
  exact ih
noncomputable def xv (M:List Int) (k:Nat):Bool:=decide (M.getD k 0<0)
noncomputable def AT (A:List Ky) (S:List Int) (k:Nat):Bool:=
 let a:=A.getD k []
 decide (S.getD (a.getD 1 0).toNat 0-S.getD (a.getD 0 0).toNat 0<a.getD 2 0)
def ng:Sp:=λvs H Q _=>∃(t:Addr) (p:Int) (R:List Rn) (M:List Int) (v:Int),vs= [.ref t,.int p]/\nc H t R M/\0<=p/\(aT R M)[p.toNat]?=some v/\Q (.int v) H
theorem n2 {p A B:Prop} [Decidable p] (h1:¬p->A) (h2:p->B):if (!decide p)=true then A else B:=by
 by_cases h:p
 ·rw[if_neg (by simp[h])];exact h2 h
 ·rw[if_pos (by simp[h])];exact h1 h
theorem aL {α:Type} {xs:List α} {i:Nat} {v d:α} (h:xs[i]?=some v):xs.getD i d=v:=by rw[JP,h];rfl
theorem cF {as:Lc} {i:Nat} {y:V} (h:(as.map V.ref)[i]?=some y):∃a,as[i]?=some a/\y= .ref a:=by
 rw[IG] at h;obtain ⟨a,e,rfl⟩:=IF.mp h;exact (a,e,rfl)
theorem bY {α:Type} {f:α->V} {xs:List α} {i:Nat} {x:α} (h:xs[i]?=some x):(xs.map f)[i]?=some (f x):=by rw[IG,h];rfl
theorem iU {H:Hp} {bs:Lc} {R:List Rn} (h:dZ 192 bs 375) {i:Nat} {b:Addr} (e:bs[i]?=some b):∃r:Rn,R[i]?=some r/\H b=some (.tup [.int r.1,.int r.2.1,.int r.2.2]):=by
 have il:i<R.length:=by
  have:=(IC.mp e).1;rw[h.1,I0] at this;exact this
 exact (_,IA il,h.2 i b (rk R[i]) e (by rw[IG,IA il];rfl))
theorem run_get {H:Hp} {bs:Lc} {R:List Rn} (h:dZ 192 bs 375) {i:Nat} {r:Rn} (e:R[i]?=some r):∃b,bs[i]?=some b/\H b=some (.tup [.int r.1,.int r.2.1,.int r.2.2]):=by
 obtain ⟨b,hb,_⟩:=h.get (i:=i) (x:=rk r) (by rw[IG,e];rfl)
 obtain ⟨r',e',q⟩:=iU h hb;rw[e] at e';cases e';exact (b,hb,q)
theorem AU {R:List Rn} {M:List Int} {p v:Int} (p0:0<=p) (c:p<2*188) (ev:(aT R M)[p.toNat]?=some v):∃(i:Nat) (r:Rn),p.fdiv 2=(i:Int)/\R[i]?=some r/\io [V.int r.1,.int r.2.1,.int r.2.2] (p.fmod 2)=some (.int v):=by
 have e1:p.fdiv 2=p/2:=Int.fdiv_eq_ediv_of_nonneg p 41
 have e2:p.fmod 2=p % 2:=Int.fmod_eq_emod_of_nonneg p 41
 have il:p.toNat/2<R.length:=by lia
 obtain ⟨s1,s2⟩:=j5 M R _ _ (IA il);exists p.toNat/2,_,by rw[e1];lia,IA il
 rw[e2]
 by_cases h:p.toNat % 2=0
 ·have ep:p % 2=((0:Nat):Int):=by lia
  have en:p.toNat=2*(p.toNat/2):=by lia
  rw[en,s1] at ev;cases ev;rw[ep];exact aS rfl
 ·have ep:p % 2=((1:Nat):Int):=by lia
  have en:p.toNat=2*(p.toNat/2)+1:=by lia
  rw[en,s2] at ev;cases ev;rw[ep];exact aS rfl
theorem AV {R:List Rn} {M:List Int} {p v:Int} {n:Nat} (hn:n=R.length) (c:p-2*(n:Int)≥0) (ev:(aT R M)[p.toNat]?=some v):io (M.map V.int) (p-2*(n:Int))=some (.int v):=by
 subst hn;obtain ⟨j,hj⟩:∃j:Nat,p.toNat=2*R.length+j:=⟨p.toNat-2*R.length,by lia⟩
 rw[hj,sx] at ev;have e:p-2*188=(j:Int):=by lia
 rw[e];exact aS (bY ev)
def jx (n:Int) (k:Ky):Prop:=∃p q g:Int,k= [p,q,g]/\0<=p/\p<n/\0<=q/\q<n/\ -1000000000<=g/\g<=1000000000
theorem pd (M:List Int):∀R:List Rn,aT R []++M=aT R M
 | []=>rfl
 |r::R=>by simp[aT,pd M R]
theorem nh:∀{R:List Rn} {i:Nat} {r:Rn},R[i]?=some r->aT (R.take 301) []=aT (R.take i) []++ [r.1]++ [r.2.1]
 | [],i,r,h=>by simp at h
 |q::R,0,r,h=>by
  simp at h;subst h
  rfl
 |q::R,i+1,r,h=>by
  have ih:=nh (R:=R) (i:=i) (r:=r) 247
  show q.1::q.2.1::aT (R.take 301) []=q.1::q.2.1::(aT (R.take i) []++ [r.1]++ [r.2.1]);rw[ih]
theorem fm {a n:Int} (h:0<n):0<=a.fmod n/\a.fmod n<n:=(Int.fmod_nonneg_of_pos a h,Int.fmod_lt_of_pos a h)
theorem hJ {H:Hp} {l t:Addr} {as:Lc} {ks:List Ky} {k:Ky} (e:H l=some (.lst (as.map V.ref))) (r:dZ 192 as ks) (h:H t=some (.tup (k.map V.int))):bn (aK H l (.lst (as.map V.ref++ [.ref t]))) l (ks++ [k]):=
 ⟨as++ [t],by rw[ag,Il];rfl,(r.snoc h).imp λt b q=>by rw[aQ (jN q e 258)];exact q⟩
theorem ph (ns:List Int) (lo hi:Option Int):∃cs:List Int,gU 222 lo hi=cs.map V.int/\cs.length<=ns.length:=by
 unfold gU;exists (ns.drop _).take _,by rw[List.map_take,List.map_drop]
 rw[IR,Io]
 lia
theorem nk {H1 H':Hp} {x dx:Addr} {C:Addr} (nx:H1 x=none) (nd:H1 dx=none) (h:∀a o,a≠x->aK (aK H1 dx (.own x)) x (.ins C dx []) a=some o->H' a=some o):aC H1 H':=λa o e=>by
 have ax:a≠x:=λz=>by rw[z,nx] at e;cases e
 have ad:a≠dx:=λz=>by rw[z,nd] at e;cases e
 exact h a o ax (by rw[aQ ax,aQ ad];exact e)
universe Sw
namespace L2
open PySem PySem.Spec PyProof.Rows XH Sw Hm
universe L2
namespace Sw
open PySem L2 XH Hm
def Gm (m:Int) (S:List Int):Prop:=m∈0::S/\∀z∈0::S,z<=m
theorem Gm.one {m m':Int} {S:List Int} (h:Gm m S) (h':Gm m' S):m=m':=Int.le_antisymm (h'.2 m h.1) (h.2 m' h'.1)
def yX:Sp:=λvs H Q _=>∃(t:Addr) (R:List Rn) (M:List Int),vs= [.ref t]/\nc H t R M/\R.length<=30/\M.length<=30/\∀(m:Int) (H':Hp),aC H H'->Gm m 403->Q 388 H'
universe Sw
namespace L2
open PySem PySem.Spec PyProof.Rows XH Sw Hm
theorem xx {xs:List V} {c:Nat}:gU xs 473 none=xs.drop c:=by
 by_cases h:c<=138
 ·exact du h
 ·rw[List.drop_eq_nil_of_le 78]
  apply JF;unfold gU;rw[IR,Io];have:HT.gi 138 0 473=xs.length:=by
   show 234=138
   rw[if_neg 78]
   lia
  rw[this]
  lia
universe L2
namespace Sw
open PySem L2 XH Hm
universe Sw
namespace L2
open PySem PySem.Spec PyProof.Rows XH Sw Hm
universe L2
namespace Sw
open PySem L2 XH Hm
theorem iV {α:Type} {P:List α->Prop} (h:∀a,P [a]):∀us:List α,us.length=1->P us
 | [a],_=>h a
theorem bR {α:Type} {P:List α->Prop} (h:∀a b,P [a,b]):∀us:List α,us.length=2->P us
 | [a,b],_=>h a b
theorem cW {α:Type} {P:List α->Prop} (h:∀a b c,P [a,b,c]):∀us:List α,us.length=3->P us
 | [a,b,c],_=>h a b c
theorem fb {α:Type} {P:List α->Prop} (h:∀a b c d,P [a,b,c,d]):∀us:List α,us.length=4->P us
 | [a,b,c,d],_=>h a b c d
theorem yY {α:Type} {P:List α->Prop} (h:∀a b c d e,P [a,b,c,d,e]):∀us:List α,us.length=5->P us
 | [a,b,c,d,e],_=>h a b c d e
theorem Cg {t u:TS} {D:Ends} {σ:L2.St} {H:Hp} (I:(L2.St->Hp->Prop)->Prop) (h1:∀N:L2.St->Hp->Prop,I N->t {D with nx:=N} σ H) (h2:I (u D)):bb t u D σ H:=h1 _ h2
abbrev FnAt (K:IE) (f:Addr) (n q:Str) (st:Stmt) (dV:Value):Prop:=∃(oc:Value) (od:Le) (kV dc pm:Value) (an:Le) (cd ct:Value) (sl:Array Lg),K.lookup f=some ⟨oc,od,.func (Jq n q (fU st) (fJ st) (av st) dV kV dc pm an cd ct),sl⟩/\PySem.W.codeIn K cd q=true/\K0 K (.ref f)=true
abbrev bD (K:IE) (f:Addr) (x:Str) (st:Stmt) (dV:Value):Prop:=J3 K mainGlobals x=some (some (.ref f))/\FnAt K f x x st dV
abbrev GX (n q:Str) (st:Stmt) (dV:Value) (ps:Lb):Prop:=∀(kV doc pm:Value) (an:Le) (cdv ct:Value) (us:Ld),us.length=ps.length->bindArgs (Jq n q (fU st) (fJ st) (av st) dV kV doc pm an cdv ct) ⟨us,[]⟩=pure (ps.zip us)
theorem dk {N P:Lb} {sc:Scope} (h:N.Nodup/\(∀x∈P,sc.names.lookup x=some .local∨sc.names.lookup x=some .cell)/\∀y∈sc.names,y.2≠ .free) (h1:sc.kind= .function:=by rfl) (h2:sc.isCoroutine=false:=by rfl) (h3:sc.isGenerator=false:=by rfl) (h4:N.take P.length=P:=by rfl):aE N P sc:=(h1,h2,h3,h.1,h4,h.2.1,h.2.2)
section
variable {P:Program} {w:World} {K:IE} {mg:KZ} {base h:Heap} {CX:vw} {k:Nat} {f c:Addr} {x m q:Str} {st:Stmt} {ps:Lb} {sp:Sp}
theorem FnAt.ex {n q:Str} {dV:Value} (a:FnAt K f n q st dV):∃fd,bv K n q st dV f fd/\K0 K (.ref f)=true:=by
 obtain ⟨_,_,_,_,_,_,_,_,_,l,c,k⟩:=a;exact (_,qx (st:=st) l c k,k)
structure Bx (P:Program) (w:World) (base:Heap):Prop
noncomputable def dt (_:Bx P w base) (X:K.In h) (G:h.Ns mainGlobals mg) (a:bD K f x st .none) (b:GX x x st .none ps) (ok:∀{fd:FuncData},bv K x x st .none f fd->bq P w K mg base CX k f fd ps sp):Dx P w K mg base CX k x ps [] sp:=
 have e:=a.2.ex
 ⟨f,e.choose,ok e.choose_spec.1,JY X G a.1,e.choose_spec.2,e.choose_spec.1.binds0 b,[],e.choose_spec.1.binds0 b,.nil⟩
universe z0
universe Sw
namespace L2
open PySem PySem.Spec PyProof.Rows XH
theorem oB (t:SetTable) (n:Nat):(t.orStandIn n).led=t.led:=by
 unfold SetTable.orStandIn
 by_cases h:t.fits n=true
 ·rw[if_pos h]
 ·rw[if_neg h];rfl
theorem uI (t:SetTable) (es:Array 176) (h:Int) (x:Value):(layNew t es h x).2.1.led=t.led:=by
 cases e:t.freeSlot h with
 |none=>simp only[layNew,e];rfl
 |some r=>
  obtain ⟨slot,d⟩:=r;simp only[layNew,e];rw[oB]
  rfl
theorem sy {t t':SetTable} {hs:Array Int} {n:Nat} {order:Array Nat} (e:t.relaid hs n=some (t',order)):t'.led=t.led/\t'.plain=t.plain:=by
 unfold SetTable.relaid SetTable.laid at e;obtain ⟨o,_,e2⟩:=J2.mp e;simp only[pure,Option.some.injEq,Prod.mk.injEq] at e2;rw[<-e2.1];exact 444
theorem qC (t:SetTable) (es:Array 176) (n:Nat):(relayAll t es n).2.1.led=t.led:=by
 cases e:t.relaid (es.map (·.1)) n with
 |none=>simp only[relayAll,e];rfl
 |some r=>
  obtain ⟨t',order⟩:=r;simp only[relayAll,e]
  by_cases c:(coversAll order es.size&&t'.fits (order.filterMap (es[·]?)).size)=true
  ·rw[if_pos c];exact (sy e).1
  ·rw[if_neg c];rfl
section
variable {prog:Program} {w:World} {A:Around} {E:KY} {s:Shared}
theorem oC (a:Value) {Q₁:KY}
  (h:∀led:Bool,(w.params.followText "set-order" =false->led=true)->Q₁ 267 293):
  codeAny 131 A (.call (.builtin "set.__new__") ⟨[.type "set",a],[]⟩) (wants Q₁ E) s:=by
 refine codeAny_of_tree ?_;show wpAny _ A.in1 (do checkBuiltinCall "set.__new__" ⟨[.type "set",a],[]⟩;again (.builtin "set.__new__" ⟨[.type "set",a],[]⟩)) _ _ s
 refine wpAny_bind (wpAny_of_eq (F.newCall_set_1 a) (wpAny_pure (plainId_quiet F.plain_set_new _,codeAny_builtin F.entry_set_new ?_)));rw[Around.under_plainId F.plain_set_new _];unfold Builtin.«set.__new__» Builtin.Frozenset.newClass;have hsub:=sub_set_self;obtain ⟨hp,g,d,tk,os⟩:=s;dsimp only
 wp_walk
 refine wpAny_askSetting 250;dsimp only;simp only[newObj];refine wpAny_bind (wpAny_alloc 250);refine wpAny_pure (h _ λe=>?_)
 show (!(model prog w).w.params.followText "set-order")=true;rw[show (model prog w).w=w from rfl,e]
 rfl
universe z0
theorem sA:Manifest.owners.lookup (String.ofList ['r','o','t','a','r','e','t','i','_','t','e','s'].reverse)=some Manifest.sig_set_iterator:=by kernel_rfl
theorem bV:Slot "set_iterator" "__next__" "set_iterator.__next__" :=
 .of (owner:= "set_iterator") (n:= "__next__") (by rw[typeLookup_type,builtinLookup_eq_fast];kernel_rfl) 47 47 47
  (by first|exact .inl (by decide+kernel)|exact .inr 47) 326
theorem fK:entryFor table "set_iterator.__next__" =some Builtin.«set_iterator.__next__» :=entryFor_of_tree 295
theorem fV (a:Value):argsOk "set_iterator.__next__" ⟨[a],[]⟩:=by
 unfold argsOk;rw[signature?_of (id:= "set_iterator.__next__") (n:= ['_','_','t','x','e','n','_','_']) (o:= ['r','o','t','a','r','e','t','i','_','t','e','s']) 295 sA];kernel_rfl
theorem dh:Slot "set_iterator" "__iter__" "set_iterator.__iter__" :=
 .of (owner:= "set_iterator") (n:= "__iter__") (by rw[typeLookup_type,builtinLookup_eq_fast];kernel_rfl) 47 47 47
  (by first|exact .inl (by decide+kernel)|exact .inr 47) 326
theorem fW (a:Value):argsOk "set_iterator.__iter__" ⟨[a],[]⟩:=by
 unfold argsOk;rw[signature?_of (id:= "set_iterator.__iter__") (n:= ['_','_','r','e','t','i','_','_']) (o:= ['r','o','t','a','r','e','t','i','_','t','e','s']) 295 sA];kernel_rfl
theorem nq:entryFor table "set.__iter__" =some Builtin.«frozenset.__iter__» :=
 entryFor_alias (id':= "frozenset.__iter__") 295 rfl 47 295
theorem fL:entryFor table "set_iterator.__iter__" =some Builtin.«dict_keyiterator.__iter__» :=
 entryFor_alias (id':= "dict_keyiterator.__iter__") 295 rfl 47 295
section
variable {prog:Program} {w:World} {A:Around} {E:KY} {s:Shared}
theorem oE {M:Model} {src:Source} {n:Nat} {Q:Nat->Shared->Prop} (hn:n≠0) (h:∀i d,i<n->Q i {s with drawn:=d}):wpAny M A (choose src n) Q E s:=λ_ _ _=>by
 unfold choose;rw[Sem.wp_choose];exact (hn,by simpa using h _ _ (Nat.mod_lt _ (Nat.pos_of_ne_zero hn)))
theorem kz {α:Type}:∀(l:List α) (i:Nat) (h:i<l.length),(l[i]::l.eraseIdx i).Perm l
 | [],i,h=>by simp at h
 |x::xs,0,_=> .refl _
 |x::xs,i+1,h=>by
  have h':i<xs.length:=by simpa using h
  show (xs[i]::x::xs.eraseIdx i).Perm (x::xs);exact (List.Perm.swap _ _ _).trans ((kz xs i h').cons x)
theorem iW {M:Model} {α:Type}:∀(n:Nat) (xs:List α) (s:Shared) (Q:List α->Shared->Prop),138=n->(∀ys d,ys.Perm xs->Q ys {s with drawn:=d})->wpAny M A (drawOrder n xs) Q E s
 |0,xs,s,Q,hl,h=>by
  have:xs= []:=List.length_eq_zero_iff.mp hl;subst this;unfold drawOrder;exact wpAny_pure (h [] s.drawn .nil)
 |n+1,[],s,Q,hl,h=>by cases hl
 |n+1,x::xs,s,Q,hl,h=>by
  unfold drawOrder;refine wpAny_bind (oE 139 λi d hi=>?_)
  have e:(x::xs)[i]?=some ((x::xs)[i]):=IA hi;rw[e];dsimp only;refine wpAny_bind (iW n ((x::xs).eraseIdx i) {s with drawn:=d} _ (by rw[List.length_eraseIdx_of_lt hi,hl];rfl) λys d' hp=>wpAny_pure (h _ d' ?_))
  exact (hp.cons _).trans (kz _ i hi)
def fc (h:Heap) (a:Addr) (es:Array 176) (ep:Nat) (t:SetTable):Prop:=∃o,h.get? a=some o/\o.ExactSet/\o.data= .set es ep t/\t.fits es.size=true
noncomputable def tZ (first:Value) (i:Nat) (S:Addr) (n ep:Nat):Obj:={cls:= .type "set_iterator",data:= .fields #[first,.int i 0,.ref S,.int n 0,.int ep 0]}
theorem qD {a:Addr} {es:Array 176} {ep:Nat} {t:SetTable} (h:fc s.heap a es ep t):s.TypeIs 366 "set" :=let ⟨o,ho,hx,_⟩:=h;⟨o,ho,hx.1⟩
theorem yZ {a:Addr} {es:Array 176} {ep:Nat} {t:SetTable} {Q:KY} (hS:fc s.heap a es ep t) (hz:es.size<=sizeLine)
  (h1:273=false->Q 267 {s with heap:=s.heap.push (tZ (.int 0 0) 0 a es.size ep)})
  (h2:273=true->∀(ys:List Nat) d,ys.Perm (Ip es.size)->
   Q (.ref (52+1)) {s with heap:=(s.heap.push 156).push (tZ 267 0 a es.size ep),drawn:=d}):
  wpAny 131 A (pyIter 366) Q E s:=by
 have hT:=qD hS;obtain ⟨o,ho,hx,hd,hf⟩:=hS;refine wpAny_pyIter_slot hT F.slot_set_iter (wpAny_call_entry F.slot_set_iter hT nq ?_ (F.args_set_iter_1 _));unfold Builtin.«frozenset.__iter__»;refine wpAny_bind (m:=Builtin.Frozenset.slot0 _ _) ?_;show wpAny _ _ (pure a) _ _ s;sleep 125;unfold Builtin.Frozenset.sizeOf setEntries;refine wpAny_bind (wpAny_bind (wpAny_bind (wpAny_setState_of ho hd hf 250)));sleep 125;unfold setDrawn setsByText;refine wpAny_bind (wpAny_bind (wpAny_setState_of ho hd hf ?_));sleep 45;show wpAny _ _ (pure 273) _ _ s;sleep 125;cases c:(!w.params.followText "set-order" &&(!t.plain&&decide (es.size>1))) with
 |false=>
  sleep 124;refine wpAny_bind 250;unfold setEpoch;refine wpAny_bind (wpAny_bind (wpAny_setState_of ho hd hf 250));refine wpAny_bind (wpAny_newObj_type (wpAny_pure (ν,"set_iterator",_,(_,130 _ rfl,rfl),bV.lookup,?_)));exact h1 c
 |true=>
  simp only[if_true];refine wpAny_bind (iW es.size (Ip es.size) s _ 139 λys d hp=>?_)
  refine wpAny_bind (wpAny_newTuple ?_ (by rw[I0,hp.length_eq,J5];exact hz))
  unfold setEpoch;have ho':(s.heap.push 156).get? a=some o:=Heap.get?_push_of_some _ ho
  refine wpAny_bind (wpAny_bind (wpAny_setState_of (s:={s with heap:=_,drawn:=d}) ho' hd hf 250))
  refine wpAny_bind (wpAny_newObj_type (wpAny_pure (ν,"set_iterator",_,(_,130 _ rfl,rfl),bV.lookup,?_)));have:=h2 c ys d hp;rw[<-Heap.size_push s.heap 156] at this
  exact this
universe z0
section
variable {prog:Program} {w:World} {A:Around} {E:KY} {s:Shared}
theorem fc.at {h h':Heap} {a:Addr} {es:Array 176} {ep:Nat} {t:SetTable} (x:fc h a es ep t) (k:∀o,h.get? a=some o->h'.get? a=some o):fc h' a es ep t:=let ⟨o,ho,r⟩:=x;⟨o,k o ho,r⟩
theorem fM {a:Addr} {es:Array 176} {ep:Nat} {t:SetTable} {Q:Array 176->Shared->Prop} (hS:fc s.heap a es ep t) (h:Q es s):wpAny 131 A (setEntries a) Q E s:=by
 obtain ⟨o,ho,_,hd,hf⟩:=hS;unfold setEntries;exact wpAny_bind (wpAny_setState_of ho hd hf (wpAny_pure h))
theorem fN {a:Addr} {es:Array 176} {ep:Nat} {t:SetTable} {Q:(Array (Int×Value)×Nat×SetTable)->Shared->Prop} (hS:fc s.heap a es ep t) (h:Q (es,ep,t) s):wpAny 131 A (setState a) Q E s:=by
 obtain ⟨o,ho,_,hd,hf⟩:=hS;exact wpAny_setState_of ho hd hf h
theorem kA {I S:Addr} {es:Array 176} {ep i slot nx:Nat} {t:SetTable} {x:Value} {Q:Lg->Shared->Prop} (hI:s.heap.get? I=some 329) (hS:fc s.heap S es ep t)
  (hn:∀(A:Around) (E:KY) (Q:Option (Value×Nat)->Shared->Prop),Q (some (x,nx)) s->wpAny 131 A (setNext S slot i ep) Q E s)
  (h:∀h',h'.get? I=some (tZ (.int nx 0) 301 S es.size ep)->Heap.SameBut I s.heap h'->Q (some x) 317):wpAny 131 A (pyNext 367) Q E s:=by
 sleep 86;unfold pyNext;refine wpAny_bind (wpAny_attempt (wpAny_callSpecial?_slot (name:=Str.ofString "__next__") hT bV (wpAny_call_entry bV hT fK ?_ (fV _))));sleep 3;sleep 96
 show wpAny _ _ (setNext S (Int.toNat slot) (Int.toNat i) (Int.toNat ep)>>=_) _ _ s;simp only[IP];refine wpAny_bind (hn _ _ _ ?_);dsimp only;refine wpAny_bind (wpAny_setField_rec (vs:= #[.int slot 0,.int i 0,.ref S,.int es.size 0,.int ep 0]) hI 139 λh1 e1 s1=>?_)
 refine wpAny_bind (wpAny_setField_rec (s:={s with heap:=h1}) e1 139 λh2 e2 s2=>?_)
 exact wpAny_pure (ν,wpAny_pure (h h2 (by simpa [tZ,rawInt] using e2) (s1.trans s2)))
theorem kB {I S:Addr} {es:Array 176} {ep i slot:Nat} {t:SetTable} {Q:Lg->Shared->Prop} (hh:A.handled=none) (hI:s.heap.get? I=some 329) (hS:fc s.heap S es ep t)
  (hn:∀(A:Around) (E:KY) (Q:Option (Value×Nat)->Shared->Prop),Q none s->wpAny 131 A (setNext S slot i ep) Q E s)
  (h:∀h',Heap.ExtBut I s.heap h'->Q none 317):wpAny 131 A (pyNext 367) Q E s:=by
 sleep 86;unfold pyNext;refine wpAny_bind (wpAny_attempt (wpAny_callSpecial?_slot (name:=Str.ofString "__next__") hT bV (wpAny_call_entry bV hT fK ?_ (fV _))));sleep 3;sleep 96
 show wpAny _ _ (setNext S (Int.toNat slot) (Int.toNat i) (Int.toNat ep)>>=_) _ _ s;simp only[IP];refine wpAny_bind (hn _ _ _ ?_);dsimp only;refine wpAny_bind (wpAny_setField_rec (vs:= #[.int slot 0,.int i 0,.ref S,.int es.size 0,.int ep 0]) hI 139 λh1 e1 s1=>?_)
 sleep 36
 sleep 56
 refine wpAny_newObj_type ?_ (by size_fits)
 simp only[raiseNew];refine wpAny_bind (wpAny_handled ?_);rw[show A.in1.handled=none from hh]
 refine wpAny_bind (wpAny_pure (wpAny_throw ?_));refine wpAny_bind (wpAny_isInstance (T:= "StopIteration") (b:=true) (_,130 _ rfl,rfl) isSubtype_stop ?_);exact wpAny_pure (h _ ((s1.extBut.push _).push _))
universe z0
theorem li {α:Type} (nx:Nat->Nat):∀(f k:Nat) (l:List α) (out:Array α),l.length=f->(pickOrder.go nx f k l out).toList.Perm (out.toList++l)
 |0,k,l,out,h=>by
  have:l= []:=List.length_eq_zero_iff.mp h;subst this;simp[pickOrder.go]
 |f+1,k,l,out,h=>by
  have hp:0<l.length:=by lia
  have hi:nx k % l.length<l.length:=Nat.mod_lt _ hp;have e:l[nx k % l.length]?=some (l[nx k % l.length]):=IA hi;rw[pickOrder.go,e];dsimp only;refine (li nx f 291 _ _ (by rw[List.length_eraseIdx_of_lt hi,h];rfl)).trans ?_
  rw[Array.toList_push,JE];exact List.Perm.append_left _ (kz l _ hi)
theorem ny {α:Type} (nx:Nat->Nat) (xs:Array α):(pickOrder nx xs).toList.Perm xs.toList:=by
 unfold pickOrder
 simpa using li nx xs.size 0 xs.toList #[] 139
section
variable {prog:Program} {w:World} {A:Around} {E:KY} {s:Shared}
theorem j6 {S:Addr} {es:Array 176} {ep i slot:Nat} {t:SetTable} {Q:Option (Value×Nat)->Shared->Prop} (hS:fc s.heap S es ep t) (hb:w.params.followText "set-order" =true)
  (h:Q (((pickOrder 345 es)[i]?).map λe=>(e.2,slot)) s):wpAny 131 A (setNext S slot i ep) Q E s:=by
 unfold setNext setsByText;refine wpAny_bind (fN hS ?_);sleep 45;rw[show 262=true from hb]
 simp only[if_true];rw[if_neg 139]
 unfold setWalk setsByText;refine wpAny_bind (wpAny_bind (fN hS ?_));sleep 45;rw[show 262=true from hb]
 simp only[if_true];refine wpAny_bind (wpAny_askSetting 250);exact wpAny_pure h
theorem lB {S:Addr} {es:Array 176} {ep i slot:Nat} {t:SetTable} {Q:Option (Value×Nat)->Shared->Prop} (hS:fc s.heap S es ep t) (hb:w.params.followText "set-order" =false) (few:es.size<=1) (ld:t.led=true)
  (h:Q (match es[SetTable.below t.place slot]?,t.place[SetTable.below t.place slot]? with|some (_,x),some j=>some (x,j+1)|_,_=>none) s):wpAny (model prog w) A (setNext S slot i ep) Q E s:=by
 unfold setNext setsByText;refine wpAny_bind (fN hS ?_);sleep 45;rw[show 262=false from hb]
 sleep 124;have d1:358=false:=by
  rw[decide_eq_false 78,Jh]
 have d2:465=false:=by rw[ld];rfl
 show wpAny _ _ (if 358=true then _ else _) _ _ s
 rw[d1];sleep 124;sleep 136;show wpAny _ _ (if 465=true then _ else _) _ _ s
 rw[d2];sleep 124;sleep 125;exact wpAny_pure h
theorem xz (hh:A.handled=none) (hb:w.params.followText "set-order" =true) (I S:Addr) (ne:S≠I) (es:Array 176) (ep:Nat) (t:SetTable):
  Walks prog w A I [I,S] [I] es.size (λi v=>∃e,(pickOrder 345 es).toList[i]?=some e/\v=e.2) (λi h=>h.get? I=some (tZ (.int 0 0) i S es.size ep)/\fc h S es ep t) where
 sub:=λb hb=>by simp at hb;simp[hb]
 frame:=λ_ _ _ st hk=>⟨hk I 139 _ st.1,st.2.at λo e=>hk S 139 o e⟩
 item:=λi s Q E hi st hQ=>by
  have hz:(pickOrder 345 es).size=es.size:=by rw[<-Im,(ny _ es).length_eq,Im]
  obtain ⟨x,hx⟩:∃x,(pickOrder (w.params.setOrder S ep) es)[i]?=some x:=⟨_,JS (by rw[hz];exact hi)⟩
  refine kA (slot:=0) (nx:=0) (x:=x.2) st.1 st.2 (λA E Q q=>j6 st.2 hb ?_) λh' e' sb=>?_
  ·rw[hx];exact q
  ·refine hQ _ h' s.toks (_,by rw[J6];exact hx,rfl) (e',st.2.at λo e=>(sb.2 S ne).trans e) λb o hb e=>(sb.2 b λz=>hb (by simp[z])).trans e
 done:=λs Q E st hQ=>by
  have hz:(pickOrder 345 es).size=es.size:=by rw[<-Im,(ny _ es).length_eq,Im]
  have hx:(pickOrder 345 es)[es.size]?=none:=K4 78
  refine kB (slot:=0) hh st.1 st.2 (λA E Q q=>j6 st.2 hb ?_) λh' xb=>hQ h' s.toks λb o hb e=>xb b o 325 e
  rw[hx];exact q
 self:=λi s Q E st hQ=>by
  have hT:s.TypeIs 367 "set_iterator" :=(_,st.1,rfl);sleep 18
theorem vL {α:Type}:∀{a:Array α},a.size=1->∃j,a= #[j]
 |⟨[j]⟩,_=>⟨j,rfl⟩
 |⟨[]⟩,h=>by simp at h
 |⟨_::_::_⟩,h=>by simp at h
theorem pi (j k:Nat):SetTable.below #[j] k=if j<k then 1 else 0:=by
 unfold SetTable.below;simp only[IY,Iu,List.length_nil,SetTable.below.go]
 by_cases h:j<k<;>simp[h,SetTable.below.go]
theorem y4 (hh:A.handled=none) (hb:w.params.followText "set-order" =false) (I S:Addr) (ne:S≠I) (es:Array 176) (ep:Nat) (t:SetTable) (few:es.size<=1) (ld:t.led=true) (ft:t.fits es.size=true):
  Walks prog w A I [I,S] [I] es.size (λi v=>∃e,es.toList[i]?=some e/\v=e.2) (λi h=>(∃slot:Nat,(i=0->slot=0)/\(i≠0->∃j,t.place[0]?=some j/\slot=j+1)/\h.get? I=some 329)/\fc h S es ep t) where
 sub:=λb hb=>by simp at hb;simp[hb]
 frame:=λ_ _ _ st hk=>⟨let ⟨sl,a,b,c⟩:=st.1;⟨sl,a,b,hk I (by simp) _ c⟩,st.2.at λo e=>hk S (by simp) o e⟩
 item:=λi s Q E hi st hQ=>by
  sleep 74;have i0:i=0:=by lia
  subst i0;cases z1 rfl;have pz:t.place.size=1:=by
   sleep 104
   lia
  obtain ⟨j,ej⟩:=vL pz;obtain ⟨x,hx⟩:∃x,es[0]?=some x:=⟨_,JS hi⟩;refine kA (slot:=0) (nx:=j+1) (x:=x.2) hI hS (λA E Q q=>lB hS hb few ld ?_) λh' e' sb=>?_
  ·rw[ej,pi];simp only[K9,if_false,hx];exact q
  ·exact hQ _ h' s.toks (_,by rw[J6];exact hx,rfl) ((j+1,λz=>78,λ_=>(j,by rw[ej];rfl,rfl),e'),hS.at λo e=>(sb.2 S ne).trans e) λb o hb e=>(sb.2 b λz=>hb (by simp[z])).trans e
 done:=λs Q E st hQ=>by
  sleep 74;refine kB (slot:=slot) hh hI hS (λA E Q q=>lB hS hb few ld ?_) λh' xb=>hQ h' s.toks λb o hb e=>xb b o 325 e
  have hn:es[SetTable.below t.place slot]?=none:=by
   by_cases e0:es.size=0
   ·exact K4 78
   ·obtain ⟨j,e1,e2⟩:=z2 e0;have pz:t.place.size=1:=by
     sleep 104
     lia
    have ej:t.place= #[j]:=by
     obtain ⟨j',ej'⟩:=vL pz;rw[ej'] at e1;simp at e1;rw[ej',e1]
    rw[ej,pi,e2,if_pos 78]
    exact K4 78
  rw[hn];exact q
 self:=λi s Q E st hQ=>by
  sleep 74;sleep 86;sleep 18
universe z0
section
variable {prog:Program} {w:World} {A:Around} {E:KY} {s:Shared}
theorem uJ {I S T:Addr} {es:Array 176} {ep i j:Nat} {t:SetTable} {e:Int×Value} {ys:List Nat} {Q:Lg->Shared->Prop} (hI:s.heap.get? I=some (tZ 457 i S es.size ep)) (hS:fc s.heap S es ep t)
  (hT:s.heap.get? T=some 156) (hj:ys[i]?=some j) (he:es[j]?=some e)
  (h:∀h',h'.get? I=some (tZ 457 301 S es.size ep)->Heap.SameBut I s.heap h'->Q (some e.2) 317):wpAny 131 A (pyNext 367) Q E s:=by
 have hT':s.TypeIs 367 "set_iterator" :=(_,hI,rfl);unfold pyNext;refine wpAny_bind (wpAny_attempt (wpAny_callSpecial?_slot (name:=Str.ofString "__next__") hT' bV (wpAny_call_entry bV hT' fK ?_ (fV _))));sleep 3;sleep 96
 show wpAny _ _ (seqItems? 457>>=_) _ _ s;refine wpAny_bind (wpAny_seqItems hT rfl ?_);have hp:((ys.map λ(i:Nat)=>rawInt i).toArray)[(i:Int).toNat]?=some (.int (j:Int) 0):=by
  simp[hj,rawInt]
 dsimp only;rw[hp];dsimp only;unfold setNextDrawn;refine wpAny_bind (wpAny_bind (fN hS ?_));dsimp only;rw[if_neg 139]
 simp only[IP,he];sleep 125;refine wpAny_bind (wpAny_setField_rec (vs:= #[.ref T,.int i 0,.ref S,.int es.size 0,.int ep 0]) hI 139 λh1 e1 s1=>?_)
 exact wpAny_pure (ν,wpAny_pure (h h1 (by simpa [tZ,rawInt] using e1) s1))
theorem uK {I S T:Addr} {es:Array 176} {ep i:Nat} {t:SetTable} {ys:List Nat} {Q:Lg->Shared->Prop} (hh:A.handled=none) (hI:s.heap.get? I=some (tZ 457 i S es.size ep)) (hS:fc s.heap S es ep t)
  (hT:s.heap.get? T=some 156) (hj:ys[i]?=none)
  (h:∀h',Heap.ExtBut I s.heap h'->Q none 317):wpAny 131 A (pyNext 367) Q E s:=by
 have hT':s.TypeIs 367 "set_iterator" :=(_,hI,rfl);unfold pyNext;refine wpAny_bind (wpAny_attempt (wpAny_callSpecial?_slot (name:=Str.ofString "__next__") hT' bV (wpAny_call_entry bV hT' fK ?_ (fV _))));sleep 3;sleep 96
 show wpAny _ _ (seqItems? 457>>=_) _ _ s;refine wpAny_bind (wpAny_seqItems hT rfl ?_);have hp:((ys.map λ(i:Nat)=>rawInt i).toArray)[(i:Int).toNat]?=none:=by
  have:=List.getElem?_eq_none_iff.mp hj
  simpa using this
 dsimp only;rw[hp];dsimp only;refine wpAny_bind (wpAny_setField_rec (vs:= #[.ref T,.int i 0,.ref S,.int es.size 0,.int ep 0]) hI 139 λh1 e1 s1=>?_)
 refine wpAny_bind (wpAny_setField_rec (s:={s with heap:=h1}) e1 139 λh2 e2 s2=>?_)
 sleep 36
 sleep 56
 refine wpAny_newObj_type ?_ (by size_fits)
 simp only[raiseNew];refine wpAny_bind (wpAny_handled ?_);rw[show A.in1.handled=none from hh]
 refine wpAny_bind (wpAny_pure (wpAny_throw ?_));refine wpAny_bind (wpAny_isInstance (T:= "StopIteration") (b:=true) (_,130 _ rfl,rfl) isSubtype_stop ?_);exact wpAny_pure (h _ (((s1.trans s2).extBut.push _).push _))
theorem xA (hh:A.handled=none) (I S T:Addr) (ne:S≠I) (nT:T≠I) (es:Array 176) (ep:Nat) (t:SetTable) (ys:List Nat) (hy:ys.Perm (Ip es.size)):
  Walks prog w A I [I,S,T] [I] es.size (λi v=>∃j e,ys[i]?=some j/\es[j]?=some e/\v=e.2)
   (λi h=>h.get? I=some (tZ 457 i S es.size ep)/\fc h S es ep t/\h.get? T=some 156) where
 sub:=λb hb=>by simp at hb;simp[hb]
 frame:=λ_ _ _ st hk=>⟨hk I 139 _ st.1,st.2.1.at λo e=>hk S 139 o e,hk T 139 _ st.2.2⟩
 item:=λi s Q E hi st hQ=>by
  have hl:ys.length=es.size:=by rw[hy.length_eq,J5]
  obtain ⟨j,hj⟩:∃j,ys[i]?=some j:=⟨_,IA (by rw[hl];exact hi)⟩
  have jl:j<es.size:=JB.mp (hy.mem_iff.mp (ID hj));obtain ⟨e,he⟩:∃e,es[j]?=some e:=⟨_,JS jl⟩;refine uJ st.1 st.2.1 st.2.2 hj he λh' e' sb=>?_
  exact hQ _ h' s.toks (j,e,hj,he,rfl) (e',st.2.1.at λo e=>(sb.2 S ne).trans e,(sb.2 T nT).trans st.2.2) λb o hb e=>(sb.2 b λz=>hb (by simp[z])).trans e
 done:=λs Q E st hQ=>by
  have hl:ys.length=es.size:=by rw[hy.length_eq,J5]
  exact uK hh st.1 st.2.1 st.2.2 (Ju 78) λh' xb=>hQ h' s.toks λb o hb e=>xb b o 325 e
 self:=λi s Q E st hQ=>by
  have hT:s.TypeIs 367 "set_iterator" :=(_,st.1,rfl);sleep 18
universe z0
open Sw So
theorem aY.drew {X:Cx} {pins:La} {σ:List (Option V)} {H:Hp} {s:Shared} {d:Drawn} (I:aY X pins σ H s):aY X pins σ H {s with drawn:=d}:=
 ⟨I.ok,I.os,I.bare,I.base,I.loc,I.cell,I.free,I.freeC,I.pin,I.hok,I.len⟩
section
variable {prog:Program} {w:World} {A:Around} {E:KY} {s:Shared}
theorem y6 {r:Addr} {Q:Bool->Shared->Prop} (hT:s.TypeIs (.ref r) "set") (h:Q false s):wpAny 131 A (Builtin.List.listLengthHint (.ref r)) Q E s:=by
 unfold Builtin.List.listLengthHint;refine wpAny_bind (wpAny_specialOf hT PySem.F.slot_set_len.lookup ?_);generalize hid:("set.__len__" :String)=id0
 wp_delta
 rw[show splitId id0=some ("set","__len__") from by subst hid;decide+kernel]
 subst hid;refine wpAny_bind (wpAny_isInstance (T:= "set") (b:=true) hT 326 ?_)
 refine wpAny_ite_split (λhab=>absurd hab 41) 328
 refine wpAny_ite_split 328 (λhab=>absurd 47 hab)
 refine wpAny_bind (wpAny_typeOf hT ?_);exact wpAny_pure h
universe z0
def Ri (xs:Array Nat):Prop:=xs.toList.Pairwise 412
theorem Ri.lt {xs:Array Nat} (h:Ri xs) {i k:Nat} (ik:i<k) (hk:k<xs.size):xs[i]'(Nat.lt_trans ik hk)<xs[k]:=by
 have:=List.pairwise_iff_getElem.mp h i k (by simpa using Nat.lt_trans ik hk) (by simpa using hk) ik
 simpa using this
theorem Ri.le {xs:Array Nat} (h:Ri xs) {i k:Nat} (ik:i<=k) (hk:k<xs.size):xs[i]'(Nat.lt_of_le_of_lt ik hk)<=xs[k]:=by
 rcases Nat.lt_or_eq_of_le ik with q|q
 ·exact Nat.le_of_lt (h.lt q hk)
 ·subst q;exact IH _
theorem nA {xs:Array Nat} (hr:Ri xs) (j:Nat):∀(f lo hi:Nat),hi<=xs.size->lo<=hi->hi-lo<=f->(∀i (h:i<xs.size),i<lo->xs[i]<j)->(∀i (h:i<xs.size),hi<=i->j<=xs[i])->
  SetTable.below.go xs j f lo hi<=xs.size/\(∀i (h:i<xs.size),i<SetTable.below.go xs j f lo hi->xs[i]<j)/\(∀i (h:i<xs.size),SetTable.below.go xs j f lo hi<=i->j<=xs[i])
 |0,lo,hi,h1,h2,h3,h4,h5=>by
  have e:lo=hi:=by lia
  subst e;exact (h1,h4,h5)
 |f+1,lo,hi,h1,h2,h3,h4,h5=>by
  unfold SetTable.below.go
  by_cases c:lo<hi
  ·rw[if_pos c];have hm:(lo+hi)/2<xs.size:=by lia
   have eg:xs.getD ((lo+hi)/2) j=xs[(lo+hi)/2]:=by simp[Array.getD,hm]
   dsimp only;rw[eg]
   by_cases c2:xs[(lo+hi)/2]<j
   ·rw[if_pos c2];exact nA hr j f _ _ h1 78 78 (λi h q=>Nat.lt_of_le_of_lt (hr.le (Nat.le_of_lt_succ q) hm) c2) h5
   ·rw[if_neg c2];exact nA hr j f _ _ 78 78 78 h4 λi h q=>J8 (Nat.not_lt.mp c2) (hr.le q h)
  ·rw[if_neg c];have e:lo=hi:=by lia
   subst e;exact (h1,h4,h5)
theorem sB {xs:Array Nat} (hr:Ri xs) (j:Nat):SetTable.below xs j<=xs.size/\(∀i (h:i<xs.size),i<SetTable.below xs j->xs[i]<j)/\(∀i (h:i<xs.size),SetTable.below xs j<=i->j<=xs[i]):=
 nA hr j xs.size 0 xs.size 249 (JC _) 78 (λi h q=>absurd q (K9 _)) λi h q=>absurd h (Nat.not_lt.mpr q)
theorem xB {t:SetTable} {j:Nat} (hr:Ri t.place) (nl:t.place[SetTable.below t.place j]?≠some j):Ri (t.put j).1.place:=by
 obtain ⟨b1,b2,b3⟩:=sB hr j;show (SetTable.insertAt t.place (SetTable.below t.place j) j).toList.Pairwise 412;generalize SetTable.below t.place j=p at*;have tl:(SetTable.insertAt t.place p j).toList=t.place.toList.take p++j::t.place.toList.drop p:=by
  simp[SetTable.insertAt,Array.toList_extract,List.extract_eq_drop_take];rw[K5 139]
 rw[tl,List.pairwise_append];have hp:(t.place.toList.take p++t.place.toList.drop p).Pairwise (· < ·):=by rw[List.take_append_drop];exact hr
 rw[List.pairwise_append] at hp;have up:∀y∈t.place.toList.drop p,j<y:=λy hy=>by
  obtain ⟨i,hi⟩:=Iw.mp hy;rw[List.getElem?_drop,J6] at hi;obtain ⟨hl,rfl⟩:=KB.mp hi;have:=b3 _ hl (Nat.le_add_right _ _);rcases Nat.lt_or_eq_of_le this with q|q
  ·exact q
  ·rcases Nat.eq_zero_or_pos i with z|z
   ·subst z;exact absurd (show t.place[p]?=some j from hi.trans (congrArg some q.symm)) nl
   ·have hpl:p<t.place.size:=by lia
    have l1:=b3 p hpl 249;have l2:=hr.lt (i:=p) (k:=p+i) 78 hl
    lia
 refine (hp.1,Jm.mpr (up,hp.2.1),λx hx y hy=>?_)
 have xl:x<j:=by
  obtain ⟨i,hi⟩:=Iw.mp hx;rw[List.getElem?_take] at hi
  split at hi
  ·rename_i q;rw[J6] at hi;obtain ⟨hl,rfl⟩:=KB.mp hi;exact b2 _ hl q
  ·cases hi
 rcases IK.mp hy with q|q
 ·rw[q];exact xl
 ·exact Nat.lt_trans xl (up y q)
theorem y8 {t:SetTable} {j:Nat} (h:∀i,t.slot j≠ .live i):t.place[SetTable.below t.place j]?≠some j:=λe=>by
 refine h (SetTable.below t.place j) ?_;unfold SetTable.slot;simp[e]
theorem kD {t:SetTable} {hs:Nat->Int} {h:Int}:∀(f:Nat) (p:SetTable.Probe),(∀d,p.dummy=some d->∀i,t.slot d≠ .live i)->∀{j:Nat} {dm:Option Nat},SetTable.probe.go t hs h f p=some (.empty j dm)->∀i,t.slot (dm.getD j)≠ .live i
 |0,p,hd,j,dm,e=>by cases e
 |f+1,p,hd,j,dm,e=>by
  unfold SetTable.probe.go at e;cases c:t.slot p.j with
  |empty=>
   rw[c] at e;cases e;cases q:p.dummy with
   |none=>intro i;show t.slot p.j≠_;rw[c];exact λz=>nomatch z
   |some d=>exact hd d q
  |dummy=>
   rw[c] at e;refine kD f _ (λd hd'=>?_) e
   have:d=p.j:=by
    unfold SetTable.advance at hd'
    split at hd'<;>(cases hd';rfl)
   subst this;intro i;rw[c];exact λz=>nomatch z
  |live i=>
   rw[c] at e;dsimp only at e
   split at e
   ·cases e
   ·refine kD f _ (λd hd'=>?_) e
    refine hd d ?_;unfold SetTable.advance at hd'
    split at hd'<;>exact hd'
theorem qE {t:SetTable} {h:Int} {j:Nat} {b:Bool} (e:t.freeSlot h=some (j,b)):t.place[SetTable.below t.place j]?≠some j:=by
 unfold SetTable.freeSlot at e;cases q:t.probe (λ_=>h+1) h (t.probeStart h) with
 |none=>rw[q] at e;cases e
 |some m=>
  rw[q] at e;cases m with
  |empty k dm=>
   cases e;exact y8 (kD _ _ (λd hd=>by cases (show (none:Option Nat)=some d from hd)) q)
  |candidate _ _ _=>cases e
theorem qF {t:SetTable} {es:Array 176} {h:Int} {x:Value} (hr:t.plain=true->Ri t.place):(layNew t es h x).2.1.plain=true->Ri (layNew t es h x).2.1.place:=by
 cases e:t.freeSlot h with
 |none=>simp only[layNew,e];intro z;cases z
 |some r=>
  obtain ⟨j,b⟩:=r;simp only[layNew,e];unfold SetTable.orStandIn
  split
  ·intro z;exact xB (hr z) (qE e)
  ·intro z;cases z
theorem uL {mask finger moves:Nat} {led plain:Bool} {hs:Array Int} {t:SetTable} {o:Array Nat} (e:SetTable.laid mask finger moves led plain hs=some (t,o)):Ri t.place:=by
 unfold SetTable.laid at e;obtain ⟨ow,_,e2⟩:=J2.mp e;simp only[pure,Option.some.injEq,Prod.mk.injEq] at e2;rw[<-e2.1];show List.Pairwise 412 _;dsimp only;rw[List.pairwise_map,List.pairwise_filterMap];refine (List.pairwise_lt_range).imp λ{a b} ab x hx y hy=>?_
 obtain ⟨k,_,rfl⟩:=IF.mp hx;obtain ⟨k',_,rfl⟩:=IF.mp hy;exact ab
theorem nB {t:SetTable} {es:Array 176} {n:Nat} (h:(relayAll t es n).2.1.plain=true):Ri (relayAll t es n).2.1.place:=by
 cases e:t.relaid (es.map (·.1)) n with
 |none=>simp only[relayAll,e] at h;cases h
 |some r=>
  obtain ⟨t',order⟩:=r;simp only[relayAll,e] at h⊢
  by_cases c:(coversAll order es.size&&t'.fits (order.filterMap (es[·]?)).size)=true
  ·rw[if_pos c];exact uL e
  ·rw[if_neg c] at h;cases h
noncomputable def lD:Value->Int
 | .int y _=>y
 |_=>default
def Ch (prog:Program) (w:World) (e:Int×Value):Prop:=∃y t,e=((aU prog w).hash (.inl y),.int y t)
def t6 (prog:Program) (w:World) (h:Heap) (a:Addr) (ys:List Int):Prop:=
 ∃o es ep t,h.get? a=some o/\o.ExactSet/\o.data= .set es ep t/\(∀e∈es.toList,Ch prog w e)/\(es.toList.map λe=>lD e.2).Perm ys/\es.size<scanBound/\t.fits es.size=true/\
  (w.params.followText "set-order" =false->t.led=true)/\(t.plain=true->Ri t.place)
theorem vM {prog:Program} {w:World} {y:Int} {t:Tok}:(aU prog w).is (.inl y) (.int y t)=true:=mQ (k:= .inl y) (t,rfl)
theorem nC {prog:Program} {w:World} {l:List 176} (h:∀e∈l,Ch prog w e):ElemsOf 432 l:=λe he=>by
 obtain ⟨y,t,rfl⟩:=h e he;exact ((.inl y,vM,rfl),rfl)
noncomputable def insI (ys:List Int) (y:Int):List Int:=if y∈ys then ys else ys++ [y]
section
variable {prog:Program} {w:World} {A:Around} {E:KY} {s:Shared}
theorem y9 {h:Heap} {a:Addr} {ys:List Int} {es:Array 176} (te:∀e∈es.toList,Ch prog w e) (pm:(es.toList.map λe=>lD e.2).Perm ys) (y:Int):
  (∃e∈es.toList,(aU prog w).is (.inl y) e.2=true)↔y∈ys:=by
 rw[<-pm.mem_iff,IV];constructor
 ·rintro ⟨e,he,q⟩;obtain ⟨z,t,rfl⟩:=te e he;obtain ⟨t',e'⟩:=vF q;cases e';exact (_,he,rfl)
 ·rintro ⟨e,he,q⟩;obtain ⟨z,t,rfl⟩:=te e he;cases q;exact (_,he,vM)
theorem vN {g:Bool->Sem Unit} (hg:∀(b:Bool) (s₁:Shared) (Q':Unit->Shared->Prop),Q' () s₁->wpAny 131 A (g b) Q' E s₁)
  {a:Addr} {o:Obj} {es:Array 176} {ep:Nat} {t:SetTable} (ho:s.heap.get? a=some o) (hex:o.ExactSet) (hd:o.data= .set es ep t)
  {es1:Array 176} {t2:SetTable} {ys:List Int} (te:∀e∈es1.toList,Ch prog w e) (pm:(es1.toList.map λe=>lD e.2).Perm ys)
  (hb1:es1.size<scanBound) (hf2:t2.fits es1.size=true) (ld:w.params.followText "set-order" =false->t2.led=true) (pl:t2.plain=true->Ri t2.place) {wasDummy:Bool} {R:Option Bool->Shared->Prop}
  (h:∀h',Heap.SameBut a s.heap h'->t6 prog w h' a ys->R (some true) 317):
  wpAny 131 A (do
    storeSet a es1 t2
    if (!wasDummy&&t2.tooFull)=true then do
      g (relayAll t2 es1 242).2.2
      storeSet a (relayAll t2 es1 242).1 (relayAll t2 es1 242).2.1
      pure (some true)
     else pure (some true)) R E s:=by
 refine wpAny_bind (wpAny_storeSet_of ho hd ?_ (fits_of_scanBound hb1));obtain ⟨ho1,_⟩:=SetOf_store (knd:=aU prog w) (S':=λk=>decide (∃e∈es1.toList,(aU prog w).is k e.2=true)) ho hex hd (nC te) (λk=>by simp) hb1 hf2
 have hsb1:=Heap.SameBut.update s.heap a (Obj.putSet es1 t2)
 split
 ·have hp:=relayAll_perm t2 es1 242;have hfr:=relayAll_fits t2 es1 242;have hl:=qC t2 es1 242;have hpl:= @nB t2 es1 242;generalize hRl:relayAll t2 es1 242=Rl at hp hfr hl hpl⊢;obtain ⟨es2,t3,gave2⟩:=Rl;dsimp only at hp hfr hl hpl⊢;have te2:∀e∈es2.toList,Ch prog w e:=λe he=>te e (hp.mem_iff.mp he)
  have hsz:es2.size=es1.size:=by rw[<-Im,hp.length_eq,Im]
  have hb2:es2.size<scanBound:=by rw[hsz];exact hb1
  refine wpAny_bind (hg _ _ _ ?_);refine wpAny_bind (wpAny_storeSet_of ho1 rfl ?_ (fits_of_scanBound hb2));obtain ⟨ho2,_⟩:=SetOf_store (knd:=aU prog w) (S':=λk=>decide (∃e∈es2.toList,(aU prog w).is k e.2=true)) ho1 hex rfl (nC te2) (λk=>by simp) hb2 hfr
  exact wpAny_pure (h _ (hsb1.trans (Heap.SameBut.update _ a _)) (_,es2,_,t3,ho2,hex,rfl,te2,(hp.map _).trans pm,hb2,hfr,λb=>hl.trans (ld b),hpl))
 ·exact wpAny_pure (h _ hsb1 (_,es1,_,t2,ho1,hex,rfl,te,pm,hb1,hf2,ld,pl))
theorem Ci {a:Addr} {ys:List Int} {y:Int} {tk:Tok} {Q:Bool->Shared->Prop} (hS:t6 prog w s.heap a ys) (room:ys.length+1<scanBound)
  (h:∀h',Heap.SameBut a s.heap h'->t6 prog w h' a (insI ys y)->∀b,Q b 317):
  wpAny 131 A (setAddHashed a (.int y tk) 324) Q E s:=by
 obtain ⟨o,es,ep,t,ho,hex,hd,te,pm,hb,hf,ld,pl⟩:=hS;have hel:=nC te;have hsz:es.size=ys.length:=by rw[<-Im,<-I0 (λe:Int×Value=>lD e.2),pm.length_eq]
 unfold setAddHashed setAddHashedIn;refine wpAny_holding (wpAny_bind (wpAny_setState_of ho hd hf ?_));dsimp only;rw[byScan_of (knd:=aU prog w) (x:= .int y tk) rfl hb hel];simp only[↓reduceIte];unfold setAddByScan;sleep 136;refine wpAny_bind (wpAny_rule ?_);refine wpAny_bind (wpAny_setScan_of (knd:=aU prog w) (k:= .inl y) vM ho hd hf hel ?_);cases hr:List.findIdx? (λe=>(aU prog w).is (.inl y) e.2) es.toList with
 |some j=>
  dsimp only;obtain ⟨hj,hpj,_⟩:=List.findIdx?_eq_some_iff_getElem.mp hr;have hm:y∈ys:=(y9 (h:=s.heap) (a:=a) te pm y).mp (es.toList[j],IL hj,hpj);refine wpAny_pure 250;have e:s={s with heap:=s.heap}:=by cases s;rfl
  rw[e];refine h s.heap (Heap.SameBut.refl a s.heap) ?_ _;rw[insI,if_pos hm];exact (o,es,ep,t,ho,hex,hd,te,pm,hb,hf,ld,pl)
 |none=>
  dsimp only;have hm:y∉ys:=λhm=>by
   obtain ⟨e,he,q⟩:=(y9 (h:=s.heap) (a:=a) te pm y).mpr hm;have:=List.findIdx?_eq_none_iff.mp hr e he;rw[q] at this;cases this
  have hgw:∀(b:Bool) {s₁:Shared} {Q':Unit->Shared->Prop},Q' () s₁->wpAny 131 A (match b with|true=>rule "set.scan.the-table-gave-way" |false=>pure ()) Q' E s₁:=
   λb s₁ Q' hq=>by cases b<;>first|exact wpAny_pure hq|exact wpAny_rule hq
  have hperm:=layNew_perm t es 324 (.int y tk);have hfits:=layNew_fits t es 324 (.int y tk);have hled:=uI t es 324 (.int y tk);have hri:=qF (es:=es) (h:=(aU prog w).hash (.inl y)) (x:= .int y tk) pl;generalize hL:layNew t es 324 (.int y tk)=L at hperm hfits hled hri⊢;obtain ⟨es1,t1,wasDummy,gave⟩:=L;dsimp only at hperm hfits hled hri⊢;rw[Array.toList_push] at hperm;have te1:∀e∈es1.toList,Ch prog w e:=λe he=>by
   rcases IS.mp (hperm.mem_iff.mp he) with q|q
   ·exact te e q
   ·rw[IM.mp q];exact (y,tk,rfl)
  have pm1:(es1.toList.map λe=>lD e.2).Perm (insI ys y):=by
   rw[insI,if_neg hm];refine (hperm.map _).trans ?_;rw[Il];exact pm.append_right _
  have hb1':es1.size<scanBound:=by
   rw[<-Im,hperm.length_eq,IB,Im,hsz];exact room
  refine wpAny_bind (hgw _ ?_)
  split
  ·sleep 136;rw[hashByValue_scannable 8 (x:= .int y tk) rfl];sleep 125;simp only[show plainKind (Value.int y tk)=true from rfl,if_true]
   refine vN ?_ ho hex hd te1 pm1 hb1' hfits ?_ hri ?_
   ·intro b s₁ Q' hq;cases b<;>first|exact wpAny_pure hq|exact wpAny_rule hq
   ·exact λb=>hled.trans (ld b)
   ·intro h' hsb hS';dsimp only;exact wpAny_pure (h h' hsb hS' _)
  ·rename_i np;refine wpAny_bind 250;simp only[↓reduceIte];refine vN ?_ ho hex hd te1 pm1 hb1' hfits ?_ hri ?_
   ·intro b s₁ Q' hq;cases b<;>first|exact wpAny_pure hq|exact wpAny_rule hq
   ·exact λb=>hled.trans (ld b)
   ·intro h' hsb hS';dsimp only;exact wpAny_pure (h h' hsb hS' _)
universe z0
noncomputable def rC (xs:List Int) (i:Nat):List Int:=(xs.take i).foldl insI []
theorem sC {xs:List Int} {i:Nat} {y:Int} (h:xs[i]?=some y):rC xs 301=insI (rC xs i) y:=by
 unfold rC;rw[Jx,h,Option.toList_some,List.foldl_append]
 rfl
theorem sD (ys:List Int) (y:Int):(insI ys y).length<=ys.length+1:=by
 unfold insI
 split
 ·lia
 ·simp
theorem qG (xs:List Int):∀i,(rC xs i).length<=i
 |0=>by simp[rC]
 |i+1=>by
  have ih:=qG xs i;cases h:xs[i]? with
  |none=>
   have:xs.take 301=xs.take i:=by rw[Jx,h];simp
   unfold rC at ih⊢;rw[this]
   lia
  |some y=>
   rw[sC h];have:=sD (rC xs i) y
   lia
theorem iy {ys:List Int} (y:Int) (h:ys.Nodup):(insI ys y).Nodup:=by
 unfold insI
 split
 ·exact h
 ·rename_i n;exact Jy.mpr (h,by simp,λa ha b hb e=>n (by rw[IM] at hb;rw[<-hb,<-e];exact ha))
theorem za {ys:List Int} {y z:Int}:z∈insI ys y↔z∈ys∨z=y:=by
 unfold insI
 split
 ·rename_i h;exact (.inl,λh'=>h'.elim id λe=>e▸h)
 ·simp
theorem hU:∀(xs ys:List Int),ys.Nodup->(xs.foldl insI ys).Nodup
 | [],_,h=>h
 |x::xs,ys,h=>hU xs _ (iy x h)
theorem iX {z:Int}:∀(xs ys:List Int),z∈xs.foldl insI ys↔z∈ys∨z∈xs
 | [],ys=>by simp
 |x::xs,ys=>by
  rw[List.foldl_cons,iX xs,za,IK,or_assoc]
section
variable {prog:Program} {w:World} {A:Around} {R:Result->Shared->Prop} {I:Addr} {fp wr:Lc} {G:Array GenState->Array GenState->Prop} {n:Nat} {P:Nat->Value->Prop} {St:Nat->Shared->Prop}
theorem xC (W:WalksS prog w A.in1 I fp wr G n P St) (S:Addr) (out:S∉fp) (xs:List Int) (hv:∀i v,P i v->∃y t,xs[i]?=some y/\v= .int y t)
  (hn:n<=138) (hb:n+1<scanBound):∀(m i:Nat) (s:Shared),n-i=m->i<=n->St i s->t6 prog w s.heap S (rC xs i)->
   (∀s',Moved (S::wr) G s s'->t6 prog w s'.heap S (rC xs n)->R (.ok (.ret .none)) s')->codeAny 131 A (.builtin "set.update.loop" ⟨[.ref S,.ref I],[]⟩) R s:=by
 have nw:S∉wr:=λh=>out (W.sub _ h)
 have up:∀b∈wr,b∈S::wr:=λb hb=> .tail _ hb
 have stay:∀{s1 s2:Shared} {ys:List Int},t6 prog w s1.heap S ys->Moved wr G s1 s2->t6 prog w s2.heap S ys:=by
  rintro s1 s2 ys ⟨o,es,ep,t,ho,z⟩ mv;exact (o,es,ep,t,mv.heap S _ nw ho,z)
 intro m
 induction m with
 |zero=>
  intro i s hm hi st hS fin;have e:i=n:=by lia
  subst e;sleep 19;refine W.done s _ _ st λs' mv=>?_
  exact wpAny_pure (fin s' (mv.mono up) (stay hS mv))
 |succ m ih=>
  intro i s hm hi st hS fin;have lt:i<n:=by lia
  sleep 19;refine W.item i s _ _ lt st λv s' pv st' mv=>?_
  obtain ⟨y,tk,ey,rfl⟩:=hv i v pv;show wpAny _ _ (holding [.int y tk] (setAdd S (.int y tk))>>=_) _ _ s';sleep 55;apply wpAny_holding;unfold setAdd;apply wpAny_holding;sleep 55;refine (aU prog w).pyHash (k:= .inl y) vM ?_;have rm:(rC xs i).length+1<scanBound:=by
   have:=qG xs i
   lia
  refine Ci (s:={s' with toks:=s'.toks+1}) (show t6 prog w s'.heap S (rC xs i) from stay hS mv) rm λh' same S2 b=>?_
  rw[<-sC ey] at S2;sleep 132;refine (plainId_quiet F.plain_set_update_loop _,ih 301 _ 78 lt (W.frame _ s' _ _ st' (Jz _) λb hb o e=>?_) S2 λs'' mv2 S4=>?_)
  ·exact (same.2 b λz=>out (z▸hb)).trans e
  ·exact fin s'' (Moved.trans W.gtrans ((mv.mono up).then_heap (Jz _) λb o hb e=>(same.2 b λz=>hb (z▸Iq)).trans e) mv2) S4
universe z0
section
variable {prog:Program} {w:World} {A:Around} {E:KY} {s:Shared}
set_option maxHeartbeats 3200000 in
theorem pj {l:Addr} {items:Array Value} {xs:List Int} {Q:KY} (hh:A.handled=none) (hl:s.heap.IsList l items) (hv:∀(i:Nat) (v:Value),items[i]?=some v->∃(y:Int) (t:Tok),xs[i]?=some y/\v=Value.int y t)
  (hn:items.size=138) (hb:items.size+1<scanBound)
  (fin:∀(h':Heap) (tk:Nat),t6 prog w h' 52 (rC xs items.size)->(∀b o,b<52->s.heap.get? b=some o->h'.get? b=some o)->Q 267 236):
  wpAny 131 A (call 455 [.ref l]) Q E s:=by
 obtain ⟨c0,tl0,mro⟩:=F.called_set.mro;have made:=F.called_set.made;have subt:=F.called_set.sub;apply wpAny_call;apply codeAny_of_tree;show wpAny _ _ (callAny 455 _) _ _ _;sleep 132;refine (Code.quiet_builtin _ 47,codeAny_builtin F.entry_type_call ?_)
 rw[Around.under_plain (weight_type_call_type "set" [.ref l] []) rfl];have nt:=F.called_set.notType;have cc:=F.called_set.canCreate;have tc:=F.typeCall_set_1 271
 repeat any_goals first|assumption|wp_step
 refine codeAny_mono (oC 271 (E:=E) (Q₁:=λv s1=>∃led:Bool,(w.params.followText "set-order" =false->led=true)/\v= .ref s.heap.objs.size/\s1=293) λled eld=>⟨led,eld,rfl,rfl⟩) λr s1 hr=>?_
 cases r with
 |error e=>exact hr
 |ok fl=>
  cases fl with
  |ret v=>
   obtain ⟨led,eld,rfl,rfl⟩:=hr;have e0:(s.heap.push 114).get? 52=some {cls:= .type "set",dict:=none,data:= .set #[] 0 493}:=130 _ rfl;have tS:Shared.TypeIs 293 267 "set" :=(_,e0,rfl)
   have lk:=F.called_set.init.lookup;have bd:=F.called_set.init.bind 267
   repeat any_goals first|assumption|wp_step
   refine codeAny_mono (codeAny_call_builtin (R:=wants (λr s2=>r= .none/\∃h' tk,s2=236/\t6 prog w h' 52 (rC xs items.size)/\∀b o,b<52->s.heap.get? b=some o->h'.get? b=some o) E) F.called_set.init.plain F.entry_set_init (check_set_init_1 tS ?_)) λr2 s2 hr2=>?_
   ·obtain ⟨⟨lc,ld,lx,ls⟩,hol,hcl,nl,hdl⟩:=hl;simp only at hcl hdl;subst hcl hdl;have el:(s.heap.push 114).get? l=some {cls:= .type "list",dict:=ld,data:= .seq items nl,slots:=ls}:=116 _ hol;have n1:=F.sub_list_set;have n2:=F.sub_list_frozenset;have n3:(Value.type "list" ==Value.type "dict")=false:=by decide
    have il:(s.heap.push 114).IsList l items:=(_,el,rfl,nl,rfl);unfold Builtin.«set.__init__» noKeywords Builtin.Frozenset.updateFrom;generalize hit:pyIter=PI
    wp_walk
    subst hit;apply wpAny_pyIter_list il;sleep 55;apply wpAny_runValue;have ll:l<s.heap.objs.size:=Heap.lt_size hol;have h3:A.in1.in1.in1.handled=none:=by simpa using hh
    have nI:l≠(s.heap.push 114).objs.size:=by
     rw[Heap.size_push];exact IQ (JX ll)
    have out:s.heap.objs.size∉ [(s.heap.push 114).objs.size,l]:=by
     sleep 114;exact (IQ (Nat.lt_succ_self _),Jp ll,Iz)
    refine xC ((Walks.list h3 _ l nI items).toS) 52 out xs hv (Nat.le_of_eq hn) hb items.size 0 _ rfl (JC _) (296,il.push _) ?_ ?_
    ·have e1:((s.heap.push 114).push {cls:= .type "list_iterator",data:= .fields #[.ref l,.int 0 0]}).get? 52=some {cls:= .type "set",dict:=none,data:= .set #[] 0 493}:=
      116 _ e0
     exact (_,#[],0,_,e1,(rfl,rfl,rfl),rfl,(λe he=>by simp at he),by simp[rC],by decide,rfl,eld,λ_=>(List.Pairwise.nil:List.Pairwise 412 ([]:List Nat)))
    ·intro s' mv S2;sleep 54;show wpAny _ _ _ _ _ _;sleep 132;show wpAny _ _ (ret Value.none) _ _ _;sleep 132;refine (rfl,h',tk',rfl,S2,λb o hb' e=>?_)
     refine mv.heap b o ?_ (116 _ 485);sleep 114;exact (IQ hb',IQ (JX hb'),Iz)
   ·cases r2 with
    |error e=>exact hr2
    |ok fl2=>
     cases fl2 with
     |ret r=>
      obtain ⟨rfl,h',tk,rfl,S2,kp⟩:=hr2
      repeat any_goals first|assumption|wp_step
      exact fin _ _ S2 kp
     |_=>exact hr2.elim
  |_=>exact hr.elim
universe z0
theorem sE:∀{acc:Ld} {ks:List Int},acc.length=ks.length->(∀(j:Nat) (v:Value),acc[j]?=some v->∃y t,ks[j]?=some y/\v= .int y t)->IntsAre acc ks
 | [],[],_,_=> .nil
 |v::acc,k::ks,hl,h=>by
  obtain ⟨y,t,e,rfl⟩:=h 0 v rfl;simp at e;subst e;exact .cons _ _ (sE (by simpa using hl) λj u hu=>h (j+1) u (by simpa using hu))
 | [],_::_,hl,_=>by simp at hl
 |_::_,[],hl,_=>by simp at hl
section
variable {prog:Program} {w:World} {A:Around} {E:KY} {s:Shared}
theorem jy {S:Addr} {es:Array 176} {ep i slot:Nat} {t:SetTable} {Q:Option (Value×Nat)->Shared->Prop} (hS:fc s.heap S es ep t) (hb:w.params.followText "set-order" =false) (pl:t.plain=true) (ld:t.led=true)
  (h:Q (match es[SetTable.below t.place slot]?,t.place[SetTable.below t.place slot]? with|some (_,x),some j=>some (x,j+1)|_,_=>none) s):wpAny (model prog w) A (setNext S slot i ep) Q E s:=by
 unfold setNext setsByText;refine wpAny_bind (fN hS ?_);sleep 45;rw[show 262=false from hb]
 sleep 124;have d1:358=false:=by rw[pl];rfl
 have d2:465=false:=by rw[ld];rfl
 show wpAny _ _ (if 358=true then _ else _) _ _ s
 rw[d1];sleep 124;sleep 136;show wpAny _ _ (if 465=true then _ else _) _ _ s
 rw[d2];sleep 124;sleep 125;exact wpAny_pure h
theorem below_at {xs:Array Nat} (hr:Ri xs) {i slot:Nat} (hi:i<=xs.size) (z1:i=0->slot=0) (z2:∀k,i=k+1->∃j,xs[k]?=some j/\slot=j+1):SetTable.below xs slot=i:=by
 obtain ⟨b1,b2,b3⟩:=sB hr slot;rcases Nat.eq_zero_or_pos i with e|e
 ·cases z1 e;subst e;rcases Nat.eq_zero_or_pos (SetTable.below xs 0) with q|q
  ·exact q
  ·exact absurd (b2 0 78 q) (K9 _)
 ·obtain ⟨k,rfl⟩:∃k,i=k+1:=⟨i-1,by lia⟩
  obtain ⟨j,hj,rfl⟩:=z2 k rfl;obtain ⟨hk,rfl⟩:=KB.mp hj;have l1:¬SetTable.below xs (xs[k]+1)<=k:=λq=>by
   have:=b3 k hk q
   lia
  rcases Nat.lt_or_ge (k+1) (SetTable.below xs (xs[k]+1)) with q|q
  ·have h1:k+1<xs.size:=by lia
   have h2:=b2 291 h1 q;have h3:=hr.lt (i:=k) (k:=k+1) 78 h1
   lia
  ·lia
theorem uM (hh:A.handled=none) (hb:w.params.followText "set-order" =false) (I S:Addr) (ne:S≠I) (es:Array 176) (ep:Nat) (t:SetTable) (pl:t.plain=true) (ld:t.led=true) (ft:t.fits es.size=true) (hr:Ri t.place):
  Walks prog w A I [I,S] [I] es.size (λi v=>∃e,es.toList[i]?=some e/\v=e.2) (λi h=>(∃slot:Nat,(i=0->slot=0)/\(i≠0->∃j,t.place[i-1]?=some j/\slot=j+1)/\h.get? I=some 329)/\fc h S es ep t) where
 sub:=λb hb=>by simp at hb;simp[hb]
 frame:=λ_ _ _ st hk=>⟨let ⟨sl,a,b,c⟩:=st.1;⟨sl,a,b,hk I (by simp) _ c⟩,st.2.at λo e=>hk S (by simp) o e⟩
 item:=λi s Q E hi st hQ=>by
  sleep 74;have pz:t.place.size=es.size:=by
   sleep 104;exact ft.1
  have bi:SetTable.below t.place slot=i:=below_at hr 78 z1 λk hk=>by
   have:=z2 78
   rwa [show i-1=k by lia] at this
  obtain ⟨x,hx⟩:∃x,es[i]?=some x:=⟨_,JS hi⟩;obtain ⟨j,hj⟩:∃j,t.place[i]?=some j:=⟨_,JS 78⟩
  refine kA (slot:=slot) (nx:=j+1) (x:=x.2) hI hS (λA E Q q=>jy hS hb pl ld ?_) λh' e' sb=>?_
  ·rw[bi,hx,hj];exact q
  ·exact hQ _ h' s.toks (_,by rw[J6];exact hx,rfl) ((j+1,λz=>78,λ_=>(j,hj,rfl),e'),hS.at λo e=>(sb.2 S ne).trans e) λb o hb e=>(sb.2 b λz=>hb (by simp[z])).trans e
 done:=λs Q E st hQ=>by
  sleep 74;have pz:t.place.size=es.size:=by
   sleep 104;exact ft.1
  have bi:SetTable.below t.place slot=es.size:=below_at hr 78 z1 λk hk=>by
   have:=z2 78
   rwa [show es.size-1=k by lia] at this
  refine kB (slot:=slot) hh hI hS (λA E Q q=>jy hS hb pl ld ?_) λh' xb=>hQ h' s.toks λb o hb e=>xb b o 325 e
  rw[bi,K4 249];exact q
 self:=λi s Q E st hQ=>by
  sleep 74;sleep 86;sleep 18
universe z0
theorem j7 {prog:Program} {w:World} {es:List 176} (te:∀e∈es,Ch prog w e) {acc:Ld} (hl:acc.length=es.length) (h:∀(j:Nat) (v:Value),acc[j]?=some v->∃e,es[j]?=some e/\v=e.2):IntsAre acc (es.map λe=>lD e.2):=
 sE (by rw[hl,I0]) λj v hv=>by
  obtain ⟨e,he,rfl⟩:=h j v hv;obtain ⟨y,t,rfl⟩:=te e (ID he);exact (y,t,by rw[IG,he];rfl,rfl)
section
variable {prog:Program} {w:World} {A:Around} {E:KY} {s:Shared}
theorem AW {a:Addr} {ys:List Int} {Q:KY} (hh:A.handled=none) (hS:t6 prog w s.heap a ys)
  (h:∀(s1:Shared) (I:Addr) (fp:Lc) (n:Nat) (P:Nat->Value->Prop) (St:Nat->Heap->Prop),Walks prog w A I fp [I] n P St->St 0 s1.heap->52<=I->I∈fp->(∀b∈fp,b=a∨s.heap.objs.size<=b)->n<=sizeLine->
   (∀b o,s.heap.get? b=some o->s1.heap.get? b=some o)->(∃d,s1={s with heap:=s1.heap,drawn:=d})->(∀acc:Array Value,PySem.ItemsOf P acc n->∃zs:List Int,zs.Perm ys/\IntsAre acc.toList zs)->Q 367 s1):
  wpAny 131 A (pyIter 366) Q E s:=by
 obtain ⟨o,es,ep,t,ho,hex,hd,te,pm,hb,hf,ld,pl⟩:=hS;have SA:fc s.heap a es ep t:=(o,ho,hex,hd,hf);have al:=Heap.lt_size ho;have nz:es.size<=sizeLine:=fits_of_scanBound hb;refine yZ SA nz 217 λc zs d hz=>?_
 ·cases hb':w.params.followText "set-order" with
  |true=>
   refine h _ 52 _ _ _ _ (xz hh hb' 52 a (IQ al) es ep t) (130 _ rfl,SA.at λo e=>116 _ e) 249 139 139 nz (λb o e=>116 _ e) (s.drawn,rfl) λacc ha=>?_
   have pp:=ny (w.params.setOrder a ep) es;refine (_,(pp.map λe=>lD e.2).trans pm,j7 (λe he=>te e (pp.mem_iff.mp he)) (by rw[Im,ha.1,pp.length_eq,Im]) λj v hv=>ha.2 j v 384)
  |false=>
   cases hpl:t.plain with
   |false=>
    have few:es.size<=1:=by
     rcases Nat.lt_or_ge 1 es.size with q|q
     ·rw[hb',hpl] at c;simp at c
      lia
     ·exact q
    refine h _ 52 _ _ _ _ (y4 hh hb' 52 a (IQ al) es ep t few (ld hb') hf) ((0,λ_=>rfl,λz=>absurd rfl z,130 _ rfl),SA.at λo e=>116 _ e) 249 139 139 nz (λb o e=>116 _ e) (s.drawn,rfl) λacc ha=>?_
    exact (_,pm,j7 te (by rw[Im,ha.1,Im]) λj v hv=>ha.2 j v 384)
   |true=>
    refine h _ 52 _ _ _ _ (uM hh hb' 52 a (IQ al) es ep t hpl (ld hb') hf (pl hpl)) ((0,λ_=>rfl,λz=>absurd rfl z,130 _ rfl),SA.at λo e=>116 _ e) 249 139 139 nz (λb o e=>116 _ e) (s.drawn,rfl) λacc ha=>?_
    exact (_,pm,j7 te (by rw[Im,ha.1,Im]) λj v hv=>ha.2 j v 384)
 ·have e1:(s.heap.push {cls:= .type "tuple",data:= .seq (zs.map λ(i:Nat)=>rawInt i).toArray}).objs.size=52+1:=Heap.size_push ..
  refine h _ (52+1) _ _ _ _ (xA hh (52+1) a 52 (IQ (JX al)) (IQ (Nat.lt_succ_self _)) es ep t zs hz)
   ⟨(show ((s.heap.push _).push (tZ 267 0 a es.size ep)).get? (52+1)=_ from e1▸Heap.get?_push_size (s.heap.push {cls:= .type "tuple",data:= .seq (zs.map λ(i:Nat)=>rawInt i).toArray}) (o:=tZ 267 0 a es.size ep) rfl),SA.at λo e=>116 _ 485,116 _ (130 _ rfl)⟩ (Jz _) 139 (λb hb=>by
    sleep 117;rcases hb with rfl|rfl|rfl
    ·exact .inr (Jz _)
    ·exact .inl rfl
    ·exact .inr 249) nz (λb o e=>116 _ 485) (d,rfl) λacc ha=>?_
  have hl:zs.length=es.size:=by rw[hz.length_eq,J5]
  let es':List (Int×Value):=zs.map λj=>es.getD j (0,.none)
  have pp:es'.Perm es.toList:=by
   refine (hz.map _).trans ?_;have:(Ip es.size).map (λj=>es.getD j (0,Value.none))=es.toList:=by
    apply List.ext_getElem?;intro i;rw[IG,J6 (xs:=es)];rcases Nat.lt_or_ge i es.size with q|q
    ·rw[List.getElem?_range q,JS q];simp[Array.getD,q]
    ·rw[Ju (by simpa using q),K4 q]
     rfl
   rw[this]
  refine (_,(pp.map λe=>lD e.2).trans pm,j7 (λe he=>te e (pp.mem_iff.mp he)) (by rw[Im,ha.1,pp.length_eq,Im]) λj v hv=>?_)
  obtain ⟨k,e,e2,e3,e4⟩:=ha.2 j v 384
  refine (e,?_,e4);show (zs.map _)[j]?=_;rw[IG,e2];simp[Array.getD_eq_getD_getElem?,e3]
theorem xD {a L:Addr} {c:Nat} {ys:List Int} (hh:A.handled=none) (hS:t6 prog w s.heap a ys) (hL:s.heap.get? L=some {cls:= .type "list",data:= .seq #[] c}) (ne:L≠a) {RR:Result->Shared->Prop}
  (hR:∀(h':Heap) (tk:Nat) (d:Drawn) (acc:Array Value) (c:Nat) (zs:List Int),(∀b o,b≠L->s.heap.get? b=some o->h'.get? b=some o)->h'.get? L=some 225->zs.Perm ys->IntsAre acc.toList zs->RR (.ok (.ret (.ref L))) 428):
  wpAny 131 A.in1 (Builtin.List.listExtendWith (.ref L) 366 (.ref L))
   (λfin s'=>match fin with| .done f=>RR (.ok f) s'| .again c'=>c'.quiet=true/\codeAny (model prog w) A c' RR s') (λe s'=>RR (.error e) s') s:=by
 have Ll:L<s.heap.objs.size:=Heap.lt_size hL;have tyS:∀{s':Shared},t6 prog w s'.heap a ys->s'.TypeIs 366 "set" :=λ⟨o,_,_,_,ho,hex,_⟩=>⟨o,ho,hex.1⟩
 unfold Builtin.List.listExtendWith;refine wpAny_bind (wpAny_typeOf (T:= "set") (tyS hS) ?_);have h1:Builtin.List.listSameRef (.ref L) 366=false:=by simp[Builtin.List.listSameRef,ne]
 simp only[h1,show (Value.type "set" ==Value.type "list")=false by decide,show (Value.type "set" ==Value.type "tuple")=false by decide,KF,Jn,if_false]
 refine wpAny_bind (AW (A:=A.in1) hh hS λs1 I fp n P St W st hI hIf hfp hn kp hd out=>?_)
 have Lf:L∉fp:=λz=>(hfp _ z).elim ne λq=>absurd Ll (Nat.not_lt.mpr q)
 obtain ⟨d,es1⟩:=hd;have hL1:=kp _ _ hL;have hS2:t6 prog w s1.heap a ys:=let ⟨o,es,ep,t,ho,r⟩:=hS;⟨o,es,ep,t,kp _ _ ho,r⟩;refine wpAny_bind (wpAny_holding (y6 (tyS hS2) ?_));have key:∀(hp:Heap) (c₁ tk:Nat),St 0 hp->(∀b o,b≠L->s1.heap.get? b=some o->hp.get? b=some o)->hp.get? L=some {cls:= .type "list",data:= .seq #[] c₁}->
   codeAny 131 A (.builtin "list.extend.loop" ⟨[.ref L,.ref I,.ref L],[]⟩) RR {s1 with heap:=hp,toks:=tk}:=by
  intro hp c₁ tk hst hk hLp;refine codeAny_extend_loopS W.toS hn L Lf (.ref L) n 0 _ #[] c₁ rfl (JC _) hst hLp (ItemsOf.nil _) λs' acc' c' hm hS' hacc=>?_
  obtain ⟨zs,z1,z2⟩:=out acc' hacc;have e':=Moved.eq_with hm;rw[es1] at e';rw[e'];refine hR s'.heap s'.toks d acc' c' zs (λb o nb e=>hm.heap b o (λhmem=>?_) (hk b o nb (kp b o e))) hS' z1 z2
  rcases IK.mp hmem with q|q
  ·exact nb q
  ·have bl:=Heap.lt_size e;rw[IM.mp q] at bl;exact absurd bl (Nat.not_lt.mpr hI)
 refine wpAny_ite_split 328 (λ_=>wpAny_pure (plainId_quiet PySem.F.plain_extend_loop _,key s1.heap c s1.toks st (λb o _ e=>e) hL1))
 refine wpAny_bind (wpAny_rule ?_);sleep 136;show wpAny _ _ (updateSeq L (·.push .none)>>=λ_=>updateSeq L (·.pop)) _ _ _
 refine wpAny_bind (wpAny_updateSeq hL1 rfl ?_);have hS₂:=Heap.get?_update_self (Obj.mapSeq (·.push Value.none)) hL1 rfl;refine wpAny_updateSeq (hz:=by seq_fits) hS₂ rfl ?_
 have hS₃:=Heap.get?_update_self (Obj.mapSeq (·.pop)) hS₂ rfl;refine wpAny_pure (plainId_quiet PySem.F.plain_extend_loop _,key _ _ _ (W.frame _ _ _ st λb hb o e=>?_) (λb o nb e=>?_) hS₃)
 ·have nb:b≠L:=λz=>Lf (z▸hb)
  exact (Heap.get?_update_other _ _ (Ne.symm nb)).trans ((Heap.get?_update_other _ _ (Ne.symm nb)).trans e)
 ·exact (Heap.get?_update_other _ _ (Ne.symm nb)).trans ((Heap.get?_update_other _ _ (Ne.symm nb)).trans e)
theorem uN {a:Addr} {ys:List Int} {R:Ld->Shared->Prop} (hh:A.handled=none) (hS:t6 prog w s.heap a ys)
  (h:∀(h':Heap) (tk:Nat) (d:Drawn) (acc:Ld) (zs:List Int),52<h'.objs.size->336->zs.Perm ys->IntsAre acc zs->R acc 428):
  wpAny 131 A (collect 366) R E s:=by
 have al:a<s.heap.objs.size:=let ⟨o,_,_,_,ho,_⟩:=hS;Heap.lt_size ho;unfold collect;refine wpAny_bind (wpAny_runValue (codeAny_builtin entry_proto_collect' ?_));rw[Around.under_plainId PySem.F.plain_proto_collect _];show wpAny _ A.in1 (newList []>>=λl=>again (.builtin "list.__iadd__" ⟨[l,.ref a],[]⟩)) _ _ s
 refine wpAny_bind (wpAny_newObj_type (wpAny_pure (plainId_quiet KG _,codeAny_builtin entry_list_iadd' ?_)));rw[Around.under_plainId KG _];have fresh:(s.heap.push 260).get? 52=some {cls:= .type "list",data:= .seq #[]}:=130 _ rfl;have hS1:t6 prog w (s.heap.push 260) a ys:=let ⟨o,es,ep,t,ho,r⟩:=hS;⟨o,es,ep,t,Heap.get?_push_of_some _ ho,r⟩;show wpAny _ A.in1 (Builtin.List.listExtendWith (.ref s.heap.objs.size) (.ref a) (.ref s.heap.objs.size)) _ _ _;have key:=xD (A:=A) (s:={s with heap:=s.heap.push {cls:= .type "list",data:= .seq ([]:Ld).toArray}})
  (RR:=λ(q:Result) (s':Shared)=>∃(h':Heap) (tk:Nat) (d:Drawn) (acc:Array Value) (c:Nat) (zs:List Int),q= .ok (.ret 267)/\s'=428/\(∀b o,s.heap.get? b=some o->h'.get? b=some o)/\h'.get? 52=some 225/\zs.Perm ys/\IntsAre acc.toList zs)
  hh hS1 fresh (Jp al) (λh' tk d acc c zs hk hS' z1 z2=>⟨h',tk,d,acc,c,zs,rfl,rfl,λb o e=>hk b o (IQ 241) 485,hS',z1,z2⟩)
 refine wpAny_mono key (λf s' x=>?_) λe s' x=>?_
 ·cases f with
  |done f=>
   obtain ⟨h',tk,d,acc,c,zs,e,rfl,hk,hS',z1,z2⟩:=x;cases e;sleep 99;exact wpAny_bind (wpAny_load hS' (wpAny_pure (h h' tk d acc.toList zs (Heap.lt_size hS') hk z1 z2)))
  |again c₁=>
   refine (x.1,codeAny_mono x.2 λq s₂ y=>?_)
   obtain ⟨h',tk,d,acc,c,zs,rfl,rfl,hk,hS',z1,z2⟩:=y;sleep 99;exact wpAny_bind (wpAny_load hS' (wpAny_pure (h h' tk d acc.toList zs (Heap.lt_size hS') hk z1 z2)))
 ·obtain ⟨_,_,_,_,_,_,e',_⟩:=x;cases e'
universe z0
def xE (K:IE) (te:TE):TE:=λσ H Q=>te σ H λx H1=>∃(a:Addr) (xs:List Int),x= .ref a/\aD K H1 a (xs.map V.int)/\xs.length<4000/\(xs.foldl insI []).length<64/\
 ∀(p:Addr) (ys:List Int),H1 p=none->ys.Nodup->(∀z,z∈ys↔z∈xs)->ys.Pairwise (· <= ·)->Q 181 (aK H1 p (.lst (ys.map V.int)))
theorem nD:∀{xs:List Int} {us:Ld},bN (xs.map V.int) us->∀(i:Nat) (v:Value),us[i]?=some v->∃(y:Int) (t:Tok),xs[i]?=some y/\v=Value.int y t
 | [],_,.nil,i,v,h=>by simp at h
 |x::xs,_,.cons r t,0,v,h=>by
  simp at h;subst h;obtain ⟨k,rfl⟩:=r;exact (x,k,rfl,rfl)
 |x::xs,_,.cons r t,i+1,v,h=>nD t i v 247
section
variable {X:Cx} {e:Expr} {te:TE} {p1 p2 pos pos2:Pos}
theorem sF (hc:X.calm=true) (g1:Gl X "sorted") (m1:X.mg "sorted" =none) (g2:Gl X "set") (m2:X.mg "set" =none) (b1:bootBuiltins "sorted" =some (.builtin "sorted")) (b2:bootBuiltins "set" =some 455) (he:PE X e te)
  (hs:starEach [e] X.env= [407]:=by rfl):
  PE X (.Call (.Name "sorted" p1) [.Call (.Name "set" p2) [e] [] pos2] [] pos) (xE X.K te):=by
 sleep 47
 sleep 20
 refine J9 ?_ hs rfl;rw[hs];refine Calls.spliced_cons (x:=eval e X.env) (rest:= []) (cx 379 λv s1 (x,H1,I1,r1,a,xs,ex,hq,few,fw,q)=>?_)
 subst ex;cases r1;sleep 71;have sz:its.toArray.size=xs.length:=by rw[IY,<-rv.length,I0]
 sleep 101;refine pj (xs:=xs) 253 hli (λi v hv=>nD rv i v 362) sz (by rw[sz];show 138+1<4096;lia) λh' tk S2 kp=>?_
 apply Calls.spliced_nil;have dl:(rC xs its.toArray.size).length<=its.toArray.size:=qG xs _;have dz:rC xs its.toArray.size=xs.foldl insI []:=by unfold rC;rw[sz,Ir]
 have I2:=I1.kept (t':=tk) (h':=h') (λb o e=>kp b o 241 e)
 refine Calls.call_function_entry kind_sorted plain_sorted entry_sorted (args_sorted1 _) ?_;unfold Builtin.«sorted»;refine wpAny_bind (m:=checkCount "sorted" 1 1 _) 250;refine wpAny_bind (uN (A:=X.A.in1) (s:={s1 with heap:=h',toks:=tk}) 253 S2 λh2 tk2 d acc ks hlt hkp hp SA=>?_)
 have nd:ks.Nodup:=hp.nodup_iff.mpr (dz▸hU xs [] 139)
 have mm:∀z,z∈ks↔z∈xs:=λz=>by rw[hp.mem_iff,dz,iX];simp
 have la:acc.length=ks.length:=SA.length;have lz:acc.length<=sizeLine:=by
  rw[la,hp.length_eq];refine J8 dl ?_;rw[sz];have:=fits_of_scanBound (n:=138) (by show 138<4096;lia)
  exact this
 refine wpAny_bind (wpAny_newList ?_ lz);have hoL:(h2.push (seqObj "list" acc.toArray 0)).get? h2.objs.size=some (seqObj "list" acc.toArray 0):=130 _ rfl;refine wpAny_bind (wpAny_holding (wpAny_call_entry slot_list_sort (_,hoL,rfl) entry_list_sort (list_sort_tree hoL SA (by rw[la,hp.length_eq,dz];exact fw) λout ys o1 o2 o3=>(ν,?_)) (args_list_sort _)))
 have I3:aY X pins σ H1 {s1 with heap:=h',drawn:=d,toks:=tk}:=I2.drew (d:=d)
 have sl:h'.objs.size<=h2.objs.size:=Nat.le_of_lt hlt;refine wpAny_pure (ν,.ref h2.objs.size,_,I3.laid (a:=h2.objs.size) (o:= .lst (ys.map V.int)) (h':=sortedHeap (h2.push (seqObj "list" acc.toArray 0)) h2.objs.size acc out) (t':=tk2) (λb o eo=>?_) sl ?_,rfl,q _ ys (I3.hok.fresh sl) (o2.nodup_iff.mpr nd) (λz=>(o2.mem_iff).trans (mm z)) o3)
 ·have eo':=hkp b o eo;have bl:=Heap.lt_size eo';rw[sortedHeap_old (IQ bl) (by rw[size_push'];exact JX bl)]
  exact 116 _ eo'
 ·obtain ⟨e,he⟩:=sortedHeap_at (out:=out) hoL;exists by rw[I0,o2.length_eq,<-la];exact lz,out.toList,e,kr o1
  rw[Array.toArray_toList];exact he
universe z0
theorem iY {X:Cx} (hc:X.calm=true):eY X (.builtin "sorted") (λxs H Q=>∃d ks kvs,xs= [.ref d]/\H d=some 162/\kvs.map 201=ks.map (λy=>(.inr y:Key))/\ks.Nodup/\ks.length<64/\
  ∀p ys,H p=none->ys.Perm ks->sortedS ys=true->Q 181 (aK H p 276)):=by
 sleep 52;obtain ⟨d,ks,kvs,rfl,hk,ek,nd,l64,q⟩:=h;obtain ⟨u,rfl,ru⟩:=vals1 r;cases ru;obtain ⟨z,hS,ws,rel,D⟩:=vy I.hok hk;obtain ⟨ep,hat⟩:=D.dictAt;have lw:ws.length=ks.length:=by
  rw[<-rel.length];have:=congrArg List.length ek
  simpa using this
 refine Calls.call_function_entry kind_sorted plain_sorted entry_sorted (args_sorted1 _) ?_;unfold Builtin.«sorted»;refine wpAny_bind (m:=checkCount "sorted" 1 1 _) 250;refine wpAny_bind (ss (A:=X.A.in1) (PySem.W.kdl_dict (knd:=aU X.prog X.w) (kvs:=ws) (ep:=ep) hS) 253 hat (by rw[<-rel.length];exact z) λh' tk acc hlt hkp hacc=>?_)
 have la:acc.toList.length=ks.length:=by rw[Im,hacc.1,lw]
 have SA:StrsAre acc.toList ks:=vG la λj v hv=>by
  obtain ⟨k,x,e1,e2⟩:=hacc.2 j v 384
  obtain ⟨⟨k',v'⟩,e3,rfl,_⟩:=oX rel e1;have e4:(kvs.map 201)[j]?=some k':=by rw[IG,e3];rfl
  rw[ek,IG] at e4;cases e5:ks[j]? with
  |none=>rw[e5] at e4;cases e4
  |some y=>
   rw[e5] at e4;cases e4;obtain ⟨t,ht⟩:=vF e2;exact (y,t,rfl,ht)
 refine wpAny_bind (wpAny_newList ?_ (by rw[la,<-lw,<-rel.length];exact z))
 have hoL:(h'.push (seqObj "list" acc.toList.toArray 0)).get? h'.objs.size=some (seqObj "list" acc.toList.toArray 0):=130 _ rfl;refine wpAny_bind (wpAny_holding (wpAny_call_entry slot_list_sort (_,hoL,rfl) entry_list_sort (list_sort_treeK strKind_oneLt hoL SA.keysOf (λv₁ v₂ rest e=>keyKind_strs (by rw[<-e];exact SA)) (by rw[la];exact l64) λst' hp hs=>(ν,?_)) (args_list_sort _)))
 obtain ⟨ys,h1,h2,h3⟩:=sorted_out_str SA hp hs;have sl:s.heap.objs.size<=h'.objs.size:=Nat.le_of_lt hlt;refine wpAny_pure (ν,.ref h'.objs.size,_,I.laid (a:=h'.objs.size) (o:= .lst 514) (h':=sortedHeap (h'.push (seqObj "list" acc.toList.toArray 0)) h'.objs.size acc.toList ((arrOf st').map (·.2))) (t':=tk) (λb o eo=>?_) sl ?_,rfl,q _ ys (I.hok.fresh sl) h2 h3)
 ·have eo':=hkp b o eo;have bl:=Heap.lt_size eo';rw[sortedHeap_old (IQ bl) (by rw[size_push'];exact JX bl)]
  exact 116 _ eo'
 ·obtain ⟨e,he⟩:=sortedHeap_at (out:=(arrOf st').map (·.2)) hoL;exists by rw[I0,h2.length_eq,<-lw,<-rel.length];exact z,((arrOf st').map (·.2)).toList,e,jZ h1
  rw[Array.toArray_toList];exact he
universe L2
namespace Sw
open PySem L2 XH Hm
noncomputable def xF:HO->Bool
 | .lst _=>true
 | .tup _=>true
 |_=>false
abbrev RA (α:Type):=(Addr->Prop)->Hp->V->α->Prop
def An:Addr->Prop:=λ_=>True
class Mv {α:Type} (R:RA α):Prop where
 mv:∀{P P':Addr->Prop} {H H':Hp} {v:V} {x:α},(∀a o,P a->xF o=true->H a=some o->P' a/\H' a=some o)->R P H v x->R P' H' v x
theorem dJ {α:Type} {R:RA α} [Mv R] {P:Addr->Prop} {H H':Hp} {v:V} {x:α} (h:R P H v x) (g:aC H H'):R P H' v x:=Mv.mv (λa o p _ e=>(p,g a o e)) h
theorem rD {α:Type} {R:RA α} [Mv R] {P P':Addr->Prop} {H:Hp} {v:V} {x:α} (h:R P H v x) (g:∀a,P a->P' a):R P' H v x:=Mv.mv (λa o p _ e=>(g a p,e)) h
theorem HD {α:Type} {R:RA α} [Mv R] {P:Addr->Prop} {H:Hp} {v:V} {x:α} (h:R P H v x):R An H v x:=rD h λ_ _=>trivial
theorem HY {α:Type} {R:RA α} [Mv R] {P:Addr->Prop} {H H':Hp} {v:V} {x:α} (h:R P H v x) (g:∀a o,xF o=true->H a=some o->H' a=some o):R P H' v x:=Mv.mv (λa o p s e=>(p,g a o s e)) h
theorem DX {α:Type} {R:RA α} [Mv R] {P:Addr->Prop} {H:Hp} {v:V} {x:α} (h:R P H v x):R (λa=>P a/\H a≠none) H v x:=Mv.mv (λa o p _ e=>((p,by rw[e];exact nofun),e)) h
theorem rE {α:Type} {R:RA α} [Mv R] {P:Addr->Prop} {H:Hp} {v:V} {x:α} {l:Addr} (h:R P H v x) (n:¬P l) (o:HO):R P (aK H l o) v x:=Mv.mv (λa u p _ e=>⟨p,by
  have:a≠l:=λz=>n (by rw[<-z];exact p)
  rw[aQ this];exact e⟩) h
def A2 {α:Type} (R:V->α->Prop) (vs:List V) (xs:List α):Prop:=vs.length=xs.length/\∀(i:Nat) (v:V) (x:α),vs[i]?=some v->xs[i]?=some x->R v x
theorem A2.imp {α:Type} {R S:V->α->Prop} {vs:List V} {xs:List α} (h:A2 R vs xs) (f:∀v x,R v x->S v x):A2 S vs xs:=(h.1,λi v x e1 e2=>f v x (h.2 i v x e1 e2))
theorem A2.get {α:Type} {R:V->α->Prop} {vs:List V} {xs:List α} (h:A2 R vs xs) {i:Nat} {x:α} (e:xs[i]?=some x):∃v,vs[i]?=some v/\R v x:=by
 have il:i<vs.length:=by rw[h.1];exact (IC.mp e).1
 exact (_,IA il,h.2 i _ x (IA il) e)
theorem A2.at_ {α:Type} {R:V->α->Prop} {vs:List V} {xs:List α} (h:A2 R vs xs) {i:Nat} {v:V} (e:vs[i]?=some v):∃x,xs[i]?=some x/\R v x:=by
 have il:i<xs.length:=by rw[<-h.1];exact (IC.mp e).1
 exact (_,IA il,h.2 i v _ e (IA il))
theorem A2.nil {α:Type} {R:V->α->Prop}:A2 R [] ([]:List α):=(rfl,λi a x e=>by simp at e)
theorem A2.append {α:Type} {R:V->α->Prop} {as bs:List V} {xs ys:List α} (h:A2 R as xs) (k:A2 R bs ys):A2 R (as++bs) (xs++ys):=by
 refine (by simp[h.1,k.1],λi a x e1 e2=>?_)
 by_cases c:i<as.length
 ·rw[JH c] at e1;rw[JH (by rw[<-h.1];exact c)] at e2
  exact h.2 i a x e1 e2
 ·rw[J7 78] at e1
  rw[J7 (by rw[<-h.1];lia),<-h.1] at e2
  exact k.2 _ a x e1 e2
theorem A2.one {α:Type} {R:V->α->Prop} {v:V} {x:α} (h:R v x):A2 R [v] [x]:=⟨rfl,λi a y e1 e2=>by
 cases i with
 |zero=>simp at e1 e2;subst e1 e2;exact h
 |succ n=>simp at e1⟩
theorem A2.snoc {α:Type} {R:V->α->Prop} {vs:List V} {xs:List α} (h:A2 R vs xs) {v:V} {x:α} (r:R v x):A2 R (vs++ [v]) (xs++ [x]):=h.append (.one r)
theorem A2.take {α:Type} {R:V->α->Prop} {vs:List V} {xs:List α} (h:A2 R vs xs) (n:Nat):A2 R (vs.take n) (xs.take n):=by
 refine (by simp[h.1],λi v x e1 e2=>?_)
 rw[List.getElem?_take] at e1 e2
 split at e1
 ·rename_i c;rw[if_pos c] at e2;exact h.2 i v x e1 e2
 ·cases e1
theorem A2.drop {α:Type} {R:V->α->Prop} {vs:List V} {xs:List α} (h:A2 R vs xs) (n:Nat):A2 R (vs.drop n) (xs.drop n):=by
 refine (by simp[h.1],λi v x e1 e2=>?_)
 rw[List.getElem?_drop] at e1 e2;exact h.2 _ v x e1 e2
def cU {α:Type} (R:RA α) (P:Addr->Prop) (H:Hp) (l:Addr) (xs:List α):Prop:=∃vs,H l=some (.lst vs)/\A2 (R P H) vs xs
def AX {α:Type} (R:RA α):RA (List α):=λP H v xs=>∃l,v= .ref l/\P l/\cU R P H l xs
instance {α:Type} {R:RA α} [Mv R]:Mv (AX R) where
 mv:=λ{P P' H H' v x} g h=>by
  obtain ⟨l,rfl,p,vs,e,r⟩:=h;obtain ⟨p',e'⟩:=g l _ p rfl e;exact (l,rfl,p',vs,e',r.imp λv x q=>Mv.mv g q)
def uO {α:Type} (f:α->List V):RA α:=λP H v x=>∃t,v= .ref t/\P t/\H t=some (.tup (f x))
instance {α:Type} {f:α->List V}:Mv (uO f) where
 mv:=λ{P P' H H' v x} g h=>by
  obtain ⟨t,rfl,p,e⟩:=h;obtain ⟨p',e'⟩:=g t _ p rfl e;exact (t,rfl,p',e')
def fg {α:Type} (f:α->V):RA α:=λ_ _ v x=>v=f x
instance {α:Type} {f:α->V}:Mv (fg f) where
 mv:=λ_ h=>h
theorem A2.val {α:Type} {f:α->V} {P:Addr->Prop} {H:Hp} {vs:List V} {xs:List α} (h:A2 (fg f P H) vs xs):vs=xs.map f:=by
 apply List.ext_getElem (by rw[I0];exact h.1)
 intro i h1 h2;rw[List.getElem_map];exact h.2 i _ _ (IA h1) (IA (by rw[I0] at h2;exact h2))
theorem A2.ofVal {α:Type} (f:α->V) (P:Addr->Prop) (H:Hp) (xs:List α):A2 (fg f P H) (xs.map f) xs:=⟨I0 _,λi v x e1 e2=>by
 rw[IG,e2] at e1;cases e1
 rfl⟩
theorem cU.same {α:Type} {R:RA α} [Mv R] {P:Addr->Prop} {H H':Hp} {l:Addr} {xs:List α} (h:cU R P H l xs) (g:aC H H'):cU R P H' l xs:=let ⟨vs,e,r⟩:=h;⟨vs,g _ _ e,r.imp λ_ _ q=>dJ q g⟩
theorem cU.any {α:Type} {R:RA α} [Mv R] {P:Addr->Prop} {H:Hp} {l:Addr} {xs:List α} (h:cU R P H l xs):cU R An H l xs:=let ⟨vs,e,r⟩:=h;⟨vs,e,r.imp λ_ _ q=>HD q⟩
theorem cU.mono {α:Type} {R:RA α} [Mv R] {P P':Addr->Prop} {H:Hp} {l:Addr} {xs:List α} (h:cU R P H l xs) (g:∀a,P a->P' a):cU R P' H l xs:=let ⟨vs,e,r⟩:=h;⟨vs,e,r.imp λ_ _ q=>rD q g⟩
theorem cU.sq {α:Type} {R:RA α} [Mv R] {P:Addr->Prop} {H H':Hp} {l:Addr} {xs:List α} (h:cU R P H l xs) (g:∀a o,xF o=true->H a=some o->H' a=some o):cU R P H' l xs:=let ⟨vs,e,r⟩:=h;⟨vs,g _ _ rfl e,r.imp λ_ _ q=>HY q g⟩
theorem cU.upd {α:Type} {R:RA α} [Mv R] {P:Addr->Prop} {H:Hp} {l x:Addr} {xs:List α} (h:cU R P H l xs) (n:¬P x) (lx:l≠x) (o:HO):cU R P (L2.aK H x o) l xs:=by
 obtain ⟨vs,e,r⟩:=h;exact (vs,by rw[aQ lx];exact e,r.imp λ_ _ q=>rE q n o)
theorem cU.put {α:Type} {R:RA α} [Mv R] {P:Addr->Prop} {H:Hp} {l:Addr} {vs:List V} {xs:List α} {v:V} {x:α} (n:¬P l) (r:A2 (R P H) vs xs) (h:R P H v x):cU R P (L2.aK H l (.lst (vs++ [v]))) l (xs++ [x]):=
 ⟨_,ag,(r.snoc h).imp λ_ _ q=>rE q n _⟩
theorem cU.ext {α:Type} {R:RA α} [Mv R] {P:Addr->Prop} {H:Hp} {l:Addr} {vs us:List V} {xs ys:List α} (n:¬P l) (r:A2 (R P H) vs xs) (h:A2 (R P H) us ys):cU R P (L2.aK H l (.lst (vs++us))) l (xs++ys):=
 ⟨_,ag,(r.append h).imp λ_ _ q=>rE q n _⟩
theorem cU.new {α:Type} {R:RA α} {P:Addr->Prop} {H:Hp} {l:Addr}:cU R P (L2.aK H l 149) l ([]:List α):=([],ag,A2.nil)
universe Sw
namespace L2
open PySem PySem.Spec PyProof.Rows XH Sw Hm
noncomputable def cI {β:Type} (n:Nat) (pr:Nat->Bool) (f:Nat->β):List β:=((Ip n).filter pr).map f
theorem jF {β:Type} (n:Nat) (pr:Nat->Bool) (f:Nat->β):cI (n+1) pr f=cI n pr f++(if pr n=true then [f n] else []):=by
 unfold cI;rw[K6,List.filter_append,Il]
 congr 1
 cases h:pr n<;>simp[List.filter_cons,h]
theorem db {β:Type} (n:Nat) (pr:Nat->Bool) (f:Nat->β):(cI n pr f).length<=n:=by
 unfold cI;rw[I0];have:=Jt pr (Ip n)
 rwa [J5] at this
theorem gv {β:Type} {n:Nat} {pr:Nat->Bool} {f:Nat->β} (h:∀i,i<n->pr i=false):cI n pr f= []:=by
 unfold cI;rw[KE,List.filter_eq_nil_iff];intro i hi;rw[h i (JB.mp hi)]
 decide
theorem sG {J:It} {β:Type} {n:Nat} {js:List Nat} {tc:TT} {te:TE} {σ:L2.St} {H1:Hp} {Q:VK} (R:RA β) [Mv R] (Z:Addr->Prop) (pr:Nat->Bool) (f:Nat->β) (hz:n<=sizeLine) (hZ:∀a,Z a->H1 a≠none)
  (hgo:∀i H2,aC H1 H2->i<n->J.go i H2) (hst:∀H2,aC H1 H2->J.stop n H2)
  (step:∀i,i<n->∀H2 x H3,aC H1 H2->J.yld i H2 x H3->H3=H2/\(∀S:Bool->Hp->Prop,(∀H4,aC H2 H4->S (pr i) H4)->tc (some x::be js σ) H2 S)/\(pr i=true->∀H4,aC H2 H4->∀Q':VK,(∀y H5,aC H4 H5->R (λa=>H4 a=none∨Z a) H5 y (f i)->Q' y H5)->te (some x::be js σ) H4 Q'))
  (fin:∀p H',H1 p=none->aC H1 H'->cU R 159 H' p (cI n pr f)->Q 181 H'):kx js tc te σ Q J H1:=by
 intro p hp;exists λi m ys H2=>i<=n/\m=n-i/\aC H1 H2/\H2 p=some 297/\A2 (R 159 H2) ys (cI i pr f),(n,JC _,rfl,Sw.af hp _,ag,A2.nil)
 rintro i m ys H2 ⟨hi,rfl,g,e,r⟩;exists e
 by_cases hin:i<n
 ·refine .inr 445
  ·have:=db i pr f;have:=r.1
   lia
  obtain ⟨rfl,h1,h2⟩:=step i hin H2 x H3 g hy;refine h1 _ λH4 g4=>?_
  have tk:=jF i pr f;cases hpr:pr i with
  |true=>
   rw[hpr,if_pos rfl] at tk;rw[if_pos rfl];refine h2 hpr H4 g4 _ λy H5 g5 ry=>(g5 _ _ (g4 _ _ e),n-301,by lia,hin,rfl,Sw.dQ ((g.trans g4).trans g5) hp _,ag,?_)
   rw[tk];sleep 91
   refine ((r.imp λv b q=>dJ q (g4.trans g5)).snoc (rD ry λa ha=>?_)).imp λv b q=>rE q np _
   rcases ha with h|h
   ·exact ((λz=>by rw[z,g4 _ _ e] at h;cases h),.inl ((g.trans g4).free h))
   ·sleep 130
  |false=>
   rw[hpr,if_neg 41,Ji] at tk
   rw[if_neg 41]
   exact (n-301,by lia,hin,rfl,g.trans g4,g4 _ _ e,by rw[tk];exact r.imp λv b q=>dJ q g4)
 ·have e2:i=n:=by lia
  subst e2;exact .inl (hst H2 g,fin p H2 hp g (ys,e,r))
theorem zb {J:It} {β:Type} {n:Nat} {js:List Nat} {te:TE} {σ:L2.St} {H1:Hp} {Q:VK} (R:RA β) [Mv R] (Z:Addr->Prop) (f:Nat->β) (hz:n<=sizeLine) (hZ:∀a,Z a->H1 a≠none)
  (hgo:∀i H2,aC H1 H2->i<n->J.go i H2) (hst:∀H2,aC H1 H2->J.stop n H2)
  (step:∀i,i<n->∀H2 x H3,aC H1 H2->J.yld i H2 x H3->H3=H2/\∀Q':VK,172->te (some x::be js σ) H2 Q')
  (fin:∀p H',H1 p=none->aC H1 H'->cU R 159 H' p ((Ip n).map f)->Q 181 H'):rY js te σ Q J H1:=by
 intro p hp;exists λi m ys H2=>i<=n/\m=n-i/\aC H1 H2/\H2 p=some 297/\A2 (R 159 H2) ys ((Ip i).map f),(n,JC _,rfl,Sw.af hp _,ag,A2.nil)
 rintro i m ys H2 ⟨hi,rfl,g,e,r⟩;exists e
 by_cases hin:i<n
 ·refine .inr 445
  ·have:=r.1;rw[I0,J5] at this
   lia
  obtain ⟨rfl,h2⟩:=step i hin H2 x H3 g hy;refine h2 _ λy H5 g5 ry=>(g5 _ _ e,n-301,by lia,hin,rfl,Sw.dQ (g.trans g5) hp _,ag,?_)
  rw[K6,Il];sleep 91
  refine ((r.imp λv b q=>dJ q g5).snoc (rD ry λa ha=>?_)).imp λv b q=>rE q np _
  rcases ha with h|h
  ·exact ((λz=>by rw[z,e] at h;cases h),.inl (g.free h))
  ·sleep 130
 ·have e2:i=n:=by lia
  subst e2;exact .inl (hst H2 g,fin p H2 hp g (ys,e,r))
section
variable {K:IE} {β:Type} {a:Addr} {xs:List V} {n:Nat} {js:List Nat} {tc:TT} {te:TE} {σ:L2.St} {H1:Hp} {Q:VK}
theorem jd (R:RA β) [Mv R] (Z:Addr->Prop) (pr:Nat->Bool) (f:Nat->β) (hS:aD K H1 a xs) (hz:xs.length<=sizeLine) (hZ:∀a,Z a->H1 a≠none)
  (s1:∀i x,xs[i]?=some x->∀H2,aC H1 H2->∀S:Bool->Hp->Prop,(∀H4,aC H2 H4->S (pr i) H4)->tc (some x::be js σ) H2 S)
  (s2:∀i x,xs[i]?=some x->pr i=true->∀H2,aC H1 H2->∀Q':VK,172->te (some x::be js σ) H2 Q')
  (fin:∀p H',H1 p=none->aC H1 H'->cU R 159 H' p (cI 138 pr f)->Q 181 H'):kx js tc te σ Q (Aq K a) H1:=by
 refine sG R Z pr f hz hZ 389 (λH2 g=>(xs,g.seq hS,IH _)) 337 fin
 obtain ⟨rfl,hx⟩:=hy;have ex:=hx xs (g.seq hS);exact (rfl,s1 i x ex _ g,λh H4 g4=>s2 i x ex h _ (g.trans g4))
theorem kF (R:RA β) [Mv R] (Z:Addr->Prop) (pr:Nat->Bool) (f:Nat->β) (hz:n<=sizeLine) (hZ:∀a,Z a->H1 a≠none)
  (s1:∀i:Nat,i<n->∀H2,aC H1 H2->∀S:Bool->Hp->Prop,(∀H4,aC H2 H4->S (pr i) H4)->tc 394 H2 S)
  (s2:∀i:Nat,i<n->pr i=true->∀H2,aC H1 H2->∀Q':VK,172->te 394 H2 Q')
  (fin:∀p H',H1 p=none->aC H1 H'->cU R 159 H' p (cI n pr f)->Q 181 H'):kx js tc te σ Q (By 0 n) H1:=by
 refine sG R Z pr f hz hZ (λi H2 g hi=>hi) (λH2 g=>IH n) 337 fin
 obtain ⟨rfl,rfl⟩:=hy;exact (rfl,s1 i hi _ g,λh H4 g4=>s2 i hi h _ (g.trans g4))
theorem cg (R:RA β) [Mv R] (Z:Addr->Prop) (f:Nat->β) (hS:aD K H1 a xs) (hz:xs.length<=sizeLine) (hZ:∀a,Z a->H1 a≠none)
  (s2:∀i x,xs[i]?=some x->∀H2,aC H1 H2->∀Q':VK,172->te (some x::be js σ) H2 Q')
  (fin:∀p H',H1 p=none->aC H1 H'->cU R 159 H' p ((Ip 138).map f)->Q 181 H'):rY js te σ Q (Aq K a) H1:=by
 refine zb R Z f hz hZ 389 (λH2 g=>(xs,g.seq hS,IH _)) 337 fin
 obtain ⟨rfl,hx⟩:=hy;exact (rfl,s2 i x (hx xs (g.seq hS)) _ g)
theorem j8 {hd:Lg} (R:RA β) [Mv R] (Z:Addr->Prop) (f:Nat->β) (hok:me hd H1) (hz:n<=sizeLine) (hZ:∀a,Z a->H1 a≠none)
  (s2:∀i:Nat,i<n->∀H2,aC H1 H2->∀Q':VK,172->te 394 H2 Q')
  (fin:∀p H',H1 p=none->aC H1 H'->cU R 159 H' p ((Ip n).map f)->Q 181 H'):rY js te σ Q (yI hd 0 n) H1:=by
 refine zb R Z f hz hZ (λi H2 g hi=>hi) (λH2 g=>(IH n,yK hok g)) 337 fin
 obtain ⟨rfl,rfl⟩:=hy;exact (rfl,s2 i hi _ g)
universe z0
universe L2
namespace Sw
open PySem L2 XH Hm
open PySem.NumText
noncomputable def Cj:Str:= "abcdefghijklmnopqrstuvwxyz"
def Nm (z:Str):Prop:=1<=(sL z).length/\(sL z).length<=12/\∀c∈sL z,97<=c/\c<=122
theorem vO (c:Nat):(!(Builtin.Str.occurrences Cj (GV [c]) 0 Cj.length 1).isEmpty)=decide (97<=c/\c<=122):=by
 rw[Ce];have e:sL Cj=(Ip 26).map (97+ ·):=by decide
 rw[e];apply decide_eq_decide.mpr;constructor
 ·intro h;obtain ⟨i,hi,rfl⟩:=IV.mp h;have:=JB.mp hi
  lia
 ·intro h;exact IV.mpr (c-97,JB.mpr 78,by lia)
def sH (K:IE):Sp:=λvs H Q _=>∃x:V,vs= [x]/\((∃z:Str,x= .str z/\z.length<=1000000/\(Nm z->Q (.bl true) H)/\(¬Nm z->Q (.bl false) H))∨∃ty,jO K H x ty/\PySem.W.kitOne K ty (.type "str")=some false/\Q (.bl false) H)
abbrev Us:=Str×Int×Int
abbrev Wy:=Int×Int×List Us
abbrev Tk:=List (List Wy)
abbrev Tl:=List (Str×Int)
noncomputable def Ck (u:Us):List V:= [.str u.1,.int u.2.1,.int u.2.2]
abbrev nE:RA Us:=uO Ck
abbrev Aj:RA (List V):=uO id
def iM:RA Wy:=λP H v w=>∃t u:Addr,v= .ref t/\P t/\P u/\H t=some (.tup [.int w.1,.int w.2.1,.ref u])/\cU nE P H u w.2.2
instance:Mv iM where
 mv:=λ{P P' H H' v x} g h=>by
  obtain ⟨t,u,rfl,p,p2,e,vs,e2,r⟩:=h;obtain ⟨q,e'⟩:=g t _ p rfl e;obtain ⟨q2,e2'⟩:=g u _ p2 rfl e2;exact (t,u,rfl,q,q2,e',vs,e2',r.imp λ_ _ k=>Mv.mv g k)
abbrev fu:RA (List Wy):=AX iM
noncomputable def bM (D:Tl):List (Key×V):=D.map λp=>(.inr p.1,.int p.2)
noncomputable def c6 (D:Tl) (z:Str):Option Int:=(D.find? λp=>decide (p.1=z)).map (·.2)
theorem kG (D:Tl):(bM D).length=D.length:=I0 _
theorem nH {D:Tl} {i:Nat} {k:Key} {x:V} (h:(bM D)[i]?=some (k,x)):∃p,D[i]?=some p/\k= .inr p.1/\x= .int p.2:=by
 unfold bM at h;rw[IG] at h;obtain ⟨p,e,q⟩:=IF.mp h;cases q;exact (p,e,rfl,rfl)
theorem cV (p:Str×Int) (D:Tl) (z:Str):c6 (p::D) z=if p.1=z then some p.2 else c6 D z:=by
 unfold c6;rw[Ja]
 by_cases h:p.1=z
 ·rw[decide_eq_true h,if_pos h];rfl
 ·rw[decide_eq_false h,if_neg h]
theorem kH (z:Str):∀D:Tl,gj (bM D) (.inr z)=(c6 D z).map V.int
 | []=>rfl
 |p::D=>by
  rw[cV];show gj (((.inr p.1:Key),V.int p.2)::bM D) _=_
  by_cases h:p.1=z
  ·rw[if_pos h,dE (by show (Sum.inr p.1:Key)=_;rw[h])];rfl
  ·rw[if_neg h,dG (by intro e;exact h (by injection e)),kH z D]
theorem pA {z:Str} {n:Int}:∀{D:Tl},(D.map 201).Nodup->(z,n)∈D->c6 D z=some n
 | [],_,h=>by cases h
 |p::D,nd,h=>by
  rw[J1,Jl] at nd;rw[cV];rcases IK.mp h with e|e
  ·subst e;rw[if_pos rfl]
  ·have hn:¬p.1=z:=λq=>nd.1 (by rw[q];exact Jr (f:=Prod.fst) e)
   rw[if_neg hn,pA nd.2 e]
theorem nJ {z:Str}:∀{D:Tl},z∈D.map 201->∃n,c6 D z=some n
 | [],h=>by cases h
 |p::D,h=>by
  rw[cV]
  by_cases e:p.1=z
  ·exact (_,if_pos e)
  ·rw[if_neg e];rw[J1] at h;rcases IK.mp h with q|q
   ·exact absurd q.symm e
   ·exact nJ q
def ED (D:Tl) (us:List Us):Prop:=(us.map 201).Nodup/\us.length<=100/\∀e∈us,∃m,c6 D e.1=some m/\1<=e.2.1/\e.2.1<=m/\0<=e.2.2/\e.2.2<=1000000000
def kI (D:Tl) (ws:List Wy):Prop:=1<=ws.length/\ws.length<=2/\∀w∈ws,1<=w.1/\w.1<=w.2.1/\w.2.1<=1000000000/\ED D w.2.2
structure gL (D:Tl) (T:Tk) (A B:List Ky) (n:Int):Prop where
 d12:D.length<=12
 dnd:(D.map 201).Nodup
 tool:∀p∈D,Nm p.1/\1<=p.2/\p.2<=8
 t24:T.length<=24
 ways:∀ws∈T,kI D ws
 n0:0<=n
 n8:n<=8
 a600:A.length<=600
 arcs:∀k∈A,∃p q g:Int,k= [p,q,g]/\0<=p/\p<2*121+n/\0<=q/\q<2*121+n/\ -1000000000<=g/\g<=1000000000
 b300:B.length<=300
 pairs:∀k∈B,∃p q:Int,k= [p,q]/\0<=p/\p<121/\0<=q/\q<121/\p≠q
def TD (f:Bool) (H:Hp) (a:Addr) (u:HO):Prop:=H a=some u∨(f=true/\∃o,H a=some (.frz o u))
theorem TD.same {f:Bool} {H H':Hp} {a:Addr} {u:HO} (h:TD f H a u) (g:aC H H'):TD f H' a u:=h.elim (λe=> .inl (g _ _ e)) λ⟨e,o,k⟩=> .inr ⟨e,o,g _ _ k⟩
theorem TD.rd {f:Bool} {H:Hp} {a:Addr} {u:HO} (h:TD f H a u):Rd H a u:=h.elim .inl λ⟨_,o,k⟩=> .inr ⟨o,k⟩
theorem TD.no {H:Hp} {a:Addr} {u:HO} (h:TD false H a u):H a=some u:=h.elim id λ⟨e,_⟩=>by cases e
structure gM (C:Addr) (f:Bool) (H:Hp) (x:Addr) (D:Tl) (T:Tk) (A B:List Ky) (n:Int):Prop where
 ex:∃(dx td tl al pl:Addr) (fs:List (Str×V)),H x=some (.ins C dx fs)/\fs.lookup ("tools" :Str)=some (.ref td)/\fs.lookup ("tasks" :Str)=some (.ref tl)/\fs.lookup ("arcs" :Str)=some (.ref al)/\fs.lookup ("apart" :Str)=some (.ref pl)/\fs.lookup ("moments" :Str)=some (.int n)/\
  TD f H td 166/\cU fu An H tl T/\bn H al A/\bn H pl B
theorem gM.same {C:Addr} {f:Bool} {H H':Hp} {x:Addr} {D:Tl} {T:Tk} {A B:List Ky} {n:Int} (h:gM C f H x D T A B n) (g:aC H H'):gM C f H' x D T A B n:=by
 obtain ⟨dx,td,tl,al,pl,fs,a,b1,b2,b3,b4,b5,c,d,e,k⟩:=h.ex;exact (dx,td,tl,al,pl,fs,g _ _ a,b1,b2,b3,b4,b5,c.same g,d.same g,e.same g,k.same g)
theorem gM.any {C:Addr} {f:Bool} {H:Hp} {x:Addr} {D:Tl} {T:Tk} {A B:List Ky} {n:Int} (h:gM C f H x D T A B n):gM C true H x D T A B n:=by
 obtain ⟨dx,td,tl,al,pl,fs,a,b1,b2,b3,b4,b5,c,d,e,k⟩:=h.ex;exact ⟨dx,td,tl,al,pl,fs,a,b1,b2,b3,b4,b5,c.elim .inl (λ⟨_,o,q⟩=> .inr ⟨rfl,o,q⟩),d,e,k⟩
theorem bn.sq {H H':Hp} {l:Addr} {ks:List Ky} (h:bn H l ks) (g:∀a o,xF o=true->H a=some o->H' a=some o):bn H' l ks:=by
 obtain ⟨as,e,r⟩:=h;exact (as,g _ _ rfl e,r.imp λa k q=>g _ _ rfl q)
theorem kJ {H:Hp} {d:Addr} {kvs:List 306} {o:Obj} (e:H d=some 162):∀a u,xF u=true->H a=some u->aK H d 235 a=some u:=λa u s h=>by
 rw[aQ (λz=>by rw[z,e] at h;cases h;cases s)]
 exact h
theorem kK {H H':Hp} {d:Addr} {kvs:List 306} {o:Obj} (e:H d=some 162) (g:aC (aK H d 235) H'):aC H (aK H' d 162):=λa u h=>by
 by_cases z:a=d
 ·subst z;rw[e] at h;cases h;exact ag
 ·rw[aQ z];exact g a u (by rw[aQ z];exact h)
theorem gM.walk {C:Addr} {H:Hp} {x:Addr} {D:Tl} {T:Tk} {A B:List Ky} {n:Int} {d:Addr} {kvs:List 306} {o:Obj} (h:gM C true H x D T A B n) (e:H d=some 162):gM C true (aK H d 235) x D T A B n:=by
 obtain ⟨dx,td,tl,al,pl,fs,a,b1,b2,b3,b4,b5,c,dd,ee,k⟩:=h.ex;refine ⟨dx,td,tl,al,pl,fs,by rw[aQ (jN a e 258)];exact a,b1,b2,b3,b4,b5,?_,dd.sq (kJ e),ee.sq (kJ e),k.sq (kJ e)⟩
 by_cases z:td=d
 ·subst z;rcases c with c|⟨_,o',c⟩
  ·rw[e] at c;cases c;exact .inr (rfl,o,ag)
  ·rw[e] at c;cases c
 ·unfold TD;rw[aQ z];exact c
def qH:Sp:=λvs H Q _=>∃(l:Addr) (ws:List Wy) (P0:Addr->Prop),vs= [.ref l]/\cU iM P0 H l ws/\ws.length<=2/\∀(p:Addr) (H':Hp),aC H H'->H p=none->fu (λa=>H a=none∨P0 a) H' 181 ws->Q 181 H'
def pC:Sp:=λvs H Q _=>∃(td:Addr) (D:Tl),vs= [.ref td]/\H td=some 166/\D.length<=12/\(∀p∈D,Nm p.1/\1<=p.2/\p.2<=8)/\∀H',aC H H'->Q .non H'
def sI:Sp:=λvs H Q _=>∃(u td:Addr) (D:Tl) (us:List Us),vs= [.ref u,.ref td]/\cU nE An H u us/\H td=some 166/\ED D us/\∀H',aC H H'->Q .non H'
def pD:Sp:=λvs H Q _=>∃(tl td:Addr) (D:Tl) (T:Tk),vs= [.ref tl,.ref td]/\cU fu An H tl T/\H td=some 166/\T.length<=24/\(∀ws∈T,kI D ws)/\∀H',aC H H'->Q .non H'
def pG:Sp:=λvs H Q _=>∃(pl:Addr) (m:Int) (B:List Ky),vs= [.ref pl,.int m]/\bn H pl B/\B.length<=300/\(∀k∈B,∃p q:Int,k= [p,q]/\0<=p/\p<m/\0<=q/\q<m/\p≠q)/\Q .non H
def kL (C:Addr):Sp:=λvs H Q _=>∃(x:Addr) (n:Int) (f:Bool) (D:Tl) (T:Tk) (A B:List Ky),vs= [.ref x]/\gM C f H x D T A B n/\Q (.int 197) H
def HZ (H:Hp) (v:V) (B:List Ky):Prop:=(v= .non/\B= [])∨∃pl,v= .ref pl/\bn H pl B
def uP (C:Addr):Sp:=λvs H Q _=>∃(x dx td tl al:Addr) (v:V) (n:Int) (D:Tl) (T:Tk) (A B:List Ky),vs= [.ref x,.ref td,.ref tl,.ref al,v,.int n]/\H x=some (.ins C dx [])/\H td=some 166/\cU fu An H tl T/\bn H al A/\HZ H v B/\gL D T A B n/\
 ∀H',(∀a o,a≠x->H a=some o->H' a=some o)->gM C false H' x D T A B n->Q .non H'
theorem cU.fx {α:Type} {R:RA α} [Mv R] {x:Addr} {H H':Hp} {l:Addr} {T:List α} {C dx:Addr} {fs:List (Str×V)} (h:cU R An H l T) (ex:H x=some (.ins C dx fs)) (g:Fx x H H'):cU R An H' l T:=
 h.sq λa o s e=>g a o (λz=>by rw[z,ex] at e;cases e;cases s) e
structure je (T:Tk) (R:List Rn):Prop where
 len:R.length=T.length
 way:∀(i:Nat) (r:Rn) (ws:List Wy),R[i]?=some r->T[i]?=some ws->0<=r.2.2/\r.2.2<(ws.length:Int)
structure nK (C:Addr) (f:Bool) (H:Hp) (x t:Addr) (D:Tl) (T:Tk) (A B:List Ky) (R:List Rn) (M:List Int):Prop where
 net:gM C f H x D T A B M.length
 plan:nc H t R M
 ok:gL D T A B M.length
 pok:je T R
theorem nK.same {C:Addr} {f:Bool} {H H':Hp} {x t:Addr} {D:Tl} {T:Tk} {A B:List Ky} {R:List Rn} {M:List Int} (h:nK C f H x t D T A B R M) (g:aC H H'):nK C f H' x t D T A B R M:=(h.net.same g,h.plan.same g,h.ok,h.pok)
theorem nK.any {C:Addr} {f:Bool} {H:Hp} {x t:Addr} {D:Tl} {T:Tk} {A B:List Ky} {R:List Rn} {M:List Int} (h:nK C f H x t D T A B R M):nK C true H x t D T A B R M:=(h.net.any,h.plan,h.ok,h.pok)
noncomputable def jf (w:Wy) (z:Str):Option Us:=w.2.2.find? λu=>decide (u.1=z)
noncomputable def bf (w:Wy) (z:Str):Int:=match jf w z with
 |some u=>u.2.1
 |none=>0
noncomputable def bS (T:Tk) (R:List Rn) (i:Nat):Wy:=(T.getD i []).getD (R.getD i 125).2.2.toNat 387
noncomputable def bZ (r:Rn) (t:Int):Bool:=decide (r.1<=t)&&decide (t<r.2.1)
noncomputable def cq (r s:Rn):Bool:=decide (r.1<s.2.1)&&decide (s.1<r.2.1)
noncomputable def cv (T:Tk) (R:List Rn) (z:Str) (t:Int):Nat->Int
 |0=>0
 |n+1=>cv T R z t n+233
noncomputable def sJ (T:Tk) (R:List Rn) (i:Nat):Bool:=
 let r:=R.getD i (0,0,0)
 let w:=bS T R i
 decide (r.1<0∨¬(w.1<=r.2.1-r.1/\r.2.1-r.1<=w.2.1))
noncomputable def AY (B:List Ky) (R:List Rn) (k:Nat):Bool:=
 let b:=B.getD k []
 cq (R.getD (b.getD 0 0).toNat 125) (R.getD (b.getD 1 0).toNat 125)
noncomputable def kM (x:Int):List Int->List Int
 | []=> [x]
 |y::ys=>if x<y then x::y::ys else if x=y then y::ys else y::kM x ys
noncomputable def nL (xs:List Int):List Int:=xs.foldr kM []
theorem nM {x z:Int}:∀{l:List Int},z∈kM x l↔z=x∨z∈l
 | []=>by simp[kM]
 |y::ys=>by
  unfold kM
  by_cases h1:x<y
  ·rw[if_pos h1];simp
  ·rw[if_neg h1]
   by_cases h2:x=y
   ·rw[if_pos h2];subst h2;simp
   ·rw[if_neg h2,IK,nM (l:=ys),IK];constructor
    ·rintro (h|h|h)
     ·exact .inr (.inl h)
     ·exact .inl h
     ·exact .inr (.inr h)
    ·rintro (h|h|h)
     ·exact .inr (.inl h)
     ·exact .inl h
     ·exact .inr (.inr h)
theorem vP {x:Int}:∀{l:List Int},l.Pairwise 412->(kM x l).Pairwise 412
 | [],_=>by simp[kM]
 |y::ys,h=>by
  have hc:=Jm.mp h;unfold kM
  by_cases h1:x<y
  ·rw[if_pos h1];refine Jm.mpr (λz hz=>?_,h)
   rcases IK.mp hz with e|e
   ·rw[e];exact h1
   ·exact Int.lt_trans h1 (hc.1 z e)
  ·rw[if_neg h1]
   by_cases h2:x=y
   ·rw[if_pos h2];exact h
   ·rw[if_neg h2];refine Jm.mpr (λz hz=>?_,vP hc.2)
    rcases nM.mp hz with e|e
    ·rw[e];lia
    ·exact hc.1 z e
theorem nN {z:Int}:∀{xs:List Int},z∈nL xs↔z∈xs
 | []=>by simp[nL]
 |x::xs=>by
  show z∈kM x (nL xs)↔_;rw[nM,nN,IK]
theorem vQ:∀xs:List Int,(nL xs).Pairwise 412
 | []=>by simp[nL]
 |x::xs=>vP (vQ xs)
theorem vR:∀{l m:List Int},l.Pairwise 412->m.Pairwise 412->(∀z,z∈l↔z∈m)->l=m
 | [],[],_,_,_=>rfl
 | [],y::ys,_,_,h=>absurd ((h y).mpr Iq) 139
 |x::xs,[],_,_,h=>absurd ((h x).mp Iq) 139
 |x::xs,y::ys,h1,h2,h=>by
  have c1:=Jm.mp h1;have c2:=Jm.mp h2;have e:x=y:=by
   have a:=(h x).mp Iq;have b:=(h y).mpr Iq;rcases IK.mp a with q|q
   ·exact q
   ·rcases IK.mp b with q'|q'
    ·exact q'.symm
    ·have:=c2.1 x q;have:=c1.1 y q'
     lia
  subst e
  congr 1
  refine vR c1.2 c2.2 λz=>(λhz=>?_,λhz=>?_)
  ·rcases IK.mp ((h z).mp (IX _ hz)) with q|q
   ·have:=c1.1 z hz
    lia
   ·exact q
  ·rcases IK.mp ((h z).mpr (IX _ hz)) with q|q
   ·have:=c2.1 z hz
    lia
   ·exact q
theorem AZ {xs ys:List Int} (nd:ys.Nodup) (hm:∀z,z∈ys↔z∈xs) (hp:ys.Pairwise (· <= ·)):ys=nL xs:=by
 refine vR ?_ (vQ xs) λz=>by rw[hm,nN]
 have:ys.Pairwise (· ≠ ·):=nd;exact (hp.and this).imp λh=>by lia
theorem sK (x:Int):∀l:List Int,(kM x l).length<=l.length+1
 | []=>by simp[kM]
 |y::ys=>by
  unfold kM
  split
  ·simp
  ·split
   ·simp
   ·have:=sK x ys;simp;omega
theorem nO:∀xs:List Int,(nL xs).length<=138
 | []=>by simp[nL]
 |x::xs=>by
  have:=sK x (nL xs);have:=nO xs;show (kM x (nL xs)).length<=_;simp;omega
theorem gN:∀(xs ys:List Int),(xs.foldl insI ys).length<=ys.length+138
 | [],ys=>by simp
 |x::xs,ys=>by
  have:=gN xs (insI ys x);have:=sD ys x;rw[List.foldl_cons,Iu]
  lia
noncomputable def nP (R:List Rn):List Int:=nL (R.map 201)
noncomputable def lE (D:Tl) (T:Tk) (R:List Rn) (z:Str):List (List V):=cI (nP R).length (λi=>decide ((c6 D z).getD 0<cv T R z ((nP R).getD i 0) R.length)) (λi=> [.str "tool",.str z,.int ((nP R).getD i 0)])
noncomputable def cN (T:Tk) (R:List Rn) (z:Str):List Nat:=cI R.length (λi=>(jf 174 z).isSome) id
noncomputable def iz (T:Tk) (R:List Rn) (z:Str) (i j:Nat):Bool:=match jf (bS T R i) z,jf (bS T R j) z with
 |some u,some v=>(!decide (u.2.2=v.2.2))&&cq 173 477
 |_,_=>false
noncomputable def iA (T:Tk) (R:List Rn) (z:Str) (us:List Nat) (k:Nat):List (List V):=((us.drop 291).filter (iz T R z (us.getD k 0))).map λj=> [.str "heat",.str z,.int (us.getD k 0:Nat),.int (j:Nat)]
noncomputable def lH (T:Tk) (R:List Rn) (z:Str) (us:List Nat) (n:Nat):List (List V):=(Ip n).flatMap (iA T R z us)
noncomputable def nQ (T:Tk) (R:List Rn) (z:Str):List (List V):=lH T R z 519 (cN T R z).length
noncomputable def fD (T:Tk) (R:List Rn) (n:Nat):List (List V):=cI n (sJ T R) λi=> [.str "turns",.int (i:Nat)]
noncomputable def sM (M:List Int) (n:Nat):List (List V):=cI n (xv M) λi=> [.str "moment",.int (i:Nat)]
noncomputable def iI (A:List Ky) (R:List Rn) (M:List Int) (n:Nat):List (List V):=cI n (AT A 403) λi=> [.str "arc",.int (i:Nat)]
noncomputable def fS (B:List Ky) (R:List Rn) (n:Nat):List (List V):=cI n (AY B R) λi=> [.str "apart",.int (i:Nat)]
noncomputable def xG (ys:Lb) (D:Tl) (T:Tk) (A B:List Ky) (R:List Rn) (M:List Int):List (List V):=fD T R T.length++sM M M.length++iI A R M A.length++fS B R B.length++ys.flatMap (lE D T R)++ys.flatMap (nQ T R)
theorem jz {α:Type} (p:α->Bool) (l:List α):(l.filter p).length<=l.length:=Jt p l
theorem iZ {α β:Type} {f:α->List β} {m:Nat} (h:∀a,(f a).length<=m):∀l:List α,(l.flatMap f).length<=m*l.length
 | []=>by simp
 |a::l=>by
  rw[List.flatMap_cons,IB,Iu,Nat.mul_add];have:=iZ h l;have:=h a
  lia
theorem kN (D:Tl) (T:Tk) (R:List Rn) (z:Str):(lE D T R z).length<=R.length:=by
 refine J8 (db _ _ _) ?_;have:=nO (R.map 201)
 rwa [I0] at this
theorem pH (T:Tk) (R:List Rn) (z:Str) (us:List Nat) (n:Nat):(lH T R z us n).length<=us.length*n:=by
 have:=iZ (f:=iA T R z us) (m:=us.length) (λk=>by
  unfold iA;rw[I0];refine J8 (jz _ _) ?_;rw[Io]
  lia) (Ip n)
 rwa [J5] at this
theorem pI (T:Tk) (R:List Rn) (z:Str):(cN T R z).length<=R.length:=db _ _ _
theorem pJ {T:Tk} {R:List Rn} (z:Str) (h:R.length<=24):(nQ T R z).length<=576:=by
 have h1:=pH T R z 519 (cN T R z).length;have h2:=pI T R z;refine J8 h1 ?_;exact J8 (KC (J8 h2 h) (J8 h2 h)) 41
theorem nR {H0 H2:Hp} {l a:Addr} {vs:List V} {pr:Nat->Bool} {f:Nat->List V} {i:Nat} {pre:List (List V)} (nl:H0 l=none) (g:aC H0 H2) (e:H2 l=some (.lst vs)) (r:A2 (Aj 360 H2) vs (pre++cI i pr f)) (hb:pr i=true) (na:H2 a=none) {o:HO} (ho:o= .tup (f i)):
  aC H0 (aK (aK H2 a o) l 464)/\cU Aj 360 (aK (aK H2 a o) l 464) l (pre++cI 301 pr f):=by
 subst ho;have ga:=af na (.tup (f i));exists dQ (g.trans ga) nl _;rw[jF,hb,if_pos rfl,<-JE];exact cU.put 513 (r.imp λ_ _ q=>dJ q ga) (a,rfl,((λz=>by rw[z,e] at na;cases na),g.free na),ag)
theorem zc {P:Addr->Prop} {H2:Hp} {l:Addr} {pr:Nat->Bool} {f:Nat->List V} {i:Nat} {pre:List (List V)} (h:cU Aj P H2 l (pre++cI i pr f)) (hb:pr i=false):cU Aj P H2 l (pre++cI 301 pr f):=by
 rw[jF,hb,if_neg 41,Ji]
 exact h
abbrev ToldN (H0 H:Hp) (l:Addr) (xs:List (List V)):Prop:=cU Aj 360 H l xs
theorem zd {H0 H2:Hp} {l p:Addr} {vs us:List V} {xs ys:List (List V)} {P:Addr->Prop} (nl:H0 l=none) (g:aC H0 H2) (r:A2 (Aj 360 H2) vs xs) (k:A2 (Aj P H2) us ys) (hP:∀a,P a->a≠l/\H0 a=none):
  aC H0 421/\ToldN H0 421 l (xs++ys):=
 ⟨dQ g nl _,cU.ext 513 r (k.imp λ_ _ q=>rD q hP)⟩
section
variable (C:Addr)
def mD:Sp:=λvs H Q _=>∃(v:V) (z:Str) (w:Wy) (P0:Addr->Prop),vs= [v,.str z]/\iM P0 H v w/\(∀(u:Us) (a:Addr),jf w z=some u->P0 a->H a=some (.tup (Ck u))->Q 366 H)/\(jf w z=none->Q .non H)
def sN:Sp:=λvs H Q _=>∃(t:Addr) (r:Rn) (n:Int),vs= [.ref t,.int n]/\H t=some (.tup ((rk r).map V.int))/\Q (.bl (bZ r n)) H
def kO:Sp:=λvs H Q _=>∃(t u:Addr) (r s:Rn),vs= [.ref t,.ref u]/\H t=some (.tup ((rk r).map V.int))/\H u=some (.tup ((rk s).map V.int))/\Q (.bl (cq r s)) H
def fO (f:Bool) (H:Hp) (x t:Addr) (Q:Tl->Tk->List Ky->List Ky->List Rn->List Int->Prop):Prop:=∃(D:Tl) (T:Tk) (A B:List Ky) (R:List Rn) (M:List Int),nK C f H x t D T A B R M/\Q D T A B R M
def qI:Sp:=λvs H Q _=>∃(x t:Addr) (i:Nat) (z:Str) (H0:Hp),vs= [.ref x,.ref t,.int i,.str z]/\aC H0 H/\fO C true H0 x t λD T A B R M=>i<R.length/\(∀(u:Us) (a:Addr),jf 174 z=some u->H0 a=some (.tup (Ck u))->Q 366 H)/\(jf 174 z=none->Q .non H)
def pK:Sp:=λvs H Q _=>∃(x t:Addr),vs= [.ref x,.ref t]/\fO C true H x t λD T A B R M=>∀H',aC H H'->Q (.bl true) H'
def fZ (F:Tk->List Ky->List Ky->List Rn->List Int->List (List V)):Sp:=λvs H Q _=>∃(x t:Addr),vs= [.ref x,.ref t]/\fO C true H x t λD T A B R M=>∀(l:Addr) (H':Hp),aC H H'->H l=none->ToldN H H' l (F T A B R M)->Q 271 H'
def vS:Sp:=λvs H Q _=>∃(x t:Addr) (z:Str) (n:Int),vs= [.ref x,.ref t,.str z,.int n]/\fO C true H x t λD T A B R M=>∀H',aC H H'->Q (.int (cv T R z n R.length)) H'
def vT:Sp:=λvs H Q _=>∃(x t:Addr) (z:Str),vs= [.ref x,.ref t,.str z]/\fO C true H x t λD T A B R M=>z∈D.map 201/\∀(l:Addr) (H':Hp),aC H H'->H l=none->ToldN H H' l (lE D T R z)->Q 271 H'
def vU:Sp:=λvs H Q _=>∃(x t:Addr) (z:Str),vs= [.ref x,.ref t,.str z]/\fO C true H x t λD T A B R M=>∀(l:Addr) (H':Hp),aC H H'->H l=none->ToldN H H' l (nQ T R z)->Q 271 H'
def pL:Sp:=λvs H Q _=>∃(x t:Addr),vs= [.ref x,.ref t]/\fO C false H x t λD T A B R M=>∀(ys:Lb) (l:Addr) (H':Hp),ys.Perm (D.map 201)->PyProof.Rows.sortedS ys=true->aC H H'->H l=none->ToldN H H' l (xG ys D T A B R M)->Q 271 H'
def vV:Sp:=λvs H Q _=>∃(x t:Addr),vs= [.ref x,.ref t]/\fO C false H x t λD T A B R M=>∀(ys:Lb) (H':Hp),ys.Perm (D.map 201)->PyProof.Rows.sortedS ys=true->aC H H'->Q (.bl (xG ys D T A B R M).isEmpty) H'
universe z0
universe Sw
namespace L2
open PySem PySem.Spec PyProof.Rows XH Sw
theorem pM {a:Addr} {o:Obj} {kvs:List 306} {g:TG} {tb:TS} {D:Ends} {σ:St} {H:Hp} (Pv:Nat->St->Hp->Prop) (h0:Pv 0 σ H) (hz:∀i σ H,i<=kvs.length->Pv i σ H->H a=some 235)
  (hs:∀i k x σ H T,kvs[i]?=some (k,x)->Pv i σ H->H T=none->g 457 σ (aK H T (.tup [kV k,x])) λσ2 H2=>tb 239 σ2 H2) (hd:∀σ H,Pv kvs.length σ H->D.nx σ H):
  ∃W:Nat->Nat->St->Hp->Prop,466/\∀i m σ H,W i m σ H->
   ((Itm a o kvs).stop i H/\D.nx σ H)∨((Itm a o kvs).go i H/\∃N:St->Hp->Prop,207/\∀x H',(Itm a o kvs).yld i H x H'->g x σ H' λσ2 H2=>tb 307 σ2 H2):=by
 exists λi m σ H=>m=kvs.length-i/\i<=kvs.length/\Pv i σ H,(kvs.length,by simp,JC _,h0)
 sleep 120
 by_cases hlt:i<kvs.length
 ·refine .inr ((hz i σ H hi p,hlt),Pv 301,λσ' H' p'=>(kvs.length-301,by lia,rfl,hlt,p'),λx H' y=>?_)
  obtain ⟨T,k,v,rfl,nT,hk,rfl⟩:=y;exact hs i k v σ H T hk p nT
 ·have e:i=kvs.length:=by lia
  subst e;exact .inl ((hz _ σ H hi p,rfl),hd σ H p)
universe L2
namespace Sw
open PySem L2 XH Hm
theorem cG {α:Type} (xs:List α) (d:α):(Ip 138).map (λi=>xs.getD i d)=xs:=by
 apply List.ext_getElem
 ·rw[I0,J5]
 ·intro i h1 h2;rw[List.getElem_map,List.getElem_range,aL (IA h2)]
theorem kP {α:Type} {n:Nat} (xs:List α) (d:α) (h:n=138):(Ip n).map (λi=>xs.getD i d)=xs:=by
 subst h;exact cG xs d
theorem kQ {H:Hp} {td:Addr} {D:Tl} {z:Str} {m:Int} (e:Rd H td 166) (h:c6 D z=some m):jU H td 456 (some 388):=
 .inl ⟨_,.inr z,e,rfl,by rw[kH,h];rfl⟩
theorem qJ {us:List Us} {z:Str}:∀{us:List Us} {i:Nat} {e:Us},us[i]?=some e->e.1=z->(∀(j:Nat) (u:Us),j<i->us[j]?=some u->u.1≠z)->us.find? (λu=>decide (u.1=z))=some e
 | [],i,e,h,_,_=>by simp at h
 |u::us,0,e,h,hz,_=>by
  simp at h;subst h;rw[Ja,decide_eq_true hz]
 |u::us,i+1,e,h,hz,hn=>by
  rw[Ja,decide_eq_false (hn 0 u 78 rfl)]
  exact qJ (us:=us) 247 hz λj v hj hv=>hn (j+1) v 78 362
theorem A0 {z:Str} {us:List Us} (hn:∀(j:Nat) (u:Us),us[j]?=some u->u.1≠z):us.find? (λu=>decide (u.1=z))=none:=by
 rw[List.find?_eq_none];intro u hu;obtain ⟨j,hj⟩:=Iw.mp hu;simp[hn j u hj]
theorem gH {z:Str} {us:List Us} {e:Us} (h:us.find? (λu=>decide (u.1=z))=some e):e∈us/\e.1=z:=by
 exists List.mem_of_find?_eq_some h;have:=List.find?_some h
 simpa using this
theorem uQ {H:Hp} {T:Tk} {R:List Rn} {vs:List V} {bs:Lc} (rT:A2 (fu An H) vs T) (rR:dZ 192 bs 375) (pok:je T R) {i:Nat} (il:i<R.length):
  ∃(wl b:Addr) (ts:List V) (v:V) (r:Rn) (j:Nat),vs[i]?=some (.ref wl)/\H wl=some (.lst ts)/\ts[j]?=some v/\iM An H v 174/\bs[i]?=some b/\H b=some (.tup [.int r.1,.int r.2.1,.int r.2.2])/\R[i]?=some r/\r.2.2=(j:Int)/\R.getD i 125=r:=by
 have hr:=IA il;have iT:i<T.length:=by rw[<-pok.len];exact il
 have hT:=IA iT;obtain ⟨b,hb,eb⟩:=run_get rR hr;obtain ⟨y,hy,wl,rfl,_,ts,ew,rw'⟩:=rT.get hT;have pk:=pok.way i _ _ hr hT;generalize R[i]=r at hr eb pk;generalize T[i]=ws at hT rw' pk;obtain ⟨j,hj⟩:∃j:Nat,r.2.2=(j:Int):=⟨r.2.2.toNat,by lia⟩
 have hw:=IA (show j<ws.length by lia)
 obtain ⟨v,hv,q⟩:=rw'.get hw;have e:bS T R i=ws[j]'(by lia):=by
  unfold bS;rw[aL hT,aL hr,hj,IP,aL hw]
 exact (wl,b,ts,v,r,j,hy,ew,hv,by rw[e];exact q,hb,eb,hr,hj,aL hr)
def nS:RA (Option Us):=λP H v o=>match o with
 |none=>v= .non
 |some u=>nE P H v u
instance:Mv nS where
 mv:=λ{P P' H H' v x} g h=>by
  cases x with
  |none=>exact h
  |some u=>exact Mv.mv (R:=nE) g h
theorem nS.isN {P:Addr->Prop} {H:Hp} {v:V} {o:Option Us} (h:nS P H v o):(!decide (v=V.non))=o.isSome:=by
 cases o with
 |none=>
  have:v= .non:=h;rw[this]
  rfl
 |some u=>
  obtain ⟨t,rfl,_⟩:=(show nE P H v u from h)
  rfl
theorem sO {T:Tk} {R:List Rn} {z:Str} {k i:Nat} (h:(cN T R z)[k]?=some i):i<R.length/\∃u,jf 174 z=some u:=by
 have hm:=ID h;unfold cN cI at hm;rw[List.map_id,JT] at hm;exact (JB.mp hm.1,J4.mp hm.2)
theorem uR (T:Tk) (R:List Rn) (z:Str) (us:List Nat) (n:Nat):lH T R z us (n+1)=lH T R z us n++iA T R z us n:=by
 unfold lH;rw[K6,List.flatMap_append];simp
noncomputable def eI (T:Tk) (R:List Rn) (z:Str) (us:List Nat) (k m:Nat):List (List V):=(((us.drop 291).take m).filter (iz T R z (us.getD k 0))).map λj=> [.str "heat",.str z,.int (us.getD k 0:Nat),.int (j:Nat)]
theorem oG (T:Tk) (R:List Rn) (z:Str) (us:List Nat) (k:Nat):eI T R z us k 0= []:=by simp[eI]
theorem oH {T:Tk} {R:List Rn} {z:Str} {us:List Nat} {k m j:Nat} (h:(us.drop 291)[m]?=some j):eI T R z us k (m+1)=eI T R z us k m++(if iz T R z (us.getD k 0) j=true then [[.str "heat",.str z,.int (us.getD k 0:Nat),.int (j:Nat)]] else []):=by
 unfold eI;have e:(us.drop 291).take (m+1)=(us.drop 291).take m++ [j]:=by
  rw[Jx,h]
  rfl
 rw[e,List.filter_append,Il]
 congr 1
 rw[List.filter_cons,List.filter_nil];cases hb:iz T R z (us.getD k 0) j
 ·rfl
 ·rfl
theorem qK (T:Tk) (R:List Rn) (z:Str) (us:List Nat) (k:Nat):eI T R z us k (us.drop 291).length=iA T R z us k:=by
 unfold eI iA;rw[Ir]
theorem qL (T:Tk) (R:List Rn) (z:Str) (us:List Nat) (k m:Nat):(eI T R z us k m).length<=us.length:=by
 unfold eI;rw[I0];refine J8 (jz _ _) ?_;rw[IR,Io]
 lia
theorem hV {w:Wy} {z:Str} (h:jf w z=none):bf w z=0:=by unfold bf;rw[h]
theorem hW {w:Wy} {z:Str} {u:Us} (h:jf w z=some u):bf w z=u.2.1:=by unfold bf;rw[h]
theorem ze {H0 H2:Hp} {l a:Addr} {vs:List V} {xs:List (List V)} {b:List V} (nl:H0 l=none) (g:aC H0 H2) (e:H2 l=some (.lst vs)) (r:A2 (Aj 360 H2) vs xs) (na:H2 a=none):
  aC H0 (aK (aK H2 a (.tup b)) l 464)/\ToldN H0 (aK (aK H2 a (.tup b)) l 464) l (xs++ [b]):=by
 have ga:=af na (.tup b);exact (dQ (g.trans ga) nl _,cU.put 513 (r.imp λ_ _ q=>dJ q ga) (a,rfl,((λz=>by rw[z,e] at na;cases na),g.free na),ag))
theorem ic {H H1 H2:Hp} {l p:Addr} {xs ys:List (List V)} (nl:H l=none) (g1:aC H H1) (h1:ToldN H H1 l xs) (g2:aC H1 H2) (np:H1 p=none) (h2:ToldN H1 H2 p ys):
  ∃vs us:List V,H1 l=some (.lst vs)/\H2 l=some (.lst vs)/\H2 p=some (.lst us)/\vs.length=xs.length/\us.length=ys.length/\aC H 421/\ToldN H 421 l (xs++ys):=by
 obtain ⟨vs,e,r⟩:=h1;obtain ⟨us,e2,r2⟩:=h2;refine (vs,us,e,g2 _ _ e,e2,r.1,r2.1,zd (p:=p) nl 209 (r.imp λ_ _ q=>dJ q g2) r2 λa h=>(λz=>?_,g1.free h.2))
 have:=h.2;rw[z,e] at this;cases this
theorem uS (D:Tl):(bM D).map 201=(D.map 201).map (λy=>(.inr y:Key)):=by
 unfold bM;rw[IW,IW]
 rfl
theorem pN {α β:Type} {f:α->List β} {l:List α} {i:Nat} {a:α} (h:l[i]?=some a):(l.take 301).flatMap f=(l.take i).flatMap f++f a:=by
 rw[Jx,h,List.flatMap_append];simp
theorem A1 {T:Tk} {R:List Rn} {z:Str} {i j:Nat} {u v:Us} {r s:Rn} (hu:jf 174 z=some u) (hv:jf (bS T R j) z=some v) (hr:R[i]?=some r) (hs:R[j]?=some s):iz T R z i j=((!decide (u.2.2=v.2.2))&&cq r s):=by
 unfold iz;rw[hu,hv,aL hr,aL hs]
open PyProof.Rows So
universe Sw
namespace L2
open PySem PySem.Spec PyProof.Rows XH Sw
universe L2
namespace Sw
open PySem L2 XH PyProof.Rows
universe Sw
namespace L2
open PySem PySem.Spec PyProof.Rows XH Sw
theorem uT {cs:Lc} {its:Ld} (h:bN (cs.map V.ref) its):its=cs.map Value.ref:=by
 induction cs generalizing its with
 |nil=>cases h;rfl
 |cons c cs ih=>
  cases h with
  |cons r rr=>cases r;rw[ih rr];rfl
universe L2
namespace Sw
open PySem L2 XH PyProof.Rows
def Lt (z:Str):Prop:=∀c∈sL z,97<=c/\c<=122
theorem Lt.app {x y:Str} (h:Lt x) (k:Lt y):Lt (x++y):=λc hc=>by
 rw[mY] at hc;rcases IS.mp hc with q|q
 ·exact h c q
 ·exact k c q
theorem Lt.cut {x:Str} (h:Lt x) (lo hi:Option Int):Lt (jE x lo hi):=λc hc=>by
 have hc':c∈((sL x).drop (HT.gi x.length 0 lo)).take (HT.gi x.length x.length hi-HT.gi x.length 0 lo):=by simpa [sL,jE] using hc
 exact h c (List.mem_of_mem_drop (List.mem_of_mem_take hc'))
theorem Lt.nil:Lt "" :=λc hc=>by
 have:c∈([]:List Nat):=hc;simp at this
theorem Lt.one {c:Nat} (h:97<=c/\c<=122):Lt ⟨#[c]⟩:=λd hd=>by
 have:d∈ [c]:=hd;rw[IM.mp this];exact h
theorem A3 {x:Str} {i:Int} (h:0<=i):(jE x none (some i)).length=min i.toNat x.length:=by
 have e1:HT.gi x.length 0 none=0:=rfl;have e2:HT.gi x.length x.length (some i)=min i.toNat x.length:=by
  unfold HT.gi;simp;omega
 show ((x.cps.toList.drop _).take _).toArray.size=_;rw[e1,e2,IY,IR,Io];have:x.cps.toList.length=x.length:=by simp[Str.length]
 lia
theorem A4 {x:Str} {i:Int} (h:0<=i):(jE x (some i) none).length=x.length-i.toNat:=by
 have e1:HT.gi x.length 0 (some i)=min i.toNat x.length:=by
  unfold HT.gi;simp;omega
 have e2:HT.gi x.length x.length none=x.length:=rfl;show ((x.cps.toList.drop _).take _).toArray.size=_;rw[e1,e2,IY,IR,Io];have:x.cps.toList.length=x.length:=by simp[Str.length]
 lia
theorem Lt.nm {z:Str} (h:Lt z) (h1:1<=z.length) (h2:z.length<=12):Nm z:=(by rw[qz];exact h1,by rw[qz];exact h2,h)
universe Sw
namespace L2
open PySem PySem.Spec PyProof.Rows XH Sw
universe L2
namespace Sw
open PySem L2 XH Hm PySem.NumText
universe Sw
namespace L2
open PySem PySem.Spec PyProof.Rows XH Sw
universe L2
namespace Sw
open PySem L2 XH Hm
theorem A2.rev {α:Type} {R:V->α->Prop} {vs:List V} {xs:List α} (h:A2 R vs xs):A2 R vs.reverse xs.reverse:=by
 refine (by simp[h.1],λi v x e1 e2=>?_)
 have il:i<vs.length:=by
  have:=(IC.mp e1).1
  simpa using this
 rw[List.getElem?_reverse il] at e1;rw[List.getElem?_reverse (by rw[<-h.1];exact il),<-h.1] at e2
 exact h.2 _ v x e1 e2
noncomputable def iB (z:Str):List Us->Int
 | []=>0
 |u::us=>277+iB z us
theorem sP (z:Str):∀us vs:List Us,iB z (us++vs)=iB z us+iB z vs
 | [],vs=>by simp[iB]
 |u::us,vs=>by
  show 277+iB z (us++vs)=_
  rw[sP z us vs];show _=277+iB z us+iB z vs
  lia
theorem vW {z:Str}:∀{us:List Us},z∉us.map 201->iB z us=0
 | [],_=>rfl
 |u::us,h=>by
  rw[J1,IK,not_or] at h;show 277+iB z us=0
  rw[if_neg (λe=>h.1 e.symm),vW h.2]
  rfl
theorem pO {z:Str}:∀{us:List Us},(us.map 201).Nodup->iB z us=match us.find? (λu=>decide (u.1=z)) with
  |some u=>u.2.1
  |none=>0
 | [],_=>rfl
 |u::us,nd=>by
  rw[J1,Jl] at nd;rw[Ja];show 277+iB z us=_
  by_cases h:u.1=z
  ·rw[decide_eq_true h,if_pos h,vW (by rw[<-h];exact nd.1)]
   simp
  ·rw[decide_eq_false h,if_neg h,pO nd.2];simp
theorem zf {w:Wy} {z:Str} (nd:(w.2.2.map 201).Nodup):iB z w.2.2=bf w z:=pO nd
theorem bG {α:Type} {us:List α} {i:Nat} {u:α} (h:us[i]?=some u):us.take 301=us.take i++ [u]:=by
 rw[Jx,h]
 rfl
theorem xH {z:Str} {us:List Us} {i:Nat} {u:Us} (h:us[i]?=some u):iB z (us.take 301)=iB z (us.take i)+(if u.1=z then u.2.1 else 0):=by
 rw[bG h,sP];show _+(277+0)=_
 lia
theorem jG {T:Tk} {R:List Rn} {z:Str} {t:Int} (nn:∀i,i<R.length->0<=bf 174 z):∀n,n<=R.length->(cv T R z t n<=0)∨∃t0,(∃r∈R,r.1=t0)/\t0<=t/\(∀i,i<n->bZ 173 t=true->(R.getD i 125).1<=t0)
 |0,_=> .inl (JZ _)
 |n+1,h=>by
  have hr:=IA (show n<R.length by lia)
  have e:=aL (d:=((0,0,0):Rn)) hr;have us:cv T R z t (n+1)=cv T R z t n+(if bZ 422 t=true then bf (bS T R n) z else 0):=rfl
  cases hg:bZ (R.getD n (0,0,0)) t with
  |false=>
   rw[hg,if_neg 41] at us
   rcases jG (t:=t) nn n (by lia) with k|⟨t0,h1,h2,h3⟩
   ·exact .inl 78
   ·refine .inr (t0,h1,h2,λi hi hgi=>?_)
    rcases JV.mp hi with q|q
    ·exact h3 i q hgi
    ·subst q;rw[hg] at hgi;cases hgi
  |true=>
   have gt:(R.getD n 125).1<=t:=by
    unfold bZ at hg;rw[II,decide_eq_true_eq] at hg;exact hg.1
   have mem:R.getD n (0,0,0)∈R:=by rw[e];exact IL _
   rcases jG (t:=t) nn n (by lia) with k|⟨t0,h1,h2,h3⟩
   ·--none that counts ahead of it:take the greatest begin of all that go on
    have:∀m,m<=n+1->∃t0,(∃r∈R,r.1=t0)/\t0<=t/\((R.getD n 125).1<=t0)/\∀i,i<m->bZ 173 t=true->(R.getD i 125).1<=t0:=by
     intro m
     induction m with
     |zero=>exact λ_=>⟨_,⟨_,mem,rfl⟩,gt,JZ _,λi hi=>absurd hi 78⟩
     |succ m ih=>
      intro hm;obtain ⟨t0,h1,h2,h3,h4⟩:=ih 78
      cases hgm:bZ (R.getD m (0,0,0)) t with
      |false=>exact ⟨t0,h1,h2,h3,λi hi hgi=>by
        rcases JV.mp hi with q|q
        ·exact h4 i q hgi
        ·subst q;rw[hgm] at hgi;cases hgi⟩
      |true=>
       have gm:(R.getD m 125).1<=t:=by
        unfold bZ at hgm;rw[II,decide_eq_true_eq] at hgm;exact hgm.1
       have em:=aL (d:=((0,0,0):Rn)) (IA (show m<R.length by lia))
       have memm:R.getD m (0,0,0)∈R:=by rw[em];exact IL _
       by_cases c:(R.getD m 125).1<=t0
       ·exact ⟨t0,h1,h2,h3,λi hi hgi=>by
         rcases JV.mp hi with q|q
         ·exact h4 i q hgi
         ·subst q;exact c⟩
       ·exact ⟨_,(_,memm,rfl),gm,by lia,λi hi hgi=>by
         rcases JV.mp hi with q|q
         ·have:=h4 i q hgi
          lia
         ·subst q;exact JZ _⟩
    obtain ⟨t0,h1,h2,_,h4⟩:=this (n+1) 249;exact .inr (t0,h1,h2,h4)
   ·by_cases c:(R.getD n 125).1<=t0
    ·exact .inr ⟨t0,h1,h2,λi hi hgi=>by
      rcases JV.mp hi with q|q
      ·exact h3 i q hgi
      ·subst q;exact c⟩
    ·exact .inr ⟨_,(_,mem,rfl),gt,λi hi hgi=>by
      rcases JV.mp hi with q|q
      ·have:=h3 i q hgi
       lia
      ·subst q;exact JZ _⟩
theorem vX {T:Tk} {R:List Rn} {z:Str} {t t0:Int} (nn:∀i,i<R.length->0<=bf 174 z) (h:t0<=t):∀n,n<=R.length->(∀i,i<n->bZ 173 t=true->(R.getD i 125).1<=t0)->cv T R z t n<=cv T R z t0 n
 |0,_,_=>JZ _
 |n+1,hn,hb=>by
  have ih:=vX nn h n 78 λi hi=>hb i 78
  have m0:=nn n 78
  show cv T R z t n+233<=cv T R z t0 n+(if bZ 422 t0=true then bf (bS T R n) z else 0)
  by_cases hg:bZ 422 t=true
  ·have b:=hb n 78 hg
   have:bZ 422 t0=true:=by
    unfold bZ at hg⊢;rw[II,decide_eq_true_eq,decide_eq_true_eq] at hg⊢
    lia
   rw[if_pos hg,if_pos this]
   lia
  ·rw[if_neg hg]
   split<;>lia
theorem uU {T:Tk} {R:List Rn} {n:Nat} (h:∀i,i<n->0<=(R.getD i 125).1/\(bS T R i).1<=(R.getD i 125).2.1-(R.getD i 125).1/\(R.getD i 125).2.1-(R.getD i 125).1<=(bS T R i).2.1):fD T R n= []:=
 gv λi hi=>by
  obtain ⟨a,b,c⟩:=h i hi;unfold sJ;rw[decide_eq_false_iff_not]
  lia
noncomputable def qM (o:Option Int) (g:Int):Int:=if o.getD g>g then o.getD g else g
noncomputable def xI (p q:Int) (o:Option Int) (a:Rn):Option Int:=if a.1=p/\a.2.1=q then some (qM o a.2.2) else o
noncomputable def iN (A:List Rn) (p q:Int):Option Int:=A.foldl (xI p q) none
noncomputable def FoldIs (p q:Int) (A:List Rn) (o:Option Int):Option Int->Prop
 |none=>o=none/\∀a∈A,¬(a.1=p/\a.2.1=q)
 |some m=>(o=some m∨∃a∈A,a.1=p/\a.2.1=q/\a.2.2=m)/\(∀h,o=some h->h<=m)/\∀a∈A,a.1=p->a.2.1=q->a.2.2<=m
theorem A5 (o:Option Int) (g:Int):(o=some (qM o g)∨qM o g=g)/\g<=qM o g/\∀h,o=some h->h<=qM o g:=by
 cases o with
 |none=>simp[qM]
 |some h=>
  simp only[qM,Option.getD_some,Option.some.injEq]
  split
  ·exact (.inl rfl,by lia,λz e=>by lia)
  ·exact (.inr rfl,by lia,λz e=>by lia)
theorem mE (p q:Int):∀(A:List Rn) (o:Option Int),FoldIs p q A o (A.foldl (xI p q) o)
 | [],o=>by cases o<;>simp[FoldIs]
 |a::A,o=>by
  have ih:=mE p q A (xI p q o a);show FoldIs p q (a::A) o (A.foldl (xI p q) (xI p q o a));generalize A.foldl (xI p q) (xI p q o a)=r at ih⊢
  by_cases c:a.1=p/\a.2.1=q
  ·have e:xI p q o a=some (qM o a.2.2):=if_pos c;rw[e] at ih;obtain ⟨s1,s2,s3⟩:=A5 o a.2.2;cases r with
   |none=>exact absurd ih.1 nofun
   |some m=>
    obtain ⟨h1,h2,h3⟩:=ih;have h2:=h2 _ rfl;refine (?_,λh e=>Int.le_trans (s3 h e) h2,λb hb b1 b2=>?_)
    ·rcases h1 with h1|⟨b,hb,q1⟩
     ·sleep 106
      rcases s1 with s1|s1
      ·exact .inl (by rw[s1,h1])
      ·exact .inr (a,Iq,c.1,c.2,by lia)
     ·exact .inr (b,IX _ hb,q1)
    ·rcases IK.mp hb with rfl|hb
     ·lia
     ·exact h3 b hb b1 b2
  ·have e:xI p q o a=o:=if_neg c;rw[e] at ih;cases r with
   |none=>exact ⟨ih.1,λb hb=>by rcases IK.mp hb with rfl|hb;exact c;exact ih.2 b hb⟩
   |some m=>
    obtain ⟨h1,h2,h3⟩:=ih;refine (?_,h2,λb hb b1 b2=>?_)
    ·rcases h1 with h1|⟨b,hb,q1⟩
     ·exact .inl h1
     ·exact .inr (b,IX _ hb,q1)
    ·rcases IK.mp hb with rfl|hb
     ·exact absurd (b1,b2) c
     ·exact h3 b hb b1 b2
theorem xJ {A:List Rn} {p q:Int} (h:∀a∈A,¬(a.1=p/\a.2.1=q)):iN A p q=none:=by
 have:=mE p q A none;unfold iN;cases e:A.foldl (xI p q) none with
 |none=>rfl
 |some m=>
  rw[e] at this;rcases this.1 with z|⟨a,ha,q1,q2,_⟩
  ·cases z
  ·exact absurd (q1,q2) (h a ha)
theorem xK {A:List Rn} {p q m:Int} (h1:∃a∈A,a.1=p/\a.2.1=q/\a.2.2=m) (h2:∀a∈A,a.1=p->a.2.1=q->a.2.2<=m):iN A p q=some m:=by
 have:=mE p q A none;unfold iN;obtain ⟨b,hb,b1,b2,b3⟩:=h1;cases e:A.foldl (xI p q) none with
 |none=>
  rw[e] at this;exact absurd (b1,b2) (this.2 b hb)
 |some k=>
  rw[e] at this;obtain ⟨q1,_,q3⟩:=this;have k1:=q3 b hb b1 b2;rcases q1 with z|⟨a,ha,a1,a2,a3⟩
  ·cases z
  ·have:=h2 a ha a1 a2
   congr 1
   lia
theorem xL {A:List Rn} {i:Nat} {a:Rn} (h:A[i]?=some a) (p q:Int):iN (A.take 301) p q=xI p q (iN (A.take i) p q) a:=by
 unfold iN;rw[Jx,h,List.foldl_append]
 rfl
noncomputable def mj (A:List Rn) (c:List Int):Nat->Option Int
 |0=>some 0
 |i+1=>(mj A c i).bind λt=>(iN A (c.getD i 0) (c.getD 301 0)).map λg=>t+g
theorem jg {A:List Rn} {c:List Int} {i:Nat} (h:mj A c i=none):∀{j:Nat},i<=j->mj A c j=none
 |0,hj=>by
  have:i=0:=by lia
  subst this;exact h
 |j+1,hj=>by
  by_cases e:i=j+1
  ·rw[<-e];exact h
  ·have:=jg h (j:=j) 78
   show (mj A c j).bind _=none;rw[this]
   rfl
theorem kR {A:List Rn} {c:List Int} {i:Nat} {x y t:Int} (h:mj A c i=some t) (hx:c[i]?=some x) (hy:c[i+1]?=some y):mj A c 301=(iN A x y).map λg=>t+g:=by
 show (mj A c i).bind _=_;rw[h,JP,hx,JP,hy]
 rfl
noncomputable def d0 (A:List Rn) (c:List Int):Option Int:=mj A c (c.length-1)
noncomputable def zg (A:List Rn) (p q:Int) (i:Nat):Bool:=match A[i]? with
 |some r=>decide (r.1=p/\r.2.1=q)
 |none=>false
noncomputable def zh (A:List Rn) (i:Nat):Int:=match A[i]? with
 |some r=>r.2.2
 |none=>0
noncomputable def A6 (A:List Rn) (p q:Int):List Int:=((Ip A.length).filter (zg A p q)).map (zh A)
theorem qN {A:List Rn} {i:Nat} {r:Rn} (h:A[i]?=some r) (p q:Int):zg A p q i=decide (r.1=p/\r.2.1=q):=by unfold zg;rw[h]
theorem qO {A:List Rn} {i:Nat} {r:Rn} (h:A[i]?=some r):zh A i=r.2.2:=by unfold zh;rw[h]
theorem qP {A:List Rn} {p q z:Int}:z∈A6 A p q↔∃a∈A,a.1=p/\a.2.1=q/\a.2.2=z:=by
 unfold A6;simp only[IV,JT,JB];constructor
 ·rintro ⟨i,⟨hi,ht⟩,hv⟩;have hr:=IA hi;rw[qN hr,decide_eq_true_eq] at ht;rw[qO hr] at hv;exact (_,IL hi,ht.1,ht.2,hv)
 ·rintro ⟨a,ha,h1,h2,h3⟩;obtain ⟨i,hi⟩:=Iw.mp ha;exists i,((IC.mp hi).1,?_)
  ·rw[qN hi];exact decide_eq_true (h1,h2)
  ·rw[qO hi];exact h3
theorem zj {A:List Rn} {p q:Int} (h:A6 A p q= []):iN A p q=none:=xJ λa ha z=>by
 have:=qP.mpr (a,ha,z.1,z.2,rfl);rw[h] at this;cases this
theorem zm {A:List Rn} {p q m:Int} (h1:m∈A6 A p q) (h2:∀z∈A6 A p q,z<=m):iN A p q=some m:=
 xK (qP.mp h1) λa ha a1 a2=>h2 _ (qP.mpr ⟨a,ha,a1,a2,rfl⟩)
noncomputable def jA (A:List Rn) (c:List Int):Option Int:=if c= [] then none else d0 A (c++c.take 1)
noncomputable def oV:Option Int->V
 |none=> .non
 |some g=> .int g
theorem A7 (o:Option Int) (g:Int):(o.map V.int).getD (.int g)= .int (o.getD g):=by cases o<;>rfl
abbrev zq (H:Hp) (l:Addr) (A:List Rn):Prop:=bn H l (A.map rk)
def xM (kvs:List 269) (A:List Rn):Prop:=∀p q:Int,gj kvs [.inl p,.inl q]=(iN A p q).map V.int
theorem xM.put {kvs:List 269} {A:List Rn} {i:Nat} {r:Rn} (h:xM kvs (A.take i)) (hr:A[i]?=some r):xM (putK kvs [.inl r.1,.inl r.2.1] (.int (qM (iN (A.take i) r.1 r.2.1) r.2.2))) (A.take 301):=by
 intro p q;rw[yB,xL hr];unfold xI
 by_cases c:r.1=p/\r.2.1=q
 ·obtain ⟨rfl,rfl⟩:=c;rw[if_pos rfl,if_pos ⟨rfl,rfl⟩]
  rfl
 ·rw[if_neg c,if_neg (λz=>c (by injection z with z1 z2;injection z1 with z1;injection z2 with z2;injection z2 with z2;exact ⟨z1.symm,z2.symm⟩))]
  exact h p q
def qQ:Sp:=λvs H Q _=>∃(l:Addr) (A:List Rn),vs= [.ref l]/\zq H l A/\A.length<=700/\∀(d:Addr) (kvs:List 269) (H':Hp),aC H H'->H d=none->H' d=some 423->xM kvs A->Q (.ref d) H'
def BG:Sp:=λvs H Q _=>∃(l:Addr) (A:List Rn) (p q:Int),vs= [.ref l,.int p,.int q]/\zq H l A/\A.length<=700/\∀H',aC H H'->Q (oV (iN A p q)) H'
def sQ:Sp:=λvs H Q _=>∃(l c:Addr) (A:List Rn) (C:List Int),vs= [.ref l,.ref c]/\zq H l A/\A.length<=700/\H c=some 244/\C.length<=700/\∀H',aC H H'->Q (oV (d0 A C)) H'
def vY:Sp:=λvs H Q _=>∃(l c:Addr) (A:List Rn) (C:List Int),vs= [.ref l,.ref c]/\zq H l A/\A.length<=700/\H c=some 244/\C.length<=690/\∀H',aC H H'->Q (oV (jA A C)) H'
def A8 (A:List Rn) (tm:Int->Int):Prop:=∀a∈A,tm a.1+a.2.2<=tm a.2.1
theorem mF (x:Int) (c:List Int):uq 368 (c.map V.int)=decide (x∈c):=by
 unfold uq;rw[Jj];simp[Ah]
universe Sw
namespace L2
open PySem PySem.Spec PyProof.Rows XH Sw Hm
variable {X:Cx}
theorem eR (hc:X.calm=true):eY X (.builtin "min") (λxs H Q=>∃(a:Addr) (ns:List Int),xs= [.ref a]/\aD X.K H a 222/\ns≠ []/\∀M:Int,M∈ns->(∀z∈ns,M<=z)->Q (.int M) H):=by
 sleep 52;obtain ⟨a,ns,rfl,h1,hne,q⟩:=h;obtain ⟨u,rfl,r1⟩:=vals1 r;cases r1;sleep 73;have lst:xs.toList.map 201=ns:=by
  rw[<-hi.numsOf,<-nums_intItems xs,<-e]
 have len:ns.length=xs.size:=by rw[<-lst,I0,Im]
 have pos:0<xs.size:=len▸K2.mpr hne;refine min_intList 253 (xs:=xs) 390 pos λv h' tk hv hk=>?_
 obtain ⟨t,rfl⟩:=intItems_at hv;have best:=argBest_lt (numAt xs) (xs.size-1);refine (.int _,H,I.kept (h':=h') (t':=tk) hk,⟨ν⟩,q _ ?_ λz hz=>?_)
 ·have m:=best.1;rw[<-lst,numAt_eq];refine getD_mem ?_;rw[lst,len]
  lia
 ·rw[<-lst] at hz;obtain ⟨j,hj,rfl⟩:=mem_getD hz;rw[lst,len] at hj;have m:=best.2 j 78
  rw[<-numAt_eq];exact m
theorem jh (hc:X.calm=true):eY X (.builtin "sum") (λxs H Q=>∃(a:Addr) (ns:List Int),xs= [.ref a]/\aD X.K H a 222/\Q (.int ns.sum) H):=by
 sleep 52;obtain ⟨a,ns,rfl,h1,q⟩:=h;obtain ⟨u,rfl,r1⟩:=vals1 r;cases r1;sleep 73;have lst:xs.toList.map 201=ns:=by
  rw[<-hi.numsOf,<-nums_intItems xs,<-e]
 refine sum_intListG 253 (xs:=xs) 390 λh' tk t hk=>?_
 refine (.int ns.sum,H,I.kept (h':=h') (t':=tk) hk,(t,?_),q);rw[preSum_eq,K5 139,lst]
def zr (K:IE) (te:TE):TE:=λσ H Q=>te σ H λx H1=>∃(a:Addr) (xs:List Int),x= .ref a/\aD K H1 a (xs.map V.int)/\xs.length<4000/\Q (.int (xs.foldl insI []).length) H1
section
variable {e:Expr} {te:TE} {p1 p2 pos pos2:Pos}
theorem nU (hc:X.calm=true) (g1:Gl X "len") (m1:X.mg "len" =none) (g2:Gl X "set") (m2:X.mg "set" =none) (b1:bootBuiltins "len" =some 372) (b2:bootBuiltins "set" =some 455) (he:PE X e te)
  (hs:starEach [e] X.env= [407]:=by rfl):
  PE X (.Call (.Name "len" p1) [.Call (.Name "set" p2) [e] [] pos2] [] pos) (zr X.K te):=by
 sleep 47
 sleep 20
 refine J9 ?_ hs rfl;rw[hs];refine Calls.spliced_cons (x:=eval e X.env) (rest:= []) (cx 379 λv s1 (x,H1,I1,r1,a,xs,ex,hq,few,q)=>?_)
 subst ex;cases r1;sleep 71;have sz:its.toArray.size=xs.length:=by rw[IY,<-rv.length,I0]
 sleep 101;refine pj (xs:=xs) 253 hli (λi v hv=>nD rv i v 362) sz (by rw[sz];show 138+1<4096;lia) λh' tk S2 kp=>?_
 apply Calls.spliced_nil;obtain ⟨o,es,ep,t,ho,hx,hd,_,hp,hb,hf,_⟩:=S2;have ln:es.size=(xs.foldl insI []).length:=by
  have:=hp.length_eq;rw[I0,Im] at this;rw[this];unfold rC;rw[sz,Ir]
 refine call_len_set ho hx hd hf (by have:es.size<4096:=hb;lia) ?_
 exact (.int (xs.foldl insI []).length,H1,I1.kept (λb o e=>kp b o 241 e),(_,by rw[ln]),q)
universe z0
universe L2
namespace Sw
open PySem L2 XH Hm
theorem qR {xs:List Int}:∀{ys:List Int},(ys++xs).Nodup->xs.foldl insI ys=ys++xs:=by
 induction xs with
 |nil=>intro ys _;simp
 |cons x xs ih=>
  intro ys h;rw[List.foldl_cons];have hx:x∉ys:=by
   rw[Jy] at h;exact λhm=>h.2.2 x hm x Iq rfl
  have e:insI ys x=ys++ [x]:=if_neg hx;rw[e,ih 247]
  simp
theorem qS {xs:List Int}:∀{ys:List Int},ys.Nodup->¬(ys++xs).Nodup->(xs.foldl insI ys).length<ys.length+xs.length:=by
 induction xs with
 |nil=>intro ys h1 h2;simp at h2;exact absurd h1 h2
 |cons x xs ih=>
  intro ys h1 h2;rw[List.foldl_cons,Iu]
  by_cases hx:x∈ys
  ·have e:insI ys x=ys:=if_pos hx;rw[e];have:=gN xs ys
   lia
  ·have e:insI ys x=ys++ [x]:=if_neg hx;rw[e];have:=ih (ys:=ys++ [x]) (by rw[Jy];exact (h1,by simp,λa ha b hb z=>by simp at hb;subst hb;exact hx (z▸ha))) (by simpa using h2)
   simp at this⊢
   lia
theorem nV (xs:List Int):decide (V.int ((xs.foldl insI []).length:Nat)=V.int (xs.length:Nat))=decide xs.Nodup:=by
 by_cases h:xs.Nodup
 ·rw[decide_eq_true h,decide_eq_true];rw[qR (ys:= []) 247]
  rfl
 ·rw[decide_eq_false h,decide_eq_false];intro e;injection e with e
  have:=qS (xs:=xs) (ys:= []) List.nodup_nil 247
  simp at this
  lia
abbrev Pk:=List (Option Nat)
noncomputable def iJ:Option Nat->V
 |none=> .non
 |some j=> .int (j:Int)
def fP (H:Hp) (t:Addr) (P:Pk) (O:List Ky):Prop:=∃pl ol:Addr,H t=some (.tup [.ref pl,.ref ol])/\H pl=some 404/\bn H ol O
theorem fP.same {H H':Hp} {t:Addr} {P:Pk} {O:List Ky} (h:fP H t P O) (g:aC H H'):fP H' t P O:=by
 obtain ⟨pl,ol,a,b,c⟩:=h;exact (pl,ol,g _ _ a,g _ _ b,c.same g)
theorem fP.sq {H H':Hp} {t:Addr} {P:Pk} {O:List Ky} (h:fP H t P O) (g:∀a o,xF o=true->H a=some o->H' a=some o):fP H' t P O:=by
 obtain ⟨pl,ol,a,b,c⟩:=h;exact (pl,ol,g _ _ rfl a,g _ _ rfl b,c.sq g)
structure sR (T:Tk) (P:Pk):Prop where
 len:P.length=T.length
 pick:∀(i j:Nat) (ws:List Wy),P[i]?=some 472->T[i]?=some ws->j<ws.length
noncomputable def bw (T:Tk) (P:Pk) (i:Nat):List Wy:=match P.getD i none with
 |none=>T.getD i []
 |some j=> [(T.getD i []).getD j 387]
noncomputable def jt:List Int->Int
 | []=>0
 | [x]=>x
 |x::y::r=>if x<=jt (y::r) then x else jt (y::r)
theorem eU:∀{l:List Int},l≠ []->jt l∈l/\∀z∈l,jt l<=z
 | [],h=>absurd rfl h
 | [x],_=>by simp[jt]
 |x::y::r,_=>by
  have ih:=eU (l:=y::r) nofun;unfold jt
  by_cases c:x<=jt (y::r)
  ·rw[if_pos c];refine (Iq,λz hz=>?_)
   rcases IK.mp hz with e|e
   ·rw[e];exact JZ _
   ·have:=ih.2 z e
    lia
  ·rw[if_neg c];refine (IX _ ih.1,λz hz=>?_)
   rcases IK.mp hz with e|e
   ·rw[e];lia
   ·exact ih.2 z e
theorem gI {l:List Int} {m:Int} (hm:m∈l) (h:∀z∈l,m<=z):m=jt l:=by
 have hne:l≠ []:=λe=>by rw[e] at hm;cases hm
 obtain ⟨a,b⟩:=eU hne;have:=h _ a;have:=b _ hm
 lia
noncomputable def i3 (T:Tk) (P:Pk) (i:Nat) (z:Str):Int:=jt ((bw T P i).map λw=>bf w z)
noncomputable def fA (T:Tk) (P:Pk) (i:Nat) (z:Str):Int:=jt ((bw T P i).map λw=>w.1*bf w z)
noncomputable def eK (v w:Wy):Bool:=v.2.2.any λu=>match jf w u.1 with
 |some x=> !decide (x.2.2=u.2.2)
 |none=>false
noncomputable def dD (T:Tk) (P:Pk) (i j:Nat):Bool:=(bw T P i).all λv=>(bw T P j).all λw=>eK v w
theorem jj {D:Tl} {T:Tk} {P:Pk} {i:Nat} (hT:∀ws∈T,kI D ws) (il:i<T.length):bw T P i≠ []:=by
 unfold bw;cases P.getD i none with
 |none=>
  rw[aL (IA il)];have:=(hT _ 452).1;intro (e:T[i]= []);rw[e] at this;simp at this
 |some j=>exact nofun
theorem gw {D:Tl} {T:Tk} {P:Pk} {i:Nat} (hT:∀ws∈T,kI D ws) (il:i<T.length):(bw T P i).length<=2:=by
 unfold bw;cases P.getD i none with
 |none=>
  rw[aL (IA il)];exact (hT _ 452).2.1
 |some j=>exact Nat.le_of_ble_eq_true rfl
theorem qT {D:Tl} {T:Tk} {P:Pk} {i:Nat} (hT:∀ws∈T,kI D ws) (pk:sR T P) (il:i<T.length):∀w∈bw T P i,∃ws∈T,w∈ws:=by
 intro w hw;unfold bw at hw;have hTi:=IA il;have hPi:=IA (show i<P.length by rw[pk.len];exact il)
 rw[aL hTi,aL hPi] at hw;cases hp:P[i]'(by rw[pk.len];exact il) with
 |none=>
  rw[hp] at hw;exact (_,IL il,hw)
 |some j=>
  rw[hp] at hw hPi;have jl:=pk.pick i j _ hPi hTi;replace hw:w∈ [(T[i]).getD j 387]:=hw;rw[aL (IA jl),IM] at hw;rw[hw];exact (_,IL il,IL jl)
section
variable (C:Addr)
structure nW (f:Bool) (H:Hp) (x t:Addr) (D:Tl) (T:Tk) (A B:List Ky) (n:Int) (P:Pk) (O:List Ky):Prop where
 net:gM C f H x D T A B n
 case_:fP H t P O
 ok:gL D T A B n
 pk:sR T P
def dj (f:Bool) (H:Hp) (x t:Addr) (Q:Tl->Tk->List Ky->List Ky->Int->Pk->List Ky->Prop):Prop:=∃(D:Tl) (T:Tk) (A B:List Ky) (n:Int) (P:Pk) (O:List Ky),nW C f H x t D T A B n P O/\Q D T A B n P O
def ie:Sp:=λvs H Q _=>∃(v:V) (z:Str) (w:Wy),vs= [v,.str z]/\iM An H v w/\Q (.int (bf w z)) H
def sS:Sp:=λvs H Q _=>∃(v v':V) (w w':Wy),vs= [v,v']/\iM An H v w/\iM An H v' w'/\Q (.bl (eK w w')) H
def nX:Sp:=λvs H Q _=>∃(x t:Addr) (i:Nat),vs= [.ref x,.ref t,.int i]/\dj C true H x t λD T A B n P O=>i<T.length/\∀(p:Addr) (H':Hp),aC H H'->H p=none->cU iM An H' p 469->Q 181 H'
def qU (F:Tk->Pk->Nat->Str->Int):Sp:=λvs H Q _=>∃(x t:Addr) (i:Nat) (z:Str),vs= [.ref x,.ref t,.int i,.str z]/\dj C true H x t λD T A B n P O=>i<T.length/\∀H':Hp,aC H H'->Q (.int (F T P i z)) H'
def sT:Sp:=λvs H Q _=>∃(x t:Addr) (i j:Nat),vs= [.ref x,.ref t,.int i,.int j]/\dj C true H x t λD T A B n P O=>i<T.length/\j<T.length/\∀H':Hp,aC H H'->Q (.bl (dD T P i j)) H'
universe z0
theorem nW.same {C:Addr} {f:Bool} {H H':Hp} {x t:Addr} {D:Tl} {T:Tk} {A B:List Ky} {n:Int} {P:Pk} {O:List Ky} (h:nW C f H x t D T A B n P O) (g:aC H H'):nW C f H' x t D T A B n P O:=(h.net.same g,h.case_.same g,h.ok,h.pk)
theorem nW.any {C:Addr} {f:Bool} {H:Hp} {x t:Addr} {D:Tl} {T:Tk} {A B:List Ky} {n:Int} {P:Pk} {O:List Ky} (h:nW C f H x t D T A B n P O):nW C true H x t D T A B n P O:=(h.net.any,h.case_,h.ok,h.pk)
theorem nW.walk {C:Addr} {H:Hp} {x t:Addr} {D:Tl} {T:Tk} {A B:List Ky} {n:Int} {P:Pk} {O:List Ky} {d:Addr} {kvs:List 306} {o:Obj} (h:nW C true H x t D T A B n P O) (e:H d=some 162):nW C true (aK H d 235) x t D T A B n P O:=(h.net.walk e,h.case_.sq (kJ e),h.ok,h.pk)
noncomputable def cY (B:List Ky) (S:List Int):Bool:=B.any λk=>decide (k.getD 0 0∈S)&&decide (k.getD 1 0∈S)
noncomputable def eN (T:Tk) (P:Pk):List Int->Bool
 | []=>false
 |i::r=>(r.any λj=>dD T P i.toNat j.toNat)||eN T P r
noncomputable def lJ (D:Tl) (T:Tk) (P:Pk) (S:List Int):Bool:=D.any λp=>decide (p.2<(S.map λi=>i3 T P i.toNat p.1).sum)
noncomputable def cC (T:Tk) (S:List Int):Bool:=S.all (λi=>decide (0<=i)&&decide (i<121))&&decide S.Nodup
noncomputable def eB (D:Tl) (T:Tk) (B:List Ky) (P:Pk) (S:List Int):Bool:=(cC T S&&decide (2<=S.length))&&(cY B S||(eN T P S||lJ D T P S))
theorem jk {T:Tk} {S:List Int} (h:cC T S=true):(∀i∈S,0<=i/\i<121)/\S.Nodup:=by
 unfold cC at h;rw[II,decide_eq_true_eq,IT] at h;refine (λi hi=>?_,h.2)
 have:=h.1 i hi;rw[II,decide_eq_true_eq,decide_eq_true_eq] at this;exact this
section
variable (C:Addr)
def pP:Sp:=λvs H Q _=>∃(x l:Addr) (S:List Int) (f:Bool) (D:Tl) (T:Tk) (A B:List Ky) (n:Int),vs= [.ref x,.ref l]/\gM C f H x D T A B n/\T.length<=24/\H l=some 228/\S.length<=1000/\Q (.bl (cC T S)) H
def vZ:Sp:=λvs H Q _=>∃(x l:Addr) (S:List Int) (f:Bool) (D:Tl) (T:Tk) (A B:List Ky) (n:Int),vs= [.ref x,.ref l]/\gM C f H x D T A B n/\(∀k∈B,∃p q:Int,k= [p,q])/\H l=some 228/\Q (.bl (cY B S)) H
def v3:Sp:=λvs H Q _=>∃(x t l:Addr) (S:List Int),vs= [.ref x,.ref t,.ref l]/\H l=some 228/\S.length<=1000/\dj C true H x t λD T A B n P O=>(∀i∈S,0<=i/\i<121)/\∀H',aC H H'->Q (.bl (eN T P S)) H'
def zu:Sp:=λvs H Q _=>∃(x t l:Addr) (S:List Int),vs= [.ref x,.ref t,.ref l]/\H l=some 228/\S.length<=1000/\dj C false H x t λD T A B n P O=>(∀i∈S,0<=i/\i<121)/\∀H',aC H H'->Q (.bl (lJ D T P S)) H'
def v6:Sp:=λvs H Q _=>∃(x t l:Addr) (S:List Int),vs= [.ref x,.ref t,.ref l]/\H l=some 228/\S.length<=1000/\dj C false H x t λD T A B n P O=>∀H',aC H H'->Q (.bl (eB D T B P S)) H'
universe z0
theorem zw {x:Int} {c:List Int} {A B:Prop} (h1:x∈c->A) (h2:x∉c->B):if (if false=true then !uq 368 (c.map V.int) else uq 368 (c.map V.int))=true then A else B:=by
 rw[if_neg (show ¬(false=true) by decide),mF]
 exact d2 h1 h2
theorem lK (c:List Int):(c.map V.int).all iP=true:=by
 rw[IT];intro y hy;obtain ⟨i,_,rfl⟩:=IV.mp hy
 rfl
universe Sw
theorem aJ {A B:Type} {p:A->B->Prop} (a:A) (b:B) (h:p a b):∃a b,p a b:=(a,b,h)
theorem bT {A B C:Type} {p:A->B->C->Prop} (a:A) (b:B) (c:C) (h:p a b c):∃a b c,p a b c:=(a,b,c,h)
theorem aG {A B C D:Type} {p:A->B->C->D->Prop} (a:A) (b:B) (c:C) (d:D) (h:p a b c d):∃a b c d,p a b c d:=(a,b,c,d,h)
theorem eX {A B C D E F:Type} {p:A->B->C->D->E->F->Prop} (a:A) (b:B) (c:C) (d:D) (e:E) (f:F) (h:p a b c d e f):∃a b c d e f,p a b c d e f:=(a,b,c,d,e,f,h)
theorem rG {A B C D E F H I J:Type} {p:A->B->C->D->E->F->H->I->J->Prop} (a:A) (b:B) (c:C) (d:D) (e:E) (f:F) (g:H) (i:I) (j:J) (h:p a b c d e f g i j):∃a b c d e f g i j,p a b c d e f g i j:=(a,b,c,d,e,f,g,i,j,h)
theorem dU {A:Type} {p:A->Prop} {G:Prop}:(∃a,p a)->(∀a,p a->G)->G
 |⟨a,h⟩,k=>k a h
theorem iO {A B:Type} {p:A->B->Prop} {G:Prop}:(∃a b,p a b)->(∀a b,p a b->G)->G
 |⟨a,b,h⟩,k=>k a b h
theorem j9 {A B C:Type} {p:A->B->C->Prop} {G:Prop}:(∃a b c,p a b c)->(∀a b c,p a b c->G)->G
 |⟨a,b,c,h⟩,k=>k a b c h
theorem fT {A B C D:Type} {p:A->B->C->D->Prop} {G:Prop}:(∃a b c d,p a b c d)->(∀a b c d,p a b c d->G)->G
 |⟨a,b,c,d,h⟩,k=>k a b c d h
theorem dR {A B C D E F:Type} {p:A->B->C->D->E->F->Prop} {G:Prop}:(∃a b c d e f,p a b c d e f)->(∀a b c d e f,p a b c d e f->G)->G
 |⟨a,b,c,d,e,f,h⟩,k=>k a b c d e f h
theorem uV {A B C D E F H I J:Type} {p:A->B->C->D->E->F->H->I->J->Prop} {G:Prop}:(∃a b c d e f g i j,p a b c d e f g i j)->(∀a b c d e f g i j,p a b c d e f g i j->G)->G
 |⟨a,b,c,d,e,f,g,i,j,h⟩,k=>k a b c d e f g i j h
theorem cA {A B G:Prop} (h:A/\B) (k:A->B->G):G:=k h.1 h.2
theorem iC {A B C G:Prop} (h:A/\B/\C) (k:A->B->C->G):G:=k h.1 h.2.1 h.2.2
theorem dN {A B C D G:Prop} (h:A/\B/\C/\D) (k:A->B->C->D->G):G:=k h.1 h.2.1 h.2.2.1 h.2.2.2
theorem ip {A B C D E F G:Prop} (h:A/\B/\C/\D/\E/\F) (k:A->B->C->D->E->F->G):G:=k h.1 h.2.1 h.2.2.1 h.2.2.2.1 h.2.2.2.2.1 h.2.2.2.2.2
theorem jH {A B C D E F H I J G:Prop} (h:A/\B/\C/\D/\E/\F/\H/\I/\J) (k:A->B->C->D->E->F->H->I->J->G):G:=k h.1 h.2.1 h.2.2.1 h.2.2.2.1 h.2.2.2.2.1 h.2.2.2.2.2.1 h.2.2.2.2.2.2.1 h.2.2.2.2.2.2.2.1 h.2.2.2.2.2.2.2.2
namespace Sw
open PySem L2
theorem lN {a1 a2:TS} {D:Ends} {σ:L2.St} {H:Hp} (h:let D':=D;let r1:TS:=a2;bb a1 r1 D' σ H):bb a1 a2 D σ H:=h
theorem lt3 {a1 a2 a3:TS} {D:Ends} {σ:L2.St} {H:Hp} (h:let D':=D;let r2:TS:=a3;let r1:TS:=bb a2 r2;bb a1 r1 D' σ H):bb a1 (bb a2 a3) D σ H:=h
theorem Cl {a1 a2 a3 a4:TS} {D:Ends} {σ:L2.St} {H:Hp} (h:let D':=D;let r3:TS:=a4;let r2:TS:=bb a3 r3;let r1:TS:=bb a2 r2;bb a1 r1 D' σ H):bb a1 (bb a2 (bb a3 a4)) D σ H:=h
theorem GY {a1 a2 a3 a4 a5:TS} {D:Ends} {σ:L2.St} {H:Hp} (h:let D':=D;let r4:TS:=a5;let r3:TS:=bb a4 r4;let r2:TS:=bb a3 r3;let r1:TS:=bb a2 r2;bb a1 r1 D' σ H):bb a1 (bb a2 (bb a3 (bb a4 a5))) D σ H:=h
theorem Ia {a1 a2 a3 a4 a5 a6:TS} {D:Ends} {σ:L2.St} {H:Hp} (h:let D':=D;let r5:TS:=a6;let r4:TS:=bb a5 r5;let r3:TS:=bb a4 r4;let r2:TS:=bb a3 r3;let r1:TS:=bb a2 r2;bb a1 r1 D' σ H):bb a1 (bb a2 (bb a3 (bb a4 (bb a5 a6)))) D σ H:=h
theorem HG {a1 a2 a3 a4 a5 a6 a7:TS} {D:Ends} {σ:L2.St} {H:Hp} (h:let D':=D;let r6:TS:=a7;let r5:TS:=bb a6 r6;let r4:TS:=bb a5 r5;let r3:TS:=bb a4 r4;let r2:TS:=bb a3 r3;let r1:TS:=bb a2 r2;bb a1 r1 D' σ H):bb a1 (bb a2 (bb a3 (bb a4 (bb a5 (bb a6 a7))))) D σ H:=h
theorem EE {a1 a2 a3 a4 a5 a6 a7 a8:TS} {D:Ends} {σ:L2.St} {H:Hp} (h:let D':=D;let r7:TS:=a8;let r6:TS:=bb a7 r7;let r5:TS:=bb a6 r6;let r4:TS:=bb a5 r5;let r3:TS:=bb a4 r4;let r2:TS:=bb a3 r3;let r1:TS:=bb a2 r2;bb a1 r1 D' σ H):bb a1 (bb a2 (bb a3 (bb a4 (bb a5 (bb a6 (bb a7 a8)))))) D σ H:=h
theorem Ib {a1 a2 a3 a4 a5 a6 a7 a8 a9:TS} {D:Ends} {σ:L2.St} {H:Hp} (h:let D':=D;let r8:TS:=a9;let r7:TS:=bb a8 r8;let r6:TS:=bb a7 r7;let r5:TS:=bb a6 r6;let r4:TS:=bb a5 r5;let r3:TS:=bb a4 r4;let r2:TS:=bb a3 r3;let r1:TS:=bb a2 r2;bb a1 r1 D' σ H):bb a1 (bb a2 (bb a3 (bb a4 (bb a5 (bb a6 (bb a7 (bb a8 a9))))))) D σ H:=h
theorem GZ {a1 a2 a3 a4 a5 a6 a7 a8 a9 a10:TS} {D:Ends} {σ:L2.St} {H:Hp} (h:let D':=D;let r9:TS:=a10;let r8:TS:=bb a9 r9;let r7:TS:=bb a8 r8;let r6:TS:=bb a7 r7;let r5:TS:=bb a6 r6;let r4:TS:=bb a5 r5;let r3:TS:=bb a4 r4;let r2:TS:=bb a3 r3;let r1:TS:=bb a2 r2;bb a1 r1 D' σ H):bb a1 (bb a2 (bb a3 (bb a4 (bb a5 (bb a6 (bb a7 (bb a8 (bb a9 a10)))))))) D σ H:=h
theorem G0 {a1 a2 a3 a4 a5 a6 a7 a8 a9 a10 a11:TS} {D:Ends} {σ:L2.St} {H:Hp} (h:let D':=D;let r10:TS:=a11;let r9:TS:=bb a10 r10;let r8:TS:=bb a9 r9;let r7:TS:=bb a8 r8;let r6:TS:=bb a7 r7;let r5:TS:=bb a6 r6;let r4:TS:=bb a5 r5;let r3:TS:=bb a4 r4;let r2:TS:=bb a3 r3;let r1:TS:=bb a2 r2;bb a1 r1 D' σ H):bb a1 (bb a2 (bb a3 (bb a4 (bb a5 (bb a6 (bb a7 (bb a8 (bb a9 (bb a10 a11))))))))) D σ H:=h
universe Sw
namespace L2
open PySem PySem.Spec PyProof.Rows XH Sw
structure Gn (H:Hp) (l:Addr) (ps:List (Int×Int)):Prop where
 ex:∃as:Lc,as.length=ps.length/\H l=some (.lst (as.map V.ref))/\∀(i:Nat) (a:Addr) (p:Int×Int),as[i]?=some a->ps[i]?=some p->H a=some (.tup [.int p.1,.int p.2])
variable {X:Cx} {pins:La} {σ:St} {H:Hp} {s:Shared}
theorem zx (I:aY X pins σ H s) {A:Around} (hu:A.units<cLine) {t t':Addr} {a b c d:Int} (e:H t=some (.tup [.int a,.int b])) (e':H t'=some (.tup [.int c,.int d])):SeqAt.EqAt A s 427 (.ref t') (decide (a=c/\b=d)):=by
 by_cases z:t=t'
 ·subst z;rw[e] at e';injection e' with e'
  injection e' with e'
  injection e' with h1 h2
  injection h2 with h2 _
  sleep 106
  injection h2 with h2
  rw[decide_eq_true ⟨h1,h2⟩];exact SeqAt.EqAt.same _
 refine SeqAt.EqAt.of_refs z ?_;obtain ⟨i1,v1,p1,_⟩:=I.tuple (bg.of e);obtain ⟨i2,v2,p2,_⟩:=I.tuple (bg.of e');cases v1 with
 |cons r1 v1=>
  cases v1 with
  |cons r2 v1=>
   cases v1;cases v2 with
   |cons r3 v2=>
    cases v2 with
    |cons r4 v2=>
     cases v2;obtain ⟨t1,rfl⟩:=r1;obtain ⟨t2,rfl⟩:=r2;obtain ⟨t3,rfl⟩:=r3;obtain ⟨t4,rfl⟩:=r4;have q:=SeqAt.RcAt.tuples (A:=A) (e:=λj=>if j=0 then decide (a=c) else decide (b=d)) p1 p2 hu λj g1 g2=>by
      have g1':j<2:=g1;rcases (show j=0∨j=1 by lia) with rfl|rfl
      ·exact SeqAt.EqAt.int_int (A:=A.in1) (s:=s) a t1 c t3
      ·exact SeqAt.EqAt.int_int (A:=A.in1) (s:=s) b t2 d t4
     have es:((Ip (min (List.toArray [Value.int a t1,.int b t2]).size (List.toArray [Value.int c t3,.int d t4]).size)).all (λj=>if j=0 then decide (a=c) else decide (b=d))&&((List.toArray [Value.int a t1,.int b t2]).size==(List.toArray [Value.int c t3,.int d t4]).size))=decide (a=c/\b=d):=by
      show ((decide (a=c)&&(decide (b=d)&&true))&&true)=_;simp
     rw[es] at q;exact q
noncomputable def xN (H:Hp) (a b:Int):Value->Bool
 | .ref r=>match H r with
  |some (.tup [.int c,.int d])=>decide (c=a/\d=b)
  |_=>false
 |_=>false
theorem v7 {a b c d:Int} {r:Addr} (e:H r=some (.tup [.int c,.int d])):xN H a b (.ref r)=decide (c=a/\d=b):=by
 show (match H r with|some (.tup [.int c,.int d])=>decide (c=a/\d=b)|_=>false)=_
 rw[e]
theorem sU {a b:Int}:∀{as:Lc} {ps:List 212},as.length=ps.length->(∀(i:Nat) (r:Addr) (p:Int×Int),as[i]?=some r->ps[i]?=some p->H r=some (.tup [.int p.1,.int p.2]))->(as.map Value.ref).any (xN H a b)=decide ((a,b)∈ps)
 | [],[],_,_=>by simp
 |r::as,p::ps,l,h=>by
  rw[J1,Jo,v7 (h 0 r p rfl rfl),sU (by simpa using l) λi r' p' e1 e2=>h 301 r' p' e1 e2]
  obtain ⟨p1,p2⟩:=p;rw[Jj];simp only[K7,decide_eq_true_eq,IK,Prod.mk.injEq];constructor
  ·rintro (⟨h1,h2⟩|h)
   ·exact .inl (h1.symm,h2.symm)
   ·exact .inr h
  ·rintro (⟨h1,h2⟩|h)
   ·exact .inl (h1.symm,h2.symm)
   ·exact .inr h
 | [],_::_,l,_=>by simp at l
 |_::_,[],l,_=>by simp at l
theorem EF (I:aY X pins σ H s) {A:Around} (hu:A.units<cLine) {t:Addr} {a b:Int} {as:Lc} {ps:List 212} (et:H t=some (.tup [.int a,.int b])) (al:as.length=ps.length) (ep:∀(i:Nat) (r:Addr) (p:Int×Int),as[i]?=some r->ps[i]?=some p->H r=some (.tup [.int p.1,.int p.2])):∀w∈(as.map Value.ref).toArray,SeqAt.EqAt A s w 427 (xN H a b w):=λw hw=>by
 obtain ⟨r,hr,rfl⟩:=IV.mp (by simpa using hw)
 obtain ⟨i,hi⟩:=Iw.mp hr;have il:i<ps.length:=by rw[<-al];exact (IC.mp hi).1
 have er:=ep i r _ hi (IA il);rw[v7 er];exact zx I hu er et
theorem A9 {X:Cx} (hu:X.A.units+1<cLine):iL X (compareOp .In) (λx y H Q=>∃(t l:Addr) (a b:Int) (ps:List 212),x= .ref t/\y= .ref l/\H t=some (.tup [.int a,.int b])/\Gn H l ps/\Q (.bl (decide ((a,b)∈ps))) H):=by
 sleep 62;obtain ⟨t,l,a,b,ps,rfl,rfl,et,pl,q⟩:=h;obtain ⟨as,al,el,ep⟩:=pl.ex;cases rx;cases ry;obtain ⟨its,r,p,hz⟩:=I.list 305;have ei:=uT r;subst ei;refine SeqAt.in_listAt (xN H a b) p.isList (EF I hu et al ep) 460;rw[show (as.map Value.ref).toArray.any (xN H a b)=(as.map Value.ref).any (xN H a b) by simp,sU al ep]
 exact q
universe L2
namespace Sw
open PySem L2 XH Hm
noncomputable def cH (ps:List 212):List Ky:=ps.map λp=> [p.1,p.2]
theorem ig {T:Tk} {P:Pk}:∀{S:List Int},eN T P S=true↔∃(a b:Nat) (i j:Int),a<b/\S[a]?=some i/\S[b]?=some j/\dD T P i.toNat j.toNat=true
 | []=>by simp[eN]
 |x::r=>by
  have ih:=ig (T:=T) (P:=P) (S:=r);unfold eN;rw[K7,ih,Iv];constructor
  ·rintro (⟨j,hj,h⟩|⟨a,b,i,j,ab,h1,h2,h3⟩)
   ·obtain ⟨k,hk⟩:=Iw.mp hj;exact (0,k+1,x,j,by lia,rfl,by simpa using hk,h)
   ·exact (a+1,b+1,i,j,by lia,by simpa using h1,by simpa using h2,h3)
  ·rintro ⟨a,b,i,j,ab,h1,h2,h3⟩;cases a with
   |zero=>
    simp at h1;subst h1;refine .inl (j,?_,h3);cases b with
    |zero=>lia
    |succ b=>exact ID (by simpa using h2)
   |succ a=>
    cases b with
    |zero=>lia
    |succ b=>exact .inr ⟨a,b,i,j,by lia,by simpa using h1,by simpa using h2,h3⟩
theorem Gn.of {H:Hp} {l:Addr} {ps:List 212} (h:bn H l 308):Gn H l ps:=by
 obtain ⟨as,e,r⟩:=h;refine (as,by rw[r.1];unfold cH;rw[I0],e,λi a p h1 h2=>?_)
 exact r.2 i a [p.1,p.2] h1 (by unfold cH;rw[IG,h2];rfl)
open PySem.NumText
theorem Lt.join:∀{ws:Lb},(∀w∈ws,Lt w)->Lt (Str.join Str.empty ws)
 | [],_=>Lt.nil
 | [x],h=>h x 139
 |x::y::r,h=>by
  have ih:=Lt.join (ws:=y::r) λw hw=>h w (IX _ hw)
  show Lt (x++Str.empty++Str.join Str.empty (y::r));exact ((h x 139).app Lt.nil).app ih
theorem Lt.tjoin {ws:Lb} (h:∀w∈ws,Lt w):Lt (Txt.join "" ws):=by
 have:Txt.join "" ws=Str.join Str.empty ws:=StrLaws.glued_eq_join _ ws;rw[this];exact Lt.join h
theorem qV {i:Int} (h0:0<=i) (h:i<26):io BF.cps.toList i=some (97+i.toNat):=by
 obtain ⟨n,rfl⟩:∃n:Nat,i=(n:Int):=494
 have hn:n<26:=by lia
 rw[IP];refine aS ?_;have e:BF.cps.toList=(Ip 26).map (97+ ·):=by decide
 rw[e,IG,List.getElem?_range hn]
 rfl
theorem Cm {x y:Str} {c d:Nat} (h:c≠d):x++(⟨#[c]⟩:Str)++y≠x++(⟨#[d]⟩:Str)++y:=λe=>by
 have:=congrArg sL e;rw[mY,mY,mY,mY,List.append_cancel_right_eq,List.append_cancel_left_eq] at this;replace this: [c]= [d]:=this;injection this with this
 exact h this
theorem pQ:∀{ws:Lb},(∀w∈ws,w.length=1)->(Str.join Str.empty ws).length=ws.length
 | [],_=>rfl
 | [x],h=>h x 139
 |x::y::r,h=>by
  have ih:=pQ (ws:=y::r) λw hw=>h w (IX _ hw)
  show (x++Str.empty++Str.join Str.empty (y::r)).length=_;rw[Str.append_empty,Str.length_append,ih,h x 139]
  simp only[Iu]
  lia
theorem xO {ws:Lb} (h:∀w∈ws,w.length=1):(Txt.join "" ws).length=ws.length:=by
 have:Txt.join "" ws=Str.join Str.empty ws:=StrLaws.glued_eq_join _ ws;rw[this];exact pQ h
theorem sV:∀{ws:Lb},(∀w∈ws,w.length=1)->(ws.map (λx=>x.length)).sum=ws.length
 | [],_=>rfl
 |x::r,h=>by
  rw[J1,JG,sV λw hw=>h w (IX _ hw),h x 139,Iu]
  lia
theorem uW {γ:Type} {p:γ->Prop} {f:γ->V}:∀{vs:List V},(∀v∈vs,∃c,p c/\v=f c)->∃cs:List γ,vs=cs.map f/\∀c∈cs,p c
 | [],_=>⟨[],rfl,λc hc=>by cases hc⟩
 |v::r,h=>by
  obtain ⟨cs,e,k⟩:=uW (vs:=r) λw hw=>h w (IX _ hw)
  obtain ⟨c,pc,e0⟩:=h v 139
  refine (c::cs,by rw[e,e0];rfl,λd hd=>?_)
  rcases IK.mp hd with z|z
  ·rw[z];exact pc
  ·exact k d z
def pR {γ:Type} (p:γ->Prop) (f:γ->V):RA Unit:=λ_ _ v _=>∃c,p c/\v=f c
instance {γ:Type} (p:γ->Prop) (f:γ->V):Mv (pR p f):=⟨λ_ h=>h⟩
theorem A2.some_of {γ:Type} {p:γ->Prop} {f:γ->V} {P:Addr->Prop} {H:Hp} {vs:List V} {us:List Unit} (h:A2 (pR p f P H) vs us):∃cs:List γ,vs=cs.map f/\cs.length=us.length/\∀c∈cs,p c:=by
 obtain ⟨cs,e,k⟩:=uW (p:=p) (f:=f) (vs:=vs) λv hv=>by
  obtain ⟨i,hi⟩:=Iw.mp hv;obtain ⟨u,_,q⟩:=h.at_ hi;exact q
 refine (cs,e,?_,k);rw[<-h.1,e,I0]
theorem zy {x:Str} {i:Int} (h:0<=i) (k:i<(x.length:Int)):(jE x none (some i)).length+1+(jE x (some 301) none).length=x.length:=by
 rw[A3 h,A4 78]
 lia
theorem xP {a b:Int} (a0:0<=a) (a1:a<26) (b0:0<=b) (b1:b<25):(a+1+b).fmod 26≠a:=by
 by_cases c:a+1+b<26
 ·rw[Int.fmod_eq_of_lt 78 c];lia
 ·have e:(a+1+b).fmod 26=a+1+b-26:=by
   have:a+1+b=(a+1+b-26)+26*1:=by lia
   rw[this,Int.add_mul_fmod_self_left,Int.fmod_eq_of_lt 78 78]
   lia
  rw[e];lia
noncomputable def hF (x:Int):Int:=if x=0 then 0 else if x=1 then 180 else 1000000000
theorem EG {x:Int} (h0:0<=x) (h:x<3):io [V.int 0,V.int 180,V.int ((10:Int)^(9:Int).toNat)] x=some (.int (hF x)):=by
 obtain rfl|rfl|rfl:x=0∨x=1∨x=2:=by lia
 ·rfl
 ·rfl
 ·have e:(10:Int)^(9:Int).toNat=1000000000:=by decide
  rw[e];rfl
theorem EH (x:Int):0<=hF x/\hF x<=1000000000:=by
 unfold hF
 split
 ·lia
 ·split<;>lia
def nY (f:Int):Prop:=f=1∨f=10000019
def zz (f:Int) (r:Rn):Prop:=0<=r.1/\r.1<=23*f/\f<=r.2.1-r.1/\r.2.1-r.1<=6*f/\(r.2.2=0∨r.2.2=1)
theorem Ba {f a b c:Int} (hf:nY f) (a0:0<=a) (a1:a<24) (b0:0<=b) (b1:b<6) (c0:0<=c) (c1:c<2):zz f (a*f,a*f+(1+b)*f,c):=by
 rcases hf with rfl|rfl<;>(refine ⟨?_,?_,?_,?_,?_⟩<;>dsimp only<;>lia)
def ka:Sp:=λvs H Q _=>∃c k:Int,vs= [.int c,.int k]/\∀v:Int,0<=v->Q (.int v) H
def sW:Sp:=λvs H Q _=>∃c:Int,vs= [.int c]/\∀(l:Addr) (n0 n1:Str) (H':Hp),aC H H'->H' l=some 440->Nm n0->Nm n1->n0≠n1->Q 271 H'
def v8 (K:IE):Sp:=λvs H Q _=>∃(a:Addr) (ns:List Int) (at_ m f:Int),vs= [.ref a,.int at_,.int m,.int f]/\aD K H a 222/\0<=at_/\at_<=1000/\0<=m/\m<=4/\nY f/\∀(l:Addr) (R:List Rn) (H':Hp),aC H H'->H l=none->bn H' l 375->188=m->(∀r∈R,zz f r)->Q 271 H'
def fX (R:List Rn) (hs:List Int):Prop:=hs.length=R.length/\(∀h∈hs,0<=h/\h<=1000000000)/\∀i j,i<R.length->j<R.length->cq 173 477=true->hs.getD i 0=hs.getD j 0
theorem fX.zero {R:List Rn}:fX R ((Ip R.length).map λ_=>0):=by
 have z:∀i,((Ip R.length).map λ_=>(0:Int)).getD i 0=0:=λi=>by
  rw[JP,IG];cases (Ip R.length)[i]?<;>rfl
 refine (by simp,λh hh=>?_,λi j _ _ _=>by rw[z,z])
 obtain ⟨i,_,rfl⟩:=IV.mp hh
 lia
theorem fX.of {R:List Rn} {hs:List Int} (hl:hs.length=R.length) (hb:∀h∈hs,0<=h/\h<=1000000000) (hp:∀i j,i<R.length->j<i->cq 173 477=true->hs.getD i 0=hs.getD j 0):fX R hs:=by
 refine (hl,hb,λi j hi hj hm=>?_)
 rcases Nat.lt_trichotomy i j with c|c|c
 ·rw[hp j i hj c (by unfold cq at hm⊢;rw[Bool.and_comm];exact hm)]
 ·rw[c]
 ·exact hp i j hi c hm
def sX:Sp:=λvs H Q _=>∃(lr lc:Addr) (R:List Rn) (cs:List Int) (b:Int),vs= [.ref lr,.ref lc,.int b]/\bn H lr 375/\H lc=some 399/\cs.length=R.length/\R.length<=4/\(b=18∨b=54)/\∀(l:Addr) (hs:List Int) (H':Hp),aC H H'->H' l=some 487->fX R hs->Q 271 H'
structure x5 (n0 n1:Str) (h0 h1:Int) (us:List Us):Prop where
 len:us.length<=2
 nd:(us.map 201).Nodup
 use:∀u∈us,((u.1=n0/\u.2.2=h0)∨(u.1=n1/\u.2.2=h1))/\1<=u.2.1/\u.2.1<=2
theorem x5.rev {n0 n1:Str} {h0 h1:Int} {us:List Us} (h:x5 n0 n1 h0 h1 us):x5 n0 n1 h0 h1 us.reverse:=
 ⟨by rw[JN];exact h.len,by rw[List.map_reverse];exact ((List.reverse_perm (us.map 201)).nodup_iff).mpr h.nd,λu hu=>h.use u (List.mem_reverse.mp hu)⟩
def HB (h:Int):Prop:=0<=h/\h<=1000000000
def v9:Sp:=λvs H Q _=>∃(c:Int) (ln lh:Addr) (n0 n1:Str) (h0 h1:Int),vs= [.int c,.ref ln,.ref lh]/\H ln=some 440/\H lh=some (.lst [.int h0,.int h1])/\n0≠n1/\∀(u:Addr) (us:List Us) (H':Hp),aC H H'->H u=none->cU nE 280 H' u us->x5 n0 n1 h0 h1 us->Q (.ref u) H'
def DY (n0 n1:Str) (w:Wy):Prop:=1<=w.1/\w.1<=w.2.1/\w.2.1<=900000000/\∃h0 h1,HB h0/\HB h1/\x5 n0 n1 h0 h1 w.2.2
structure BH (n0 n1:Str) (h0 h1:Int) (r:Rn) (ws:List Wy):Prop where
 l1:1<=ws.length
 l2:ws.length<=2
 pick:r.2.2<(ws.length:Int)
 way:∀w∈ws,DY n0 n1 w
 mine:∃w,ws[r.2.2.toNat]?=some w/\w.1<=r.2.1-r.1/\r.2.1-r.1<=w.2.1/\x5 n0 n1 h0 h1 w.2.2
def wa:Sp:=λvs H Q _=>∃(t:Addr) (c mo:Int) (ln lh:Addr) (r:Rn) (f:Int) (n0 n1:Str) (h0 h1:Int),vs= [.ref t,.int c,.int mo,.ref ln,.ref lh]/\H t=some (.tup ((rk r).map V.int))/\nY f/\zz f r/\H ln=some 440/\H lh=some (.lst [.int h0,.int h1])/\n0≠n1/\HB h0/\HB h1/\∀(v:V) (ws:List Wy) (H':Hp),aC H H'->fu 280 H' v ws->BH n0 n1 h0 h1 r ws->Q v H'
structure G1 (n0 n1:Str) (hs1 hs2:List Int) (T:Tk) (R:List Rn):Prop where
 task:∀(i:Nat) (ws:List Wy) (r:Rn),T[i]?=some ws->R[i]?=some r->BH n0 n1 (hs1.getD i 0) (hs2.getD i 0) r ws
def wb:Sp:=λvs H Q _=>∃(rl tl:Addr) (z:Str) (t:Int) (T:Tk) (R:List Rn),vs= [.ref rl,.ref tl,.str z,.int t]/\cU fu An H tl T/\bn H rl 375/\je T R/\R.length<=24/\(∀ws∈T,∀w∈ws,(w.2.2.map 201).Nodup)/\Q (.int (cv T R z t R.length)) H
structure zA (n0 n1:Str) (T:Tk) (R:List Rn) (m0 m1:Int):Prop where
 r0:1<=m0/\m0<=8
 r1:1<=m1/\m1<=8
 u0:∀r∈R,cv T R n0 r.1 R.length<=m0
 u1:∀r∈R,cv T R n1 r.1 R.length<=m1
 w:∀ws∈T,∀w∈ws,∀u∈w.2.2,u.2.1<=m0/\u.2.1<=m1
theorem zB {k0 k:Key} {v0 v:V} (h:k0≠k):putK [(k0,v0)] k v= [(k0,v0),(k,v)]:=by
 unfold putK;rw[if_neg]
 ·rfl
 ·simp[h]
structure Ak (T:Tk) (R:List Rn) (z:Str) (i:Nat) (m:Int):Prop where
 lo:1<=m
 hi:m<=8
 run:∀r∈R.take i,cv T R z r.1 R.length<=m
 way:∀ws∈T.take i,∀w∈ws,∀u∈w.2.2,u.2.1<=m
theorem zC {a b:Int} {c:Int} (h1:a<=c) (h2:b<=c):(if b>a then b else a)<=c:=by split<;>lia
theorem qW (a b:Int):a<=(if b>a then b else a):=by split<;>lia
theorem we (a b:Int):b<=(if b>a then b else a):=by split<;>lia
theorem Cn {a c:Int} (h1:c<=8) (h2:c<=a):c<=(if a<8 then a else 8):=by split<;>lia
theorem Bb (a:Int):(if a<8 then a else 8)<=8:=by split<;>lia
def sY:Sp:=λvs H Q _=>∃(rl tl ln:Addr) (c:Int) (T:Tk) (R:List Rn) (n0 n1:Str),vs= [.ref rl,.ref tl,.ref ln,.int c]/\cU fu An H tl T/\bn H rl 375/\H ln=some 440/\n0≠n1/\je T R/\R.length<=4/\(∀ws∈T,1<=ws.length/\ws.length<=2/\∀w∈ws,DY n0 n1 w)/\
 ∀(td:Addr) (m0 m1:Int) (H':Hp),aC H H'->H td=none->H' td=some (.dK (bM [246,312]))->zA n0 n1 T R m0 m1->Q (.ref td) H'
structure c8 (f:Int) (n0 n1:Str) (m0 m1:Int) (hs1 hs2:List Int) (T:Tk) (R:List Rn) (M:List Int):Prop where
 far:nY f
 nm0:Nm n0
 nm1:Nm n1
 ne:n0≠n1
 len:T.length=R.length
 r4:R.length<=4
 runs:∀r∈R,zz f r
 tasks:G1 n0 n1 hs1 hs2 T R
 h1:fX R hs1
 h2:fX R hs2
 tools:zA n0 n1 T R m0 m1
 m2:M.length<=2
 times:∀t∈M,0<=t/\t<=29*f
theorem c8.pok {f:Int} {n0 n1:Str} {m0 m1:Int} {hs1 hs2:List Int} {T:Tk} {R:List Rn} {M:List Int} (h:c8 f n0 n1 m0 m1 hs1 hs2 T R M):je T R:=
 ⟨h.len.symm,λi r ws e1 e2=>⟨by have:=(h.runs r (ID e1)).2.2.2.2;lia,(h.tasks.task i ws r e2 e1).pick⟩⟩
theorem c8.ways {f:Int} {n0 n1:Str} {m0 m1:Int} {hs1 hs2:List Int} {T:Tk} {R:List Rn} {M:List Int} (h:c8 f n0 n1 m0 m1 hs1 hs2 T R M):∀ws∈T,kI [246,312] ws:=λws hw=>by
 obtain ⟨i,hi⟩:=Iw.mp hw;have il:=(IC.mp hi).1;have tb:=h.tasks.task i ws _ hi (IA (show i<R.length by rw[<-h.len];exact il))
 refine (tb.l1,tb.l2,λw hww=>?_)
 obtain ⟨a1,a2,a3,h0,h1,b0,b1,us⟩:=tb.way w hww;refine (a1,a2,by lia,us.nd,by have:=us.len;lia,λu hu=>?_)
 obtain ⟨e,u1,u2⟩:=us.use u hu;have uw:=h.tools.w ws hw w hww u hu;rcases e with ⟨e,eh⟩|⟨e,eh⟩
 ·exact (m0,by rw[e,cV,if_pos rfl],u1,uw.1,by rw[eh];exact b0.1,by rw[eh];exact b0.2)
 ·exact (m1,by rw[e,cV,if_neg h.ne,cV,if_pos rfl],u1,uw.2,by rw[eh];exact b1.1,by rw[eh];exact b1.2)
theorem c8.net {f:Int} {n0 n1:Str} {m0 m1:Int} {hs1 hs2:List Int} {T:Tk} {R:List Rn} {M:List Int} (h:c8 f n0 n1 m0 m1 hs1 hs2 T R M) {A B:List Ky} (a:A.length<=600) (ha:∀k∈A,jx (2*188+M.length) k) (b:B.length<=300) (hb:∀k∈B,∃p q:Int,k= [p,q]/\0<=p/\p<188/\0<=q/\q<188/\p≠q):gL [246,312] T A B (M.length:Int):=by
 refine (by simp,?_,λp hp=>?_,by have:=h.r4;rw[h.len];lia,h.ways,by lia,by have:=h.m2;lia,a,λk hk=>?_,b,λk hk=>?_)
 ·simp;exact h.ne
 ·simp at hp;rcases hp with e|e
  ·rw[e];exact (h.nm0,h.tools.r0.1,h.tools.r0.2)
  ·rw[e];exact (h.nm1,h.tools.r1.1,h.tools.r1.2)
 ·rw[h.len];exact ha k hk
 ·rw[h.len];exact hb k hk
theorem c8.mine {f:Int} {n0 n1:Str} {m0 m1:Int} {hs1 hs2:List Int} {T:Tk} {R:List Rn} {M:List Int} (h:c8 f n0 n1 m0 m1 hs1 hs2 T R M) {i:Nat} (il:i<R.length):(bS T R i).1<=(R[i]).2.1-(R[i]).1/\(R[i]).2.1-(R[i]).1<=(bS T R i).2.1/\x5 n0 n1 (hs1.getD i 0) (hs2.getD i 0) (bS T R i).2.2:=by
 have hr:=IA il;have hT:=IA (show i<T.length by rw[h.len];exact il)
 obtain ⟨w,hw,a,b,c⟩:=(h.tasks.task i _ _ hT hr).mine;have e:bS T R i=w:=by
  unfold bS;rw[aL hT,aL hr,aL hw]
 rw[e];exact (a,b,c)
def wg (K:IE):Sp:=λvs H Q _=>∃(a:Addr) (ns:List Int) (at_ m f:Int),vs= [.ref a,.int at_,.int m,.int f]/\aD K H a 222/\0<=at_/\at_<=900/\1<=m/\m<=4/\nY f/\
 ∀(t td tl rl ml:Addr) (n0 n1:Str) (m0 m1:Int) (hs1 hs2:List Int) (T:Tk) (R:List Rn) (M:List Int) (H':Hp),aC H H'->H' t=some (.tup [.ref td,.ref tl,.ref rl,.ref ml])->H' td=some (.dK (bM [246,312]))->cU fu An H' tl T->bn H' rl 375->H' ml=some 285->188=m->c8 f n0 n1 m0 m1 hs1 hs2 T R M->Q 427 H'
def pS:Sp:=λvs H Q _=>∃(rl ml:Addr) (R:List Rn) (M:List Int),vs= [.ref rl,.ref ml]/\bn H rl 375/\R.length<=24/\H ml=some 285/\M.length<=8/\∀(l:Addr) (H':Hp),aC H H'->H' l=some (.lst ((aT R M).map V.int))->Q 271 H'
def kb (S:List Int) (k:Ky):Prop:=∃p q g:Int,k= [p,q,g]/\g<=S.getD q.toNat 0-S.getD p.toNat 0
def wj:Sp:=λvs H Q _=>∃(lc ls:Addr) (cs S:List Int) (f:Int),vs= [.ref lc,.ref ls,.int f]/\H lc=some 399/\cs.length<=63/\H ls=some 228/\1<=S.length/\S.length<=100/\nY f/\(∀t∈S,0<=t/\t<=29*f)/\∀(l:Addr) (A:List Ky) (H':Hp),aC H H'->bn H' l A->A.length=cs.length->(∀k∈A,jx 151 k/\kb S k)->Q 271 H'
def sZ:Sp:=λvs H Q _=>∃(rl:Addr) (c:Int) (R:List Rn),vs= [.ref rl,.int c]/\bn H rl 375/\R.length<=4/\∀(l:Addr) (ps:List 212) (H':Hp),aC H H'->bn H' l 308->ps.length<=16->(∀p∈ps,0<=p.1/\p.1<188/\0<=p.2/\p.2<188/\p.1≠p.2/\cq 211 210=false)->Q 271 H'
structure i4 (R:List Rn) (P:Pk) (ps:List (Int×Int)):Prop where
 len:P.length=R.length
 pick:∀(i j:Nat) (r:Rn),P[i]?=some 472->R[i]?=some r->r.2.2=(j:Int)
 o16:ps.length<=16
 ord:∀p∈ps,0<=p.1/\p.1<188/\0<=p.2/\p.2<188/\(R.getD p.1.toNat 125).2.1<=(R.getD p.2.toNat 125).1
theorem i4.ok {f:Int} {n0 n1:Str} {m0 m1:Int} {hs1 hs2:List Int} {T:Tk} {R:List Rn} {M:List Int} {P:Pk} {ps:List 212} (h:c8 f n0 n1 m0 m1 hs1 hs2 T R M) (c:i4 R P ps):sR T P:=by
 refine (by rw[c.len,h.len],λi j ws e1 e2=>?_)
 have il:i<R.length:=by rw[<-h.len];exact (IC.mp e2).1
 have hr:=IA il;have:=c.pick i j _ e1 hr;have:=(h.tasks.task i ws _ e2 hr).pick
 lia
theorem tf {T:Tk} {R:List Rn} {z:Str} {t:Int} (h:∀i,i<R.length->bf 174 z<=2):∀n,n<=R.length->cv T R z t n<=2*(n:Int)
 |0,_=>JZ _
 |n+1,hn=>by
  have ih:=tf (t:=t) h n 78
  have:=h n 78
  show cv T R z t n+233<=_
  split<;>lia
theorem zE {n0 n1:Str} {w:Wy} {z:Str} (h:DY n0 n1 w):bf w z<=2:=by
 obtain ⟨_,_,_,h0,h1,_,_,us⟩:=h;cases e:jf w z with
 |none=>rw[hV e];lia
 |some u=>
  rw[hW e];exact (us.use u (gH e).1).2.2
universe Sw
namespace L2
open PySem
theorem uX {X:Cx} {K:IE} (h:X.K=K) (hc:X.calm=true):eY X (.builtin "min") (λxs H Q=>∃a ns,xs= [.ref a]/\aD K H a 222/\ns≠ []/\∀M:Int,M∈ns->(∀z∈ns,M<=z)->Q (.int M) H):=by
 subst h;exact eR hc
theorem zF {X:Cx} {K:IE} (h:X.K=K) {tg l:Expr} {tl:TE} (hl:PE X l tl):PI X tg l (Bz K tl):=by
 subst h;exact aI hl
universe L2
namespace Sw
open PySem L2 XH Hm PySem.NumText
theorem Bc {us:List Us} (nd:(us.map 201).Nodup) {x:Us} (hx:x∈us):us.find? (λu=>decide (u.1=x.1))=some x:=by
 induction us with
 |nil=>cases hx
 |cons a r ih=>
  rw[J1,Jl] at nd;rcases IK.mp hx with h|h
  ·rw[h,Ja,decide_eq_true rfl]
  ·have:a.1≠x.1:=λe=>nd.1 (by rw[e];exact Jr h)
   rw[Ja,decide_eq_false this];exact ih nd.2 h
theorem jI {v w:Wy} (nd:(w.2.2.map 201).Nodup):eK v w=true↔∃u∈v.2.2,∃x∈w.2.2,u.1=x.1/\u.2.2≠x.2.2:=by
 unfold eK;rw[Iv];constructor
 ·rintro ⟨u,hu,h⟩;cases e:jf w u.1 with
  |none=>rw[e] at h;cases h
  |some x=>
   rw[e] at h;obtain ⟨m,n⟩:=gH e;refine (u,hu,x,m,n.symm,λz=>?_)
   rw[z] at h;simp at h
 ·rintro ⟨u,hu,x,hx,e,ne⟩;exists u,hu;have:jf w u.1=some x:=by unfold jf;rw[e];exact Bc nd hx
  rw[this];simp;exact λz=>ne z.symm
theorem lO {v w:Wy} (nv:(v.2.2.map 201).Nodup) (nw:(w.2.2.map 201).Nodup):eK v w=eK w v:=by
 rw[Jj,jI nw,jI nv];constructor
 ·rintro ⟨u,hu,x,hx,e,ne⟩;exact (x,hx,u,hu,e.symm,λz=>ne z.symm)
 ·rintro ⟨u,hu,x,hx,e,ne⟩;exact (x,hx,u,hu,e.symm,λz=>ne z.symm)
theorem tu {T:Tk} {P:Pk} {i j:Nat} (ni:∀w∈bw T P i,(w.2.2.map 201).Nodup) (nj:∀w∈bw T P j,(w.2.2.map 201).Nodup):dD T P i j=dD T P j i:=by
 unfold dD;rw[Jj,IT,IT];constructor
 ·intro h w hw;rw[IT];intro v hv;have:=h v hv;rw[IT] at this;rw[lO (nj w hw) (ni v hv)];exact this w hw
 ·intro h v hv;rw[IT];intro w hw;have:=h w hw;rw[IT] at this;rw[lO (ni v hv) (nj w hw)];exact this v hv
noncomputable def jn (T:Tk) (ps:List 212) (P:Pk) (i j:Int):Bool:= !decide (V.int i=V.int j)&&(decide ((i,j)∈ps)||dD T P i.toNat j.toNat)
theorem nZ {D:Tl} {T:Tk} {ps:List 212} {P:Pk} {S:List Int} (hT:∀ws∈T,kI D ws) (pk:sR T P) (pne:∀p∈ps,p.1≠p.2) (hS:∀i∈S,0<=i/\i<121) (nd:S.Nodup):
  (cY 308 S||eN T P S)=S.any λi=>S.any λj=>jn T ps P i j:=by
 have nw:∀i∈S,∀w∈bw T P i.toNat,(w.2.2.map 201).Nodup:=λi hi w hw=>by
  have:=hS i hi;obtain ⟨ws,h1,h2⟩:=qT hT pk (show i.toNat<T.length by lia) w hw
  exact ((hT ws h1).2.2 w h2).2.2.2.1
 rw[Jj,K7,Iv];constructor
 ·rintro (h|h)
  ·unfold cY cH at h;rw[Iv] at h;obtain ⟨k,hk,h⟩:=h;obtain ⟨p,hp,rfl⟩:=IV.mp hk;rw[II,decide_eq_true_eq,decide_eq_true_eq] at h;replace h:p.1∈S/\p.2∈S:=h;exists p.1,h.1;rw[Iv];exists p.2,h.2;unfold jn;have:V.int p.1≠V.int p.2:=λe=>pne p hp (vj e)
   simp[this];exact .inl hp
  ·obtain ⟨a,b,i,j,ab,ha,hb,u⟩:=ig.mp h;exists i,ID ha;rw[Iv];exists j,ID hb;have:V.int i≠V.int j:=λe=>by
    have e:=vj e;rw[e] at ha;have ja:=(IC.mp ha);have jb:=(IC.mp hb);have:=(List.getElem_inj nd).mp (ja.2.trans jb.2.symm)
    lia
   unfold jn;simp[this,u]
 ·rintro ⟨i,hi,h⟩;rw[Iv] at h;obtain ⟨j,hj,h⟩:=h;unfold jn at h;rw[II,K7,decide_eq_true_eq] at h;obtain ⟨ne,h⟩:=h;have ne':i≠j:=λe=>by rw[e] at ne;simp at ne
  rcases h with h|h
  ·left;unfold cY cH;rw[Iv];exists [i,j],IV.mpr ((i,j),h,rfl);show (decide (i∈S)&&decide (j∈S))=true;rw[decide_eq_true hi,decide_eq_true hj]
   rfl
  ·right;obtain ⟨a,ha⟩:=Iw.mp hi;obtain ⟨b,hb⟩:=Iw.mp hj;rcases Nat.lt_trichotomy a b with c|c|c
   ·exact ig.mpr (a,b,i,j,c,ha,hb,h)
   ·rw[c,hb] at ha;cases ha;exact absurd rfl ne'
   ·exact ig.mpr (b,a,j,i,c,hb,ha,by rw[tu (nw j hj) (nw i hi)];exact h)
structure iD (D:Tl) (H:Hp) (tl t:Addr) (T:Tk) (P:Pk):Prop where
 tasks:cU fu An H tl T
 cs:∃O,fP H t P O
 pk:sR T P
 ok:∀ws∈T,kI D ws
theorem iD.same {D:Tl} {H H':Hp} {tl t:Addr} {T:Tk} {P:Pk} (h:iD D H tl t T P) (g:aC H H'):iD D H' tl t T P:=(h.tasks.same g,h.cs.imp λ_ c=>c.same g,h.pk,h.ok)
def kc:Sp:=λvs H Q _=>∃(tl t:Addr) (i:Nat) (D:Tl) (T:Tk) (P:Pk),vs= [.ref tl,.ref t,.int i]/\iD D H tl t T P/\i<T.length/\∀(p:Addr) (H':Hp),aC H H'->cU iM An H' p 469->Q 181 H'
theorem Co {x:Int} (h0:0<=x) (h:x<3):∃f,io [V.int 1,V.int 1,V.int ((10:Int)^(7:Int).toNat+19)] x=some 511/\nY f:=by
 obtain rfl|rfl|rfl:x=0∨x=1∨x=2:=by lia
 ·exact (1,rfl,.inl rfl)
 ·exact (1,rfl,.inl rfl)
 ·exact (ν,.inr 41)
theorem pT {M:List Int} {t:Int}:∀{R:List Rn},t∈aT R M->t∈M∨∃r∈R,t=r.1∨t=r.2.1
 | [],h=> .inl h
 |r::R,h=>by
  rcases IK.mp h with h|h
  ·exact .inr (r,by simp,.inl h)
  rcases IK.mp h with h|h
  ·exact .inr (r,by simp,.inr h)
  ·rcases pT h with h|⟨s,hs,e⟩
   ·exact .inl h
   ·exact .inr (s,IX _ hs,e)
theorem c8.spots {f:Int} {n0 n1:Str} {m0 m1:Int} {hs1 hs2:List Int} {T:Tk} {R:List Rn} {M:List Int} (h:c8 f n0 n1 m0 m1 hs1 hs2 T R M):∀t∈aT R M,0<=t/\t<=29*f:=λt ht=>by
 have f1:1<=f:=by rcases h.far with e|e<;>lia
 rcases pT ht with h1|⟨r,hr,e⟩
 ·exact h.times t h1
 ·obtain ⟨a,b,c,d,_⟩:=h.runs r hr;rcases e with e|e<;>lia
universe Sw
namespace L2
open PySem
theorem pU {X:Cx}:iL X (compareOp .IsNot) (λx y H Q=>∃b c,x= .bl b/\y= .bl c/\Q (.bl (!(b==c))) H):=by
 sleep 62;obtain ⟨b,c,rfl,rfl,q⟩:=h;cases rx;cases ry;have e:(Value.bool b==Value.bool c)=(b==c):=by cases b<;>cases c<;>rfl
 refine wpAny_pure (a:=Value.bool (!(Value.bool b==Value.bool c))) ?_;rw[e];exact (.bl (!(b==c)),H,I,rfl,q)
universe L2
namespace Sw
open PySem L2 XH Hm PySem.NumText
section
variable {f:Int} {n0 n1:Str} {m0 m1:Int} {hs1 hs2:List Int} {T:Tk} {R:List Rn} {M:List Int}
theorem c8.way (h:c8 f n0 n1 m0 m1 hs1 hs2 T R M) {i:Nat} (il:i<R.length):x5 n0 n1 (hs1.getD i 0) (hs2.getD i 0) (bS T R i).2.2:=(h.mine il).2.2
theorem c8.heat (h:c8 f n0 n1 m0 m1 hs1 hs2 T R M) {i j:Nat} (il:i<R.length) (jl:j<R.length) (hm:cq 173 477=true) {u v:Us} (hu:u∈(bS T R i).2.2) (hv:v∈(bS T R j).2.2) (e:u.1=v.1):u.2.2=v.2.2:=by
 have e1:=h.h1.2.2 i j il jl hm;have e2:=h.h2.2.2 i j il jl hm;rcases ((h.way il).use u hu).1 with ⟨a,b⟩|⟨a,b⟩<;>rcases ((h.way jl).use v hv).1 with ⟨c,d⟩|⟨c,d⟩
 ·rw[b,d,e1]
 ·exact absurd (by rw[<-a,<-c,e]) h.ne
 ·exact absurd (by rw[<-a,<-c,e]) h.ne
 ·rw[b,d,e2]
theorem c8.nn (h:c8 f n0 n1 m0 m1 hs1 hs2 T R M) {z:Str}:∀i,i<R.length->0<=bf 174 z:=λi il=>by
 cases e:jf (bS T R i) z with
 |none=>rw[hV e];lia
 |some u=>
  rw[hW e];have:=((h.way il).use u (gH e).1).2.1
  lia
theorem c8.fits (h:c8 f n0 n1 m0 m1 hs1 hs2 T R M) {A:List Ky} {ps:List 212} (hA:∀k∈A,kb (Sw.aT R M) k) (hp:∀p∈ps,cq 211 210=false) {ys:Lb} (hy:ys.Perm [n0,n1]):xG ys [246,312] T A 308 R M= []:=by
 have a1:fD T R T.length= []:=uU λi hi=>by
  have il:i<R.length:=by rw[<-h.len];exact hi
  have hr:=IA il;rw[aL hr];obtain ⟨x,y,_⟩:=h.mine il;exact ((h.runs _ 452).1,x,y)
 have a2:sM M M.length= []:=gv λi hi=>by
  have hr:=IA hi;unfold xv;rw[aL hr];have:=(h.times _ (IL hi)).1;exact decide_eq_false 78
 have a3:iI A R M A.length= []:=gv λi hi=>by
  have hr:=IA hi;obtain ⟨p,q,g,e,k⟩:=hA _ (IL hi);show decide ((Sw.aT R M).getD ((A.getD i []).getD 1 0).toNat 0-(Sw.aT R M).getD ((A.getD i []).getD 0 0).toNat 0<(A.getD i []).getD 2 0)=false;rw[aL hr,e];show decide ((Sw.aT R M).getD q.toNat 0-(Sw.aT R M).getD p.toNat 0<g)=false;exact decide_eq_false 78
 have a4:fS 308 R (cH ps).length= []:=gv λi hi=>by
  have hr:=IA hi;have mem:=IL hi;obtain ⟨p,hp',e⟩:=IV.mp mem;show cq (R.getD (((cH ps).getD i []).getD 0 0).toNat 125) (R.getD (((cH ps).getD i []).getD 1 0).toNat 125)=false;rw[aL hr,<-e];exact hp p hp'
 have nm:∀z∈ys,z=n0∨z=n1:=λz hz=>by
  have:=hy.mem_iff.mp hz
  simpa using this
 have a5:ys.flatMap (lE [246,312] T R)= []:=by
  rw[List.flatMap_eq_nil_iff];intro z hz;refine gv λi hi=>?_
  have hr:=IA hi;have mem:=nN.mp (IL hi);rw[aL hr];obtain ⟨r,hr',e⟩:=IV.mp mem;rw[<-e];refine decide_eq_false ?_;rcases nm z hz with rfl|rfl
  ·rw[cV,if_pos rfl];have:=h.tools.u0 r hr';show ¬(m0<_)
   lia
  ·rw[cV,if_neg h.ne,cV,if_pos rfl];have:=h.tools.u1 r hr';show ¬(m1<_)
   lia
 have a6:ys.flatMap (nQ T R)= []:=by
  rw[List.flatMap_eq_nil_iff];intro z hz;unfold nQ lH;rw[List.flatMap_eq_nil_iff];intro k hk;have us:∀j∈cN T R z,j<R.length:=λj hj=>by
   unfold cN cI at hj;obtain ⟨i,hi,e⟩:=IV.mp hj;have:=JB.mp (JT.mp hi).1;rw[<-e];exact this
  have kl:=JB.mp hk;have hk':=IA kl;unfold iA;rw[KE,List.filter_eq_nil_iff];intro j hj;rw[aL hk'];have jl:=us j (List.mem_of_mem_drop hj);have il:=us _ 516;generalize (cN T R z)[k]=i at il;unfold iz;cases e1:jf (bS T R i) z with
  |none=>simp
  |some u=>
   cases e2:jf (bS T R j) z with
   |none=>simp
   |some v=>
    intro hb;replace hb:((!decide (u.2.2=v.2.2))&&cq 173 477)=true:=hb;rw[II] at hb;have:=h.heat il jl hb.2 (gH e1).1 (gH e2).1 ((gH e1).2.trans (gH e2).2.symm);rw[this] at hb;simp at hb
 unfold xG;rw[a1,a2,a3,a4,a5,a6]
 rfl
theorem mG {z:Str} {t:Int} (nn:∀i,i<R.length->0<=bf 174 z):∀(n:Nat) (S:List Int),n<=R.length->S.Pairwise 412->(∀i∈S,0<=i/\i<(n:Int)/\bZ (R.getD i.toNat 125) t=true)->(S.map λi=>bf (bS T R i.toNat) z).sum<=cv T R z t n
 |0,S,_,_,h=>by
  cases S with
  |nil=>exact JZ _
  |cons a r=>have:=h a 139;lia
 |n+1,S,hn,pw,h=>by
  have g0:=nn n 78
  have st:cv T R z t (n+1)=cv T R z t n+(if bZ 422 t=true then bf (bS T R n) z else 0):=rfl
  rcases List.eq_nil_or_concat S with rfl|⟨L,b,rfl⟩
  ·have:=mG (t:=t) nn n [] 78 List.Pairwise.nil (λi hi=>by cases hi)
   rw[st]
   split<;>simp at this⊢ <;>lia
  ·rw[List.concat_eq_append] at pw h⊢;obtain ⟨p1,_,p3⟩:=List.pairwise_append.mp pw;have hb:=h b 139
   have lt:∀i∈L,i<b:=λi hi=>p3 i hi b 139
   rw[st]
   by_cases c:b=(n:Int)
   ·have ih:=mG nn n L 78 p1 λi hi=>by
     have:=h i (by simp[hi])
     have:=lt i hi;exact (by lia,by lia,(h i (by simp[hi])).2.2)
    rw[Il,List.sum_append];have e:b.toNat=n:=by lia
    rw[e] at hb;rw[if_pos hb.2.2];simp only[J1,List.map_nil,JG,List.sum_nil,e]
    lia
   ·have ih:=mG nn n (L++ [b]) 78 pw λi hi=>by
     have h1:=h i hi;refine (h1.1,?_,h1.2.2);rcases IS.mp hi with z|z
     ·have:=lt i z;lia
     ·rw[IM.mp z];lia
    split<;>lia
theorem i4.open (h:c8 f n0 n1 m0 m1 hs1 hs2 T R M) {P:Pk} (pl:P.length=R.length) (pk:∀(i j:Nat) (r:Rn),P[i]?=some 472->R[i]?=some r->r.2.2=(j:Int)) {i:Nat} (il:i<R.length):bS T R i∈bw T P i:=by
 have hr:=IA il;have hT:=IA (show i<T.length by rw[h.len];exact il)
 have hP:=IA (show i<P.length by rw[pl];exact il)
 obtain ⟨w,hw,_⟩:=(h.tasks.task i _ _ hT hr).mine;have e:bS T R i=w:=by
  unfold bS;rw[aL hT,aL hr,aL hw]
 rw[e];unfold bw;rw[aL hT,aL hP];cases hp:P[i]'(by rw[pl];exact il) with
 |none=>exact ID hw
 |some j=>
  rw[hp] at hP;have:=pk i j _ hP hr;rw[this,IP] at hw;show w∈ [(T[i]'(by rw[h.len];exact il)).getD j 387]
  rw[aL hw];simp
noncomputable def tz (R:List Rn) (S:List Int):Bool:=S.any λi=>S.any λj=> !decide (V.int i=V.int j)&&decide ((R.getD i.toNat 125).2.1<=(R.getD j.toNat 125).1)
theorem zG {g:Int->Int}:∀{S:List Int},S≠ []->∃k∈S,∀i∈S,g i<=g k
 | [],h=>absurd rfl h
 | [x],_=>⟨x,by simp,λi hi=>by rw[IM.mp hi];exact JZ _⟩
 |x::y::r,_=>by
  obtain ⟨k,hk,hle⟩:=zG (g:=g) (S:=y::r) 139
  by_cases c:g k<=g x
  ·refine (x,by simp,λi hi=>?_)
   rcases IK.mp hi with e|e
   ·rw[e];exact JZ _
   ·have:=hle i e;lia
  ·refine (k,IX _ hk,λi hi=>?_)
   rcases IK.mp hi with e|e
   ·rw[e];lia
   ·exact hle i e
theorem Bd {P:Pk} {i:Nat} {z:Str} {w:Wy} (hw:w∈bw T P i):i3 T P i z<=bf w z:=by
 unfold i3;have m:=Jr (f:=λw=>bf w z) hw
 exact (eU (λe=>by rw[e] at m;cases m)).2 _ m
theorem wm {g k:Int->Int}:∀{S:List Int},(∀i∈S,g i<=k i)->(S.map g).sum<=(S.map k).sum
 | [],_=>JZ _
 |x::r,h=>by
  have:=h x 139
  have:=wm (S:=r) λi hi=>h i (IX _ hi)
  simp only[J1,JG]
  lia
theorem qX (h:c8 f n0 n1 m0 m1 hs1 hs2 T R M) {ps:List 212} (hp:∀p∈ps,p.1≠p.2/\cq 211 210=false) {P:Pk} (pl:P.length=R.length) (pk:∀(i j:Nat) (r:Rn),P[i]?=some 472->R[i]?=some r->r.2.2=(j:Int)) {S:List Int} (pw:S.Pairwise 412) (rg:∀i∈S,0<=i/\i<188) (hc:eB [246,312] T 308 P S=true):tz R S=true:=by
 cases hpt:tz R S with
 |true=>rfl
 |false=>
  have meet:∀i∈S,∀j∈S,i≠j->cq (R.getD i.toNat 125) (R.getD j.toNat 125)=true:=λi hi j hj ne=>by
   have no:∀i∈S,∀j∈S,i≠j->¬((R.getD i.toNat 125).2.1<=(R.getD j.toNat 125).1):=λi hi j hj ne hle=>by
    have:tz R S=true:=by
     unfold tz;rw[Iv];exists i,hi;rw[Iv];exists j,hj;have:V.int i≠V.int j:=λe=>ne (vj e)
     rw[decide_eq_false this,decide_eq_true hle]
     rfl
    rw[hpt] at this;cases this
   unfold cq;have a:=no i hi j hj ne;have b:=no j hj i hi (λe=>ne e.symm)
   rw[decide_eq_true 78,decide_eq_true 78]
   rfl
  unfold eB at hc;rw[II,II,decide_eq_true_eq,K7,K7] at hc;obtain ⟨⟨_,l2⟩,hc⟩:=hc;exfalso;rcases hc with hc|hc|hc
  ·unfold cY cH at hc;rw[Iv] at hc;obtain ⟨k,hk,hc⟩:=hc;obtain ⟨p,hp',rfl⟩:=IV.mp hk;rw[II,decide_eq_true_eq,decide_eq_true_eq] at hc;replace hc:p.1∈S/\p.2∈S:=hc;have:=meet p.1 hc.1 p.2 hc.2 (hp p hp').1;rw[(hp p hp').2] at this;cases this
  ·obtain ⟨a,b,i,j,ab,ha,hb,u⟩:=ig.mp hc;have hi:=ID ha;have hj:=ID hb;have ne:i≠j:=λe=>by
    obtain ⟨a1,a2⟩:=IC.mp ha;obtain ⟨b1,b2⟩:=IC.mp hb;have:=List.pairwise_iff_getElem.mp pw a b a1 b1 ab
    lia
   have il:i.toNat<R.length:=by have:=rg i hi;lia
   have jl:j.toNat<R.length:=by have:=rg j hj;lia
   unfold dD at u;rw[IT] at u;have u1:=u _ (i4.open h pl pk il);rw[IT] at u1;have u2:=u1 _ (i4.open h pl pk jl);obtain ⟨x,hx,y,hy,e,hne⟩:=(jI (h.way jl).nd).mp u2;exact hne (h.heat il jl (meet i hi j hj ne) hx hy e)
  ·unfold lJ at hc;rw[Iv] at hc;obtain ⟨p,hp',hc⟩:=hc;rw[decide_eq_true_eq] at hc;obtain ⟨k,hk,hmax⟩:=zG (g:=λi=>(R.getD i.toNat 125).1) (S:=S) (λe=>by rw[e] at l2;simp at l2)
   have kl:k.toNat<R.length:=by have:=rg k hk;lia
   have hr:=IA kl;have ge:=mG (T:=T) (R:=R) (z:=p.1) (t:=(R.getD k.toNat 125).1) h.nn R.length S 249 pw λi hi=>by
    have ir:=rg i hi;exists ir.1,ir.2;have le:=hmax i hi;unfold bZ;rw[decide_eq_true le,JU]
    by_cases c:i=k
    ·rw[c,aL hr];have rb:=h.runs _ 516;have f1:1<=f:=by rcases h.far with e|e<;>lia
     have:=rb.2.2.1;exact decide_eq_true 78
    ·have:=meet k hk i hi (λe=>c e.symm)
     unfold cq at this;rw[II] at this;exact this.1
   have wl:(S.map λi=>i3 T P i.toNat p.1).sum<=(S.map λi=>bf (bS T R i.toNat) p.1).sum:=wm λi hi=>Bd (i4.open h pl pk (by have:=rg i hi;lia))
   rw[aL hr] at ge;simp at hp';rcases hp' with rfl|rfl
   ·have:=h.tools.u0 _ 516;dsimp only at hc ge wl
    lia
   ·have:=h.tools.u1 _ 516;dsimp only at hc ge wl
    lia
universe z0
theorem zH {R:List Rn} {n:Nat}:∀(i j:Nat) (r:Rn),((Ip n).map λ_=>(none:Option Nat))[i]?=some 472->R[i]?=some r->r.2.2=(j:Int):=λi j r h=>by
 rw[IG] at h;obtain ⟨_,_,e⟩:=IF.mp h;cases e
universe Sw
namespace L2
open PySem
theorem pV {X:Cx} {K:IE} (h:X.K=K):iL X (compareOp .NotIn) (GL K true):=by
 subst h;exact jQ
universe L2
namespace Sw
open PySem L2 XH Hm PySem.NumText
theorem Be {T:Tk} {P:Pk} {i:Nat} {z:Str} {w:Wy} (hw:w∈bw T P i):fA T P i z<=w.1*bf w z:=by
 unfold fA;have m:=Jr (f:=λw:Wy=>w.1*bf w z) hw
 exact (eU (λe=>by rw[e] at m;cases m)).2 _ m
theorem xQ (T:Tk) (P:Pk) (i:Nat) (z:Str):jt ((bw T P i).map λw=>bf w z*w.1)=fA T P i z:=by
 unfold fA
 congr 1
 apply K1;intro w _;exact Int.mul_comm _ _
def wn (C:Addr):Sp:=λvs H Q _=>∃(x:Addr) (fz:Bool) (D:Tl) (T:Tk) (A B:List Ky) (n:Int),vs= [.ref x]/\gM C fz H x D T A B n/\T.length<=24/\∀(t:Addr) (H':Hp),aC H H'->fP H' t ((Ip T.length).map λ_=>none) []->Q 427 H'
noncomputable def oI (l:List Int):Int:= -(jt (l.map λz=> -z))
theorem wo {l:List Int} {m:Int} (hm:m∈l) (h:∀z∈l,z<=m):m=oI l:=by
 unfold oI;have:=gI (l:=l.map λz=> -z) (m:= -m) (IV.mpr (m,hm,rfl)) λz hz=>by
  obtain ⟨y,hy,rfl⟩:=IV.mp hz;have:=h y hy
  lia
 lia
noncomputable def dB (T:Tk) (P:Pk):Nat->List Ky
 |0=> []
 |i+1=>dB T P i++ [[2*(i:Int),2*(i:Int)+1,jt ((bw T P i).map 201)],[2*(i:Int)+1,2*(i:Int),-(oI ((bw T P i).map (·.2.1)))]]
theorem dI (T:Tk) (P:Pk):∀n,(dB T P n).length=2*n
 |0=>rfl
 |n+1=>by
  show (dB T P n++_).length=_;rw[IB,dI T P n];show 2*n+2=_
  lia
noncomputable def ju (O:List Ky):List Ky:=O.map λk=> [2*k.getD 0 0+1,2*k.getD 1 0,0]
noncomputable def cJ (A:List Ky) (T:Tk) (P:Pk) (O:List Ky):List Ky:=A++dB T P T.length++ju O
def fE (O:List Ky):Prop:=O.length<=1000/\∀k∈O,∃p q:Int,k= [p,q]
def ke (C:Addr):Sp:=λvs H Q _=>∃(x t:Addr),vs= [.ref x,.ref t]/\dj C true H x t λD T A B n P O=>fE O/\∀(l:Addr) (H':Hp),aC H H'->H l=none->bn H' l (cJ A T P O)->Q 271 H'
def zI:Sp:=λvs H Q _=>∃(al tl t:Addr) (A:List Ky) (D:Tl) (T:Tk) (P:Pk) (O:List Ky),vs= [.ref al,.ref tl,.ref t]/\bn H al A/\A.length<=1000/\cU fu An H tl T/\T.length<=24/\fP H t P O/\sR T P/\(∀ws∈T,kI D ws)/\fE O/\∀(l:Addr) (H':Hp),aC H H'->bn H' l (cJ A T P O)->Q 271 H'
theorem i5 {H:Hp} {p:Addr} {as bs:Lc} {A B:List Ky} (ra:dZ 192 as A) (rb:dZ 192 bs B) (np:H p=none):bn (aK H p (.lst (as.map V.ref++bs.map V.ref))) p (A++B):=
 ⟨as++bs,by rw[ag,Il],(ra.append rb).imp λt k q=>af np _ _ _ q⟩
theorem dZ.one {R:Addr->Ky->Prop} {a:Addr} {k:Ky} (h:R a k):dZ R [a] [k]:=⟨rfl,λi t y e1 e2=>by
 cases i with
 |zero=>simp at e1 e2;subst e1 e2;exact h
 |succ n=>simp at e1⟩
theorem zJ {P:Addr->Prop} {H:Hp} {l:Addr} {ks:List Ky} (h:cU (uO λk:Ky=>k.map V.int) P H l ks):bn H l ks:=by
 obtain ⟨vs,e,r⟩:=h;obtain ⟨as,ea,_⟩:=uW (p:=λ_:Addr=>True) (f:=V.ref) (vs:=vs) λv hv=>by
  obtain ⟨i,hi⟩:=Iw.mp hv;obtain ⟨k,_,t,e,_⟩:=r.at_ hi;exact (t,trivial,e)
 subst ea;refine (as,e,(by rw[<-r.1,I0],λi a k e1 e2=>?_))
 obtain ⟨t,et,_,h⟩:=r.2 i 366 k (by rw[IG,e1];rfl) e2
 injection et with et
 rw[et];exact h
universe Sw
namespace L2
open PySem PySem.Spec PyProof.Rows XH
theorem wp:∀{bs:List Bool} {us:Ld},bN (bs.map V.bl) us->∀(i:Nat) (v:Value),us[i]?=some v->v= .bool (bs.getD i true)
 | [],_,.nil,i,v,h=>by simp at h
 |b::bs,_,.cons r t,0,v,h=>by
  cases r
  simpa using h.symm
 |b::bs,_,.cons _ t,i+1,v,h=>by
  have:=wp (bs:=bs) t i v 247
  simpa using this
theorem Bf (bs:List Bool):(Ip bs.length).all (λi=>bs.getD i true)=bs.all id:=by
 rw[Jj,IT,IT];constructor
 ·intro h b hb;obtain ⟨i,hi⟩:=Iw.mp hb;have:=h i (JB.mpr (IC.mp hi).1);rw[JP,hi] at this;exact this
 ·intro h i hi;have il:=JB.mp hi;have:=h _ 452;rw[JP,IA il];exact this
theorem xR {X:Cx} (hc:X.calm=true):eY X (.builtin "all") (λxs H Q=>∃(a:Addr) (bs:List Bool),xs= [.ref a]/\aD X.K H a (bs.map V.bl)/\Q (.bl (bs.all id)) H):=by
 sleep 52;obtain ⟨a,bs,rfl,h1,hq⟩:=h;cases r with
 |cons r rr=>
  cases rr;cases r;obtain ⟨its,rv,p,hz⟩:=I.list h1;have hh:=I.ok.hd hc;have ln:its.length=bs.length:=by rw[<-rv.length,I0]
  have hlt:a<s.heap.objs.size:=by
   obtain ⟨o,n,e,_⟩:=id p;exact Heap.lt_size e
  refine call_all_walk (wpAny_pyIter_list p.isList (52,_,_,_,_,_,λi=>bs.getD i true,rfl,Walks.list (A:=X.A.in1) hh _ a (IQ hlt) its.toArray,(296,p.isList.at λo e=>116 _ e),?_,λh' tk hk=>?_))
  ·intro i v s' Q' E' hv hq';have e:=wp rv i v 362
   subst e;exact wpAny_truthy_bool hq'
  ·refine (.bl (bs.all id),H,I.kept (h':=h') (t':=tk) λb o e=>hk b o (by simpa using IQ 241) 485,?_,hq)
   show Value.bool _=Value.bool _;rw[IY,ln,Bf]
universe L2
namespace Sw
open PySem L2 XH Hm PySem.NumText
def BI (O:List Ky) (n:Nat):Prop:=O.length<=1000/\∀k∈O,∃p q:Int,k= [p,q]/\0<=p/\p<(n:Int)/\0<=q/\q<(n:Int)
def gO (due:List Ky):List Int->Prop
 |p::q::r=>(∃g,[p,q,g]∈due)/\gO due (q::r)
 |_=>True
def tD (n:Int) (due:List Ky):Prop:=due.length<=2000/\∀k∈due,∃p q g:Int,k= [p,q,g]/\0<=p/\p<n/\0<=q/\q<n
theorem gO.snoc {due:List Ky} {p q g:Int} (h: [p,q,g]∈due):∀{C:List Int},gO due (C++ [p])->gO due (C++ [p]++ [q])
 | [],_=>⟨⟨g,h⟩,trivial⟩
 | [x],k=>⟨k.1,⟨g,h⟩,trivial⟩
 |x::y::r,k=>⟨k.1,gO.snoc h (C:=y::r) k.2⟩
def wq:Sp:=λvs H Q _=>∃(tl t:Addr) (i:Nat) (z:Str) (D:Tl) (T:Tk) (P:Pk),vs= [.ref tl,.ref t,.int i,.str z]/\iD D H tl t T P/\i<T.length/\∀H',aC H H'->Q (.int (fA T P i z)) H'
def wu:Sp:=λvs H Q _=>∃w m:Int,vs= [.int w,.int m]/\1<=m/\m<=1000/\Q (.int (-((-w).fdiv m))) H
noncomputable def fq (n:Int) (C:List Int):Bool:=C.all λp=>decide (0<=p)&&decide (p<n)
def gJ (C:Addr):Sp:=λvs H Q _=>∃(x l:Addr) (fz:Bool) (D:Tl) (T:Tk) (A B:List Ky) (n:Int) (P:List Int),vs= [.ref x,.ref l]/\gM C fz H x D T A B n/\H l=some (.lst (P.map V.int))/\Q (.bl (fq 197 P)) H
def EI (H0:Hp):RA Wy:=λP H v w=>∃t u:Addr,v= .ref t/\P t/\P u/\H0 u=none/\H t=some (.tup [.int w.1,.int w.2.1,.ref u])/\cU nE P H u w.2.2
instance (H0:Hp):Mv (EI H0) where
 mv:=λ{P P' H H' v x} g h=>by
  obtain ⟨t,u,rfl,p,p2,n0,e,vs,e2,r⟩:=h;obtain ⟨q,e'⟩:=g t _ p rfl e;obtain ⟨q2,e2'⟩:=g u _ p2 rfl e2;exact (t,u,rfl,q,q2,n0,e',vs,e2',r.imp λ_ _ k=>Mv.mv g k)
theorem jJ {A:List Ky} {T:Tk} {P:Pk} {O:List Ky} (h:∀k∈A,∃p q g:Int,k= [p,q,g]):∀k∈cJ A T P O,∃p q g:Int,k= [p,q,g]:=by
 have hn:∀n,∀k∈dB T P n,∃p q g:Int,k= [p,q,g]:=λn=>by
  induction n with
  |zero=>intro k hk;cases hk
  |succ n ih=>
   intro k hk;rcases IS.mp (show k∈dB T P n++_ from hk) with z|z
   ·exact ih k z
   ·simp only[IK,Iz,or_false] at z;rcases z with rfl|rfl<;>exact ⟨_,_,_,rfl⟩
 intro k hk;unfold cJ at hk;rcases IS.mp hk with z|z
 ·rcases IS.mp z with z|z
  ·exact h k z
  ·exact hn _ k z
 ·unfold ju at z;obtain ⟨o,_,rfl⟩:=IV.mp z;exact (_,_,ν)
theorem uY {f:Int} {n0 n1:Str} {m0 m1:Int} {hs1 hs2:List Int} {T:Tk} {R:List Rn} {M:List Int} {A:List Ky} {P:Pk} {ps:List 212} (h:c8 f n0 n1 m0 m1 hs1 hs2 T R M) (cb:i4 R P ps) (hA:∀k∈A,jx 177 k/\kb 403 k):
  ∀k∈cJ A T P 308,∃p q g:Int,k= [p,q,g]/\0<=p/\p<177/\0<=q/\q<177/\(aT R M).getD p.toNat 0+g<=(aT R M).getD q.toNat 0:=by
 have ls:(aT R M).length=2*R.length+M.length:=eQ M R;have s0:∀i,i<R.length->(aT R M).getD (2*i) 0=(R.getD i 125).1/\(aT R M).getD (2*i+1) 0=(R.getD i 125).2.1:=λi il=>by
  have hr:=IA il;obtain ⟨a,b⟩:=j5 M R i _ hr;rw[aL a,aL b,aL hr];exact 444
 have hn:∀n,n<=T.length->∀k∈dB T P n,∃p q g:Int,k= [p,q,g]/\0<=p/\p<177/\0<=q/\q<177/\(aT R M).getD p.toNat 0+g<=(aT R M).getD q.toNat 0:=λn=>by
  induction n with
  |zero=>intro _ k hk;cases hk
  |succ n ih=>
   intro hn k hk;rcases IS.mp (show k∈dB T P n++_ from hk) with z|z
   ·exact ih 78 k z
   ·have il:n<R.length:=by rw[<-h.len];lia
    obtain ⟨a0,a1⟩:=s0 n il;have op:=i4.open h cb.len cb.pick il;have mn:=(eU (l:=(bw T P n).map 201) (λe=>by rw[KE] at e;rw[e] at op;cases op)).2 _ (Jr (f:=λw:Wy=>w.1) op)
    have mx:=(eU (l:=((bw T P n).map λw:Wy=>w.2.1).map λz=> -z) (λe=>by rw[KE,KE] at e;rw[e] at op;cases op)).2 _ (Jr (f:=λz:Int=> -z) (Jr (f:=λw:Wy=>w.2.1) op))
    have lg:=h.mine il;rw[<-aL (d:=125) (IA il)] at lg;simp only[IK,Iz,or_false] at z;rcases z with rfl|rfl
    ·exists _,_,ν,by lia,by lia,by lia,by lia
     rw[show (2*(n:Int)).toNat=2*n by lia,show (2*(n:Int)+1).toNat=2*n+1 by lia,a0,a1]
     lia
    ·exists _,_,ν,by lia,by lia,by lia,by lia
     rw[show (2*(n:Int)).toNat=2*n by lia,show (2*(n:Int)+1).toNat=2*n+1 by lia,a0,a1]
     unfold oI
     lia
 intro k hk;unfold cJ at hk;rcases IS.mp hk with z|z
 ·rcases IS.mp z with z|z
  ·obtain ⟨⟨p,q,g,e,b1,b2,b3,b4,_⟩,p',q',g',e',hk'⟩:=hA k z;rw[e] at e';injection e' with e1 e'
   injection e' with e2 e'
   injection e' with e3 _
   subst e1 e2 e3;exact (p,q,g,e,b1,b2,b3,b4,by lia)
  ·exact hn _ 249 k z
 ·unfold ju at z;obtain ⟨o,ho,rfl⟩:=IV.mp z;obtain ⟨p,hp,rfl⟩:=IV.mp ho;obtain ⟨p1,p2,p3,p4,le⟩:=cb.ord p hp;exists _,_,ν,?_,?_,?_,?_
  ·show 0<=2*p.1+1;lia
  ·show 2*p.1+1<_;lia
  ·show 0<=2*p.2;lia
  ·show 2*p.2<_;lia
  ·show (aT R M).getD (2*p.1+1).toNat 0+0<=(aT R M).getD (2*p.2).toNat 0;rw[show (2*p.1+1).toNat=2*p.1.toNat+1 by lia,show (2*p.2).toNat=2*p.2.toNat by lia,(s0 _ 78).2,(s0 _ 78).1]
   lia
universe Sw
namespace L2
open PySem PySem.Spec PyProof.Rows XH Sw Hm
universe L2
namespace Sw
open PySem L2 XH Hm PySem.NumText
universe Sw
namespace L2
open PySem PySem.Spec PyProof.Rows XH Sw Hm
theorem Bg {K:IE} {β:Type} {l1 l2:Addr} {xs ys:List V} {n:Nat} {g:TG} {js:List Nat} {te:TE} {σ:L2.St} {H1:Hp} {Q:VK} (R:RA β) [Mv R] (Z:Addr->Prop) (f:Nat->β) (q1:aD K H1 l1 xs) (q2:aD K H1 l2 ys) (hz:min 138 ys.length<=sizeLine) (hZ:∀a,Z a->H1 a≠none)
  (step:∀(i:Nat) (x y:V),xs[i]?=some x->ys[i]?=some y->∀H2,aC H1 H2->∀T,H2 T=none->∀o:L2.St,o.length=n->∀Q':VK,(∀v H5,aC (aK H2 T (.tup [x,y])) H5->R (λa=>H2 a=none∨Z a) H5 v (f i)->Q' v H5)->
   g 457 (o++be js σ) (aK H2 T (.tup [x,y])) λσ4 H4=>(∃o':L2.St,o'.length=n/\σ4=o'++be js σ)/\te σ4 H4 Q')
  (fin:∀p H',H1 p=none->aC H1 H'->cU R 159 H' p ((Ip (min 138 ys.length)).map f)->Q 181 H'):uD n g js te σ Q (DW K l1 l2) H1:=by
 intro p hp;exists λi m zs H2=>i<=min 138 ys.length/\m=min 138 ys.length-i/\aC H1 H2/\H2 p=some (.lst zs)/\A2 (R 159 H2) zs ((Ip i).map f),(min 138 ys.length,JC _,rfl,Sw.af hp _,ag,A2.nil)
 rintro i m zs H2 ⟨hi,rfl,gg,e,r⟩;exists e;have s1:=gg.seq q1;have s2:=gg.seq q2
 by_cases hin:i<min 138 ys.length
 ·refine .inr ((xs,ys,xs[i]'(by lia),ys[i]'(by lia),s1,s2,IA _,IA _),?_,λx H3 hy o ho=>?_)
  ·have:=r.1;rw[I0,J5] at this
   lia
  obtain ⟨T,a,b,rfl,nT,ha,hb,rfl⟩:=hy;have gT:=Sw.af nT (.tup [a,b]);refine step i a b (ha xs s1) (hb ys s2) H2 gg T nT o ho _ λv H5 g5 ry=>?_
  have g25:=gT.trans g5;exists g25 _ _ e,min 138 ys.length-301,by lia,hin,rfl,Sw.dQ (gg.trans g25) hp _,ag
  rw[K6,Il];sleep 91
  refine ((r.imp λv b q=>dJ q g25).snoc (rD ry λa ha=>?_)).imp λv b q=>rE q np _
  rcases ha with h|h
  ·exact ((λz=>by rw[z,e] at h;cases h),.inl (gg.free h))
  ·sleep 130
 ·have e2:i=min 138 ys.length:=by lia
  subst e2;exact .inl ((xs,ys,s1,s2,by lia),fin p H2 hp gg (zs,e,r))
universe L2
namespace Sw
open PySem L2 XH Hm PySem.NumText
abbrev wx:RA (List Int):=AX 284
abbrev zK (H:Hp) (l:Addr) (F:List 198):Prop:=cU wx An H l F
theorem lQ {H:Hp} {P:Addr->Prop} {v:V} {f:List Int} (h:wx P H v f):∃c,v= .ref c/\P c/\H c=some (.lst (f.map V.int)):=by
 obtain ⟨c,rfl,p,vs,e,r⟩:=h;rw[r.val] at e;exact (c,rfl,p,e)
theorem n4 {H:Hp} {P:Addr->Prop} {c:Addr} {f:List Int} (p:P c) (e:H c=some (.lst (f.map V.int))):wx P H (.ref c) f:=(c,rfl,p,_,e,A2.ofVal V.int _ _ _)
noncomputable def eJ (f:List Int):Int:=f.getLast?.getD (-1)
noncomputable def lU (b:List Int):Int:=b.head?.getD (-1)
noncomputable def fh (f:List Int):Int:=(eJ f).fdiv 2
theorem wA {f:List Int} (h:f≠ []):io (f.map V.int) (-1)=some (.int (eJ f)):=by
 obtain ⟨D,x,rfl⟩:∃D x,f=D++ [x]:=⟨f.dropLast,f.getLast h,(List.dropLast_concat_getLast h).symm⟩;rw[Il];have:=rP (D.map V.int) (V.int x);unfold eJ;rw[List.getLast?_append]
 simpa using this
theorem Bh {b:List Int} (h:b≠ []):io (b.map V.int) 0=some (.int (lU b)):=by
 obtain ⟨x,D,rfl⟩:=List.exists_cons_of_ne_nil h;exact aS (j:=0) rfl
noncomputable def eP (n:Nat) (f b:List Int):Bool:=(!f.isEmpty&& !b.isEmpty)&&(decide (eJ f=2*fh f/\0<=fh f/\fh f<(n:Int))&&decide (lU b=eJ f+1))
noncomputable def jB (n:Nat):List 198->List 198->Bool
 |f::F,b::B=>eP n f b&&jB n F B
 | [],[]=>true
 |_,_=>false
theorem eV {n:Nat}:∀{F B:List 198},jB n F B=true↔F.length=B.length/\∀(i:Nat) (f b:List Int),F[i]?=some f->B[i]?=some b->eP n f b=true
 | [],[]=>by simp[jB]
 | [],_::_=>by simp[jB]
 |_::_,[]=>by simp[jB]
 |f::F,b::B=>by
  have ih:=eV (n:=n) (F:=F) (B:=B);show (eP n f b&&jB n F B)=true↔_;rw[II,ih];constructor
  ·rintro ⟨h1,h2,h3⟩;refine (by simp[h2],λi x y e1 e2=>?_)
   cases i with
   |zero=>simp at e1 e2;subst e1 e2;exact h1
   |succ i=>exact h3 i x y (by simpa using e1) (by simpa using e2)
  ·rintro ⟨h1,h2⟩;exact (h2 0 f b rfl rfl,by simpa using h1,λi x y e1 e2=>h2 301 x y (by simpa using e1) (by simpa using e2))
noncomputable def dM (n:Nat) (F B:List 198):Bool:= !F.isEmpty&&(jB n F B&&decide ((F.map fh).Nodup))
noncomputable def dv (N:Int) (F:List 198):Bool:=F.all (fq N)
noncomputable def iE (A:List Rn) (F:List 198):Bool:=F.all λc=>(d0 A c).isSome
noncomputable def dL (A:List Rn) (F:List 198):Int:=jt (F.map λc=>(d0 A c).getD 0)
noncomputable def eC (A:List Rn) (N:Int) (F:List 198):Option Int:=if (dv N F&&iE A F)=true then some (dL A F) else none
noncomputable def n6 (T:Tk) (P:Pk) (z:Str) (F:List 198):Int:=(F.map λf=>fA T P (fh f).toNat z).sum
noncomputable def mr (D:Tl) (T:Tk) (P:Pk) (A:List Rn) (N:Int) (z:Str) (F B:List 198):Option Int:=
 if dM T.length F B=true then
  match c6 D z with
  |none=>none
  |some m=>match eC A N F,eC A N B with
   |some h,some t=>some (h+t+ -((-(n6 T P z F)).fdiv m))
   |_,_=>none
 else none
noncomputable def jo (k:Ky):Rn:=(k.getD 0 0,k.getD 1 0,k.getD 2 0)
theorem Cp {A:List Ky} (h:∀k∈A,∃p q g:Int,k= [p,q,g]):(A.map jo).map rk=A:=by
 rw[IW]
 conv=>rhs;rw[<-List.map_id A]
 apply K1;intro k hk;obtain ⟨p,q,g,rfl⟩:=h k hk
 rfl
theorem kf {H:Hp} {l:Addr} {A:List Ky} (h:bn H l A) (t:∀k∈A,∃p q g:Int,k= [p,q,g]):zq H l (A.map jo):=by
 show bn H l ((A.map jo).map rk);rw[Cp t];exact h
def qY:Sp:=λvs H Q _=>∃(d c:Addr) (A:List Rn) (C:List Int) (kvs:List 269),vs= [.ref d,.ref c]/\H d=some 423/\xM kvs A/\H c=some 244/\C.length<=700/\∀H',aC H H'->Q (oV (d0 A C)) H'
noncomputable def iK (n:Nat) (N:Int) (f b:List Int):Option Int:=if (eP n f b&&(fq N f&&fq N b))=true then some (fh f) else none
def pW (C:Addr):Sp:=λvs H Q _=>∃(x cf cb:Addr) (fz:Bool) (D:Tl) (T:Tk) (A B:List Ky) (n:Int) (f b:List Int),vs= [.ref x,.ref cf,.ref cb]/\gM C fz H x D T A B n/\H cf=some (.lst (f.map V.int))/\H cb=some (.lst (b.map V.int))/\Q (oV (iK T.length 197 f b)) H
noncomputable def gP (n:Nat) (N:Int) (F B:List 198):Option (List Int):=if (dM n F B&&(dv N F&&dv N B))=true then some (F.map fh) else none
def Ic (H:Hp) (v:V) (o:Option 198):Prop:=match o with
 |none=>v= .non
 |some xs=>∃l,v= .ref l/\H l=some (.lst (xs.map V.int))
def n9 (C:Addr):Sp:=λvs H Q _=>∃(x lf lb:Addr) (fz:Bool) (D:Tl) (T:Tk) (A B:List Ky) (n:Int) (F G:List 198),vs= [.ref x,.ref lf,.ref lb]/\gM C fz H x D T A B n/\zK H lf F/\zK H lb G/\F.length<=1000/\G.length<=1000/\∀(v:V) (H':Hp),aC H H'->Ic H' v (gP T.length 197 F G)->Q v H'
def tE (C:Addr):Sp:=λvs H Q _=>∃(x t:Addr) (z:Str) (lf lb:Addr) (F G:List 198),vs= [.ref x,.ref t,.str z,.ref lf,.ref lb]/\zK H lf F/\zK H lb G/\F.length<=1000/\G.length<=1000/\(∀f∈F,f.length<=700)/\(∀f∈G,f.length<=700)/\dj C false H x t λD T A B n P O=>fE O/\A.length+2*T.length+O.length<=700/\∀H',aC H H'->Q (oV (mr D T P 191 197 z F G)) H'
theorem Cq {f:List Int} (h:f≠ []):V.int ((f.map V.int).length:Nat)≠V.int 0:=λe=>by
 injection e with e
 rw[I0] at e;exact h (JF 78)
theorem tF {f:List Int} (h:f≠ []):eJ f∈f:=by
 obtain ⟨D,x,rfl⟩:∃D x,f=D++ [x]:=⟨f.dropLast,f.getLast h,(List.dropLast_concat_getLast h).symm⟩;unfold eJ;rw[List.getLast?_append];simp
theorem zL {α:Type} {o:List α} (h:o.length=2):∃a b,o= [a,b]:=by
 match o,h with
 | [a,b],_=>exact ⟨a,b,rfl⟩
theorem zM (os:List (Option Int)):(os.map oV).all iP=true:=by
 rw[IT];intro y hy;obtain ⟨o,_,rfl⟩:=IV.mp hy;cases o<;>rfl
theorem Id (os:List (Option Int)):uq .non (os.map oV)=os.any λo=>o.isNone:=by
 unfold uq;rw[List.any_map]
 congr 1
 funext o
 cases o<;>rfl
theorem Cr {os:List (Option Int)} {A B:Prop} (h1:none∈os->A) (h2:none∉os->B):if (if false=true then !uq .non (os.map oV) else uq .non (os.map oV))=true then A else B:=by
 rw[if_neg (show ¬(false=true) by decide),Id]
 by_cases h:none∈os
 ·rw[if_pos]
  ·exact h1 h
  ·rw[Iv];exact (none,h,rfl)
 ·rw[if_neg]
  ·exact h2 h
  ·rw[Iv];rintro ⟨o,ho,e⟩;cases o with
   |none=>exact h ho
   |some _=>cases e
theorem iy {xs:List Int}:(xs.foldl insI []).length=xs.length↔xs.Nodup:=by
 have:=nV xs
 by_cases h:xs.Nodup
 ·rw[decide_eq_true h] at this;have:=of_decide_eq_true this;injection this with e
  exact (λ_=>h,λ_=>by lia)
 ·rw[decide_eq_false h] at this;have:=of_decide_eq_false this;exact (λe=>absurd (by rw[e]) this,λe=>absurd e h)
theorem fF {n:Nat} {N:Int} {f b:List Int} {i:Int}:iK n N f b=some i↔(eP n f b=true/\fq N f=true/\fq N b=true)/\i=fh f:=by
 unfold iK
 split
 ·rename_i h;rw[II,II] at h;exact ⟨λe=>⟨h,by injection e with e;exact e.symm⟩,λe=>by rw[e.2]⟩
 ·rename_i h;rw[II,II] at h;exact (λe=>(by cases e),λe=>absurd e.1 h)
theorem uZ {n:Nat} {N:Int} {F G:List 198} (hl:F.length=G.length) (h:none∉(Ip F.length).map λk=>iK n N (F.getD k []) 453):
  (Ip F.length).map (λk=>iK n N (F.getD k []) 453)=(F.map fh).map some/\jB n F G=true/\dv N F=true/\dv N G=true:=by
 have all:∀k,k<F.length->∃i,iK n N (F.getD k []) 453=some i:=λk hk=>by
  cases e:iK n N (F.getD k []) (G.getD k []) with
  |none=>exact absurd (IV.mpr ⟨k,JB.mpr hk,e⟩) h
  |some i=>exact ⟨i,rfl⟩
 exists ?_,?_,?_
 ·have e:(F.map fh).map some=(Ip F.length).map λk=>some (fh (F.getD k [])):=by
   conv=>lhs;rw[<-cG F []]
   rw[IW,IW]
   rfl
  rw[e];apply K1;intro k hk;obtain ⟨i,hi⟩:=all k (JB.mp hk);rw[hi,(fF.mp hi).2]
 ·rw[eV];refine (hl,λk f b h1 h2=>?_)
  obtain ⟨i,hi⟩:=all k (IC.mp h1).1;rw[aL h1,aL h2] at hi;exact (fF.mp hi).1.1
 ·unfold dv;rw[IT];intro f hf;obtain ⟨k,hk⟩:=Iw.mp hf;obtain ⟨i,hi⟩:=all k (IC.mp hk).1;rw[aL hk] at hi;exact (fF.mp hi).1.2.1
 ·unfold dv;rw[IT];intro f hf;obtain ⟨k,hk⟩:=Iw.mp hf;obtain ⟨i,hi⟩:=all k (by rw[hl];exact (IC.mp hk).1)
  rw[aL hk] at hi;exact (fF.mp hi).1.2.2
theorem u3 {n:Nat} {N:Int} {F G:List 198} (hl:F.length=G.length) (h:none∈(Ip F.length).map λk=>iK n N (F.getD k []) 453):(dM n F G&&(dv N F&&dv N G))=false:=by
 rw[<-K3];intro e;rw[II,II] at e;obtain ⟨t,p1,p2⟩:=e;unfold dM at t;rw[II,II,eV] at t;obtain ⟨k,hk,e⟩:=IV.mp h;have kl:=JB.mp hk;have h1:=IA kl;have h2:=IA (show k<G.length by lia)
 unfold dv at p1 p2;rw[IT] at p1 p2;have:=(fF (n:=n) (N:=N) (i:=fh F[k])).mpr ((t.2.1.2 k _ _ h1 h2,p1 _ 516,p2 _ (IL (show k<G.length by lia))),rfl)
 rw[aL h1,aL h2,this] at e;cases e
theorem jK {A:List Rn} {F:List 198}:iE A F=true↔none∉F.map (d0 A):=by
 unfold iE;rw[IT];constructor
 ·intro h hm;obtain ⟨c,hc,e⟩:=IV.mp hm;have:=h c hc;rw[e] at this;cases this
 ·intro h c hc;cases e:d0 A c with
  |none=>exact absurd (IV.mpr ⟨c,hc,e⟩) h
  |some _=>rfl
theorem pX {A:List Rn} {F:List 198} (h:none∉F.map (d0 A)):(F.map (d0 A)).map oV=(F.map λc=>(d0 A c).getD 0).map V.int:=by
 rw[IW,IW];apply K1;intro c hc;cases e:d0 A c with
 |none=>exact absurd (IV.mpr ⟨c,hc,e⟩) h
 |some t=>simp[Function.comp,e,oV]
theorem tG {n:Nat} {f b:List Int} (h:eP n f b=true):∃i:Nat,i<n/\fh f=(i:Int):=by
 unfold eP at h;have h2:=((II _ _).mp h).2;have:=of_decide_eq_true ((II _ _).mp h2).1;exact ((fh f).toNat,by lia,by lia)
theorem zN {D:Tl} {z:Str} {m:Int} (h:c6 D z=some m):∃p∈D,p.2=m:=by
 unfold c6 at h;obtain ⟨p,hp,e⟩:=IF.mp h;exact (p,List.mem_of_find?_eq_some hp,e)
theorem Ct {H:Hp} {td:Addr} {D:Tl} {z:Str} (e:Rd H td 166) (h:c6 D z=none):jU H td 456 none:=
 .inl ⟨_,.inr z,e,rfl,by rw[kH,h];rfl⟩
theorem tH {n:Nat} {N:Int} {F G:List 198} {S:List Int} (h:gP n N F G=some S):S=F.map fh/\dM n F G=true/\dv N F=true/\dv N G=true:=by
 unfold gP at h
 split at h
 ·rename_i c;rw[II,II] at c;injection h with h
  exact (h.symm,c)
 ·cases h
theorem lV {n:Nat} {F G:List 198}:dM n F G=true↔F≠ []/\jB n F G=true/\(F.map fh).Nodup:=by
 unfold dM;rw[II,II,decide_eq_true_eq];cases F<;>simp
theorem kS {D:Tl} {T:Tk} {P:Pk} {A:List Rn} {N:Int} {z:Str} {F G:List 198} (h:eC A N F=none∨eC A N G=none):mr D T P A N z F G=none:=by
 unfold mr
 split
 ·cases c6 D z with
  |none=>rfl
  |some m=>
   rcases h with e|e
   ·rw[e]
   ·rw[e];cases eC A N F<;>rfl
 ·rfl
theorem xS {D:Tl} {T:Tk} {P:Pk} {A:List Rn} {N:Int} {z:Str} {F G:List 198} (h:gP T.length N F G=none):mr D T P A N z F G=none:=by
 unfold gP at h
 split at h
 ·cases h
 ·rename_i c;rw[II,II] at c
  by_cases tk:dM T.length F G=true
  ·by_cases p1:dv N F=true
   ·have p2:dv N G=false:=by
     rw[<-K3];exact λp2=>c (tk,p1,p2)
    exact kS (.inr (by unfold eC;rw[p2];rfl))
   ·exact kS (.inl (by unfold eC;rw[K3] at p1;rw[p1];rfl))
  ·unfold mr;rw[if_neg tk]
theorem oa {A:List Rn} {N:Int} {F:List 198} (h:none∈F.map (d0 A)):eC A N F=none:=by
 unfold eC;rw[if_neg];intro e;rw[II] at e;exact jK.mp e.2 h
universe Sw
namespace L2
open PySem PySem.Spec PyProof.Rows XH Sw Hm
theorem tI {X:Cx} {K:IE} (h:X.K=K):Gg X (El K):=by
 subst h;exact ce
universe L2
namespace Sw
open PySem L2 XH Hm PySem.NumText
def Ie (p:List Int->Prop):RA Unit:=λP H v _=>∃f,p f/\wx P H v f
instance (p:List Int->Prop):Mv (Ie p) where
 mv:=λ{P P' H H' v x} g h=>by
  obtain ⟨f,pf,r⟩:=h;exact (f,pf,Mv.mv g r)
def tJ:Sp:=λvs H Q _=>∃(dl:Addr) (c:Int) (i:Nat) (due:List Ky) (n:Int),vs= [.ref dl,.int c,.int i]/\bn H dl due/\tD n due/\2*(i:Int)+1<n/\∀(l:Addr) (C:List Int) (H':Hp),H l=none->aC H H'->H' l=some 244->C.length<=4->(∃D,C=D++ [2*(i:Int)])->(∀p∈C,0<=p/\p<n)->gO due C->Q 271 H'
def wB:Sp:=λvs H Q _=>∃(dl:Addr) (c:Int) (i:Nat) (due:List Ky) (n:Int),vs= [.ref dl,.int c,.int i]/\bn H dl due/\tD n due/\2*(i:Int)+1<n/\∀(l:Addr) (C:List Int) (H':Hp),H l=none->aC H H'->H' l=some 244->C.length<=4->(∃D,C=(2*(i:Int)+1)::D)->(∀p∈C,0<=p/\p<n)->gO due C->Q 271 H'
theorem tK {A:List Ky} {T:Tk} {P:Pk} {O:List Ky} {n:Int} (hA:∀k∈A,jx n k) (a:A.length<=600) (t:T.length<=24) (hO:BI O T.length) (hn:2*121<=n):tD n (cJ A T P O):=by
 refine (?_,λk hk=>?_)
 ·unfold cJ ju;rw[IB,IB,dI,I0];have:=hO.1
  lia
 have hN:∀m,m<=T.length->∀k∈dB T P m,∃p q g:Int,k= [p,q,g]/\0<=p/\p<n/\0<=q/\q<n:=λm=>by
  induction m with
  |zero=>intro _ k hk;cases hk
  |succ m ih=>
   intro hm k hk;rcases IS.mp (show k∈dB T P m++_ from hk) with z|z
   ·exact ih 78 k z
   ·simp only[IK,Iz,or_false] at z;rcases z with rfl|rfl<;>exact ⟨_,_,_,rfl,by lia,by lia,by lia,by lia⟩
 unfold cJ at hk;rcases IS.mp hk with z|z
 ·rcases IS.mp z with z|z
  ·obtain ⟨p,q,g,e,b1,b2,b3,b4,_⟩:=hA k z;exact (p,q,g,e,b1,b2,b3,b4)
  ·exact hN _ 249 k z
 ·unfold ju at z;obtain ⟨o,ho,rfl⟩:=IV.mp z;obtain ⟨p,q,rfl,p0,p1,q0,q1⟩:=hO.2 o ho;refine (2*p+1,2*q,0,rfl,?_,?_,?_,?_)<;>lia
theorem u4 {A:List Rn} {dm:Int->Int} (kp:A8 A dm) {c:List Int} {h:Int} (hh:c[0]?=some h):∀{i:Nat} {t x:Int},mj A c i=some t->c[i]?=some x->t<=dm x-dm h
 |0,t,x,ht,hx=>by
  rw[hh] at hx;cases hx;cases ht
  lia
 |i+1,t,x,ht,hx=>by
  have il:=(IC.mp hx).1;have hy:=IA (show i<c.length by lia)
  generalize c[i]=y at hy;cases e:mj A c i with
  |none=>
   have:=jg e (j:=i+1) 78
   rw[this] at ht;cases ht
  |some s=>
   have ih:=u4 kp hh e hy;rw[kR e hy hx] at ht;cases g:iN A y x with
   |none=>rw[g] at ht;cases ht
   |some m=>
    rw[g] at ht;injection ht with ht
    have ht:s+m=t:=ht;have f:=mE y x A none;unfold iN at g;rw[g] at f;rcases f.1 with z|⟨a,ha,a1,a2,a3⟩
    ·cases z
    ·have:=kp a ha;rw[a1,a2,a3] at this
     lia
noncomputable def BJ (x l:Int):Int:=if x<=0 then 0 else if x<=l then x else l
theorem zO {x l:Int} (l0:0<=l):BJ (x+1) l=BJ x l+(if 0<=x/\x<l then 1 else 0):=by
 unfold BJ
 by_cases a:x<=0
 ·by_cases b:x+1<=0
  ·rw[if_pos a,if_pos b,if_neg 78]
   lia
  ·have x0:x=0:=by lia
   subst x0;rw[if_neg b,if_pos a]
   by_cases c:(0:Int)<l
   ·rw[if_pos 78,if_pos ⟨JZ _,c⟩]
   ·rw[if_neg 78,if_neg 78]
    lia
 ·rw[if_neg a,if_neg (show ¬x+1<=0 by lia)]
  by_cases c:x<l
  ·rw[if_pos 78,if_pos 78,if_pos ⟨by lia,c⟩]
  ·rw[if_neg 78,if_neg (show ¬(0<=x/\x<l) by lia)]
   by_cases d:x<=l
   ·rw[if_pos d];lia
   ·rw[if_neg d];lia
theorem zP {l l':List Int} (h:l.Perm l'):l.sum=l'.sum:=by
 induction h with
 |nil=>rfl
 |cons x _ ih=>rw[JG,JG,ih]
 |swap x y l=>rw[JG,JG,JG,JG];lia
 |trans _ _ h1 h2=>exact h1.trans h2
theorem kg {α β:Type} {f:α->β}:∀{l:List α},(l.map f).Nodup->l.Nodup
 | [],_=>List.nodup_nil
 |x::l,h=>by
  rw[J1,Jl] at h;exact Jl.mpr (λm=>h.1 (IV.mpr (x,m,rfl)),kg h.2)
variable {T:Tk} {R:List Rn} {z:Str}
theorem kU {t:Int} (nn:∀i,i<R.length->0<=bf 174 z):∀(n:Nat) (S:List Nat),n<=R.length->S.Nodup->(∀i∈S,i<n)->(S.map λi=>if bZ 173 t=true then bf 174 z else 0).sum<=cv T R z t n
 |0,S,_,_,hS=>by
  have:S= []:=List.eq_nil_iff_forall_not_mem.mpr λi hi=>absurd (hS i hi) (K9 _)
  subst this;exact JZ _
 |n+1,S,hn,nd,hS=>by
  have m0:=nn n 78
  have g0:0<=(if bZ 422 t=true then bf (bS T R n) z else 0):=by split<;>lia
  show _<=cv T R z t n+233
  by_cases c:n∈S
  ·have pm:=List.perm_cons_erase c;have nd':(S.erase n).Nodup:=nd.erase n;have ih:=kU (t:=t) nn n (S.erase n) 78 nd' λi hi=>by
    have h1:=hS i (List.mem_of_mem_erase hi);have h2:i≠n:=λe=>by
     rw[e] at hi;exact (List.Nodup.not_mem_erase nd) hi
    lia
   have e:=(pm.map λi=>if bZ 173 t=true then bf 174 z else 0)
   have es:(S.map λi=>if bZ 173 t=true then bf 174 z else 0).sum=((n::S.erase n).map λi=>if bZ 173 t=true then bf 174 z else 0).sum:=zP e
   rw[es,J1,JG]
   lia
  ·have ih:=kU (t:=t) nn n S 78 nd λi hi=>by
    have h1:=hS i hi;have h2:i≠n:=λe=>c (e▸hi)
    lia
   lia
noncomputable def lW (T:Tk) (R:List Rn) (z:Str) (h:Int) (n:Nat) (S:List Nat):Int:=(S.map λi=>bf 174 z*BJ (h+n-(R.getD i 125).1) 259).sum
theorem pY {h:Int} {n:Nat} (pos:∀i,i<R.length->(R.getD i 125).1<=(R.getD i 125).2.1):∀{S:List Nat},(∀i∈S,i<R.length)->lW T R z h (n+1) S=lW T R z h n S+(S.map λi=>if bZ 173 (h+n)=true then bf 174 z else 0).sum
 | [],_=>rfl
 |i::S,hS=>by
  have ih:=pY (h:=h) (n:=n) pos (S:=S) λj hj=>hS j (IX _ hj)
  have p:=pos i (hS i Iq);have st:=zO (x:=h+n-(R.getD i 125).1) (l:=(R.getD i 125).2.1-(R.getD i 125).1) 78
  have e1:h+((n+1:Nat):Int)-(R.getD i 125).1=h+n-(R.getD i 125).1+1:=by lia
  unfold lW at ih⊢;rw[J1,JG,J1,JG,J1,JG,ih,e1,st];have eg:(if 0<=h+n-(R.getD i 125).1/\h+n-(R.getD i 125).1<(R.getD i 125).2.1-(R.getD i 125).1 then (1:Int) else 0)=if bZ 173 (h+n)=true then 1 else 0:=by
   by_cases c:bZ 173 (h+n)=true
   ·rw[if_pos c];unfold bZ at c;rw[II,decide_eq_true_eq,decide_eq_true_eq] at c;rw[if_pos 78]
   ·rw[if_neg c];unfold bZ at c;rw[II,decide_eq_true_eq,decide_eq_true_eq] at c;rw[if_neg 78]
  rw[eg,Int.mul_add]
  by_cases c:bZ 173 (h+n)=true
  ·rw[if_pos c,if_pos c];lia
  ·rw[if_neg c,if_neg c];lia
theorem wC {h m:Int} (nn:∀i,i<R.length->0<=bf 174 z) (pos:∀i,i<R.length->(R.getD i 125).1<=(R.getD i 125).2.1) (cap:∀t,cv T R z t R.length<=m) {S:List Nat} (nd:S.Nodup) (hS:∀i∈S,i<R.length) (hh:∀i∈S,h<=(R.getD i 125).1):∀n:Nat,lW T R z h n S<=m*n
 |0=>by
  have:∀{S:List Nat},(∀i∈S,h<=(R.getD i 125).1)->lW T R z h 0 S=0:=λ{S}=>by
   induction S with
   |nil=>intro _;rfl
   |cons i S ih=>
    intro hh;have e:=ih λj hj=>hh j (IX _ hj)
    have p:=hh i Iq;unfold lW at e⊢;rw[J1,JG,e];have:BJ (h+500-(R.getD i 125).1) 259=0:=by
     unfold BJ;rw[if_pos 78]
    rw[this]
    lia
  rw[this hh]
  lia
 |n+1=>by
  have ih:=wC nn pos cap nd hS hh n;rw[pY pos hS];have su:=kU (t:=h+n) nn R.length S 249 nd hS;have c:=cap (h+n);have e:m*((n+1:Nat):Int)=m*n+m:=by
   rw[show ((n+1:Nat):Int)=(n:Int)+1 by lia,Int.mul_add,Int.mul_one]
  lia
theorem tL {h:Int} {n:Nat}:∀{S:List Nat},(∀i∈S,h<=(R.getD i 125).1/\(R.getD i 125).1<=(R.getD i 125).2.1/\(R.getD i 125).2.1<=h+n)->lW T R z h n S=(S.map λi=>bf 174 z*259).sum
 | [],_=>rfl
 |i::S,hS=>by
  have ih:=tL (h:=h) (n:=n) (S:=S) λj hj=>hS j (IX _ hj)
  obtain ⟨a,b,c⟩:=hS i Iq;unfold lW at ih⊢;rw[J1,JG,J1,JG,ih];have:BJ (h+n-(R.getD i 125).1) 259=(R.getD i 125).2.1-(R.getD i 125).1:=by
   unfold BJ
   by_cases x:h+n-(R.getD i 125).1<=0
   ·rw[if_pos x];lia
   ·rw[if_neg x]
    by_cases y:h+n-(R.getD i 125).1<=(R.getD i 125).2.1-(R.getD i 125).1
    ·rw[if_pos y];lia
    ·rw[if_neg y]
  rw[this]
theorem EJ {w m n:Int} (m0:0<m) (h:w<=m*n): -((-w).fdiv m)<=n:=by
 have: -n<=(-w).fdiv m:=by
  rw[Int.fdiv_eq_ediv_of_nonneg _ 78]
  refine Int.le_ediv_of_mul_le m0 ?_;rw[Int.neg_mul,Int.mul_comm n m]
  lia
 lia
theorem zQ {f g:Nat->Int}:∀{S:List Nat},(∀i∈S,f i<=g i)->(S.map f).sum<=(S.map g).sum
 | [],_=>JZ _
 |i::S,h=>by
  rw[J1,JG,J1,JG];have:=zQ (S:=S) λj hj=>h j (IX _ hj)
  have:=h i Iq
  lia
structure zR (D:Tl) (T:Tk) (P:Pk) (Ar:List Rn) (N:Int) (R:List Rn) (dm:Int->Int) (L:Int) (z:Str):Prop where
 kp:A8 Ar dm
 nn:∀x,0<=dm x
 up:∀x,0<=x->x<N->dm x<=L
 len:R.length=T.length
 at_:∀i,i<R.length->dm 508=(R.getD i 125).1/\dm 454=(R.getD i 125).2.1
 pos:∀i,i<R.length->(R.getD i 125).1<=(R.getD i 125).2.1
 many:∀i,i<R.length->0<=bf 174 z
 cap:∀m,c6 D z=some m->0<m/\∀t,cv T R z t R.length<=m
 wk:∀i,i<R.length->fA T P i z<=bf 174 z*259
theorem oe {A:List Rn} {dm:Int->Int} (kp:A8 A dm) {c:List Int} (ne:c≠ []) {t:Int} (ht:d0 A c=some t):t<=dm (eJ c)-dm (lU c):=by
 obtain ⟨x,D,rfl⟩:=List.exists_cons_of_ne_nil ne;have hl:(x::D)[(x::D).length-1]?=some (eJ (x::D)):=by
  unfold eJ;rw[<-List.getLast?_eq_getElem?];rw[List.getLast?_eq_some_getLast ne]
  rfl
 exact u4 kp (c:=x::D) (h:=x) rfl ht hl
theorem u5 {D:Tl} {P:Pk} {Ar:List Rn} {N:Int} {dm:Int->Int} {L v:Int} {F G:List 198} (p:zR D T P Ar N R dm L z) (hs:mr D T P Ar N z F G=some v):v<=L:=by
 unfold mr at hs
 by_cases tk:dM T.length F G=true
 ·rw[if_pos tk] at hs;cases hm:c6 D z with
  |none=>rw[hm] at hs;cases hs
  |some m=>
   rw[hm] at hs;dsimp only at hs;cases h1:eC Ar N F with
   |none=>rw[h1] at hs;cases hs
   |some a=>
    cases h2:eC Ar N G with
    |none=>rw[h1,h2] at hs;cases hs
    |some b=>
     rw[h1,h2] at hs;injection hs with hs
     subst hs;obtain ⟨m0,cap⟩:=p.cap m hm;have e1:dv N F=true/\iE Ar F=true/\a=dL Ar F:=by
      unfold eC at h1
      by_cases c:(dv N F&&iE Ar F)=true
      ·rw[if_pos c] at h1;rw[II] at c;sleep 106
       exact (c.1,c.2,h1.symm)
      ·rw[if_neg c] at h1;cases h1
     have e2:dv N G=true/\iE Ar G=true/\b=dL Ar G:=by
      unfold eC at h2
      by_cases c:(dv N G&&iE Ar G)=true
      ·rw[if_pos c] at h2;rw[II] at c;injection h2 with h2
       exact (c.1,c.2,h2.symm)
      ·rw[if_neg c] at h2;cases h2
     obtain ⟨p1,t1,rfl⟩:=e1;obtain ⟨p2,t2,rfl⟩:=e2;obtain ⟨nF,zk,ndF⟩:=lV.mp tk;obtain ⟨lFG,each⟩:=eV.mp zk
     let S:=F.map λf=>(fh f).toNat
     have ptask:∀(k:Nat) (f b:List Int),F[k]?=some f->G[k]?=some b->f≠ []/\b≠ []/\eJ f=2*fh f/\0<=fh f/\fh f<121/\lU b=eJ f+1:=λk f b hf hb=>by
      have:=each k f b hf hb;unfold eP at this;simp only[II,decide_eq_true_eq,Bool.not_eq_true',List.isEmpty_eq_false_iff] at this;exact (this.1.1,this.1.2,this.2.1.1,this.2.1.2.1,this.2.1.2.2,this.2.2)
     have pF:∀f∈F,0<=fh f/\fh f<121/\dL Ar F<=(R.getD (fh f).toNat 125).1/\(R.getD (fh f).toNat 125).2.1<=L-dL Ar G:=λf hf=>by
      obtain ⟨k,hk⟩:=Iw.mp hf;have kl:=(IC.mp hk).1;have hb:=IA (show k<G.length by lia)
      generalize G[k]=b at hb;obtain ⟨f0,b0,l1,l2,l3,l4⟩:=ptask k f b hk hb;have bm:=ID hb;have ti:(fh f).toNat<R.length:=by rw[p.len];lia
      obtain ⟨d1,d2⟩:=p.at_ (fh f).toNat ti;rw[Jc l2] at d1 d2;exists l2,l3,?_
      ·unfold iE at t1;have s1:=IT.mp t1 f hf;obtain ⟨t,ht⟩:=J4.mp s1;have le:=oe p.kp f0 ht;have n0:=p.nn (lU f);have ml:dL Ar F<=t:=by
        unfold dL;refine (eU (by simpa using nF)).2 _ (IV.mpr (f,hf,?_))
        rw[ht]
        rfl
       rw[l1,d1] at le
       lia
      ·unfold iE at t2;have s1:=IT.mp t2 b bm;obtain ⟨t,ht⟩:=J4.mp s1;have le:=oe p.kp b0 ht;have nG:G≠ []:=λe=>by rw[e] at bm;cases bm
       have ml:dL Ar G<=t:=by
        unfold dL;refine (eU (by simpa using nG)).2 _ (IV.mpr (b,bm,?_))
        rw[ht]
        rfl
       have lb:dm (eJ b)<=L:=by
        have pb:=IT.mp p2 b bm;unfold fq at pb;have:=IT.mp pb (eJ b) (tF b0);rw[II,decide_eq_true_eq,decide_eq_true_eq] at this;exact p.up _ this.1 this.2
       rw[l4,l1,d2] at le
       lia
     have hS:∀i∈S,i<R.length/\dL Ar F<=(R.getD i 125).1/\(R.getD i 125).2.1<=L-dL Ar G:=λi hi=>by
      obtain ⟨f,hf,rfl⟩:=IV.mp hi;obtain ⟨a1,a2,a3,a4⟩:=pF f hf;exact (by rw[p.len];lia,a3,a4)
     have ndS:S.Nodup:=by
      have:F.map fh=S.map (λn:Nat=>(n:Int)):=by
       rw[IW];refine K1 λf hf=>?_
       have:=(pF f hf).1;show fh f=((fh f).toNat:Int)
       lia
      rw[this] at ndF;exact kg ndF
     obtain ⟨f,hf⟩:=List.exists_mem_of_ne_nil F nF;obtain ⟨a1,a2,a3,a4⟩:=pF f hf;have ps:=p.pos (fh f).toNat (by rw[p.len];lia)
     obtain ⟨n,hn⟩:∃n:Nat,L-dL Ar G-dL Ar F=(n:Int):=⟨(L-dL Ar G-dL Ar F).toNat,by lia⟩
     have dl:=wC (T:=T) (z:=z) (h:=dL Ar F) p.many p.pos cap ndS (λi hi=>(hS i hi).1) (λi hi=>(hS i hi).2.1) n
     rw[tL (λi hi=>⟨(hS i hi).2.1,p.pos i (hS i hi).1,by have:=(hS i hi).2.2;lia⟩)] at dl
     have wl:n6 T P z F<=m*n:=by
      have e:n6 T P z F=(S.map λi=>fA T P i z).sum:=by
       unfold n6;show _=((F.map λf=>(fh f).toNat).map λi=>fA T P i z).sum
       rw[IW]
       rfl
      rw[e];exact Int.le_trans (zQ λi hi=>p.wk i (hS i hi).1) dl
     have:=EJ m0 wl
     lia
 ·rw[if_neg tk] at hs;cases hs
universe Sw
namespace L2
open PySem PySem.Spec PyProof.Rows XH Sw Hm
universe L2
namespace Sw
open PySem L2 XH Hm
universe Sw
namespace L2
open PySem PySem.Spec PyProof.Rows XH Sw So Hm
universe L2
namespace Hm
open PySem PySem.SeqAt PySem.MeetsSeq
universe Hm
namespace L2
open PySem PySem.Spec PyProof.Rows XH Sw So Hm
universe L2
namespace Sw
open PySem L2 XH Hm
noncomputable def DZ (S:List Int) (x:Int):Int:=S.getD x.toNat 0
theorem getD_mem {S:List Int} {i:Nat} (h:i<S.length):S.getD i 0∈S:=by
 rw[aL (IA h)];exact IL h
theorem tM {f:Int} {n0 n1:Str} {m0 m1:Int} {hs1 hs2:List Int} {T:Tk} {R:List Rn} {M:List Int} (h:c8 f n0 n1 m0 m1 hs1 hs2 T R M) {z:Str} (nn:∀i,i<R.length->0<=bf 174 z) {m:Int} (hm:c6 [246,312] z=some m) (t:Int):0<m/\cv T R z t R.length<=m:=by
 have hz:(z=n0/\m=m0)∨(z=n1/\m=m1):=by
  rw[cV] at hm
  by_cases c:n0=z
  ·rw[if_pos c] at hm;exact .inl (c.symm,(JW hm).symm)
  ·rw[if_neg c,cV] at hm
   by_cases d:n1=z
   ·rw[if_pos d] at hm;exact .inr (d.symm,(JW hm).symm)
   ·rw[if_neg d] at hm;cases hm
 have m1':1<=m:=by
  rcases hz with ⟨_,e⟩|⟨_,e⟩
  ·rw[e];exact h.tools.r0.1
  ·rw[e];exact h.tools.r1.1
 exists by lia
 rcases jG (t:=t) nn R.length (IH _) with k|⟨t0,⟨r,hr,e⟩,h2,h3⟩
 ·lia
 ·have le:=vX nn h2 R.length 249 h3;have:cv T R z t0 R.length<=m:=by
   rcases hz with ⟨e1,e2⟩|⟨e1,e2⟩
   ·rw[e1,e2,<-e];exact h.tools.u0 r hr
   ·rw[e1,e2,<-e];exact h.tools.u1 r hr
  lia
theorem u6 {f:Int} {n0 n1:Str} {m0 m1:Int} {hs1 hs2:List Int} {T:Tk} {R:List Rn} {M:List Int} {A:List Ky} {P:Pk} {ps:List 212} (h:c8 f n0 n1 m0 m1 hs1 hs2 T R M) (cb:i4 R P ps) (hA:∀k∈A,jx 177 k/\kb 403 k) {L:Int} (hL:∀t∈aT R M,t<=L) (z:Str):
  zR [246,312] T P ((cJ A T P 308).map jo) 177 R (DZ 403) L z:=by
 have f1:1<=f:=by rcases h.far with e|e<;>lia
 have many:∀i,i<R.length->0<=bf 174 z:=λi il=>by
  have us:=(h.mine il).2.2;cases e:jf (bS T R i) z with
  |none=>rw[hV e];lia
  |some u=>
   rw[hW e];have:=(us.use u (gH e).1).2.1
   lia
 refine (λa ha=>?_,λx=>?_,λx x0 x1=>?_,h.len.symm,λi il=>?_,λi il=>?_,many,λm hm=>((tM h many hm 0).1,λt=>(tM h many hm t).2),λi il=>?_)
 ·obtain ⟨k,hk,rfl⟩:=IV.mp ha;obtain ⟨p,q,g,rfl,_,_,_,_,le⟩:=uY h cb hA k hk;exact le
 ·unfold DZ
  by_cases c:x.toNat<(aT R M).length
  ·exact (h.spots _ (getD_mem c)).1
  ·rw[JP,Ju 78]
   exact JZ _
 ·exact hL _ (getD_mem 78)
 ·have hr:=IA il;obtain ⟨a,b⟩:=j5 M R i _ hr;unfold DZ;rw[show (2*(i:Int)).toNat=2*i by lia,show (2*(i:Int)+1).toNat=2*i+1 by lia,aL a,aL b,aL hr]
  exact 444
 ·have hr:=IA il;rw[aL hr];have:=(h.runs _ 452).2.2.1
  lia
 ·have hr:=IA il;have op:=i4.open h cb.len cb.pick il;have wl:=Be (z:=z) op;have lg:=(h.mine il).1;rw[aL hr];have m0:=many i il;have:=Int.mul_le_mul_of_nonneg_right lg m0;rw[Int.mul_comm (bf 174 z)];exact Int.le_trans wl this
def tN:Sp:=λvs H Q _=>∃m c:Int,vs= [.int m,.int c]/\1<=m/\m<=4/\∀(l:Addr) (S:List Int) (H':Hp),aC H H'->H' l=some 228->S.length<=4->(∀i∈S,0<=i/\i<m)->S.Nodup->Q 271 H'
def Ig (p:Int->List Int->Prop):RA Int:=λP H v i=>∃f,p i f/\wx P H v f
instance (p:Int->List Int->Prop):Mv (Ig p) where
 mv:=λg ⟨f,pf,r⟩=>⟨f,pf,Mv.mv g r⟩
open PySem.NumText
inductive fj where
 |full (z:Str) (F G:List (List Int))
 |one (w:Str) (C:List Int)
 |ways (i:Int)
def qZ (H:Hp) (t:Addr):fj->Prop
 | .full z F G=>∃lf lb:Addr,H t=some (.tup [.str "full",.str z,.ref lf,.ref lb])/\zK H lf F/\zK H lb G
 | .one w C=>∃c:Addr,H t=some (.tup [.str w,.ref c])/\H c=some 244
 | .ways i=>H t=some 397
theorem qZ.same {H H':Hp} {t:Addr} {r:fj} (h:qZ H t r) (g:aC H H'):qZ H' t r:=by
 cases r with
 |full z F G=>
  obtain ⟨lf,lb,e,a,b⟩:=h;exact (lf,lb,g _ _ e,a.same g,b.same g)
 |one w C=>
  obtain ⟨c,e,a⟩:=h;exact (c,g _ _ e,g _ _ a)
 |ways i=>exact g _ _ h
def pZ:fj->Prop
 | .full z F G=>F.length<=30/\G.length<=30/\(∀f∈F,f.length<=30)/\∀f∈G,f.length<=30
 | .one w C=>(w= "chain" ∨w= "ring" ∨w= "split")/\C.length<=30
 | .ways i=>True
noncomputable def gQ (D:Tl) (T:Tk) (P:Pk) (A:List Rn) (N:Int):fj->Option Int
 | .full z F G=>mr D T P A N z F G
 | .one w C=>if w= "chain" then (if fq N C=true then d0 A C else none) else none
 | .ways _=>none
noncomputable def Bi:Option Int->Bool
 |none=>false
 |some t=>decide (t>0)
noncomputable def mH:Option Int->Int->Bool
 |none,_=>false
 |some b,l=>decide (b≥l)
noncomputable def iF (D:Tl) (T:Tk) (P:Pk) (A:List Rn) (N:Int) (low:Option Int) (r:fj):Bool:=match r with
 | .one w C=>if w= "ring" then fq N C&&Bi (jA A C) else (match low with|none=>false|some l=>mH (gQ D T P A N r) l)
 |_=>match low with|none=>false|some l=>mH (gQ D T P A N r) l
section
variable (C:Addr)
def p6:Sp:=λvs H Q _=>∃(x t row:Addr) (r:fj),vs= [.ref x,.ref t,.ref row]/\qZ H row r/\pZ r/\dj C false H x t λD T A B n P O=>fE O/\A.length+2*T.length+O.length<=700/\∀H',aC H H'->Q (oV (gQ D T P 191 197 r)) H'
def og:Sp:=λvs H Q _=>∃(x t c:Addr) (R:List Int),vs= [.ref x,.ref t,.ref c]/\H c=some (.lst (R.map V.int))/\R.length<=30/\dj C false H x t λD T A B n P O=>fE O/\A.length+2*T.length+O.length<=700/\∀H',aC H H'->Q (.bl (fq 197 R&&Bi (jA 191 R))) H'
def wD:Sp:=λvs H Q _=>∃(x t row:Addr) (low:Option Int) (r:fj),vs= [.ref x,.ref t,oV low,.ref row]/\qZ H row r/\pZ r/\dj C false H x t λD T A B n P O=>fE O/\A.length+2*T.length+O.length<=700/\∀H',aC H H'->Q (.bl (iF D T P 191 197 low r)) H'
universe z0
theorem zS {A:List Ky} {T:Tk} {P:Pk} {O:List Ky} (h:A.length+2*T.length+O.length<=700):((cJ A T P O).map jo).length<=700:=by
 rw[I0];unfold cJ ju;rw[IB,IB,dI,I0]
 lia
theorem gL.trip {D:Tl} {T:Tk} {A B:List Ky} {n:Int} (h:gL D T A B n):∀k∈A,∃p q g:Int,k= [p,q,g]:=λk hk=>by
 obtain ⟨p,q,g,e,_⟩:=h.arcs k hk;exact (p,q,g,e)
def q8:fj->Prop
 | .one w _=>w≠ "ring"
 |_=>True
noncomputable def Bj (o low:Option Int):Bool:=match low with
 |none=>false
 |some l=>mH o l
theorem jp {D:Tl} {T:Tk} {P:Pk} {A:List Rn} {N:Int} {r:fj} (h:q8 r) (low:Option Int):iF D T P A N low r=Bj (gQ D T P A N r) low:=by
 cases r with
 |full _ _ _=>cases low<;>rfl
 |one w C=>
  have:iF D T P A N low (.one w C)=(match low with|none=>false|some l=>mH (gQ D T P A N (.one w C)) l):=if_neg h
  rw[this];cases low<;>rfl
 |ways _=>cases low<;>rfl
universe Sw
namespace L2
open PySem PySem.Spec PyProof.Rows XH Sw Hm
theorem xT {X:Cx}:eY X 372 (λxs H Q=>∃(a:Addr) (ys:List V),xs= [.ref a]/\H a=some 297/\Q (.int (ys.length:Nat)) H):=by
 sleep 52;obtain ⟨a,ys,rfl,e,q⟩:=h;exact ar pins s σ H _ us Q I r (a,ys,rfl,.inl (aD.of e),q)
universe L2
namespace Sw
open PySem L2 XH Hm PySem.NumText
theorem oh {D:Tl} {T:Tk} {P:Pk} {A:List Rn} {N:Int} {low:Option Int} {C:List Int}:iF D T P A N low (.one "ring" C)=(fq N C&&Bi (jA A C)):=by
 unfold iF;simp
theorem xU (low:Option Int):Bj none low=false:=by cases low<;>rfl
theorem u7 {D:Tl} {T:Tk} {P:Pk} {A:List Rn} {N:Int} {low:Option Int} {i:Int}:iF D T P A N low (.ways i)=false:=by
 rw[jp (r:= .ways i) trivial];exact xU low
universe Sw
namespace L2
open PySem PySem.Spec PyProof.Rows XH
universe L2
namespace Sw
open PySem L2 XH Hm PySem.NumText
abbrev Cs:=List (Pk×List Ky)
inductive Rp where
 |split (S:List Int)
 |ways (i:Int)
def Cu (H:Hp) (r:Addr):Rp->Prop
 | .split S=>∃c:Addr,H r=some (.tup [.str "split",.ref c])/\H c=some 228
 | .ways i=>H r=some 397
def zT:Rp->Prop
 | .split S=>S.length<=8
 | .ways _=>True
noncomputable def dw (P:Pk) (O:List Ky) (S S1:List Int):Cs:=S1.flatMap λi=>(S.filter λj=> !decide 319).map λj=>283
noncomputable def fi (P:Pk) (O:List Ky):Rp->Cs
 | .split S=>dw P O S S
 | .ways i=> [(P.set i.toNat (some 0),O),(P.set i.toNat (some 1),O)]
noncomputable def ii (T:Tk) (P:Pk) (i:Int):Bool:=(decide (0<=i)&&decide (i<121))&&(decide ((T.getD i.toNat []).length=2)&&decide (P.getD i.toNat none=none))
noncomputable def gy (D:Tl) (T:Tk) (B:List Ky) (P:Pk) (O:List Ky):Rp->Bool
 | .split S=> !cY O S&&eB D T B P S
 | .ways i=>ii T P i
theorem lX {P:Pk} {O:List Ky} {S S1:List Int} {i:Int}:dw P O S (S1++ [i])=dw P O S S1++(S.filter λj=> !decide 319).map λj=>(Prod.mk (P) (O++ [[i,j]])):=by
 unfold dw;rw[List.flatMap_append];simp
theorem jq {P:Pk} {O:List Ky} {S:List Int} {i j:Int}:((S++ [j]).filter λj=> !decide 319).map (λj=>283)=(S.filter λj=> !decide 319).map (λj=>283)++(if V.int i=V.int j then [] else [283]):=by
 rw[List.filter_append,Il]
 by_cases c:V.int i=V.int j
 ·rw[if_pos c,List.filter_cons_of_neg (by rw[decide_eq_true c];decide)];rfl
 ·rw[if_neg c,List.filter_cons_of_pos (by rw[decide_eq_false c];rfl)];rfl
theorem iG {P:Pk} {O:List Ky} {S:List Int}:∀{S1:List Int},(dw P O S S1).length<=S1.length*S.length
 | []=>by simp[dw]
 |x::r=>by
  have:dw P O S (x::r)=((S.filter λj=> !decide (V.int x=V.int j)).map λj=>(P,O++ [[x,j]]))++dw P O S r:=by
   unfold dw;rw[List.flatMap_cons]
  rw[this,IB,I0,Iu,Nat.succ_mul];have:=Jt (λj=> !decide (V.int x=V.int j)) S
  have:=iG (P:=P) (O:=O) (S:=S) (S1:=r)
  lia
def dW:RA (Pk×List Ky):=λP H v c=>∃t pl ol:Addr,v= .ref t/\P t/\P pl/\P ol/\H t=some (.tup [.ref pl,.ref ol])/\H pl=some (.lst (c.1.map iJ))/\cU (uO λk:Ky=>k.map V.int) P H ol c.2
instance:Mv dW where
 mv:=λ{P P' H H' v x} g h=>by
  obtain ⟨t,pl,ol,rfl,p1,p2,p3,e1,e2,vs,e3,r⟩:=h;obtain ⟨q1,f1⟩:=g t _ p1 rfl e1;obtain ⟨q2,f2⟩:=g pl _ p2 rfl e2;obtain ⟨q3,f3⟩:=g ol _ p3 rfl e3;exact (t,pl,ol,rfl,q1,q2,q3,f1,f2,vs,f3,r.imp λ_ _ k=>Mv.mv g k)
theorem EK {H:Hp} {l:Addr} {ks:List Ky} (h:bn H l ks):cU (uO λk:Ky=>k.map V.int) An H l ks:=by
 obtain ⟨as,e,r⟩:=h;refine (_,e,by rw[I0];exact r.1,λi v k h1 h2=>?_)
 obtain ⟨a,ha,rfl⟩:=cF h1;exact (a,rfl,trivial,r.2 i a k ha h2)
theorem dW.case {H:Hp} {P:Addr->Prop} {v:V} {c:Pk×List Ky} (h:dW P H v c):∃t,v= .ref t/\fP H t c.1 c.2:=by
 obtain ⟨t,pl,ol,rfl,_,_,_,e1,e2,h3⟩:=h;exact (t,rfl,pl,ol,e1,e2,zJ h3)
theorem fP.r {H:Hp} {t:Addr} {P:Pk} {O:List Ky} (h:fP H t P O):dW An H 427 (P,O):=by
 obtain ⟨pl,ol,e1,e2,h3⟩:=h;exact (t,pl,ol,rfl,trivial,trivial,trivial,e1,e2,EK h3)
structure Al (H0 H:Hp) (l:Addr) (z:(Addr×Addr×Addr)×(Pk×List Ky)):Prop where
 n1:H0 z.1.2.1=none
 n2:H0 z.1.2.2=none
 l1:z.1.2.1≠l
 l2:z.1.2.2≠l
 e:H z.1.1=some (.tup [.ref z.1.2.1,.ref z.1.2.2])
 ep:H z.1.2.1=some (.lst (z.2.1.map iJ))
 eo:bn H z.1.2.2 z.2.2
noncomputable def D2 (zs:List 208):Lc:=zs.flatMap λz=> [z.1.2.1,z.1.2.2]
structure tO (H0 H:Hp) (l:Addr) (zs:List ((Addr×Addr×Addr)×(Pk×List Ky))):Prop where
 nl:H0 l=none
 e:H l=some (.lst 413)
 nd:(D2 zs).Nodup
 each:∀z∈zs,Al H0 H l z
theorem Bk {zs:List 208} {a:Addr}:a∈D2 zs↔∃z∈zs,a=z.1.2.1∨a=z.1.2.2:=by
 unfold D2;rw[List.mem_flatMap];constructor
 ·rintro ⟨z,hz,h⟩;simp only[IK,Iz,or_false] at h;exact (z,hz,h)
 ·rintro ⟨z,hz,h⟩;exists z,hz;simp only[IK,Iz,or_false];exact h
theorem zU (zs:List 208) (z:(Addr×Addr×Addr)×(Pk×List Ky)):D2 (zs++ [z])=D2 zs++ [z.1.2.1,z.1.2.2]:=by
 unfold D2;rw[List.flatMap_append];simp
theorem zV {H:Hp} {o b:Addr} {O:List Ky} {xs:List V} {ob:HO} (h:bn H o O) (e:H b=some 398) (n:b≠o):bn (L2.aK H b ob) o O:=by
 obtain ⟨as,e1,r⟩:=h;refine (as,by rw[aQ (λz=>n z.symm)];exact e1,r.imp λt k q=>?_)
 rw[aQ (λz=>by rw[z,e] at q;cases q)]
 exact q
theorem Al.updL {H0 H:Hp} {l b:Addr} {z:(Addr×Addr×Addr)×(Pk×List Ky)} {xs:List V} {ob:HO} (h:Al H0 H l z) (e:H b=some 398) (b1:b≠z.1.2.1) (b2:b≠z.1.2.2):Al H0 (aK H b ob) l z:=
 ⟨h.n1,h.n2,h.l1,h.l2,by rw[aQ (λq=>by have:=h.e;rw[q,e] at this;cases this)];exact h.e,by rw[aQ (λq=>b1 q.symm)];exact h.ep,zV h.eo e b2⟩
theorem Al.same {H0 H H':Hp} {l:Addr} {z:(Addr×Addr×Addr)×(Pk×List Ky)} (h:Al H0 H l z) (g:aC H H'):Al H0 H' l z:=
 ⟨h.n1,h.n2,h.l1,h.l2,g _ _ h.e,g _ _ h.ep,h.eo.same g⟩
theorem tO.nil {H0 H:Hp} {l:Addr} (n:H0 l=none):tO H0 (aK H l 149) l []:=(n,ag,List.nodup_nil,λz hz=>by cases hz)
theorem tO.later {H0 H1 H:Hp} {l:Addr} {zs:List 208} (h:tO H1 H l zs) (g:aC H0 H1):tO H0 H l zs:=
 ⟨g.free h.nl,h.e,h.nd,λz hz=>⟨g.free (h.each z hz).n1,g.free (h.each z hz).n2,(h.each z hz).l1,(h.each z hz).l2,(h.each z hz).e,(h.each z hz).ep,(h.each z hz).eo⟩⟩
theorem tO.put {H0 H H':Hp} {l:Addr} {zs:List 208} (h:tO H0 H l zs) (g0:aC H0 H) (g:aC H H') {t p o:Addr} {P:Pk} {O:List Ky} (np:H p=none) (no:H o=none) (po:p≠o) (e:H' t=some 463) (ep:H' p=some 404) (eo:bn H' o O):tO H0 (aK H' l (.lst (413++ [.ref t]))) l (zs++ [((t,p,o),(P,O))]):=by
 have pl:p≠l:=λz=>by rw[z,h.e] at np;cases np
 have ol:o≠l:=λz=>by rw[z,h.e] at no;cases no
 have el:=g _ _ h.e;have tc:Al H0 H' l ((t,p,o),(P,O)):=(g0.free np,g0.free no,pl,ol,e,ep,eo);refine (h.nl,by rw[ag,Il];rfl,?_,λz hz=>?_)
 ·rw[zU,Jy];refine (h.nd,by simp[po],λa ha b hb=>?_)
  obtain ⟨z,hz,q⟩:=Bk.mp ha;have some_:H a≠none:=by
   rcases q with q|q
   ·rw[q,(h.each z hz).ep];exact nofun
   ·obtain ⟨as,e1,_⟩:=(h.each z hz).eo;rw[q,e1];exact nofun
  sleep 117;rcases hb with rfl|rfl
  ·exact λq=>some_ (by rw[q];exact np)
  ·exact λq=>some_ (by rw[q];exact no)
 ·rcases IS.mp hz with q|q
  ·have k:=h.each z q;exact (k.same g).updL el (λq=>k.l1 q.symm) (λq=>k.l2 q.symm)
  ·rw[IM.mp q];exact tc.updL el (λq=>pl q.symm) (λq=>ol q.symm)
theorem tO.two {H H1 H2:Hp} {t1 p1 o1 t2 p2 o2 lc:Addr} {P1 P2:Pk} {O:List Ky} (g1:aC H H1) (g2:aC H1 H2) (np1:H p1=none) (no1:H o1=none) (po1:p1≠o1) (e1:H1 t1=some (.tup [.ref p1,.ref o1])) (ep1:H1 p1=some (.lst (P1.map iJ))) (eo1:bn H1 o1 O)
  (np2:H1 p2=none) (no2:H1 o2=none) (po2:p2≠o2) (e2:H2 t2=some (.tup [.ref p2,.ref o2])) (ep2:H2 p2=some (.lst (P2.map iJ))) (eo2:bn H2 o2 O) (nlc:H2 lc=none):tO H (L2.aK H2 lc (.lst [.ref t1,.ref t2])) lc [((t1,p1,o1),(P1,O)),((t2,p2,o2),(P2,O))]:=by
 have g3:=af nlc (.lst [.ref t1,.ref t2]);have g23:=g2.trans g3;obtain ⟨b1,f1,_⟩:=id eo1;obtain ⟨b2,f2,_⟩:=id eo2;have n12:∀{a b:Addr} {o:HO},H1 a=some o->H1 b=none->a≠b:=λh k z=>by rw[z,k] at h;cases h
 have nl:∀{a:Addr} {o:HO},H2 a=some o->a≠lc:=λh z=>by rw[z,nlc] at h;cases h
 refine ((g1.trans g2).free nlc,ag,?_,λz hz=>?_)
 ·show [p1,o1,p2,o2].Nodup;have a:=n12 ep1 np2;have b:=n12 ep1 no2;have c:=n12 f1 np2;have d:=n12 f1 no2;simp[po1,po2,a,b,c,d]
 ·simp only[IK,Iz,or_false] at hz;rcases hz with rfl|rfl
  ·exact (np1,no1,nl (g2 _ _ ep1),nl (g2 _ _ f1),g23 _ _ e1,g23 _ _ ep1,eo1.same g23)
  ·exact (g1.free np2,g1.free no2,nl ep2,nl f2,g3 _ _ e2,g3 _ _ ep2,eo2.same g3)
section
variable {f:Int} {n0 n1:Str} {m0 m1:Int} {hs1 hs2:List Int} {T:Tk} {R:List Rn} {M:List Int}
theorem zW {l r:List Int} (h:l.Perm r):l.sum=r.sum:=by
 induction h with
 |nil=>rfl
 |cons x _ ih=>simp only[JG,ih]
 |swap x y l=>simp only[JG];lia
 |trans _ _ a b=>exact a.trans b
theorem xV {S:List Int} (nd:S.Nodup) {n:Nat} (rg:∀i∈S,0<=i/\i<(n:Int)):∃S':List Int,S'.Pairwise 412/\S'.Perm S:=by
 exists ((Ip n).map λi:Nat=>(i:Int)).filter λi=>decide (i∈S),?_
 ·refine List.Pairwise.filter _ ?_;rw[List.pairwise_map];exact (List.pairwise_lt_range).imp λh=>by lia
 ·refine (List.perm_ext_iff_of_nodup ?_ nd).mpr λi=>?_
  ·refine List.Pairwise.filter _ ?_;have:((Ip n).map λi:Nat=>(i:Int)).Pairwise (· < ·):=by
    rw[List.pairwise_map];exact (List.pairwise_lt_range).imp λh=>by lia
   exact this.imp λh=>by lia
  ·rw[JT,IV,decide_eq_true_eq];constructor
   ·exact λh=>h.2
   ·intro h;have:=rg i h;exact ((i.toNat,JB.mpr 78,by lia),h)
theorem tP (h:c8 f n0 n1 m0 m1 hs1 hs2 T R M) {ps:List 212} (hp:∀p∈ps,p.1≠p.2/\cq 211 210=false) {P:Pk} (pk':sR T P) (pl:P.length=R.length) (pk:∀(i j:Nat) (r:Rn),P[i]?=some 472->R[i]?=some r->r.2.2=(j:Int)) (ok:∀ws∈T,kI [246,312] ws) {S:List Int} (hc:eB [246,312] T 308 P S=true):∃i∈S,∃j∈S,i≠j/\(R.getD i.toNat 125).2.1<=(R.getD j.toNat 125).1:=by
 have hu:cC T S=true:=by
  unfold eB at hc;rw[II,II] at hc;exact hc.1.1
 obtain ⟨rg,nd⟩:=jk hu;obtain ⟨S',pw,pm⟩:=xV nd rg;have nd':=pm.nodup_iff.mpr nd;have rg':∀i∈S',0<=i/\i<(T.length:Int):=λi hi=>rg i (pm.mem_iff.mp hi)
 have pne:∀p∈ps,p.1≠p.2:=λp h=>(hp p h).1
 have hc':eB [246,312] T 308 P S'=true:=by
  unfold eB at hc⊢;rw[<-Bool.or_assoc,nZ ok pk' pne rg nd] at hc;rw[<-Bool.or_assoc,nZ ok pk' pne rg' nd'];rw[II,II,decide_eq_true_eq,K7] at hc⊢;exists (?_,by rw[pm.length_eq];exact hc.1.2)
  ·unfold cC;rw[II,IT,decide_eq_true_eq];refine (λi hi=>?_,nd')
   have:=rg' i hi;rw[decide_eq_true this.1,decide_eq_true this.2]
   rfl
  ·rcases hc.2 with q|q
   ·left;rw[Iv] at q⊢;obtain ⟨i,hi,q⟩:=q;rw[Iv] at q;obtain ⟨j,hj,q⟩:=q;exists i,pm.mem_iff.mpr hi;rw[Iv];exact (j,pm.mem_iff.mpr hj,q)
   ·right;unfold lJ at q⊢;rw[Iv] at q⊢;obtain ⟨p,hp',q⟩:=q;exists p,hp';rw[decide_eq_true_eq] at q⊢;have:(S'.map λi=>i3 T P i.toNat p.1).sum=(S.map λi=>i3 T P i.toNat p.1).sum:=zW (pm.map _)
    lia
 have:=qX h hp pl pk pw (by rw[<-h.len];exact rg') hc'
 unfold tz at this;rw[Iv] at this;obtain ⟨i,hi,q⟩:=this;rw[Iv] at q;obtain ⟨j,hj,q⟩:=q;rw[II,decide_eq_true_eq] at q;refine (i,pm.mem_iff.mp hi,j,pm.mem_iff.mp hj,λe=>?_,q.2)
 rw[e] at q;simp at q
universe z0
def zX (H H':Hp) (r:Bool) (cs:Cs) (v:V):Prop:=(r=false/\v= .non)∨(r=true/\∃(l:Addr) (zs:List 208),v= .ref l/\zs.map (·.2)=cs/\tO H H' l zs)
section
variable (C:Addr)
def oj:Sp:=λvs H Q _=>∃(t l:Addr) (P:Pk) (O:List Ky) (S:List Int),vs= [.ref t,.ref l]/\fP H t P O/\fE O/\H l=some 228/\Q (.bl (cY O S)) H
def p8:Sp:=λvs H Q _=>∃(x t l:Addr) (S:List Int),vs= [.ref x,.ref t,.ref l]/\H l=some 228/\S.length<=8/\dj C false H x t λD T A B n P O=>fE O/\∀v H',aC H H'->zX H H' (gy D T B P O (.split S)) (fi P O (.split S)) v->Q v H'
def om:Sp:=λvs H Q _=>∃(t:Addr) (i j:Nat) (P:Pk) (O:List Ky),vs= [.ref t,.int i,.int j]/\fP H t P O/\i<P.length/\P.length<=24/\fE O/\∀(t' p o:Addr) (H':Hp),aC H H'->H p=none->H o=none->p≠o->H' t'=some 463->H' p=some (.lst ((P.set i 472).map iJ))->bn H' o O->Q (.ref t') H'
def wE:Sp:=λvs H Q _=>∃(x t:Addr) (i:Int),vs= [.ref x,.ref t,.int i]/\dj C false H x t λD T A B n P O=>fE O/\∀v H',aC H H'->zX H H' (ii T P i) (fi P O (.ways i)) v->Q v H'
def tQ:Sp:=λvs H Q _=>∃(x t r:Addr) (w:Rp),vs= [.ref x,.ref t,.ref r]/\Cu H r w/\zT w/\dj C false H x t λD T A B n P O=>fE O/\∀v H',aC H H'->zX H H' (gy D T B P O w) (fi P O w) v->Q v H'
universe z0
theorem jr {P:Pk} {O:List Ky} {w:Rp} (ok:zT w):(fi P O w).length<=64:=by
 cases w with
 |split S=>
  have:=iG (P:=P) (O:=O) (S:=S) (S1:=S);have h8:S.length<=8:=ok;have:S.length*S.length<=8*8:=KC h8 h8;show (dw P O S S).length<=64
  lia
 |ways i=>show 2<=64;decide
theorem Bl {T:Tk} {P:Pk} {i:Int} (pl:P.length=T.length) (h:ii T P i=true):0<=i/\i<(P.length:Int):=by
 unfold ii at h;simp only[II,decide_eq_true_eq] at h;rw[pl];exact h.1
def Ih:RA Unit:=λP H v _=>∃(r:Addr) (i:Int),v= .ref r/\P r/\H r=some 397
instance:Mv Ih where
 mv:=λ{P P' H H' v x} g h=>by
  obtain ⟨r,i,rfl,p,e⟩:=h;obtain ⟨q,e'⟩:=g r _ p rfl e;exact (r,i,rfl,q,e')
universe Sw
namespace L2
open PySem PySem.Spec PyProof.Rows XH Sw
universe L2
namespace Sw
open PySem L2 XH Hm PySem.NumText
def Bm (K:IE) (a:Addr) (xs:Lb):Prop:=∃(o:Obj) (its:Array Value) (n:Nat),K.lookup a=some o/\o.cls= .type "tuple" /\o.data= .seq its n/\its.size<=sizeLine/\bN (xs.map V.str) its.toList
theorem Bm.sq {K:IE} {a:Addr} {xs:Lb} (h:Bm K a xs) (H:Hp):bg K H a (xs.map V.str):= .inr h
def lY:RA fj:=λP H v r=>∃t:Addr,v= .ref t/\P t/\match r with
 | .full z F G=>∃lf lb:Addr,P lf/\P lb/\H t=some (.tup [.str "full",.str z,.ref lf,.ref lb])/\cU wx P H lf F/\cU wx P H lb G
 | .one w C=>∃c:Addr,P c/\H t=some (.tup [.str w,.ref c])/\H c=some 244
 | .ways i=>H t=some 397
instance:Mv lY where
 mv:=λ{P P' H H' v r} g h=>by
  obtain ⟨t,rfl,pt,h⟩:=h;cases r with
  |full z F G=>
   obtain ⟨lf,lb,p1,p2,e,⟨vf,ef,rf⟩,⟨vb,eb,rb⟩⟩:=h;obtain ⟨q0,e'⟩:=g _ _ pt rfl e;obtain ⟨q1,e1⟩:=g _ _ p1 rfl ef;obtain ⟨q2,e2⟩:=g _ _ p2 rfl eb;exact (t,rfl,q0,lf,lb,q1,q2,e',(vf,e1,rf.imp λ_ _ k=>Mv.mv g k),(vb,e2,rb.imp λ_ _ k=>Mv.mv g k))
  |one w C=>
   obtain ⟨c,p1,e,ec⟩:=h;obtain ⟨q0,e'⟩:=g _ _ pt rfl e;obtain ⟨q1,e1⟩:=g _ _ p1 rfl ec;exact (t,rfl,q0,c,q1,e',e1)
  |ways i=>
   obtain ⟨q0,e'⟩:=g _ _ pt rfl h;exact (t,rfl,q0,e')
theorem lY.row {P:Addr->Prop} {H:Hp} {v:V} {r:fj} (h:lY P H v r):∃t,v= .ref t/\qZ H t r:=by
 obtain ⟨t,rfl,_,h⟩:=h;cases r with
 |full z F G=>
  obtain ⟨lf,lb,_,_,e,a,b⟩:=h;exact (t,rfl,lf,lb,e,a.any,b.any)
 |one w C=>
  obtain ⟨c,_,e,ec⟩:=h;exact (t,rfl,c,e,ec)
 |ways i=>exact ⟨t,rfl,h⟩
noncomputable def fG:fj->Option Rp
 | .one w C=>if w= "split" then some (.split C) else none
 | .ways i=>some (.ways i)
 | .full _ _ _=>none
theorem gC (w:Str) (C:List Int):fG (.one w C)=if w= "split" then some (.split C) else none:=rfl
abbrev oo:=Pk×List Ky
section
variable (D:Tl) (T:Tk) (A B:List Ky) (n:Int)
noncomputable def lZ (low:Option Int) (c:oo) (r:fj):Bool:=iF D T c.1 424 197 low r
noncomputable def i6 (low:Option Int) (c:oo) (q:Cs) (r:fj):Option Cs:=match fG r with
 |some w=>if gy D T B c.1 c.2 w=true then some (fi c.1 c.2 w++q) else none
 |none=>if lZ D T A n low c r=true then some q else none
noncomputable def ij (low:Option Int) (p:Cs) (r:fj):Option Cs:=match p with
 | []=>none
 |c::q=>i6 D T A B n low c q r
noncomputable def wG (low:Option Int):Cs->List fj->Option Cs
 |p,[]=>some p
 |p,r::rs=>(ij D T A B n low p r).bind λq=>wG low q rs
noncomputable def iH:Cs:= [((Ip T.length).map λ_=>none,[])]
noncomputable def qa (low:Option Int) (rs:List fj):Bool:=decide (wG D T A B n low (iH T) rs=some [])
universe z0
section
variable {D:Tl} {T:Tk} {A B:List Ky} {n:Int} {low:Option Int}
theorem jL:∀{xs ys:List fj} {p:Cs},wG D T A B n low p (xs++ys)=(wG D T A B n low p xs).bind λq=>wG D T A B n low q ys
 | [],_,_=>rfl
 |x::xs,ys,p=>by
  show (ij D T A B n low p x).bind _=((ij D T A B n low p x).bind _).bind _;cases ij D T A B n low p x with
  |none=>rfl
  |some q=>exact jL (xs:=xs)
theorem Bo {r:fj} {p:Cs}:wG D T A B n low p [r]=ij D T A B n low p r:=by
 show (ij D T A B n low p r).bind _=_;cases ij D T A B n low p r<;>rfl
theorem Bp {rs:List fj} {k:Nat} {r:fj} (h:rs[k]?=some r) {p q:Cs} (hq:wG D T A B n low p (rs.take k)=some q):wG D T A B n low p (rs.take 291)=ij D T A B n low q r:=by
 rw[Jx,h,Option.toList_some,jL,hq];exact Bo
theorem Bq {rs:List fj} {k:Nat} (h:wG D T A B n low (iH T) (rs.take k)=none):qa D T A B n low rs=false:=by
 unfold qa;rw[<-List.take_append_drop k rs,jL,h];exact decide_eq_false nofun
theorem zY {rs:List fj} {p:Cs} (h:wG D T A B n low (iH T) rs=some p):qa D T A B n low rs=decide (p= []):=by
 unfold qa;rw[h];cases p with
 |nil=>rfl
 |cons c q=>
  rw[decide_eq_false (show ¬some (c::q)=some [] from λe=>by injection e with e;cases e),decide_eq_false (show ¬(c::q)= [] from nofun)]
structure oq (T:Tk) (k:Nat) (c:oo):Prop where
 pk:sR T c.1
 len:c.2.length<=k
 ord:∀y∈c.2,∃p q:Int,y= [p,q]/\0<=p/\p<121/\0<=q/\q<121
theorem oq.ordOk {k:Nat} {c:oo} (h:oq T k c) (hk:k<=1000):BI c.2 T.length:=(by have:=h.len;lia,h.ord)
theorem oq.pairs {k:Nat} {c:oo} (h:oq T k c) (hk:k<=1000):fE c.2:=⟨by have:=h.len;lia,λy hy=>by
 obtain ⟨p,q,e,_⟩:=h.ord y hy;exact (p,q,e)⟩
theorem oq.mono {k m:Nat} {c:oo} (h:oq T k c) (hk:k<=m):oq T m c:=(h.pk,by have:=h.len;lia,h.ord)
theorem qb:∀c∈iH T,oq T 0 c:=λc hc=>by
 rw[IM.mp hc];refine ((by simp,λi j ws h1 h2=>?_),IH _,nofun)
 dsimp only at h1;rw[IG] at h1;obtain ⟨a,_,e⟩:=IF.mp h1;cases e
theorem qc {k:Nat} {c:oo} {w:Rp} (hr:gy D T B c.1 c.2 w=true) (h:oq T k c):∀c'∈fi c.1 c.2 w,oq T 291 c':=by
 intro c' hc;cases w with
 |split S=>
  replace hc:c'∈dw c.1 c.2 S S:=hc;unfold dw at hc;rw[List.mem_flatMap] at hc;obtain ⟨i,hi,hc⟩:=hc;obtain ⟨j,hj,rfl⟩:=IV.mp hc;have hj:=(JT.mp hj).1;have:(!cY c.2 S&&eB D T B c.1 S)=true:=hr;unfold eB at this;simp only[II] at this;obtain ⟨rg,_⟩:=jk this.2.1.1;refine (h.pk,by rw[IB];have:=h.len;show c.2.length+1<=_;lia,λy hy=>?_)
  rcases IS.mp hy with z|z
  ·exact h.ord y z
  ·rw[IM.mp z];exact (i,j,rfl,(rg i hi).1,(rg i hi).2,(rg j hj).1,(rg j hj).2)
 |ways i=>
  have hw:ii T c.1 i=true:=hr;unfold ii at hw;simp only[II,decide_eq_true_eq] at hw;obtain ⟨⟨i0,i1⟩,l2,pn⟩:=hw;have key:∀j:Nat,j<2->oq T 291 (c.1.set i.toNat 472,c.2):=λj hj=>by
   refine ((by rw[List.length_set];exact h.pk.len,λa b ws h1 h2=>?_),by have:=h.len;show c.2.length<=_;lia,h.ord)
   by_cases e:a=i.toNat
   ·subst e;have il:i.toNat<c.1.length:=by rw[h.pk.len];lia
    dsimp only at h1;rw[List.getElem?_set_self il] at h1;sleep 106
    sleep 106
    rw[JP,h2] at l2;have:ws.length=2:=l2
    lia
   ·dsimp only at h1;rw[List.getElem?_set_ne (λz=>e z.symm)] at h1
    exact h.pk.pick a b ws h1 h2
  replace hc:c'∈ [(c.1.set i.toNat (some 0),c.2),(c.1.set i.toNat (some 1),c.2)]:=hc;simp only[IK,Iz,or_false] at hc;rcases hc with rfl|rfl
  ·exact key 0 41
  ·exact key 1 41
theorem zZ {k:Nat} {p q:Cs} {r:fj} (h:ij D T A B n low p r=some q) (hp:∀c∈p,oq T k c):∀c∈q,oq T 291 c:=by
 cases p with
 |nil=>cases h
 |cons c0 p0=>
  have rest:∀c∈p0,oq T 291 c:=λc hc=>(hp c (IX _ hc)).mono (Jz _)
  replace h:i6 D T A B n low c0 p0 r=some q:=h;unfold i6 at h;cases hi:fG r with
  |some w=>
   rw[hi] at h;dsimp only at h
   by_cases c1:gy D T B c0.1 c0.2 w=true
   ·sleep 122
    subst h;intro c hc;rcases IS.mp hc with z|z
    ·exact qc c1 (hp c0 Iq) c z
    ·exact rest c z
   ·rw[if_neg c1] at h;cases h
  |none=>
   rw[hi] at h;dsimp only at h
   by_cases c1:lZ D T A n low c0 r=true
   ·sleep 122
    subst h;exact rest
   ·rw[if_neg c1] at h;cases h
theorem z5:∀{rs:List fj} {k:Nat} {p q:Cs},wG D T A B n low p rs=some q->(∀c∈p,oq T k c)->∀c∈q,oq T (k+rs.length) c
 | [],k,p,q,h,hp=>by
  injection h with h
  subst h;exact hp
 |r::rs,k,p,q,h,hp=>by
  obtain ⟨p1,h1,h2⟩:=J2.mp h;intro c hc;have:=z5 h2 (zZ h1 hp) c hc;exact this.mono (by rw[Iu];lia)
def kh (r:fj):Prop:=pZ r/\∀w,fG r=some w->zT w
theorem z6 {p q:Cs} {r:fj} (h:ij D T A B n low p r=some q) (ok:kh r):q.length<=p.length+64:=by
 cases p with
 |nil=>cases h
 |cons c0 p0=>
  replace h:i6 D T A B n low c0 p0 r=some q:=h;unfold i6 at h;cases hi:fG r with
  |some w=>
   rw[hi] at h;dsimp only at h
   by_cases c1:gy D T B c0.1 c0.2 w=true
   ·sleep 122
    subst h;have:=jr (P:=c0.1) (O:=c0.2) (ok.2 w hi);rw[IB,Iu]
    lia
   ·rw[if_neg c1] at h;cases h
  |none=>
   rw[hi] at h;dsimp only at h
   by_cases c1:lZ D T A n low c0 r=true
   ·sleep 122
    subst h;rw[Iu]
    lia
   ·rw[if_neg c1] at h;cases h
theorem z7:∀{rs:List fj} {p q:Cs},wG D T A B n low p rs=some q->(∀r∈rs,kh r)->q.length<=p.length+64*rs.length
 | [],p,q,h,_=>by
  injection h with h
  subst h;exact IH _
 |r::rs,p,q,h,ok=>by
  obtain ⟨p1,h1,h2⟩:=J2.mp h;have a:=z6 h1 (ok r Iq);have b:=z7 h2 λx hx=>ok x (IX _ hx)
  rw[Iu]
  lia
universe z0
def z8 (C:Addr):Sp:=λvs H Q _=>∃(x l:Addr) (low:Option Int) (D:Tl) (T:Tk) (A B:List Ky) (n:Int) (rs:List fj),vs= [.ref x,oV low,.ref l]/\gM C false H x D T A B n/\gL D T A B n/\cU lY An H l rs/\(∀r∈rs,kh r)/\A.length+2*T.length+rs.length<=700/\∀H',aC H H'->Q (.bl (qa D T A B n low rs)) H'
noncomputable def Aa (r:fj):Bool:=(fG r).isSome
theorem im {H:Hp} {t:Addr} {r:fj} (h:qZ H t r) (ok:pZ r):∃w ys,H t=some (.tup (.str w::ys))/\(w= "split" ∨w= "ways" ↔Aa r=true):=by
 cases r with
 |full z F G=>
  obtain ⟨lf,lb,e,_,_⟩:=h;exact ⟨_,_,e,⟨λz=>by rcases z with z|z<;>exact absurd z 41,λz=>by cases z⟩⟩
 |one w C=>
  obtain ⟨c,e,ec⟩:=h;exists w,_,e;unfold Aa;rw[gC]
  by_cases c1:w= "split"
  ·rw[if_pos c1];exact (λ_=>rfl,λ_=> .inl c1)
  ·rw[if_neg c1];refine (λz=>?_,λz=>by cases z)
   rcases z with z|z
   ·exact absurd z c1
   ·exfalso;obtain ⟨hw,_⟩:=ok;subst z;rcases hw with z|z|z<;>exact absurd z 41
 |ways i=>exact ⟨_,_,h,⟨λ_=>rfl,λ_=> .inr rfl⟩⟩
theorem BK {H:Hp} {t:Addr} {r:fj} {w:Rp} (h:qZ H t r) (hw:fG r=some w):Cu H t w:=by
 cases r with
 |full z F G=>cases hw
 |one v C=>
  rw[gC] at hw
  by_cases c1:v= "split"
  ·rw[if_pos c1] at hw;cases hw;subst c1;exact h
  ·rw[if_neg c1] at hw;cases hw
 |ways i=>
  cases hw;exact h
theorem A2.unsnoc {α:Type} {R:V->α->Prop} {us:List V} {xs:List α} {x:α} (h:A2 R us (xs++ [x])):∃us0 u,us=us0++ [u]/\R u x/\A2 R us0 xs:=by
 have l:=h.1;rw[IB] at l;rcases List.eq_nil_or_concat us with rfl|⟨us0,u,rfl⟩
 ·simp at l
 ·rw[List.concat_eq_append] at h l⊢;have l0:us0.length=xs.length:=by simpa using l
  exists us0,u,rfl,h.2 us0.length u x 139 (by rw[l0];simp)
  have:=h.take us0.length
  rwa [List.take_left' rfl,List.take_left' l0.symm] at this
theorem Al.rn {H0 H:Hp} {l lp:Addr} {us:List V} {o:HO} {z:(Addr×Addr×Addr)×(Pk×List Ky)} (h:Al H0 H l z) (e0:H0 lp=some o) (e:H lp=some (.lst us)):dW 495 H (.ref z.1.1) z.2:=by
 obtain ⟨as,e3,r⟩:=h.eo;have nt:∀{a:Addr} {xs:List V},H a=some (.tup xs)->a≠lp:=λha q=>by rw[q,e] at ha;cases ha
 have nn:∀{a:Addr},H0 a=none->a≠lp:=λha q=>by rw[q,e0] at ha;cases ha
 refine (z.1.1,z.1.2.1,z.1.2.2,rfl,nt h.e,nn h.n1,nn h.n2,h.e,h.ep,_,e3,by rw[I0];exact r.1,λi v k h1 h2=>?_)
 obtain ⟨a,ha,rfl⟩:=cF h1;have:=r.2 i a k ha h2;exact (a,rfl,nt this,this)
theorem tO.rn {H0 H:Hp} {l lp:Addr} {us:List V} {o:HO} {zs:List 208} (h:tO H0 H l zs) (e0:H0 lp=some o) (e:H lp=some (.lst us)):A2 (dW 495 H) 413 (zs.map (·.2)):=by
 refine (by rw[I0,I0],λi v c h1 h2=>?_)
 rw[IG] at h1 h2;obtain ⟨z,hz,rfl⟩:=IF.mp h1;obtain ⟨z',hz',rfl⟩:=IF.mp h2;rw[hz] at hz';cases hz';exact (h.each z (ID hz)).rn e0 e
universe Sw
namespace L2
open PySem PySem.Spec PyProof.Rows XH
universe L2
namespace Sw
open PySem L2 XH Hm PySem.NumText
theorem Br {K:IE} {β:Type} {l1:Addr} {xs:List V} {n:Nat} {g:TG} {js:List Nat} {te:TE} {σ:L2.St} {H1:Hp} {Q:VK} (R:RA β) [Mv R] (Z:Addr->Prop) (f:Nat->β) (q1:aD K H1 l1 xs) (hz:xs.length<=sizeLine) (hZ:∀a,Z a->H1 a≠none)
  (step:∀(i:Nat) (x:V),xs[i]?=some x->∀H2,aC H1 H2->∀o:L2.St,o.length=n->∀Q':VK,(∀v H5,aC H2 H5->R (λa=>H2 a=none∨Z a) H5 v (f i)->Q' v H5)->
   g x (o++be js σ) H2 λσ4 H4=>(∃o':L2.St,o'.length=n/\σ4=o'++be js σ)/\te σ4 H4 Q')
  (fin:∀p H',H1 p=none->aC H1 H'->cU R 159 H' p ((Ip 138).map f)->Q 181 H'):uD n g js te σ Q (Aq K l1) H1:=by
 intro p hp;exists λi m zs H2=>i<=xs.length/\m=138-i/\aC H1 H2/\H2 p=some (.lst zs)/\A2 (R 159 H2) zs ((Ip i).map f),(138,JC _,rfl,Sw.af hp _,ag,A2.nil)
 rintro i m zs H2 ⟨hi,rfl,gg,e,r⟩;exists e;have s1:=gg.seq q1
 by_cases hin:i<138
 ·refine .inr ((xs,xs[i]'(by lia),s1,IA _),?_,λx H3 hy o ho=>?_)
  ·have:=r.1;rw[I0,J5] at this
   lia
  obtain ⟨rfl,hx⟩:=hy;refine step i x (hx xs s1) H3 gg o ho _ λv H5 g25 ry=>?_
  exists g25 _ _ e,138-301,by lia,hin,rfl,Sw.dQ (gg.trans g25) hp _,ag
  rw[K6,Il];sleep 91
  refine ((r.imp λv b q=>dJ q g25).snoc (rD ry λa ha=>?_)).imp λv b q=>rE q np _
  rcases ha with h|h
  ·exact ((λz=>by rw[z,e] at h;cases h),.inl (gg.free h))
  ·sleep 130
 ·have e2:i=xs.length:=by lia
  subst e2;exact .inl ((xs,s1,IH _),fin p H2 hp gg (zs,e,r))
structure tR (H:Hp) (tp:Addr) (D:Tl) (T:Tk) (A:List Ky) (ps:List (Int×Int)):Prop where
 ex:∃td tl la pl:Addr,H tp=some (.tup [.ref td,.ref tl,.ref la,.ref pl])/\H td=some 166/\cU fu An H tl T/\bn H la A/\bn H pl 308
theorem tR.same {H H':Hp} {tp:Addr} {D:Tl} {T:Tk} {A:List Ky} {ps:List 212} (h:tR H tp D T A ps) (g:aC H H'):tR H' tp D T A ps:=by
 obtain ⟨td,tl,la,pl,a,b,c,d,e⟩:=h.ex;exact (td,tl,la,pl,g _ _ a,g _ _ b,c.same g,d.same g,e.same g)
structure Ab (H:Hp) (tp t:Addr) (D:Tl) (T:Tk) (A:List Ky) (ps:List (Int×Int)) (n:Int) (c:oo):Prop where
 part:tR H tp D T A ps
 cs:fP H t c.1 c.2
 ok:gL D T A 308 n
 cok:oq T 400 c
 t1:1<=T.length
 t4:T.length<=4
 ne:∀p∈ps,p.1≠p.2
 a63:A.length<=63
 d2:D.length=2
theorem Ab.same {H H':Hp} {tp t:Addr} {D:Tl} {T:Tk} {A:List Ky} {ps:List 212} {n:Int} {c:oo} (h:Ab H tp t D T A ps n c) (g:aC H H'):Ab H' tp t D T A ps n c:=(h.part.same g,h.cs.same g,h.ok,h.cok,h.t1,h.t4,h.ne,h.a63,h.d2)
theorem xW {O:List Ky} {S:List Int}:((Ip O.length).map λi=> !decide ((O.getD i []).getD 0 0∈S)|| !decide ((O.getD i []).getD 1 0∈S)).all id= !cY O S:=by
 unfold cY;rw[List.all_map]
 conv=>rhs;rw[<-cG O []]
 rw[List.any_map,List.not_any_eq_all_not]
 congr 1
 funext i
 show (_||_)= !(_&&_);rw[Bool.not_and]
theorem xX (S:List Int) (k:Nat):(S.drop k++S.take k).Perm S:=by
 have:=List.perm_append_comm (l₁:=S.drop k) (l₂:=S.take k);rw[List.take_append_drop] at this;exact this
abbrev G2 (T:Tk) (A:List Ky) (c:oo):List Ky:=cJ A T c.1 c.2
theorem Ab.trip {H:Hp} {tp t:Addr} {D:Tl} {T:Tk} {A:List Ky} {ps:List 212} {n:Int} {c:oo} (h:Ab H tp t D T A ps n c):tD 197 (G2 T A c):=by
 have n0:=h.ok.n0;exact tK (λk hk=>h.ok.arcs k hk) h.ok.a600 h.ok.t24 (h.cok.ordOk 41) 78
theorem Ab.l7 {H:Hp} {tp t:Addr} {D:Tl} {T:Tk} {A:List Ky} {ps:List 212} {n:Int} {c:oo} (h:Ab H tp t D T A ps n c):A.length+2*T.length+c.2.length<=700:=by
 have:=h.a63;have:=h.t4;have:=h.cok.len
 lia
theorem Ac {D:Tl}:(bM D).map 201=(D.map 201).map (λy=>(.inr y:Key)):=by
 unfold bM;rw[IW,IW]
 rfl
theorem Ad {D:Tl} (nd:(D.map 201).Nodup) {z:Str} (h:z∈D.map 201):∃p∈D,p.1=z/\c6 D z=some p.2:=by
 unfold c6;cases e:D.find? λp=>decide (p.1=z) with
 |none=>
  exfalso;obtain ⟨p,hp,rfl⟩:=IV.mp h;have:=List.find?_eq_none.mp e p hp;simp at this
 |some p=>
  have:=List.find?_some e;exact (p,List.mem_of_find?_eq_some e,by simpa using this,rfl)
def tT:Sp:=λvs H Q _=>∃(t r:Addr) (w:Rp) (P:Pk) (O:List Ky) (Z:Addr->Prop),vs= [.ref t,.ref r]/\dW Z H 427 (P,O)/\fE O/\P.length<=24/\Cu H r w/\zT w/\(∀i,w= .ways i->0<=i/\i<(P.length:Int))/\∀(l:Addr) (H':Hp),aC H H'->H l=none->cU dW (λa=>a≠l/\(H a=none∨Z a)) H' l (fi P O w)->Q 271 H'
structure u9 (H:Hp) (tp:Addr) (D:Tl) (T:Tk) (A:List Ky) (ps:List (Int×Int)) (n:Int):Prop where
 part:tR H tp D T A ps
 ok:gL D T A 308 n
 t1:1<=T.length
 t4:T.length<=4
 ne:∀p∈ps,p.1≠p.2
 a63:A.length<=63
 d2:D.length=2
theorem u9.same {H H':Hp} {tp:Addr} {D:Tl} {T:Tk} {A:List Ky} {ps:List 212} {n:Int} (h:u9 H tp D T A ps n) (g:aC H H'):u9 H' tp D T A ps n:=(h.part.same g,h.ok,h.t1,h.t4,h.ne,h.a63,h.d2)
theorem u9.pc {H:Hp} {tp t:Addr} {D:Tl} {T:Tk} {A:List Ky} {ps:List 212} {n:Int} {c:oo} (h:u9 H tp D T A ps n) (hc:fP H t c.1 c.2) (ok:oq T 400 c):Ab H tp t D T A ps n c:=(h.part,hc,h.ok,ok,h.t1,h.t4,h.ne,h.a63,h.d2)
def Ae (D:Tl) (T:Tk) (r:fj):Prop:=∀z F G,r= .full z F G->∃(S:List Int) (m:Int),c6 D z=some m/\S≠ []/\S.Nodup/\S.length<=4/\(∀i∈S,0<=i/\i<121)/\F=S.map (λi=> [2*i])/\G=S.map λi=> [2*i+1]
def Cv (r:fj):Prop:=∀w C,r= .one w C->C.length<=8/\(w= "split" ->C.length<=4)
structure kW (D:Tl) (T:Tk) (r:fj):Prop where
 ok:kh r
 fs:Ae D T r
 os:Cv r
theorem map_two (S:List Int) (f:Int->List Int):(Ip S.length).map (λk=>f (S.getD k 0))=S.map f:=by
 conv=>rhs;rw[<-cG S 0]
 rw[IW]
 rfl
structure BL (D:Tl) (T:Tk) (z:Str) (F G:List (List Int)):Prop where
 m:∃m,c6 D z=some m
 ok:pZ (.full z F G)
 ne:∀f∈F,f≠ []
 rg:∀f∈F,0<=fh f/\fh f<121
 sg:(F.map fh).Nodup->∃S:List Int,F=S.map (λi=> [2*i])/\G=S.map λi=> [2*i+1]
theorem Bs (S:List Int):(S.map λi:Int=> [2*i]).map fh=S:=by
 rw[IW,show (fh ∘ λi:Int=> [2*i])=id from funext λi=>by
  show (2*i).fdiv 2=i;exact Int.mul_fdiv_cancel_left _ 41,List.map_id]
def Ii (D:Tl) (T:Tk):fj->Prop
 | .full z F G=>BL D T z F G
 | .one w C=>(w= "chain" ∨w= "ring")/\C.length<=30
 | .ways _=>False
def mw (D:Tl) (T:Tk) (r:fj):Prop:=kh r/\(fG r=none->Ii D T r)
theorem Af {D:Tl} {T:Tk} {z:Str} {F G:List 198} (h:Ae D T (.full z F G)):BL D T z F G:=by
 obtain ⟨S,m,hm,ne,nd,l4,rg,rfl,rfl⟩:=h z F G rfl;refine ((m,hm),(by rw[I0];lia,by rw[I0];lia,λf hf=>?_,λf hf=>?_),λf hf=>?_,λf hf=>?_,λ_=>(S,rfl,rfl))
 ·obtain ⟨i,_,rfl⟩:=IV.mp hf;simp
 ·obtain ⟨i,_,rfl⟩:=IV.mp hf;simp
 ·obtain ⟨i,_,rfl⟩:=IV.mp hf;simp
 ·obtain ⟨i,hi,rfl⟩:=IV.mp hf;have:fh [2*i]=i:=by
   show (2*i).fdiv 2=i;exact Int.mul_fdiv_cancel_left _ 41
  rw[this];exact rg i hi
theorem tU {D:Tl} {T:Tk} {w:Str} {C:List Int} (hw:w= "chain" ∨w= "ring" ∨w= "split") (hc:C.length<=30) (hs:w= "split" ->C.length<=8):mw D T (.one w C):=by
 refine (((hw,hc),λv hv=>?_),λhi=>?_)
 ·rw[gC] at hv
  by_cases c1:w= "split"
  ·rw[if_pos c1] at hv;cases hv;exact hs c1
  ·rw[if_neg c1] at hv;cases hv
 ·rw[gC] at hi
  by_cases c1:w= "split"
  ·rw[if_pos c1] at hi;cases hi
  ·refine (?_,hc);rcases hw with h|h|h
   ·exact .inl h
   ·exact .inr h
   ·exact absurd h c1
theorem kW.x {D:Tl} {T:Tk} {r:fj} (h:kW D T r):mw D T r:=by
 cases r with
 |full z F G=>exact ⟨h.ok,λ_=>Af h.fs⟩
 |one w C=>exact ⟨h.ok,λhi=>by
   have hw:(w= "chain" ∨w= "ring" ∨w= "split")/\C.length<=30:=h.ok.1;rw[gC] at hi
   by_cases c1:w= "split"
   ·rw[if_pos c1] at hi;cases hi
   ·refine (?_,hw.2);rcases hw.1 with h|h|h
    ·exact .inl h
    ·exact .inr h
    ·exact absurd h c1⟩
 |ways i=>exact ⟨h.ok,λhi=>by cases hi⟩
theorem Cw {D:Tl} {T:Tk} {i:Int}:mw D T (.ways i):=((trivial,λw hw=>by cases hw;trivial),λhi=>by cases hi)
theorem EL {D:Tl} {T:Tk} {z:Str} {F G:List 198} (h:Ae D T (.full z F G)) {f0:List Int} {x:Int} (h0:F[0]?=some f0) (hx:f0[0]?=some x):mw D T (.full z (F++ [[x,x+1,x]]) (G++ [[x+1]])):=by
 have fx:=Af h;obtain ⟨S,m,hm,ne,nd,l4,rg,rfl,rfl⟩:=h z F G rfl;rw[IG] at h0;obtain ⟨i,hi,rfl⟩:=IF.mp h0;cases hx;have tk3:fh [2*i,2*i+1,2*i]=i:=by
  show (2*i).fdiv 2=i;exact Int.mul_fdiv_cancel_left _ 41
 have mem: [2*i,2*i+1,2*i]∈(S.map λi=> [2*i])++ [[2*i,2*i+1,2*i]]:=Ik _ (IM.mpr rfl)
 have okr:pZ (.full z ((S.map λi=> [2*i])++ [[2*i,2*i+1,2*i]]) ((S.map λi=> [2*i+1])++ [[2*i+1]])):=by
  obtain ⟨_,_,o3,o4⟩:=fx.ok;refine (by rw[IB,I0];show _+1<=30;lia,by rw[IB,I0];show _+1<=30;lia,λf hf=>?_,λf hf=>?_)
  ·rcases IS.mp hf with y|y
   ·exact o3 f y
   ·rw[IM.mp y];simp
  ·rcases IS.mp hf with y|y
   ·exact o4 f y
   ·rw[IM.mp y];simp
 refine ((okr,λw hw=>by cases hw),λ_=>((m,hm),okr,λf hf=>?_,λf hf=>?_,λnd'=>?_))
 ·rcases IS.mp hf with y|y
  ·exact fx.ne f y
  ·rw[IM.mp y];simp
 ·rcases IS.mp hf with y|y
  ·exact fx.rg f y
  ·rw[IM.mp y,tk3];exact rg i (ID hi)
 ·exfalso;rw[Il,Bs] at nd';have:=(Jy.mp nd').2.2 i (ID hi) i (by simp[tk3])
  exact this rfl
theorem i7 {D:Tl} {T:Tk} {rs ms:List fj} (ok:∀x∈rs,mw D T x) (hm:∀x∈ms,mw D T x) (k j:Nat):∀x∈rs.take k++ms++rs.drop j,mw D T x:=λx hx=>by
 rcases IS.mp hx with y|y
 ·rcases IS.mp y with z|z
  ·exact ok x (List.mem_of_mem_take z)
  ·exact hm x z
 ·exact ok x (List.mem_of_mem_drop y)
theorem jM {D:Tl} {T:Tk} {r:fj} (h:mw D T r):∀x∈ [r],mw D T x:=λx hx=>by rw[IM.mp hx];exact h
def ou:Sp:=λvs H Q _=>∃(lp:Addr) (w put:Int) (k:Nat) (D:Tl) (T:Tk) (rs:List fj),vs= [.ref lp,.int w,.int (k:Int),.int put]/\cU lY An H lp rs/\(∀r∈rs,kW D T r)/\k<rs.length/\rs.length<=330/\∀(l:Addr) (os:List fj) (H':Hp),aC H H'->cU lY An H' l os->os.length<=335->(∀r∈os,mw D T r)->Q 271 H'
theorem va (xs:List V) (a:Nat):gU xs (some (a:Int)) none=xs.drop (min a 138):=by
 have e1:HT.gi 138 0 (some (a:Int))=min a xs.length:=by
  show (if (a:Int)<0 then ((a:Int)+(xs.length:Int)).toNat else min (a:Int).toNat xs.length)=_
  rw[if_neg 78,IP]
 have e2:HT.gi 138 138 none=xs.length:=rfl;unfold gU;rw[e1,e2];exact K5 (by rw[Io];lia)
structure GoodC (R:List Rn) (c:oo):Prop where
 cb:i4 R c.1 []
 ord:∀y∈c.2,∃p q:Int,y= [p,q]/\0<=p/\p<188/\0<=q/\q<188/\(R.getD p.toNat 125).2.1<=(R.getD q.toNat 125).1
section
variable {f:Int} {n0 n1:Str} {m0 m1:Int} {hs1 hs2:List Int} {T:Tk} {R:List Rn} {M:List Int} {A:List Ky} {ps:List (Int×Int)} {L:Int} {low:Option Int}
theorem qd {c:oo} (h:c8 f n0 n1 m0 m1 hs1 hs2 T R M) (hA:∀k∈A,jx 177 k/\kb 403 k) (hL:∀t∈aT R M,t<=L) (z:Str) (g:GoodC R c):zR [246,312] T c.1 424 177 R (DZ 403) L z:=by
 have p:=u6 h g.cb hA hL z;refine (λa ha=>?_,p.nn,p.up,p.len,p.at_,p.pos,p.many,p.cap,p.wk)
 obtain ⟨k,hk,rfl⟩:=IV.mp ha;unfold cJ at hk;rcases IS.mp hk with q|q
 ·exact p.kp _ (IV.mpr (k,by unfold cJ;exact List.mem_append_left _ q,rfl))
 ·unfold ju at q;obtain ⟨y,hy,rfl⟩:=IV.mp q;obtain ⟨i,j,rfl,i0,i1,j0,j1,le⟩:=g.ord y hy;have a1:=(p.at_ i.toNat 78).2
  have a2:=(p.at_ j.toNat 78).1
  show DZ 403 (2*i+1)+0<=DZ 403 (2*j);rw[show ((i.toNat:Nat):Int)=i by lia] at a1
  rw[show ((j.toNat:Nat):Int)=j by lia] at a2
  lia
theorem Bt {Ar:List Rn} {dm:Int->Int} (kp:A8 Ar dm) {C:List Int} {t:Int} (ht:jA Ar C=some t):t<=0:=by
 unfold jA at ht
 by_cases c:C= []
 ·rw[if_pos c] at ht;cases ht
 ·rw[if_neg c] at ht;obtain ⟨x,D,rfl⟩:=List.exists_cons_of_ne_nil c;have e:(x::D++(x::D).take 1)[(x::D++(x::D).take 1).length-1]?=some x:=by
   show (x::D++ [x])[(x::D++ [x]).length-1]?=some x;rw[J7 139]
   simp
  have:=u4 kp (c:=x::D++(x::D).take 1) (h:=x) rfl ht e
  lia
theorem xY {c:oo} (h:c8 f n0 n1 m0 m1 hs1 hs2 T R M) (hA:∀k∈A,jx 177 k/\kb 403 k) (hL:∀t∈aT R M,t<=L) (l0:0<=L) (hl:∀l,low=some l->L<l) (g:GoodC R c) (r:fj):lZ [246,312] T A 478 low c r=false:=by
 have sle:2*121+478=((aT R M).length:Int):=by
  rw[eQ,h.len]
  lia
 unfold lZ;rw[sle];have far:∀o:Option Int,(∀v,o=some v->v<=L)->Bj o low=false:=λo ho=>by
  cases low with
  |none=>rfl
  |some l=>
   cases o with
   |none=>rfl
   |some v=>
    have:=ho v rfl;have:=hl l rfl;exact decide_eq_false 78
 cases r with
 |full z F G=>
  rw[jp (r:= .full z F G) trivial];exact far _ λv hv=>u5 (qd h hA hL z g) hv
 |ways i=>exact u7
 |one w C=>
  have p:=qd h hA hL w g
  by_cases c1:w= "ring"
  ·subst c1;rw[oh];cases e:jA ((cJ A T c.1 c.2).map jo) C with
   |none=>exact Jh _
   |some t=>
    have:=Bt p.kp e;rw[show Bi (some t)=false from decide_eq_false 78]
    exact Jh _
  ·rw[jp (r:= .one w C) c1];refine far _ λv hv=>?_
   unfold gQ at hv;simp only[] at hv
   by_cases c2:w= "chain"
   ·rw[if_pos c2] at hv
    by_cases c3:fq 177 C=true
    ·rw[if_pos c3] at hv
     by_cases c4:C= []
     ·subst c4;injection hv with hv
      lia
     ·have:=oe p.kp c4 hv;have n1:=p.nn (lU C);have hm:eJ C∈C:=by
       unfold eJ;rw[List.getLast?_eq_some_getLast c4];exact List.getLast_mem c4
      unfold fq at c3;rw[IT] at c3;have b:=c3 _ hm;rw[II,decide_eq_true_eq,decide_eq_true_eq] at b;have:=p.up _ b.1 b.2
      lia
    ·rw[if_neg c3] at hv;cases hv
   ·rw[if_neg c2] at hv;cases hv
theorem vc {c:oo} (h:c8 f n0 n1 m0 m1 hs1 hs2 T R M) (hp:∀p∈ps,p.1≠p.2/\cq 211 210=false) (ok:∀ws∈T,kI [246,312] ws) (g:GoodC R c) {w:Rp} (hr:gy [246,312] T 308 c.1 c.2 w=true):∃c'∈fi c.1 c.2 w,GoodC R c':=by
 cases w with
 |split S=>
  have hc:eB [246,312] T 308 c.1 S=true:=by
   have:(!cY c.2 S&&eB [246,312] T 308 c.1 S)=true:=hr;rw[II] at this;exact this.2
  obtain ⟨i,hi,j,hj,ne,le⟩:=tP h hp (g.cb.ok h) g.cb.len g.cb.pick ok hc;have hu:cC T S=true:=by
   unfold eB at hc;rw[II,II] at hc;exact hc.1.1
  obtain ⟨rg,_⟩:=jk hu;rw[h.len] at rg;refine ((c.1,c.2++ [[i,j]]),?_,g.cb,λy hy=>?_)
  ·show _∈dw c.1 c.2 S S;unfold dw;rw[List.mem_flatMap];refine (i,hi,IV.mpr (j,JT.mpr (hj,?_),rfl));rw[decide_eq_false (λe=>ne (vj e))]
   rfl
  ·rcases IS.mp hy with q|q
   ·exact g.ord y q
   ·rw[IM.mp q];exact (i,j,rfl,(rg i hi).1,(rg i hi).2,(rg j hj).1,(rg j hj).2,le)
 |ways i=>
  have hw:ii T c.1 i=true:=hr;unfold ii at hw;simp only[II,decide_eq_true_eq] at hw;obtain ⟨⟨i0,i1⟩,l2,pn⟩:=hw;have il:i.toNat<R.length:=by rw[<-h.len];lia
  have rb:=(h.runs _ 452).2.2.2.2;have key:∀j:Nat,(R[i.toNat]'il).2.2=(j:Int)->GoodC R (c.1.set i.toNat 472,c.2):=λj hj=>by
   refine ((by rw[List.length_set];exact g.cb.len,λa b r h1 h2=>?_,JC _,λp hp=>by cases hp),g.ord)
   by_cases e:a=i.toNat
   ·subst e;dsimp only at h1;rw[List.getElem?_set_self (by rw[g.cb.len];exact il)] at h1
    sleep 106
    sleep 106
    rw[IA il] at h2;injection h2 with h2
    rw[<-h2,hj,h1]
   ·dsimp only at h1;rw[List.getElem?_set_ne (λz=>e z.symm)] at h1
    exact g.cb.pick a b r h1 h2
  rcases rb with e|e
  ·exact (_,Iq,key 0 e)
  ·exact (_,IX _ Iq,key 1 e)
theorem wH (h:c8 f n0 n1 m0 m1 hs1 hs2 T R M) (hA:∀k∈A,jx 177 k/\kb 403 k) (hp:∀p∈ps,p.1≠p.2/\cq 211 210=false) (ok:∀ws∈T,kI [246,312] ws) (hL:∀t∈aT R M,t<=L) (l0:0<=L) (hl:∀l,low=some l->L<l):∀{rs:List fj} {p q:Cs},wG [246,312] T A 308 478 low p rs=some q->(∃c∈p,GoodC R c)->∃c∈q,GoodC R c
 | [],p,q,e,g=>by
  injection e with e
  rw[<-e];exact g
 |r::rs,p,q,e,⟨c,hc,g⟩=>by
  obtain ⟨p1,h1,h2⟩:=J2.mp e;refine wH h hA hp ok hL l0 hl h2 ?_;cases p with
  |nil=>cases hc
  |cons c0 p0=>
   replace h1:i6 [246,312] T A 308 478 low c0 p0 r=some p1:=h1;unfold i6 at h1;cases hi:fG r with
   |some w=>
    rw[hi] at h1;dsimp only at h1
    by_cases c1:gy [246,312] T 308 c0.1 c0.2 w=true
    ·rw[if_pos c1] at h1;sleep 106
     subst h1;rcases IK.mp hc with rfl|hc
     ·obtain ⟨c',hc',g'⟩:=vc h hp ok g c1;exact (c',List.mem_append_left _ hc',g')
     ·exact (c,Ik _ hc,g)
    ·rw[if_neg c1] at h1;cases h1
   |none=>
    rw[hi] at h1;dsimp only at h1;rcases IK.mp hc with rfl|hc
    ·rw[xY h hA hL l0 hl g r,if_neg 41] at h1
     cases h1
    ·by_cases c1:lZ [246,312] T A 478 low c0 r=true
     ·rw[if_pos c1] at h1;sleep 106
      subst h1;exact (c,hc,g)
     ·rw[if_neg c1] at h1;cases h1
theorem Ag (h:c8 f n0 n1 m0 m1 hs1 hs2 T R M) (hA:∀k∈A,jx 177 k/\kb 403 k) (hp:∀p∈ps,p.1≠p.2/\cq 211 210=false) (ok:∀ws∈T,kI [246,312] ws) (hL:∀t∈aT R M,t<=L) (l0:0<=L) (hl:∀l,low=some l->L<l) (rs:List fj):qa [246,312] T A 308 478 low rs=false:=by
 refine decide_eq_false λe=>?_
 have g0:GoodC R ((Ip T.length).map λ_=>none,[]):=((by rw[I0,J5];exact h.len,zH,JC _,λp hp=>by cases hp),λy hy=>by cases hy)
 obtain ⟨c,hc,_⟩:=wH h hA hp ok hL l0 hl e ⟨_,Iq,g0⟩;cases hc
universe z0
def qe:Sp:=λvs H Q _=>∃(v v':V) (w w':Wy),vs= [v,v']/\iM An H v w/\iM An H v' w'/\∀b,Q (.bl b) H
def qf:Sp:=λvs H Q _=>∃(tl t:Addr) (i j:Nat) (D:Tl) (T:Tk) (P:Pk),vs= [.ref tl,.ref t,.int i,.int j]/\iD D H tl t T P/\i<T.length/\j<T.length/\∀b H',aC H H'->Q (.bl b) H'
def tV:Sp:=λvs H Q _=>∃(tp t l td tl pl:Addr) (v:V) (S:List Int) (D:Tl) (T:Tk) (P:Pk) (ps:List 212),vs= [.ref tp,.ref t,.ref l]/\H tp=some (.tup [.ref td,.ref tl,v,.ref pl])/\H td=some 166/\(D.map 201).Nodup/\iD D H tl t T P/\T.length<=24/\bn H pl 308/\H l=some 228/\S.length<=1000/\(∀i∈S,0<=i/\i<121)/\∀b H',(b=true->2<=S.length)->aC H H'->Q (.bl b) H'
def Go (T:Tk) (S:List Int):Prop:=∀i∈S,0<=i/\i<121
def qg:Sp:=λvs H Q _=>∃(tp t:Addr) (D:Tl) (T:Tk) (A:List Ky) (ps:List 212) (n:Int) (c:oo),vs= [.ref tp,.ref t]/\Ab H tp t D T A ps n c/\∀(l:Addr) (Ss:List 198) (H':Hp),aC H H'->zK H' l Ss->Ss.length<=16->(∀S∈Ss,S.length<=4/\2<=S.length/\Go T S)->Q 271 H'
def GoodW (T:Tk) (P:Pk):Rp->Prop
 | .split S=>Go T S
 | .ways i=>ii T P i=true
def EM (T:Tk) (c:oo) (r:fj):Prop:=kh r/\Cv r/\∃w,fG r=some w/\GoodW T c.1 w
def tW:Sp:=λvs H Q _=>∃(tp t:Addr) (x:Int) (D:Tl) (T:Tk) (A:List Ky) (ps:List 212) (n:Int) (c:oo),vs= [.ref tp,.ref t,.int x]/\Ab H tp t D T A ps n c/\∀(v:V) (H':Hp),aC H H'->(v= .non∨∃r,lY 280 H' v r/\EM T c r)->Q v H'
theorem vd {T:Tk} {k:Nat} {c:oo} {w:Rp} (hr:GoodW T c.1 w) (h:oq T k c):∀c'∈fi c.1 c.2 w,oq T 291 c':=by
 cases w with
 |ways i=>exact qc (D:= []) (B:= []) (show gy [] T [] c.1 c.2 (.ways i)=true from hr) h
 |split S=>
  intro c' hc;replace hc:c'∈dw c.1 c.2 S S:=hc;unfold dw at hc;rw[List.mem_flatMap] at hc;obtain ⟨i,hi,hc⟩:=hc;obtain ⟨j,hj,rfl⟩:=IV.mp hc;have hj:=(JT.mp hj).1;refine (h.pk,by rw[IB];have:=h.len;show c.2.length+1<=_;lia,λy hy=>?_)
  rcases IS.mp hy with z|z
  ·exact h.ord y z
  ·rw[IM.mp z];exact (i,j,rfl,(hr i hi).1,(hr i hi).2,(hr j hj).1,(hr j hj).2)
structure kX (D:Tl) (T:Tk) (m:Nat) (rs:List fj) (pq:Cs):Prop where
 rows:∀r∈rs,kW D T r
 len:pq.length<=1+64*m
 cok:∀c∈pq,oq T m c
 ne:1<=rs.length+pq.length
section
variable {D:Tl} {T:Tk} {m:Nat} {rs:List fj} {c:oo} {q:Cs} {r:fj}
theorem kX.nil:kX D T 0 [] (iH T):=((λr hr=>by cases hr),IH _,qb,IH _)
theorem tX (h:∀r∈rs,kW D T r) (ok:kW D T r):∀x∈rs++ [r],kW D T x:=λx hx=>by
 rcases IS.mp hx with z|z
 ·exact h x z
 ·rw[IM.mp z];exact ok
theorem kX.inn {w:Rp} (h:kX D T m rs (c::q)) (ok:kW D T r) (okw:zT w) (hr:GoodW T c.1 w):kX D T (m+1) (rs++ [r]) (fi c.1 c.2 w++q):=by
 have l:=h.len;have lc:=jr (P:=c.1) (O:=c.2) okw;rw[Iu] at l;refine (tX h.rows ok,by rw[IB];lia,λx hx=>?_,by rw[IB];show 1<=_+1+_;lia)
 rcases IS.mp hx with z|z
 ·exact vd hr (h.cok c Iq) x z
 ·exact (h.cok x (IX _ z)).mono (Jz _)
theorem Bu {w:Rp} (ok:kh r) (os:Cv r) (hw:fG r=some w):kW D T r:=(ok,λz F G e=>(by subst e;cases hw),os)
theorem xZ:kW D T (.one "chain" []):=(((.inl rfl,by simp),λw hw=>by cases hw),(λz F G e=>by cases e),λw C e=>by cases e;exact (by simp,λe=>absurd e 41))
theorem kX.leaf (h:kX D T m rs (c::q)) (ok:kW D T r):kX D T m (rs++ [r]) q:=by
 have l:=h.len;rw[Iu] at l;exact (tX h.rows ok,by lia,λx hx=>h.cok x (IX _ hx),by rw[IB];show 1<=_+1+_;lia)
universe z0
def wI:Sp:=λvs H Q _=>∃(tp t dl:Addr) (x:Int) (D:Tl) (T:Tk) (A:List Ky) (ps:List 212) (n:Int) (c:oo) (due:List Ky),vs= [.ref tp,.ref t,.ref dl,.int x]/\Ab H tp t D T A ps n c/\bn H dl due/\tD 197 due/\due.length<=700/\∀(tq:Addr) (v:V) (o:Option Int) (r:fj) (H':Hp),aC H H'->H' tq=some (.tup [v,oV o])->lY 280 H' v r->kW D T r->Q (.ref tq) H'
def tY:Sp:=λvs H Q _=>∃(tp lc:Addr) (cs:List Int) (D:Tl) (T:Tk) (A:List Ky) (ps:List 212) (n:Int),vs= [.ref tp,.ref lc]/\u9 H tp D T A ps n/\H lc=some 399/\cs.length<=63/\∀(tq lp lt:Addr) (rs:List fj) (ts:List Int) (H':Hp),aC H H'->H' tq=some (.tup [.ref lp,.ref lt])->cU lY An H' lp rs->H' lt=some (.lst (ts.map V.int))->rs.length<=330->1<=rs.length->(∀r∈rs,kW D T r)->Q (.ref tq) H'
universe Sw
namespace Lk76
open PySem L2 Sw XH PyProof.Rows Hm
abbrev Lh (x:Addr):Option V:=some (.ref x)
theorem cO {X:Cx} {N P:Lb} {sp:Scope} (i:Nat) (sc:aE N P sp) {x:Str} {e:Expr} {te:TE} {pos pos':Pos} (he:PE X e te) (hi:X.N[i]?=some x:=by rfl) (hx:Loc X.env.scope x:=by exact Or.inl rfl) (hn:X.N=N:=by rfl) (hs:swapsWith e (some (.Name x pos')) pos.line X.env=pure false:=by rfl) (hf:X.fn x=true∨X.env.scope.names.lookup x=some .local:=by first|exact .inl rfl|exact .inr rfl|assumption):PS X (.Assign [.Name x pos'] e pos) (ud te (cE i)):=fQ (hn▸sc.nd) hi hx he hs hf
theorem cP {X:Cx} {N P:Lb} {sp:Scope} (i:Nat) (sc:aE N P sp) {x:Str} {pos:Pos} (hi:X.N[i]?=some x:=by rfl) (hx:Loc X.env.scope x:=by exact Or.inl rfl) (hn:X.N=N:=by rfl) (hf:X.fn x=true∨X.env.scope.names.lookup x=some .local:=by first|exact .inl rfl|exact .inr rfl|assumption):PG X (.Name x pos) (cE i):=fH (hn▸sc.nd) hi hx hf
theorem cj {X:Cx} {k j:Nat} {x:Str} {ps:Lb} {dvs:List V} {sp:Sp} {e:Expr} {es:List Expr} {t:TA} {p pos:Pos} (D:Dx X.prog X.w X.K X.mg X.base bj k x ps dvs sp) (hr:fo j X.A) (ha:PA X (e::es) t) (hk:k<=j:=by decide) (hg:Gl X x:=by rfl) (hdb:311=false:=by decide) (he:starEach (e::es) X.env=(false,eval e X.env)::starEach es X.env:=by rfl) (hpl:(backTo pos 429).any 201=false:=by rfl):PE X 442 (yr sp [] E0 t):=B8 D hr hk hg ha hdb he hpl
noncomputable def top (i:Nat):Stmt:=PySem.Challenge.pw_stovework_k76_whole_no_false_paper.main.body.getD i (.Pass ⟨0,0,0,0⟩)
noncomputable def clsAt (s:Stmt) (i:Nat):Stmt:=match s with| .ClassDef _ _ _ body _ _ _ _ _ _ _=>body.getD i (.Pass ⟨0,0,0,0⟩)|_=>s
abbrev G3:Stmt:=top 8
abbrev G4:Stmt:=top 18
abbrev G5:Stmt:=top 21
abbrev G6:Stmt:=top 22
abbrev G7:Stmt:=top 24
abbrev G8:Stmt:=top 23
abbrev G9:Stmt:=top 25
abbrev Hg:Stmt:=top 26
abbrev Gp:Stmt:=clsAt (top 17) 0
abbrev Hh:Stmt:=top 20
abbrev Cy:Stmt:=top 64
abbrev Cz:Stmt:=top 65
abbrev CA:Stmt:=top 66
abbrev CB:Stmt:=top 67
abbrev CC:Stmt:=top 68
abbrev CD:Stmt:=top 70
abbrev CF:Stmt:=top 71
abbrev CG:Stmt:=top 72
abbrev CH:Stmt:=top 74
abbrev CI:Stmt:=top 73
abbrev CJ:Stmt:=top 75
abbrev CK:Stmt:=top 69
abbrev CL:Stmt:=top 76
abbrev CM:Stmt:=top 77
abbrev CN:Stmt:=top 19
abbrev CO:Stmt:=top 28
abbrev CP:Stmt:=top 33
abbrev CQ:Stmt:=top 29
abbrev CS:Stmt:=top 31
abbrev CT:Stmt:=top 32
abbrev CU:Stmt:=top 35
abbrev CV:Stmt:=top 34
abbrev CW:Stmt:=top 30
abbrev CY:Stmt:=top 37
abbrev CZ:Stmt:=top 39
abbrev C3:Stmt:=top 38
abbrev C4:Stmt:=top 40
abbrev C5:Stmt:=top 43
abbrev C6:Stmt:=top 44
abbrev C7:Stmt:=top 45
abbrev C8:Stmt:=top 46
abbrev C9:Stmt:=top 42
abbrev Da:Stmt:=top 51
abbrev Db:Stmt:=top 50
abbrev Dc:Stmt:=top 49
abbrev Dd:Stmt:=top 48
abbrev De:Stmt:=top 56
abbrev Df:Stmt:=top 55
abbrev Dg:Stmt:=top 58
abbrev Dh:Stmt:=top 57
abbrev Di:Stmt:=top 54
abbrev Dj:Stmt:=top 59
abbrev Dk:Stmt:=top 61
abbrev Dl:Stmt:=top 60
abbrev Dm:Stmt:=top 62
abbrev Dn:Stmt:=top 79
abbrev Do:Stmt:=top 81
abbrev Dp:Stmt:=top 82
abbrev Dq:Stmt:=top 83
abbrev Dr:Stmt:=top 84
abbrev Ds:Stmt:=top 85
abbrev Dt:Stmt:=top 86
abbrev Du:Stmt:=top 87
abbrev Dv:Stmt:=top 88
abbrev Dw:Stmt:=top 89
abbrev Dy:Stmt:=top 90
abbrev Dz:Stmt:=top 91
abbrev DA:Stmt:=top 92
abbrev DB:Stmt:=top 93
abbrev DC:Stmt:=top 94
abbrev DD:Stmt:=top 95
abbrev DE:Stmt:=top 96
abbrev DF:Stmt:=top 97
abbrev DG:Stmt:=top 98
abbrev DH:Stmt:=top 99
abbrev DI:Stmt:=top 100
abbrev DJ:Stmt:=top 101
abbrev DK:Stmt:=top 102
abbrev DL:Stmt:=top 103
abbrev DM:Stmt:=top 104
abbrev DN:Stmt:=top 105
abbrev DO:Stmt:=top 106
abbrev DP:Stmt:=top 107
abbrev DQ:Stmt:=top 108
abbrev DR:Stmt:=top 109
abbrev DS:Stmt:=top 110
abbrev DT:Stmt:=top 111
abbrev q9:Stmt:=top 112
structure Bn (K:IE) (mg:KZ) (Ki Ix Ks:Addr):Prop where
 KL:∃t,mg "LETTERS" =some (.str "abcdefghijklmnopqrstuvwxyz" t)
 Kq:∃t,mg "MOST_LETTERS" =some (.int 12 t)
 Ku:∃t,mg "MOST_TASKS" =some (.int 24 t)
 Kt:∃t,mg "MOST_TOOLS" =some (.int 12 t)
 Kr:∃t,mg "MOST_PIECES" =some (.int 8 t)
 Kx:∃t,mg "MOST_WAYS" =some (.int 2 t)
 Kp:∃t,mg "MOST_MOMENTS" =some (.int 8 t)
 Kz:∃t,mg "MOST_ARCS" =some (.int 600 t)
 Kv:∃t,mg "MOST_APART" =some (.int 300 t)
 Kl:∃t,mg "GREATEST" =some (.int 1000000000 t)
 KW:mg "abs" =none
 KU:mg "all" =none
 KO:mg "dict" =none
 Kf:mg "enumerate" =none
 Kw:mg "isinstance" =none
 IO:mg "len" =none
 Ke:mg "list" =none
 Ko:mg "max" =none
 Kn:mg "min" =none
 Kc:mg "range" =none
 Kk:mg "reversed" =none
 KK:mg "set" =none
 Km:mg "sorted" =none
 KS:mg "str" =none
 KJ:mg "sum" =none
 KN:mg "zip" =none
 KP:mg "INNER" =some (.ref Ki)
 KR:mg "Net" =some (.ref Ix)
 KM:Bm K Ki ["split","ways"]
 Kb:Av K Ix
 KQ:Mk K Ix Ks
 Kd:dq K Ix "tools"
 Ka:dq K Ix "tasks"
 Kj:dq K Ix "arcs"
 Kh:dq K Ix "apart"
 Kg:dq K Ix "moments"
section
variable {P:Program} {w:World} {K:IE} {mg:KZ} {base:Heap} {f:Addr} {fd:FuncData} {Ki Ix Ks:Addr}
variable (B:Bn K mg Ki Ix Ks)
include B
theorem Hi {dV:Value} (F:bv K "is_name" "is_name" G3 dV f fd):bq P w K mg base bj 1 f fd ["thing"] (sH K):=by
 have sc:aE ["thing","sign"] ["thing"] (av G3):=dk 47
 sleep 68
 obtain ⟨x,rfl,h⟩:=h;exists _,(ah (aN (PW.pt (fr (cS (c5 (ay (xi (K:=K) rfl) rfl B.Kw boot_isinstance (118<*>((Ap (v:= .ty "str") rfl B.KS boot_str rfl)<*>ac))))) (fr (au dS (ay jR rfl B.IO boot_len 257) ae 154) (dY (au gS (ay jR rfl B.IO boot_len 257) (dO rfl B.Kq) 154))))) 155 aB) (ah (aP 117 rfl (Cb 118) (cP 1 sc) (ak (aN (au qr 129 (yO rfl B.KL) 133) 155 aB))) 155))
 try dsimp only[cxK]
 sleep 9;rcases h with ⟨z,rfl,hz,q1,q0⟩|⟨ty,hty,hk,q⟩
 ·have hz':z.length<=sizeLine:=J8 hz 41
  have hl:=qz z;try dsimp only[cE,c9]
  refine cut (λσ H'=>H=H'/\σ= [some 456,none]/\1<=z.length/\z.length<=12) 232 ?_
  ·refine (aG _ _ _ true (rfl,.str _,rfl,(z,rfl,hz',d2 217 (λc1=>(z,rfl,hz',d2 217 255)))))
   ·exact q0 λn=>by have:=n.1;lia
   ·exact q0 λn=>by have:=n.2.1;lia
   ·exact hN _ _ (rfl,rfl,by lia,by lia)
  rintro σ _ ⟨rfl,rfl,l1,l2⟩;refine (z,rfl,AJ (λi σ H2=>H=H2/\(∃o,σ= [some 456,o])/\∀j c,j<i->z.cps[j]?=some c->97<=c/\c<=122) (rfl,⟨ν⟩,λj c h=>absurd h 78) (λi c σ H2 hc hP=>?_) (λσ H2 hP=>?_))
  ·obtain ⟨rfl,⟨o,rfl⟩,hP⟩:=hP;refine (aJ _ _ (rfl,rfl,HX (λe=>?_) (λe=>?_)))
   ·have e':=(vO c).symm.trans e;refine q0 λn=>?_
    have:=n.2.2 c (ID (show (sL z)[i]?=some c by rw[<-hc];exact J6))
    rw[decide_eq_true this] at e';cases e'
   ·have e':=(vO c).symm.trans e;refine (rfl,⟨ν⟩,λj c' hj hc'=>?_)
    rcases JV.mp hj with k|k
    ·exact hP j c' k hc'
    ·subst k;rw[hc] at hc';cases hc';exact of_decide_eq_true e'
  ·obtain ⟨rfl,⟨o,rfl⟩,hP⟩:=hP;refine q1 (by lia,by lia,λc hc=>?_)
   obtain ⟨i,hi⟩:=Iw.mp hc;have hi':z.cps[i]?=some c:=by rw[<-hi];exact J6.symm
   exact hP i c (by have:=(KB.mp hi').1;exact this) hi'
 ·exact (aG _ _ _ false (rfl,hty,hk,q))
theorem Hj {dV:Value} (F:bv K "points_of" "points_of" G4 dV f fd):bq P w K mg base bj 1 f fd ["net"] (kL Ix):=by
 have sc:aE ["net"] ["net"] (av G4):=dk 47
 sleep 68
 refine dR h λx n fz D T A _hi=>?_
 refine dU _hi λB2 _hj=>?_
 refine iC _hj λ_r1 N q=>?_
 sleep 41;exists _,(ak (aw (am aW (am aZ ae 206) 164)));try dsimp only[cxK]
 refine dR N.ex λdx td tl al pl fs _hi=>?_
 refine jH _hi λe0 l1 l2 l3 l4 l5 e1 _r1 _hj=>?_
 refine cA _hj λe3 e4=>?_
 obtain ⟨as,e2,r2⟩:=_r1;refine (aG x _ dx _ (_,(rfl,e0,B.Kb,B.Ka,l2,aJ tl _ (rfl,.inl (aD.of e2),126 41,aG x _ dx _ (_,(rfl,e0,B.Kb,B.Kg,l5,?_))))))
 rw[r2.1];exact q
theorem Hl {dV:Value} (F:bv K "copy_of_task" "copy_of_task" G5 dV f fd):bq P w K mg base bj 1 f fd ["ways"] qH:=by
 have sc:aE ["ways"] ["ways"] (av G5):=dk 47
 sleep 68
 obtain ⟨l,ws,P0,rfl,⟨vs,el,r0⟩,l2,q⟩:=h;exists _,(ak (aw (cQ (own:= "way") (ys:= []) (js:= []) rfl 124 451 (λC fp s H=>(@bc _ _ _ _ _ (132<*>(132<*>((cM (mZ (K:=K) rfl) rfl B.Ke boot_list (132<*>ac))<*>ac))))))))
 try dsimp only[cxK]
 sleep 0;have r:=r0.imp λ_ _ q=>DX q
 refine (l,rfl,334,cg iM (λa=>P0 a/\H a≠none) (λi=>ws.getD i 387) 305 (by rw[r.1];lia) (λa h=>h.2) 411 λp H' np g hp=>?_)
 ·refine dU (r.at_ hy) λw _hi=>?_
  sleep 90
  refine iO _hj λt u _hk=>?_
  sleep 83
  refine cA _hl λet _hm=>?_
  refine dU _hm λus _hn=>?_
  refine cA _hn λeu ru=>?_
  clear _hi _hj _hk _hl _hm _hn;subst _r1;have et3:=g _ _ et;rw[aL hw] at hQ;refine (aG t _ _ _ (rfl,rfl,bg.of et3,rfl,aG t _ _ _ (rfl,rfl,bg.of et3,rfl,aG t _ _ _ (rfl,rfl,bg.of et3,rfl,aJ u us (rfl,.inl (aD.of (g _ _ eu)),λu' nu=>(by show 3<=sizeLine;decide,λt' nt=>?_))))))
  have g1:=af nu (.lst us);have g2:=af nt (.tup [.int w.1,.int w.2.1,.ref u']);exact hQ _ _ 209 (aJ t' u' (rfl,.inl (g1.free nt),.inl nu,ag,us,g2 _ _ ag,ru.imp λv e q=>rD (dJ q (g.trans 209)) λa h=> .inr h))
 ·rw[kP ws 387 r.1] at hp;exact q p H' g np (p,rfl,.inl np,hp.mono λa h=>h.2.imp id λz=>z.1)
theorem Hn {dV:Value} (F:bv K "refuse_wrong_tools" "refuse_wrong_tools" G6 dV f fd) (DZ0:Dx P w K mg base bj 1 "is_name" ["thing"] [] (sH K)):bq P w K mg base bj 2 f fd ["tools"] pC:=by
 have sc:aE ["tools","tool","many"] ["tools"] (av G6):=dk 47
 sleep 68
 obtain ⟨td,D,rfl,e,l12,ok,q⟩:=h;exists _,(ah (aN (au gS (ay uC rfl B.IO boot_len 257) (dO rfl B.Kt) 154) 408 aB) (ak (uy (aP 117 rfl (si (qu PySem.F.plainAttrs_dict PySem.F.slot_dict_items PySem.F.type_dict_items sf 118)) (cT rfl (aH (cP 1 sc) (aH 348 ca))) (ah (aN (cS (c5 (cj DZ0 hr 501))) 408 aB) (ak (aN (cS (cX dA dA ae 127 (dO rfl B.Kr))) 408 aB)))))));try dsimp only[cxK]
 sleep 28;refine (aJ td _ (rfl,e,dF (by rw[kG];lia) ?_))
 refine (.inr (.inr (.inl (rfl,.inl (_,e)))),aJ td _ (rfl,rfl,e,λv nv=>?_))
 have g:=af nv 357
 refine (bT v td _ (rfl,ag,g _ _ e,λo nf=>?_))
 have e1:=g _ _ e;generalize aK H v 357=H1 at g e1⊢
 have ef:aK H1 td 356 td=some (.frz o 166):=ag;refine pM (λi σ H'=>aC (aK H1 td 356) H'/\∃o1 o2:Option V,σ= [Lh td,o1,o2]) 327 (λi σ H' _ h=>h.1 _ _ ef) ?_ ?_
 ·rintro i k y σ H2 T' hk ⟨g2,o1,o2,rfl⟩ nT;obtain ⟨p,hp,rfl,rfl⟩:=nH hk;obtain ⟨n1,n2,n3⟩:=ok p (ID hp);have g3:=g2.trans (af nT (.tup [kV (.inr p.1),.int p.2]));have zl:p.1.length<=1000000:=by have:=n1.2.1;rw[qz] at this;lia
  sleep 12;refine (ν,.inl (p.1,rfl,zl,λ_=>(mB.i (df ?_)),λz=>absurd n1 z))
  exact (dT n2 (nF n3 (g3,aJ _ _ rfl)))
 ·rintro σ H2 ⟨g2,o1,o2,rfl⟩;exact (bT td o _ (g2 _ _ ef,nf,q _ (g.trans (kK e1 g2))))
theorem Ho {dV:Value} (F:bv K "refuse_wrong_uses" "refuse_wrong_uses" G7 dV f fd):bq P w K mg base bj 1 f fd ["uses","tools"] sI:=by
 have sc:aE ["uses","tools","use"] ["uses","tools"] (av G7):=dk 47
 sleep 68
 refine fT h λu td D us _hi=>?_
 refine dN _hi λ_r1 _r2 ed _hj=>?_
 refine cA _hj λ_r3 q=>?_
 sleep 41;obtain ⟨vs,eu,ru⟩:=_r2;obtain ⟨nd,l100,ok⟩:=_r3;exists _,(ah (aN (au eZ (xq rfl rfl B.IO rfl B.KK PyProof.Rows.Boot.«len» PyProof.Rows.Boot.«set» (cQ (own:= "use") (ys:= []) (js:= []) rfl 124 451 288)) 157 154) 408 aB) (ak (aP 117 rfl 451 348 (ah (aN (uc (ko 505 152 129) 133) 408 aB) (ah (aN (cS (cX dA dA ae 152 (i9 505 129 152 36))) 408 aB) (ak (aN (cS (cX dA dA ae 152 (dO rfl B.Kl))) 408 aB)))))))
 try dsimp only[cxK]
 sleep 28;sleep 0;refine (u,rfl,484,cg (fg V.str) 160 (λi=>(us.getD i ("",0,0)).1) (aD.of eu) (by rw[ru.1];lia) 142 411 λp H' np g hp=>?_)
 ·obtain ⟨e,he,t,rfl,_,et⟩:=ru.at_ hy;rw[aL he] at hQ;exact (aG t _ _ _ (rfl,rfl,bg.of (g _ _ et),rfl,hQ _ _ 170 rfl))
 obtain ⟨ps,ep,rp⟩:=hp;have e1:ps=(us.map λe=>(.inr e.1:Key)).map kV:=by
  rw[rp.val,IW,IW]
  conv=>rhs;rw[<-cG us ("",0,0),IW,<-ru.1]
  rfl
 rw[e1] at ep;refine (aJ p (us.map λe=>(.inr e.1:Key)) (rfl,aD.of ep,?_,by rw[I0];lia,aJ u _ (rfl,.inl (aD.of (g _ _ eu)),rfl,GQ (by rw[I0,ru.1]) ?_)))
 ·have:(us.map λe=>(.inr e.1:Key))=(us.map 201).map Sum.inr:=by rw[IW];rfl
  rw[this];exact nd.map (f:=(Sum.inr:Str->Key)) λa b h e=>h (by injection e)
 clear ep rp e1;refine (u,rfl,(_,aD.of (g _ _ eu)),aV (xs:=vs) (λi σ H2=>H'=H2/\∃o2:Option V,σ= [Lh u,Lh td,o2]) (rfl,none,rfl) (λi σ H2 _ h=>by rw[<-h.1];exact aD.of (g _ _ eu)) ?_ ?_)
 ·rintro i y σ H2 hy ⟨rfl,o2,rfl⟩;obtain ⟨e,he,t,rfl,_,et⟩:=ru.at_ hy;obtain ⟨m,hm,k1,k2,k3,k4⟩:=ok e (ID he);have et':=g _ _ et;have dg:=kQ (.inl (g _ _ ed)) hm;refine (aG t _ _ _ (rfl,rfl,bg.of et',rfl,aJ td _ (rfl,dg,mB.i (df ?_))));refine (aG t _ _ _ (rfl,rfl,bg.of et',rfl,dT k1 (aG t _ _ _ (rfl,rfl,bg.of et',rfl,aJ td _ (rfl,dg,nF k2 ?_)))));exact (aG t _ _ _ (rfl,rfl,bg.of et',rfl,dT k3 (nF k4 (rfl,ν))))
 ·rintro σ H2 ⟨rfl,o2,rfl⟩;exact q _ g
theorem Hq {dV:Value} (F:bv K "refuse_wrong_tasks" "refuse_wrong_tasks" G8 dV f fd) (DZ4:Dx P w K mg base bj 1 "refuse_wrong_uses" ["uses","tools"] [] sI):bq P w K mg base bj 2 f fd ["tasks","tools"] pD:=by
 have sc:aE ["tasks","tools","ways","way"] ["tasks","tools"] (av G8):=dk 47
 sleep 68
 refine fT h λtl td D T _hi=>?_
 refine ip _hi λ_r1 _r2 ed l24 ok q=>?_
 sleep 66;obtain ⟨as,el,r⟩:=_r2;exists _,(ah (aN (au gS 157 (dO rfl B.Ku) 154) 408 aB) (ak (aP 117 rfl 451 348 (ah (aN (cS (cX dA dA ae 268 (dO rfl B.Kx))) 408 aB) (ak (aP 117 rfl 498 331 (ah (aN (cS (xm dA dA dA ae 349 349 (dO rfl B.Kl))) 408 aB) (ak (bI (cj DZ4 hr (349<*>501)))))))))))
 try dsimp only[cxK]
 sleep 28;have ll:as.length=T.length:=r.1;refine (aJ tl _ 415)
 refine (tl,rfl,334,aV (xs:=as) (λi σ H'=>aC H H'/\∃o2 o3:Option V,σ= [Lh tl,Lh td,o2,o3]) 327 (λi σ H' _ h=>aD.of (h.1 _ _ el)) ?_ ?_)
 ·rintro i y σ H1 hy ⟨g1,o2,o3,rfl⟩;refine dU (r.at_ hy) λws _hi=>?_
  sleep 90
  refine dU _hj λwl _hk=>?_
  sleep 127
  refine dU _hl λts _hm=>?_
  refine cA _hm λets0 rt0=>?_
  sleep 109;have ets:=g1 _ _ ets0;have rt:=rt0.imp λ_ _ q=>dJ q g1
  obtain ⟨o1,o2',ow⟩:=ok ws (ID hw);have lw:ts.length=ws.length:=rt.1;refine (aJ wl _ (rfl,.inl (aD.of ets),dT (by rw[lw];lia) (nF (by rw[lw];lia) ?_)))
  refine (wl,rfl,(_,aD.of ets),aV (xs:=ts) (λj σ H'=>aC H H'/\aC H1 H'/\∃o3:Option V,σ= [Lh tl,Lh td,Lh wl,o3]) (g1,.refl _,o3,rfl) (λj σ H' _ h=>aD.of (h.2.1 _ _ ets)) ?_ ?_)
  ·rintro j z σ H2 hz ⟨g2,g12,o3,rfl⟩;refine dU (rt.at_ hz) λw _hi=>?_
   refine cA _hi λhw2 _hj=>?_
   refine iO _hj λt u _hk=>?_
   sleep 83
   refine cA _hl λet0 lu0=>?_
   clear _hi _hj _hk _hl;subst _r1;have et:=g12 _ _ et0;obtain ⟨w1,w2,w3,w4⟩:=ow w (ID hw2);refine (aG t _ _ _ (rfl,rfl,bg.of et,rfl,dT w1 (aG t _ _ _ (rfl,rfl,bg.of et,rfl,dT w2 (nF w3 ?_)))));exact (aG t _ _ _ (rfl,rfl,bg.of et,rfl,aG u td D w.2.2 (rfl,lu0.same g12,g2 _ _ ed,w4,λH3 g3=>(g2.trans g3,g12.trans g3,ν))))
  ·rintro σ H2 ⟨g2,_,o3,rfl⟩;exact (g2,aJ _ _ rfl)
 ·rintro σ H1 ⟨g1,o2,o3,rfl⟩;exact q _ g1
theorem Hr {dV:Value} (F:bv K "refuse_wrong_arcs" "refuse_wrong_arcs" G9 dV f fd):bq P w K mg base bj 1 f fd ["arcs","points"] vJ:=by
 have sc:aE ["arcs","points","arc"] ["arcs","points"] (av G9):=dk 47
 sleep 68
 refine j9 h λal m A _hi=>?_
 refine dN _hi λ_r1 _r2 l6 _hj=>?_
 refine cA _hj λok q=>?_
 sleep 41;obtain ⟨as,el,r⟩:=_r2;exists _,(ah (aN (au gS 157 (dO rfl B.Kz) 154) 408 aB) (ak (aP 117 rfl 451 348 (ah (aN (cS (PW.pt (cK 482 (cp 482)))) 408 aB) (ak (aN (au gS (ay yo rfl B.KW boot_abs (152<*>ac)) (dO rfl B.Kl) 154) 408 aB))))))
 try dsimp only[cxK]
 sleep 28;have ll:(as.map V.ref).length=A.length:=by rw[I0];exact r.1
 refine (aJ al _ 415)
 refine (al,rfl,334,aV (xs:=as.map V.ref) (λi σ H'=>H=H'/\∃o2:Option V,σ= [Lh al,some 388,o2]) (rfl,none,rfl) (λi σ H' _ h=>by rw[<-h.1];exact aD.of el) ?_ ?_)
 ·rintro i x σ H1 hx ⟨rfl,o2,rfl⟩;rw[IG] at hx;obtain ⟨t,ht,rfl⟩:=IF.mp hx;have il:i<A.length:=by rw[<-r.1];exact (IC.mp ht).1
  have et:=r.2 i t _ ht (IA il);refine j9 (ok _ 452) λa b g _hi=>?_
  refine ip _hi λe a0 a1 b0 b1 _hj=>?_
  refine cA _hj λg0 g1=>?_
  rw[e] at et;refine (aG t _ _ _ (rfl,rfl,bg.of et,rfl,dT a0 (dT a1 (aG t _ _ _ (rfl,rfl,bg.of et,rfl,dT b0 (nF b1 ?_))))));exact (aG t _ _ _ (rfl,rfl,bg.of et,rfl,g,rfl,dF (by split<;>lia) (rfl,ν)))
 ·rintro σ H1 ⟨rfl,o2,rfl⟩;exact q
theorem Hs {dV:Value} (F:bv K "refuse_wrong_pairs" "refuse_wrong_pairs" Hg dV f fd):bq P w K mg base bj 1 f fd ["pairs","many"] pG:=by
 have sc:aE ["pairs","many","pair"] ["pairs","many"] (av Hg):=dk 47
 sleep 68
 refine j9 h λpl m B2 _hi=>?_
 refine dN _hi λ_r1 _r2 l3 _hj=>?_
 refine cA _hj λok q=>?_
 sleep 41;obtain ⟨as,el,r⟩:=_r2;exists _,(ah (aN (au gS 157 (dO rfl B.Kv) 154) 408 aB) (ak (aP 117 rfl 451 348 (ah (aN (cS (PW.pt (cK 482 (cp 482)))) 408 aB) (ak (aN (au cu 152 152 154) 408 aB))))))
 try dsimp only[cxK]
 sleep 28;have ll:(as.map V.ref).length=B2.length:=by rw[I0];exact r.1
 refine (aJ pl _ 415)
 refine (pl,rfl,334,aV (xs:=as.map V.ref) (λi σ H'=>H=H'/\∃o2:Option V,σ= [Lh pl,some 388,o2]) (rfl,none,rfl) (λi σ H' _ h=>by rw[<-h.1];exact aD.of el) ?_ ?_)
 ·rintro i y σ H1 hy ⟨rfl,o2,rfl⟩;obtain ⟨t,ht,rfl⟩:=cF hy;have il:i<B2.length:=by rw[<-r.1];exact (IC.mp ht).1
  have et:=r.2 i t _ ht (IA il);refine iO (ok _ 452) λa b _hi=>?_
  refine ip _hi λe a0 a1 b0 b1 ab=>?_
  rw[e] at et;refine (aG t _ _ _ (rfl,rfl,bg.of et,rfl,dT a0 (dT a1 (aG t _ _ _ (rfl,rfl,bg.of et,rfl,dT b0 (nF b1 ?_))))));exact (aG t _ _ _ (rfl,rfl,bg.of et,rfl,aG t _ _ _ (rfl,rfl,bg.of et,rfl,rfl,HW ab (rfl,ν))))
 ·rintro σ H1 ⟨rfl,o2,rfl⟩;exact q
theorem Hu {dV:Value} (F:bv K "__init__" "Net.__init__" Gp dV f fd) (DZ1:Dx P w K mg base bj 1 "points_of" ["net"] [] (kL Ix)) (DZ2:Dx P w K mg base bj 1 "copy_of_task" ["ways"] [] qH) (DZ3:Dx P w K mg base bj 2 "refuse_wrong_tools" ["tools"] [] pC) (DZ5:Dx P w K mg base bj 2 "refuse_wrong_tasks" ["tasks","tools"] [] pD) (DZ6:Dx P w K mg base bj 1 "refuse_wrong_arcs" ["arcs","points"] [] vJ) (DZ7:Dx P w K mg base bj 1 "refuse_wrong_pairs" ["pairs","many"] [] pG):bq P w K mg base bj 3 f fd ["self","tools","tasks","arcs","apart","moments"] (uP Ix):=by
 have sc:aE ["self","tools","tasks","arcs","apart","moments"] ["self","tools","tasks","arcs","apart","moments"] (av Gp):=dk 47
 sleep 68
 refine uV h λx dx td tl al v n D T _hi=>?_
 refine iO _hi λA B2 _hj=>?_
 refine ip _hj λ_r1 ex etd hT hA _hk=>?_
 refine iC _hk λhv ok q=>?_
 sleep 13;exists _,(ah (mN 118 (cM mW rfl B.KO m6 501) rfl) (ah (mN 118 (cQ (own:= "ways") (ys:= []) (js:= []) rfl 124 498 (λC fp s H=>(cj DZ2 hr 257))) rfl) (ah (mN 118 (cM cy rfl B.Ke boot_list 213) rfl) (ah (mN 118 (mK (au gK 163 bz 154) 146 (cM cy rfl B.Ke boot_list 264)) rfl) (ah (mN 118 193 rfl) (ah (bI (cj DZ3 hr 438)) (ah (bI (cj DZ5 hr (164<*>438))) (ah (aN (cS (cX dA dA ae 193 (dO rfl B.Kp))) 408 aB) (ah (bI (cj DZ6 hr (164<*>((cj DZ1 hr 257)<*>ac)))) (ak (bI (cj DZ7 hr (164<*>(206<*>ac))))))))))))))
 try dsimp only[cxK]
 refine GZ ?_;intro D' r9 r8 r7 r6 r5 r4 r3 r2 r1;sleep 0;refine (aJ td _ (rfl,etd,λtd' ntd=>?_))
 have g1:=af ntd 166;refine (aG x _ dx _ (rfl,g1 _ _ ex,B.Kb,B.Kd,by decide,?_))
 have e1:aK (aK H td' 166) x (.ins Ix dx 196) x=some (.ins Ix dx 196):=ag;have f1:Fx x H (aK (aK H td' 166) x (.ins Ix dx 196)):=(Fx.of g1).trans (Fx.put x _ _);have d1:aK (aK H td' 166) x (.ins Ix dx 196) td'=some (.dK (bM D)):=by
  rw[aQ (λz=>by rw[z,ex] at ntd;cases ntd)]
  exact ag
 generalize aK (aK H td' 166) x (.ins Ix dx 196)=H1 at e1 f1 d1⊢;obtain ⟨vs,el,rT⟩:=hT.fx ex f1;clear g1 ntd;refine (tl,rfl,334,cg fu (λa=>An a/\H1 a≠none) (λi=>T.getD i []) 305 (by rw[rT.1];have:=ok.t24;lia) (λa h=>h.2) 411 λp H2 np g2 hp=>?_)
 ·obtain ⟨ws,hw,hwl⟩:=rT.at_ hy;obtain ⟨l,rfl,_,lw⟩:=DX hwl;obtain ⟨w1,w2,w3⟩:=ok.ways ws (ID hw);rw[aL hw] at hQ;exact (bT l ws _ (rfl,lw.same g,w2,λp H4 g4 _ wf=>hQ _ _ g4 wf))
 rw[kP T [] rT.1] at hp;have hT2:=hp.any;have e2:=g2 _ _ e1;have d2:=g2 _ _ d1;have f2:Fx x H H2:=f1.trans (Fx.of g2);clear hp g2 np rT el;refine ⟨x,_,dx,ν,e2,B.Kb,B.Ka,by
  have:=bX "tools" 521 [];simp at*
  lia,?_⟩
 have e3:aK H2 x (.ins Ix dx 119) x=some (.ins Ix dx 119):=ag;have w3:Fx x H2 (aK H2 x (.ins Ix dx 119)):=Fx.put x H2 _;generalize aK H2 x (.ins Ix dx 119)=H3 at e3 w3⊢;have d3:=w3 _ _ (jN d2 e2 258) d2
 have hT3:=hT2.fx e2 w3;have f3:=f2.trans w3;clear d2 hT2 f2 w3 e2 e1 d1 f1;obtain ⟨bs,eal,rA⟩:=bn.fx hA ex f3;refine (aJ al _ (rfl,.inl (aD.of eal),λal' nal=>?_))
 have g4:=af nal (.lst 265);have hA4:bn (aK H3 al' (.lst 265)) al' A:=(bs,ag,rA.imp λa k q=>g4 _ _ q)
 have e4:=g4 _ _ e3;have d4:=g4 _ _ d3;have hT4:=hT3.same g4;have f4:=f3.trans (Fx.of g4);generalize aK H3 al' (.lst 265)=H4 at hA4 e4 d4 hT4 f4⊢;clear g4 nal d3 hT3 f3 rA eal e3;refine ⟨x,_,dx,ν,e4,B.Kb,B.Kj,by
  have:=bX "tools" 521 [];have:=bX "tasks" 181 196;simp at*
  lia,?_⟩
 have e5:aK H4 x (.ins Ix dx 216) x=some (.ins Ix dx 216):=ag;have w5:Fx x H4 (aK H4 x (.ins Ix dx 216)):=Fx.put x H4 _;generalize aK H4 x (.ins Ix dx 216)=H5 at e5 w5⊢;have d5:=w5 _ _ (jN d4 e4 258) d4
 have hT5:=hT4.fx e4 w5;have hA5:=hA4.fx e4 w5;have f5:=f4.trans w5;clear d4 hT4 hA4 f4 w5 e4;try dsimp only[cE,c9]
 refine cut (λσ H'=>∃pl':Addr,σ= [Lh x,Lh td,Lh tl,Lh al,some v,some (.int n)]/\H' x=some 393/\H' td'=some 166/\cU fu An H' p T/\bn H' al' A/\bn H' pl' B2/\Fx x H H') 232 ?_
 ·have fin:∀(cs:Lc) (pl':Addr),H5 pl'=none->dZ (λt k=>H5 t=some (.tup (k.map V.int))) cs B2->N [some (.ref x),some (.ref td),some (.ref tl),some (.ref al),some v,some (.int n)] (aK (aK H5 pl' 488) x 393):=λcs pl' npl rB=>by
   have g6:=af npl 488;have hB6:bn (aK H5 pl' 488) pl' B2:=(cs,ag,rB.imp λa k q=>g6 _ _ q)
   have e6:=g6 _ _ e5;have d6:=g6 _ _ d5;have hT6:=hT5.same g6;have hA6:=hA5.same g6;have f6:=f5.trans (Fx.of g6);generalize aK H5 pl' 488=H6 at hB6 e6 d6 hT6 hA6 f6⊢;have w7:Fx x H6 (aK H6 x 393):=Fx.put x H6 _;exact hN _ _ ⟨pl',rfl,ag,w7 _ _ (jN d6 e6 258) d6,hT6.fx e6 w7,hA6.fx e6 w7,hB6.fx e6 w7,f6.trans w7⟩
  rcases hv with ⟨rfl,rfl⟩|⟨pl,rfl,hB⟩
  ·refine (rfl,mB.i (dT rfl (by show 0<=sizeLine;decide,λpl' npl=>?_)))
   have l3:(bK "arcs" 522 119).length<1000:=by
    have:=bX "tools" 521 [];have:=bX "tasks" 181 196;have:=bX "arcs" 522 119;simp at*
    lia
   exact (aG x _ dx _ (rfl,af npl _ _ _ e5,B.Kb,B.Kh,l3,fin [] pl' npl dZ.nil))
  ·obtain ⟨cs,epl,rB⟩:=bn.fx hB ex f5;refine ⟨rfl,mB.i (dF 258 (aJ pl _ ⟨rfl,.inl (aD.of epl),λpl' npl=>?_⟩))⟩
   have l3:(bK "arcs" 522 119).length<1000:=by
    have:=bX "tools" 521 [];have:=bX "tasks" 181 196;have:=bX "arcs" 522 119;simp at*
    lia
   exact (aG x _ dx _ (rfl,af npl _ _ _ e5,B.Kb,B.Kh,l3,fin cs pl' npl rB))
 clear d5 hT5 hA5 f5 e5;intro σ H7 h_;refine dU h_ λpl' _hi=>?_
 refine ip _hi λ_r1 e7 d7 hT7 hA7 _hj=>?_
 refine cA _hj λhB7 f7=>?_
 sleep 27;have l4:(bK "apart" (.ref pl') 216).length<1000:=by
  have:=bX "tools" 521 [];have:=bX "tasks" 181 196;have:=bX "arcs" 522 119;have:=bX "apart" (.ref pl') 216;simp at*
  lia
 refine (aG x _ dx _ (rfl,e7,B.Kb,B.Kg,l4,?_));have e8:aK H7 x (.ins Ix dx 214) x=some (.ins Ix dx 214):=ag;have w8:Fx x H7 (aK H7 x (.ins Ix dx 214)):=Fx.put x H7 _;change L2.bb _ _ _ _ (aK H7 x (.ins Ix dx 214));generalize aK H7 x (.ins Ix dx 214)=H8 at e8 w8⊢;have d8:=w8 _ _ (jN d7 e7 258) d7
 have hT8:=hT7.fx e7 w8;have hA8:=hA7.fx e7 w8;have hB8:=hB7.fx e7 w8;have f8:=f7.trans w8;clear d7 hT7 hA7 hB7 f7 w8 e7;obtain ⟨k1,k2,k3,k4,k5⟩:=AS (td:= .ref td') (tl:= .ref p) (al:= .ref al') (pl:= .ref pl') (n:= .int n);have N8:gM Ix false H8 x D T A B2 n:=(dx,td',p,al',pl',_,e8,k1,k2,k3,k4,k5,.inl d8,hT8,hA8,hB8);refine (aG x _ dx _ (_,(rfl,e8,B.Kb,B.Kd,k1,aJ td' D (rfl,d8,ok.d12,ok.tool,λH9 g9=>?_))))
 refine (aG x _ dx _ (_,(rfl,(g9 _ _ e8),B.Kb,B.Ka,k2,aG x _ dx _ (_,(rfl,(g9 _ _ e8),B.Kb,B.Kd,k1,aG p td' D T (rfl,hT8.same g9,g9 _ _ d8,ok.t24,ok.ways,λH10 g10=>?_))))))
 have g:=g9.trans g10;refine (dT ok.n0 (nF ok.n8 ?_));refine (aG x _ dx _ (_,(rfl,(g _ _ e8),B.Kb,B.Kj,k3,eX x n false D T A (B2,(rfl,N8.same g,bT al' _ A (rfl,hA8.same g,ok.a600,ok.arcs,?_))))));obtain ⟨ps,ep8,rp8⟩:=hT8.same g;refine (aG x _ dx _ (_,(rfl,(g _ _ e8),B.Kb,B.Kh,k4,aG x _ dx _ (_,(rfl,(g _ _ e8),B.Kb,B.Ka,k2,aJ p _ (rfl,.inl (aD.of ep8),bT pl' _ B2 (rfl,hB8.same g,ok.b300,λk hk=>?_,?_)))))))
 ·rw[rp8.1];exact ok.pairs k hk
 exact q _ (f8.trans (Fx.of g)) (N8.same g)
theorem Hv {dV:Value} (F:bv K "use_in" "use_in" Hh dV f fd):bq P w K mg base bj 1 f fd ["way","tool"] mD:=by
 have sc:aE ["way","tool","use"] ["way","tool"] (av Hh):=dk 47
 sleep 68
 refine fT h λv z w P0 _hi=>?_
 refine dN _hi λ_r1 _r2 q1 q0=>?_
 sleep 66;obtain ⟨t,u,rfl,_,_,et,us,eu,ru⟩:=_r2;exists _,(ah (aP 117 rfl (aI 140) 348 (ak (aN (au cu 152 129 154) 313 aB))) 243)
 try dsimp only[cxK]
 sleep 28;refine (aG t _ _ _ (rfl,rfl,bg.of et,rfl,u,rfl,484,aV (xs:=us) (λi σ H'=>H=H'/\(∃o2:Option V,σ= [Lh t,some 456,o2])/\∀(j:Nat) (e:Us),j<i->w.2.2[j]?=some e->e.1≠z) (rfl,(none,rfl),λj e h=>absurd h 78) 352 ?_ ?_))
 ·rintro i y σ H1 hy ⟨rfl,⟨o2,rfl⟩,hn⟩;obtain ⟨e,he,a,rfl,pa,ea⟩:=ru.at_ hy;refine (aG a _ _ _ (rfl,rfl,bg.of ea,rfl,rfl,d2 217 217))
  ·exact (q1 e a (qJ (us:=w.2.2) he (by injection c) hn) pa ea)
  ·refine (rfl,⟨ν⟩,λj e' hj he'=>?_)
   rcases JV.mp hj with h|h
   ·exact hn j e' h he'
   ·subst h;rw[he] at he';cases he';exact λz=>c (by rw[z])
 ·rintro σ H1 ⟨rfl,⟨o2,rfl⟩,hn⟩;exact q0 (A0 λj e he=>hn j e (by rw[ru.1];exact (IC.mp he).1) he)
theorem EN {dV:Value} (F:bv K "is_plan" "is_plan" Cy dV f fd):bq P w K mg base bj 1 f fd ["net","plan"] (pK Ix):=by
 have sc:aE ["net","plan","run","ways"] ["net","plan"] (av Cy):=dk 47
 sleep 68
 sleep 111
 sleep 46
 sleep 58
 sleep 110
 sleep 13;exists _,(ah (aN (PW.pt (fr (au eZ 316 206 154) (dY (au eZ 316 164 154)))) 155 aB) (ah (aP 117 rfl (uv rfl B.KN (143<*>438)) (cT rfl (aH 348 (aH 331 ca))) (ak (aN (cS (cX dA dS ae 152 309)) 155 aB))) 155))
 try dsimp only[cxK]
 sleep 9;sleep 0;sleep 38
 sleep 7
 sleep 49
 sleep 11;have lr:(bs.map V.ref).length=vs.length:=by rw[I0,rR.1,I0,N.pok.len,rT.1]
 refine (aG t _ _ _ (rfl,rfl,bg.of et,rfl,aJ rl _ (rfl,.inl (aD.of er),aG x _ dx _ (_,(rfl,e0,B.Kb,B.Ka,l2,aJ tl _ (rfl,.inl 305,rfl,GQ (by rw[lr]) ?_))))))
 refine (aG t _ _ _ (rfl,rfl,bg.of et,rfl,aJ ml _ (rfl,.inl (aD.of em),aG x _ dx _ (_,(rfl,e0,B.Kb,B.Kg,l5,rfl,GQ (by rw[I0]) ?_)))))
 refine (aG t _ _ _ (rfl,rfl,bg.of et,rfl,aG x _ dx _ (_,(rfl,e0,B.Kb,B.Ka,l2,aJ rl tl (rfl,(_,aD.of er),334,vE (xs:=bs.map V.ref) (ys:=vs) (λi σ H'=>aC H H'/\∃o2 o3:Option V,σ= [Lh x,Lh t,o2,o3]) 327 (λi σ H' _ h=>(aD.of (h.1 _ _ er),aD.of (h.1 _ _ el))) ?_ ?_)))))
 ·rintro i y z σ H1 T' hy hz ⟨g1,o2,o3,rfl⟩ nT;sleep 34;obtain ⟨r,hr',eb⟩:=iU rR hb;refine dU (rT.at_ hz) λws _hi=>?_
  refine cA _hi λhT _hj=>?_
  refine dU _hj λwl _hk=>?_
  sleep 127
  refine dU _hl λts _hm=>?_
  refine cA _hm λew rw'=>?_
  sleep 109;have pk:=N.pok.way i r _ hr' hT;have g2:=g1.trans (af nT (.tup [.ref b,.ref wl]));sleep 12;refine (aG b _ _ _ (rfl,rfl,bg.of (g2 _ _ eb),rfl,dT pk.1 (aJ wl _ (rfl,.inl (aD.of (g2 _ _ ew)),nF (by rw[rw'.1];exact pk.2) (g2,aJ _ _ rfl)))))
 ·rintro σ H1 ⟨g1,o2,o3,rfl⟩;exact q _ g1
theorem EO {dV:Value} (F:bv K "time_of" "time_of" Cz dV f fd):bq P w K mg base bj 1 f fd ["plan","point"] ng:=by
 have sc:aE ["plan","point","moment"] ["plan","point"] (av Cz):=dk 47
 sleep 68
 refine fT h λt p R M _hi=>?_
 refine dU _hi λv _hj=>?_
 refine dN _hj λ_r1 _r2 p0 _hk=>?_
 refine cA _hk λev q=>?_
 sleep 13;obtain ⟨rl,ml,et,⟨bs,er,rR⟩,em⟩:=_r2;exists _,(ah (cO 2 sc (am fR 129 (am aZ ae 229))) (ah (aN (au yj 127 ae 154) (ak (aw (ao aM 140 127 36))) aB) (ak (aw (ao aA (ao aM 140 (am aX 129 ae) 36) (am aR 129 ae) 36)))))
 try dsimp only[cxK]
 sleep 9;sleep 40
 refine (aG t _ _ _ (rfl,rfl,bg.of et,rfl,aJ rl _ (rfl,.inl (aD.of er),126 41,?_)))
 refine (d2 217 217)
 ·exact (aG t _ _ _ (rfl,rfl,bg.of et,rfl,aG ml _ _ _ (rfl,rfl,aD.of em,AV lr c ev,q)))
 ·obtain ⟨i,r,e1,e2,e3⟩:=AU p0 (by rw[lr] at c;lia) ev
  obtain ⟨b,hb,eb⟩:=run_get rR e2;exact (aG t _ _ _ (rfl,rfl,bg.of et,rfl,135,aG rl _ _ _ (rfl,rfl,aD.of er,by rw[e1];exact aS (bY hb),224,aG b _ _ _ (rfl,rfl,bg.of eb,e3,q))))
theorem EQ {dV:Value} (F:bv K "runs_meet" "runs_meet" CA dV f fd):bq P w K mg base bj 1 f fd ["one","other"] kO:=by
 have sc:aE ["one","other"] ["one","other"] (av CA):=dk 47
 sleep 68
 refine fT h λt u r s2 _hi=>?_
 refine dN _hi λ_r1 et eu q=>?_
 sleep 66;exists _,(ak (aw (ql (dP dS 140 143 154) (ki (dP dS 143 140 154)))))
 try dsimp only[cxK]
 refine (aG t _ _ _ (rfl,rfl,bg.of et,rfl,aG u _ _ _ (rfl,rfl,bg.of eu,rfl,d2 (λc=>(aG u _ _ _ (rfl,rfl,bg.of eu,rfl,aG t _ _ _ 414))) 217)))
 ·have e:cq r s2=decide (s2.1<r.2.1):=by unfold cq;rw[decide_eq_true c,JU]
  sleep 139
 ·have e:cq r s2=false:=by unfold cq;rw[decide_eq_false c,Jg]
  sleep 139
theorem ER {dV:Value} (F:bv K "goes_on" "goes_on" CB dV f fd):bq P w K mg base bj 1 f fd ["run","turn"] sN:=by
 have sc:aE ["run","turn"] ["run","turn"] (av CB):=dk 47
 sleep 68
 obtain ⟨t,r,n,rfl,et,q⟩:=h;exists _,(ak (aw (yn dA dS 140 129 140)))
 try dsimp only[cxK]
 refine (aG t _ _ _ (rfl,rfl,bg.of et,rfl,d2 (λc=>(aG t _ _ _ 414)) 217))
 ·have e:bZ r n=decide (n<r.2.1):=by unfold bZ;rw[decide_eq_true c,JU]
  sleep 139
 ·have e:bZ r n=false:=by unfold bZ;rw[decide_eq_false c,Jg]
  sleep 139
theorem ES {dV:Value} (F:bv K "use_of" "use_of" CC dV f fd) (DZ9:Dx P w K mg base bj 1 "use_in" ["way","tool"] [] mD):bq P w K mg base bj 2 f fd ["net","plan","task","tool"] (qI Ix):=by
 have sc:aE ["net","plan","task","tool"] ["net","plan","task","tool"] (av CC):=dk 47
 sleep 68
 refine fT h λx t i z _hi=>?_
 refine dU _hi λH0 _hj=>?_
 refine iC _hj λ_r1 g _hk=>?_
 refine dR _hk λD T A B2 R M _hl=>?_
 refine dN _hl λN il q1 q0=>?_
 sleep 33;exists _,(ak (aw (cj DZ9 hr ((ao aM (ao aM 164 127 36) (ao aA 447 ae 36) 36)<*>213))))
 try dsimp only[cxK]
 sleep 38
 sleep 7
 sleep 49
 sleep 11;refine dR (uQ rT rR N.pok il) λwl b ts v r j _hi=>?_
 refine jH _hi λhw ew hv rw' hb eb hr' hj _=>?_
 refine (aG x _ dx _ (_,(rfl,(g _ _ e0),B.Kb,B.Ka,l2,aG tl _ _ _ (rfl,rfl,aD.of (g _ _ el),(aS hw),aG t _ _ _ (rfl,rfl,bg.of (g _ _ et),rfl,aG rl _ _ _ (rfl,rfl,aD.of (g _ _ er),(aS (bY hb)),aG b _ _ _ (rfl,rfl,bg.of (g _ _ eb),rfl,aG wl _ _ _ (rfl,rfl,aD.of (g _ _ ew),(by rw[hj];exact aS hv),aG v z _ _ (rfl,dJ (DX rw') g,λu a hu ha ea=>q1 u a hu ?_,q0)))))))))
 cases e:H0 a with
 |none=>exact absurd e ha.2
 |some o=>
  have:=g _ _ e;rw[ea] at this;cases this
  rfl
theorem ET {dV:Value} (F:bv K "breaches_of_turns" "breaches_of_turns" CD dV f fd):bq P w K mg base bj 1 f fd ["net","plan"] (fZ Ix λT A B R M=>fD T R T.length):=by
 have sc:aE ["net","plan","told","i","run","way"] ["net","plan"] (av CD):=dk 47
 sleep 68
 sleep 111
 sleep 46
 sleep 58
 sleep 110
 sleep 13;exists _,(ah 402 (ah (aP 117 rfl (jc rfl B.Kf (143<*>ac)) (cT rfl 178) (ah (cO 5 sc (ao aM (ao aM 164 147 36) 137 36)) (ak (aN (PW.pt (fr (au dS 137 ae 154) (dY (cS (cX dA dA (ao aA 193 ae 36) (am fR 137 137) (ao aA 193 ae 36)))))) 279 aB)))) 313))
 try dsimp only[cxK]
 sleep 9;sleep 0;sleep 38
 sleep 7
 sleep 49
 sleep 11;sleep 39
 have g0:=af nl 149;have lr:(bs.map V.ref).length=T.length:=by rw[I0,rR.1,I0,N.pok.len]
 refine (aG t _ _ _ (rfl,rfl,bg.of (g0 _ _ et),rfl,rl,rfl,(_,aD.of (g0 _ _ er)),gY (xs:=bs.map V.ref) (λi σ H'=>∃o3 o4 o5:Option V,σ= [Lh x,Lh t,Lh l,o3,o4,o5]/\aC H H'/\ToldN H H' l ([]++fD T R i)) (bT none none none (rfl,g0,cU.new)) (λi σ H' _ (_,_,_,_,g,_)=>aD.of (g _ _ er)) ?_ ?_))
 ·rintro i y σ H1 T' hy ⟨o3,o4,o5,rfl,g1,cs,ec,rc⟩ nT;have il:i<R.length:=by
   have:=(IC.mp hy).1;rw[lr,<-N.pok.len] at this;exact this
  refine dR (uQ rT rR N.pok il) λwl b ts v r j _hi=>?_
  refine jH _hi λhw ew hv rw' hb eb hr' hj hd=>?_
  obtain ⟨b',hb',rfl⟩:=cF hy;rw[hb] at hb';cases hb';obtain ⟨tw,uw,rfl,_,_,ev,_⟩:=rw';have t24:=N.ok.t24;have pl':=N.pok.len;have bad:sJ T R i=decide (r.1<0∨¬((bS T R i).1<=r.2.1-r.1/\r.2.1-r.1<=(bS T R i).2.1)):=by
   simp only[sJ,hd]
  generalize bS T R i=wy at ev bad;sleep 59
  have eb2:=g2 _ _ eb;have ev2:=g2 _ _ ev;have sz:cs.length<sizeLine:=by
   rw[rc.1];have:=db i (sJ T R) λi=> [V.str "turns",.int (i:Nat)]
   show (fD T R i).length<_;unfold fD
   lia
  sleep 12;generalize aK H1 T' 278=H2 at g2 ec2 rc2 eb2 ev2⊢;refine (aG x _ dx _ (_,(rfl,(g2 _ _ e0),B.Kb,B.Ka,l2,aG tl _ _ _ (rfl,rfl,aD.of (g2 _ _ el),(aS hw),aG b _ _ _ (rfl,rfl,bg.of eb2,rfl,aG wl _ _ _ (rfl,rfl,aD.of (g2 _ _ ew),(by rw[hj];exact aS hv),?_))))))
  refine (aG b _ _ _ (rfl,rfl,bg.of eb2,rfl,d2 217 217))
  ·exact dy (.inl (rfl,_,aD.of ec2),by show 2<=sizeLine;decide,λa na=>(bT l _ _ (rfl,rfl,af na _ _ _ ec2,sz,bT _ _ _ (rfl,nR (pre:= []) nl g2 ec2 rc2 (by rw[bad];exact decide_eq_true (.inl c)) na rfl))))
  ·refine (aG tw _ _ _ (rfl,rfl,bg.of ev2,rfl,aG b _ _ _ (rfl,rfl,bg.of eb2,rfl,aG b _ _ _ (rfl,rfl,bg.of eb2,rfl,d2 344 344))))
   ·refine (aG tw _ _ _ (rfl,rfl,bg.of ev2,rfl,n2 255 255))
    ·exact (.inl (rfl,_,aD.of ec2),by show 2<=sizeLine;decide,λa na=>(bT l _ _ (rfl,rfl,af na _ _ _ ec2,sz,bT _ _ _ (rfl,nR (pre:= []) nl g2 ec2 rc2 (by rw[bad];exact decide_eq_true (.inr λz=>c2 z.2)) na rfl))))
    ·exact (bT _ _ _ (rfl,g2,zc (pre:= []) (cs,ec2,rc2) (by rw[bad];exact decide_eq_false 78)))
   ·exact ((.inl (rfl,_,aD.of ec2),by show 2<=sizeLine;decide,λa na=>(bT l _ _ (rfl,rfl,af na _ _ _ ec2,sz,bT _ _ _ (rfl,nR (pre:= []) nl g2 ec2 rc2 (by rw[bad];exact decide_eq_true (.inr λz=>c1 z.1)) na rfl)))))
 ·rintro σ H1 ⟨o3,o4,o5,rfl,g1,br⟩;rw[lr] at br;exact (q l H1 g1 nl br)
theorem EU {dV:Value} (F:bv K "breaches_of_arcs" "breaches_of_arcs" CF dV f fd) (DZ11:Dx P w K mg base bj 1 "time_of" ["plan","point"] [] ng):bq P w K mg base bj 2 f fd ["net","plan"] (fZ Ix λT A B R M=>iI A R M A.length):=by
 have sc:aE ["net","plan","told","k","arc"] ["net","plan"] (av CF):=dk 47
 sleep 68
 sleep 111
 sleep 46
 sleep 58
 sleep 110
 sleep 13;exists _,(ah 402 (ah (aP 117 rfl (jc rfl B.Kf 438) (cT rfl 178) (ak (aN (au dS (am fR (cj DZ11 hr (129<*>(137<*>ac))) (cj DZ11 hr (129<*>(137<*>ac)))) 137 154) 279 aB))) 313))
 try dsimp only[cxK]
 sleep 9;sleep 0;sleep 38
 sleep 7
 sleep 49
 sleep 11;sleep 39
 have g0:=af nl 149;obtain ⟨ks,ea,rA⟩:=hA;have lr:(ks.map V.ref).length=A.length:=by rw[I0,rA.1]
 refine (aG x _ dx _ (_,(rfl,(g0 _ _ e0),B.Kb,B.Kj,l3,al,rfl,(_,aD.of (g0 _ _ ea)),gY (xs:=ks.map V.ref) (λi σ H'=>∃o3 o4:Option V,σ= [Lh x,Lh t,Lh l,o3,o4]/\aC H H'/\ToldN H H' l ([]++iI A R M i)) (aJ none none (rfl,g0,cU.new)) (λi σ H' _ (_,_,_,g,_)=>aD.of (g _ _ ea)) ?_ ?_)))
 ·rintro i y σ H1 T' hy ⟨o3,o4,rfl,g1,cs,ec,rc⟩ nT;sleep 34;have il:i<A.length:=by rw[<-rA.1];exact (IC.mp hb).1
  have hA:=IA il;have eb:=rA.2 i b _ hb hA;refine j9 (N.ok.arcs _ 452) λp p' gg _hi=>?_
  refine ip _hi λek p0 p1 q0 q1 _=>?_
  have a600:=N.ok.a600;rw[ek] at eb hA;have sl':177=2*121+M.length:=by rw[eQ,N.pok.len];lia
  have hp:=IA (show p.toNat<(aT R M).length by lia)
  have hq:=IA (show p'.toNat<(aT R M).length by lia)
  generalize (aT R M)[p.toNat]'_=v at hp;generalize (aT R M)[p'.toNat]'_=v' at hq;have bad:AT A 403 i=decide (v'-v<gg):=by
   unfold AT;rw[aL hA];show decide ((aT R M).getD p'.toNat 0-(aT R M).getD p.toNat 0<gg)=_;rw[aL hp,aL hq]
  sleep 59
  have eb2:=g2 _ _ eb;have sz:cs.length<sizeLine:=by
   rw[rc.1];have:=db i (AT A 403) λi=> [V.str "arc",.int (i:Nat)]
   show (iI A R M i).length<_;unfold iI
   lia
  sleep 12;generalize aK H1 T' 278=H2 at g2 ec2 rc2 eb2⊢;have P2:=N.plan.same g2;refine (aG b _ _ _ (rfl,rfl,bg.of eb2,rfl,aG t _ R M (v',(rfl,P2,q0,hq,aG b _ _ _ (rfl,rfl,bg.of eb2,rfl,aG t _ R M (v,(rfl,P2,p0,hp,aG b _ _ _ (rfl,rfl,bg.of eb2,rfl,d2 217 217))))))))
  ·exact (.inl (rfl,_,aD.of ec2),by show 2<=sizeLine;decide,λa na=>(bT l _ _ (rfl,rfl,af na _ _ _ ec2,sz,aJ _ _ (rfl,nR (pre:= []) nl g2 ec2 rc2 (by rw[bad];exact decide_eq_true c) na rfl))))
  ·exact (aJ _ _ (rfl,g2,zc (pre:= []) (cs,ec2,rc2) (by rw[bad];exact decide_eq_false c)))
 ·rintro σ H1 ⟨o3,o4,rfl,g1,br⟩;rw[lr] at br;exact (q l H1 g1 nl br)
theorem EV {dV:Value} (F:bv K "breaches_of_apart" "breaches_of_apart" CG dV f fd) (DZ12:Dx P w K mg base bj 1 "runs_meet" ["one","other"] [] kO):bq P w K mg base bj 2 f fd ["net","plan"] (fZ Ix λT A B R M=>fS B R B.length):=by
 have sc:aE ["net","plan","told","k","pair"] ["net","plan"] (av CG):=dk 47
 sleep 68
 sleep 111
 sleep 46
 sleep 58
 sleep 110
 sleep 13;exists _,(ah 402 (ah (aP 117 rfl (jc rfl B.Kf 438) (cT rfl 178) (ak (aN (c5 (cj DZ12 hr ((ao aM 143 137 36)<*>((ao aM 143 137 36)<*>ac)))) 279 aB))) 313))
 try dsimp only[cxK]
 sleep 9;sleep 0;sleep 38
 sleep 7
 sleep 49
 sleep 11;sleep 39
 have g0:=af nl 149;obtain ⟨ks,ea,rA⟩:=hB;have lr:(ks.map V.ref).length=B2.length:=by rw[I0,rA.1]
 refine (aG x _ dx _ (_,(rfl,(g0 _ _ e0),B.Kb,B.Kh,l4,pl,rfl,(_,aD.of (g0 _ _ ea)),gY (xs:=ks.map V.ref) (λi σ H'=>∃o3 o4:Option V,σ= [Lh x,Lh t,Lh l,o3,o4]/\aC H H'/\ToldN H H' l ([]++fS B2 R i)) (aJ none none (rfl,g0,cU.new)) (λi σ H' _ (_,_,_,g,_)=>aD.of (g _ _ ea)) ?_ ?_)))
 ·rintro i y σ H1 T' hy ⟨o3,o4,rfl,g1,cs,ec,rc⟩ nT;sleep 34;have il:i<B2.length:=by rw[<-rA.1];exact (IC.mp hb).1
  have hA:=IA il;have eb:=rA.2 i b _ hb hA;refine iO (N.ok.pairs _ 452) λp p' _hi=>?_
  refine ip _hi λek p0 p1 q0 q1 _=>?_
  have b300:=N.ok.b300;rw[ek] at eb hA;have lR:=N.pok.len;have hp:=IA (show p.toNat<R.length by lia)
  have hq:=IA (show p'.toNat<R.length by lia)
  obtain ⟨a1,h1,e1⟩:=run_get rR hp;obtain ⟨a2,h2,e2⟩:=run_get rR hq;generalize R[p.toNat]'_=v at hp e1;generalize R[p'.toNat]'_=v' at hq e2;have bad:AY B2 R i=cq v v':=by
   unfold AY;rw[aL hA];show cq (R.getD p.toNat 125) (R.getD p'.toNat 125)=_;rw[aL hp,aL hq]
  sleep 59
  have eb2:=g2 _ _ eb;have sz:cs.length<sizeLine:=by
   rw[rc.1];have:=db i (AY B2 R) λi=> [V.str "apart",.int (i:Nat)]
   show (fS B2 R i).length<_;unfold fS
   lia
  sleep 12;generalize aK H1 T' 278=H2 at g2 ec2 rc2 eb2⊢;have ap:io 265 p=some (.ref a1):=by
   have:p=((p.toNat:Nat):Int):=by lia
   rw[this];exact aS (bY h1)
  have aq:io 265 p'=some (.ref a2):=by
   have:p'=((p'.toNat:Nat):Int):=by lia
   rw[this];exact aS (bY h2)
  refine (aG t _ _ _ (rfl,rfl,bg.of (g2 _ _ et),rfl,aG b _ _ _ (rfl,rfl,bg.of eb2,rfl,aG rl _ _ _ (rfl,rfl,aD.of 361,ap,aG t _ _ _ (rfl,rfl,bg.of (g2 _ _ et),rfl,aG b _ _ _ (rfl,rfl,bg.of eb2,rfl,aG rl _ _ _ (rfl,rfl,aD.of 361,aq,aG a1 a2 v v' (rfl,g2 _ _ e1,g2 _ _ e2,mB.i ?_))))))));cases hm:cq v v' with
  |true=>exact dy ⟨.inl ⟨rfl,_,aD.of ec2⟩,by show 2<=sizeLine;decide,λa na=>(bT l _ _ ⟨rfl,rfl,af na _ _ _ ec2,sz,aJ _ _ ⟨rfl,nR (pre:= []) nl g2 ec2 rc2 (by rw[bad];exact hm) na rfl⟩⟩)⟩
  |false=>exact df (aJ _ _ ⟨rfl,g2,zc (pre:= []) ⟨cs,ec2,rc2⟩ (by rw[bad];exact hm)⟩)
 ·rintro σ H1 ⟨o3,o4,rfl,g1,br⟩;rw[lr] at br;exact (q l H1 g1 nl br)
theorem EW {dV:Value} (F:bv K "in_use" "in_use" CH dV f fd) (DZ13:Dx P w K mg base bj 1 "goes_on" ["run","turn"] [] sN) (DZ14:Dx P w K mg base bj 2 "use_of" ["net","plan","task","tool"] [] (qI Ix)):bq P w K mg base bj 3 f fd ["net","plan","tool","turn"] (vS Ix):=by
 have sc:aE ["net","plan","tool","turn","total","i","run","use"] ["net","plan","tool","turn"] (av CH):=dk 47
 sleep 68
 refine fT h λx t z n _hi=>?_
 sleep 46
 sleep 58
 sleep 110
 sleep 13;exists _,(ah (cO 4 sc ae) (ah (aP 117 rfl (jc rfl B.Kf (143<*>ac)) (cT rfl (aH 347 (aH (cP 6 sc) ca))) (ah (cO 7 sc (cj DZ14 hr (118<*>(129<*>(193<*>194))))) (ak (aN (PW.pt (cK (au gD 346 bz 154) (cp (c5 (cj DZ13 hr (322<*>213)))))) (ak (yg (i:=4) sc.nd rfl (Or.inl rfl) (ao aA 346 ae 36) yh)) aB)))) (ak (aw 163))))
 try dsimp only[cxK]
 sleep 9;sleep 0;sleep 38
 sleep 7
 sleep 49
 sleep 11;sleep 40
 refine (aG t _ _ _ (rfl,rfl,bg.of et,rfl,rl,rfl,(_,aD.of er),gY (xs:=bs.map V.ref) (λi σ H'=>∃o5 o6 o7:Option V,σ= [Lh x,Lh t,some 456,some (.int n),some (.int (cv T R z n i)),o5,o6,o7]/\aC H H') (bT none none none (rfl,.refl _)) (λi σ H' _ (_,_,_,_,g)=>aD.of (g _ _ er)) ?_ ?_))
 ·rintro i y σ H1 T' hy ⟨o5,o6,o7,rfl,g1⟩ nT';sleep 34;obtain ⟨r,hr',eb⟩:=iU rR hb;have il:=(IC.mp hr').1;have g2:=g1.trans (af nT' 278);sleep 12;generalize aK H1 T' 278=H2 at g2⊢;have us:cv T R z n 301=cv T R z n i+(if bZ r n=true then bf 174 z else 0):=by
   show cv T R z n i+(if bZ 173 n=true then bf 174 z else 0)=_
   rw[aL hr']
  refine (aG x t i z (H,(rfl,g2,eX D T A B2 R M (N,il,λu a hu ha=>?_,λhn=>?_))))
  ·refine (rfl,mB.i (nT nofun (bT b r n (rfl,g2 _ _ eb,mB.i ?_))));rw[hW hu] at us;cases hg:bZ r n with
   |true=>
    rw[hg,if_pos rfl] at us;exact dy (aG a _ _ _ (rfl,rfl,bg.of (g2 _ _ ha),rfl,bT _ _ _ (by rw[us];rfl,g2)))
   |false=>
    rw[hg,if_neg 41,Int.add_zero] at us
    exact df (bT _ _ _ (by rw[us];rfl,g2))
  ·rw[hV hn] at us;have us':cv T R z n 301=cv T R z n i:=by rw[us];split<;>lia
   exact (rfl,mB.i (nF rfl (bT _ _ _ (by rw[us'];rfl,g2))))
 ·rintro σ H1 ⟨o5,o6,o7,rfl,g1⟩;rw[lr];exact (q _ g1)
theorem EX {dV:Value} (F:bv K "breaches_of_tool" "breaches_of_tool" CI dV f fd) (DZ18:Dx P w K mg base bj 3 "in_use" ["net","plan","tool","turn"] [] (vS Ix)):bq P w K mg base bj 4 f fd ["net","plan","tool"] (vT Ix):=by
 have sc:aE ["net","plan","tool","begins","many"] ["net","plan","tool"] (av CI):=dk 47
 sleep 68
 refine j9 h λx t z _hi=>?_
 sleep 46
 sleep 58
 refine iC _hk λN hz q=>?_
 sleep 13;exists _,(ah (cO 3 sc (sF rfl rfl B.Km rfl B.KK PyProof.Rows.Boot.«sorted» PyProof.Rows.Boot.«set» (cQ (own:= "run") (ys:= []) (js:= []) rfl 124 (aI 143) 288))) (ah (fQ (i:=4) sc.nd rfl 252 (i9 505 164 127 36)) (ak (aw (oW (own:= "turn") (ys:= ["many","net","plan","tool"]) (js:= [4,0,1,2]) rfl (cok (gG (gG (gG (gG gR)))) (.cons rfl (.cons rfl (.cons rfl 371))) 41 rfl rfl rfl rfl rfl rfl rfl rfl) (aI 147) (λC fp s H=>(au gS (cj DZ18 hr (127<*>(147<*>(163<*>257)))) 129 154)) (λC fp s H=>(@bc _ _ _ _ _ (bW<*>(163<*>257)))))))))
 try dsimp only[cxK]
 sleep 9;sleep 0;sleep 38
 sleep 7
 sleep 49
 sleep 11;sleep 40
 have r24:R.length<=24:=by rw[N.pok.len];exact N.ok.t24
 refine (aG t _ _ _ (rfl,rfl,bg.of et,rfl,rl,rfl,(_,aD.of er),cg 284 160 (λi=>(R.getD i 125).1) (aD.of er) 78 142 411 λp H1 np g1 hp=>?_))
 ·sleep 34;obtain ⟨r,hr',eb⟩:=iU rR hb;rw[aL hr'] at hQ;exact (aG b _ _ _ (rfl,rfl,bg.of (g _ _ eb),rfl,hQ _ _ 170 rfl))
 obtain ⟨ps,ep,rp⟩:=hp;have e1:(Ip (bs.map V.ref).length).map (λi=>(R.getD i 125).1)=R.map (·.1):=by
  conv=>rhs;rw[<-cG R 125,IW,<-lr]
  rfl
 rw[e1] at rp;rw[rp.val] at ep;refine (aJ p (R.map 201) (rfl,aD.of ep,by rw[I0];lia,?_,λp2 ys np2 nd mem pw=>?_))
 ·have:=gN (R.map 201) [];rw[I0] at this;simp at this⊢
  lia
 have ey:ys=nP R:=AZ nd mem pw;subst ey;have g2:=g1.trans (af np2 (.lst ((nP R).map V.int)));have e2:aK H1 p2 (.lst ((nP R).map V.int)) p2=some (.lst ((nP R).map V.int)):=ag;generalize aK H1 p2 (.lst ((nP R).map V.int))=H2 at g2 e2⊢;obtain ⟨m,hm⟩:=nJ hz;have dg:=kQ (ed.same g2).rd hm;refine (aG x _ dx _ (_,(rfl,(g2 _ _ e0),B.Kb,B.Kd,l1,aJ td _ (rfl,dg,?_))));have lb:(nP R).length<=R.length:=by
  have:=nO (R.map 201)
  rwa [I0] at this
 refine (p2,rfl,(_,aD.of e2),jd Aj 160 (λi=>decide ((c6 D z).getD 0<cv T R z ((nP R).getD i 0) R.length)) (λi=> [.str "tool",.str z,.int ((nP R).getD i 0)]) (aD.of e2) 218 142 (λi y hy H3 g3 S' hS=>?_) (λi y hy _ H3 g3 Q' hQ=>?_) λl H' nl g3 hl=>?_)
 ·rw[IG] at hy;obtain ⟨n,hn,rfl⟩:=IF.mp hy;rw[aL hn,hm] at hS;exact (aG x t z n (rfl,eX D T A B2 R M (N.same 446,λH4 g4=>(hS _ g4))))
 ·rw[IG] at hy;obtain ⟨n,hn,rfl⟩:=IF.mp hy;rw[aL hn] at hQ;exact (by show 3<=sizeLine;decide,λa na=>hQ _ _ (af na _) (a,rfl,.inl na,ag))
 ·rw[I0] at hl;exact q l H' 446 (g2.free nl) (hl.mono λa h=>(h.1,g2.free (h.2.elim id λz=>z.elim)))
theorem EY {dV:Value} (F:bv K "breaches_of_heat" "breaches_of_heat" CJ dV f fd) (DZ12:Dx P w K mg base bj 1 "runs_meet" ["one","other"] [] kO) (DZ14:Dx P w K mg base bj 2 "use_of" ["net","plan","task","tool"] [] (qI Ix)):bq P w K mg base bj 3 f fd ["net","plan","tool"] (vU Ix):=by
 have sc:aE ["net","plan","tool","told","uses","users","place","i","j"] ["net","plan","tool"] (av CJ):=dk 47
 sleep 68
 refine j9 h λx t z _hi=>?_
 sleep 46
 sleep 58
 sleep 110
 sleep 13;exists _,(ah (cO 3 sc 146) (ah (fQ (i:=4) sc.nd rfl 252 (jV (hd:=none) (own:= "i") (ys:= ["net","plan","tool"]) (js:= [0,1,2]) hr.hd 148 (gX rfl B.Kc (316<*>ac)) (λC fp s H=>(cj DZ14 hr (129<*>(127<*>(118<*>213))))))) (ah (fY sc.nd (i:=5) rfl rfl (own:= "i") (ys:= ["uses"]) (js:= [4]) rfl 120 (bJ rfl B.Kc ((ay ar rfl B.IO boot_len 264)<*>ac)) (λC fp s H=>(au gD (ao 395 129 118 36) bz 154)) (λC fp s H=>118)) (ah (aP 117 rfl (jc rfl B.Kf 376) (cT rfl (aH (cP 6 sc) (aH (cP 7 sc) ca))) (ak (aP 117 rfl (aI (bu ce 193 (bH (am aW 322 ae)) bO)) (cP 8 sc) (ak (aN (PW.pt (cK (au eZ (ao aA (ao aM 163 346 36) ae 36) (ao aA (ao aM 163 435 36) ae 36) 154) (cp (c5 (cj DZ12 hr ((ao aM 143 346 36)<*>((ao aM 143 435 36)<*>ac))))))) (ak (bI (de IN Ij IZ bx 147 ((@bc _ _ _ _ _ (bW<*>(127<*>(346<*>(435<*>ac)))))<*>ac)))) aB))))) 333))))
 try dsimp only[cxK]
 refine GY ?_;intro D' r4 r3 r2 r1;sleep 0;sleep 38
 sleep 7
 sleep 49
 sleep 11;sleep 40
 have r24:R.length<=24:=by rw[N.pok.len];exact N.ok.t24
 sleep 39
 have g0:=af nl 149;have h0:ToldN H (aK H l 149) l []:=cU.new;have el0:aK H l 149 l=some (.lst []):=ag;generalize aK H l 149=H1 at g0 h0 el0⊢;refine (aG t _ _ _ (rfl,rfl,bg.of (g0 _ _ et),rfl,aJ rl _ (rfl,.inl (aD.of (g0 _ _ er)),ν,by lia,by lia,j8 nS (λa=>H a≠none) (λi=>jf 174 z) me.no 78 (λa h e=>h (g0.free e)) (λi hi H3 g Q' hQ=>?_) λp1 H2 np1 g2 hp1=>?_)))
 ·have il:i<R.length:=by lia
  refine (aG x t i z (H,(by rw[Jb];rfl,g0.trans g,eX D T A B2 R M (N,il,λu a hu ha=>hQ _ _ 170 ?_,λhn=>hQ _ _ 170 ?_))))
  ·rw[hu];exact (a,rfl,.inr (by rw[ha];exact nofun),(g0.trans g) _ _ ha)
  ·rw[hn]
   rfl
 obtain ⟨us,eu,ru⟩:=hp1;rw[IP,lr] at ru;have lu:us.length=R.length:=by rw[ru.1,I0,J5]
 have uat:∀i:Nat,i<R.length->∃v,us[i]?=some v/\nS (λa=>a≠p1/\(H1 a=none∨H a≠none)) H2 v (jf 174 z):=λi il=>ru.get (by rw[IG,List.getElem?_range il];rfl)
 refine (aJ p1 _ (rfl,.inl (aD.of eu),ν,by lia,by lia,kF (fg (λi:Nat=>V.int (i:Int))) 160 (λi=>(jf 174 z).isSome) id 78 142 (λi hi H3 g S' hS=>?_) (λi hi _ H3 g Q' hQ=>?_) λp2 H3 np2 g3 hp2=>?_))
 ·obtain ⟨v,hv,ro⟩:=uat i 78
  refine (aG p1 _ _ _ (rfl,rfl,aD.of (g _ _ eu),(dC hv),rfl,mB.i ?_));rw[ro.isN];exact hS _ 170
 ·exact (hQ _ _ 170 (by show V.int 167=V.int (i:Int);rw[Jb]))
 obtain ⟨ps,ep,rp⟩:=hp2;rw[IP,lu] at rp;rw[show cI R.length (λi=>(jf 174 z).isSome) id=cN T R z from rfl] at rp
 rw[rp.val] at ep;clear rp;have eu3:=g3 _ _ eu;have g13:=g2.trans g3;have l1:p1≠l:=λe=>by rw[e,el0] at np1;cases np1
 have l2':p2≠l:=λe=>by rw[e,g2 _ _ el0] at np2;cases np2
 have k3:=g0.trans g13;have h3:=h0.same g13;have uat3:∀i:Nat,i<R.length->∃v,us[i]?=some v/\nS (λa=>H a≠none∨(a≠l/\H a=none)) H3 v (jf 174 z):=λi il=>by
  obtain ⟨v,hv,ro⟩:=uat i il;refine (v,hv,rD (dJ ro g3) λa h=>?_)
  by_cases e:H a=none
  ·refine .inr (λe2=>?_,e)
   rcases h.2 with k|k
   ·rw[e2,el0] at k;cases k
   ·exact k e
  ·exact .inl e
 clear h0 el0 g0 g2 g3 g13 ru uat eu np1 np2;have ul:=pI T R z;have al:∀{H':Hp},Fl l H3 H'->∀i:Nat,i<R.length->∃v,us[i]?=some v/\nS An H' v (jf 174 z):=λfl i il=>by
  obtain ⟨v,hv,ro⟩:=uat3 i il;refine (v,hv,Mv.mv (λa o pa _ e=>(trivial,fl a o (λe2=>?_) e)) ro)
  rcases pa with k|k
  ·exact k (e2▸nl)
  ·exact k.1 e2
 refine (p2,rfl,(_,aD.of ep),gY (xs:=(cN T R z).map (λi:Nat=>V.int (i:Int))) (λk σ H'=>∃o6 o7 o8:Option V,σ= [Lh x,Lh t,some 456,Lh l,Lh p1,Lh p2,o6,o7,o8]/\aC H H'/\Fl l H3 H'/\ToldN H H' l (lH T R z 519 k)) (bT none none none (rfl,k3,Fl.refl _ _,h3)) (λi σ H' _ (_,_,_,_,_,fl,_)=>aD.of (fl _ _ l2' ep)) ?_ ?_)
 ·rintro k y σ H4 T' hy ⟨o6,o7,o8,rfl,g4,fl4,told4⟩ nT';sleep 26;obtain ⟨il,u,hu⟩:=sO hi;have kl:=(IC.mp hi).1;have gT:=af nT' (.tup [.int (k:Int),.int (i:Int)]);sleep 12;have g5:=g4.trans gT;have fl5:=fl4.trans (Fl.of gT);have told5:=told4.same gT;generalize aK H4 T' (.tup [.int (k:Int),.int (i:Int)])=H5 at g5 fl5 told5⊢;refine (ν,aJ p2 _ (rfl,aD.of (fl5 _ _ l2' ep),λp3 np3=>?_))
  have cd:gU ((cN T R z).map (λi:Nat=>V.int (i:Int))) (some ((k:Int)+1)) none=((cN T R z).drop 291).map (λi:Nat=>V.int (i:Int)):=by
   have:=du (xs:=(cN T R z).map (λi:Nat=>V.int (i:Int))) (c:=k+1) 218
   rw[<-List.map_drop] at this;exact this
  rw[cd];have g6':=af np3 (.lst 245)
  have e6:aK H5 p3 (.lst 245) p3=some (.lst 245):=ag
  have g6:=g5.trans g6';have fl6:=fl5.trans (Fl.of g6');have told6:=told5.same g6';have l3':p3≠l:=λe=>by
   obtain ⟨vs',ev',_⟩:=told5;rw[e,ev'] at np3;cases np3
  generalize aK H5 p3 (.lst 245)=H6 at e6 g6 fl6 told6⊢
  clear g4 fl4 told4 g5 fl5 told5 gT g6' np3 nT';have hgd:(cN T R z).getD k 0=i:=aL hi;refine (p3,rfl,(_,aD.of e6),aV (xs:=((cN T R z).drop 291).map (λi:Nat=>V.int (i:Int))) (λm σ H'=>∃o8:Option V,σ= [Lh x,Lh t,some 456,Lh l,Lh p1,Lh p2,some (.int (k:Int)),some 377,o8]/\aC H H'/\Fl l H6 H'/\ToldN H H' l (lH T R z 519 k++eI T R z 519 k m)) (o8,rfl,g6,Fl.refl _ _,by rw[oG,Ji];exact told6) (λm σ H' _ (_,_,_,fl,_)=>aD.of (fl _ _ l3' e6)) ?_ ?_)
  ·rintro m y σ H7 hy ⟨o8,rfl,g7,fl7,cs,ec,rc⟩;sleep 76;have hj':=hj;rw[List.getElem?_drop] at hj';obtain ⟨jl,v,hv⟩:=sO hj';have fl37:=fl6.trans fl7;obtain ⟨vi,hvi,ri⟩:=al fl37 i il;obtain ⟨vj,hvj,rj⟩:=al fl37 j jl;rw[hu] at ri;rw[hv] at rj;obtain ⟨a,rfl,_,ea⟩:=(show nE An H7 vi u from ri)
   obtain ⟨b,rfl,_,eb⟩:=(show nE An H7 vj v from rj)
   have eu7:=fl37 _ _ l1 eu3;have hRi:=IA il;have hRj:=IA jl;obtain ⟨c,hc,ec'⟩:=run_get rR hRi;obtain ⟨d,hd,ed'⟩:=run_get rR hRj;generalize R[i]=ri' at hRi ec';generalize R[j]=rj' at hRj ed';have hb:=A1 hu hv hRi hRj;have sz:cs.length<sizeLine:=by
    rw[rc.1,IB];have h1:=pH T R z 519 k;have h2:=qL T R z 519 k m;have h3':(cN T R z).length*k<=24*24:=KC 78 78
    lia
   have suc:=oH (T:=T) (R:=R) (z:=z) hj;rw[hgd,hb] at suc;refine (aG p1 _ _ _ (rfl,rfl,aD.of eu7,(aS hvi),aG a _ _ _ (rfl,rfl,bg.of ea,rfl,aG p1 _ _ _ (rfl,rfl,aD.of eu7,(aS hvj),aG b _ _ _ (rfl,rfl,bg.of eb,rfl,rfl,Ai (λne=>?_) (λeq=>?_))))))
   ·refine (aG t _ _ _ (rfl,rfl,bg.of (g7 _ _ et),rfl,aG rl _ _ _ (rfl,rfl,aD.of (g7 _ _ er),(aS (bY hc)),aG t _ _ _ (rfl,rfl,bg.of (g7 _ _ et),rfl,aG rl _ _ _ (rfl,rfl,aD.of (g7 _ _ er),(aS (bY hd)),aG c d ri' rj' (rfl,g7 _ _ ec',g7 _ _ ed',mB.i ?_))))));rw[decide_eq_false ne] at suc;cases hm:cq ri' rj' with
    |true=>
     rw[hm] at suc;refine dy (.inl 426,by show 4<=sizeLine;decide,λa na=>(bT l _ _ (rfl,rfl,af na _ _ _ ec,sz,?_)))
     have tp:=ze (b:= [.str "heat",.str z,.int (i:Int),.int (j:Int)]) nl g7 ec rc na;exists ν,tp.1,(fl7.trans (Fl.of (af na _))).trans (Fl.put l _ _);rw[suc,<-JE];exact tp.2
    |false=>
     rw[hm] at suc;exact df (ν,g7,fl7,by rw[suc];exact (cs,ec,by simpa using rc))
   ·rw[decide_eq_true eq] at suc;exact (ν,g7,fl7,by rw[suc];exact (cs,ec,by simpa using rc))
  ·rintro σ H7 ⟨o8,rfl,g7,fl7,told7⟩;rw[I0,qK,<-uR] at told7;exact (bT _ _ _ (rfl,g7,fl6.trans fl7,told7))
 ·rintro σ H4 ⟨o6,o7,o8,rfl,g4,fl4,told4⟩;rw[I0] at told4;exact (q l H4 g4 nl told4)
theorem EZ {dV:Value} (F:bv K "breaches" "breaches" CK dV f fd) (DZ10:Dx P w K mg base bj 1 "is_plan" ["net","plan"] [] (pK Ix)) (DZ15:Dx P w K mg base bj 1 "breaches_of_turns" ["net","plan"] [] (fZ Ix λT A B R M=>fD T R T.length)) (DZ16:Dx P w K mg base bj 2 "breaches_of_arcs" ["net","plan"] [] (fZ Ix λT A B R M=>iI A R M A.length)) (DZ17:Dx P w K mg base bj 2 "breaches_of_apart" ["net","plan"] [] (fZ Ix λT A B R M=>fS B R B.length)) (DZ19:Dx P w K mg base bj 4 "breaches_of_tool" ["net","plan","tool"] [] (vT Ix)) (DZ20:Dx P w K mg base bj 3 "breaches_of_heat" ["net","plan","tool"] [] (vU Ix)):bq P w K mg base bj 5 f fd ["net","plan"] (pL Ix):=by
 have sc:aE ["net","plan","told","tool"] ["net","plan"] (av CK):=dk 47
 sleep 68
 sleep 111
 sleep 46
 sleep 58
 sleep 110
 sleep 13;exists _,(ah (aN (cS (c5 (cj DZ10 hr 184))) 408 aB) (ah (cO 2 sc (cj DZ15 hr 184)) (ah (bI (de IN Je Jd fB 127 ((oW (own:= "k") (ys:= ["plan"]) (js:= [1]) rfl 120 (bJ rfl B.Kc 438) (λC fp s H=>(au dS (ao 395 261 118 36) ae 154)) (λC fp s H=>(@bc _ _ _ _ _ (bW<*>257))))<*>ac))) (ah (bI (de IN Je Jd fB 127 ((cj DZ16 hr 184)<*>ac))) (ah (bI (de IN Je Jd fB 127 ((cj DZ17 hr 184)<*>ac))) (ah (aP 117 rfl (aI (ay (iY rfl) rfl B.Km PyProof.Rows.Boot.«sorted» 438)) 331 (ak (bI (de IN Je Jd fB 127 ((cj DZ19 hr 363)<*>ac))))) (ah (aP 117 rfl (aI (ay (iY rfl) rfl B.Km PyProof.Rows.Boot.«sorted» 438)) 331 (ak (bI (de IN Je Jd fB 127 ((cj DZ20 hr 363)<*>ac))))) 313)))))))
 try dsimp only[cxK]
 sleep 85;sleep 0;sleep 38
 sleep 7
 sleep 49
 sleep 11;have r24:R.length<=24:=by rw[N.pok.len];exact N.ok.t24
 have n8:=N.ok.n8;have a6:=N.ok.a600;have b3:=N.ok.b300;have t24:=N.ok.t24;have d12:=N.ok.d12;refine (aJ x t (rfl,eX D T A B2 R M (N.any,λH1 g1=>(mB.i (df ?_)))))
 have N1:=N.same g1;refine (aJ x t (rfl,eX D T A B2 R M (N1.any,λl H2 k2 nl b2=>?_)))
 replace b2:ToldN H1 H2 l (fD T R T.length):=b2;have kk:=g1.trans k2;obtain ⟨cs,ec,rc⟩:=id b2;have ln2:(fD T R T.length).length<=24:=J8 (db _ _ _) t24;refine (.inl 426,aG x _ dx _ (_,(rfl,(kk _ _ e0),B.Kb,B.Kg,l5,ν,by lia,by lia,kF Aj 160 (xv M) (λi=> [.str "moment",.int (i:Nat)]) 78 142 (λi hi H3 g3 S' hS=>?_) (λi hi _ H3 g3 Q' hQ=>?_) λp H3 np g3 b3'=>?_)))
 ·have hM:=IA (show i<M.length by lia)
  have eb:xv M i=decide (M[i]'(by lia)<0):=by unfold xv;rw[aL hM]
  rw[eb] at hS;rw[Jb];exact (aG t _ _ _ (rfl,rfl,bg.of ((kk.trans g3) _ _ et),rfl,aG ml _ _ _ (rfl,rfl,aD.of ((kk.trans g3) _ _ em),(aS (bY hM)),hS _ 170)))
 ·rw[Jb];exact (by show 2<=sizeLine;decide,λa na=>hQ _ _ (af na _) (a,rfl,.inl na,ag))
 have b3'':ToldN H2 H3 p (sM M M.length):=by
  rw[IP] at b3';exact b3'.mono λa h=>(h.1,h.2.elim id λz=>z.elim)
 refine iO (ic nl k2 b2 g3 np b3'') λvs' us' _hi=>?_
 refine ip _hi λq1 q2 q3 q4 q5 _hj=>?_
 refine cA _hj λk4 b4=>?_
 have ln4:(sM M M.length).length<=8:=by have:=db M.length (xv M) λi=> [V.str "moment",.int (i:Nat)];unfold sM;lia
 refine (aG l p vs' us' (rfl,rfl,q2,q3,by lia,?_))
 generalize aK H3 l (.lst (vs'++us'))=H4 at k4 b4⊢;clear ec rc b2 b3' b3'' q1 q2 q3 np g3 k2 kk;obtain ⟨cs,ec,rc⟩:=id b4;refine (.inl 426,aJ x t (rfl,eX D T A B2 R M ((N1.same k4).any,λp5 H5 g5 np5 b5=>?_)))
 replace b5:ToldN H4 H5 p5 (iI A R M A.length):=b5;refine iO (ic nl k4 b4 g5 np5 b5) λvs5 us5 _hi=>?_
 refine ip _hi λq1 q2 q3 s4 s5 _hj=>?_
 refine cA _hj λk6 b6=>?_
 rw[IB] at s4;have ln6:(iI A R M A.length).length<=600:=J8 (db _ _ _) a6;refine (aG l p5 vs5 us5 (rfl,rfl,q2,q3,by lia,?_))
 generalize aK H5 l (.lst (vs5++us5))=H6 at k6 b6⊢;clear ec rc b4 b5 q1 q2 q3 np5 g5 k4;obtain ⟨cs,ec,rc⟩:=id b6;refine (.inl 426,aJ x t (rfl,eX D T A B2 R M ((N1.same k6).any,λp7 H7 g7 np7 b7=>?_)))
 replace b7:ToldN H6 H7 p7 (fS B2 R B2.length):=b7;refine iO (ic nl k6 b6 g7 np7 b7) λvs7 us7 _hi=>?_
 refine ip _hi λq1 q2 q3 v4 v5 _hj=>?_
 refine cA _hj λk8 b8=>?_
 rw[IB,IB] at v4;have ln8:(fS B2 R B2.length).length<=300:=J8 (db _ _ _) b3;refine (aG l p7 vs7 us7 (rfl,rfl,q2,q3,by lia,?_))
 generalize aK H7 l (.lst (vs7++us7))=H8 at k8 b8⊢;clear ec rc b6 b7 q1 q2 q3 np7 g7 k6;have lnP:(fD T R T.length++sM M M.length++iI A R M A.length++fS B2 R B2.length).length<=932:=by
  rw[IB,IB,IB]
  lia
 have ed8:=(ed.same (g1.trans k8)).no;have tk:(bM D).map 201=(D.map 201).map (λy=>(.inr y:Key)):=uS D
 refine (aG x _ dx _ (_,(rfl,((g1.trans k8) _ _ e0),B.Kb,B.Kd,l1,bT td _ _ (rfl,ed8,tk,N.ok.dnd,by rw[I0];lia,λp9 ys np9 yp ysrt=>?_))))
 have g9:=af np9 276;have e9:aK H8 p9 276 p9=some (.lst 514):=ag;have k9:=k8.trans g9;have b9:=b8.same g9;have yl:ys.length<=12:=by rw[yp.length_eq,I0];exact d12
 have lp9:p9≠l:=λe=>by
  obtain ⟨c,e',_⟩:=b8;rw[e,e'] at np9;cases np9
 generalize aK H8 p9 276=H9 at e9 k9 b9 g9⊢;have np9':H1 p9=none:=k8.free np9;refine (p9,rfl,(_,aD.of e9),aV (xs:=ys.map V.str) (λi σ H'=>∃o3:Option V,σ= [Lh x,Lh t,Lh l,o3]/\aC H1 H'/\H' p9=some 276/\ToldN H1 H' l (fD T R T.length++sM M M.length++iI A R M A.length++fS B2 R B2.length++(ys.take i).flatMap (lE D T R))) (none,rfl,k9,e9,by simpa using b9) (λi σ H' _ (_,_,_,e,_)=>aD.of e) ?_ ?_)
 ·rintro i y σ HA hy ⟨o3,rfl,gA,eA,bA⟩;sleep 105;obtain ⟨cs,ec,rc⟩:=id bA;have zD:z∈D.map (·.1):=yp.mem_iff.mp (ID hz);refine (.inl 426,bT x t z (rfl,eX D T A B2 R M ((N1.same gA).any,zD,λpB HB gB npB bB=>?_)))
  refine iO (ic nl gA bA gB npB bB) λvsB usB _hi=>?_
  refine ip _hi λq1 q2 q3 w4 w5 _hj=>?_
  refine cA _hj λkC bC=>?_
  have lf:=iZ (f:=lE D T R) (m:=24) (λa=>J8 (kN D T R a) r24) (ys.take i)
  have lt:(ys.take i).length<=12:=by rw[IR];lia
  have dl:=kN D T R z;rw[IB] at w4;refine (aG l pB vsB usB (rfl,rfl,q2,q3,by lia,ν,kC,?_,?_))
  ·rw[aQ lp9];exact gB _ _ eA
  ·rw[pN hz,<-JE];exact bC
 rintro σ HA ⟨o3,rfl,gA,eA,bA⟩;rw[I0,Ir] at bA;clear e9 k9 b9 g9 b8;have edA:=(ed.same (g1.trans gA)).no;have lf:=iZ (f:=lE D T R) (m:=24) (λa=>J8 (kN D T R a) r24) ys
 refine (aG x _ dx _ (_,(rfl,((g1.trans gA) _ _ e0),B.Kb,B.Kd,l1,bT td _ _ (rfl,edA,tk,N.ok.dnd,by rw[I0];lia,λpE zs npE zp zsrt=>?_))))
 have ez:zs=ys:=So.sv zsrt ysrt (zp.trans yp.symm);subst ez;have gE:=af npE 486;have eE:aK HA pE 486 pE=some (.lst (zs.map V.str)):=ag;have kE:=gA.trans gE;have bE:=bA.same gE;have lpE:pE≠l:=λe=>by
  obtain ⟨c,e',_⟩:=bA;rw[e,e'] at npE;cases npE
 generalize aK HA pE 486=HE at eE kE bE gE⊢;refine (pE,rfl,(_,aD.of eE),aV (xs:=zs.map V.str) (λi σ H'=>∃o3:Option V,σ= [Lh x,Lh t,Lh l,o3]/\aC H1 H'/\H' pE=some 486/\ToldN H1 H' l (fD T R T.length++sM M M.length++iI A R M A.length++fS B2 R B2.length++zs.flatMap (lE D T R)++(zs.take i).flatMap (nQ T R))) (o3,rfl,kE,eE,by simpa using bE) (λi σ H' _ (_,_,_,e,_)=>aD.of e) ?_ ?_)
 ·rintro i y σ HF hy ⟨o3,rfl,gF,eF,bF⟩;sleep 105;obtain ⟨cs,ec,rc⟩:=id bF;refine (.inl 426,bT x t z (rfl,eX D T A B2 R M ((N1.same gF).any,λpB HB gB npB bB=>?_)))
  refine iO (ic nl gF bF gB npB bB) λvsB usB _hi=>?_
  refine ip _hi λq1 q2 q3 w4 w5 _hj=>?_
  refine cA _hj λkC bC=>?_
  have lh:=iZ (f:=nQ T R) (m:=576) (λa=>pJ a r24) (zs.take i)
  have lt:(zs.take i).length<=12:=by rw[IR];lia
  have dl:=pJ (T:=T) z r24;rw[IB,IB] at w4;refine (aG l pB vsB usB (rfl,rfl,q2,q3,by lia,ν,kC,?_,?_))
  ·rw[aQ lpE];exact gB _ _ eF
  ·rw[pN hz,<-JE];exact bC
 rintro σ HF ⟨o3',rfl,gF,eF,bF⟩;rw[I0,Ir] at bF;exact (q zs l HF yp ysrt (g1.trans gF) (g1.free nl) (bF.mono λa h=>(h.1,g1.free h.2)))
theorem E1 {dV:Value} (F:bv K "plan_fits" "plan_fits" CL dV f fd) (DZ21:Dx P w K mg base bj 5 "breaches" ["net","plan"] [] (pL Ix)):bq P w K mg base bj 6 f fd ["net","plan"] (vV Ix):=by
 have sc:aE ["net","plan"] ["net","plan"] (av CL):=dk 47
 sleep 68
 sleep 111
 sleep 46
 sleep 58
 sleep 110
 sleep 13;exists _,(ak (aw (dP (jY hr.units0) (cj DZ21 hr 184) 146 154)));try dsimp only[cxK]
 refine (aJ x t (rfl,eX D T A B2 R M (N,λys l H1 yp ysrt g1 nl (vs,ev,rv)=>?_)))
 refine (by show 0<=sizeLine;decide,λl2 nl2=>?_)
 have g2:=af nl2 149;refine (bT l l2 _ (rfl,rfl,aD.of (g2 _ _ ev),aD.of ag,?_));have e:vs.isEmpty=(xG ys D T A B2 R M).isEmpty:=by
  have:=rv.1;cases vs<;>cases h:xG ys D T A B2 R M<;>simp[h] at this⊢
 rw[e];exact q ys _ yp ysrt 209
theorem E2 {dV:Value} (F:bv K "length_of" "length_of" CM dV f fd) (DZ11:Dx P w K mg base bj 1 "time_of" ["plan","point"] [] ng):bq P w K mg base bj 2 f fd ["plan"] yX:=by
 have sc:aE ["plan","points"] ["plan"] (av CM):=dk 47
 sleep 68
 refine j9 h λt R M _hi=>?_
 refine dN _hi λ_r1 P r30 _hj=>?_
 refine cA _hj λm30 q=>?_
 sleep 41;exists _,(ah (cO 1 sc (am aW (am aZ ae 229) 229)) (ak (aw (ay (gZ rfl) rfl B.Ko boot_max ((am bQ (@aO _ _ _ _ 420) (jV (hd:=none) (own:= "point") (ys:= ["plan"]) (js:= [0]) hr.hd 120 (gX rfl B.Kc 501) (λC fp s H=>(cj DZ11 hr (129<*>257)))))<*>ac)))))
 try dsimp only[cxK]
 sleep 28;sleep 0;obtain ⟨rl,ml,et,⟨bs,er,rR⟩,em⟩:=id P;sleep 40
 have lm:(M.map V.int).length=M.length:=I0 _;have ls:=eQ M R;refine (aG t _ _ _ (rfl,rfl,bg.of et,rfl,aJ rl _ (rfl,.inl (aD.of er),126 41,aG t _ _ _ (rfl,rfl,bg.of et,rfl,aJ ml _ (rfl,.inl (aD.of em),?_)))))
 refine (by show 1<=sizeLine;decide,λl0 n0=>?_)
 have g0:=af n0 (.lst [.int 0]);refine (ν,by lia,by lia,AI (λi y=>∃v,(aT R M)[i]?=some v/\y= .int v) me.no ?_ (λi hi H3 g3 Q' hQ=>?_) λp ys H' np ly hy g ep=>?_)
 ·lia
 ·have il:i<(aT R M).length:=by lia
  refine (aG t _ R M (_,(rfl,P.same (g0.trans g3),by lia,?_,hQ _ _ (_,IA il,rfl) 170)))
  rw[Jb,IP];exact IA il
 ·have e:ys=(aT R M).map V.int:=by
   apply List.ext_getElem (by have lz:((aT R M).map V.int).length=(aT R M).length:=I0 _;lia)
   intro i h1 h2;obtain ⟨v,e1,e2⟩:=hy i _ (IA h1);rw[e2,List.getElem_map];rw[I0] at h2;rw[IA h2] at e1;injection e1 with e1
   rw[e1]
  subst e;refine (aG l0 p _ _ (rfl,rfl,g _ _ ag,ep,by rw[I0];simp;lia,λp2 n2=>?_))
  refine (aJ p2 (0::aT R M) (rfl,aD.of ag,by simp,λmm h1 h2=>q mm _ ((g0.trans g).trans (af n2 _)) (h1,h2)))
theorem E3 {dV:Value} (F:bv K "are_points" "are_points" CN dV f fd) (DZ1:Dx P w K mg base bj 1 "points_of" ["net"] [] (kL Ix)):bq P w K mg base bj 2 f fd ["net","some"] (gJ Ix):=by
 have sc:aE ["net","some","point"] ["net","some"] (av CN):=dk 47
 sleep 68
 refine uV h λx l fz D T A B2 n C _hi=>?_
 refine dN _hi λ_r1 N el q=>?_
 sleep 66;exists _,(ah (aP 117 rfl (aI 129) 348 (ak (aN (cS (cX dA dS ae 127 (cj DZ1 hr 257))) 155 aB))) 155);try dsimp only[cxK]
 sleep 28;refine (l,rfl,334,aV (xs:=C.map V.int) (λk σ H'=>H=H'/\(∃o2:Option V,σ= [Lh x,Lh l,o2])/\fq 197 (C.take k)=true) (rfl,(none,rfl),rfl) (λk σ H' _ h=>by rw[<-h.1];exact aD.of el) ?_ ?_)
 ·rintro k y σ H1 hy ⟨rfl,⟨o2,rfl⟩,hall⟩;rw[IG] at hy;obtain ⟨p,hp,rfl⟩:=IF.mp hy;have bad:(decide (0<=p)&&decide (p<2*121+n))=false->fq 197 C=false:=λh=>by
   unfold fq;rw[<-K3,IT];intro hh;have:=hh p (ID hp);rw[h] at this;cases this
  refine (d2 (λc1=>(eX x n fz D T A (B2,(rfl,N,n2 255 (λc2=>(rfl,⟨ν⟩,?_)))))) (λc1=>(mB.i (dy ?_))))
  ·rw[bad 353] at q
   exact q
  ·unfold fq at hall⊢;rw[bG hp,List.all_append,hall,JU,List.all_cons,List.all_nil,Bool.and_true,decide_eq_true c1,decide_eq_true c2]
   rfl
  ·rw[bad 354] at q
   exact q
 ·rintro σ H1 ⟨rfl,⟨o2,rfl⟩,hall⟩;rw[I0,Ir] at hall;rw[hall] at q;exact q
theorem E4 {dV:Value} (F:bv K "start_case" "start_case" CO dV f fd):bq P w K mg base bj 1 f fd ["net"] (wn Ix):=by
 have sc:aE ["net"] ["net"] (av CO):=dk 47
 sleep 68
 refine dR h λx fz D T A B2 _hi=>?_
 refine dU _hi λn _hj=>?_
 refine dN _hj λ_r1 NG t24 q=>?_
 sleep 41;exists _,(ak (aw (@bc _ _ _ _ _ ((cQ (own:= "ways") (ys:= []) (js:= []) rfl 124 (aI 164) (λC fp s H=>bz))<*>(146<*>ac)))))
 try dsimp only[cxK]
 sleep 0;refine dR NG.ex λdx td tl al pl fs _hi=>?_
 sleep 7
 sleep 49
 sleep 137;refine (aG x _ dx _ (_,(rfl,e0,B.Kb,B.Ka,l2,tl,rfl,334,cg (fg iJ) 160 (λ_=>(none:Option Nat)) 305 (by rw[rT.1];lia) 142 (λk y hy H4 g4 Q' hQ=>hQ _ _ 170 rfl) λlk H1 nlk g1 hk=>?_)))
 obtain ⟨us,ek,rk'⟩:=hk;rw[rT.1] at rk';rw[rk'.val] at ek;exact (by show 0<=sizeLine;decide,λlo nlo=>(by show 2<=sizeLine;decide,λt nt=>q t _ ((g1.trans (af nlo _)).trans (af nt _)) (aJ lk lo (ag,af nt _ _ _ (af nlo _ _ _ ek),([],af nt _ _ _ ag,dZ.nil)))))
theorem E5 {dV:Value} (F:bv K "many_in" "many_in" CP dV f fd) (DZ9:Dx P w K mg base bj 1 "use_in" ["way","tool"] [] mD):bq P w K mg base bj 2 f fd ["way","tool"] ie:=by
 have sc:aE ["way","tool","use"] ["way","tool"] (av CP):=dk 47
 sleep 68
 obtain ⟨v,z,w,rfl,rw',q⟩:=h;exists _,(ah (cO 2 sc (cj DZ9 hr 184)) (ak (aw (mK (au gK 127 bz 154) ae 152))))
 try dsimp only[cxK]
 sleep 28;refine (aG v z w _ (rfl,rw',λu a hu _ ha=>?_,λhn=>?_))
 ·rw[hW hu] at q;exact (rfl,mB.i (dF nofun (aG a _ _ _ (rfl,rfl,bg.of ha,rfl,q))))
 ·rw[hV hn] at q;exact (rfl,mB.i (dT rfl q))
theorem E6 {dV:Value} (F:bv K "open_ways" "open_ways" CQ dV f fd) (DZ2:Dx P w K mg base bj 1 "copy_of_task" ["ways"] [] qH):bq P w K mg base bj 2 f fd ["net","case","i"] (nX Ix):=by
 have sc:aE ["net","case","i","ways","pick"] ["net","case","i"] (av CQ):=dk 47
 sleep 68
 refine j9 h λx t i _hi=>?_
 sleep 46
 sleep 32
 sleep 61
 refine iC _hl λNC il q=>?_
 sleep 33;exists _,(ah (cO 3 sc (cj DZ2 hr ((ao aM 164 127 36)<*>ac))) (ah (cO 4 sc 447) (ak (aw (mK (au gK 163 bz 154) 147 (@aO _ _ _ _ ((ao aM 147 163 36)<*>ac)))))))
 try dsimp only[cxK]
 sleep 9;sleep 102
 sleep 7
 sleep 49
 sleep 137;obtain ⟨kl,ol,ec,ek,ho⟩:=id NC.case_;have hT:=IA il;have ol':=gw (P:=P) NC.ok.ways il;obtain ⟨w1,w2,_⟩:=NC.ok.ways _ 452;obtain ⟨y,hy,wl,rfl,_,lw⟩:=rT.get hT;have hP:=IA (show i<P.length by rw[NC.pk.len];exact il)
 have oF:bw T P i=match P[i]'(by rw[NC.pk.len];exact il) with|none=>T[i]|some j=> [(T[i]).getD j (0,0,[])]:=by
  unfold bw;rw[aL hT,aL hP];try rfl
 refine (aG x _ dx _ (_,(rfl,e0,B.Kb,B.Ka,l2,aG tl _ _ _ (rfl,rfl,aD.of el,(aS hy),bT wl _ _ (rfl,lw,w2,λp H1 g1 np wf=>?_)))))
 refine (aG t _ _ _ (rfl,rfl,bg.of (g1 _ _ ec),rfl,aG kl _ _ _ (rfl,rfl,aD.of (g1 _ _ ek),(aS (bY hP)),?_)));obtain ⟨p',e',hpn,lp⟩:=wf;cases e';have lpA:=lp.any;cases hp:P[i]'(by rw[NC.pk.len];exact il) with
 |none=>
  rw[hp] at oF;refine (rfl,mB.i (dT rfl (mV.i ?_)));rw[oF] at q;exact q p H1 g1 np lpA
 |some j=>
  rw[hp] at oF hP;have jl:=NC.pk.pick i j _ hP hT;have hw:=IA jl;replace oF:bw T P i= [(T[i]).getD j 387]:=oF;rw[aL hw] at oF;obtain ⟨ys,ey,ry⟩:=lpA;obtain ⟨v,hv,rv⟩:=ry.get hw;refine (rfl,mB.i (dF nofun (aG p _ _ _ (rfl,rfl,aD.of ey,(aS hv),by show 1<=sizeLine;decide,λp2 np2=>?_))))
  rw[oF] at q;exact q p2 _ (g1.trans (af np2 _)) (g1.free np2) (_,ag,A2.one (dJ rv (af np2 _)))
theorem E7 {dV:Value} (F:bv K "want_of" "want_of" CS dV f fd) (DZ26:Dx P w K mg base bj 2 "many_in" ["way","tool"] [] ie) (DZ27:Dx P w K mg base bj 2 "open_ways" ["net","case","i"] [] (nX Ix)):bq P w K mg base bj 3 f fd ["net","case","i","tool"] (qU Ix i3):=by
 have sc:aE ["net","case","i","tool"] ["net","case","i","tool"] (av CS):=dk 47
 sleep 68
 refine fT h λx t i z _hi=>?_
 sleep 46
 sleep 32
 sleep 61
 refine iC _hl λNC il q=>?_
 sleep 33;exists _,(ak (aw (ay (eR rfl) rfl B.Kn boot_min ((cQ (own:= "way") (ys:= ["tool"]) (js:= [3]) rfl 120 (aI (cj DZ27 hr 290)) (λC fp s H=>(cj DZ26 hr 184)))<*>ac))))
 try dsimp only[cxK]
 sleep 0;have ne:=jj (P:=P) NC.ok.ways il;have ln:=gw (P:=P) NC.ok.ways il;sleep 79
 refine (p,rfl,437,cg 284 160 (λk=>(λw:Wy=>bf w z) 248) (aD.of ev) 318 142 405 λp2 H2 np2 g2 hp=>?_)
 ·obtain ⟨w,hw,rw'⟩:=rv.at_ hy;rw[aL hw] at hQ;exact (bT y z w (rfl,dJ rw' g2,hQ _ _ 170 rfl))
 ·obtain ⟨us,eu,ru⟩:=hp;have eus:us=((bw T P i).map λw:Wy=>bf w z).map V.int:=by
   rw[ru.val,rv.1]
   conv=>rhs;rw[<-cG 469 387]
   rw[IW,IW,IW]
   rfl
  sleep 80
  rw[gI hM hle];exact q _ 209
theorem E9 {dV:Value} (F:bv K "work_of" "work_of" CT dV f fd) (DZ26:Dx P w K mg base bj 2 "many_in" ["way","tool"] [] ie) (DZ27:Dx P w K mg base bj 2 "open_ways" ["net","case","i"] [] (nX Ix)):bq P w K mg base bj 3 f fd ["net","case","i","tool"] (qU Ix fA):=by
 have sc:aE ["net","case","i","tool"] ["net","case","i","tool"] (av CT):=dk 47
 sleep 68
 refine fT h λx t i z _hi=>?_
 sleep 46
 sleep 32
 sleep 61
 refine iC _hl λNC il q=>?_
 sleep 33;exists _,(ak (aw (ay (eR rfl) rfl B.Kn boot_min ((cQ (own:= "way") (ys:= ["tool"]) (js:= [3]) rfl 120 (aI (cj DZ27 hr 290)) (λC fp s H=>(am aZ 132 (cj DZ26 hr 184))))<*>ac))))
 try dsimp only[cxK]
 sleep 0;have ne:=jj (P:=P) NC.ok.ways il;have ln:=gw (P:=P) NC.ok.ways il;sleep 79
 refine (p,rfl,437,cg 284 160 (λk=>(λw:Wy=>w.1*bf w z) 248) (aD.of ev) 318 142 405 λp2 H2 np2 g2 hp=>?_)
 ·obtain ⟨w,hw,rw'⟩:=rv.at_ hy;rw[aL hw] at hQ;obtain ⟨tw,uw,rfl,pa,pb,etw,lw⟩:=id rw';have w1:1<=w.1/\w.1<=1000000000:=by
   obtain ⟨ws,hws,hww⟩:=qT NC.ok.ways NC.pk il w (ID hw);obtain ⟨a1,a2,a3,_⟩:=(NC.ok.ways ws hws).2.2 w hww
   lia
  exact (aG tw _ _ _ (rfl,rfl,bg.of (g2 _ _ etw),rfl,bT (.ref tw) z w (rfl,dJ rw' g2,126 190,hQ _ _ 170 rfl)))
 ·obtain ⟨us,eu,ru⟩:=hp;have eus:us=((bw T P i).map λw:Wy=>w.1*bf w z).map V.int:=by
   rw[ru.val,rv.1]
   conv=>rhs;rw[<-cG 469 387]
   rw[IW,IW,IW]
   rfl
  sleep 80
  rw[gI hM hle];exact q _ 209
theorem Fa {dV:Value} (F:bv K "heats_differ" "heats_differ" CU dV f fd) (DZ9:Dx P w K mg base bj 1 "use_in" ["way","tool"] [] mD):bq P w K mg base bj 2 f fd ["one","other"] sS:=by
 have sc:aE ["one","other","tool","many","heat","use"] ["one","other"] (av CU):=dk 47
 sleep 68
 refine fT h λv v' w w' _hi=>?_
 refine dN _hi λ_r1 _r2 rw' q=>?_
 sleep 66;obtain ⟨t,u,rfl,_,_,et,us,eu,ru⟩:=_r2;exists _,(ah (aP 117 rfl (aI 140) 483 (ah (cO 5 sc (cj DZ9 hr (129<*>194))) (ak (aN (PW.pt (cK (au gD 193 bz 154) (cp (au eZ (ao aA 193 ae 36) 163 154)))) 155 aB)))) 155)
 try dsimp only[cxK]
 sleep 28;refine (aG t _ _ _ ⟨rfl,rfl,bg.of et,rfl,u,rfl,⟨_,aD.of eu⟩,aV (xs:=us) (λi σ H'=>H=H'/\(∃o2 o3 o4 o5:Option V,σ= [Lh t,some v',o2,o3,o4,o5])/\(w.2.2.take i).any (λu=>match jf w' u.1 with|some x=> !decide (x.2.2=u.2.2)|none=>false)=false) ⟨rfl,(aG none none none none rfl),rfl⟩ (λi σ H' _ h=>by rw[<-h.1];exact aD.of eu) ?_ ?_⟩)
 ·rintro i y σ H1 hy ⟨rfl,⟨o2,o3,o4,o5,rfl⟩,hn⟩;sleep 94;have tk:w.2.2.take 301=w.2.2.take i++ [e]:=bG he;sleep 77;have no:(match jf w' e.1 with|some x=> !decide (x.2.2=e.2.2)|none=>false)=false->(w.2.2.take (i+1)).any (λu=>match jf w' u.1 with|some x=> !decide (x.2.2=u.2.2)|none=>false)=false:=λh=>by
   rw[tk,KI,hn,JR,Jo,List.any_nil,KF];exact h
  refine (aG v' e.1 w' _ (rfl,rw',λx b hx _ hb=>?_,λhx=>?_))
  ·refine (rfl,mB.i (nT nofun (aG b _ _ _ (rfl,rfl,bg.of hb,rfl,rfl,Ai 217 217))))
   ·have:eK w w'=true:=by
     unfold eK;rw[Iv];exact (e,ID he,by rw[hx];simp[c])
    rw[this] at q;exact q
   ·exact (rfl,(aG _ _ _ _ rfl),no (by rw[hx];simp[c]))
  ·exact (rfl,mB.i (nF rfl (rfl,(aG _ _ _ _ rfl),no (by rw[hx]))))
 ·rintro σ H1 ⟨rfl,⟨o2,o3,o4,o5,rfl⟩,hn⟩;rw[ru.1,Ir] at hn;have:eK w w'=false:=hn;rw[this] at q;exact q
theorem Fb {dV:Value} (F:bv K "unlike_heats" "unlike_heats" CV dV f fd) (DZ27:Dx P w K mg base bj 2 "open_ways" ["net","case","i"] [] (nX Ix)) (DZ30:Dx P w K mg base bj 2 "heats_differ" ["one","other"] [] sS):bq P w K mg base bj 3 f fd ["net","case","i","j"] (sT Ix):=by
 have sc:aE ["net","case","i","j","one","other"] ["net","case","i","j"] (av CV):=dk 47
 sleep 68
 refine fT h λx t i j _hi=>?_
 sleep 46
 sleep 32
 sleep 61
 refine dN _hl λNC il jl q=>?_
 sleep 33;exists _,(ah (aP 117 rfl (aI (cj DZ27 hr 290)) 323 (ak (aP 117 rfl (aI (cj DZ27 hr 363)) 347 (ak (aN (cS (c5 (cj DZ30 hr (163<*>376)))) 155 aB))))) 155);try dsimp only[cxK]
 sleep 28;sleep 79
 refine (p,rfl,437,aV (xs:=vs) (λk σ H'=>aC H1 H'/\(∃o4 o5:Option V,σ= [Lh x,Lh t,some 377,some 518,o4,o5])/\((bw T P i).take k).all (λv=>(bw T P j).all λw=>eK v w)=true) (.refl _,386,rfl) (λk σ H' _ h=>aD.of (h.1 _ _ ev)) ?_ ?_)
 ·rintro k y σ H2 hy ⟨g2,⟨o4,o5,rfl⟩,hall⟩;obtain ⟨v,hv,rv'⟩:=rv.at_ hy;have kk:=g1.trans g2;refine (bT x t j (rfl,eX D T A B2 n P (O,(NC.same kk,jl,λp3 H3 g3 np3 (us,eu,ru)=>?_))))
  refine (p3,rfl,484,aV (xs:=us) (λm σ H'=>H3=H'/\(∃o5:Option V,σ= [Lh x,Lh t,some 377,some 518,some y,o5])/\((bw T P j).take m).all (λw=>eK v w)=true) (rfl,⟨ν⟩,rfl) (λm σ H' _ h=>by rw[<-h.1];exact aD.of eu) ?_ ?_)
  ·rintro m y2 σ H4 hy2 ⟨rfl,⟨o5,rfl⟩,hm⟩;obtain ⟨w,hw,rw'⟩:=ru.at_ hy2;refine (aG y y2 v w (rfl,dJ rv' 446,rw',mB.i ?_));cases hd:eK v w with
   |true=>
    refine df (rfl,⟨ν⟩,?_);rw[bG hw,List.all_append,hm,JU,List.all_cons,List.all_nil,Bool.and_true];exact hd
   |false=>
    have:dD T P i j=false:=by
     unfold dD;rw[<-K3,IT];intro h;have h2:=h v (ID hv);rw[IT] at h2;have:=h2 w (ID hw);rw[hd] at this;cases this
    rw[this] at q;exact dy (q _ (kk.trans g3))
  ·rintro σ H4 ⟨rfl,⟨o5,rfl⟩,hm⟩;rw[ru.1,Ir] at hm;exists g2.trans g3,355;rw[bG hv,List.all_append,hall,JU,List.all_cons,List.all_nil,Bool.and_true];exact hm
 ·rintro σ H2 ⟨g2,⟨o4,o5,rfl⟩,hall⟩;rw[rv.1,Ir] at hall;have:dD T P i j=true:=hall;rw[this] at q;exact q _ 209
theorem Fc {dV:Value} (F:bv K "arcs_of" "arcs_of" CW dV f fd) (DZ27:Dx P w K mg base bj 2 "open_ways" ["net","case","i"] [] (nX Ix)):bq P w K mg base bj 3 f fd ["net","case"] (ke Ix):=by
 have sc:aE ["net","case","arcs","i","ways","j"] ["net","case"] (av CW):=dk 47
 sleep 68
 sleep 111
 sleep 46
 sleep 32
 sleep 61
 refine iC _hl λNC po q=>?_
 sleep 33;exists _,(ah (cO 2 sc (cM cy rfl B.Ke boot_list 438)) (ah (aP 117 rfl (bJ rfl B.Kc (206<*>ac)) 331 (ah (cO 4 sc (cj DZ27 hr 363)) (ah (bI (de IN Ij IZ bx 127 ((@bc _ _ _ _ _ (374<*>((am aW 374 ae)<*>((ay (eR rfl) rfl B.Kn boot_min ((cQ (own:= "way") (ys:= []) (js:= []) rfl 124 (aI 163) 288)<*>ac))<*>ac))))<*>ac))) (ak (bI (de IN Ij IZ bx 127 ((@bc _ _ _ _ _ ((am aW 374 ae)<*>(374<*>((mM jD (ay (gZ rfl) rfl B.Ko boot_max ((cQ (own:= "way") (ys:= []) (js:= []) rfl 124 (aI 163) 288)<*>ac)))<*>ac))))<*>ac))))))) (ah (aP 117 rfl (aI 143) (cT rfl (aH 331 (aH 347 ca))) (ak (bI (de IN Ij IZ bx 127 ((@bc _ _ _ _ _ ((am aW 374 ae)<*>(418<*>420)))<*>ac))))) 313)))
 try dsimp only[cxK]
 sleep 88;sleep 0;sleep 102
 sleep 7
 refine cA _hj λ_r2 hB=>?_
 sleep 137;obtain ⟨ba,ea,ra⟩:=_r2;obtain ⟨kl,ol,ec,ek,⟨bo,eo,ro⟩⟩:=id NC.case_;have a600:=NC.ok.a600;have t24:=NC.ok.t24;have lv:vs.length=T.length:=rT.1;refine (aG x _ dx _ (_,(rfl,e0,B.Kb,B.Kj,l3,aJ al _ (rfl,.inl (aD.of ea),λl nl=>?_))))
 have g0:=af nl 254;have hA0:bn (aK H l 254) l (A++dB T P 0):=(ba,ag,by rw[show A++dB T P 0=A from Ji A];exact ra.imp λa k q=>g0 _ _ q)
 generalize aK H l 254=H0 at g0 hA0⊢;try dsimp only[cE,c9]
 refine cut (λσ H'=>∃o3 o4 o5:Option V,σ= [Lh x,Lh t,Lh l,o3,o4,o5]/\aC H H'/\bn H' l (A++dB T P T.length)) 232 ?_
 ·refine (aG x _ dx _ (_,(rfl,(g0 _ _ e0),B.Kb,B.Ka,l2,aJ tl _ (rfl,.inl (aD.of (g0 _ _ el)),ν,by lia,by lia,bP (λi σ H'=>∃o3 o4 o5:Option V,σ= [Lh x,Lh t,Lh l,o3,o4,o5]/\aC H H'/\bn H' l (A++dB T P i)) (bT none none none (rfl,g0,hA0)) ?_ ?_))))
  ·rintro i σ H1 hi ⟨o3,o4,o5,rfl,g1,⟨bs,eb,rb⟩⟩;rw[IP,lv] at hi;have zi:167=(i:Int):=Jb _;have ne:=jj (P:=P) NC.ok.ways hi;have ln:=gw (P:=P) NC.ok.ways hi;have lb:bs.length=A.length+2*i:=by rw[rb.1,IB,dI]
   refine (bT x t i (by rw[zi];rfl,eX D T A B2 n P (O,(NC.same g1,hi,λp H2 g2 np (vs,ev,rv)=>?_))))
   refine (.inl (rfl,_,aD.of (g2 _ _ eb)),126 41,126 41,p,rfl,437,cg 284 160 (λk=>(λw:Wy=>w.1) 248) (aD.of ev) 318 142 237 λp2 H3 np2 g3 hp2=>?_)
   ·refine dU (rv.at_ hy) λw _hi=>?_
    sleep 90
    sleep 126
    sleep 83
    refine cA _hl λetw _=>?_
    sleep 103;exact (aG tw _ _ _ (rfl,rfl,bg.of (gk _ _ etw),rfl,hQ _ _ 170 rfl))
   sleep 138;have eus:us=((bw T P i).map λw:Wy=>w.1).map V.int:=by
    rw[ru.val,rv.1]
    conv=>rhs;rw[<-cG 469 387]
    rw[IW,IW,IW]
    rfl
   rw[eus] at eu;refine (aJ p2 _ (rfl,aD.of eu,by simpa using ne,λM hM hle=>(by show 3<=sizeLine;decide,λt1 nt1=>(bT l _ _ (rfl,rfl,af nt1 _ _ _ (446 _ _ eb),by rw[I0];lia,?_)))))
   rw[zi,gI hM hle];obtain ⟨m1,hm1⟩:∃m1,m1=jt ((bw T P i).map λw:Wy=>w.1):=502
   rw[<-hm1];have gt1:=af nt1 161;have k4:=((g1.trans g2).trans g3).trans gt1;have q4:=(g2.trans g3).trans gt1;have hA4:=hJ (k:= [2*(i:Int),2*(i:Int)+1,m1]) (q4 _ _ eb) (rb.imp λa k q=>q4 _ _ q) ag
   have k5:=dQ k4 nl 195;have ev5:aK 515 l 195 p=some (.lst vs):=by
    rw[aQ (λe=>by rw[e,eb] at np;cases np)]
    exact (g3.trans gt1) _ _ ev
   have tw5:∀tw ys,H2 tw=some (.tup ys)->aK 515 l 195 tw=some (.tup ys):=λtw ys e=>by
    rw[aQ (λz=>by rw[z,g2 _ _ eb] at e;cases e)]
    exact (g3.trans gt1) _ _ e
   generalize aK 515 l 195=H5 at hA4 k5 ev5 tw5⊢;clear eu eus ru us gt1 k4 q4 nt1 g3 np2;obtain ⟨cs,ecs,rcs⟩:=hA4;have lc:cs.length=A.length+2*i+1:=by rw[rcs.1,IB,IB,dI];rfl
   refine (.inl (rfl,_,aD.of ecs),126 41,126 41,p,rfl,(_,aD.of ev5),cg 284 160 (λk=>(λw:Wy=>w.2.1) 248) (aD.of ev5) 318 142 237 λp3 H6 np3 g6 hp3=>?_)
   ·refine dU (rv.at_ hy) λw _hi=>?_
    sleep 90
    sleep 126
    sleep 83
    refine cA _hl λetw _=>?_
    sleep 103;exact (aG tw _ _ _ (rfl,rfl,bg.of (gk _ _ (tw5 _ _ etw)),rfl,hQ _ _ 170 rfl))
   obtain ⟨us,eu,ru⟩:=hp3;have eus:us=((bw T P i).map λw:Wy=>w.2.1).map V.int:=by
    rw[ru.val,rv.1]
    conv=>rhs;rw[<-cG 469 387]
    rw[IW,IW,IW]
    rfl
   rw[eus] at eu;refine (aJ p3 _ (rfl,aD.of eu,by simpa using ne,λM2 hM2 hle2=>(ν,by show 3<=sizeLine;decide,λt2 nt2=>(bT l _ _ (rfl,rfl,af nt2 _ _ _ (g6 _ _ ecs),by rw[I0];lia,?_)))))
   rw[wo hM2 hle2];have gt2:=af nt2 (.tup [.int 454,.int 508,.int (-(oI 263))])
   have hA7:=hJ (k:= [2*(i:Int)+1,2*(i:Int),-(oI 263)]) ((g6.trans gt2) _ _ ecs) (rcs.imp λa k q=>(g6.trans gt2) _ _ q) ag
   refine (bT _ _ _ (rfl,dQ ((k5.trans g6).trans gt2) nl _,?_));have e:A++dB T P 301=A++dB T P i++ [[2*(i:Int),2*(i:Int)+1,m1]]++ [[2*(i:Int)+1,2*(i:Int),-(oI 263)]]:=by
    rw[hm1];show A++(dB T P i++_)=_;rw[JE,JE]
    rfl
   rw[e];exact hA7
  ·rintro σ H1 ⟨o3,o4,o5,rfl,g1,hA⟩;rw[IP,lv] at hA;exact hN _ _ (bT _ _ _ (rfl,g1,hA))
 clear hA0 g0;rintro σ H1 ⟨o3,o4,o5,rfl,g1,hA⟩;refine (aG t _ _ _ ⟨rfl,rfl,bg.of (g1 _ _ ec),rfl,ol,rfl,⟨_,aD.of (g1 _ _ eo)⟩,aV (xs:=bo.map V.ref) (λk σ H'=>∃o3 o4 o5:Option V,σ= [Lh x,Lh t,Lh l,o3,o4,o5]/\aC H H'/\bn H' l (A++dB T P T.length++ju (O.take k))) (bT _ _ _ ⟨rfl,g1,by rw[List.take_zero];exact (Ji _).symm▸hA⟩) (λk σ H' _ h=>by obtain ⟨_,_,_,_,g,_⟩:=h;exact aD.of (g _ _ eo)) ?_ ?_⟩)
 ·rintro k y σ H2 hy ⟨o3,o4,o5,rfl,g2,⟨bs,eb,rb⟩⟩;sleep 34;have kl:k<O.length:=by rw[<-ro.1];exact (IC.mp hb).1
  have hk:=IA kl;have eb':=ro.2 k b _ hb hk;obtain ⟨p,q',ek'⟩:=po.2 _ 516;rw[ek'] at eb' hk;have lb:bs.length<=2000:=by
   have:=rb.1;have h1:=po.1;rw[IB,IB,dI] at this;unfold ju at this;rw[I0,IR] at this
   lia
  refine (aJ b _ (rfl,bg.of (g2 _ _ eb'),rfl,aJ _ _ 187));refine (.inl (rfl,_,aD.of eb),126 41,126 41,by show 3<=sizeLine;decide,λt1 nt1=>(bT l _ _ (rfl,rfl,af nt1 _ _ _ eb,by rw[I0];lia,?_)))
  have gt:=af nt1 (.tup [.int (2*p+1),.int (2*q'),.int 0]);refine (bT _ _ _ (rfl,dQ (g2.trans gt) nl _,?_));have e:ju (O.take 291)=ju (O.take k)++ [[2*p+1,2*q',0]]:=by
   unfold ju;rw[bG hk,Il]
   rfl
  rw[e,<-JE];exact hJ (gt _ _ eb) (rb.imp λa k q=>gt _ _ q) ag
 ·rintro σ H2 ⟨o3,o4,o5,rfl,g2,hA2⟩;have lo:(bo.map V.ref).length=O.length:=by rw[I0,ro.1]
  rw[lo,Ir] at hA2;exact (q l H2 g2 nl hA2)
theorem Fd {dV:Value} (F:bv K "greatest_lags" "greatest_lags" CY dV f fd):bq P w K mg base bj 1 f fd ["arcs"] qQ:=by
 have sc:aE ["arcs","lags","p","q","lag"] ["arcs"] (av CY):=dk 47
 sleep 68
 obtain ⟨l,A,rfl,⟨as,el,rA⟩,l7,q⟩:=h;exists _,(ah (cO 1 sc yF) (ah (aP 117 rfl 451 483 (ak (vB 505 129 (@bc _ _ _ _ _ (127<*>213)) (ay (i8 rfl) rfl B.Ko boot_max (163<*>((yG 505 129 (@bc _ _ _ _ _ (127<*>213)) 163 (rfl,rfl,rfl,rfl))<*>ac))) rfl))) (ak (aw 129))));try dsimp only[cxK]
 sleep 9;sleep 0;have la:(as.map V.ref).length=A.length:=by rw[I0,rA.1,I0]
 refine λd nd=>?_
 have g0:=af nd (.dT []);refine (l,rfl,(_,aD.of (g0 _ _ el)),aV (xs:=as.map V.ref) (λi σ H'=>∃o2 o3 o4:Option V,σ= [Lh l,Lh d,o2,o3,o4]/\aC H H'/\∃kvs,H' d=some 423/\kvs.length<=i/\xM kvs (A.take i)) (bT none none none (rfl,g0,[],ag,IH _,λp q=>rfl)) (λi σ H' _ (_,_,_,_,g,_)=>aD.of (g _ _ el)) ?_ ?_)
 ·intro i y σ H1 hy h_;refine j9 h_ λo2 o3 o4 _hi=>?_
  refine iC _hi λ_r1 g1 _hj=>?_
  refine dU _hj λkvs _hk=>?_
  refine iC _hk λed lk vk=>?_
  sleep 89;sleep 34;obtain ⟨r,hr',eb⟩:=iU rA hb;have ir:=(IC.mp hr').1;refine (aJ b _ (rfl,bg.of (g1 _ _ eb),rfl,aJ _ _ (rfl,aJ _ _ 187)));refine (d,rfl,.inr (_,.inl ed),by show 2<=sizeLine;decide,λt1 n1=>(_,jU.t (k:= [.inl r.1,.inl r.2.1]) (af n1 _ _ _ ed) ag,?_))
  rw[vk,A7];refine (aJ _ _ (rfl,by show 2<=sizeLine;decide,λt2 n2=>(aJ d _ (rfl,rV.t (k:= [.inl r.1,.inl r.2.1]) (af n2 _ _ _ (af n1 _ _ _ ed)) ag 78,?_))))
  exact (bT _ _ _ (rfl,dQ ((g1.trans (af n1 _)).trans (af n2 _)) nd _,_,ag,J8 (iR _ _ _) 78,vk.put hr'))
 ·intro σ H1 h_;refine j9 h_ λo2 o3 o4 _hi=>?_
  refine iC _hi λ_r1 g1 _hj=>?_
  refine dU _hj λkvs _hk=>?_
  refine iC _hk λed lk vk=>?_
  sleep 89;rw[la,Ir] at vk;exact (q d kvs _ g1 nd ed vk)
theorem Fe {dV:Value} (F:bv K "total_by" "total_by" CZ dV f fd):bq P w K mg base bj 1 f fd ["lags","chain"] qY:=by
 have sc:aE ["lags","chain","total","p","q"] ["lags","chain"] (av CZ):=dk 47
 sleep 68
 refine fT h λd c A C _hi=>?_
 refine dU _hi λkvs _hj=>?_
 refine ip _hj λ_r1 ed vk ec1 c7 k=>?_
 sleep 41;exists _,(ah (cO 2 sc ae) (ah (aP 117 rfl (uv rfl B.KN (129<*>((bu ce 129 (bH ae) bO)<*>ac))) (cT rfl 178) (ah (aN (uc (ko 505 396 118) 133) 243 aB) (ak (yg (i:=2) sc.nd rfl (Or.inl rfl) (i9 505 118 396 36) yh)))) 313))
 try dsimp only[cxK]
 sleep 9;sleep 0;refine (ν,aJ c _ (rfl,aD.of ec1,λp1 n1=>?_))
 have cD:gU (C.map V.int) (some 1) none=(C.drop 1).map V.int:=by rw[show (1:Int)=((1:Nat):Int) from rfl,xx,List.map_drop]
 rw[cD];have g2:=af n1 370;have ed2:=af n1 370 _ _ ed;have ep:aK H p1 370 p1=some (.lst ((C.drop 1).map V.int)):=ag;generalize aK H p1 370=H2 at g2 ed2 ep⊢;have ml:min (C.map V.int).length ((C.drop 1).map V.int).length=C.length-1:=by rw[I0,I0,Io];lia
 refine (aJ c p1 (rfl,(_,aD.of (g2 _ _ ec1)),(_,aD.of ep),vE (xs:=C.map V.int) (ys:=(C.drop 1).map V.int) (λi σ H'=>∃(o4 o5:Option V) (t:Int),σ= [Lh d,Lh c,some (.int t),o4,o5]/\aC H2 H'/\mj A C i=some t) (bT none none 0 (rfl,.refl _,rfl)) (λi σ H' _ (_,_,_,_,g,_)=>(aD.of (g _ _ (g2 _ _ ec1)),aD.of (g _ _ ep))) ?_ ?_))
 ·rintro i y z σ H3 T' hy hz ⟨o4,o5,t,rfl,g3,ht⟩ nT;rw[IG] at hy hz;obtain ⟨x,hx,rfl⟩:=IF.mp hy;obtain ⟨w',hw,rfl⟩:=IF.mp hz;rw[List.getElem?_drop,Nat.add_comm] at hw;have st:=kR ht hx hw;have iw:=(IC.mp hw).1;have g4:=g3.trans (af nT 364);sleep 12;generalize aK H3 T' 364=H4 at g4⊢;have ed4:=g4 _ _ ed2;refine (by show 2<=sizeLine;decide,λt1 n1=>(aJ d _ (rfl,jU.t (k:= [.inl x,.inl w']) (af n1 _ _ _ ed4) ag,?_)))
  rw[vk];have g5:=g4.trans (af n1 364);cases hl:iN A x w' with
  |none=>
   rw[hl] at st;refine (mB.i (dy ?_));have e:d0 A C=none:=jg (i:=i+1) st 78
   have:=k _ (g2.trans g5);rw[e] at this;exact this
  |some gg=>
   rw[hl] at st;refine (mB.i (df ?_));refine (by show 2<=sizeLine;decide,λt2 n2=>(aJ d (.int gg) (rfl,?_,bT _ _ _ (rfl,g5.trans (af n2 _),st))))
   have:=jU.t (k:= [.inl x,.inl w']) (af n2 364 _ _ (af n1 364 _ _ ed4)) ag;rw[vk,hl] at this;exact this
 ·rintro σ H3 ⟨o4,o5,t,rfl,g3,ht⟩;rw[ml] at ht;have:=k _ 446;rw[show d0 A C=some t from ht] at this
  exact this
theorem Ff {dV:Value} (F:bv K "chain_total" "chain_total" C3 dV f fd) (DZ33:Dx P w K mg base bj 1 "greatest_lags" ["arcs"] [] qQ) (DZ34:Dx P w K mg base bj 1 "total_by" ["lags","chain"] [] qY):bq P w K mg base bj 2 f fd ["arcs","chain"] sQ:=by
 have sc:aE ["arcs","chain"] ["arcs","chain"] (av C3):=dk 47
 sleep 68
 refine fT h λl c A C _hi=>?_
 refine ip _hi λ_r1 hA l7 ec c7 k=>?_
 sleep 66;exists _,(ak (aw (cj DZ34 hr ((cj DZ33 hr 257)<*>501))));try dsimp only[cxK]
 refine (aJ l A (rfl,hA,l7,λd kvs H1 g1 nd ed vk=>?_))
 exact (aG d c A C (kvs,(rfl,ed,vk,g1 _ _ ec,c7,λH' g'=>k _ (g1.trans g'))))
theorem Fg {dV:Value} (F:bv K "ring_total" "ring_total" C4 dV f fd) (DZ35:Dx P w K mg base bj 2 "chain_total" ["arcs","chain"] [] sQ):bq P w K mg base bj 3 f fd ["arcs","ring"] vY:=by
 have sc:aE ["arcs","ring"] ["arcs","ring"] (av C4):=dk 47
 sleep 68
 refine fT h λl c A C _hi=>?_
 refine ip _hi λ_r1 hA l7 ec c7 k=>?_
 sleep 66;exists _,(ah (aN (au cu 150 ae 154) 243 aB) (ak (aw (cj DZ35 hr (118<*>((am bQ 129 (@aO _ _ _ _ ((ao aM 129 ae 36)<*>ac)))<*>ac))))))
 try dsimp only[cxK]
 sleep 28;sleep 0;have lc:(C.map V.int).length=C.length:=I0 _;refine (aJ c _ (rfl,.inl (aD.of ec),rfl,d2 (λe=>?_) (λe=>?_)))
 ·injection e with e
  have c0:C= []:=JF 78
  have:=k _ 170;rw[show jA A C=none from if_pos c0] at this
  exact this
 ·cases C with
  |nil=>exact absurd rfl e
  |cons x r=>
   refine (aG c _ _ _ (rfl,rfl,aD.of ec,aS (j:=0) (bY (show (x::r)[0]?=some x from rfl)),by show 1<=sizeLine;decide,λl1 n1=>(aG c l1 _ _ (rfl,rfl,af n1 _ _ _ ec,ag,by rw[lc];simp at c7⊢;lia,λp np=>?_))))
   have g:=(af n1 (.lst [.int x])).trans (af np (.lst ((x::r).map V.int++ [.int x])));refine (aG l p A ((x::r)++ [x]) (rfl,hA.same g,l7,?_,by rw[IB];simp at c7⊢;lia,λH' g'=>?_))
   ·rw[ag,Il]
    rfl
   ·have:=k _ (g.trans g');rw[show jA A (x::r)=d0 A ((x::r)++ [x]) from if_neg nofun] at this
    exact this
theorem Fh {dV:Value} (F:bv K "are_unlike_tasks" "are_unlike_tasks" C5 dV f fd):bq P w K mg base bj 1 f fd ["net","some"] (pP Ix):=by
 have sc:aE ["net","some","i"] ["net","some"] (av C5):=dk 47
 sleep 68
 refine uV h λx l S2 fz D T A B2 n _hi=>?_
 refine ip _hi λ_r1 NG t24 el sz q=>?_
 sleep 66;exists _,(ah (aP 117 rfl (aI 129) 348 (ak (aN (cS (cX dA dS ae 127 206)) 155 aB))) (ak (aw (dP cu (nU rfl rfl B.IO rfl B.KK PyProof.Rows.Boot.«len» PyProof.Rows.Boot.«set» 129) 150 154))));try dsimp only[cxK]
 sleep 28;refine dR NG.ex λdx td tl al pl fs _hi=>?_
 sleep 7
 sleep 49
 obtain ⟨vs,etl,rT⟩:=_r1;refine (l,rfl,334,aV (xs:=S2.map V.int) (λk σ H'=>H=H'/\(∃o2:Option V,σ= [Lh x,Lh l,o2])/\(S2.take k).all 410=true) (rfl,(none,rfl),rfl) (λk σ H' _ h=>by rw[<-h.1];exact aD.of el) ?_ ?_)
 ·rintro k y σ H1 hy ⟨rfl,⟨o2,rfl⟩,hall⟩;sleep 26;have bad:(decide (0<=i)&&decide (i<121))=false->cC T S2=false:=λh=>by
   unfold cC;have:S2.all 410=false:=by
    rw[<-K3,IT];intro hh;have:=hh i (ID hi);rw[h] at this;cases this
   rw[this,Jg]
  have fine:(decide (0<=i)&&decide (i<121))=true->(S2.take 291).all 410=true:=λh=>by
   rw[bG hi,List.all_append,hall,JU,List.all_cons,List.all_nil,Bool.and_true];exact h
  refine (d2 (λc1=>(aG x _ dx _ (_,(rfl,e0,B.Kb,B.Ka,l2,aJ tl _ (rfl,.inl (aD.of etl),n2 255 255))))) (λc1=>(mB.i (dy ?_))))
  ·rw[rT.1] at c2;rw[bad 353] at q
   exact q
  ·rw[rT.1] at c2;exact (rfl,⟨ν⟩,fine (by rw[decide_eq_true c1,decide_eq_true c2];rfl))
  ·rw[bad 354] at q
   exact q
 ·rintro σ H1 ⟨rfl,⟨o2,rfl⟩,hall⟩;rw[I0,Ir] at hall;refine (aJ l S2 (rfl,aD.of el,by lia,aJ l _ (rfl,.inl 305,rfl,?_)))
  have e:cC T S2=decide S2.Nodup:=by
   unfold cC;rw[hall,JU]
  rw[e,<-nV] at q;rw[I0];exact q
theorem Fi {dV:Value} (F:bv K "two_apart" "two_apart" C6 dV f fd):bq P w K mg base bj 1 f fd ["net","some"] (vZ Ix):=by
 have sc:aE ["net","some","one","other"] ["net","some"] (av C6):=dk 47
 sleep 68
 refine uV h λx l S2 fz D T A B2 n _hi=>?_
 refine dN _hi λ_r1 NG pr _hj=>?_
 refine cA _hj λel q=>?_
 sleep 41;exists _,(ah (aP 117 rfl (aI 164) (cT rfl (aH 348 (aH 331 ca))) (ak (aN (PW.pt (cK (au da 127 129 133) (cp (au da 147 129 133)))) 155 aB))) 155)
 try dsimp only[cxK]
 sleep 28;refine dR NG.ex λdx td tl al pl fs _hi=>?_
 refine jH _hi λe0 l1 l2 l3 l4 l5 ed hT _hj=>?_
 refine cA _hj λhA _r1=>?_
 obtain ⟨ks,eb,rB⟩:=_r1;refine (aG x _ dx _ (_,(rfl,e0,B.Kb,B.Kh,l4,pl,rfl,(_,aD.of eb),aV (xs:=ks.map V.ref) (λk σ H'=>H=H'/\(∃o2 o3:Option V,σ= [Lh x,Lh l,o2,o3])/\(B2.take k).any 231=false) (rfl,386,rfl) (λk σ H' _ h=>by rw[<-h.1];exact aD.of eb) ?_ ?_)))
 ·rintro k y σ H1 hy ⟨rfl,⟨o2,o3,rfl⟩,hn⟩;obtain ⟨a,ha,rfl⟩:=cF hy;have il:k<B2.length:=by rw[<-rB.1];exact (IC.mp ha).1
  have hk:=IA il;have ea:=rB.2 k a _ ha hk;obtain ⟨p,q',ek⟩:=pr _ 452;rw[ek] at ea hk;have go:(decide (p∈S2)&&decide (q'∈S2))=false->(B2.take 291).any 231=false:=λh=>by
   rw[bG hk,KI,hn,JR,Jo,List.any_nil,KF];exact h
  refine (aJ a _ (rfl,bg.of ea,rfl,aJ _ _ 187));refine (aJ l _ (rfl,.inl 305,rfl,lK S2,zw (λc1=>(aJ l _ (rfl,.inl 305,rfl,lK S2,zw 255 255))) 344))
  ·have:cY B2 S2=true:=by
    unfold cY;rw[Iv];exists _,ID hk;show (decide (p∈S2)&&decide (q'∈S2))=true;rw[decide_eq_true c1,decide_eq_true c2]
    rfl
   rw[this] at q;exact q
  ·exact (rfl,355,go 353)
  ·exact (rfl,355,go 354)
 ·rintro σ H1 ⟨rfl,⟨o2,o3,rfl⟩,hn⟩;rw[I0,rB.1,Ir] at hn;have:cY B2 S2=false:=hn;rw[this] at q;exact q
theorem Fj {dV:Value} (F:bv K "two_at_unlike_heats" "two_at_unlike_heats" C7 dV f fd) (DZ31:Dx P w K mg base bj 3 "unlike_heats" ["net","case","i","j"] [] (sT Ix)):bq P w K mg base bj 4 f fd ["net","case","some"] (v3 Ix):=by
 have sc:aE ["net","case","some","place","one","other"] ["net","case","some"] (av C7):=dk 47
 sleep 68
 refine fT h λx t l S2 _hi=>?_
 refine dN _hi λ_r1 el sz _hj=>?_
 sleep 32
 sleep 61
 refine iC _hl λNC rg q=>?_
 sleep 33;exists _,(ah (aP 117 rfl (jc rfl B.Kf 194) (cT rfl 178) (ak (aP 117 rfl (aI (bu ce 127 (bH (am aW 147 ae)) bO)) 347 (ak (aN (c5 (cj DZ31 hr (118<*>(129<*>(163<*>376))))) 155 aB))))) 155);try dsimp only[cxK]
 sleep 28;refine (l,rfl,334,gY (xs:=S2.map V.int) (λk σ H'=>aC H H'/\(∃o3 o4 o5:Option V,σ= [Lh x,Lh t,Lh l,o3,o4,o5])/\eN T P S2=eN T P (S2.drop k)) (.refl _,(bT none none none rfl),rfl) (λk σ H' _ h=>aD.of (h.1 _ _ el)) ?_ ?_)
 ·rintro k y σ H1 T' hy ⟨g1,⟨o3,o4,o5,rfl⟩,he⟩ nT';sleep 26;have kl:=(IC.mp hi).1;have dr:S2.drop k=i::S2.drop (k+1):=by
   rw[List.drop_eq_getElem_cons kl];rw[IA kl] at hi;cases hi
   rfl
  rw[dr] at he;have iT:=rg i (ID hi);have g2:=g1.trans (af nT' (.tup [.int (k:Int),.int i]));sleep 12;generalize aK H1 T' (.tup [.int (k:Int),.int i])=H2 at g2⊢;refine (ν,aJ l _ (rfl,aD.of (g2 _ _ el),λp3 np3=>?_))
  have cd:gU 476 (some ((k:Int)+1)) none=(S2.drop 291).map V.int:=by
   have:=du (xs:=S2.map V.int) (c:=k+1) 218
   rw[<-List.map_drop] at this;exact this
  rw[cd];have g3:=g2.trans (af np3 (.lst 425));have e3:aK H2 p3 (.lst 425) p3=some (.lst 425):=ag;generalize aK H2 p3 (.lst 425)=H3 at g3 e3⊢;refine (p3,rfl,(_,aD.of e3),aV (xs:=(S2.drop 291).map V.int) (λm σ H'=>aC H3 H'/\(∃o5:Option V,σ= [Lh x,Lh t,Lh l,some (.int (k:Int)),some (.int i),o5])/\((S2.drop 291).take m).any (λj=>dD T P i.toNat j.toNat)=false) (.refl _,⟨ν⟩,rfl) (λm σ H' _ h=>aD.of (h.1 _ _ e3)) ?_ ?_)
  ·rintro m y σ H4 hy ⟨g4,⟨o5,rfl⟩,hn⟩;sleep 76;have jm:j∈S2:=List.mem_of_mem_drop (ID hj);have jT:=rg j jm;sleep 70
   obtain ⟨nj,hnj⟩:∃nj:Nat,j=(nj:Int):=⟨j.toNat,by lia⟩
   refine (aG x t ni nj (by rw[hni,hnj];rfl,eX D T A B2 n P (O,(NC.same 401,by lia,by lia,λH5 g5=>(mB.i ?_)))))
   have ei:i.toNat=ni:=by lia
   have ej:j.toNat=nj:=by lia
   cases hu:dD T P ni nj with
   |true=>
    have:eN T P S2=true:=by
     rw[he];unfold eN;have:(S2.drop 291).any (λj=>dD T P i.toNat j.toNat)=true:=by
      rw[Iv];exact (j,ID hj,by rw[ei,ej];exact hu)
     rw[this,KD]
    rw[this] at q;exact dy (q _ ((g3.trans g4).trans g5))
   |false=>
    refine df (g4.trans g5,⟨ν⟩,?_);rw[bG hj,KI,hn,JR,Jo,List.any_nil,KF,ei,ej];exact hu
  ·rintro σ H4 ⟨g4,⟨o5,rfl⟩,hn⟩;rw[I0,Ir] at hn;exists g3.trans g4,373;rw[he];show ((S2.drop 291).any (λj=>dD T P i.toNat j.toNat)||eN T P (S2.drop 291))=_
   rw[hn,JR]
 ·rintro σ H1 ⟨g1,⟨o3,o4,o5,rfl⟩,he⟩;rw[I0,List.drop_length] at he;have:eN T P S2=false:=he;rw[this] at q;exact q _ g1
theorem Fk {dV:Value} (F:bv K "too_much_wanted" "too_much_wanted" C8 dV f fd) (DZ28:Dx P w K mg base bj 3 "want_of" ["net","case","i","tool"] [] (qU Ix i3)):bq P w K mg base bj 4 f fd ["net","case","some"] (zu Ix):=by
 have sc:aE ["net","case","some","tool","many"] ["net","case","some"] (av C8):=dk 47
 sleep 68
 refine fT h λx t l S2 _hi=>?_
 refine dN _hi λ_r1 els sz _hj=>?_
 sleep 32
 sleep 61
 refine iC _hl λNC rg q=>?_
 sleep 33;exists _,(ah (uy (aP 117 rfl (si (qu PySem.F.plainAttrs_dict PySem.F.slot_dict_items PySem.F.type_dict_items sf 164)) (cT rfl (aH (fH (i:=3) sc.nd rfl 252) (aH 323 ca))) (ak (aN (au gS (ay (jh rfl) rfl B.KJ PyProof.Rows.Boot.«sum» ((cQ (own:= "i") (ys:= ["net","case","tool"]) (js:= [0,1,3]) rfl 148 498 (λC fp s H=>(cj DZ28 hr (129<*>(127<*>(118<*>213))))))<*>ac)) 163 154) 155 aB)))) 155)
 try dsimp only[cxK]
 sleep 28;sleep 0;sleep 102
 sleep 7
 sleep 49
 sleep 137;obtain ⟨kl,ol,ec,ek,ho⟩:=id NC.case_;have etd:=ed.no;refine (aG x _ dx _ (_,(rfl,e0,B.Kb,B.Kd,l1,.inr (.inr (.inl (rfl,.inl (_,etd)))),aJ td _ (rfl,rfl,etd,λv nv=>?_))))
 have g:=af nv 357
 refine (bT v td _ (rfl,ag,g _ _ etd,λo nf=>?_))
 have e1:=g _ _ etd;generalize aK H v 357=H1 at g e1⊢
 have ef:aK H1 td 356 td=some (.frz o 166):=ag;have NF:=(NC.any.same g).walk (o:=o) e1;have elf:aK H1 td 356 l=some (.lst 476):=kJ e1 _ _ rfl (g _ _ els);have thaw:∀{H':Hp},aC (aK H1 td 356) H'->aC H1 (aK H' td 166):=λg=>kK e1 g
 generalize aK H1 td 356=Hf at ef NF elf thaw⊢;refine pM (λk σ H'=>aC Hf H'/\(∃o3 o4:Option V,σ= [Lh x,Lh t,Lh l,o3,o4])/\(D.take k).any (λp=>decide (p.2<(S2.map λi=>i3 T P i.toNat p.1).sum))=false) (.refl _,386,rfl) (λi σ H' _ h=>h.1 _ _ ef) ?_ ?_
 ·rintro k ky y σ H2 T' hk ⟨g2,⟨o3,o4,rfl⟩,hn⟩ nT';obtain ⟨p,hp,rfl,rfl⟩:=nH hk;have g3:=g2.trans (af nT' (.tup [kV (.inr p.1),.int p.2]));sleep 12;generalize aK H2 T' (.tup [kV (.inr p.1),.int p.2])=H3 at g3⊢;refine (l,rfl,(_,aD.of (g3 _ _ elf)),cg 284 160 (λi=>i3 T P (S2.getD i 0).toNat p.1) (aD.of (g3 _ _ elf)) 218 142 (λm y hy H4 g4 Q' hQ=>?_) λp2 H4 np2 g4 hp2=>?_)
  ·sleep 26;have iT:=rg i (ID hi);sleep 70
   rw[aL hi,show i.toNat=ni by lia] at hQ
   exact (aG x t ni p.1 (by rw[hni];rfl,eX D T A B2 n P (O,(NF.same 401,by lia,λH5 g5=>hQ _ _ g5 rfl))))
  ·sleep 138;have eus:us=(S2.map λi=>i3 T P i.toNat p.1).map V.int:=by
    rw[ru.val,I0]
    conv=>rhs;rw[<-cG S2 0]
    rw[IW,IW,IW]
    rfl
   rw[eus] at eu;refine (aJ p2 _ (rfl,aD.of eu,d2 217 217))
   ·have:lJ D T P S2=true:=by
     unfold lJ;rw[Iv];exact (p,ID hp,decide_eq_true c)
    rw[this] at q;exact (bT td o _ (401 _ _ ef,nf,q _ (g.trans (thaw 401))))
   ·exists g3.trans g4,355;rw[bG hp,KI,hn,JR,Jo,List.any_nil,KF];exact decide_eq_false c
 ·rintro σ H2 ⟨g2,⟨o3,o4,rfl⟩,hn⟩;rw[kG,Ir] at hn;have:lJ D T P S2=false:=hn;rw[this] at q;exact (bT td o _ (g2 _ _ ef,nf,q _ (g.trans (thaw g2))))
theorem Fm {dV:Value} (F:bv K "clashes" "clashes" C9 dV f fd) (DZ37:Dx P w K mg base bj 1 "are_unlike_tasks" ["net","some"] [] (pP Ix)) (DZ38:Dx P w K mg base bj 1 "two_apart" ["net","some"] [] (vZ Ix)) (DZ39:Dx P w K mg base bj 4 "two_at_unlike_heats" ["net","case","some"] [] (v3 Ix)) (DZ40:Dx P w K mg base bj 4 "too_much_wanted" ["net","case","some"] [] (zu Ix)):bq P w K mg base bj 5 f fd ["net","case","some"] (v6 Ix):=by
 have sc:aE ["net","case","some"] ["net","case","some"] (av C9):=dk 47
 sleep 68
 refine fT h λx t l S2 _hi=>?_
 refine dN _hi λ_r1 el sz _hj=>?_
 sleep 32
 sleep 61
 refine cA _hl λNC q=>?_
 sleep 33;dsimp only at q;exists _,(ah (aN (PW.pt (fr (cS (c5 (cj DZ37 hr (118<*>194)))) (dY (au dS 268 ae 154)))) 155 aB) (ak (aw (yd (cj DZ38 hr (118<*>194)) (yd (cj DZ39 hr 290) (ki (cj DZ40 hr 290)))))));try dsimp only[cxK]
 sleep 28;have cf:eB D T B2 P S2=((cC T S2&&decide (2<=S2.length))&&(cY B2 S2||(eN T P S2||lJ D T P S2))):=rfl;refine (rG x l S2 _ D T A B2 n (rfl,NC.net,NC.ok.t24,el,sz,mB.i ?_));cases hu:cC T S2 with
 |false=>
  rw[hu,Jg,Jg] at cf;rw[cf] at q;exact dy (q _ 170)
 |true=>
  obtain ⟨rg,nd⟩:=jk hu;refine df (aJ l _ (rfl,.inl 305,d2 217 217))
  ·rw[I0] at c;rw[decide_eq_false (show ¬2<=S2.length by lia),Jh,Jg] at cf
   rw[cf] at q;exact q _ 170
  ·rw[I0] at c;rw[hu,decide_eq_true (show 2<=S2.length by lia),JU,JU] at cf
   refine (rG x l S2 _ D T A B2 n (rfl,NC.net,λk hk=>?_,el,mB.i ?_))
   ·obtain ⟨p,q',e,_⟩:=NC.ok.pairs k hk;exact (aJ p q' e)
   cases ha:cY B2 S2 with
   |true=>
    rw[ha,KD] at cf;rw[cf] at q;exact dy (q _ 170)
   |false=>
    rw[ha,JR] at cf;refine df (aG x t l S2 (rfl,el,sz,eX D T A B2 n P (O,(NC.any,rg,λH1 g1=>(mB.i ?_)))))
    cases hh:eN T P S2 with
    |true=>
     rw[hh,KD] at cf;rw[cf] at q;exact dy (q _ g1)
    |false=>
     rw[hh,JR] at cf;rw[cf] at q;exact df (aG x t l S2 (rfl,g1 _ _ el,sz,eX D T A B2 n P (O,(NC.same g1,rg,λH2 g2=>q _ 209))))
theorem Fn {dV:Value} (F:bv K "turns_for" "turns_for" Da dV f fd):bq P w K mg base bj 1 f fd ["work","many"] wu:=by
 have sc:aE ["work","many"] ["work","many"] (av Da):=dk 47
 sleep 68
 obtain ⟨w,m,rfl,m1,m2,q⟩:=h;exists _,(ak (aw (mM jD (am aX (mM jD 118) 129))));try dsimp only[cxK]
 exact (ν,417,ν,q)
theorem Fo {dV:Value} (F:bv K "task_between" "task_between" Db dV f fd) (DZ24:Dx P w K mg base bj 2 "are_points" ["net","some"] [] (gJ Ix)):bq P w K mg base bj 3 f fd ["net","front","back"] (pW Ix):=by
 have sc:aE ["net","front","back","i"] ["net","front","back"] (av Db):=dk 47
 sleep 68
 refine uV h λx cf cb fz D T A B2 n _hi=>?_
 refine iO _hi λf b _hj=>?_
 refine dN _hj λ_r1 N ef _hk=>?_
 refine cA _hk λeb q=>?_
 sleep 13;exists _,(ah (aN (PW.pt (fr (au cu 150 ae 154) (dY (au cu 268 ae 154)))) 243 aB) (ah (aN (PW.pt (fr (cS (c5 (cj DZ24 hr 184))) (dY (cS (c5 (cj DZ24 hr (118<*>194))))))) 243 aB) (ah (cO 3 sc (am aX (ao aM 129 (mM jD ae) 36) ae)) (ah (aN (PW.pt (fr (au yj 147 206 154) (fr (au eZ (ao aM 129 (mM jD ae) 36) 374 154) (dY (au eZ (ao aM 127 ae 36) (am aW 374 ae) 154))))) 243 aB) 333))))
 try dsimp only[cxK]
 refine GY ?_;intro D' r4 r3 r2 r1;have no:(eP T.length f b&&(fq 197 f&&fq 197 b))=false->Q .non H:=λh=>by
  have e:oV (iK T.length 197 f b)= .non:=by unfold iK;rw[h];rfl
  sleep 139
 by_cases hf:f= []
 ·refine (aJ cf _ (rfl,.inl 520,rfl,mB.i (dT (by rw[hf];rfl) (dy (no ?_)))))
  unfold eP;rw[hf]
  rfl
 by_cases hb:b= []
 ·refine (aJ cf _ (rfl,.inl 520,rfl,mB.i (dF (Cq hf) (aJ cb _ (rfl,.inl (aD.of eb),rfl,mB.i (dT (by rw[hb];rfl) (no ?_)))))))
  unfold eP;rw[hb];simp
 refine (aJ cf _ (rfl,.inl 520,rfl,mB.i (dF (Cq hf) (aJ cb _ (rfl,.inl (aD.of eb),rfl,mB.i (dF (Cq hb) ?_))))));refine (rG x cf fz D T A B2 n f (rfl,N,ef,mB.i ?_));cases h1:fq (2*(T.length:Int)+n) f with
 |false=>exact dy (dy (no (by rw[h1];simp)))
 |true=>
  refine df (rG x cb fz D T A B2 n b (rfl,N,eb,mB.i ?_));cases h2:fq (2*(T.length:Int)+n) b with
  |false=>exact dy (no (by rw[h2];simp))
  |true=>
   refine df ?_;refine dR N.ex λdx td tl al pl fs _hi=>?_
   sleep 7
   sleep 49
   sleep 137;have l0:0<=eJ f:=by
    unfold fq at h1;rw[IT] at h1;have:=h1 _ (tF hf);rw[II] at this;exact of_decide_eq_true this.1
   have t0:0<=fh f:=Int.fdiv_nonneg l0 41
   have bad:¬((eJ f=2*fh f/\0<=fh f/\fh f<121)/\lU b=eJ f+1)->(eP T.length f b&&(fq 197 f&&fq 197 b))=false:=λh=>by
    have:eP T.length f b=false:=by
     unfold eP;rw[<-Bool.decide_and,decide_eq_false h,Jh]
    rw[this]
    rfl
   refine (ν,aG cf _ _ _ (rfl,rfl,aD.of ef,(wA hf),135,?_))
   refine (aG x _ dx _ (_,(rfl,e0,B.Kb,B.Ka,l2,aJ tl _ (rfl,.inl 305,d2 217 217))))
   ·rw[rT.1] at c;exact dy (no (bad λh=>by have:=h.1.2.2;unfold fh at this;lia))
   rw[rT.1] at c;refine (ν,aG cf _ _ _ (rfl,rfl,aD.of ef,(wA hf),126 41,rfl,Ai (λc2=>dy (no (bad λh=>c2 h.1.1))) 255))
   refine (aG cb _ _ _ (rfl,rfl,aD.of eb,(Bh hb),126 41,rfl,Ai (λc3=>no (bad λh=>c3 (h.2.trans (congrArg (· +1) c2)))) (λc3=>?_)))
   have e:iK T.length 197 f b=some (fh f):=by
    rw[fF];refine ((?_,h1,h2),rfl);unfold eP;have:decide (eJ f=2*fh f/\0<=fh f/\fh f<121)=true:=decide_eq_true (c2,t0,by unfold fh;lia)
    rw[this,decide_eq_true (show lU b=eJ f+1 by rw[c3,<-c2])]
    simp[hf,hb]
   sleep 139
theorem Fp {dV:Value} (F:bv K "tasks_between" "tasks_between" Dc dV f fd) (DZ43:Dx P w K mg base bj 3 "task_between" ["net","front","back"] [] (pW Ix)):bq P w K mg base bj 4 f fd ["net","fronts","backs"] (n9 Ix):=by
 have sc:aE ["net","fronts","backs","tasks"] ["net","fronts","backs"] (av Dc):=dk 47
 sleep 68
 refine uV h λx lf lb fz D T A B2 n _hi=>?_
 refine iO _hi λF2 G _hj=>?_
 refine ip _hj λ_r1 N hF hG f1 _hk=>?_
 refine cA _hk λg1 q=>?_
 sleep 13;exists _,(ah (aN (PW.pt (fr (au eZ 150 268 154) (dY (au cu 150 ae 154)))) 243 aB) (ah (yW sc.nd (i:=3) rfl rfl (os:= ["front","back"]) (ys:= ["net"]) (js:= [0]) rfl (EC (gG gR) 371 rfl rfl rfl rfl rfl rfl rfl) (uv rfl B.KN (129<*>194)) (λC fp s H=>vK (K:=K) (n:=2) rfl rfl (aH (j4 (os:= ["front","back"]) (ys:= ["net"]) (i:=0) 41 rfl rfl) (aH (j4 (os:= ["front","back"]) (ys:= ["net"]) (i:=1) 41 rfl rfl) ca))) (λC fp s H=>(cj DZ43 hr (127<*>184)))) (ah (aN (PW.pt (fr (au da bz 147 133) (dY (au eZ (nU rfl rfl B.IO rfl B.KK PyProof.Rows.Boot.«len» PyProof.Rows.Boot.«set» 147) 309 154)))) 243 aB) 333)))
 try dsimp only[cxK]
 sleep 88;sleep 0;obtain ⟨vf,ef,rf⟩:=id hF;obtain ⟨vg,eg,rg⟩:=id hG;have lF:vf.length=F2.length:=rf.1;have lG:vg.length=G.length:=rg.1;have no:(dM T.length F2 G&&(dv 197 F2&&dv 197 G))=false->∀H',aC H H'->Q .non H':=λh H' g=>by
  refine q _ _ g ?_;have e:gP T.length 197 F2 G=none:=by unfold gP;rw[h];rfl
  rw[e]
  rfl
 refine (aJ lf _ (rfl,.inl 520,aJ lb _ (rfl,.inl (aD.of eg),rfl,Ai (λc=>dy (no ?_ _ 170)) 217)))
 ·have:jB T.length F2 G=false:=by
   rw[<-K3,eV];exact λh=>c (by rw[lF,lG,h.1])
  unfold dM;rw[this];simp
 have hl:F2.length=G.length:=by lia
 refine (aJ lf _ (rfl,.inl 520,rfl,xg (λc0=>no ?_ _ 170) (λc0=>?_)))
 ·have:F2= []:=JF 78
  unfold dM;rw[this]
  rfl
 refine (aJ lf lb (rfl,(_,aD.of ef),(_,aD.of eg),Bg (fg oV) 160 (λk=>iK T.length 197 517 453) 520 (aD.of eg) 78 142 (λk y z hy hz H2 g2 T' nT o ho Q' hQ=>?_) λlt H2 nlt g2 ht=>?_))
 ·obtain ⟨o1,o2,rfl⟩:=zL ho;obtain ⟨f,hf,hc1⟩:=rf.at_ hy;obtain ⟨b,hb,hc2⟩:=rg.at_ hz;obtain ⟨cf,rfl,_,ecf⟩:=lQ hc1;obtain ⟨cb,rfl,_,ecb⟩:=lQ hc2;have g3:=g2.trans (af nT (.tup [.ref cf,.ref cb]));rw[aL hf,aL hb] at hQ;exact (aJ T' _ (rfl,bg.of ag,rfl,aJ _ _ (rfl,aJ _ _ (rfl,rfl,([some (.ref cf),some (.ref cb)],rfl,rfl),rG x cf cb fz D T A B2 n (aJ f b (rfl,N.same g3,g3 _ _ ecf,g3 _ _ ecb,hQ _ _ 170 rfl))))))
 obtain ⟨vs,et,rt⟩:=ht;rw[show min vf.length vg.length=F2.length by lia] at rt
 rw[rt.val] at et;refine (aJ lt _ (rfl,.inl (aD.of et),rfl,zM _,Cr (λc1=>dy (no (u3 hl c1) _ g2)) 344))
 obtain ⟨e1,zk,p1,p2⟩:=uZ hl c1;rw[e1] at et;have et2:H2 lt=some (.lst ((F2.map fh).map V.int)):=by
  rw[et,IW,IW,IW]
  rfl
 refine (aJ lt (F2.map fh) (rfl,aD.of et2,by rw[I0];lia,aJ lt _ (rfl,.inl (aD.of et2),rfl,Ai (λc2=>no ?_ _ g2) 255)))
 ·have:¬(F2.map fh).Nodup:=λnd=>c2 (by rw[iy.mpr nd,I0 (as:=F2.map fh)])
  unfold dM;rw[decide_eq_false this];simp
 have nd:(F2.map fh).Nodup:=iy.mp (by rw[I0 (as:=F2.map fh)] at c2;lia)
 refine (q _ _ g2 ?_);have e:gP T.length 197 F2 G=some (F2.map fh):=by
  unfold gP dM;rw[zk,p1,p2,decide_eq_true nd];have:F2≠ []:=λe=>c0 (by rw[lF,e];rfl)
  cases F2 with
  |nil=>exact absurd rfl this
  |cons _ _=>rfl
 rw[e];exact (lt,rfl,et2)
theorem Fq {dV:Value} (F:bv K "stretch_total" "stretch_total" Dd dV f fd) (DZ29:Dx P w K mg base bj 3 "work_of" ["net","case","i","tool"] [] (qU Ix fA)) (DZ32:Dx P w K mg base bj 3 "arcs_of" ["net","case"] [] (ke Ix)) (DZ33:Dx P w K mg base bj 1 "greatest_lags" ["arcs"] [] qQ) (DZ34:Dx P w K mg base bj 1 "total_by" ["lags","chain"] [] qY) (DZ42:Dx P w K mg base bj 1 "turns_for" ["work","many"] [] wu) (DZ44:Dx P w K mg base bj 4 "tasks_between" ["net","fronts","backs"] [] (n9 Ix)):bq P w K mg base bj 5 f fd ["net","case","tool","fronts","backs"] (tE Ix):=by
 have sc:aE ["net","case","tool","fronts","backs","tasks","lags","heads","tails","work"] ["net","case","tool","fronts","backs"] (av Dd):=dk 47
 sleep 68
 refine dR h λx t z lf lb F2 _hi=>?_
 refine dU _hi λG _hj=>?_
 refine ip _hj λ_r1 hF hG f1 g1' _hk=>?_
 refine iC _hk λfl gl _hl=>?_
 refine dR _hl λD T A B2 n P _hm=>?_
 refine dU _hm λO _hn=>?_
 refine dN _hn λNC po l7 q=>?_
 clear h _hi _hj _hk _hl _hm _hn;subst _r1;exists _,(ah (cO 5 sc (cj DZ44 hr (118<*>(147<*>264)))) (ah (aN (PW.pt (fr (uc (ko 505 127 164) 133) (dY (au gK 193 bz 154)))) 243 aB) (ah (fQ (i:=6) sc.nd rfl 252 (cj DZ33 hr ((cj DZ32 hr 184)<*>ac))) (ah (hE (own:= "chain") (ys:= ["lags"]) (js:= [6]) sc.nd (i:=7) rfl rfl rfl 120 (aI 147) (λC fp s H=>(cj DZ34 hr (129<*>257)))) (ah (hE (own:= "chain") (ys:= ["lags"]) (js:= [6]) sc.nd (i:=8) rfl rfl rfl 120 (aI 163) (λC fp s H=>(cj DZ34 hr (129<*>257)))) (ah (aN (PW.pt (fr (au da bz 346 133) (dY (au da bz 435 133)))) 243 aB) (ah (cO 9 sc (ay (jh rfl) rfl B.KJ PyProof.Rows.Boot.«sum» ((cQ (own:= "i") (ys:= ["net","case","tool"]) (js:= [0,1,2]) rfl 148 (aI 193) (λC fp s H=>(cj DZ29 hr (129<*>(127<*>(118<*>213))))))<*>ac))) (ak (aw (am aW (am aW (ay (eR rfl) rfl B.Kn boot_min (346<*>ac)) (ay (eR rfl) rfl B.Kn boot_min (435<*>ac))) (cj DZ42 hr (510<*>((i9 505 164 127 36)<*>ac)))))))))))))
 try dsimp only[cxK]
 sleep 85;sleep 0;have tr:∀k∈A,∃p q g:Int,k= [p,q,g]:=λk hk=>by
  obtain ⟨p,q,g,e,_⟩:=NC.ok.arcs k hk;exact (bT p q g e)
 have no:mr D T P 191 197 z F2 G=none->∀H',aC H H'->Q .non H':=λh H' g=>by
  have:=q H' g;rw[h] at this;exact this
 refine (rG x lf lb false D T A B2 n (aJ F2 G (rfl,NC.net,hF,hG,f1,g1',λv H1 g1 hv=>?_)))
 refine dR ((NC.net.same g1).ex) λdx td tl al pl fs _hi=>?_
 refine jH _hi λe0 l1 l2 l3 l4 l5 ed hT _hj=>?_
 sleep 49
 replace ed:=ed.no;cases hm:c6 D z with
 |none=>
  refine (aG x _ dx _ (_,(rfl,e0,B.Kb,B.Kd,l1,aJ td _ (rfl,Ct (.inl ed) hm,no ?_ _ g1))));unfold mr;rw[hm]
  split<;>rfl
 |some m=>
  obtain ⟨m1,m8⟩:1<=m/\m<=8:=by
   obtain ⟨p,hp,e⟩:=zN hm;have:=NC.ok.tool p hp;rw[e] at this;exact this.2
  refine (aG x _ dx _ (_,(rfl,e0,B.Kb,B.Kd,l1,aJ td _ (rfl,kQ (.inl ed) hm,mB.i (df ?_)))));cases ht:gP T.length (2*(T.length:Int)+n) F2 G with
  |none=>
   rw[ht] at hv;replace hv:v= .non:=hv;subst hv;refine (rfl,mB.i (dT rfl (no ?_ _ g1)));exact xS ht
  |some S2=>
   rw[ht] at hv;obtain ⟨lt,rfl,et⟩:=hv;obtain ⟨eS,tk,p1,p2⟩:=tH ht;subst eS;refine (rfl,mB.i (dF nofun ?_));refine (aJ x t (rfl,eX D T A B2 n P (O,((NC.same g1).any,po,λla H2 g2 nla hA2=>?_))))
   have trF:=jJ (T:=T) (P:=P) (O:=O) tr;have lA:((cJ A T P O).map jo).length<=700:=by
    rw[I0];unfold cJ ju;rw[IB,IB,dI,I0]
    lia
   have no2:eC 191 197 F2=none∨eC 191 197 G=none->∀H',aC H H'->Q .non H':=λh=>no (kS h)
   refine (aJ la _ (rfl,kf hA2 trF,lA,λd kvs H3 g3 nd edk vk=>?_))
   generalize (cJ A T P O).map jo=Ar at q no no2 vk lA;have k3:=(g1.trans g2).trans g3;obtain ⟨vf,ef,rf⟩:=hF.same k3;have lf':vf.length=F2.length:=rf.1;refine (lf,rfl,(_,aD.of ef),cg (fg oV) 160 (λk=>d0 Ar 517) 520 (by rw[rf.1];lia) 142 237 λlh H4 nlh g4 hh=>?_)
   ·obtain ⟨f,hf,hc⟩:=rf.at_ hy;obtain ⟨c,rfl,_,ec⟩:=lQ hc;rw[aL hf] at hQ;exact (aG d c Ar f (kvs,(rfl,gk _ _ edk,vk,gk _ _ ec,fl f (ID hf),λH' g'=>hQ _ _ g' rfl)))
   obtain ⟨wh,eh,rh⟩:=hh;rw[rf.1] at rh;rw[rh.val] at eh;have eF:(Ip F2.length).map (λk=>d0 Ar 517)=F2.map (d0 Ar):=by
    conv=>rhs;rw[<-cG F2 []]
    rw[IW]
    rfl
   rw[eF] at eh;have k4:=k3.trans g4;obtain ⟨vg,eg,rg⟩:=hG.same k4;have lg':vg.length=G.length:=rg.1;refine (lb,rfl,(_,aD.of eg),cg (fg oV) 160 (λk=>d0 Ar 453) (aD.of eg) (by rw[rg.1];lia) 142 237 λlN H5 nlt2 g5 hh2=>?_)
   ·obtain ⟨f,hf,hc⟩:=rg.at_ hy;obtain ⟨c,rfl,_,ec⟩:=lQ hc;rw[aL hf] at hQ;exact (aG d c Ar f (kvs,(rfl,(g4.trans gk) _ _ edk,vk,gk _ _ ec,gl f (ID hf),λH' g'=>hQ _ _ g' rfl)))
   obtain ⟨wt,et2,rt⟩:=hh2;rw[rg.1] at rt;rw[rt.val] at et2;have eG:(Ip G.length).map (λk=>d0 Ar 453)=G.map (d0 Ar):=by
    conv=>rhs;rw[<-cG G []]
    rw[IW]
    rfl
   rw[eG] at et2;have k5:=k4.trans g5;have eh5:=g5 _ _ eh;clear eF eG rh rt rf rg ef eg;refine (aJ lh _ (rfl,.inl (aD.of eh5),rfl,zM _,Cr (λc1=>dy (no2 (.inl (oa c1)) _ k5)) 344))
   refine (aJ lN _ (rfl,.inl (aD.of et2),rfl,zM _,Cr (λc2=>no2 (.inr (oa c2)) _ k5) 255))
   rw[pX c1] at eh5;rw[pX c2] at et2;have et5:=(((g2.trans g3).trans g4).trans g5) _ _ et;have NC5:=NC.same k5;obtain ⟨nF,zk,ndF⟩:=lV.mp tk;have nG:G≠ []:=λe=>nF (JF (by rw[(eV.mp zk).1,e];rfl))
   refine (lt,rfl,(_,aD.of et5),cg 284 160 (λk=>fA T P (fh 517).toNat z) (aD.of et5) (by rw[I0,I0];lia) 142 237 λlw H6 nlw g6 hw=>?_)
   ·rw[IG,IG] at hy;obtain ⟨i,hi,rfl⟩:=IF.mp hy;obtain ⟨f,hf,rfl⟩:=IF.mp hi;rw[aL hf] at hQ;have kl:=(IC.mp hf).1;obtain ⟨j,jl,ej⟩:=tG ((eV.mp zk).2 k _ _ hf (IA (show k<G.length by rw[<-(eV.mp zk).1];exact kl)))
    rw[ej,IP] at hQ;exact (aG x t j z (by rw[ej];rfl,eX D T A B2 n P (O,((NC5.same gk).any,jl,λH' g'=>hQ _ _ g' rfl))))
   obtain ⟨ww,ew,rw'⟩:=hw;rw[rw'.val] at ew;have eW:((Ip (((F2.map fh).map V.int).length)).map λk=>fA T P (fh 517).toNat z)=F2.map λf=>fA T P (fh f).toNat z:=by
    rw[I0,I0]
    conv=>rhs;rw[<-cG F2 []]
    rw[IW]
    rfl
   rw[eW] at ew;refine (aJ lw _ (rfl,aD.of ew,?_));have k6:=k5.trans g6;refine dR ((NC5.same g6).net.ex) λdx' td' tl' al' pl' fs' _hi=>?_
   refine ip _hi λe0' l1' _ _ _ _hj=>?_
   refine iC _hj λ_ ed' _=>?_
   replace ed':=ed'.no;refine (aJ lh _ (rfl,aD.of (g6 _ _ eh5),by simpa using nF,λM hM hle=>(aJ lN _ (rfl,aD.of (g6 _ _ et2),by simpa using nG,λM2 hM2 hle2=>?_))))
   rw[gI hM hle,gI hM2 hle2];refine (aG x _ dx' _ (_,(rfl,e0',B.Kb,B.Kd,l1',aJ td' _ (rfl,kQ (.inl ed') hm,aJ _ m (rfl,m1,by lia,?_)))))
   have e:mr D T P Ar 197 z F2 G=some (dL Ar F2+dL Ar G+ -((-(n6 T P z F2)).fdiv m)):=by
    unfold mr;rw[if_pos tk,hm];unfold eC;rw[p1,p2,jK.mpr c1,jK.mpr c2]
    rfl
   have:=q _ k6;rw[e] at this;exact this
theorem Fr {dV:Value} (F:bv K "has_order_of" "has_order_of" De dV f fd):bq P w K mg base bj 1 f fd ["case","tasks"] oj:=by
 have sc:aE ["case","tasks","i","j"] ["case","tasks"] (av De):=dk 47
 sleep 68
 refine fT h λt l P O _hi=>?_
 refine dU _hi λS2 _hj=>?_
 refine dN _hj λ_r1 _r2 pr _hk=>?_
 refine cA _hk λel q=>?_
 sleep 13;obtain ⟨kl,ol,ec,ek,⟨ks,eb,rB⟩⟩:=_r2;exists _,(ah (aP 117 rfl (aI 140) (cT rfl (aH 348 (aH 331 ca))) (ak (aN (PW.pt (cK (au da 127 129 133) (cp (au da 147 129 133)))) 155 aB))) 155)
 try dsimp only[cxK]
 sleep 28;refine (aG t _ _ _ (rfl,rfl,bg.of ec,rfl,ol,rfl,(_,aD.of eb),aV (xs:=ks.map V.ref) (λk σ H'=>H=H'/\(∃o2 o3:Option V,σ= [Lh t,Lh l,o2,o3])/\(O.take k).any 231=false) (rfl,386,rfl) (λk σ H' _ h=>by rw[<-h.1];exact aD.of eb) ?_ ?_))
 ·rintro k y σ H1 hy ⟨rfl,⟨o2,o3,rfl⟩,hn⟩;obtain ⟨a,ha,rfl⟩:=cF hy;have il:k<O.length:=by rw[<-rB.1];exact (IC.mp ha).1
  have hk:=IA il;have ea:=rB.2 k a _ ha hk;obtain ⟨p,q',ek⟩:=pr.2 _ 452;rw[ek] at ea hk;have go:(decide (p∈S2)&&decide (q'∈S2))=false->(O.take 291).any 231=false:=λh=>by
   rw[bG hk,KI,hn,JR,Jo,List.any_nil,KF];exact h
  refine (aJ a _ (rfl,bg.of ea,rfl,aJ _ _ 187));refine (aJ l _ (rfl,.inl 305,rfl,lK S2,zw (λc1=>(aJ l _ (rfl,.inl 305,rfl,lK S2,zw 255 255))) 344))
  ·have:cY O S2=true:=by
    unfold cY;rw[Iv];exists _,ID hk;show (decide (p∈S2)&&decide (q'∈S2))=true;rw[decide_eq_true c1,decide_eq_true c2]
    rfl
   rw[this] at q;exact q
  ·exact (rfl,355,go 353)
  ·exact (rfl,355,go 354)
 ·rintro σ H1 ⟨rfl,⟨o2,o3,rfl⟩,hn⟩;rw[I0,rB.1,Ir] at hn;have:cY O S2=false:=hn;rw[this] at q;exact q
theorem Fs {dV:Value} (F:bv K "cases_of_split" "cases_of_split" Df dV f fd) (DZ41:Dx P w K mg base bj 5 "clashes" ["net","case","some"] [] (v6 Ix)) (DZ46:Dx P w K mg base bj 1 "has_order_of" ["case","tasks"] [] oj):bq P w K mg base bj 6 f fd ["net","case","tasks"] (p8 Ix):=by
 have sc:aE ["net","case","tasks","cases","one","other"] ["net","case","tasks"] (av Df):=dk (by decide+kernel)
 sleep 68
 refine fT h λx t l S2 _hi=>?_
 refine dN _hi λ_r1 el s8 _hj=>?_
 sleep 32
 sleep 61
 refine iC _hl λNC po q=>?_
 sleep 33;exists _,(ah (aN (PW.pt (fr (cS (c5 (cj DZ41 hr 290))) (dY (c5 (cj DZ46 hr (129<*>194)))))) 243 aB) (ah (cO 3 sc 146) (ah (aP 117 rfl 498 323 (ak (aP 117 rfl 498 347 (ak (aN (au eZ 163 193 154) (ak (bI (de IN Ij IZ bx 147 ((@bc _ _ _ _ _ ((cM cy rfl B.Ke boot_list (143<*>ac))<*>((am bQ 143 (@aO _ _ _ _ ((@bc _ _ _ _ _ (163<*>376))<*>ac)))<*>ac)))<*>ac)))) aB))))) 333)))
 try dsimp only[cxK]
 sleep 88;sleep 0;have rF:gy D T B2 P O (.split S2)=(!cY O S2&&eB D T B2 P S2):=rfl;refine (aG x t l S2 (rfl,el,by lia,eX D T A B2 n P (O,(NC,λH1 g1=>(mB.i ?_)))))
 cases hc:eB D T B2 P S2 with
 |false=>exact dy (q _ _ g1 (.inl ⟨by rw[rF,hc,Jh],rfl⟩))
 |true=>
  have hC:=NC.case_.same g1;obtain ⟨kl,ol,ec,ek,⟨bo,eo,ro⟩⟩:=id hC;have el1:=g1 _ _ el;refine df (aG t l P O (S2,(rfl,hC,po,el1,mB.i ?_)));cases ha:cY O S2 with
  |true=>exact dy (q _ _ g1 (.inl ⟨by rw[rF,ha];rfl,rfl⟩))
  |false=>
   refine df (by show 0<=sizeLine;decide,λlc nlc=>?_)
   have lbo:bo.length<=1000:=by rw[ro.1];exact po.1
   refine (l,rfl,(_,aD.of (af nlc _ _ _ el1)),aV (xs:=S2.map V.int) (λk σ H'=>(∃o4 o5:Option V,σ= [Lh x,Lh t,Lh l,Lh lc,o4,o5])/\aC H1 H'/\∃zs,zs.map (·.2)=dw P O S2 (S2.take k)/\tO H1 H' lc zs) (386,af nlc _,[],rfl,tO.nil nlc) (λk σ H' _ h=>aD.of (h.2.1 _ _ el1)) ?_ ?_)
   ·rintro k y σ H2 hy ⟨⟨o4,o5,rfl⟩,g2,zs,ez,cn⟩;sleep 26;refine (l,rfl,(_,aD.of (g2 _ _ el1)),aV (xs:=S2.map V.int) (λm σ H'=>(∃o5:Option V,σ= [Lh x,Lh t,Lh l,Lh lc,some (.int i),o5])/\aC H1 H'/\∃zs,zs.map (·.2)=dw P O S2 (S2.take k)++((S2.take m).filter λj=> !decide 319).map (λj=>283)/\tO H1 H' lc zs) (⟨ν⟩,g2,zs,by rw[ez];simp,cn) (λk σ H' _ h=>aD.of (h.2.1 _ _ el1)) ?_ ?_)
    ·rintro m y σ H3 hy ⟨⟨o5,rfl⟩,g3,zs,ez,cn⟩;sleep 76;refine (rfl,n2 344 (λc1=>(⟨ν⟩,g3,zs,by rw[ez,bG hj,jq,if_pos c1,Ji],cn)))
     have lz:zs.length<=1000:=by
      have h1:=congrArg List.length ez;rw[I0,IB,I0] at h1;have h2:=iG (P:=P) (O:=O) (S:=S2) (S1:=S2.take k);have h3:(S2.take k).length*S2.length<=8*8:=KC (by rw[IR];lia) s8
      have h4:=Jt (λj=> !decide 319) (S2.take m)
      rw[IR] at h4
      lia
     refine (.inl (rfl,_,aD.of cn.e),aG t _ _ _ (rfl,rfl,bg.of (g3 _ _ ec),rfl,aJ kl _ (rfl,.inl (aD.of (g3 _ _ ek)),λp np=>?_)))
     have e1:=af np 404;refine (aG t _ _ _ (rfl,rfl,bg.of (e1 _ _ (g3 _ _ ec)),rfl,by show 2<=sizeLine;decide,λt1 nt1=>383))
     have e2:=af nt1 (.tup [.int i,.int j]);have e3:=af nl1 491;have k3:=g3.trans ((e1.trans e2).trans e3);refine (aG ol l1 _ _ (rfl,rfl,k3 _ _ eo,ag,by rw[I0];simp;lia,λo no=>?_))
     have hO:=i5 (ro.imp λa k q=>k3 _ _ q) (dZ.one (k:= [i,j]) (a:=t1) (e3 _ _ ag)) no
     have e4:=af no (.lst (bo.map V.ref++ [.ref t1]));refine 382
     have e5:=af nt2 463;have ge:=(((e1.trans e2).trans e3).trans e4).trans e5;have ep:=(((e2.trans e3).trans e4).trans e5) _ _ (ag (H:=H3) (a:=p) (o:= .lst (P.map iJ)));have no3:H3 o=none:=((e1.trans e2).trans e3).free no;have po':p≠o:=λz=>by
      have q1:=(e2.trans e3) p _ ag;subst z;rw[q1] at no;cases no
     refine (bT lc _ _ (rfl,rfl,ge _ _ cn.e,by rw[I0];lia,⟨ν⟩,dQ 497 nlc _,_,?_,cn.put g3 ge np no3 po' ag ep (hO.same e5)))
     rw[Il,ez,bG hj,jq,if_neg c1,JE]
     rfl
    ·rintro σ H3 ⟨⟨o5,rfl⟩,g3,zs,ez,cn⟩;rw[I0,Ir] at ez;exact (355,g3,zs,by rw[ez,bG hi,lX],cn)
   ·rintro σ H2 ⟨⟨o4,o5,rfl⟩,g2,zs,ez,cn⟩;rw[I0,Ir] at ez;exact (q _ _ 209 (.inr (by rw[rF,ha,hc];rfl,aJ lc zs (rfl,ez,cn.later g1))))
theorem Ft {dV:Value} (F:bv K "with_pick" "with_pick" Dg dV f fd):bq P w K mg base bj 1 f fd ["case","i","way"] om:=by
 have sc:aE ["case","i","way","picks"] ["case","i","way"] (av Dg):=dk 47
 sleep 68
 refine fT h λt i j P _hi=>?_
 refine dU _hi λO _hj=>?_
 refine ip _hj λ_r1 _r2 il p24 po q=>?_
 sleep 41;obtain ⟨kl,ol,ec,ek,⟨bo,eo,ro⟩⟩:=_r2;exists _,(ah (cO 3 sc (cM cy rfl B.Ke boot_list (140<*>ac))) (ah (kj 127 (yf 147 129 set_list)) (ak (aw (@bc _ _ _ _ _ (147<*>((cM cy rfl B.Ke boot_list (140<*>ac))<*>ac)))))))
 try dsimp only[cxK]
 sleep 9;sleep 0;refine (aG t _ _ _ (rfl,rfl,bg.of ec,rfl,aJ kl _ (rfl,.inl (aD.of ek),λp np=>?_)))
 have e1:=af np 404;refine (aG p _ _ i (rfl,rfl,ag,?_,?_))
 ·rw[I0];exact vI il
 have g1:=dQ e1 np 392;have ep:aK (aK H p 404) p 392 p=some (.lst ((P.set i 472).map iJ)):=by
  rw[ag,List.map_set]
  rfl
 generalize aK (aK H p 404) p 392=H1 at g1 ep⊢;refine (aG t _ _ _ (rfl,rfl,bg.of (g1 _ _ ec),rfl,aJ ol _ (rfl,.inl (aD.of (g1 _ _ eo)),λo no=>382)))
 have e2:=af no (.lst (bo.map V.ref));have e3:=af nt2 463;exact q t2 p o _ ((g1.trans e2).trans e3) np (g1.free no) (λz=>by rw[z,no] at ep;cases ep) ag (e3 _ _ (e2 _ _ ep)) (bo,e3 _ _ ag,ro.imp λa k q=>e3 _ _ (e2 _ _ (g1 _ _ q)))
theorem Fu {dV:Value} (F:bv K "cases_of_ways" "cases_of_ways" Dh dV f fd) (DZ48:Dx P w K mg base bj 1 "with_pick" ["case","i","way"] [] om):bq P w K mg base bj 2 f fd ["net","case","i"] (wE Ix):=by
 have sc:aE ["net","case","i"] ["net","case","i"] (av Dh):=dk 47
 sleep 68
 refine j9 h λx t i _hi=>?_
 sleep 46
 sleep 32
 sleep 61
 refine iC _hl λNC po q=>?_
 sleep 33;exists _,(ah (aN (cS (cX dA dS ae 127 206)) 243 aB) (ah (aN (PW.pt (fr (au eZ (ay ar rfl B.IO boot_len ((ao aM 164 127 36)<*>ac)) ae 154) (dY (au gD 447 bz 154)))) 243 aB) (ak (aw (@aO _ _ _ _ ((cj DZ48 hr (129<*>(127<*>420)))<*>((cj DZ48 hr (129<*>(127<*>420)))<*>ac)))))))
 try dsimp only[cxK]
 sleep 9;sleep 102
 sleep 7
 sleep 49
 obtain ⟨vs,etl,rT⟩:=_r1;obtain ⟨kl,ol,ec,ek,ho⟩:=id NC.case_;have t24:=NC.ok.t24;have no:ii T P i=false->Q .non H:=λh=>q _ _ 170 (.inl (h,rfl))
 have wF:ii T P i=((decide (0<=i)&&decide (i<121))&&(decide ((T.getD i.toNat []).length=2)&&decide (P.getD i.toNat none=none))):=rfl;refine (d2 (λc1=>(aG x _ dx _ (_,(rfl,e0,B.Kb,B.Ka,l2,aJ tl _ (rfl,.inl (aD.of etl),n2 255 255))))) (λc1=>(no (by rw[wF,decide_eq_false c1];rfl))))
 ·rw[rT.1] at c2;exact no (by rw[wF,decide_eq_false c2,Jh];rfl)
 rw[rT.1] at c2;obtain ⟨k,rfl⟩:∃k:Nat,i=(k:Int):=494
 have kl':k<T.length:=by lia
 have hT:=IA kl';obtain ⟨y,hy,wl,rfl,_,lw⟩:=rT.get hT;obtain ⟨us,eu,ru⟩:=id lw;have hP:=IA (show k<P.length by rw[NC.pk.len];exact kl')
 rw[IP,aL hT,aL hP,decide_eq_true c1,decide_eq_true c2,JU,JU] at wF;refine (aG x _ dx _ (_,(rfl,e0,B.Kb,B.Ka,l2,aG tl _ _ _ (rfl,rfl,aD.of etl,(aS hy),aJ wl _ (rfl,.inl (aD.of eu),rfl,Ai (λc3=>?_) (λc3=>?_))))))
 ·rw[ru.1] at c3;exact no (by rw[wF,decide_eq_false 78];rfl)
 rw[ru.1] at c3;rw[decide_eq_true (show (T[k]).length=2 by lia),JU] at wF
 refine (aG t _ _ _ (rfl,rfl,bg.of ec,rfl,aG kl _ _ _ (rfl,rfl,aD.of ek,(aS (bY hP)),rfl,mB.i ?_)));cases hp:P[k]'(by rw[NC.pk.len];exact kl') with
 |some j=>exact nT nofun (no (by rw[wF,hp];rfl))
 |none=>
  rw[hp] at wF;refine nF rfl (aG t k 0 P (O,(rfl,NC.case_,by rw[NC.pk.len];exact kl',by rw[NC.pk.len];exact t24,po,λt1 p1 o1 H1 g1 np1 no1 po1 et1 ep1 eo1=>(aG t k 1 P (O,(rfl,NC.case_.same g1,by rw[NC.pk.len];exact kl',by rw[NC.pk.len];exact t24,po,λt2 p2 o2 H2 g2 np2 no2 po2 et2 ep2 eo2=>(by show 2<=sizeLine;decide,λlc nlc=>?_)))))))
  exact q _ _ ((g1.trans g2).trans (af nlc _)) (.inr (by rw[wF];rfl,aJ lc _ (rfl,rfl,tO.two g1 g2 np1 no1 po1 et1 ep1 eo1 np2 no2 po2 et2 ep2 eo2 nlc)))
theorem Fv {dV:Value} (F:bv K "parted" "parted" Di dV f fd) (DZ47:Dx P w K mg base bj 6 "cases_of_split" ["net","case","tasks"] [] (p8 Ix)) (DZ49:Dx P w K mg base bj 2 "cases_of_ways" ["net","case","i"] [] (wE Ix)):bq P w K mg base bj 7 f fd ["net","case","row"] (tQ Ix):=by
 have sc:aE ["net","case","row"] ["net","case","row"] (av Di):=dk 47
 sleep 68
 refine fT h λx t r w _hi=>?_
 refine dN _hi λ_r1 hrw ok _hj=>?_
 sleep 32
 sleep 61
 refine iC _hl λNC po q=>?_
 sleep 33;exists _,(ah (aN (au cu 152 bW 154) (ak (aw (cj DZ47 hr (118<*>(129<*>(152<*>ac)))))) aB) (ah (aN (au cu 152 bW 154) (ak (aw (cj DZ49 hr (118<*>(129<*>(152<*>ac)))))) aB) 243))
 try dsimp only[cxK]
 sleep 9;cases w with
 |split S2=>
  obtain ⟨c,e,ec⟩:=hrw;exact (aG r _ _ _ (rfl,rfl,bg.of e,rfl,rfl,mB.i (dT rfl (aG r _ _ _ (rfl,rfl,bg.of e,rfl,aG x t c S2 (rfl,ec,ok,eX D T A B2 n P (O,(NC,po,q))))))))
 |ways i=>
  have e:H r=some (.tup [.str "ways",.int i]):=hrw;exact (aG r _ _ _ (rfl,rfl,bg.of e,rfl,rfl,mB.i (dF 41 (aG r _ _ _ (rfl,rfl,bg.of e,rfl,rfl,mB.i (dT rfl (aG r _ _ _ (rfl,rfl,bg.of e,rfl,bT x t i (rfl,eX D T A B2 n P (O,(NC,po,q)))))))))))
theorem Fw {dV:Value} (F:bv K "bound_of" "bound_of" Dj dV f fd) (DZ24:Dx P w K mg base bj 2 "are_points" ["net","some"] [] (gJ Ix)) (DZ32:Dx P w K mg base bj 3 "arcs_of" ["net","case"] [] (ke Ix)) (DZ35:Dx P w K mg base bj 2 "chain_total" ["arcs","chain"] [] sQ) (DZ45:Dx P w K mg base bj 5 "stretch_total" ["net","case","tool","fronts","backs"] [] (tE Ix)):bq P w K mg base bj 6 f fd ["net","case","row"] (p6 Ix):=by
 have sc:aE ["net","case","row"] ["net","case","row"] (av Dj):=dk 47
 sleep 68
 refine fT h λx t row r _hi=>?_
 refine dN _hi λ_r1 hr' ok _hj=>?_
 sleep 32
 sleep 61
 refine dN _hl λNC po l7 q=>?_
 sleep 33;exists _,(ah (aN (au cu 152 bW 154) (ak (aw (cj DZ45 hr (118<*>(129<*>(152<*>(152<*>(152<*>ac)))))))) aB) (ah (aN (PW.pt (cK (au cu 152 bW 154) (cp (c5 (cj DZ24 hr (118<*>(152<*>ac))))))) (ak (aw (cj DZ35 hr ((cj DZ32 hr 184)<*>(152<*>ac))))) aB) 243))
 try dsimp only[cxK]
 sleep 9;have no:gQ D T P 191 197 r=none->Q .non H:=λh=>by
  have:=q H 170;rw[h] at this;exact this
 cases r with
 |full z F2 G=>
  obtain ⟨lf,lb,e,hF,hG⟩:=hr';obtain ⟨o1,o2,o3,o4⟩:=ok;exact (aG row _ _ _ (rfl,rfl,bg.of e,rfl,rfl,mB.i (dT rfl (aG row _ _ _ (rfl,rfl,bg.of e,rfl,aG row _ _ _ (rfl,rfl,bg.of e,rfl,aG row _ _ _ (rfl,rfl,bg.of e,rfl,eX x t z lf lb F2 (G,(rfl,hF,hG,by lia,by lia,λf hf=>by have:=o3 f hf;lia,λf hf=>by have:=o4 f hf;lia,eX D T A B2 n P (O,(NC,po,l7,q)))))))))))
 |one w C=>
  obtain ⟨c,e,ec⟩:=hr';obtain ⟨hw,c30⟩:=ok;have wf:¬V.str w=V.str "full" :=λz=>by
   injection z with z
   subst z;rcases hw with z|z|z<;>exact absurd z 41
  by_cases hc:w= "chain"
  ·subst hc;refine (aG row _ _ _ (rfl,rfl,bg.of e,rfl,rfl,mB.i (dF wf (aG row _ _ _ (rfl,rfl,bg.of e,rfl,rfl,mB.i (dT rfl (aG row _ _ _ (rfl,rfl,bg.of e,rfl,rG x c false D T A B2 n C (rfl,NC.net,ec,mB.i ?_)))))))));cases hp:fq (2*(T.length:Int)+n) C with
   |false=>exact df (no (by show (if ("chain" :Str)= "chain" then (if fq 197 C=true then d0 191 C else none) else none)=none;rw[if_pos rfl,hp];rfl))
   |true=>
    refine dy (aJ x t (rfl,eX D T A B2 n P (O,(NC.any,po,λla H1 g1 nla hA=>(aG row _ _ _ (rfl,rfl,bg.of (g1 _ _ e),rfl,aG la c _ C (rfl,kf hA (jJ NC.ok.trip),zS l7,g1 _ _ ec,by lia,λH2 g2=>?_)))))))
    have:=q H2 209;rw[show gQ D T P 191 197 (.one "chain" C)=d0 191 C by show (if ("chain" :Str)= "chain" then (if fq 197 C=true then d0 191 C else none) else none)=_;rw[if_pos rfl,hp];rfl] at this
    exact this
  ·have wc:¬V.str w=V.str "chain" :=λz=>hc (by injection z)
   exact (aG row _ _ _ (rfl,rfl,bg.of e,rfl,rfl,mB.i (dF wf (aG row _ _ _ (rfl,rfl,bg.of e,rfl,rfl,mB.i (dF wc (df (no (if_neg hc)))))))))
 |ways i=>
  have e:H row=some (.tup [.str "ways",.int i]):=hr';exact (aG row _ _ _ (rfl,rfl,bg.of e,rfl,rfl,mB.i (dF 41 (aG row _ _ _ (rfl,rfl,bg.of e,rfl,rfl,mB.i (dF 41 (df (no rfl))))))))
theorem Fy {dV:Value} (F:bv K "shuts_by_ring" "shuts_by_ring" Dk dV f fd) (DZ24:Dx P w K mg base bj 2 "are_points" ["net","some"] [] (gJ Ix)) (DZ32:Dx P w K mg base bj 3 "arcs_of" ["net","case"] [] (ke Ix)) (DZ36:Dx P w K mg base bj 3 "ring_total" ["arcs","ring"] [] vY):bq P w K mg base bj 4 f fd ["net","case","ring"] (og Ix):=by
 have sc:aE ["net","case","ring","total"] ["net","case","ring"] (av Dk):=dk 47
 sleep 68
 refine fT h λx t c R2 _hi=>?_
 refine dN _hi λ_r1 ec r30 _hj=>?_
 sleep 32
 sleep 61
 refine dN _hl λNC po l7 q=>?_
 sleep 33;exists _,(ah (aN (cS (c5 (cj DZ24 hr (118<*>194)))) 155 aB) (ah (cO 3 sc (cj DZ36 hr ((cj DZ32 hr 184)<*>194))) (ak (aw (ql (dP gD 147 bz 154) (ki (dP gS 147 ae 154)))))));try dsimp only[cxK]
 sleep 9;refine (rG x c false D T A B2 n R2 (rfl,NC.net,ec,mB.i ?_));cases hp:fq (2*(T.length:Int)+n) R2 with
 |false=>
  have:=q H 170;rw[hp] at this;exact dy this
 |true=>
  rw[hp] at q;refine df (aJ x t (rfl,eX D T A B2 n P (O,(NC.any,po,λla H1 g1 nla hA=>(aG la c _ R2 (rfl,kf hA (jJ NC.ok.trip),zS l7,g1 _ _ ec,by lia,λH2 g2=>?_))))))
  have:=q H2 209;rw[JU] at this;cases ho:jA ((cJ A T P O).map jo) R2 with
  |none=>
   rw[ho] at this;exact (rfl,mB.i (nF rfl this))
  |some v=>
   rw[ho] at this;exact (rfl,mB.i (nT nofun this))
theorem Fz {dV:Value} (F:bv K "shuts" "shuts" Dl dV f fd) (DZ51:Dx P w K mg base bj 6 "bound_of" ["net","case","row"] [] (p6 Ix)) (DZ52:Dx P w K mg base bj 4 "shuts_by_ring" ["net","case","ring"] [] (og Ix)):bq P w K mg base bj 7 f fd ["net","case","low","row"] (wD Ix):=by
 have sc:aE ["net","case","low","row","bound"] ["net","case","low","row"] (av Dl):=dk 47
 sleep 68
 refine fT h λx t row low _hi=>?_
 refine dU _hi λr _hj=>?_
 refine dN _hj λ_r1 hr' ok _hk=>?_
 refine dR _hk λD T A B2 n P _hl=>?_
 refine dU _hl λO _hm=>?_
 refine dN _hm λNC po l7 q=>?_
 clear h _hi _hj _hk _hl _hm;subst _r1;exists _,(ah (aN (au cu 349 bW 154) (ak (aw (cj DZ52 hr (118<*>(129<*>(349<*>ac)))))) aB) (ah (aN (au gK 127 bz 154) 155 aB) (ah (cO 4 sc (cj DZ51 hr 363)) (ak (aw (ql (dP gD 163 bz 154) (ki (dP yj 163 127 154))))))))
 try dsimp only[cxK]
 sleep 88;have rest:q8 r->∀N:L2.St->Hp->Prop,True:=λ_ _=>trivial
 have e0:∃w ys,H row=some (.tup (.str w::ys))/\(w= "ring" ↔∃C,r= .one "ring" C):=by
  cases r with
  |full z F2 G=>
   obtain ⟨lf,lb,e,_,_⟩:=hr';exact (aJ _ _ ⟨e,⟨λz=>absurd z 41,λ⟨C,z⟩=>by cases z⟩⟩)
  |one w C=>
   obtain ⟨c,e,ec⟩:=hr';exact (aJ _ _ ⟨e,⟨λz=>⟨C,by rw[z]⟩,λ⟨C,z⟩=>by injection z⟩⟩)
  |ways i=>exact (aJ _ _ ⟨hr',⟨λz=>absurd z 41,λ⟨C,z⟩=>by cases z⟩⟩)
 obtain ⟨w,ys,e,iw⟩:=e0
 by_cases hw:w= "ring"
 ·obtain ⟨C,rfl⟩:=iw.mp hw;subst hw;obtain ⟨c,e',ec⟩:=hr';refine (aG row _ _ _ (rfl,rfl,bg.of e',rfl,rfl,mB.i (dT rfl (aG row _ _ _ (rfl,rfl,bg.of e',rfl,aG x t c C (rfl,ec,ok.2,eX D T A B2 n P (O,(NC,po,l7,λH' g=>?_))))))))
  have:=q H' g;rw[oh] at this;exact this
 have nr:q8 r:=by
  cases r with
  |full _ _ _=>trivial
  |one w' C=>exact λz=>hw (iw.mpr ⟨C,by rw[z]⟩)
  |ways _=>trivial
 refine (aG row _ _ _ (rfl,rfl,bg.of e,aS (j:=0) rfl,rfl,mB.i (dF (λz=>hw (by injection z)) ?_)))
 have q':∀H',aC H H'->Q (.bl (Bj (gQ D T P 191 197 r) low)) H':=λH' g=>by
  have:=q H' g;rw[jp nr] at this;exact this
 cases low with
 |none=>exact ⟨rfl,mB.i (dT rfl (q' H 170))⟩
 |some l=>
  refine (rfl,mB.i (dF nofun (aG x t row r (rfl,hr',ok,eX D T A B2 n P (O,(NC,po,l7,λH' g=>?_))))))
  have:=q' H' g;cases ho:gQ D T P ((cJ A T P O).map jo) (2*(T.length:Int)+n) r with
  |none=>
   rw[ho] at this;exact (rfl,mB.i (nF rfl this))
  |some v=>
   rw[ho] at this;exact (rfl,mB.i (nT nofun this))
theorem FA {dV:Value} (F:bv K "lets_by" "lets_by" Dm dV f fd) (DZ25:Dx P w K mg base bj 1 "start_case" ["net"] [] (wn Ix)) (DZ50:Dx P w K mg base bj 7 "parted" ["net","case","row"] [] (tQ Ix)) (DZ53:Dx P w K mg base bj 7 "shuts" ["net","case","low","row"] [] (wD Ix)):bq P w K mg base bj 8 f fd ["net","low","paper"] (z8 Ix):=by
 have sc:aE ["net","low","paper","pile","row","case","cases"] ["net","low","paper"] (av Dm):=dk (by decide+kernel)
 sleep 68
 refine uV h λx l low D T A B2 n rs _hi=>?_
 refine ip _hi λ_r1 N nok hl ok _hj=>?_
 refine cA _hj λl7 q=>?_
 sleep 41;exists _,(ah (cO 3 sc (@aO _ _ _ _ ((cj DZ25 hr 257)<*>ac))) (ah (aP 117 rfl 498 323 (ah (aN (au cu 309 ae 154) 155 aB) (ah (cO 5 sc (qu IN PySem.F.slot_list_pop PySem.F.type_list_pop yA 147)) (ak (aN (au da 137 (qk (v:=V.ref Ki) rfl B.KP rfl) 133) (ah (cO 6 sc (cj DZ50 hr (118<*>(193<*>264)))) (ah (aN (au gK 322 bz 154) 155 aB) (ak (bI (de IN Je Jd fB 147 ((ix rfl rfl B.Ke rfl B.Kk boot_list PyProof.Rows.Boot.«reversed» 322)<*>ac)))))) (ak (aN (cS (c5 (cj DZ53 hr (118<*>(193<*>(129<*>264)))))) 155 aB))))))) (ak (aw (dP cu 309 ae 154)))))
 try dsimp only[cxK]
 sleep 9;sleep 0;obtain ⟨vs,el,rl⟩:=id hl;refine (eX x false D T A B2 (n,(rfl,N,nok.t24,λt H1 g1 hc=>(by show 1<=sizeLine;decide,λlp nlp=>?_))))
 have tl1:dW 495 H1 427 ((Ip T.length).map λ_=>none,[]):=rD (DX hc.r) λa h e=>h.2 (by rw[e];exact nlp)
 have g2:=af nlp (.lst [.ref t]);have hp0:cU dW 495 (aK H1 lp (.lst [.ref t])) lp (iH T).reverse:=(_,ag,A2.one (dJ tl1 g2))
 refine (l,rfl,(_,aD.of (209 _ _ el)),aV (xs:=vs) (λk σ H'=>(∃o4 o5 o6:Option V,σ= [Lh x,some (oV low),Lh l,Lh lp,o4,o5,o6])/\aC H1 H'/\∃p,wG D T A B2 n low (iH T) (rs.take k)=some p/\cU dW 495 H' lp p.reverse) ((bT none none none rfl),g2,ν,hp0) (λk σ H' _ h=>aD.of (h.2.1 _ _ (g1 _ _ el))) ?_ ?_)
 ·rintro k y σ H2 hy ⟨⟨o4,o5,o6,rfl⟩,g3,p,hp,us,elp,rlp⟩;obtain ⟨r,hr',rr⟩:=rl.at_ hy;obtain ⟨t',rfl,ra⟩:=rr.row;have g13:=g1.trans g3;replace ra:=ra.same g13;obtain ⟨okr,okp⟩:=ok r (ID hr');have kl:=(IC.mp hr').1;have lt:=List.length_take_le k rs;have cok:=z5 hp qb;have p64:=z7 hp λr hr=>ok r (List.mem_of_mem_take hr)
  have s1:(iH T).length=1:=rfl;have lu:=rlp.1;rw[JN] at lu;have hs:=Bp hr' hp;have bad:ij D T A B2 n low p r=none->∀H',aC H H'->Q (.bl false) H':=λh H' g=>by
   have:=q H' g;rw[Bq (k:=k+1) (by rw[hs,h])] at this
   exact this
  refine (aJ lp _ (rfl,.inl (aD.of elp),rfl,xg (λc0=>?_) (λc0=>?_)))
  ·have pe:p= []:=JF 78
   exact bad (by rw[pe];rfl) _ g13
  match p,hp,rlp,lu,cok,p64,hs,bad with
  | [],_,_,lu,_,_,_,_=>exact absurd lu (by simp at lu c0⊢;lia)
  |c::p0,hp,rlp,lu,cok,p64,hs,bad=>
  rw[List.reverse_cons] at rlp;obtain ⟨us0,u,rfl,ru,rl0⟩:=rlp.unsnoc;refine (.inl (rfl,_,aD.of elp),bT lp _ u (rfl,rfl,elp,by simp,?_))
  rw[List.dropLast_concat];have g4:=dQ g3 nlp 350;have ru4:=rE ru (l:=lp) (λz=>z rfl) 350
  have rl4:=rl0.imp λv x q=>rE q (l:=lp) (λz=>z rfl) 350
  have e4:aK H2 lp 350 lp=some (.lst us0):=ag;generalize aK H2 lp 350=H4 at g4 ru4 rl4 e4⊢;have g14:=g1.trans g4;have ra4:qZ H4 t' r:=by
   obtain ⟨_,e,h⟩:=rr.row;cases e;exact h.same g14
  obtain ⟨w,ys,ew,iw⟩:=im ra4 okr;obtain ⟨tc,rfl,hcs⟩:=dW.case ru4;have ck:=cok c Iq;have k1:k<=700:=by lia
  have cl:=ck.len;have NC:nW Ix false H4 x tc D T A B2 n c.1 c.2:=(N.same g14,hcs,nok,ck.pk);have po:=ck.pairs 78
  rw[Iu] at p64;refine (aG t' _ _ _ (rfl,rfl,bg.of ew,aS (j:=0) rfl,aJ Ki _ (rfl,.inr (B.KM.sq _),rfl,vH _,mB.i (Gk (gs:= ["split","ways"]) (λm=>?_) (λm=>?_)))))
  ·have ib:Aa r=true:=iw.mp (by simpa using m)
   unfold Aa at ib;obtain ⟨w',hw'⟩:=J4.mp ib;have okw:=okp w' hw';have st:ij D T A B2 n low (c::p0) r=if gy D T B2 c.1 c.2 w'=true then some (fi c.1 c.2 w'++p0) else none:=by
    show i6 D T A B2 n low c p0 r=_;unfold i6;rw[hw']
   refine (aG x tc t' w' (rfl,BK ra4 hw',okw,eX D T A B2 n c.1 (c.2,(NC,po,λv H5 g5 tv=>?_))))
   rcases tv with ⟨rf,rfl⟩|⟨rt,lc,zs,rfl,ez,cn⟩
   ·exact (rfl,mB.i (dT rfl (bad (by rw[st,rf];rfl) _ (g14.trans g5))))
   rw[st,if_pos rt] at hs;refine ⟨rfl,mB.i (dF nofun ⟨.inl ⟨rfl,_,aD.of (g5 _ _ e4)⟩,aJ lc _ ⟨rfl,aD.of cn.e,λlr nlr=>?_⟩⟩)⟩
   have g6:=af nlr (.lst (zs.map λz=>V.ref z.1.1).reverse)
   have e6:=(g5.trans g6) _ _ e4;have rlz:lr≠lp:=λz=>by rw[z,g5 _ _ e4] at nlr;cases nlr
   have lz:=jr (P:=c.1) (O:=c.2) okw;rw[<-ez,I0] at lz;have lus:us0.length=p0.length:=by rw[rl0.1,JN]
   refine (aG lp lr _ _ (rfl,rfl,e6,ag,by rw[JN,I0];lia,?_))
   have rz:A2 (dW 495 (aK H5 lr (.lst (zs.map λz=>V.ref z.1.1).reverse))) 413 (fi c.1 c.2 w'):=by
    rw[<-ez];exact (cn.rn e4 (g5 _ _ e4)).imp λ_ _ q=>dJ q g6
   exists 373,dQ (g4.trans (g5.trans g6)) nlp _,_,hs;rw[List.reverse_append];exact cU.ext (λz=>z rfl) (rl4.imp λ_ _ q=>dJ q (g5.trans g6)) rz.rev
  ·have ib:fG r=none:=by
    cases hi:fG r with
    |none=>rfl
    |some w'=>exact absurd (iw.mpr (by unfold Aa;rw[hi];rfl)) (by simpa using m)
   have st:ij D T A B2 n low (c::p0) r=if lZ D T A n low c r=true then some p0 else none:=by
    show i6 D T A B2 n low c p0 r=_;unfold i6;rw[ib]
   refine (aG x tc t' low (r,(rfl,ra4,okr,eX D T A B2 n c.1 (c.2,(NC,po,by lia,λH5 g5=>(mB.i ?_))))))
   cases hsh:lZ D T A n low c r with
   |false=>
    have e:iF D T c.1 424 197 low r=false:=hsh;rw[e];exact dy (bad (by rw[st,hsh];rfl) _ (g14.trans g5))
   |true=>
    have e:iF D T c.1 424 197 low r=true:=hsh;rw[e];exact df (373,g4.trans g5,p0,by rw[hs,st,if_pos hsh],us0,g5 _ _ e4,rl4.imp λ_ _ q=>dJ q g5)
 ·rintro σ H2 ⟨⟨o4,o5,o6,rfl⟩,g3,p,hp,us,elp,rlp⟩;rw[rl.1,Ir] at hp;have:=q _ (g1.trans g3);rw[zY hp] at this;have lu:=rlp.1;rw[JN] at lu;refine (aJ lp _ (rfl,.inl (aD.of elp),rfl,?_));show Q (.bl (decide (V.int ((us.length:Nat):Int)=V.int 0))) H2;have e:decide (V.int ((us.length:Nat):Int)=V.int 0)=decide (p= []):=by
   rw[lu];cases p with
   |nil=>rfl
   |cons c p0=>
    rw[decide_eq_false (show ¬(c::p0)= [] from nofun),decide_eq_false (λz=>by injection z with z;rw[Iu] at z;lia)]
  rw[e];exact this
theorem FB {dV:Value} (F:bv K "_law_cell_at" "_law_cell_at" Dn dV f fd):bq P w K mg base bj 1 f fd ["_law_script","_law_k"] (qw K):=by
 have sc:aE ["_law_script","_law_k"] ["_law_script","_law_k"] (av Dn):=dk 47
 sleep 68
 obtain ⟨a,ns,k,rfl,hS,h0,q⟩:=h;exists _,(ah (aN (au dS 129 157 154) (ak (aw (ao aM 118 129 36))) aB) (ak (aw ae)))
 try dsimp only[cxK]
 sleep 28;refine (aJ a _ (rfl,.inl hS,d2 217 217))
 ·obtain ⟨v,hv⟩:=AH h0 c;exact (aG a _ _ _ (rfl,rfl,hS,hv,q v))
 ·exact q 0
theorem FC {dV:Value} (F:bv K "_law_mixed" "_law_mixed" Do dV f fd):bq P w K mg base bj 1 f fd ["_law_cell","_law_k"] ka:=by
 have sc:aE ["_law_cell","_law_k"] ["_law_cell","_law_k"] (av Do):=dk 47
 sleep 68
 obtain ⟨c,k,rfl,q⟩:=h;exists _,(ak (aw (am aX (am aR (am aZ (am aW (am aR 118 ae) ae) (am aW ae (am aZ ae 129))) ae) ae)));try dsimp only[cxK]
 have m1:=fm (a:=c) (n:=999983) 41
 have m2:=fm (a:=(c.fmod 999983+17)*(48271+7919*k)) (n:=999979) 41
 refine ((by show (999983:Int)≠0;decide),126 41,126 190,(by show (999979:Int)≠0;decide),135,q _ ?_)
 exact Int.fdiv_nonneg m2.1 41
theorem FD {dV:Value} (F:bv K "_law_meet" "_law_meet" Dp dV f fd):bq P w K mg base bj 1 f fd ["_law_one","_law_other"] kO:=by
 have sc:aE ["_law_one","_law_other"] ["_law_one","_law_other"] (av Dp):=dk 47
 sleep 68
 refine fT h λt u r s2 _hi=>?_
 refine dN _hi λ_r1 et eu q=>?_
 sleep 66;exists _,(ak (aw (ql (dP dS 140 143 154) (ki (dP dS 143 140 154)))))
 try dsimp only[cxK]
 refine (aG t _ _ _ (rfl,rfl,bg.of et,rfl,aG u _ _ _ (rfl,rfl,bg.of eu,rfl,d2 (λc=>(aG u _ _ _ (rfl,rfl,bg.of eu,rfl,aG t _ _ _ 414))) 217)))
 ·have e:cq r s2=decide (s2.1<r.2.1):=by unfold cq;rw[decide_eq_true c,JU]
  sleep 139
 ·have e:cq r s2=false:=by unfold cq;rw[decide_eq_false c,Jg]
  sleep 139
theorem FE {dV:Value} (F:bv K "_law_names" "_law_names" Dq dV f fd) (DZ56:Dx P w K mg base bj 1 "_law_mixed" ["_law_cell","_law_k"] [] ka):bq P w K mg base bj 2 f fd ["_law_cell"] sW:=by
 have sc:aE ["_law_cell","_law_letters","_law_size","_law_at","_law_word","_law_first","_law_second"] ["_law_cell"] (av Dq):=dk 47
 sleep 68
 obtain ⟨c,rfl,q⟩:=h;exists _,(ah (fQ (i:=1) sc.nd rfl 252 bW) (ah (cO 2 sc (am aW ae (am aR 118 ae))) (ah (cO 3 sc (am aR (am aX 118 ae) 127)) (ah (cO 4 sc (de PySem.F.plainAttrs_str PySem.F.slot_str_join PySem.F.type_str_join AQ bW ((jV (hd:=none) (own:= "_law_k") (ys:= ["_law_letters","_law_cell"]) (js:= [1,0]) hr.hd 175 (gX rfl B.Kc 194) (λC fp s H=>(ao uk 129 (am aR (cj DZ56 hr (127<*>257)) ae) 36)))<*>ac))) (ah (cO 5 sc 419) (ah (cO 6 sc (am aR (am aW (am aW 193 ae) 419) ae)) (ak (aw (@aO _ _ _ _ ((am iq (am iq (bu qy 163 bO (bH 147)) (ao uk 129 193 36)) (bu qy 163 (bH (am aW 147 ae)) bO))<*>((am iq (am iq (bu qy 163 bO (bH 147)) (ao uk 129 322 36)) (bu qy 163 (bH (am aW 147 ae)) bO))<*>ac)))))))))))
 try dsimp only[cxK]
 refine HG ?_;intro D' r6 r5 r4 r3 r2 r1;sleep 0;have one:∀c,(⟨#[c]⟩:Str).length=1:=λ_=>rfl
 have s:=fm (a:=c) (n:=12) 41
 have ma:=fm (a:=c.fdiv 12) (n:=1+c.fmod 12) 78
 have mf:=fm (a:=c.fdiv 144) (n:=26) 41
 have ms:=fm (a:=c.fdiv 3744) (n:=25) 41
 have mt:=fm (a:=(c.fdiv 144).fmod 26+1+(c.fdiv 3744).fmod 25) (n:=26) 41
 exists (by show (12:Int)≠0;decide),135,by lia
 refine (rfl,1+c.fmod 12,rfl,by lia,by lia,j8 (pR (λc:Nat=>97<=c/\c<=122) λc=>V.str ⟨#[c]⟩) 160 (λ_=>()) me.no 78 142 (λi hi H2 g2 Q' hQ=>?_) λlw H1 nlw g1 hw=>?_)
 ·refine (aJ _ _ (rfl,λv v0=>?_))
  have mv:=fm (a:=v) (n:=26) 41
  exact ((by show (26:Int)≠0;decide),bT _ _ _ (rfl,rfl,by decide,qV mv.1 mv.2,hQ _ _ 170 (_,by lia,rfl)))
 obtain ⟨vs,ev,rv⟩:=hw;obtain ⟨cs,rfl,lc,okc⟩:=rv.some_of;rw[I0,J5] at lc;have l1:∀w∈cs.map 359,w.length=1:=λw hw=>by
  obtain ⟨x,_,rfl⟩:=IV.mp hw
  rfl
 have lL:∀w∈cs.map 359,Lt w:=λw hw=>by
  obtain ⟨x,hx,rfl⟩:=IV.mp hw;exact Lt.one (okc x hx)
 have ev':H1 lw=some (.lst ((cs.map 359).map V.str)):=by rw[ev,IW];rfl
 have lw1:(cs.map 359).length=cs.length:=I0 _
 refine (bT _ lw _ (rfl,rfl,aD.of ev',by decide,by rw[sV l1,lw1];lia,?_))
 have wl:=xO l1;have wL:=Lt.tjoin lL;rw[lw1,lc] at wl;generalize Txt.join "" (cs.map 359)=wd at wl wL⊢
 clear ev ev' rv okc l1 lL lw1 lc;have wz:wd.length<=sizeLine:=by lia
 have wi:(wd.length:Int)=1+c.fmod 12:=by lia
 have w1:1<=wd.length:=by lia
 have w12:wd.length<=12:=by lia
 have hf:=qV mf.1 mf.2;have ht:=qV mt.1 mt.2;have f1:97<=97+((c.fdiv 144).fmod 26).toNat/\97+((c.fdiv 144).fmod 26).toNat<=122:=by lia
 have t1:97<=97+(((c.fdiv 144).fmod 26+1+(c.fdiv 3744).fmod 25).fmod 26).toNat/\97+(((c.fdiv 144).fmod 26+1+(c.fdiv 3744).fmod 25).fmod 26).toNat<=122:=by lia
 exists 135,(by show (26:Int)≠0;decide)
 have cm:=zy (x:=wd) (i:=(c.fdiv 12).fmod (1+c.fmod 12)) ma.1 78
 have c1':=kY wd none (some ((c.fdiv 12).fmod (1+c.fmod 12)));have nmB:∀{d:Nat},97<=d/\d<=122->Nm (jE wd none (some ((c.fdiv 12).fmod (1+c.fmod 12)))++(⟨#[d]⟩:Str)++jE wd (some ((c.fdiv 12).fmod (1+c.fmod 12)+1)) none):=λhd=>(((wL.cut _ _).app (Lt.one hd)).app (wL.cut _ _)).nm (by rw[Str.length_append,Str.length_append,one];lia) (by rw[Str.length_append,Str.length_append,one];lia)
 exists 135,(by show (25:Int)≠0;decide),(by show (26:Int)≠0;decide)
 refine (ν,ν,wz,bT _ _ _ (rfl,rfl,by decide,hf,aJ _ _ (rfl,rfl,by rw[one];lia,ν,ν,wz,aJ _ _ (rfl,rfl,by rw[Str.length_append,one];lia,ν,ν,wz,bT _ _ _ (rfl,rfl,by decide,ht,aJ _ _ (rfl,rfl,by rw[one];lia,ν,ν,wz,aJ _ _ (rfl,rfl,by rw[Str.length_append,one];lia,by show 2<=sizeLine;decide,λl nl=>?_)))))))
 exact q l _ _ _ (g1.trans (af nl _)) ag (nmB f1) (nmB t1) (Cm λe=>xP mf.1 mf.2 ms.1 ms.2 78)
theorem FG {dV:Value} (F:bv K "_law_runs" "_law_runs" Dr dV f fd) (DZ55:Dx P w K mg base bj 1 "_law_cell_at" ["_law_script","_law_k"] [] (qw K)):bq P w K mg base bj 2 f fd ["_law_script","_law_at","_law_many_here","_law_far"] (v8 K):=by
 have sc:aE ["_law_script","_law_at","_law_many_here","_law_far","_law_runs_here","_law_i","_law_more","_law_begin"] ["_law_script","_law_at","_law_many_here","_law_far"] (av Dr):=dk 47
 sleep 68
 refine fT h λa ns at_ m _hi=>?_
 refine dU _hi λf _hj=>?_
 refine ip _hj λ_r1 hS h0 h1 m0 _hk=>?_
 refine iC _hk λm4 hf q=>?_
 sleep 13;exists _,(ah (cO 4 sc 146) (ah (aP 117 rfl (bJ rfl B.Kc 194) 347 (ah (cO 6 sc (cj DZ55 hr (118<*>((am aW (am aW 129 418) ae)<*>ac)))) (ah (cO 7 sc (am aZ (am aR (cj DZ55 hr (118<*>((am aW 129 418)<*>ac))) ae) 147)) (ak (bI (de IN Ij IZ bx 163 ((@bc _ _ _ _ _ (346<*>((am aW 346 (am aZ (am aW ae (am aR 322 ae)) 147))<*>((am aR (am aX 322 ae) ae)<*>ac))))<*>ac))))))) (ak (aw 163))));try dsimp only[cxK]
 sleep 9;sleep 0;sleep 39
 sleep 35;refine (m,rfl,by lia,by lia,bP (λi σ H'=>∃(o5 o6 o7:Option V) (R:List Rn),σ= [Lh a,some (.int at_),some 388,some 511,Lh l,o5,o6,o7]/\aC H H'/\bn H' l 375/\R.length=i/\(∀r∈R,zz f r)) (aG none none none [] (rfl,g0,([],e0,dZ.nil),rfl,λr hr=>by cases hr)) ?_ ?_)
 ·intro i σ H1 hi h_;refine fT h_ λo5 o6 o7 R _hi=>?_
  refine dN _hi λ_r1 g1 _r2 _hj=>?_
  refine cA _hj λln ok=>?_
  sleep 27;obtain ⟨bs,eb,rb⟩:=_r2;have hS1:=g1.seq hS;refine (126 41,bT a ns _ (rfl,hS1,by lia,λc=>(126 41,bT a ns _ (rfl,hS1,by lia,λd=>?_))))
  have md:=fm (a:=d) (n:=24) 41
  have mc:=fm (a:=c) (n:=6) 41
  have mb:=fm (a:=c.fdiv 6) (n:=2) 41
  have sz:(bs.map V.ref).length<sizeLine:=by rw[I0,rb.1,I0];lia
  refine ((by show (24:Int)≠0;decide),126 190,.inl (rfl,_,aD.of eb),(by show (6:Int)≠0;decide),126 190,135,224,by show 3<=sizeLine;decide,λt nt=>(bT l _ _ (rfl,rfl,af nt _ _ _ eb,sz,?_)))
  have gt:=af nt (.tup [.int (d.fmod 24*f),.int (d.fmod 24*f+(1+c.fmod 6)*f),.int ((c.fdiv 6).fmod 2)]);refine (aG _ _ _ (R++ [(d.fmod 24*f,d.fmod 24*f+(1+c.fmod 6)*f,(c.fdiv 6).fmod 2)]) (rfl,dQ (g1.trans gt) nl _,?_,by rw[IB];simp;lia,λr hr=>?_))
  ·rw[Il];exact hJ (gt _ _ eb) (rb.imp λa k q=>gt _ _ q) ag
  ·rcases IS.mp hr with h|h
   ·exact ok r h
   ·rw[IM.mp h];exact Ba hf md.1 md.2 mc.1 mc.2 mb.1 mb.2
 ·intro σ H1 h_;refine fT h_ λo5 o6 o7 R _hi=>?_
  refine dN _hi λ_r1 g1 hR _hj=>?_
  refine cA _hj λln ok=>?_
  sleep 27;exact (q l R H1 g1 nl hR 78 ok)
theorem FH {dV:Value} (F:bv K "_law_heats" "_law_heats" Ds dV f fd) (DZ57:Dx P w K mg base bj 1 "_law_meet" ["_law_one","_law_other"] [] kO):bq P w K mg base bj 2 f fd ["_law_runs_here","_law_cells","_law_by"] sX:=by
 have sc:aE ["_law_runs_here","_law_cells","_law_by","_law_heats_here","_law_i","_law_j"] ["_law_runs_here","_law_cells","_law_by"] (av Ds):=dk 47
 sleep 68
 refine fT h λlr lc R cs _hi=>?_
 refine dU _hi λb _hj=>?_
 refine ip _hj λ_r1 hR ec lcs r4 _hk=>?_
 refine cA _hk λhb q=>?_
 sleep 13;exists _,(ah (hE (own:= "_law_cell") (ys:= ["_law_by"]) (js:= [2]) sc.nd (i:=3) rfl rfl rfl 120 (aI 129) (λC fp s H=>(ao 395 (@aO _ _ _ _ (ae<*>(ae<*>((am vC ae ae)<*>ac)))) (am aR (am aX 118 129) ae) 36))) (ah (aP 117 rfl 304 323 (ak (aP 117 rfl (bJ rfl B.Kc 264) 347 (ak (aN (c5 (cj DZ57 hr ((ao aM 118 163 36)<*>(448<*>ac)))) (ak (kj (ao aM 147 193 36) (yf 147 163 set_list))) aB))))) (ah (aP 117 rfl 304 323 (ak (aP 117 rfl (bJ rfl B.Kc 264) 347 (ak (aN (PW.pt (cK (c5 (cj DZ57 hr ((ao aM 118 163 36)<*>(448<*>ac)))) (cp (au eZ (ao aM 147 163 36) (ao aM 147 193 36) 154)))) (ak (aw (cQ (own:= "_law_run") (ys:= []) (js:= []) rfl 124 451 (λC fp s H=>ae)))) aB))))) 333)))
 try dsimp only[cxK]
 sleep 88;sleep 0;have lm:(cs.map V.int).length=R.length:=by rw[I0,lcs]
 refine (lc,rfl,(_,aD.of ec),cg 284 160 (λi=>hF (((cs.getD i 0).fdiv b).fmod 3)) (aD.of ec) 78 142 405 λlh H1 nlh g1 hh=>?_)
 ·rw[IG] at hy;obtain ⟨v,hv,rfl⟩:=IF.mp hy;rw[aL hv] at hQ;have m3:=fm (a:=v.fdiv b) (n:=3) 41
  refine ((by decide,by decide),by show 3<=sizeLine;decide,λp np=>(?_,183,aG p _ _ _ (rfl,rfl,aD.of ag,EG m3.1 m3.2,hQ _ _ 449 rfl)))
  rcases hb with rfl|rfl
  ·exact 135
  ·exact 135
 obtain ⟨vs,ev,rv⟩:=hh;rw[lm] at rv;rw[rv.val] at ev;obtain ⟨hs0,eh0⟩:∃hs0:List Int,hs0=(Ip R.length).map λi=>hF (((cs.getD i 0).fdiv b).fmod 3):=502
 rw[<-eh0] at ev;have l0:hs0.length=R.length:=by rw[eh0,I0,J5]
 have b0:∀h∈hs0,0<=h/\h<=1000000000:=λh hh=>by
  rw[eh0] at hh;obtain ⟨i,_,rfl⟩:=IV.mp hh;exact EH _
 clear rv eh0;obtain ⟨bs,er,rR⟩:=id hR;have lr':(bs.map V.ref).length=R.length:=by rw[I0,rR.1,I0]
 have run:∀H':Hp,aC H H'->∀i,i<R.length->∃t,io 265 167=some 427/\H' t=some (.tup ((rk 173).map V.int)):=λH' g i hi=>by
  sleep 67
  rw[aL hr];exact (t,dC (bY ht),g _ _ et)
 try dsimp only[cE,c9]
 refine cut (λσ H'=>∃(o4 o5:Option V) (hs:List Int),σ= [Lh lr,Lh lc,some (.int b),Lh lh,o4,o5]/\aC H H'/\H' lh=some 487/\hs.length=R.length/\∀h∈hs,0<=h/\h<=1000000000) 232 ?_
 ·refine (aJ lr _ (rfl,.inl (aD.of (g1 _ _ er)),ν,by lia,by lia,bP (λi σ H'=>∃(o4 o5:Option V) (hs:List Int),σ= [Lh lr,Lh lc,some (.int b),Lh lh,o4,o5]/\aC H H'/\H' lh=some 487/\hs.length=R.length/\∀h∈hs,0<=h/\h<=1000000000) (bT none none hs0 (rfl,g1,ev,l0,b0)) ?_ ?_))
  ·intro i σ H2 hi h_;refine j9 h_ λo4 o5 hs _hi=>?_
   refine dN _hi λ_r1 g2 eh _hj=>?_
   refine cA _hj λlh' bh=>?_
   sleep 27;rw[IP,lr'] at hi;refine (ν,by lia,by lia,bP (λj σ H'=>∃(o5:Option V) (hs:List Int),σ= [Lh lr,Lh lc,some (.int b),Lh lh,some 441,o5]/\aC H H'/\H' lh=some 487/\hs.length=R.length/\∀h∈hs,0<=h/\h<=1000000000) (aJ o5 hs (rfl,g2,eh,lh',bh)) ?_ ?_)
   ·rintro j σ H3 hj ⟨o5,hs,rfl,g3,eh3,lh3,bh3⟩;have jl:j<R.length:=by lia
    obtain ⟨ti,ai,eti⟩:=run H3 g3 i hi;obtain ⟨tj,aj,etj⟩:=run H3 g3 j jl;refine (aG lr _ _ _ (rfl,rfl,aD.of (g3 _ _ er),ai,aG lr _ _ _ (rfl,rfl,aD.of (g3 _ _ er),aj,aG ti tj _ _ (rfl,eti,etj,mB.i ?_))));cases cq (R.getD i (0,0,0)) (R.getD j (0,0,0)) with
    |false=>exact df (aJ _ hs ⟨rfl,g3,eh3,lh3,bh3⟩)
    |true=>
     have hv:=IA (show j<hs.length by lia)
     refine dy (aG lh _ _ _ (rfl,rfl,aD.of eh3,(dC (bY hv)),aG lh _ _ i (rfl,rfl,eh3,?_,aJ _ (hs.set i hs[j]) (rfl,dQ g3 nlh _,?_,by rw[List.length_set];exact lh3,λh hh=>?_))))
     ·rw[Jb,I0];exact vI 78
     ·rw[ag,List.map_set]
     ·rcases List.mem_or_eq_of_mem_set hh with z|z
      ·exact bh3 h z
      ·rw[z];exact bh3 _ (IL _)
   ·rintro σ H3 ⟨o5,hs,rfl,g3,eh3,lh3,bh3⟩;exact (bT _ _ hs (rfl,g3,eh3,lh3,bh3))
  ·intro σ H2 h_;refine j9 h_ λo4 o5 hs _hi=>?_
   refine dN _hi λ_r1 g2 eh _hj=>?_
   refine cA _hj λlh' bh=>?_
   sleep 27;exact hN _ _ (bT _ _ hs (rfl,g2,eh,lh',bh))
 clear ev l0 b0 g1;intro σ H2 h_;refine j9 h_ λo4 o5 hs _hi=>?_
 refine dN _hi λ_r1 g2 eh _hj=>?_
 refine cA _hj λlh' bh=>?_
 sleep 27;refine (aJ lr _ (rfl,.inl (aD.of 361),ν,by lia,by lia,bP (λi σ H'=>H2=H'/\(∃(o4 o5:Option V),σ= [Lh lr,Lh lc,some (.int b),Lh lh,o4,o5])/\∀k j,k<i->j<k->cq (R.getD k 125) 477=true->hs.getD k 0=hs.getD j 0) (rfl,355,λk j hk=>absurd hk (K9 _)) ?_ ?_))
 ·rintro i σ H3 hi ⟨rfl,⟨o4,o5,rfl⟩,hall⟩;rw[IP,lr'] at hi;refine (ν,by lia,by lia,bP (λj σ H'=>H2=H'/\(∃(o5:Option V),σ= [Lh lr,Lh lc,some (.int b),Lh lh,some 441,o5])/\∀k,k<j->cq 173 (R.getD k 125)=true->hs.getD i 0=hs.getD k 0) (rfl,⟨ν⟩,λk hk=>absurd hk (K9 _)) ?_ ?_)
  ·rintro j σ H3 hj ⟨rfl,⟨o5,rfl⟩,hin⟩;have jl:j<R.length:=by lia
   obtain ⟨ti,ai,eti⟩:=run H2 g2 i hi;obtain ⟨tj,aj,etj⟩:=run H2 g2 j jl;have hv:=IA (show j<hs.length by lia)
   have hw:=IA (show i<hs.length by lia)
   have next:(cq (R.getD i (0,0,0)) (R.getD j (0,0,0))=true->hs.getD i 0=hs.getD j 0)->∀k,k<j+1->cq (R.getD i (0,0,0)) (R.getD k (0,0,0))=true->hs.getD i 0=hs.getD k 0:=λh k hk hm=>by
    by_cases c:k=j
    ·rw[c] at hm⊢;exact h hm
    ·exact hin k 78 hm
   refine (aG lr _ _ _ (rfl,rfl,aD.of 361,ai,aG lr _ _ _ (rfl,rfl,aD.of 361,aj,aG ti tj _ _ (rfl,eti,etj,mB.i ?_))));cases hm:cq (R.getD i (0,0,0)) (R.getD j (0,0,0)) with
   |false=>exact df ⟨rfl,502,next λh=>by rw[hm] at h;cases h⟩
   |true=>
    refine dy (aG lh _ _ _ (rfl,rfl,aD.of eh,(dC (bY hw)),aG lh _ _ _ (rfl,rfl,aD.of eh,(dC (bY hv)),rfl,Ai 217 217)))
    ·refine (lr,rfl,(_,aD.of 361),cg 284 160 (λ_=>(0:Int)) (aD.of 361) 78 142 (λk y hy H4 g4 Q' hQ=>hQ _ _ 170 rfl) λlz H4 nlz g4 hz=>?_)
     obtain ⟨vs,ez,rz⟩:=hz;rw[lr'] at rz;rw[rz.val] at ez;exact q lz _ H4 (g2.trans g4) ez fX.zero
    ·exact (rfl,⟨ν⟩,next λ_=>by rw[aL hw,aL hv];exact c)
  ·rintro σ H3 ⟨rfl,⟨o5,rfl⟩,hin⟩;refine (rfl,355,λk j hk hj hm=>?_)
   by_cases c:k=i
   ·rw[c] at hm hj⊢;exact hin j 78 hm
   ·exact hall k j 78 hj hm
 ·rintro σ H3 ⟨rfl,⟨o4,o5,rfl⟩,hall⟩;rw[IP,lr'] at hall;exact (q lh hs H2 g2 eh (fX.of lh' bh hall))
theorem FI {dV:Value} (F:bv K "_law_uses" "_law_uses" Dt dV f fd):bq P w K mg base bj 1 f fd ["_law_cell","_law_names_here","_law_heats_here"] v9:=by
 have sc:aE ["_law_cell","_law_names_here","_law_heats_here","_law_uses_here","_law_k","_law_many_here"] ["_law_cell","_law_names_here","_law_heats_here"] (av Dt):=dk 47
 sleep 68
 refine dR h λc ln lh n0 n1 h0 _hi=>?_
 refine dU _hi λh1 _hj=>?_
 refine dN _hj λ_r1 en eh _hk=>?_
 refine cA _hk λne q=>?_
 sleep 13;exists _,(ah (cO 3 sc 146) (ah (aP 117 rfl (bJ rfl B.Kc 420) 323 (@ah _ _ _ _ _ (@fQ _ _ 5 _ _ _ _ sc.nd rfl (Or.inl rfl) (@ao _ _ _ _ _ _ _ aM (@aO _ _ _ _ ((am aR 118 ae)<*>(419<*>ac))) 163 36) rfl 252) (ak (aN (au gS 193 ae 154) (ak (bI (de IN Ij IZ bx 147 ((@bc _ _ _ _ _ ((ao aM 129 163 36)<*>(193<*>((ao aM 127 163 36)<*>ac))))<*>ac)))) aB)))) (ah (aN (au cu 419 ae 154) (ak (aw (ix rfl rfl B.Ke rfl B.Kk boot_list PyProof.Rows.Boot.«reversed» 147))) aB) 333)))
 try dsimp only[cxK]
 sleep 88;sleep 0;have m0:=fm (a:=c) (n:=3) 41
 have m1:=fm (a:=c.fdiv 3) (n:=3) 41
 refine (by show 0<=sizeLine;decide,λu nu=>?_)
 have g0:=af nu 149;have hu0:cU nE (λa=>a≠u/\H a=none) (aK H u 149) u []:=cU.new
 generalize aK H u 149=H0 at g0 hu0⊢;refine (ν,by decide,by decide,bP (λi σ H'=>∃(o4 o5:Option V) (us:List Us),σ= [some 459,Lh ln,Lh lh,Lh u,o4,o5]/\aC H H'/\cU nE (λa=>a≠u/\H a=none) H' u us/\x5 n0 n1 h0 h1 us/\us.length<=i/\(i<=1->∀x∈us,x.1=n0)) (bT none none [] (rfl,g0,hu0,(by simp,by simp,λu hu=>by cases hu),IH _,λ_ x hx=>by cases hx)) ?_ ?_)
 ·intro i σ H1 hi h_;refine j9 h_ λo4 o5 us _hi=>?_
  refine ip _hi λ_r1 g1 hu ub ul ua=>?_
  sleep 92;replace hi:i<2:=hi;have hb_:∃(x:Int) (nm:Str) (ht:Int),io [V.int (c.fmod 3),V.int ((c.fdiv 3).fmod 3)] 167=some 368/\io [V.str n0,V.str n1] 167=some (.str nm)/\io [V.int h0,V.int h1] 167=some (.int ht)/\x<=2/\(0<x->x5 n0 n1 h0 h1 (us++ [(nm,x,ht)])/\(i+1<=1->nm=n0)):=by
   have ap:∀(nm:Str) (x ht:Int),((nm=n0/\ht=h0)∨(nm=n1/\ht=h1))->(∀z∈us,z.1≠nm)->us.length<=1->0<x->x<=2->x5 n0 n1 h0 h1 (us++ [(nm,x,ht)]):=λnm x ht e nd l1 x0 x2=>by
    refine (by rw[IB];simp;lia,?_,λz hz=>?_)
    ·rw[Il];refine Jy.mpr (ub.nd,by simp,λa ha b hb=>?_)
     obtain ⟨z,hz,rfl⟩:=IV.mp ha;simp at hb;rw[hb];exact nd z hz
    ·rcases IS.mp hz with w|w
     ·exact ub.use z w
     ·rw[IM.mp w];exact (e,by show 1<=x;lia,x2)
   obtain rfl|rfl:i=0∨i=1:=by lia
   ·refine (bT (c.fmod 3) n0 h0 (rfl,rfl,rfl,by lia,λx0=>(ap n0 _ h0 (.inl 444) (λz hz=>?_) 78 x0 78,λ_=>rfl)))
    rw[List.length_eq_zero_iff.mp (by lia:us.length=0)] at hz
    cases hz
   ·exact (bT ((c.fdiv 3).fmod 3) n1 h1 (rfl,rfl,rfl,by lia,λx0=>(ap n1 _ h1 (.inr 444) (λz hz=>by rw[ua 78 z hz];exact ne) 78 x0 78,λh=>absurd h 78)))
  refine j9 hb_ λx nm ht _hi=>?_
  refine dN _hi λhx hn hh _hj=>?_
  refine cA _hj λhx2 use1=>?_
  obtain ⟨vs,eu,ru⟩:=id hu;have sz:vs.length<sizeLine:=by have:=ub.len;rw[ru.1];lia
  refine (183,135,183,by show 2<=sizeLine;decide,λp np=>(aG p _ _ _ (rfl,rfl,aD.of ag,hx,?_)))
  have gp:=af np (.lst [.int (c.fmod 3),.int ((c.fdiv 3).fmod 3)]);generalize aK H1 p (.lst [.int (c.fmod 3),.int ((c.fdiv 3).fmod 3)])=H2 at gp⊢;refine (d2 (λc0=>?_) (λc0=>(bT _ _ us (rfl,g1.trans gp,hu.same gp,ub,by lia,λh=>ua 78))))
  have g2:=g1.trans gp;refine (.inl (rfl,_,aD.of (gp _ _ eu)),aG ln _ _ _ (rfl,rfl,aD.of (g2 _ _ en),hn,aG lh _ _ _ (rfl,rfl,aD.of (g2 _ _ eh),hh,by show 3<=sizeLine;decide,λa na=>(bT u _ _ (rfl,rfl,af na _ _ _ (gp _ _ eu),sz,?_)))))
  have ga:=af na (.tup [.str nm,.int x,.int ht]);obtain ⟨u1,u2⟩:=use1 c0;refine (bT _ _ (us++ [(nm,x,ht)]) (rfl,dQ (g2.trans ga) nu _,?_,u1,by rw[IB];simp;lia,λh z hz=>?_))
  ·refine cU.put 513 (ru.imp λ_ _ q=>dJ q (gp.trans ga)) (a,rfl,((λz=>by have:=gp _ _ eu;rw[z,this] at na;cases na),g2.free na),?_)
   rw[ag]
   rfl
  ·rcases IS.mp hz with w|w
   ·exact ua 78 z w
   ·rw[IM.mp w];exact u2 h
 ·intro σ H1 h_;refine j9 h_ λo4 o5 us _hi=>?_
  refine ip _hi λ_r1 g1 hu ub _ _=>?_
  sleep 92;refine (135,224,rfl,d2 328 (λ_=>(q u us H1 g1 nu (hu.mono λa h=>h.2) ub)))
  obtain ⟨vs,eu,ru⟩:=hu;refine (aJ u _ (rfl,aD.of eu,λu' nu2=>?_))
  have g3:=af nu2 (.lst vs.reverse);exact q u' us.reverse _ (g1.trans g3) (g1.free nu2) (_,ag,ru.rev.imp λ_ _ q=>rD (dJ q g3) λa h=>h.2) ub.rev
theorem FJ {dV:Value} (F:bv K "_law_task" "_law_task" Du dV f fd) (DZ61:Dx P w K mg base bj 1 "_law_uses" ["_law_cell","_law_names_here","_law_heats_here"] [] v9):bq P w K mg base bj 2 f fd ["_law_run","_law_cell","_law_more","_law_names_here","_law_heats_here"] wa:=by
 have sc:aE ["_law_run","_law_cell","_law_more","_law_names_here","_law_heats_here","_law_long","_law_mine","_law_least","_law_beside","_law_other"] ["_law_run","_law_cell","_law_more","_law_names_here","_law_heats_here"] (av Du):=dk 47
 sleep 68
 refine uV h λt c mo ln lh r f n0 n1 _hi=>?_
 refine iO _hi λh0 h1 _hj=>?_
 refine jH _hj λ_r1 et hf rb en eh ne b0 _hk=>?_
 refine cA _hk λb1 q=>?_
 sleep 13;exists _,(ah (cO 5 sc (am fR 140 140)) (ah (cO 6 sc (@bc _ _ _ _ _ ((ay (i8 rfl) rfl B.Ko boot_max (ae<*>((am fR 193 (am aZ (am aR 127 ae) (am aX 193 ae)))<*>ac)))<*>((am aW 193 (am aZ (am aR 339 ae) 193))<*>((cj DZ61 hr (129<*>(147<*>264)))<*>ac))))) (ah (cO 7 sc (am aW ae (am aR 339 418))) (ah (cO 8 sc (cj DZ61 hr (339<*>(147<*>((@aO _ _ _ _ ((am aZ (am aR 339 ae) ae)<*>((am aZ (am aR (am aX 129 ae) ae) ae)<*>ac)))<*>ac))))) (ah (cO 9 sc (@bc _ _ _ _ _ (346<*>((am aW 346 (am aR 339 418))<*>(435<*>ac))))) (ah (aN (au cu 140 ae 154) (ak (aw (@aO _ _ _ _ (510<*>(322<*>ac))))) aB) (ah (aN (au cu (am aR 339 ae) ae 154) (ak (aw (@aO _ _ _ _ (322<*>(510<*>ac))))) aB) (ak (aw (@aO _ _ _ _ (322<*>ac)))))))))))
 try dsimp only[cxK]
 sleep 85;sleep 0;obtain ⟨l1,l2⟩:1<=r.2.1-r.1/\r.2.1-r.1<=60000114:=by
  have:=rb.2.2.1;have:=rb.2.2.2.1;rcases hf with rfl|rfl<;>lia
 have r2:=rb.2.2.2.2;have m3:=fm (a:=mo) (n:=3) 41
 have m4:=fm (a:=mo.fdiv 3) (n:=4) 41
 have mh:0<=(r.2.1-r.1).fdiv 2/\(r.2.1-r.1).fdiv 2<=r.2.1-r.1:=by
  rw[Int.fdiv_eq_ediv_of_nonneg _ 41]
  lia
 have x0:0<=mo.fmod 3*(r.2.1-r.1).fdiv 2:=Int.mul_nonneg m3.1 mh.1;have y0:0<=(mo.fdiv 3).fmod 4*(r.2.1-r.1):=Int.mul_nonneg m4.1 78
 have y1:(mo.fdiv 3).fmod 4*(r.2.1-r.1)<=3*60000114:=Int.le_trans (Int.mul_le_mul_of_nonneg_right (show (mo.fdiv 3).fmod 4<=3 by lia) 78) (Int.mul_le_mul_of_nonneg_left l2 41)
 have ml:=fm (a:=mo.fdiv 12) (n:=2*(r.2.1-r.1)) 78
 have mm:=fm (a:=mo.fdiv 11) (n:=3*(r.2.1-r.1)) 78
 have p3:=fm (a:=mo.fdiv 5) (n:=3) 41
 have p2:=fm (a:=c.fdiv 5) (n:=2) 41
 refine (aG t _ _ _ (rfl,rfl,bg.of et,rfl,aG t _ _ _ 414));refine (183,135,126 190,aJ _ _ (rfl,135,202,126 190,eX c ln lh n0 n1 h0 (h1,(rfl,en,eh,ne,λu us H1 g1 nu lu ub=>(by show 3<=sizeLine;decide,λtm ntm=>?_)))))
 have e1:(if r.2.1-r.1-mo.fmod 3*(r.2.1-r.1).fdiv 2>1 then r.2.1-r.1-mo.fmod 3*(r.2.1-r.1).fdiv 2 else 1)<=r.2.1-r.1:=by split<;>lia
 have e2:1<=(if r.2.1-r.1-mo.fmod 3*(r.2.1-r.1).fdiv 2>1 then r.2.1-r.1-mo.fmod 3*(r.2.1-r.1).fdiv 2 else 1):=by split<;>lia
 generalize (if r.2.1-r.1-mo.fmod 3*(r.2.1-r.1).fdiv 2>1 then r.2.1-r.1-mo.fmod 3*(r.2.1-r.1).fdiv 2 else 1)=le at e1 e2 ntm⊢
 generalize (mo.fdiv 3).fmod 4*(r.2.1-r.1)=mx at y0 y1 ntm⊢;have gm:=af ntm 365;have etm:aK H1 tm 365 tm=some (.tup [.int le,.int (r.2.1-r.1+mx),.ref u]):=ag;have ntm0:=g1.free ntm;have k1:=g1.trans gm;have lu1:=lu.same gm;generalize aK H1 tm 365=H2 at gm etm k1 lu1⊢;clear ntm lu x0;exists 135,126 41,by lia
 refine (135,135,183,126 190,135,224,126 190,by show 2<=sizeLine;decide,λlb nlb=>?_)
 have gb:=af nlb 275;have elb:aK H2 lb 275 lb=some (.lst [.int ((mo.fdiv 5).fmod 3*90),.int ((c.fdiv 5).fmod 2*180)]):=ag;generalize aK H2 lb 275=H3 at gb elb⊢;have k3:=k1.trans gb;refine (eX _ ln lb n0 n1 _ (_,(rfl,k3 _ _ en,elb,ne,λu2 us2 H4 g4 nu2 lu2 ub2=>?_)))
 have k4:=k3.trans g4;refine (135,126 41,by lia,by show 3<=sizeLine;decide,λto nto=>?_)
 generalize (mo.fdiv 12).fmod (2*(r.2.1-r.1))=le2 at ml nto⊢;generalize (mo.fdiv 11).fmod (3*(r.2.1-r.1))=mx2 at mm nto⊢;have go:=af nto 341;have eto:aK H4 to 341 to=some (.tup [.int (1+le2),.int (1+le2+mx2),.ref u2]):=ag;have nto0:=k4.free nto;generalize aK H4 to 341=H5 at go eto⊢;have k5:=k4.trans go;have way1:iM 280 H5 (.ref tm) (le,r.2.1-r.1+mx,us):=(aJ tm u (rfl,ntm0,nu,((gb.trans g4).trans go) _ _ etm,lu1.same ((gb.trans g4).trans go)))
 have way2:iM 280 H5 (.ref to) (1+le2,1+le2+mx2,us2):=(aJ to u2 (rfl,nto0,k3.free nu2,eto,(lu2.same go).mono λa h=>k3.free h))
 have wb1:DY n0 n1 (le,r.2.1-r.1+mx,us):=(e2,by show le<=r.2.1-r.1+mx;lia,by show r.2.1-r.1+mx<=900000000;lia,aJ h0 h1 (b0,b1,ub))
 have wb2:DY n0 n1 (1+le2,1+le2+mx2,us2):=(by show 1<=1+le2;lia,by show 1+le2<=1+le2+mx2;lia,by show 1+le2+mx2<=900000000;lia,aJ _ _ ((by lia,by lia),(by lia,by lia),ub2))
 have mine:le<=r.2.1-r.1/\r.2.1-r.1<=r.2.1-r.1+mx/\x5 n0 n1 h0 h1 us:=(e1,by lia,ub)
 have fin2:∀(p:Addr) (x y:V) (w w':Wy),H5 p=none->iM 280 H5 x w->iM 280 H5 y w'->fu 280 (aK H5 p (.lst [x,y])) 181 [w,w']:=λp x y w w' np h1 h2=>(p,rfl,k5.free np,_,ag,(A2.one (dJ h1 449)).append (A2.one (dJ h2 449)))
 refine (aG t _ _ _ (rfl,rfl,bg.of (k5 _ _ et),rfl,rfl,xg 344 344))
 ·refine (by show 2<=sizeLine;decide,λp np=>q _ _ _ (k5.trans 449) (fin2 p _ _ _ _ np way2 way1) (by simp,by simp,by rw[c1];simp,λw hw=>?_,_,by rw[c1];rfl,mine))
  rcases IK.mp hw with z|z
  ·rw[z];exact wb2
  ·rw[IM.mp z];exact wb1
 have c0:r.2.2=0:=by lia
 refine (135,224,rfl,xg 255 255)
 ·refine (by show 2<=sizeLine;decide,λp np=>q _ _ _ (k5.trans 449) (fin2 p _ _ _ _ np way1 way2) (by simp,by simp,by rw[c0];simp,λw hw=>?_,_,by rw[c0];rfl,mine))
  rcases IK.mp hw with z|z
  ·rw[z];exact wb1
  ·rw[IM.mp z];exact wb2
 ·refine (by show 1<=sizeLine;decide,λp np=>q _ _ _ (k5.trans 449) (p,rfl,k5.free np,_,ag,A2.one (dJ way1 449)) (by simp,by simp,by rw[c0];simp,λw hw=>?_,_,by rw[c0];rfl,mine))
  rw[IM.mp hw];exact wb1
theorem FK {dV:Value} (F:bv K "_law_used" "_law_used" Dv dV f fd):bq P w K mg base bj 1 f fd ["_law_runs_here","_law_tasks","_law_name","_law_t"] wb:=by
 have sc:aE ["_law_runs_here","_law_tasks","_law_name","_law_t","_law_found","_law_i","_law_tool","_law_many_here","_law_heat"] ["_law_runs_here","_law_tasks","_law_name","_law_t"] (av Dv):=dk 47
 sleep 68
 refine dR h λrl tl z t T R _hi=>?_
 refine ip _hi λ_r1 _r2 _r3 pok r24 _hj=>?_
 refine cA _hj λnd q=>?_
 sleep 41;obtain ⟨vs,el,rT⟩:=_r2;obtain ⟨bs,er,rR⟩:=_r3;exists _,(ah (cO 4 sc ae) (ah (aP 117 rfl 304 347 (ak (aP 117 rfl (aI (ao aA (ao aM (ao aM 129 193 36) (ao aA 448 ae 36) 36) ae 36)) (cT rfl (aH (cP 6 sc) (aH (cP 7 sc) (aH (cP 8 sc) ca)))) (ak (aN (PW.pt (cK (au cu 322 127 154) (cp (cX dA dS (ao aA 448 ae 36) 147 (ao aA 448 ae 36))))) (ak (cO 4 sc (am aW 163 346))) aB))))) (ak (aw 163))))
 try dsimp only[cxK]
 sleep 9;sleep 0;sleep 40
 refine (aJ rl _ (rfl,.inl (aD.of er),ν,by lia,by lia,bP (λi σ H'=>∃o5 o6 o7 o8:Option V,σ= [Lh rl,Lh tl,some 456,some (.int t),some (.int (cv T R z t i)),o5,o6,o7,o8]/\H=H') (aG none none none none 444) ?_ ?_))
 ·rintro i σ H1 hi ⟨o5,o6,o7,o8,rfl,rfl⟩;rw[IP,lr] at hi;refine dR (uQ rT rR pok hi) λwl b ts v r j _hi=>?_
  refine jH _hi λhw ew hv rw' hb eb hr' hj hgd=>?_
  have us:cv T R z t 301=cv T R z t i+(if bZ r t=true then bf 174 z else 0):=by
   show cv T R z t i+(if bZ 173 t=true then bf 174 z else 0)=_
   rw[hgd]
  have ndw:((bS T R i).2.2.map 201).Nodup:=by
   have iT:i<T.length:=by rw[<-pok.len];exact hi
   have hT:=IA iT;have pk:=pok.way i _ _ hr' hT;refine nd _ (IL iT) _ ?_;unfold bS;rw[aL hT,aL hr',hj,IP,aL (IA (show j<(T[i]).length by lia))]
   exact IL _
  have br:io 265 167=some (.ref b):=dC (bY hb);generalize bS T R i=wy at rw' us ndw;refine iO rw' λtw uw _hi=>?_
  refine dN _hi λ_r1 _ _ _hj=>?_
  refine cA _hj λetw _hk=>?_
  refine dU _hk λus' _hl=>?_
  refine cA _hl λeu ru=>?_
  clear rw' _hi _hj _hk _hl;subst _r1;have gz:bZ r t=(decide (r.1<=t)&&decide (t<r.2.1)):=rfl;refine (aG tl _ _ _ ⟨rfl,rfl,aD.of el,(dC hw),aG rl _ _ _ ⟨rfl,rfl,aD.of er,br,aG b _ _ _ ⟨rfl,rfl,bg.of eb,rfl,aG wl _ _ _ ⟨rfl,rfl,aD.of ew,(by rw[hj];exact aS hv),aG tw _ _ _ ⟨rfl,rfl,bg.of etw,rfl,uw,rfl,⟨_,aD.of eu⟩,aV (xs:=us') (λk σ H'=>∃o6 o7 o8:Option V,σ= [Lh rl,Lh tl,some 456,some (.int t),some (.int (cv T R z t i+(if bZ r t=true then iB z (wy.2.2.take k) else 0))),some 441,o6,o7,o8]/\H=H') (bT o6 o7 o8 ⟨?_,rfl⟩) (λk σ H' _ h=>by obtain ⟨_,_,_,_,rfl⟩:=h;exact aD.of eu) ?_ ?_⟩⟩⟩⟩⟩)
  ·have:(if bZ r t=true then iB z (wy.2.2.take 0) else 0)=0:=by
    rw[List.take_zero]
    split<;>rfl
   rw[this,Int.add_zero]
   rfl
  ·rintro k y σ H2 hy ⟨o6,o7,o8,rfl,rfl⟩;sleep 94;have st:=xH (z:=z) he;sleep 77;have keep:(if bZ r t=true then (if e.1=z then e.2.1 else 0) else 0)=0->(if bZ r t=true then iB z (wy.2.2.take 291) else 0)=(if bZ r t=true then iB z (wy.2.2.take k) else 0):=λh=>by
    rw[st]
    split
    ·rename_i gg;rw[if_pos gg] at h;rw[h,Int.add_zero]
    ·rfl
   refine (rfl,d2 (λc=>(aG rl _ _ _ (rfl,rfl,aD.of er,br,aG b _ _ _ (rfl,rfl,bg.of eb,rfl,d2 (λc1=>(aG rl _ _ _ (rfl,rfl,aD.of er,br,aG b _ _ _ (rfl,rfl,bg.of eb,rfl,d2 255 255)))) 344)))) 217)
   ·have c':e.1=z:=by injection c
    have gt:bZ r t=true:=by rw[gz,decide_eq_true c1,decide_eq_true c2];rfl
    rw[if_pos c'] at st;refine (bT (some (.str e.1)) (some (.int e.2.1)) (some (.int e.2.2)) (?_,rfl));rw[gt,if_pos rfl,if_pos rfl,st,<-Int.add_assoc]
    rfl
   ·exact (bT _ _ _ (by rw[keep (by rw[gz,decide_eq_true c1,decide_eq_false c2];rfl)];rfl,rfl))
   ·exact ((bT _ _ _ (by rw[keep (by rw[gz,decide_eq_false c1];rfl)];rfl,rfl)))
   ·have hz:(if e.1=z then e.2.1 else 0)=0:=if_neg λc'=>c (by rw[c'])
    exact (bT _ _ _ (by rw[keep (by rw[hz,ite_self])];rfl,rfl))
  ·rintro σ H2 ⟨o6,o7,o8,rfl,rfl⟩;rw[ru.1,Ir,zf ndw];exact (aG _ _ _ _ (by rw[us],rfl))
 ·rintro σ H1 ⟨o5,o6,o7,o8,rfl,rfl⟩;rw[IP,lr];exact q
theorem FL {dV:Value} (F:bv K "_law_tools" "_law_tools" Dw dV f fd) (DZ63:Dx P w K mg base bj 1 "_law_used" ["_law_runs_here","_law_tasks","_law_name","_law_t"] [] wb):bq P w K mg base bj 2 f fd ["_law_runs_here","_law_tasks","_law_names_here","_law_cell"] sY:=by
 have sc:aE ["_law_runs_here","_law_tasks","_law_names_here","_law_cell","_law_tools_here","_law_k","_law_number","_law_i","_law_way","_law_tool","_law_many_here","_law_heat"] ["_law_runs_here","_law_tasks","_law_names_here","_law_cell"] (av Dw):=dk 47
 sleep 68
 refine dR h λrl tl ln c T R _hi=>?_
 refine iO _hi λn0 n1 _hj=>?_
 refine jH _hj λ_r1 hT hR en ne pok r4 wok q=>?_
 sleep 41;exists _,(ah (cO 4 sc yE) (ah (aP 117 rfl (bJ rfl B.Kc 420) 347 (ah (cO 6 sc ae) (ah (aP 117 rfl 304 (cP 7 sc) (ah (cO 6 sc (ay (i8 rfl) rfl B.Ko boot_max (322<*>((cj DZ63 hr (118<*>(129<*>((ao aM 127 193 36)<*>((ao aA (ao aM 118 346 36) ae 36)<*>ac)))))<*>ac)))) (ak (aP 117 rfl (aI (ao aM 129 346 36)) (cP 8 sc) (ak (aP 117 rfl (aI (ao aA 435 ae 36)) (cT rfl (aH (cP 9 sc) (aH (cP 10 sc) (aH (cP 11 sc) ca)))) (ak (cO 6 sc (ay (i8 rfl) rfl B.Ko boot_max (322<*>((pv 10)<*>ac))))))))))) (ak (vB 505 163 (ao aM 127 193 36) (ay (wT rfl) rfl B.Kn boot_min (ae<*>((am aW 322 (am aR (am aX 147 (am aW 193 ae)) ae))<*>ac))) rfl))))) (ak (aw 163))))
 try dsimp only[cxK]
 sleep 9;sleep 0;refine λtd ntd=>?_
 have g0:=af ntd (.dK []);have e0:aK H td (.dK []) td=some (.dK (bM [])):=ag;generalize aK H td (.dK [])=H0 at g0 e0⊢;have ndw:∀ws∈T,∀w∈ws,(w.2.2.map 201).Nodup:=λws hws w hw=>by
  refine dN ((wok ws hws).2.2 w hw) λ_ _ _ _hi=>?_
  refine iO _hi λh0 h1 _hj=>?_
  refine iC _hj λ_ _ us=>?_
  exact us.nd
 have m2:∀ws∈T,∀w∈ws,∀u∈w.2.2,u.2.1<=2:=λws hws w hw u hu=>by
  refine dN ((wok ws hws).2.2 w hw) λ_ _ _ _hi=>?_
  refine iO _hi λh0 h1 _hj=>?_
  refine iC _hj λ_ _ us=>?_
  exact (us.use u hu).2.2
 have u8:∀z t,cv T R z t R.length<=8:=λz t=>by
  have:=tf (T:=T) (R:=R) (z:=z) (t:=t) (λi il=>by
   have iT:i<T.length:=by rw[<-pok.len];exact il
   have hT:=IA iT;have hr:=IA il;have pk:=pok.way i _ _ hr hT;refine zE (n0:=n0) (n1:=n1) ((wok _ (IL iT)).2.2 _ ?_);unfold bS;rw[aL hT,aL hr,aL (IA (show (R[i]).2.2.toNat<(T[i]).length by lia))]
   exact IL _) R.length 249
  lia
 obtain ⟨bs,er,rR⟩:=id hR;obtain ⟨vs,el,rT⟩:=id hT;sleep 40
 have E8:∀z m,Ak T R z R.length m↔(1<=m/\m<=8/\(∀r∈R,cv T R z r.1 R.length<=m)/\∀ws∈T,∀w∈ws,∀u∈w.2.2,u.2.1<=m):=λz m=>by
  have eT:T.take R.length=T:=by rw[pok.len];exact Ir
  constructor
  ·intro h;have h3:=h.run;have h4:=h.way;rw[Ir] at h3;rw[eT] at h4;exact (h.lo,h.hi,h3,h4)
  ·intro h;exact (h.1,h.2.1,by rw[Ir];exact h.2.2.1,by rw[eT];exact h.2.2.2)
 refine (ν,by decide,by decide,bP (λi σ H'=>∃(o5 o6 o7 o8 o9 o10 o11:Option V) (D:Tl),σ= [Lh rl,Lh tl,Lh ln,some 459,Lh td,o5,o6,o7,o8,o9,o10,o11]/\aC H H'/\H' td=some 166/\((i=0/\D= [])∨(i=1/\∃m0,D= [246]/\Ak T R n0 R.length m0)∨(i=2/\∃m0 m1,D= [246,312]/\Ak T R n0 R.length m0/\Ak T R n1 R.length m1))) (eX none none none none none none (aJ none [] (rfl,g0,e0,.inl 444))) ?_ ?_)
 ·intro i σ H1 hi h_;refine dR h_ λo5 o6 o7 o8 o9 o10 _hi=>?_
  refine iO _hi λo11 D _hj=>?_
  refine dN _hj λ_r1 g1 eD hD=>?_
  sleep 27;replace hi:i<2:=hi;obtain ⟨nm,hn,fin⟩:∃nm:Str,io [V.str n0,V.str n1] (0+(i:Int))=some (.str nm)/\∀m,Ak T R nm R.length m->∃D',putK (bM D) (.inr nm) (.int m)=bM D'/\((i+1=0/\D'= [])∨(i+1=1/\∃m0,D'= [(n0,m0)]/\Ak T R n0 R.length m0)∨(i+1=2/\∃m0 m1,D'= [(n0,m0),(n1,m1)]/\Ak T R n0 R.length m0/\Ak T R n1 R.length m1)):=by
   rcases hD with ⟨rfl,rfl⟩|⟨rfl,m0,rfl,h0⟩|⟨rfl,_⟩
   ·exact (n0,rfl,λm hm=>([(n0,m)],rfl,.inr (.inl (rfl,m,rfl,hm))))
   ·exact (n1,rfl,λm hm=>([246,(n1,m)],zB (λe=>ne (by injection e)),.inr (.inr (rfl,aJ m0 m (rfl,h0,hm)))))
   ·lia
  have dl:(bM D).length<sizeLine:=by
   rw[kG];rcases hD with ⟨_,rfl⟩|⟨_,m0,rfl,_⟩|⟨rfl,_⟩
   ·simp;lia
   ·simp;lia
   ·lia
  try dsimp only[cE,c9]
  refine Cg (λNq=>Nq [some (.ref rl),some (.ref tl),some (.ref ln),some 459,some (.ref td),some 441,some (.int 1),o7,o8,o9,o10,o11] H1) (λN hN=>hN) ?_
  try dsimp only[cE,c9]
  refine Cg (λNq=>∀(o7 o8 o9 o10 o11:Option V) (m:Int),Ak T R nm R.length m->Nq [some (.ref rl),some (.ref tl),some (.ref ln),some 459,some (.ref td),some 441,some 388,o7,o8,o9,o10,o11] H1) 232 ?_
  ·refine (aJ rl _ (rfl,.inl (aD.of (g1 _ _ er)),ν,by lia,by lia,bP (λk σ H'=>∃(o7 o8 o9 o10 o11:Option V) (m:Int),σ= [Lh rl,Lh tl,Lh ln,some 459,Lh td,some 441,some 388,o7,o8,o9,o10,o11]/\H1=H'/\Ak T R nm k m) (eX _ _ _ _ _ 1 (rfl,rfl,(by decide,by decide,λr hr=>by simp at hr,λw hw=>by simp at hw))) ?_ ?_))
   ·intro k σ H2 hk h_;refine dR h_ λo7 o8 o9 o10 o11 m _hi=>?_
    refine iC _hi λ_r1 _r2 en1=>?_
    sleep 92;subst _r2;rw[IP,lr] at hk;have hr':=IA hk;obtain ⟨b,hb,eb⟩:=rR.get (show (R.map rk)[k]?=some (rk R[k]) by rw[IG,hr'];rfl)
    have kT:k<T.length:=by rw[<-pok.len];exact hk
    have hTk:=IA kT;refine dU (rT.get hTk) λv _hi=>?_
    refine cA _hi λhv _hj=>?_
    refine dU _hj λwl _hk=>?_
    sleep 127
    refine dU _hl λws' _hm=>?_
    refine cA _hm λew rw'=>?_
    sleep 109;have memT:=IL kT;refine (aG ln _ _ _ (rfl,rfl,aD.of (g1 _ _ en),hn,aG rl _ _ _ (rfl,rfl,aD.of (g1 _ _ er),(dC (bY hb)),aG b _ _ _ (rfl,rfl,bg.of (g1 _ _ eb),rfl,eX rl tl nm _ T R (rfl,hT.same g1,hR.same g1,pok,by lia,ndw,aJ _ _ (rfl,?_))))))
    have a1:=qW m (cv T R nm (R[k]).1 R.length);have a2:=we m (cv T R nm (R[k]).1 R.length);have a3:=zC en1.hi (u8 nm (R[k]).1);generalize (if cv T R nm (R[k]).1 R.length>m then cv T R nm (R[k]).1 R.length else m)=m' at a1 a2 a3⊢
    have m1':1<=m':=by have:=en1.lo;lia
    refine (aG tl _ _ _ ⟨rfl,rfl,aD.of (g1 _ _ el),(dC hv),wl,rfl,⟨_,aD.of (g1 _ _ ew)⟩,aV (xs:=ws') (λj σ H'=>∃(o8 o9 o10 o11:Option V) (x:Int),σ= [Lh rl,Lh tl,Lh ln,some 459,Lh td,some 441,some 368,some (.int (0+(k:Int))),o8,o9,o10,o11]/\H1=H'/\m'<=x/\x<=8/\∀w∈(T[k]).take j,∀u∈w.2.2,u.2.1<=x) (aG _ _ _ _ ⟨m',⟨rfl,rfl,JZ _,a3,λw hw=>by simp at hw⟩⟩) (λj σ H' _ h=>by obtain ⟨_,_,_,_,_,_,rfl,_⟩:=h;exact aD.of (g1 _ _ ew)) ?_ ?_⟩)
    ·intro j y σ H2 hy h_;refine fT h_ λo8 o9 o10 o11 _hi=>?_
     refine dU _hi λx _hj=>?_
     refine dN _hj λ_r1 _r2 x1 _hk=>?_
     refine cA _hk λx8 xw=>?_
     sleep 89;subst _r2;refine dU (rw'.at_ hy) λw _hi=>?_
     sleep 90
     sleep 126
     sleep 83
     refine cA _hl λetw _hm=>?_
     refine dU _hm λus' _hn=>?_
     refine cA _hn λeu ru=>?_
     clear _hi _hj _hk _hl _hm _hn;subst _r1;have memw:=ID hw;refine (aG tw _ _ _ ⟨rfl,rfl,bg.of (g1 _ _ etw),rfl,uw,rfl,⟨_,aD.of (g1 _ _ eu)⟩,aV (xs:=us') (λl σ H'=>∃(o9 o10 o11:Option V) (x':Int),σ= [Lh rl,Lh tl,Lh ln,some 459,Lh td,some 441,some (.int x'),some (.int (0+(k:Int))),Lh tw,o9,o10,o11]/\H1=H'/\x<=x'/\x'<=8/\∀u∈w.2.2.take l,u.2.1<=x') (aG _ _ _ x ⟨rfl,rfl,JZ _,x8,λw hw=>by simp at hw⟩) (λj σ H' _ h=>by obtain ⟨_,_,_,_,_,rfl,_⟩:=h;exact aD.of (g1 _ _ eu)) ?_ ?_⟩)
     ·intro l y σ H2 hy h_;refine fT h_ λo9 o10 o11 x' _hi=>?_
      refine dN _hi λ_r1 _r2 x1' _hj=>?_
      refine cA _hj λx8' xw'=>?_
      sleep 27;subst _r2;sleep 94;have e2:=m2 _ memT w memw e (ID he);refine (aJ a _ (rfl,bg.of (g1 _ _ ea),rfl,aJ _ _ (rfl,aJ _ _ (rfl,aJ _ _ (rfl,rfl,aJ _ _ (rfl,aG _ _ _ _ (rfl,rfl,Int.le_trans x1' (qW _ _),zC x8' 78,λu hu=>?_)))))))
      rw[bG he] at hu;rcases IS.mp hu with z|z
      ·exact Int.le_trans (xw' u z) (qW _ _)
      ·rw[IM.mp z];exact we _ _
     ·intro σ H2 h_;refine fT h_ λo9 o10 o11 x' _hi=>?_
      refine dN _hi λ_r1 _r2 x1' _hj=>?_
      refine cA _hj λx8' xw'=>?_
      sleep 27;subst _r2;rw[ru.1,Ir] at xw';refine (aG _ _ _ _ (x',(rfl,rfl,by lia,x8',λw' hw'=>?_)))
      rw[bG hw] at hw';rcases IS.mp hw' with z|z
      ·exact λu hu=>Int.le_trans (xw w' z u hu) x1'
      ·rw[IM.mp z];exact xw'
    ·intro σ H2 h_;refine fT h_ λo8 o9 o10 o11 _hi=>?_
     refine dU _hi λx _hj=>?_
     refine dN _hj λ_r1 _r2 x1 _hk=>?_
     refine cA _hk λx8 xw=>?_
     sleep 89;subst _r2;rw[rw'.1,Ir] at xw;refine (eX _ _ _ _ _ x (rfl,rfl,(by lia,x8,λr hr=>?_,λws hws=>?_)))
     ·rw[bG hr'] at hr;rcases IS.mp hr with z|z
      ·have:=en1.run r z;lia
      ·rw[IM.mp z];lia
     ·rw[bG hTk] at hws;rcases IS.mp hws with z|z
      ·exact λw hw u hu=>by have:=en1.way ws z w hw u hu;lia
      ·rw[IM.mp z];exact xw
   ·intro σ H2 h_;refine dR h_ λo7 o8 o9 o10 o11 m _hi=>?_
    refine iC _hi λ_r1 _r2 en1=>?_
    sleep 92;subst _r2;rw[IP,lr] at en1;exact hN _ _ _ _ _ m en1
  intro o7 o8 o9 o10 o11 m en1;have mx:=fm (a:=c.fdiv (0+(i:Int)+1)) (n:=2) 41
  refine (417,224,aJ _ _ (rfl,aG ln _ _ _ (rfl,rfl,aD.of (g1 _ _ en),hn,aJ td _ (rfl,rV.k (k:= .inr nm) eD dl,?_))))
  have b1:=Cn (a:=m+(c.fdiv (0+(i:Int)+1)).fmod 2) en1.hi 78
  have b2:=Bb (m+(c.fdiv (0+(i:Int)+1)).fmod 2);generalize (if m+(c.fdiv (0+(i:Int)+1)).fmod 2<8 then m+(c.fdiv (0+(i:Int)+1)).fmod 2 else 8)=m' at b1 b2⊢
  obtain ⟨D',eD',hD'⟩:=fin m' ⟨by have:=en1.lo;lia,b2,λr hr=>by have:=en1.run r hr;lia,λws hws w hw u hu=>by have:=en1.way ws hws w hw u hu;lia⟩
  exact (eX _ _ _ _ _ _ (aJ _ D' (rfl,dQ g1 ntd _,by rw[ag,eD'],hD')))
 ·intro σ H1 h_;refine dR h_ λo5 o6 o7 o8 o9 o10 _hi=>?_
  refine iO _hi λo11 D _hj=>?_
  refine dN _hj λ_r1 g1 eD hD=>?_
  sleep 27;rcases hD with ⟨h,_⟩|⟨h,_⟩|⟨_,m0,m1,rfl,h0,h1⟩
  ·exact absurd h 41
  ·exact absurd h 41
  ·have k0:=(E8 _ _).mp h0;have k1:=(E8 _ _).mp h1;exact (q td m0 m1 H1 g1 ntd eD ((k0.1,k0.2.1),(k1.1,k1.2.1),k0.2.2.1,k1.2.2.1,λws hws w hw u hu=>(k0.2.2.2 ws hws w hw u hu,k1.2.2.2 ws hws w hw u hu)))
theorem FM {dV:Value} (F:bv K "_law_arcs" "_law_arcs" Dy dV f fd):bq P w K mg base bj 1 f fd ["_law_cells","_law_times","_law_far"] wj:=by
 have sc:aE ["_law_cells","_law_times","_law_far","_law_arcs_here","_law_cell","_law_p","_law_q","_law_slack"] ["_law_cells","_law_times","_law_far"] (av Dy):=dk 47
 sleep 68
 refine fT h λlc ls cs S _hi=>?_
 refine dU _hi λf _hj=>?_
 refine jH _hj λ_r1 ec c63 es s1 s100 hf ht q=>?_
 sleep 41;exists _,(ah (cO 3 sc 146) (ah (aP 117 rfl 451 323 (ah (cO 5 sc (am aR 163 150)) (ah (cO 6 sc (am aR (am aX 163 150) 150)) (ah (cO 7 sc (am aZ (am aR (am aX 163 (am aZ 150 150)) ae) 127)) (ak (bI (de IN Ij IZ bx 147 ((@bc _ _ _ _ _ (193<*>(322<*>((am fR (am fR (ao aM 129 322 36) (ao aM 129 193 36)) 346)<*>ac))))<*>ac)))))))) 333))
 try dsimp only[cxK]
 sleep 9;sleep 0;sleep 39
 sleep 35;have lS:(S.map V.int).length=S.length:=I0 _;refine (lc,rfl,(_,aD.of (g0 _ _ ec)),aV (xs:=cs.map V.int) (λi σ H'=>∃(o4 o5 o6 o7:Option V) (A:List Ky),σ= [Lh lc,Lh ls,some 511,Lh l,o4,o5,o6,o7]/\aC H H'/\bn H' l A/\A.length=i/\∀k∈A,jx 151 k/\kb S k) (aG none none none none ([],(rfl,g0,([],e0,dZ.nil),rfl,λk hk=>by cases hk))) (λi σ H' _ (_,_,_,_,_,_,g,_)=>aD.of (g _ _ ec)) ?_ ?_)
 ·intro i y σ H1 hy h_;refine fT h_ λo4 o5 o6 o7 _hi=>?_
  refine dU _hi λA _hj=>?_
  refine dN _hj λ_r1 g1 _r2 _hk=>?_
  refine cA _hk λlA okA=>?_
  sleep 89;obtain ⟨bs,eb,rb⟩:=_r2;have il:i<cs.length:=by have:=(IC.mp hy).1;rw[I0] at this;exact this
  rw[IG] at hy;obtain ⟨x,hx,rfl⟩:=IF.mp hy;have es1:=g1 _ _ es;have mp:=fm (a:=x) (n:=151) 78
  have mq:=fm (a:=x.fdiv 151) (n:=151) 78
  have sq1:1<=151*(S.length:Int):=Int.mul_pos 78 78
  have sq2:151*151<=100*100:=Int.mul_le_mul 78 78 78 41
  have mk:=fm (a:=x.fdiv (151*151)) (n:=5) 41
  have hp:=IA (show (x.fmod 151).toNat<S.length by lia)
  have hq:=IA (show ((x.fdiv 151).fmod 151).toNat<S.length by lia)
  have tp:=ht _ (IL (show (x.fmod 151).toNat<S.length by lia))
  have tq:=ht _ (IL (show ((x.fdiv 151).fmod 151).toNat<S.length by lia))
  have ap:io (S.map V.int) (x.fmod 151)=some (.int (S[(x.fmod 151).toNat])):=by
   have:=aS (bY (f:=V.int) hp);rw[Jc mp.1] at this;exact this
  have aq:io (S.map V.int) ((x.fdiv 151).fmod 151)=some (.int (S[((x.fdiv 151).fmod 151).toNat])):=by
   have:=aS (bY (f:=V.int) hq);rw[Jc mq.1] at this;exact this
  have gp:=aL (d:=0) hp;have gq:=aL (d:=0) hq;generalize S[(x.fmod 151).toNat]'(by lia)=vp at hp tp ap gp
  generalize S[((x.fdiv 151).fmod 151).toNat]'(by lia)=vq at hq tq aq gq
  have sz:(bs.map V.ref).length<sizeLine:=by rw[I0,rb.1];lia
  refine (aJ ls _ 416);rw[lS];refine (by lia,aJ ls _ 416)
  rw[lS];refine (417,aJ ls _ 416)
  rw[lS];refine (by lia,aJ ls _ (rfl,.inl (aD.of es1),aJ ls _ 416))
  rw[lS];exists 126 190,417,(by show (5:Int)≠0;decide),126 190
  refine (.inl (rfl,_,aD.of eb),aG ls _ _ _ (rfl,rfl,aD.of es1,aq,aG ls _ _ _ (rfl,rfl,aD.of es1,ap,by show 3<=sizeLine;decide,λt nt=>(bT l _ _ (rfl,rfl,af nt _ _ _ eb,sz,?_)))))
  generalize (x.fdiv (151*151)).fmod 5=sk at mk nt⊢;have k0:0<=sk*f/\sk*f<=4*f:=by rcases hf with rfl|rfl<;>lia
  have f0:1<=f/\f<=10000019:=by rcases hf with rfl|rfl<;>lia
  have gt:=af nt (.tup [.int (x.fmod 151),.int ((x.fdiv 151).fmod 151),.int (vq-vp-sk*f)]);refine (aG _ _ _ _ (A++ [[x.fmod 151,(x.fdiv 151).fmod 151,vq-vp-sk*f]],(rfl,dQ (g1.trans gt) nl _,hJ (gt _ _ eb) (rb.imp λa k q=>gt _ _ q) ag,by rw[IB];simp;lia,λk hk=>?_)))
  rcases IS.mp hk with h|h
  ·exact okA k h
  ·rw[IM.mp h];refine ((bT _ _ _ (rfl,mp.1,mp.2,mq.1,mq.2,by lia,by lia)),bT _ _ _ (rfl,?_))
   rw[gp,gq]
   lia
 ·intro σ H1 h_;refine fT h_ λo4 o5 o6 o7 _hi=>?_
  refine dU _hi λA _hj=>?_
  refine dN _hj λ_r1 g1 hA _hk=>?_
  refine cA _hk λlA okA=>?_
  sleep 89;rw[I0] at lA;exact (q l A H1 g1 hA lA okA)
theorem FN {dV:Value} (F:bv K "_law_apart" "_law_apart" Dz dV f fd) (DZ56:Dx P w K mg base bj 1 "_law_mixed" ["_law_cell","_law_k"] [] ka) (DZ57:Dx P w K mg base bj 1 "_law_meet" ["_law_one","_law_other"] [] kO):bq P w K mg base bj 2 f fd ["_law_runs_here","_law_cell"] sZ:=by
 have sc:aE ["_law_runs_here","_law_cell","_law_some","_law_i","_law_j"] ["_law_runs_here","_law_cell"] (av Dz):=dk 47
 sleep 68
 obtain ⟨rl,c,R,rfl,hR,r4,q⟩:=h;exists _,(ah 402 (ah (aP 117 rfl 304 331 (ak (aP 117 rfl 304 323 (ak (aN (PW.pt (cK (au eZ 147 163 154) (cK (cS (c5 (cj DZ57 hr ((ao aM 118 147 36)<*>((ao aM 118 163 36)<*>ac))))) (cp (au cu (am aR (cj DZ56 hr (129<*>((am aW 374 163)<*>ac))) ae) ae 154))))) (ak (bI (de IN Ij IZ bx 127 (396<*>ac)))) aB))))) 313))
 try dsimp only[cxK]
 sleep 9;sleep 0;obtain ⟨bs,er,rR⟩:=id hR;have lr':(bs.map V.ref).length=R.length:=by rw[I0,rR.1,I0]
 have run:∀H':Hp,aC H H'->∀i,i<R.length->∃t,io 265 167=some 427/\H' t=some (.tup ((rk 173).map V.int)):=λH' g i hi=>by
  sleep 67
  rw[aL hr];exact (t,dC (bY ht),g _ _ et)
 sleep 39
 sleep 35;refine (aJ rl _ (rfl,.inl (aD.of (g0 _ _ er)),ν,by lia,by lia,bP (λi σ H'=>∃(o3 o4:Option V) (ps:List 212),σ= [Lh rl,some 459,Lh l,o3,o4]/\aC H H'/\bn H' l 308/\ps.length<=R.length*i/\(∀p∈ps,0<=p.1/\p.1<188/\0<=p.2/\p.2<188/\p.1≠p.2/\cq 211 210=false)) (bT none none [] (rfl,g0,([],e0,dZ.nil),JC _,λp hp=>by cases hp)) ?_ ?_))
 ·intro i σ H1 hi h_;refine j9 h_ λo3 o4 ps _hi=>?_
  refine dN _hi λ_r1 g1 hP _hj=>?_
  refine cA _hj λpl pok=>?_
  sleep 27;rw[IP,lr'] at hi;refine (aJ rl _ (rfl,.inl (aD.of (g1 _ _ er)),ν,by lia,by lia,bP (λj σ H'=>∃(o4:Option V) (ps:List 212),σ= [Lh rl,some 459,Lh l,some 441,o4]/\aC H H'/\bn H' l 308/\ps.length<=R.length*i+j/\(∀p∈ps,0<=p.1/\p.1<188/\0<=p.2/\p.2<188/\p.1≠p.2/\cq 211 210=false)) (aJ _ ps (rfl,g1,hP,pl,pok)) ?_ ?_))
  ·rintro j σ H2 hj ⟨o4,ps,rfl,g2,⟨as,ea,ra⟩,pl,pok⟩;rw[IP,lr'] at hj;obtain ⟨ti,ai,eti⟩:=run H2 g2 i hi;obtain ⟨tj,aj,etj⟩:=run H2 g2 j hj;have skip:∃(o4:Option V) (ps':List 212),[some (V.ref rl),some (V.int c),some (V.ref l),some (V.int 167),some (V.int (0+(j:Int)))]= [some (.ref rl),some 459,some 271,some 441,o4]/\aC H H2/\bn H2 l (cH ps')/\ps'.length<=R.length*i+(j+1)/\(∀p∈ps',0<=p.1/\p.1<188/\0<=p.2/\p.2<188/\p.1≠p.2/\cq 211 210=false):=(aJ _ ps (rfl,g2,(as,ea,ra),by lia,pok))
   refine (rfl,Ai 344 (λc1=>skip))
   refine (aG rl _ _ _ (rfl,rfl,aD.of 361,ai,aG rl _ _ _ (rfl,rfl,aD.of 361,aj,aG ti tj _ _ (rfl,eti,etj,mB.i ?_))));cases hm:cq (R.getD i (0,0,0)) (R.getD j (0,0,0)) with
   |true=>exact df skip
   |false=>
    refine dy (126 41,aJ _ _ (rfl,λv v0=>(202,rfl,d2 255 (λc2=>skip))))
    have sz:(as.map V.ref).length<sizeLine:=by
     have:R.length*i<=4*4:=KC r4 78
     rw[I0,ra.1];unfold cH;rw[I0];lia
    refine (.inl (rfl,_,aD.of ea),by show 2<=sizeLine;decide,λt nt=>(bT l _ _ (rfl,rfl,af nt _ _ _ ea,sz,?_)))
    have gt:=af nt (.tup [.int 167,.int (0+(j:Int))]);refine (aJ _ (ps++ [(0+(i:Int),0+(j:Int))]) (rfl,dQ (g2.trans gt) nl _,?_,by rw[IB];simp;lia,λp hp=>?_))
    ·unfold cH;rw[Il];exact hJ (gt _ _ ea) (ra.imp λa k q=>gt _ _ q) ag
    ·rcases IS.mp hp with h|h
     ·exact pok p h
     ·rw[IM.mp h];exists by show (0:Int)<=0+(i:Int);lia,by show 0+(i:Int)<_;lia,by show (0:Int)<=0+(j:Int);lia,by show 0+(j:Int)<_;lia,c1
      show cq (R.getD (0+(i:Int)).toNat 125) (R.getD (0+(j:Int)).toNat 125)=false;rw[Jb,Jb,IP,IP];exact hm
  ·rintro σ H2 ⟨o4,ps,rfl,g2,hP,pl,pok⟩;rw[IP,lr'] at pl;exact (bT _ _ ps (rfl,g2,hP,by rw[Nat.mul_add,Nat.mul_one];exact pl,pok))
 ·intro σ H1 h_;refine j9 h_ λo3 o4 ps _hi=>?_
  refine dN _hi λ_r1 g1 hP _hj=>?_
  refine cA _hj λpl pok=>?_
  sleep 27;rw[IP,lr'] at pl;have:R.length*R.length<=4*4:=KC r4 r4;exact (q l ps H1 g1 hP 78 pok)
theorem FO {dV:Value} (F:bv K "_law_built" "_law_built" DA dV f fd) (DZ55:Dx P w K mg base bj 1 "_law_cell_at" ["_law_script","_law_k"] [] (qw K)) (DZ58:Dx P w K mg base bj 2 "_law_names" ["_law_cell"] [] sW) (DZ59:Dx P w K mg base bj 2 "_law_runs" ["_law_script","_law_at","_law_many_here","_law_far"] [] (v8 K)) (DZ60:Dx P w K mg base bj 2 "_law_heats" ["_law_runs_here","_law_cells","_law_by"] [] sX) (DZ62:Dx P w K mg base bj 2 "_law_task" ["_law_run","_law_cell","_law_more","_law_names_here","_law_heats_here"] [] wa) (DZ64:Dx P w K mg base bj 2 "_law_tools" ["_law_runs_here","_law_tasks","_law_names_here","_law_cell"] [] sY):bq P w K mg base bj 3 f fd ["_law_script","_law_at","_law_many_here","_law_far"] (wg K):=by
 have sc:aE ["_law_script","_law_at","_law_many_here","_law_far","_law_runs_here","_law_names_here","_law_cells","_law_heats_here","_law_tasks","_law_i","_law_more","_law_times","_law_k"] ["_law_script","_law_at","_law_many_here","_law_far"] (av DA):=dk 47
 sleep 68
 refine fT h λa ns at_ m _hi=>?_
 refine dU _hi λf _hj=>?_
 refine ip _hj λ_r1 hS h0 h9 m1 _hk=>?_
 refine iC _hk λm4 hf q=>?_
 sleep 13;exists _,(ah (cO 4 sc (cj DZ59 hr (118<*>(129<*>(127<*>213))))) (ah (cO 5 sc (cj DZ58 hr (165<*>ac))) (ah (yJ (hd:=none) (own:= "_law_i") (ys:= ["_law_script","_law_at"]) (js:= [0,1]) sc.nd (i:=6) rfl rfl hr.hd 175 (gX rfl B.Kc 194) (λC fp s H=>(cj DZ55 hr (129<*>((am aW (am aW 127 (am aZ ae 118)) ae)<*>ac))))) (ah (cO 7 sc (@aO _ _ _ _ ((cj DZ60 hr (163<*>(322<*>420)))<*>((cj DZ60 hr (163<*>(322<*>420)))<*>ac)))) (ah (cO 8 sc 146) (ah (aP 117 rfl (bJ rfl B.Kc 194) (cP 9 sc) (ah (cO 10 sc (cj DZ55 hr (118<*>((am aW (am aW 129 (am aZ ae 510)) ae)<*>ac)))) (ak (bI (de IN Ij IZ bx 435 ((cj DZ62 hr ((ao aM 163 510 36)<*>((ao aM 322 510 36)<*>((pv 10)<*>(193<*>((@aO _ _ _ _ ((ao aM (ao aM 346 ae 36) 510 36)<*>((ao aM (ao aM 346 ae 36) 510 36)<*>ac)))<*>ac))))))<*>ac)))))) (ah (cO 11 sc 146) (ah (aP 117 rfl (bJ rfl B.Kc ((am aR 165 ae)<*>ac)) (cP 12 sc) (ak (bI (de IN Ij IZ bx (pv 11) ((am aZ (am aR (am aX 165 (am aW ae (pv 12))) ae) 147)<*>ac))))) (ak (aw (@bc _ _ _ _ _ ((cj DZ64 hr (163<*>(435<*>(193<*>(165<*>ac)))))<*>(435<*>(163<*>((pv 11)<*>ac)))))))))))))))
 try dsimp only[cxK]
 refine Ib ?_;intro D' r8 r7 r6 r5 r4 r3 r2 r1;sleep 0;refine (aG a ns at_ m (f,(rfl,hS,h0,by lia,by lia,m4,hf,λrl R H1 g1 nrl hR lR okR=>?_)))
 refine (bT a ns 1 (rfl,g1.seq hS,by decide,λc1=>(ν,λln n0 n1 H2 g2 en nm0 nm1 nne=>?_)))
 have k2:=g1.trans g2;refine (m,rfl,by lia,by lia,j8 (pR (λ_:Int=>True) V.int) 160 (λ_=>()) me.no 78 142 (λi hi H3 g3 Q' hQ=>?_) λlc H3 nlc g3 hc=>?_)
 ·exact (126 41,bT a ns _ (rfl,(k2.trans g3).seq hS,by lia,λv=>hQ _ _ 170 (v,trivial,rfl)))
 obtain ⟨vs,ec,rv⟩:=hc;obtain ⟨cs,rfl,lcs,_⟩:=rv.some_of;rw[I0,J5] at lcs;clear rv;have k3:=k2.trans g3;have lRm:R.length=m.toNat:=by lia
 have r4:R.length<=4:=by lia
 have hR3:=hR.same 446;refine (aG rl lc R cs (18,(rfl,hR3,ec,by lia,r4,.inl rfl,λl1 hs1 H4 g4 e1 ok1=>(aG rl lc R cs (54,(rfl,hR3.same g4,g4 _ _ ec,by lia,r4,.inr rfl,λl2 hs2 H5 g5 e2 ok2=>(by show 2<=sizeLine;decide,λlh nlh=>?_)))))))
 have gh:=af nlh (.lst [.ref l1,.ref l2]);have elh:aK H5 lh (.lst [.ref l1,.ref l2]) lh=some (.lst [.ref l1,.ref l2]):=ag;generalize aK H5 lh (.lst [.ref l1,.ref l2])=H6 at gh elh⊢;have k6:=((k3.trans g4).trans g5).trans gh;have e1':=(g5.trans gh) _ _ e1;have e2':=gh _ _ e2;have ec6:=((g4.trans g5).trans gh) _ _ ec;have hR6:=hR3.same ((g4.trans g5).trans gh);have en6:=(((g3.trans g4).trans g5).trans gh) _ _ en;clear hR3 hR e1 e2 ec en gh g5 g4 g3 g2 nlh;refine (by show 0<=sizeLine;decide,λtl ntl=>?_)
 have ntl0:=k6.free ntl;have gt:=af ntl 149;have hT0:cU fu (λa=>a≠tl/\H a=none) (aK H6 tl 149) tl []:=cU.new
 generalize aK H6 tl 149=H7 at gt hT0⊢;obtain ⟨bs,er,rR⟩:=id hR6;have run:∀H':Hp,aC H6 H'->∀i,i<R.length->∃t,io 265 167=some 427/\H' t=some (.tup ((rk 173).map V.int)):=λH' g i hi=>by
  sleep 67
  rw[aL hr];exact (t,dC (bY ht),g _ _ et)
 try dsimp only[cE,c9]
 refine Cg (λNq=>∀(o9 o10:Option V) (T:Tk) (H':Hp),aC H6 H'->cU fu An H' tl T->T.length=R.length->G1 n0 n1 hs1 hs2 T R->Nq [some 366,some (.int at_),some 388,some 511,some (.ref rl),some (.ref ln),some (.ref lc),some (.ref lh),some (.ref tl),o9,o10,none,none] H') 232 ?_
 ·refine (m,rfl,by lia,by lia,bP (λi σ H'=>∃(o9 o10:Option V) (T:Tk),σ= [Lh a,some (.int at_),some 388,some 511,Lh rl,Lh ln,Lh lc,Lh lh,Lh tl,o9,o10,none,none]/\aC H6 H'/\cU fu (λa=>a≠tl/\H a=none) H' tl T/\T.length=i/\G1 n0 n1 hs1 hs2 T R) (bT none none [] (rfl,gt,hT0,rfl,⟨λi ws r h=>by simp at h⟩)) ?_ ?_)
  ·intro i σ H8 hi h_;refine j9 h_ λo9 o10 T _hi=>?_
   refine dN _hi λ_r1 g8 _r2 _hj=>?_
   refine cA _hj λlT tsb=>?_
   sleep 27;obtain ⟨us,eu,ru⟩:=_r2;have il:i<R.length:=by lia
   obtain ⟨ti,ai,eti⟩:=run H8 g8 i il;have hcs:=IA (show i<cs.length by lia)
   obtain ⟨x1,hh1⟩:∃x1,hs1[i]?=some x1:=⟨_,IA (show i<hs1.length by rw[ok1.1];exact il)⟩
   obtain ⟨x2,hh2⟩:∃x2,hs2[i]?=some x2:=⟨_,IA (show i<hs2.length by rw[ok2.1];exact il)⟩
   have b1:=ok1.2.1 _ (ID hh1);have b2:=ok2.2.1 _ (ID hh2);have hr':=IA il;have rb:=okR _ 452;have rd:=aL (d:=((0:Int),(0:Int),(0:Int))) hr';rw[<-rd] at rb;have sz:us.length<sizeLine:=by rw[ru.1];lia
   refine (126 41,bT a ns _ (rfl,(k6.trans g8).seq hS,by lia,λmo=>?_))
   refine (.inl (rfl,_,aD.of eu),aG rl _ _ _ (rfl,rfl,aD.of (g8 _ _ er),ai,aG lc _ _ _ (rfl,rfl,aD.of (g8 _ _ ec6),(dC (bY hcs)),aG lh _ _ (.ref l1) (rfl,rfl,aD.of (g8 _ _ elh),rfl,aG l1 _ _ _ (rfl,rfl,aD.of (g8 _ _ e1'),(dC (bY hh1)),aG lh _ _ (.ref l2) (rfl,rfl,aD.of (g8 _ _ elh),rfl,aG l2 _ _ _ (rfl,rfl,aD.of (g8 _ _ e2'),(dC (bY hh2)),by show 2<=sizeLine;decide,λlp nlp=>?_)))))))
   have gp:=af nlp (.lst [.int x1,.int x2]);have elp:aK H8 lp (.lst [.int x1,.int x2]) lp=some (.lst [.int x1,.int x2]):=ag;generalize aK H8 lp (.lst [.int x1,.int x2])=H9 at gp elp⊢;refine (rG ti _ mo ln lp 173 f n0 n1 (aJ _ _ (rfl,gp _ _ eti,hf,rb,(g8.trans gp) _ _ en6,elp,nne,b1,b2,λv ws H10 g10 rt tb=>(bT tl _ _ (rfl,rfl,(gp.trans g10) _ _ eu,sz,?_)))))
   have g11:=(g8.trans gp).trans g10;refine (bT _ _ (T++ [ws]) (rfl,dQ g11 ntl _,?_,by rw[IB,lT];rfl,⟨λk ws' r h1 h2=>?_⟩))
   ·exact cU.put 513 (ru.imp λ_ _ q=>dJ q (gp.trans g10)) (rD rt λx hx=>((λz=>by have:=gp _ _ eu;rw[z,this] at hx;cases hx),((k6.trans g8).trans gp).free hx))
   ·by_cases ck:k<T.length
    ·rw[JH ck] at h1;exact tsb.task k ws' r h1 h2
    ·have kl:=(IC.mp h1).1;rw[IB] at kl;have:k=i:=by simp at kl;lia
     subst this;rw[J7 78] at h1
     have e:k-T.length=0:=by lia
     rw[e] at h1;replace h1:some ws=some ws':=h1;sleep 106
     rw[<-h1,aL hh1,aL hh2];rw[aL h2] at tb;exact tb
  ·intro σ H8 h_;refine j9 h_ λo9 o10 T _hi=>?_
   refine dN _hi λ_r1 g8 hT _hj=>?_
   refine cA _hj λlT tsb=>?_
   sleep 27;exact hN _ _ T _ g8 hT.any 78 tsb
 clear hT0 gt ntl;intro o9 o10 T H8 g8 hT lT tsb;have k8:=k6.trans g8;refine (by show 0<=sizeLine;decide,λml nml=>?_)
 have gm:=af nml 149;have em:aK H8 ml 149 ml=some (.lst []):=ag;generalize aK H8 ml 149=H9 at gm em⊢;have hS9:=(k8.trans gm).seq hS;try dsimp only[cE,c9]
 refine cut (λσ H'=>∃(o12:Option V) (M:List Int),σ= [Lh a,some (.int at_),some 388,some 511,Lh rl,Lh ln,Lh lc,Lh lh,Lh tl,o9,o10,Lh ml,o12]/\aC H8 H'/\H' ml=some 285/\M.length<=2/\∀t∈M,0<=t/\t<=29*f) 232 ?_
 ·refine (bT a ns 2 (rfl,hS9,by decide,λc2=>?_))
  have mc:=fm (a:=c2) (n:=3) 41
  refine (183,ν,by lia,by lia,bP (λi σ H'=>∃(o12:Option V) (M:List Int),σ= [Lh a,some (.int at_),some 388,some 511,Lh rl,Lh ln,Lh lc,Lh lh,Lh tl,o9,o10,Lh ml,o12]/\aC H8 H'/\H' ml=some 285/\M.length=i/\∀t∈M,0<=t/\t<=29*f) (aJ none [] (rfl,gm,em,rfl,λt ht=>by cases ht)) ?_ ?_)
  ·rintro i σ H10 hi ⟨o12,M,rfl,g10,em10,lM,okM⟩;have i2:i<2:=by lia
   refine (.inl (rfl,_,aD.of em10),bT a ns 2 (rfl,(k8.trans g10).seq hS,by decide,λc=>?_))
   have m30:=fm (a:=c.fdiv (3+167)) (n:=30) 41
   refine (417,(by show (30:Int)≠0;decide),126 190,bT ml _ _ (rfl,rfl,em10,by rw[I0];lia,?_))
   refine (aJ _ (M++ [(c.fdiv (3+167)).fmod 30*f]) (rfl,dQ g10 nml _,?_,by rw[IB,lM];rfl,λt ht=>?_))
   ·rw[ag,Il];rfl
   ·rcases IS.mp ht with z|z
    ·exact okM t z
    ·rw[IM.mp z];generalize (c.fdiv (3+167)).fmod 30=y at m30⊢;rcases hf with rfl|rfl<;>lia
  ·rintro σ H10 ⟨o12,M,rfl,g10,em10,lM,okM⟩;exact hN _ _ (aJ _ M (rfl,g10,em10,by lia,okM))
 clear em gm hS9;rintro σ H10 ⟨o12,M,rfl,g10,em10,lM,okM⟩;have k10:=k8.trans g10;have wok:∀ws∈T,1<=ws.length/\ws.length<=2/\∀w∈ws,DY n0 n1 w:=λws hw=>by
  obtain ⟨i,hi⟩:=Iw.mp hw;have il:=(IC.mp hi).1;have tb:=tsb.task i ws _ hi (IA (show i<R.length by rw[<-lT];exact il))
  exact (tb.l1,tb.l2,tb.way)
 have pok:je T R:=(lT.symm,λi r ws e1 e2=>(by have:=(okR r (ID e1)).2.2.2.2;lia,(tsb.task i ws r e2 e1).pick))
 have hR10:=hR6.same (g8.trans g10);have hT10:=hT.same g10;refine (bT a ns 3 (rfl,k10.seq hS,by decide,λc3=>(eX rl tl ln c3 T R (aJ n0 n1 (rfl,hT10,hR10,(g8.trans g10) _ _ en6,nne,pok,r4,wok,λtd m0 m1 H11 g11 ntd ed tb=>(by show 4<=sizeLine;decide,λt nt=>?_))))))
 have gt:=af nt (.tup [.ref td,.ref tl,.ref rl,.ref ml]);exact q t td tl rl ml n0 n1 m0 m1 hs1 hs2 T R M _ ((k10.trans g11).trans gt) ag (gt _ _ ed) ((hT10.same g11).same gt) ((hR10.same g11).same gt) ((g11.trans gt) _ _ em10) lR (hf,nm0,nm1,nne,lT,r4,okR,tsb,ok1,ok2,tb,lM,okM)
theorem FP {dV:Value} (F:bv K "_law_points" "_law_points" DB dV f fd):bq P w K mg base bj 1 f fd ["_law_runs_here","_law_times"] pS:=by
 have sc:aE ["_law_runs_here","_law_times","_law_found","_law_run"] ["_law_runs_here","_law_times"] (av DB):=dk 47
 sleep 68
 refine fT h λrl ml R M _hi=>?_
 refine ip _hi λ_r1 _r2 r24 em m8 q=>?_
 sleep 66;obtain ⟨bs,er,rR⟩:=_r2;exists _,(ah 402 (ah (aP 117 rfl 451 331 (ak (cO 2 sc (am bQ 127 (@aO _ _ _ _ (349<*>(349<*>ac))))))) (ak (aw (am bQ 127 129)))))
 try dsimp only[cxK]
 sleep 9;sleep 0;have lr:bs.length=R.length:=by rw[rR.1,I0]
 sleep 39
 have g0:=af nl 149;refine (rl,rfl,(_,aD.of (g0 _ _ er)),aV (xs:=bs.map V.ref) (λi σ H'=>∃(l:Addr) (o3:Option V),σ= [Lh rl,Lh ml,Lh l,o3]/\aC H H'/\H' l=some (.lst ((aT (R.take i) []).map V.int))) (aJ l none (rfl,g0,ag)) (λi σ H' _ (_,_,_,g,_)=>aD.of (g _ _ er)) ?_ ?_)
 ·rintro i y σ H1 hy ⟨l,o3,rfl,g1,e1⟩;sleep 34;obtain ⟨r,hr',eb⟩:=iU rR hb;have ll:((aT (R.take i) []).map V.int).length<=48:=by rw[I0,eQ,IR];simp;lia
  have eb1:=g1 _ _ eb;refine (aG b _ _ _ (rfl,rfl,bg.of eb1,rfl,aG b _ _ _ (rfl,rfl,bg.of eb1,rfl,by show 2<=sizeLine;decide,λp np=>(aG l p _ _ (rfl,rfl,af np _ _ _ e1,ag,by simp at ll⊢;lia,λl2 nl2=>?_)))))
  refine (aJ l2 _ (rfl,(g1.trans 449).trans (af nl2 _),?_));rw[ag,nh hr',Il,Il,JE]
  rfl
 ·rintro σ H1 ⟨l,o3,rfl,g1,e1⟩;have et':R.take (bs.map V.ref).length=R:=by rw[I0,lr];exact Ir
  rw[et'] at e1;refine (aG l ml _ _ (rfl,rfl,e1,g1 _ _ em,?_,λp np=>?_))
  ·rw[I0,I0,eQ];simp;omega
  ·refine q p _ (g1.trans 449) ?_;rw[ag,<-Il,pd]
theorem FQ {dV:Value} (F:bv K "_law_lag" "_law_lag" DC dV f fd):bq P w K mg base bj 1 f fd ["_law_arcs_here","_law_p","_law_q"] BG:=by
 have sc:aE ["_law_arcs_here","_law_p","_law_q","_law_lags"] ["_law_arcs_here","_law_p","_law_q"] (av DC):=dk 47
 sleep 68
 refine fT h λl A p q _hi=>?_
 refine dN _hi λ_r1 _r2 l7 k=>?_
 sleep 66;obtain ⟨as,el,rA⟩:=_r2;exists _,(ah (fY sc.nd (i:=3) rfl rfl (own:= "_law_row") (ys:= ["_law_p","_law_q"]) (js:= [1,2]) rfl 175 451 (λC fp s H=>(PW.pt (cK (au cu 132 129 154) (cp (au cu 132 127 154))))) 288) (ah (aN (au (jY hr.units0) 147 146 154) 243 aB) (ak (aw (ay (gZ rfl) rfl B.Ko boot_max 213)))))
 try dsimp only[cxK]
 sleep 9;sleep 0;have la:(as.map V.ref).length=A.length:=by rw[I0,rA.1,I0]
 refine (l,rfl,334,xu (λi=>zg A p q i) (λi=> .int (zh A i)) 305 78 (λi y hy H2 g2 R' hR=>?_) (λi y hy H2 g2 Q' hQ=>?_) λp1 H1 n1 g1 e1=>?_)
 ·sleep 34;obtain ⟨r,hr',eb⟩:=iU rA hb;rw[qN hr'] at hR;have eb2:=g2 _ _ eb;refine (aG b _ _ _ (rfl,rfl,bg.of eb2,rfl,rfl,d2 217 217))
  ·injection c with c
   refine (aG b _ _ _ (rfl,rfl,bg.of eb2,rfl,rfl,mB.i ?_));have e:decide (V.int r.2.1=V.int q)=decide (r.1=p/\r.2.1=q):=by
    by_cases h:r.2.1=q
    ·rw[decide_eq_true (by rw[h]),decide_eq_true ⟨c,h⟩]
    ·rw[decide_eq_false (λz=>h (by injection z)),decide_eq_false (λz=>h z.2)]
   rw[e];exact hR
  ·rw[decide_eq_false (λz=>c (by rw[z.1]))] at hR
   exact hR
 ·sleep 34;obtain ⟨r,hr',eb⟩:=iU rA hb;rw[qO hr'] at hQ;exact (aG b _ _ _ (rfl,rfl,bg.of (g2 _ _ eb),rfl,hQ))
 have e2:jw (as.map V.ref).length (λi=>zg A p q i) (λi=> .int (zh A i))=(A6 A p q).map V.int:=by
  rw[la];unfold jw A6;rw[IW]
  rfl
 rw[e2] at e1;refine (by show 0<=sizeLine;decide,λl3 nl3=>(bT p1 l3 _ (rfl,rfl,aD.of (af nl3 _ _ _ e1),aD.of ag,?_)))
 have g3:=g1.trans (af nl3 149);cases hm:A6 A p q with
 |nil=>
  refine (mB.i (dy ?_));have:=k _ g3;rw[zj hm] at this;exact this
 |cons z zs=>
  refine ((aJ p1 (A6 A p q) (rfl,aD.of (af nl3 _ _ _ e1),by rw[hm];exact nofun,λM h1 h2=>?_)))
  have:=k _ g3;rw[zm h1 h2] at this;exact this
theorem FR {dV:Value} (F:bv K "_law_total" "_law_total" DD dV f fd) (DZ69:Dx P w K mg base bj 1 "_law_lag" ["_law_arcs_here","_law_p","_law_q"] [] BG):bq P w K mg base bj 2 f fd ["_law_arcs_here","_law_chain"] sQ:=by
 have sc:aE ["_law_arcs_here","_law_chain","_law_total_here","_law_k","_law_lag_here"] ["_law_arcs_here","_law_chain"] (av DD):=dk 47
 sleep 68
 refine fT h λl c A C _hi=>?_
 refine ip _hi λ_r1 hA l7 ec c7 k=>?_
 sleep 66;exists _,(ah (cO 2 sc ae) (ah (aP 117 rfl (wR rfl B.Kc (ae<*>(150<*>ac))) 331 (ah (cO 4 sc (cj DZ69 hr (118<*>((ao aM 129 (am fR 147 ae) 36)<*>((ao aM 129 147 36)<*>ac))))) (ah (aN (au gK 163 bz 154) 243 aB) (ak (cO 2 sc (am aW 127 163)))))) 313))
 try dsimp only[cxK]
 sleep 9;sleep 0;have lc:(C.map V.int).length=C.length:=I0 _;refine (aJ c _ (rfl,.inl (aD.of ec),aJ _ _ (rfl,(by decide,by decide,by lia,by lia),bP (λi σ H'=>∃(o3 o4:Option V) (t:Int),σ= [Lh l,Lh c,some (.int t),o3,o4]/\aC H H'/\mj A C i=some t) (bT none none 0 (rfl,.refl _,rfl)) ?_ ?_)))
 ·rintro i σ H1 hi ⟨o3,o4,t,rfl,g1,ht⟩;have hx:=IA (show i<C.length by lia)
  have hy:=IA (show i+1<C.length by lia)
  generalize C[i]=x at hx;generalize C[i+1]=y at hy;have st:=kR ht hx hy;have ec1:=g1 _ _ ec;refine (aG c _ _ _ (rfl,rfl,aD.of ec1,(by rw[show 1+(i:Int)-1=(i:Int) by lia];exact aS (bY hx)),aG c _ _ _ (rfl,rfl,aD.of ec1,(by rw[show 1+(i:Int)=509 by lia];exact aS (bY hy)),aG l A x y (rfl,hA.same g1,l7,λH2 g2=>?_))))
  cases hl:iN A x y with
  |none=>
   rw[hl] at st;have e:d0 A C=none:=jg (i:=i+1) st 78
   have:=k _ 209;rw[e] at this;exact (rfl,mB.i (dT rfl this))
  |some gg=>
   rw[hl] at st;exact (rfl,mB.i (dF nofun (bT _ _ _ (rfl,g1.trans g2,st))))
 ·rintro σ H1 ⟨o3,o4,t,rfl,g1,ht⟩;have:=k _ g1;rw[show d0 A C=some t by rw[<-ht];unfold d0;congr 1;lia] at this
  exact this
theorem FS {dV:Value} (F:bv K "_law_open" "_law_open" DE dV f fd):bq P w K mg base bj 1 f fd ["_law_tasks","_law_case","_law_i"] kc:=by
 have sc:aE ["_law_tasks","_law_case","_law_i"] ["_law_tasks","_law_case","_law_i"] (av DE):=dk 47
 sleep 68
 refine dR h λtl t i D T P _hi=>?_
 refine dN _hi λ_r1 TC il q=>?_
 sleep 66;exists _,(ah (aN (au gK 447 bz 154) (ak (aw (ao aM 118 127 36))) aB) (ak (aw (@aO _ _ _ _ ((ao aM (ao aM 118 127 36) 447 36)<*>ac)))))
 try dsimp only[cxK]
 sleep 28;obtain ⟨vs,el,rT⟩:=id TC.tasks;obtain ⟨O,kl,ol,ec,ek,ho⟩:=TC.cs;have hT:=IA il;obtain ⟨y,hy,wl,rfl,_,lw⟩:=rT.get hT;have hP:=IA (show i<P.length by rw[TC.pk.len];exact il)
 have oF:bw T P i=match P[i]'(by rw[TC.pk.len];exact il) with|none=>T[i]|some j=> [(T[i]).getD j (0,0,[])]:=by
  unfold bw;rw[aL hT,aL hP];try rfl
 cases hp:P[i]'(by rw[TC.pk.len];exact il) with
 |none=>
  rw[hp] at oF hP;refine (aG t _ _ _ (rfl,rfl,bg.of ec,rfl,aG kl _ _ _ (rfl,rfl,aD.of ek,(aS (bY hP)),rfl,mB.i (dT rfl (aG tl _ _ _ (rfl,rfl,aD.of el,(aS hy),?_))))));exact q wl H 170 (by rw[oF];exact lw)
 |some j=>
  rw[hp] at oF hP;have jl:=TC.pk.pick i j _ hP hT;have hw:=IA jl;replace oF:bw T P i= [(T[i]).getD j 387]:=oF;rw[aL hw] at oF;obtain ⟨ys,ey,ry⟩:=id lw;obtain ⟨v,hv,rv⟩:=ry.get hw;refine (aG t _ _ _ (rfl,rfl,bg.of ec,rfl,aG kl _ _ _ (rfl,rfl,aD.of ek,(aS (bY hP)),rfl,mB.i (dF nofun (aG tl _ _ _ (rfl,rfl,aD.of el,(aS hy),aG t _ _ _ (rfl,rfl,bg.of ec,rfl,aG kl _ _ _ (rfl,rfl,aD.of ek,(aS (bY hP)),aG wl _ _ _ (rfl,rfl,aD.of ey,(aS hv),by show 1<=sizeLine;decide,λp2 np2=>?_)))))))))
  rw[oF] at q;exact q p2 _ (af np2 _) (_,ag,A2.one (dJ rv (af np2 _)))
theorem FT {dV:Value} (F:bv K "_law_due" "_law_due" DF dV f fd) (DZ71:Dx P w K mg base bj 1 "_law_open" ["_law_tasks","_law_case","_law_i"] [] kc):bq P w K mg base bj 2 f fd ["_law_arcs_here","_law_tasks","_law_case"] zI:=by
 have sc:aE ["_law_arcs_here","_law_tasks","_law_case","_law_due_here","_law_i","_law_ways"] ["_law_arcs_here","_law_tasks","_law_case"] (av DF):=dk 47
 sleep 68
 refine dR h λal tl t A D T _hi=>?_
 refine iO _hi λP O _hj=>?_
 refine jH _hj λ_r1 _r2 a1000 hT t24 hC pk ok _hk=>?_
 refine cA _hk λpo q=>?_
 sleep 13;obtain ⟨ba,ea,ra⟩:=_r2;exists _,(ah (cO 3 sc (cM cy rfl B.Ke boot_list 257)) (ah (aP 117 rfl (bJ rfl B.Kc (150<*>ac)) 323 (ah (cO 5 sc (cj DZ71 hr (129<*>(127<*>264)))) (ah (cO 3 sc (am bQ 147 (@aO _ _ _ _ ((@bc _ _ _ _ _ (474<*>((am aW 474 ae)<*>((ay (eR rfl) rfl B.Kn boot_min ((cQ (own:= "_law_way") (ys:= []) (js:= []) rfl 124 (aI 193) 288)<*>ac))<*>ac))))<*>ac)))) (ak (cO 3 sc (am bQ 147 (@aO _ _ _ _ ((@bc _ _ _ _ _ ((am aW 474 ae)<*>(474<*>((am fR ae (ay (gZ rfl) rfl B.Ko boot_max ((cQ (own:= "_law_way") (ys:= []) (js:= []) rfl 124 (aI 193) 288)<*>ac)))<*>ac))))<*>ac)))))))) (ak (aw (am bQ 147 (cQ (own:= "_law_pair") (ys:= []) (js:= []) rfl 124 (aI 152) (λC fp s H=>(@bc _ _ _ _ _ ((am aW (am aZ ae 132) ae)<*>((am aZ ae 132)<*>420))))))))))
 try dsimp only[cxK]
 sleep 9;sleep 0;sleep 131;have TC:iD D H tl t T P:=(hT,(O,hC),pk,ok);obtain ⟨kl,ol,ec,ek,⟨bo,eo,ro⟩⟩:=id hC;have lv:vt.length=T.length:=rT.1;refine (aJ al _ (rfl,.inl (aD.of ea),λl0 nl0=>?_))
 have g0:=af nl0 254;have hA0:bn (aK H l0 254) l0 (A++dB T P 0):=(ba,ag,by rw[show A++dB T P 0=A from Ji A];exact ra.imp λa k q=>g0 _ _ q)
 generalize aK H l0 254=H0 at g0 hA0⊢;try dsimp only[cE,c9]
 refine cut (λσ H'=>∃(l:Addr) (o4 o5:Option V),σ= [Lh al,Lh tl,Lh t,Lh l,o4,o5]/\aC H H'/\bn H' l (A++dB T P T.length)) 232 ?_
 ·refine (aJ tl _ (rfl,.inl (aD.of (g0 _ _ et)),ν,by lia,by lia,bP (λi σ H'=>∃(l:Addr) (o4 o5:Option V),σ= [Lh al,Lh tl,Lh t,Lh l,o4,o5]/\aC H H'/\bn H' l (A++dB T P i)) (bT l0 none none (rfl,g0,hA0)) ?_ ?_))
  ·rintro i σ H1 hi ⟨l,o4,o5,rfl,g1,⟨bs,eb,rb⟩⟩;rw[IP,lv] at hi;have zi:167=(i:Int):=Jb _;have ne:=jj (P:=P) ok hi;have ln:=gw (P:=P) ok hi;have lb:bs.length=A.length+2*i:=by rw[rb.1,IB,dI]
   refine (eX tl t i D T P (by rw[zi];rfl,TC.same g1,hi,λp H2 g2 (vs,ev,rv)=>?_))
   refine (126 41,126 41,p,rfl,437,cg 284 160 (λk=>(λw:Wy=>w.1) 248) (aD.of ev) 318 142 237 λp2 H3 np2 g3 hp2=>?_)
   ·refine dU (rv.at_ hy) λw _hi=>?_
    sleep 90
    sleep 126
    sleep 83
    refine cA _hl λetw _=>?_
    sleep 103;exact (aG tw _ _ _ (rfl,rfl,bg.of (gk _ _ etw),rfl,hQ _ _ 170 rfl))
   sleep 138;have eus:us=((bw T P i).map λw:Wy=>w.1).map V.int:=by
    rw[ru.val,rv.1]
    conv=>rhs;rw[<-cG 469 387]
    rw[IW,IW,IW]
    rfl
   rw[eus] at eu;refine (aJ p2 _ (rfl,aD.of eu,by simpa using ne,λM hM hle=>(by show 3<=sizeLine;decide,λt1 nt1=>383)))
   rw[zi,gI hM hle] at nl1⊢;obtain ⟨m1,hm1⟩:∃m1,m1=jt ((bw T P i).map λw:Wy=>w.1):=502
   rw[<-hm1] at nl1⊢;have gt1:=af nt1 161;have gl1:=af nl1 491;have q4:=((g2.trans g3).trans gt1).trans gl1;refine (aG l l1 _ _ (rfl,rfl,q4 _ _ eb,ag,by rw[I0];simp;lia,λl2 nl2=>?_))
   have hA4:bn (aK (aK 515 l1 491) l2 195) l2 (A++dB T P i++ [[2*(i:Int),2*(i:Int)+1,m1]]):=i5 (rb.imp λa k q=>q4 _ _ q) (dZ.one (k:= [2*(i:Int),2*(i:Int)+1,m1]) (a:=t1) (gl1 _ _ ag)) nl2
   have k5:=(g1.trans q4).trans (af nl2 195);have g25:=((g3.trans gt1).trans gl1).trans (af nl2 195);generalize aK (aK 515 l1 491) l2 195=H5 at hA4 k5 g25⊢;clear eu eus ru us gt1 q4 nt1 g3 np2 nl1 nl2 gl1;obtain ⟨cs,ecs,rcs⟩:=hA4;have lc:cs.length=A.length+2*i+1:=by rw[rcs.1,IB,IB,dI];rfl
   have ev5:=g25 _ _ ev;refine (126 41,126 41,p,rfl,(_,aD.of ev5),cg 284 160 (λk=>(λw:Wy=>w.2.1) 248) (aD.of ev5) 318 142 237 λp3 H6 np3 g6 hp3=>?_)
   ·refine dU (rv.at_ hy) λw _hi=>?_
    sleep 90
    sleep 126
    sleep 83
    refine cA _hl λetw _=>?_
    sleep 103;exact (aG tw _ _ _ (rfl,rfl,bg.of ((g25.trans gk) _ _ etw),rfl,hQ _ _ 170 rfl))
   obtain ⟨us,eu,ru⟩:=hp3;have eus:us=((bw T P i).map λw:Wy=>w.2.1).map V.int:=by
    rw[ru.val,rv.1]
    conv=>rhs;rw[<-cG 469 387]
    rw[IW,IW,IW]
    rfl
   rw[eus] at eu;refine (aJ p3 _ (rfl,aD.of eu,by simpa using ne,λM2 hM2 hle2=>(by show 3<=sizeLine;decide,λt2 nt2=>(by show 1<=sizeLine;decide,λl3 nl3=>?_))))
   rw[wo hM2 hle2] at nl3⊢;have gt2:=af nt2 (.tup [.int 454,.int 508,.int (0-oI 263)])
   have gl3:=af nl3 (.lst [.ref t2]);have q7:=(g6.trans gt2).trans gl3;refine (aG l2 l3 _ _ (rfl,rfl,q7 _ _ ecs,ag,by rw[I0];simp;lia,λl4 nl4=>?_))
   have hA7:=i5 (rcs.imp λa k q=>q7 _ _ q) (dZ.one (k:= [2*(i:Int)+1,2*(i:Int),0-oI 263]) (a:=t2) (gl3 _ _ ag)) nl4
   refine (bT l4 _ _ (rfl,(k5.trans q7).trans (af nl4 _),?_));have e:A++dB T P 301=A++dB T P i++ [[2*(i:Int),2*(i:Int)+1,m1]]++ [[2*(i:Int)+1,2*(i:Int),0-oI 263]]:=by
    rw[hm1,Int.zero_sub];show A++(dB T P i++_)=_;rw[JE,JE]
    rfl
   rw[e];exact hA7
  ·rintro σ H1 ⟨l,o4,o5,rfl,g1,hA⟩;rw[IP,lv] at hA;exact hN _ _ (bT _ _ _ (rfl,g1,hA))
 clear hA0 g0;rintro σ H1 ⟨l,o4,o5,rfl,g1,⟨bs,eb,rb⟩⟩;have lo:(bo.map V.ref).length=O.length:=by rw[I0,ro.1]
 have lb:bs.length=A.length+2*T.length:=by rw[rb.1,IB,dI]
 have o1000:=po.1;refine (aG t _ _ _ (rfl,rfl,bg.of (g1 _ _ ec),rfl,ol,rfl,(_,aD.of (g1 _ _ eo)),cg (uO λk:Ky=>k.map V.int) 160 (λk=>(λk:Ky=> [2*k.getD 0 0+1,2*k.getD 1 0,0]) (O.getD k [])) (aD.of (g1 _ _ eo)) 78 142 405 λlc H2 nlc g2 hc=>?_))
 ·sleep 34;have kl:k<O.length:=by rw[<-ro.1];exact (IC.mp hb).1
  have hk:=IA kl;have eb':=ro.2 k b _ hb hk;obtain ⟨p,q',ek'⟩:=po.2 _ 516;rw[ek'] at eb' hk;rw[aL hk] at hQ;have ebk:=209 _ _ eb';exact (aG b _ _ _ (rfl,rfl,bg.of ebk,rfl,126 41,aG b _ _ _ (rfl,rfl,bg.of ebk,rfl,126 41,by show 3<=sizeLine;decide,λtt ntt=>hQ _ _ (af ntt _) (tt,rfl,.inl ntt,ag))))
 have hc':=zJ hc;rw[lo] at hc';have eO:(Ip O.length).map (λk=>(λk:Ky=> [2*k.getD 0 0+1,2*k.getD 1 0,0]) (O.getD k []))=ju O:=by
  unfold ju
  conv=>rhs;rw[<-cG O []]
  rw[IW]
  rfl
 rw[eO] at hc';obtain ⟨cs,ecs,rcs⟩:=hc';have lcs:cs.length=O.length:=by rw[rcs.1];unfold ju;rw[I0]
 refine (aG l lc _ _ (rfl,rfl,g2 _ _ eb,ecs,by rw[I0,I0];lia,λlz nlz=>?_))
 exact q lz _ ((g1.trans g2).trans (af nlz _)) (i5 (rb.imp λa k q=>g2 _ _ q) rcs nlz)
theorem FU {dV:Value} (F:bv K "_law_many" "_law_many" DG dV f fd):bq P w K mg base bj 1 f fd ["_law_way","_law_name"] ie:=by
 have sc:aE ["_law_way","_law_name","_law_tool","_law_many_here","_law_heat"] ["_law_way","_law_name"] (av DG):=dk 47
 sleep 68
 obtain ⟨v,z,w,rfl,⟨t,u,rfl,_,_,et,us,eu,ru⟩,q⟩:=h;exists _,(ah (aP 117 rfl (aI 140) 483 (ak (aN (au cu 127 129 154) 333 aB))) (ak (aw ae)))
 try dsimp only[cxK]
 sleep 28;refine (aG t _ _ _ (rfl,rfl,bg.of et,rfl,u,rfl,484,aV (xs:=us) (λi σ H'=>H=H'/\(∃o2 o3 o4:Option V,σ= [Lh t,some 456,o2,o3,o4])/\∀(j:Nat) (x:Us),j<i->w.2.2[j]?=some x->x.1≠z) (rfl,(bT none none none rfl),λj x hj=>absurd hj (K9 _)) 352 ?_ ?_))
 ·rintro i y σ H1 hy ⟨rfl,⟨o2,o3,o4,rfl⟩,hn⟩;sleep 94;refine (aJ a _ (rfl,bg.of ea,rfl,aJ _ _ (rfl,aJ _ _ (rfl,aJ _ _ (rfl,rfl,rfl,d2 217 (λc=>(rfl,373,λj x hj hx=>?_)))))))
  ·have c':e.1=z:=by injection c
   have:jf w z=some e:=qJ (us:=w.2.2) he c' hn;rw[hW this] at q;exact q
  ·by_cases ji:j=i
   ·rw[ji,he] at hx;cases hx;exact λz=>c (by rw[z])
   ·exact hn j x 78 hx
 ·rintro σ H1 ⟨rfl,⟨o2,o3,o4,rfl⟩,hn⟩;rw[ru.1] at hn;have:jf w z=none:=by
   unfold jf;rw[List.find?_eq_none];intro x hx;obtain ⟨j,hj⟩:=Iw.mp hx;have:=hn j x (IC.mp hj).1 hj;simp[this]
  rw[hV this] at q;exact q
theorem FV {dV:Value} (F:bv K "_law_work" "_law_work" DH dV f fd) (DZ71:Dx P w K mg base bj 1 "_law_open" ["_law_tasks","_law_case","_law_i"] [] kc) (DZ73:Dx P w K mg base bj 1 "_law_many" ["_law_way","_law_name"] [] ie):bq P w K mg base bj 2 f fd ["_law_tasks","_law_case","_law_i","_law_name"] wq:=by
 have sc:aE ["_law_tasks","_law_case","_law_i","_law_name"] ["_law_tasks","_law_case","_law_i","_law_name"] (av DH):=dk 47
 sleep 68
 refine dR h λtl t i z D T _hi=>?_
 refine dU _hi λP _hj=>?_
 refine dN _hj λ_r1 TC il q=>?_
 sleep 41;exists _,(ak (aw (ay (eR rfl) rfl B.Kn boot_min ((cQ (own:= "_law_way") (ys:= ["_law_name"]) (js:= [3]) rfl 120 (aI (cj DZ71 hr 290)) (λC fp s H=>(am aZ (cj DZ73 hr 184) 132)))<*>ac))))
 try dsimp only[cxK]
 sleep 0;have ne:=jj (P:=P) TC.ok il;have ln:=gw (P:=P) TC.ok il;refine (eX tl t i D T P (rfl,TC,il,λp H1 g1 (vs,ev,rv)=>?_))
 refine (p,rfl,437,cg 284 160 (λk=>(λw:Wy=>bf w z*w.1) 248) (aD.of ev) 318 142 237 λp2 H2 np2 g2 hp2=>?_)
 ·obtain ⟨w,hw,rw'⟩:=rv.at_ hy;rw[aL hw] at hQ;have rwk:=dJ rw' gk;obtain ⟨tw,uw,rfl,pa,pb,etw,lw⟩:=id rwk;have w1:1<=w.1/\w.1<=1000000000:=by
   obtain ⟨ws',hws,hww⟩:=qT TC.ok TC.pk il w (ID hw);obtain ⟨a1,a2,a3,_⟩:=(TC.ok ws' hws).2.2 w hww
   lia
  exact (bT (.ref tw) z w (rfl,rwk,aG tw _ _ _ (rfl,rfl,bg.of etw,rfl,IntMulOk.of_right 190,hQ _ _ 170 rfl)))
 sleep 138;have eus:us=((bw T P i).map λw:Wy=>bf w z*w.1).map V.int:=by
  rw[ru.val,rv.1]
  conv=>rhs;rw[<-cG 469 387]
  rw[IW,IW,IW]
  rfl
 sleep 80
 rw[gI hM hle,xQ];exact q H2 209
theorem FW {dV:Value} (F:bv K "_law_front" "_law_front" DI dV f fd) (DZ56:Dx P w K mg base bj 1 "_law_mixed" ["_law_cell","_law_k"] [] ka):bq P w K mg base bj 2 f fd ["_law_due_here","_law_cell","_law_i"] tJ:=by
 have sc:aE ["_law_due_here","_law_cell","_law_i","_law_chain","_law_k","_law_ahead"] ["_law_due_here","_law_cell","_law_i"] (av DI):=dk 47
 sleep 68
 refine fT h λdl c i due _hi=>?_
 refine dU _hi λn _hj=>?_
 refine dN _hj λ_r1 _r2 _r3 _hk=>?_
 refine cA _hk λi2 q=>?_
 sleep 13;obtain ⟨ba,ea,ra⟩:=_r2;obtain ⟨d2000,tr⟩:=_r3;exists _,(ah (fQ (i:=3) sc.nd rfl 252 (@aO _ _ _ _ ((am aZ ae 127)<*>ac))) (ah (aP 117 rfl (bJ rfl B.Kc ((am aR 129 ae)<*>ac)) 323 (ah (fY sc.nd (i:=5) rfl rfl (own:= "_law_row") (ys:= ["_law_chain"]) (js:= [3]) rfl 120 451 (λC fp s H=>(au cu 132 (ao 395 129 ae 36) 154)) 288) (ak (aN (au (j2 hr.units0) 193 146 154) (ak (fQ (i:=3) sc.nd rfl 252 (am bQ (@aO _ _ _ _ ((ao aM 193 (am aR (cj DZ56 hr (129<*>264)) (ay ar rfl B.IO boot_len 376)) 36)<*>ac)) 147))) aB)))) 333))
 try dsimp only[cxK]
 sleep 9;sleep 0;have lba:(ba.map V.ref).length=due.length:=by rw[I0,ra.1]
 refine (126 41,by show 1<=sizeLine;decide,λl0 nl0=>?_)
 have g0:=af nl0 (.lst [.int 508]);have e0:aK H l0 (.lst [.int 508]) l0=some (.lst (([2*(i:Int)]:List Int).map V.int)):=ag;generalize aK H l0 (.lst [.int 508])=H0 at g0 e0⊢;have m4:=fm (a:=c) (n:=4) 41
 refine (202,ν,by lia,by lia,bP (λj σ H'=>∃(l:Addr) (o4 o5:Option V) (C:List Int),σ= [Lh dl,some 459,some 377,Lh l,o4,o5]/\H l=none/\aC H H'/\H' l=some 244/\C.length<=j+1/\((∃D,C=D++ [2*(i:Int)])/\∃x D,C=x::D)/\(∀p∈C,0<=p/\p<n)/\gO due C) (aG l0 none none [2*(i:Int)] (rfl,nl0,g0,e0,IH _,(([],rfl),aJ _ [] rfl),λp hp=>by rw[IM.mp hp];lia,trivial)) ?_ ?_)
 ·intro j σ H1 hj h_;refine fT h_ λl o4 o5 C _hi=>?_
  sleep 115
  refine iC _hj λsh okC ai=>?_
  sleep 27;obtain ⟨⟨D0,hD0⟩,x,D1,hx⟩:=sh;have atx:io (C.map V.int) 0=some (.int x):=by rw[hx];exact aS (j:=0) rfl
  refine (dl,rfl,(_,aD.of (g1 _ _ ea)),jd 284 160 298 (λk=>(due.getD k []).getD 0 0) (aD.of (g1 _ _ ea)) 78 142 (λk y hy H2 g2 S' hS=>?_) (λk y hy _ H2 g2 Q' hQ=>?_) λlh H2 nlh g2 hh=>?_)
  ·sleep 34;sleep 84
   sleep 48;rw[aL hk] at hS;exact (aG b _ _ _ (rfl,rfl,bg.of (209 _ _ eb),rfl,aG l _ _ _ (rfl,rfl,aD.of (g2 _ _ el),atx,rfl,hS _ 170)))
  ·sleep 34;sleep 84
   sleep 48;rw[aL hk] at hQ;exact (aG b _ _ _ (rfl,rfl,bg.of (209 _ _ eb),rfl,hQ _ _ 170 rfl))
  obtain ⟨us,eu,ru⟩:=hh;rw[ru.val,lba] at eu;have mem:∀z∈cI due.length 298 (λk=>(due.getD k []).getD 0 0),∃g,[z,x,g]∈due:=λz hz=>by
   sleep 60;have kl:=JB.mp h1;have hk:=IA kl;obtain ⟨p,q',g,ek,_⟩:=tr _ 516;have m:=IL kl;rw[aL hk,ek] at h2⊢;rw[ek] at m;have e:=vj (of_decide_eq_true h2);replace e:q'=x:=e;rw[e] at m;exact (g,m)
  generalize cI due.length 298 (λk=>(due.getD k []).getD 0 0)=W at eu mem
  have k2:=g1.trans g2;sleep 63
  sleep 123;refine (bT lh le _ (rfl,rfl,aD.of (ge _ _ eu),aD.of ag,mB.i ?_));sleep 108;have el3:=(g2.trans ge) _ _ el;cases W with
  |nil=>exact df (aG l _ _ C ⟨rfl,nl,k3,el3,by lia,⟨⟨D0,hD0⟩,aJ x D1 hx⟩,okC,ai⟩)
  |cons w W2=>
   refine dy (aJ _ _ (rfl,λv v0=>(aJ lh _ (rfl,.inl (aD.of (ge _ _ eu)),?_))))
   have lw:((w::W2).map V.int).length=W2.length+1:=by rw[I0];rfl
   rw[lw];have mv:=fm (a:=v) (n:=219) 78
   have hz:=IA (show (v.fmod 219).toNat<(w::W2).length by rw[Iu];lia)
   have az:io ((w::W2).map V.int) (v.fmod 219)=some (.int ((w::W2)[(v.fmod 219).toNat]'(by rw[Iu];lia))):=by
    have:=aS (bY (f:=V.int) hz);rw[Jc mv.1] at this;exact this
   have mz:=mem _ (ID hz);generalize (w::W2)[(v.fmod 219).toNat]'_=z at az mz;obtain ⟨g',mz⟩:=mz;refine j9 (tr _ mz) λp' q'' g'' _hi=>?_
   refine dN _hi λek b1 b2 _hj=>?_
   refine cA _hj λb3 b4=>?_
   refine (by lia,aG lh _ _ _ (rfl,rfl,aD.of (ge _ _ eu),az,by show 1<=sizeLine;decide,λl1 nl1=>(aG l1 l _ _ (rfl,rfl,ag,af nl1 _ _ _ el3,by rw[I0];simp;lia,λl2 nl2=>?_))))
   have gz:=(af nl1 (.lst [.int z])).trans (af nl2 (.lst ([.int z]++C.map V.int)));refine (aG l2 _ _ (z::C) (rfl,(k3.trans (af nl1 _)).free nl2,k3.trans gz,by rw[ag];rfl,by rw[Iu];lia,((z::D0,by rw[hD0];rfl),aJ z C rfl),λy hy=>?_,?_))
   ·rcases IK.mp hy with e|e
    ·rw[e];have:z=p':=by injection ek
     rw[this];exact (b1,b2)
    ·exact okC y e
   ·rw[hx] at ai⊢;exact ((g',mz),ai)
 ·intro σ H1 h_;refine fT h_ λl o4 o5 C _hi=>?_
  sleep 115
  refine iC _hj λsh okC ai=>?_
  sleep 27;exact (q l C H1 nl g1 el 78 sh.1 okC ai)
theorem FX {dV:Value} (F:bv K "_law_back" "_law_back" DJ dV f fd) (DZ56:Dx P w K mg base bj 1 "_law_mixed" ["_law_cell","_law_k"] [] ka):bq P w K mg base bj 2 f fd ["_law_due_here","_law_cell","_law_i"] wB:=by
 have sc:aE ["_law_due_here","_law_cell","_law_i","_law_chain","_law_k","_law_ahead"] ["_law_due_here","_law_cell","_law_i"] (av DJ):=dk 47
 sleep 68
 refine fT h λdl c i due _hi=>?_
 refine dU _hi λn _hj=>?_
 refine dN _hj λ_r1 _r2 _r3 _hk=>?_
 refine cA _hk λi2 q=>?_
 sleep 13;obtain ⟨ba,ea,ra⟩:=_r2;obtain ⟨d2000,tr⟩:=_r3;exists _,(ah (fQ (i:=3) sc.nd rfl 252 (@aO _ _ _ _ ((am aW (am aZ ae 127) ae)<*>ac))) (ah (aP 117 rfl (bJ rfl B.Kc ((am aR 129 ae)<*>ac)) 323 (ah (fY sc.nd (i:=5) rfl rfl (own:= "_law_row") (ys:= ["_law_chain"]) (js:= [3]) rfl 120 451 (λC fp s H=>(au cu 132 (ao 395 129 (mM jD ae) 36) 154)) 288) (ak (aN (au (j2 hr.units0) 193 146 154) (ak (fQ (i:=3) sc.nd rfl 252 (am bQ 147 (@aO _ _ _ _ ((ao aM 193 (am aR (cj DZ56 hr (129<*>((am aW ae 163)<*>ac))) (ay ar rfl B.IO boot_len 376)) 36)<*>ac))))) aB)))) 333))
 try dsimp only[cxK]
 sleep 9;sleep 0;have lba:(ba.map V.ref).length=due.length:=by rw[I0,ra.1]
 refine (126 41,by show 1<=sizeLine;decide,λl0 nl0=>?_)
 have g0:=af nl0 (.lst [.int 454]);have e0:aK H l0 (.lst [.int 454]) l0=some (.lst (([2*(i:Int)+1]:List Int).map V.int)):=ag;generalize aK H l0 (.lst [.int 454])=H0 at g0 e0⊢;have m4:=fm (a:=c) (n:=4) 41
 refine (202,ν,by lia,by lia,bP (λj σ H'=>∃(l:Addr) (o4 o5:Option V) (C:List Int),σ= [Lh dl,some 459,some 377,Lh l,o4,o5]/\H l=none/\aC H H'/\H' l=some 244/\C.length<=j+1/\((∃D,C=(2*(i:Int)+1)::D)/\∃x D,C=D++ [x])/\(∀p∈C,0<=p/\p<n)/\gO due C) (aG l0 none none [2*(i:Int)+1] (rfl,nl0,g0,e0,IH _,(([],rfl),aJ _ [] rfl),λp hp=>by rw[IM.mp hp];lia,trivial)) ?_ ?_)
 ·intro j σ H1 hj h_;refine fT h_ λl o4 o5 C _hi=>?_
  sleep 115
  refine iC _hj λsh okC ai=>?_
  sleep 27;obtain ⟨⟨D0,hD0⟩,x,D1,hx⟩:=sh;have atx:io (C.map V.int) (-1)=some (.int x):=by rw[hx,Il];exact rP _ _
  refine (dl,rfl,(_,aD.of (g1 _ _ ea)),jd 284 160 299 (λk=>(due.getD k []).getD 1 0) (aD.of (g1 _ _ ea)) 78 142 (λk y hy H2 g2 S' hS=>?_) (λk y hy _ H2 g2 Q' hQ=>?_) λlh H2 nlh g2 hh=>?_)
  ·sleep 34;sleep 84
   sleep 48;rw[aL hk] at hS;exact (aG b _ _ _ (rfl,rfl,bg.of (209 _ _ eb),rfl,ν,aG l _ _ _ (rfl,rfl,aD.of (g2 _ _ el),atx,rfl,hS _ 170)))
  ·sleep 34;sleep 84
   sleep 48;rw[aL hk] at hQ;exact (aG b _ _ _ (rfl,rfl,bg.of (209 _ _ eb),rfl,hQ _ _ 170 rfl))
  obtain ⟨us,eu,ru⟩:=hh;rw[ru.val,lba] at eu;have mem:∀z∈cI due.length 299 (λk=>(due.getD k []).getD 1 0),∃g,[x,z,g]∈due:=λz hz=>by
   sleep 60;have kl:=JB.mp h1;have hk:=IA kl;obtain ⟨p,q',g,ek,_⟩:=tr _ 516;have m:=IL kl;rw[aL hk,ek] at h2⊢;rw[ek] at m;have e:=vj (of_decide_eq_true h2);replace e:p=x:=e;rw[e] at m;exact (g,m)
  generalize cI due.length 299 (λk=>(due.getD k []).getD 1 0)=W at eu mem
  have k2:=g1.trans g2;sleep 63
  sleep 123;refine (bT lh le _ (rfl,rfl,aD.of (ge _ _ eu),aD.of ag,mB.i ?_));sleep 108;have el3:=(g2.trans ge) _ _ el;cases W with
  |nil=>exact df (aG l _ _ C ⟨rfl,nl,k3,el3,by lia,⟨⟨D0,hD0⟩,aJ x D1 hx⟩,okC,ai⟩)
  |cons w W2=>
   refine dy (aJ _ _ (rfl,λv v0=>(aJ lh _ (rfl,.inl (aD.of (ge _ _ eu)),?_))))
   have lw:((w::W2).map V.int).length=W2.length+1:=by rw[I0];rfl
   rw[lw];have mv:=fm (a:=v) (n:=219) 78
   have hz:=IA (show (v.fmod 219).toNat<(w::W2).length by rw[Iu];lia)
   have az:io ((w::W2).map V.int) (v.fmod 219)=some (.int ((w::W2)[(v.fmod 219).toNat]'(by rw[Iu];lia))):=by
    have:=aS (bY (f:=V.int) hz);rw[Jc mv.1] at this;exact this
   have mz:=mem _ (ID hz);generalize (w::W2)[(v.fmod 219).toNat]'_=z at az mz;obtain ⟨g',mz⟩:=mz;refine j9 (tr _ mz) λp' q'' g'' _hi=>?_
   refine dN _hi λek b1 b2 _hj=>?_
   refine cA _hj λb3 b4=>?_
   refine (by lia,aG lh _ _ _ (rfl,rfl,aD.of (ge _ _ eu),az,by show 1<=sizeLine;decide,λl1 nl1=>(aG l l1 _ _ (rfl,rfl,af nl1 _ _ _ el3,ag,by rw[I0];simp;lia,λl2 nl2=>?_))))
   have gz:=(af nl1 (.lst [.int z])).trans (af nl2 (.lst (C.map V.int++ [.int z])));refine (aG l2 _ _ (C++ [z]) (rfl,(k3.trans (af nl1 _)).free nl2,k3.trans gz,by rw[ag,Il];rfl,by rw[IB];simp;lia,((D0++ [z],by rw[hD0];rfl),aJ z C rfl),λy hy=>?_,?_))
   ·rcases IS.mp hy with e|e
    ·exact okC y e
    ·rw[IM.mp e];have:z=q'':=by injection ek with _ ek;injection ek
     rw[this];exact (b3,b4)
   ·rw[hx] at ai⊢;exact gO.snoc mz ai
 ·intro σ H1 h_;refine fT h_ λl o4 o5 C _hi=>?_
  sleep 115
  refine iC _hj λsh okC ai=>?_
  sleep 27;exact (q l C H1 nl g1 el 78 sh.1 okC ai)
theorem FY {dV:Value} (F:bv K "_law_order" "_law_order" DK dV f fd):bq P w K mg base bj 1 f fd ["_law_many_here","_law_cell"] tN:=by
 have sc:aE ["_law_many_here","_law_cell","_law_some","_law_k","_law_i"] ["_law_many_here","_law_cell"] (av DK):=dk 47
 sleep 68
 obtain ⟨m,c,rfl,m1,m4,q⟩:=h;exists _,(ah 402 (ah (aP 117 rfl (bJ rfl B.Kc 257) 331 (ah (cO 4 sc (am aR (am aW 129 (am aZ 147 (am aW ae (am aR (am aX 129 ae) ae)))) 118)) (ak (aN (PW.pt (cK (au jQ 163 127 133) (cp (au eZ (am aR (am aX (am aX 129 ae) (am aW 147 ae)) ae) ae 154)))) (ak (bI (de IN Ij IZ bx 127 264))) aB)))) 313))
 try dsimp only[cxK]
 sleep 9;sleep 0;sleep 39
 sleep 35;refine (m,rfl,by lia,by lia,bP (λi σ H'=>∃(o3 o4:Option V) (S2:List Int),σ= [some 388,some 459,Lh l,o3,o4]/\aC H H'/\H' l=some (.lst 476)/\S2.length<=i/\(∀j∈S2,0<=j/\j<m)/\S2.Nodup) (bT none none [] (rfl,g0,e0,IH _,(λj hj=>by cases hj),List.nodup_nil)) ?_ ?_)
 ·intro i σ H1 hi h_;refine j9 h_ λo3 o4 S2 _hi=>?_
  refine ip _hi λ_r1 g1 e1 l1 rg nd=>?_
  sleep 92;have mm:=fm (a:=(c+167*(1+(c.fdiv 4).fmod 3))) (n:=m) 78
  have m3:=fm (a:=c.fdiv 4) (n:=3) 41
  exists 135,183,126 190,by lia
  refine (aJ l _ (rfl,.inl (aD.of e1),rfl,lK S2,mB.i ?_));rw[if_pos rfl,mF];refine n2 344 (λc1=>(bT _ _ S2 (rfl,g1,e1,by lia,rg,nd)))
  refine (135,417,202,rfl,n2 255 (λc2=>(bT _ _ S2 (rfl,g1,e1,by lia,rg,nd))))
  refine ⟨.inl (rfl,_,aD.of e1),l,ω,e1,by rw[I0];lia,_,_,S2++ [(c+167*(1+(c.fdiv 4).fmod 3)).fmod m],rfl,dQ g1 nl _,?_,by rw[IB];simp;lia,λj hj=>by
   rcases IS.mp hj with z|z
   ·exact rg j z
   ·rw[IM.mp z];exact mm,Jy.mpr ⟨nd,by simp,λa ha b hb=>by
    rw[IM.mp hb];exact λz=>c1 (by rw[<-z];exact ha)⟩⟩
  rw[ag,Il]
  rfl
 ·intro σ H1 h_;refine j9 h_ λo3 o4 S2 _hi=>?_
  refine ip _hi λ_r1 g1 e1 l1 rg nd=>?_
  sleep 92;exact (q l S2 H1 g1 e1 78 rg nd)
theorem FZ {dV:Value} (F:bv K "_law_differ" "_law_differ" DL dV f fd):bq P w K mg base bj 1 f fd ["_law_one","_law_other"] qe:=by
 have sc:aE ["_law_one","_law_other","_law_tool","_law_many_here","_law_heat","_law_name","_law_number","_law_beside"] ["_law_one","_law_other"] (av DL):=dk 47
 sleep 68
 refine fT h λv v' w w' _hi=>?_
 refine dN _hi λ_r1 _r2 _r3 q=>?_
 sleep 66;obtain ⟨t,u,rfl,_,_,et,us,eu,ru⟩:=_r2;obtain ⟨t',u',rfl,_,_,et',us',eu',ru'⟩:=_r3;exists _,(ah (aP 117 rfl (aI 140) 483 (ak (aP 117 rfl (aI 143) (cT rfl (aH 347 (aH (cP 6 sc) (aH (cP 7 sc) ca)))) (ak (aN (PW.pt (cK (au cu 127 193 154) (cp (au eZ 163 346 154)))) 155 aB))))) 155)
 try dsimp only[cxK]
 sleep 28;refine (aG t _ _ _ (rfl,rfl,bg.of et,rfl,u,rfl,484,aV (xs:=us) (λi σ H'=>H=H'/\∃o2 o3 o4 o5 o6 o7:Option V,σ= [Lh t,Lh t',o2,o3,o4,o5,o6,o7]) (rfl,eX none none none none none none rfl) 352 ?_ ?_))
 ·intro i y σ H1 hy h_;refine cA h_ λ_r1 _hi=>?_
  refine dR _hi λo2 o3 o4 o5 o6 o7 _r2=>?_
  sleep 92;subst _r2;sleep 94;sleep 77;refine (aG t' _ _ _ (rfl,rfl,bg.of et',rfl,u',rfl,(_,aD.of eu'),aV (xs:=us') (λi σ H'=>H=H'/\∃o5 o6 o7:Option V,σ= [Lh t,Lh t',some (.str e.1),some (.int e.2.1),some (.int e.2.2),o5,o6,o7]) (rfl,bT _ _ _ rfl) (λi σ H' _ h=>by rw[<-h.1];exact aD.of eu') ?_ ?_))
  ·rintro k y σ H1 hy' ⟨rfl,o5,o6,o7,rfl⟩;obtain ⟨x,hx,b,rfl,_,eb⟩:=ru'.at_ hy';exact (aJ b _ (rfl,bg.of eb,rfl,aJ _ _ (rfl,aJ _ _ (rfl,aJ _ _ (rfl,rfl,rfl,d2 (λc1=>(rfl,Ai (λc2=>q _) (λc2=>(rfl,bT _ _ _ rfl)))) (λc1=>(rfl,bT _ _ _ rfl)))))))
  ·rintro σ H1 ⟨rfl,o5,o6,o7,rfl⟩;exact (rfl,eX _ _ _ _ _ _ rfl)
 ·intro σ H1 h_;refine cA h_ λ_r1 _hi=>?_
  refine dR _hi λo2 o3 o4 o5 o6 o7 _r2=>?_
  sleep 92;subst _r2;exact q _
theorem F0 {dV:Value} (F:bv K "_law_unlike" "_law_unlike" DM dV f fd) (DZ71:Dx P w K mg base bj 1 "_law_open" ["_law_tasks","_law_case","_law_i"] [] kc) (DZ78:Dx P w K mg base bj 1 "_law_differ" ["_law_one","_law_other"] [] qe):bq P w K mg base bj 2 f fd ["_law_tasks","_law_case","_law_i","_law_j"] qf:=by
 have sc:aE ["_law_tasks","_law_case","_law_i","_law_j","_law_one","_law_other"] ["_law_tasks","_law_case","_law_i","_law_j"] (av DM):=dk 47
 sleep 68
 refine dR h λtl t i j D T _hi=>?_
 refine dU _hi λP _hj=>?_
 refine dN _hj λ_r1 TC il _hk=>?_
 refine cA _hk λjl q=>?_
 sleep 13;exists _,(ah (aP 117 rfl (aI (cj DZ71 hr 290)) 323 (ak (aP 117 rfl (aI (cj DZ71 hr 363)) 347 (ak (aN (cS (c5 (cj DZ78 hr (163<*>376)))) 155 aB))))) 155);try dsimp only[cxK]
 sleep 28;refine (eX tl t i D T P (rfl,TC,il,λp H1 g1 (vs,ev,rv)=>?_))
 refine (p,rfl,437,aV (xs:=vs) (λk σ H'=>aC H1 H'/\∃o4 o5:Option V,σ= [Lh tl,Lh t,some 377,some 518,o4,o5]) 327 (λk σ H' _ h=>aD.of (h.1 _ _ ev)) ?_ ?_)
 ·rintro k y σ H2 hy ⟨g2,o4,o5,rfl⟩;obtain ⟨v,hv,rv'⟩:=rv.at_ hy;have kk:=g1.trans g2;refine (eX tl t j D T P (rfl,TC.same kk,jl,λp3 H3 g3 (us,eu,ru)=>?_))
  refine (p3,rfl,484,aV (xs:=us) (λm σ H'=>H3=H'/\∃o5:Option V,σ= [Lh tl,Lh t,some 377,some 518,some y,o5]) (rfl,ν) (λm σ H' _ h=>by rw[<-h.1];exact aD.of eu) ?_ ?_)
  ·rintro m y2 σ H4 hy2 ⟨rfl,o5,rfl⟩;obtain ⟨w,hw,rw'⟩:=ru.at_ hy2;refine (aG y y2 v w (rfl,dJ rv' 446,rw',λb=>(mB.i ?_)))
   cases b with
   |true=>exact df ⟨rfl,_,rfl⟩
   |false=>exact dy (q _ _ (kk.trans g3))
  ·rintro σ H4 ⟨rfl,o5,rfl⟩;exact (g2.trans g3,aJ _ _ rfl)
 ·rintro σ H2 ⟨g2,o4,o5,rfl⟩;exact q _ _ 209
theorem F3 {dV:Value} (F:bv K "_law_clash" "_law_clash" DN dV f fd) (DZ71:Dx P w K mg base bj 1 "_law_open" ["_law_tasks","_law_case","_law_i"] [] kc) (DZ73:Dx P w K mg base bj 1 "_law_many" ["_law_way","_law_name"] [] ie) (DZ79:Dx P w K mg base bj 2 "_law_unlike" ["_law_tasks","_law_case","_law_i","_law_j"] [] qf):bq P w K mg base bj 3 f fd ["_law_parts","_law_case","_law_some"] tV:=by
 have sc:aE ["_law_parts","_law_case","_law_some","_law_tools_here","_law_tasks","_law_arcs_here","_law_pairs","_law_k","_law_i","_law_j","_law_name","_law_wants"] ["_law_parts","_law_case","_law_some"] (av DN):=dk 47
 sleep 68
 refine uV h λtp t l td tl pl v S2 D _hi=>?_
 refine j9 _hi λT P ps _hj=>?_
 refine jH _hj λ_r1 etp ed dnd TC t24 hp es _hk=>?_
 refine iC _hk λs1000 rg q=>?_
 sleep 13;exists _,(ah (kj 118 (cT rfl (aH 331 (aH (fH (i:=4) sc.nd rfl 252) (aH 347 (aH (cP 6 sc) ca)))))) (ah (aP 117 rfl (bJ rfl B.Kc (268<*>ac)) (cP 7 sc) (ak (aN (PW.pt (fr (cS (cX dA dS ae (ao aM 127 346 36) (ay ar rfl B.IO boot_len 264))) (dY (au da (ao aM 127 346 36) (bu ce 127 bO (bH 346)) 133)))) 155 aB))) (ah (aN (au dS 268 ae 154) 155 aB) (ah (aP 117 rfl 498 (cP 8 sc) (ak (aP 117 rfl 498 (cP 9 sc) (ak (aN (PW.pt (cK (au eZ 435 510 154) (cp (PW.pt (fr (au (A9 505) (@bc _ _ _ _ _ (435<*>(510<*>ac))) 322 133) (dY (c5 (cj DZ79 hr (163<*>(129<*>(435<*>(510<*>ac)))))))))))) 155 aB))))) (ah (uy (aP 117 rfl (AK 147) (fH (i:=10) sc.nd rfl 252) (ah (hE (own:= "_law_i") (ys:= ["_law_name","_law_tasks","_law_case"]) (js:= [10,4,1]) sc.nd (i:=11) rfl rfl rfl 148 498 (λC fp s H=>(ay (uX (K:=K) rfl rfl) rfl B.Kn boot_min ((cQ (own:= "_law_way") (ys:= ["_law_name"]) (js:= [1]) rfl 120 (zF (K:=K) rfl (cj DZ71 hr (127<*>(147<*>257)))) (λC fp s H=>(cj DZ73 hr 184)))<*>ac)))) (ak (aN (au gS (ay (jh rfl) rfl B.KJ PyProof.Rows.Boot.«sum» ((pv 11)<*>ac)) (i9 505 147 (pv 10) 36) 154) 155 aB))))) 155)))))
 try dsimp only[cxK]
 refine Ia ?_;intro D' r5 r4 r3 r2 r1;sleep 0;refine (aJ tp _ (rfl,bg.of etp,rfl,aJ _ _ (rfl,aJ _ _ (rfl,aJ _ _ 187))));obtain ⟨vt,et,rT⟩:=id TC.tasks;try dsimp only[cE,c9]
 refine cut (λσ H'=>∃o7:Option V,σ= [Lh tp,Lh t,Lh l,Lh td,Lh tl,some v,Lh pl,o7,none,none,none,none]/\aC H H') 232 ?_
 ·refine (aJ l _ (rfl,.inl (aD.of es),ν,by rw[I0];lia,by rw[I0];lia,bP (λk σ H'=>aC H H'/\∃o7:Option V,σ= [Lh tp,Lh t,Lh l,Lh td,Lh tl,some v,Lh pl,o7,none,none,none,none]) (.refl _,none,rfl) ?_ ?_))
  ·rintro k σ H1 hk ⟨g1,o7,rfl⟩;rw[IP,I0] at hk;have hx:=IA hk;generalize S2[k]=x at hx;have es1:=g1 _ _ es;have atx:io 476 (0+(k:Int))=some (.int x):=dC (bY hx);refine (aG l _ _ _ (rfl,rfl,aD.of es1,atx,d2 (λc1=>(aJ tl _ (rfl,.inl (aD.of (g1 _ _ et)),?_))) (λc1=>(q false _ nofun g1))))
   rw[rT.1];refine (n2 (λc2=>q false _ nofun g1) (λc2=>(aG l _ _ _ (rfl,rfl,aD.of es1,atx,ν,aJ l _ (rfl,aD.of es1,λp np=>?_)))))
   have ct:gU 476 none (some (0+(k:Int)))=(S2.take k).map V.int:=by
    rw[Jb,dH 218,List.map_take]
   rw[ct];have g2:=g1.trans (af np (.lst ((S2.take k).map V.int)));exact (aJ p _ (rfl,.inl (aD.of ag),rfl,lK _,zw (λc3=>q false _ nofun g2) (λc3=>(g2,ν))))
  ·rintro σ H1 ⟨g1,o7,rfl⟩;exact hN _ _ (ν,g1)
 rintro σ H1 ⟨o7,rfl,g1⟩;have es1:=g1 _ _ es;have ed1:=g1 _ _ ed;have TC1:=TC.same g1;have hp1:=hp.same g1;refine (aJ l _ (rfl,.inl (aD.of es1),d2 (λc=>q false _ nofun g1) (λc0=>?_)))
 have S2l:2<=S2.length:=by
  rw[I0] at c0
  lia
 try dsimp only[cE,c9]
 refine cut (λσ H'=>∃o8 o9:Option V,σ= [Lh tp,Lh t,Lh l,Lh td,Lh tl,some v,Lh pl,o7,o8,o9,none,none]/\aC H1 H') 232 ?_
 ·refine (l,rfl,(_,aD.of es1),aV (xs:=S2.map V.int) (λk σ H'=>aC H1 H'/\∃o8 o9:Option V,σ= [Lh tp,Lh t,Lh l,Lh td,Lh tl,some v,Lh pl,o7,o8,o9,none,none]) (.refl _,aJ _ _ rfl) (λk σ H' _ h=>aD.of (h.1 _ _ es1)) ?_ ?_)
  ·rintro k y σ H2 hy ⟨g2,o8,o9,rfl⟩;sleep 26;have iT:=rg i (ID hi);sleep 70
   refine (l,rfl,(_,aD.of (g2 _ _ es1)),aV (xs:=S2.map V.int) (λm σ H'=>aC H1 H'/\∃o9:Option V,σ= [Lh tp,Lh t,Lh l,Lh td,Lh tl,some v,Lh pl,o7,some (.int i),o9,none,none]) (g2,ν) (λk σ H' _ h=>aD.of (h.1 _ _ es1)) ?_ ?_)
   ·rintro m y σ H3 hy ⟨g3,o9,rfl⟩;sleep 76;have jT:=rg j (ID hj);obtain ⟨nj,hnj⟩:∃nj:Nat,j=(nj:Int):=⟨j.toNat,by lia⟩
    refine (rfl,n2 (λc1=>(by show 2<=sizeLine;decide,λt1 n1=>?_)) (λc1=>(g3,ν)))
    have g4:=g3.trans (af n1 (.tup [.int i,.int j]));refine (aG t1 pl i j (ps,(rfl,rfl,ag,Gn.of (hp1.same g4),d2 (λc2=>q true _ (λ_=>S2l) (g1.trans g4)) (λc2=>(eX tl t ni nj D T (P,(by rw[hni,hnj];rfl,TC1.same g4,by lia,by lia,λb H5 g5=>(mB.i ?_))))))))
    cases b with
    |true=>exact dy (q true _ (λ_=>S2l) ((g1.trans g4).trans g5))
    |false=>exact df ⟨g4.trans g5,_,rfl⟩
   ·rintro σ H3 ⟨g3,o9,rfl⟩;exact (g3,aJ _ _ rfl)
  ·rintro σ H2 ⟨g2,o8,o9,rfl⟩;exact hN _ _ (aJ _ _ (rfl,g2))
 rintro σ H2 ⟨o8,o9,rfl,g2⟩;have es2:=g2 _ _ es1;have ed2:=g2 _ _ ed1;have TC2:=TC1.same g2;have k2:=g1.trans g2;clear es1 ed1 TC1 hp1;refine (aJ td _ (rfl,ed2,λo nf=>?_))
 have ef:aK H2 td 356 td=some (.frz o 166):=ag;have sq:=kJ (o:=o) ed2;obtain ⟨O,cl,co,ec,ek,eo⟩:=TC2.cs;have TCf:iD D (aK H2 td 356) tl t T P:=(TC2.tasks.sq sq,(bT O cl co (sq _ _ rfl ec,sq _ _ rfl ek,eo.sq sq)),TC2.pk,TC2.ok);have esf:=sq _ _ rfl es2;have thaw:∀{H':Hp},aC (aK H2 td 356) H'->aC H2 (aK H' td 166):=λg=>kK ed2 g
 generalize aK H2 td 356=Hf at ef TCf esf thaw⊢;refine yQ (λk σ H'=>aC Hf H'/\∃o10 o11:Option V,σ= [Lh tp,Lh t,Lh l,Lh td,Lh tl,some v,Lh pl,o7,o8,o9,o10,o11]) 327 (λi σ H' _ h=>h.1 _ _ ef) ?_ ?_
 ·rintro k ky y σ H3 hk ⟨g3,o10,o11,rfl⟩;obtain ⟨p,hpp,rfl,rfl⟩:=nH hk;have hm:=pA dnd (show (p.1,p.2)∈D from ID hpp)
  refine (l,rfl,(_,aD.of (g3 _ _ esf)),cg (pR (λ_:Int=>True) V.int) 160 (λ_=>()) (aD.of (g3 _ _ esf)) 218 142 (λm y hy H4 g4 Q' hQ=>?_) λp2 H4 np2 g4 hp2=>?_)
  ·sleep 26;have iT:=rg i (ID hi);sleep 70
   have il:ni<T.length:=by lia
   have ne:=jj (P:=P) TC.ok il;have ln:=gw (P:=P) TC.ok il;refine (eX tl t ni D T P (by rw[hni];rfl,TCf.same 401,il,λq2 H5 g5 (vs,ev,rv)=>?_))
   refine (q2,rfl,437,cg (pR (λ_:Int=>True) V.int) 160 (λ_=>()) (aD.of ev) 318 142 (λk y hy H6 g6 Q2 hQ2=>?_) λp3 H6 np3 g6 hp3=>?_)
   ·obtain ⟨w,hw,rw'⟩:=rv.at_ hy;exact (bT y p.1 w (rfl,dJ rw' g6,hQ2 _ _ 170 (_,trivial,rfl)))
   ·obtain ⟨us,eu,ru⟩:=hp3;obtain ⟨zs,rfl,lz,_⟩:=ru.some_of;rw[I0,J5,rv.1] at lz;exact (aJ p3 zs (rfl,aD.of eu,λe=>by rw[e] at lz;exact ne (List.length_eq_zero_iff.mp lz.symm),λM hM hle=>hQ _ _ (g5.trans g6) (_,trivial,rfl)))
  ·sleep 138;obtain ⟨zs,rfl,lz,_⟩:=ru.some_of;have dg:=kQ (.inr (o,401 _ _ ef)) hm;exact (aJ p2 zs (rfl,aD.of eu,aJ td _ (rfl,dg,d2 (λc=>(bT td o _ (401 _ _ ef,nf,q true _ (λ_=>S2l) (k2.trans (thaw 401))))) (λc=>(g3.trans g4,aJ _ _ rfl)))))
 ·rintro σ H3 ⟨g3,o10,o11,rfl⟩;exact (bT td o _ (g3 _ _ ef,nf,q false _ nofun (k2.trans (thaw g3))))
theorem F4 {dV:Value} (F:bv K "_law_splits" "_law_splits" DO dV f fd) (DZ80:Dx P w K mg base bj 3 "_law_clash" ["_law_parts","_law_case","_law_some"] [] tV):bq P w K mg base bj 4 f fd ["_law_parts","_law_case"] qg:=by
 have sc:aE ["_law_parts","_law_case","_law_some","_law_i","_law_found","_law_one","_law_free"] ["_law_parts","_law_case"] (av DO):=dk 47
 sleep 68
 refine dR h λtp t D T A ps _hi=>?_
 refine iO _hi λn c _hj=>?_
 refine iC _hj λ_r1 pc q=>?_
 sleep 41;exists _,(ah (cO 2 sc (@aO _ _ _ _ (146<*>ac))) (ah (aP 117 rfl (bJ rfl B.Kc (229<*>ac)) (fH (i:=3) sc.nd rfl 252) (ak (cO 2 sc (am bQ 127 (cQ (own:= "_law_one") (ys:= ["_law_i"]) (js:= [3]) rfl 120 498 (λC fp s H=>(am bQ 118 (@aO _ _ _ _ 501)))))))) (ah (cO 4 sc 146) (ah (aP 117 rfl 498 (fH (i:=5) sc.nd rfl 252) (ah (cO 6 sc (ay (xR rfl) rfl B.KU PyProof.Rows.Boot.«all» ((yV (os:= ["_law_i","_law_j"]) (ys:= ["_law_one"]) (js:= [5]) rfl (EC (gG gR) 371 rfl rfl rfl rfl rfl rfl rfl) (aI 143) (λC fp s H=>vK (K:=K) (n:=2) rfl rfl (aH (j4 (os:= ["_law_i","_law_j"]) (ys:= ["_law_one"]) (i:=0) 41 rfl rfl) (aH (j4 (os:= ["_law_i","_law_j"]) (ys:= ["_law_one"]) (i:=1) 41 rfl rfl) ca))) (λC fp s H=>(yd (dP (pV (K:=K) rfl) 118 127 133) (ki (dP (pV (K:=K) rfl) 129 127 133)))))<*>ac))) (ak (aN (PW.pt (cK (c5 322) (cp (c5 (cj DZ80 hr (118<*>(129<*>376))))))) (ak (bI (de IN Ij IZ bx 163 376))) aB)))) (ak (aw 163))))))
 try dsimp only[cxK]
 refine GY ?_;intro D' r4 r3 r2 r1;sleep 0;refine fT pc.part.ex λtd tl la pl _hi=>?_
 sleep 133
 refine cA _hj λhA hP=>?_
 sleep 131;have t4:=pc.t4;have lv:=rT.1;refine (by show 0<=sizeLine;decide,λl0 nl0=>(by show 1<=sizeLine;decide,λls nls=>?_))
 have g0:=af nl0 149;have g1:=af nls (.lst [.ref l0]);have e0:aK (aK H l0 149) ls (.lst [.ref l0]) l0=some (.lst (([]:List Int).map V.int)):=g1 _ _ ag;have hs0:zK (aK (aK H l0 149) ls (.lst [.ref l0])) ls [[]]:=(_,ag,A2.one (n4 trivial e0));have k1:=g0.trans g1;generalize aK (aK H l0 149) ls (.lst [.ref l0])=H1 at k1 hs0⊢;refine (aG tp _ _ _ (rfl,rfl,bg.of (k1 _ _ etp),rfl,aJ tl _ (rfl,.inl (aD.of (k1 _ _ et)),ν,by lia,by lia,bP (λi σ H'=>∃(o3:Option V) (ls:Addr) (SS:List 198),σ= [Lh tp,Lh t,Lh ls,o3,none,none,none]/\aC H H'/\zK H' ls SS/\SS.length<=2^i/\∀S∈SS,S.length<=i/\∀z∈S,0<=z/\z<(i:Int)) (bT none ls [[]] (rfl,k1,hs0,IH _,λS hS=>by rw[IM.mp hS];exact (IH _,λz hz=>by cases hz))) ?_ ?_)))
 ·intro i σ H2 hi h_;refine j9 h_ λo3 ls SS _hi=>?_
  refine dN _hi λ_r1 g2 hs _hj=>?_
  refine cA _hj λl2 s4=>?_
  sleep 27;rw[IP,lv] at hi;have p16:2^i<=2^4:=Nat.pow_le_pow_right 41 78
  obtain ⟨vs,es,rs⟩:=id hs;have ll:=rs.1;refine (ls,rfl,(_,aD.of es),cg wx 160 (λk=>SS.getD k []++ [0+(i:Int)]) (aD.of es) 78 142 (λk y hy H3 g3 Q' hQ=>?_) λlc H3 nlc g3 hc=>?_)
  ·obtain ⟨S2,hS2,hc⟩:=rs.at_ hy;obtain ⟨cc,rfl,_,ecc⟩:=lQ hc;rw[aL hS2] at hQ;have:=(s4 S2 (ID hS2)).1;refine (by show 1<=sizeLine;decide,λp np=>?_)
   have e3:=g3.trans (af np (.lst [.int 167]));refine (aG cc p _ _ (rfl,rfl,e3 _ _ ecc,ag,by rw[I0];simp;lia,λp2 np2=>hQ _ _ ((af np _).trans (af np2 _)) (n4 (.inl ((af np _).free np2)) ?_)))
   rw[ag,Il]
   rfl
  obtain ⟨us,eu,ru⟩:=hc;have lu:=ru.1;rw[I0,J5] at lu;refine (aG ls lc _ _ (rfl,rfl,g3 _ _ es,eu,by lia,λlz nlz=>?_))
  have ge:=af nlz (.lst (vs++us));refine (bT _ lz _ (rfl,g2.trans 497,(_,ag,((rs.imp λ_ _ q=>dJ q 497).append (ru.imp λ_ _ q=>HD (dJ q ge)))),?_,λS hS=>?_))
  ·rw[IB,I0,J5,Nat.pow_succ]
   lia
  ·rcases IS.mp hS with h|h
   ·have:=s4 S h;exact (by lia,λz hz=>by have:=this.2 z hz;lia)
   ·obtain ⟨k,hk,rfl⟩:=IV.mp h;have kl:k<SS.length:=by rw[<-ll];exact JB.mp hk
    have:=s4 _ 516;rw[aL (IA kl)];refine (by rw[IB];show _+1<=_;lia,λz hz=>?_)
    rcases IS.mp hz with y|y
    ·have:=this.2 z y
     lia
    ·rw[IM.mp y]
     lia
 intro σ H2 h_;refine j9 h_ λo3 ls SS _hi=>?_
 refine dN _hi λ_r1 g2 hs _hj=>?_
 refine cA _hj λl2 s4=>?_
 sleep 27;rw[IP,lv] at l2 s4;have p16:2^T.length<=2^4:=Nat.pow_le_pow_right 41 t4
 obtain ⟨vs,es,rs⟩:=id hs;have ll:=rs.1;refine (by show 0<=sizeLine;decide,λlf nlf=>?_)
 have gf:=af nlf 149;have hf0:cU wx (λa=>a≠lf) (aK H2 lf 149) lf []:=cU.new
 generalize aK H2 lf 149=H3 at gf hf0⊢;have ot:=pc.cok.pairs 41
 refine (ls,rfl,(_,aD.of (gf _ _ es)),aV (xs:=vs) (λk σ H'=>(∃o3 o5 o6:Option V,σ= [Lh tp,Lh t,Lh ls,o3,Lh lf,o5,o6])/\aC H2 H'/\∃FF:List 198,cU wx (λa=>a≠lf) H' lf FF/\FF.length<=k/\∀S∈FF,S.length<=4/\2<=S.length/\Go T S) ((bT o3 none none rfl),gf,[],hf0,IH _,λS hS=>by cases hS) 406 ?_ ?_)
 ·rintro k y σ H4 hy ⟨⟨o3,o5,o6,rfl⟩,g4,FF,⟨fs,ef,rf⟩,lF,okF⟩;obtain ⟨S2,hS2,hc⟩:=rs.at_ hy;obtain ⟨cc,rfl,_,ecc⟩:=lQ hc;have kl:=(IC.mp hy).1;have g24:=g2.trans g4;have pc4:=pc.same g24;obtain ⟨kl',ol,ec,ek,bo,eo,ro⟩:=id pc4.cs;have S4:=(s4 S2 (ID hS2)).1;have SR:Go T S2:=(s4 S2 (ID hS2)).2;have lbo:bo.length<=1000:=by rw[ro.1];exact ot.1
  refine (aG t _ _ _ (rfl,rfl,bg.of ec,rfl,ol,rfl,(_,aD.of eo),Br (fg V.bl) 160 (λi=> !decide ((c.2.getD i []).getD 0 0∈S2)|| !decide ((c.2.getD i []).getD 1 0∈S2)) (aD.of eo) 218 142 (λi y hy H5 g5 o ho Q' hQ=>?_) λlc H5 nlc g5 hc=>?_))
  ·obtain ⟨o1,o2,rfl⟩:=zL ho;sleep 34;have il:i<c.2.length:=by rw[<-ro.1];exact (IC.mp hb).1
   have hk:=IA il;have eb:=g5 _ _ (ro.2 i b _ hb hk);obtain ⟨p,q',e2⟩:=ot.2 _ 452;rw[aL hk,e2] at hQ;rw[e2] at eb;have ecc5:=(g4.trans g5) _ _ ecc;refine (aJ b _ (rfl,bg.of eb,rfl,aJ _ _ (rfl,aJ _ _ (rfl,rfl,([some (.int p),some (.int q')],rfl,rfl),aJ cc _ (rfl,.inl (aD.of ecc5),rfl,lK S2,mB.i ?_)))));rw[if_pos (show (true=true) from rfl),mF]
   refine n2 (λm1=>hQ _ _ 170 ?_) (λm1=>(aJ cc _ (rfl,.inl (aD.of ecc5),rfl,lK S2,hQ _ _ 170 ?_)))
   ·show V.bl true=V.bl (!decide (p∈S2)||_);rw[decide_eq_false m1]
    rfl
   ·show V.bl (if true=true then !uq (V.int q') 476 else _)=V.bl (!decide (p∈S2)|| !decide (q'∈S2))
    rw[if_pos (show (true=true) from rfl),mF,decide_eq_true m1]
    rfl
  obtain ⟨us,eu,ru⟩:=hc;rw[ru.val,I0,ro.1] at eu;refine (aJ lc _ (rfl,aD.of eu,?_));rw[xW];have g25:=g24.trans g5;have skip:(∃o3' o5' o6':Option V,[some (.ref tp),some 427,some (.ref ls),o3,some (.ref lf),some (.ref cc),some (.bl (!cY c.2 S2))]= [some (.ref tp),some 427,some (.ref ls),o3',some (.ref lf),o5',o6']):=373;cases ha:cY c.2 S2 with
  |true=>exact (⟨373,g4.trans g5,FF,⟨fs,g5 _ _ ef,rf.imp λ_ _ q=>dJ q g5⟩,by lia,okF⟩)
  |false=>
   have pc5:=pc.same g25;have cl:oq T 400 c:=pc.cok;refine ((rG tp t cc td tl pl (.ref la) S2 D (bT T c.1 ps (rfl,g25 _ _ etp,g25 _ _ etd,pc.ok.dnd,(hT.same g25,(_,pc5.cs),cl.pk,pc.ok.ways),pc.ok.t24,hP.same g25,(g4.trans g5) _ _ ecc,by lia,SR,λb H6 hb g6=>(mB.i ?_)))))
   have g56:=g5.trans g6;cases b with
   |false=>exact df ⟨373,g4.trans g56,FF,⟨fs,g56 _ _ ef,rf.imp λ_ _ q=>dJ q g56⟩,by lia,okF⟩
   |true=>
    have lf1:=rf.1;refine dy (.inl (rfl,_,aD.of (g56 _ _ ef)),bT lf _ _ (rfl,rfl,g56 _ _ ef,by lia,(373,dQ (g4.trans g56) nlf _,FF++ [S2],cU.put (λz=>z rfl) (rf.imp λ_ _ q=>dJ q g56) (n4 (λz=>?_) ((g4.trans g56) _ _ ecc)),by rw[IB];show _+1<=_;lia,λS hS=>?_)))
    ·rw[z,nlf] at ecc;cases ecc
    ·rcases IS.mp hS with h|h
     ·exact okF S h
     ·rw[IM.mp h];exact (by lia,hb rfl,SR)
 ·rintro σ H4 ⟨⟨o3,o5,o6,rfl⟩,g4,FF,hF,lF,okF⟩;exact (q lf FF H4 (g2.trans g4) hF.any 78 okF)
theorem F5 {dV:Value} (F:bv K "_law_inner" "_law_inner" DP dV f fd) (DZ81:Dx P w K mg base bj 4 "_law_splits" ["_law_parts","_law_case"] [] qg):bq P w K mg base bj 5 f fd ["_law_parts","_law_case","_law_cell"] tW:=by
 have sc:aE ["_law_parts","_law_case","_law_cell","_law_free","_law_found","_law_some","_law_turn"] ["_law_parts","_law_case","_law_cell"] (av DP):=dk 47
 sleep 68
 refine uV h λtp t x D T A ps n c _hi=>?_
 refine iC _hi λ_r1 pc q=>?_
 sleep 66;exists _,(ah (fY sc.nd (i:=3) rfl rfl (own:= "_law_i") (ys:= ["_law_case"]) (js:= [1]) rfl 120 (bJ rfl B.Kc (316<*>ac)) (λC fp s H=>(au gK (ao 395 261 118 36) bz 154)) (λC fp s H=>118)) (ah (fY sc.nd (i:=3) rfl rfl (own:= "_law_i") (ys:= ["_law_parts"]) (js:= [0]) rfl 120 (aI 147) (λC fp s H=>(au cu (ay xT rfl B.IO boot_len ((ao 395 261 118 36)<*>ac)) ae 154)) (λC fp s H=>118)) (ah (aN (PW.pt (cK (au cu (am aR 127 ae) ae 154) (cp (au (j2 hr.units0) 147 146 154)))) (ak (aw (@bc _ _ _ _ _ (bW<*>((ao aM 147 (am aR 339 309) 36)<*>ac))))) aB) (ah (cO 4 sc (cj DZ81 hr 184)) (ah (aN (au (jY hr.units0) 163 146 154) 243 aB) (ah (cO 5 sc (ao aM 163 (am aR 339 (ay ar rfl B.IO boot_len 264)) 36)) (ah (cO 6 sc (am aR 339 (ay ar rfl B.IO boot_len 376))) (ak (aw (@bc _ _ _ _ _ (bW<*>((am bQ (bu ce 193 (bH 322) bO) (bu ce 193 bO (bH 322)))<*>ac))))))))))))
 try dsimp only[cxK]
 sleep 85;sleep 0;refine fT pc.part.ex λtd tl la pl _hi=>?_
 sleep 133
 refine cA _hj λhA hP=>?_
 sleep 131;have t4:=pc.t4;have lv:=rT.1;obtain ⟨kl,ol,ec,ek,hO⟩:=id pc.cs;have lP:c.1.length=T.length:=pc.cok.pk.len;refine (aG t _ _ _ (rfl,rfl,bg.of ec,rfl,aJ kl _ (rfl,.inl (aD.of ek),ν,by rw[I0];lia,by rw[I0];lia,kF 284 160 240 489 (by rw[IP,I0];lia) 142 (λi hi H2 g2 S' hS'=>?_) (λi hi _ H2 g2 Q' hQ=>(hQ _ _ 170 rfl)) λlf H1 nlf g1 hf=>?_)))
 ·rw[IP,I0] at hi;have hk:=IA hi;rw[aL hk] at hS';have at1:io (c.1.map iJ) 167=some (iJ c.1[i]):=by
   rw[Jb];exact aS (bY hk)
  exact (aG t _ _ _ (rfl,rfl,bg.of (g2 _ _ ec),rfl,aG kl _ _ _ (rfl,rfl,aD.of (g2 _ _ ek),at1,rfl,hS' _ 170)))
 obtain ⟨us,eu,ru⟩:=hf;rw[ru.val] at eu;have okf:∀z∈cI (((c.1.map iJ).length:Nat):Int).toNat 240 489,∃k:Nat,z=(k:Int)/\k<T.length/\c.1.getD k none=none:=λz hz=>by
  sleep 60;rw[IP,I0] at h1;exists k,Jb _,by rw[<-lP];exact JB.mp h1
  rw[decide_eq_true_eq] at h2;cases hh:c.1.getD k none with
  |none=>rfl
  |some j=>rw[hh] at h2;cases h2
 have lf4:(cI (((c.1.map iJ).length:Nat):Int).toNat 240 489).length<=4:=by
  have:=db (((c.1.map iJ).length:Nat):Int).toNat 240 489
  rw[IP,I0] at this;rw[IP,I0]
  lia
 generalize cI (((c.1.map iJ).length:Nat):Int).toNat 240 489=F1 at eu okf lf4
 refine (lf,rfl,484,jd 284 160 158 443 (aD.of eu) 218 142 (λi y hy H2 g2 S' hS'=>?_) (λi y hy _ H2 g2 Q' hQ=>?_) λlf2 H2 nlf2 g2 hf2=>?_)
 ·sleep 105;obtain ⟨k,rfl,kT,_⟩:=okf z (ID hz);have hk:=IA kT;rw[aL hz,IP,aL hk] at hS';refine dU (rT.get hk) λy _hi=>?_
  refine cA _hi λhy _hj=>?_
  refine dU _hj λwl _hk=>?_
  sleep 127
  refine dU _hl λwv _hm=>?_
  refine cA _hm λew rw'=>?_
  sleep 109;have g12:=g1.trans g2;refine (aG tp _ _ _ (rfl,rfl,bg.of (g12 _ _ etp),rfl,aG tl _ _ _ (rfl,rfl,aD.of (g12 _ _ et),(aS hy),aJ wl _ (rfl,g12 _ _ ew,rfl,?_))));have:=hS' _ 170;rw[<-rw'.1] at this;exact this
 ·sleep 105;rw[aL hz] at hQ;exact (hQ _ _ 170 rfl)
 obtain ⟨us,eu2,ru2⟩:=hf2;rw[ru2.val] at eu2;have okf2:∀z∈cI (F1.map V.int).length 158 443,ii T c.1 z=true:=λz hz=>by
  sleep 60;rw[I0] at h1;have hk:=IA (JB.mp h1);rw[aL hk] at h2⊢;obtain ⟨m,e,mT,mP⟩:=okf _ (IL (JB.mp h1));rw[e] at h2⊢;rw[decide_eq_true_eq] at h2;injection h2 with h2
  unfold ii;rw[IP] at h2⊢;rw[decide_eq_true (show (0:Int)<=(m:Int) by lia),decide_eq_true (show (m:Int)<121 by lia),decide_eq_true (show (T.getD m []).length=2 by lia),decide_eq_true mP]
  rfl
 have lf24:(cI (F1.map V.int).length 158 443).length<=4:=by
  have:=db (F1.map V.int).length 158 443
  rw[I0] at this;rw[I0]
  lia
 generalize cI (F1.map V.int).length 158 443=F2 at eu2 okf2 lf24
 have g02:=g1.trans g2;clear eu okf lf4 ru ru2;try dsimp only[cE,c9]
 refine cut (λσ H'=>σ= [Lh tp,Lh t,some 368,Lh lf2,none,none,none]/\aC H H') 232 ?_
 ·have miss:=hN _ _ (rfl,g02);refine (224,rfl,d2 328 (λ_=>df miss))
  sleep 63
  sleep 123;refine (bT lf2 le _ (rfl,rfl,aD.of (ge _ _ eu2),aD.of ag,mB.i ?_));generalize aK H2 le 149=H3 at ge⊢;have g03:=g02.trans ge
  by_cases fe:F2= []
  ·rw[fe];exact df (hN _ _ (rfl,g03))
  have re:(F2.map V.int).isEmpty=false:=by cases F2 with|nil=>exact absurd rfl fe|cons _ _=>rfl
  have fl:1<=F2.length:=K2.mpr fe;rw[re];refine dy (135,aJ lf2 _ (rfl,.inl (aD.of (ge _ _ eu2)),?_))
  rw[I0];have mz:=fm (a:=x.fdiv 2) (n:=507) 78
  have hz:=IA (show ((x.fdiv 2).fmod 507).toNat<F2.length by lia)
  have az:io (F2.map V.int) ((x.fdiv 2).fmod 507)=some (.int (F2[((x.fdiv 2).fmod 507).toNat]'(by lia))):=by
   have:=aS (bY (f:=V.int) hz)
   rwa [Jc mz.1] at this
  refine (by lia,aG lf2 _ _ _ (rfl,rfl,aD.of (ge _ _ eu2),az,by show 2<=sizeLine;decide,λtr ntr=>?_))
  have okz:=okf2 _ (ID hz);generalize F2[((x.fdiv 2).fmod 507).toNat]'(by lia)=z at okz
  have gr:=af ntr (.tup [.str "ways",.int z]);exact q _ _ (g03.trans gr) (.inr (.ways z,(tr,rfl,g03.free ntr,ag),(trivial,λw hw=>by cases hw;trivial),(λw C e=>by cases e),.ways z,rfl,okz))
 rintro σ H3 ⟨rfl,g3⟩;refine (eX tp t D T A ps (aJ n c (rfl,pc.same g3,λls Ss H4 g4 hs l16 okS=>?_)))
 have g34:=g3.trans g4;obtain ⟨vs,es,rs⟩:=id hs;have lvs:=rs.1;sleep 63
 sleep 123;refine (bT ls le _ (rfl,rfl,aD.of (ge _ _ es),aD.of ag,mB.i ?_));generalize aK H4 le 149=H5 at ge⊢;have g35:=g34.trans ge
 by_cases se:Ss= []
 ·have:vs= []:=JF (by rw[lvs,se];rfl)
  rw[this];exact dy (q _ _ g35 471)
 have slp:1<=Ss.length:=K2.mpr se;have re:vs.isEmpty=false:=by cases vs with|nil=>rw[<-lvs] at slp;cases slp|cons _ _=>rfl
 rw[re];refine df (135,aJ ls _ (rfl,.inl (aD.of (ge _ _ es)),?_))
 rw[lvs];have mz:=fm (a:=x.fdiv 2) (n:=(Ss.length:Int)) 78
 have hz:=IA (show ((x.fdiv 2).fmod (Ss.length:Int)).toNat<Ss.length by lia)
 obtain ⟨v,hv,hc⟩:=rs.get hz;obtain ⟨cc,rfl,_,ecc⟩:=lQ hc;have az:io vs ((x.fdiv 2).fmod (Ss.length:Int))=some (.ref cc):=by
  have:=aS hv
  rwa [Jc mz.1] at this
 obtain ⟨S4,S2l,rS⟩:=okS _ (ID hz);generalize Ss[((x.fdiv 2).fmod (Ss.length:Int)).toNat]'(by lia)=S2 at ecc S4 rS S2l
 have ecc5:=ge _ _ ecc;refine (by lia,aG ls _ _ _ (rfl,rfl,aD.of (ge _ _ es),az,?_))
 refine (135,aJ cc _ (rfl,.inl (aD.of ecc5),?_))
 rw[I0];have mt:=fm (a:=x.fdiv 64) (n:=(S2.length:Int)) 78
 exists by lia
 dsimp only;obtain ⟨k,hk⟩:∃k:Nat,(x.fdiv 64).fmod (S2.length:Int)=(k:Int):=⟨((x.fdiv 64).fmod (S2.length:Int)).toNat,by lia⟩
 rw[hk] at mt⊢;refine (ν,aJ cc _ (rfl,aD.of ecc5,λp1 np1=>?_))
 rw[du 218]
 have e1:=af np1 (.lst ((S2.map V.int).drop k));refine (ν,aJ cc _ (rfl,aD.of (e1 _ _ ecc5),λp2 np2=>?_))
 rw[dH 218]
 have e2:=af np2 (.lst ((S2.map V.int).take k));refine (aG p1 p2 _ _ (rfl,rfl,e2 _ _ ag,ag,by rw[Io,IR,I0];lia,λp3 np3=>380))
 have e3:=af np3 (.lst ((S2.map V.int).drop k++(S2.map V.int).take k));have gr:=af ntr (.tup [.str "split",.ref p3]);have g45:=g35.trans ((e1.trans e2).trans e3);have pm:=xX S2 k;refine q _ _ (g45.trans gr) (.inr (.one "split" (S2.drop k++S2.take k),(tr,rfl,g45.free ntr,p3,(g35.trans (e1.trans e2)).free np3,ag,?_),((.inr (.inr rfl),by rw[pm.length_eq];lia),λw hw=>?_),(λw C e=>by cases e;rw[pm.length_eq];exact (by lia,λ_=>S4)),.split (S2.drop k++S2.take k),rfl,λi hi=>rS i (pm.mem_iff.mp hi)))
 ·rw[gr _ _ ag,Il,List.map_drop,List.map_take]
 ·cases hw;show (S2.drop k++S2.take k).length<=8;rw[pm.length_eq]
  lia
theorem F6 {dV:Value} (F:bv K "_law_cases" "_law_cases" DQ dV f fd):bq P w K mg base bj 1 f fd ["_law_case","_law_row"] tT:=by
 have sc:aE ["_law_case","_law_row","_law_found","_law_i","_law_j"] ["_law_case","_law_row"] (av DQ):=dk 47
 sleep 68
 refine dR h λt r w P O Z0 _hi=>?_
 refine ip _hi λ_r1 hC0 po p24 hrw _hj=>?_
 refine iC _hj λok rg q0=>?_
 sleep 41;exists _,(ah (aN (au cu 143 bW 154) (ak (aw (jV (hd:=none) (own:= "_law_way") (ys:= ["_law_case","_law_row"]) (js:= [0,1]) hr.hd 175 (gX rfl B.Kc 420) (λC fp s H=>(@bc _ _ _ _ _ ((am bQ (am bQ (bu (tI (K:=K) rfl) 261 bO (bH (ao 506 127 ae 36))) (@aO _ _ _ _ 257)) (bu (tI (K:=K) rfl) 261 (bH (am aW (ao 506 127 ae 36) ae)) bO))<*>(261<*>ac))))))) aB) (ah 402 (ah (aP 117 rfl (aI 143) 331 (ak (aP 117 rfl (aI 143) 323 (ak (aN (au eZ 147 163 154) (ak (bI (de IN Ij IZ bx 127 ((@bc _ _ _ _ _ (140<*>((am bQ 140 (@aO _ _ _ _ (396<*>ac)))<*>ac)))<*>ac)))) aB))))) 313)))
 try dsimp only[cxK]
 sleep 88;sleep 0;have hC1:=DX hC0;obtain ⟨Z,hZd⟩:∃Z:Addr->Prop,Z=λa=>Z0 a/\H a≠none:=502
 have hZ:∀a,Z a->H a≠none:=λa h=>by rw[hZd] at h;exact h.2
 rw[<-hZd] at hC1;have q:∀(l:Addr) (H':Hp),aC H H'->H l=none->cU dW (λa=>a≠l/\(H a=none∨Z a)) H' l (fi P O w)->Q 271 H':=λl H' g nl h=>q0 l H' g nl (h.mono λa k=>(k.1,k.2.imp id λz=>by rw[hZd] at z;exact z.1))
 clear hZd q0 hC0;refine j9 hC1 λt' kl ol _hi=>?_
 refine ip _hi λe0 zt zk zo ec _hj=>?_
 refine cA _hj λek hOz=>?_
 cases e0;replace ek:H kl=some (.lst (P.map iJ)):=ek;have hO:bn H ol O:=zJ hOz;obtain ⟨bo,eo,ro⟩:=id hO;obtain ⟨vz,ez,rz⟩:=hOz;rw[eo] at ez;injection ez with ez
 injection ez with ez
 subst ez;have lbo:bo.length<=1000:=by rw[ro.1];exact po.1
 cases w with
 |ways i=>
  have er:H r=some (.tup [.str "ways",.int i]):=hrw;obtain ⟨i0,i1⟩:=rg i rfl;obtain ⟨k,rfl⟩:∃k:Nat,i=(k:Int):=494
  have kl':k<P.length:=by lia
  refine (aG r _ _ _ (rfl,rfl,bg.of er,rfl,rfl,mB.i (dT rfl (ν,by decide,by decide,j8 dW Z (λj=>(P.set k 472,O)) me.no 78 hZ (λj hj H2 g2 Q' hQ=>?_) λlc H2 nlc g2 hc=>?_))))
  ·refine (aG t _ _ _ (rfl,rfl,bg.of (g2 _ _ ec),rfl,aG r _ _ _ (rfl,rfl,bg.of 361,rfl,ν,aJ kl _ (rfl,aD.of (g2 _ _ ek),λp1 np1=>?_))))
   rw[dH 218]
   have e1:=af np1 (.lst ((P.map iJ).take k));sleep 44
   have e2:=af np2 (.lst [.int (0+(j:Int))]);refine (aG p1 p2 _ _ (rfl,rfl,e2 _ _ ag,ag,by rw[IR,I0];simp;lia,λp3 np3=>?_))
   have e3:=af np3 (.lst ((P.map iJ).take k++ [.int (0+(j:Int))]));have g5:=g2.trans ((e1.trans e2).trans e3);refine (aG t _ _ _ (rfl,rfl,bg.of (g5 _ _ ec),rfl,aG r _ _ _ (rfl,rfl,bg.of (g5 _ _ er),rfl,ν,aJ kl _ (rfl,aD.of (g5 _ _ ek),λp4 np4=>?_))))
   rw[show ((k:Int)+1)=((k+1:Nat):Int) from rfl,du 218]
   have e4:=af np4 (.lst ((P.map iJ).drop 291));refine (aG p3 p4 _ _ (rfl,rfl,e4 _ _ ag,ag,by rw[IB,IR,Io,I0];simp;lia,λp5 np5=>?_))
   have e5:=af np5 (.lst ((P.map iJ).take k++ [.int (0+(j:Int))]++(P.map iJ).drop 291));have g7:=g5.trans (e4.trans e5);refine (aG t _ _ _ (rfl,rfl,bg.of (g7 _ _ ec),rfl,by show 2<=sizeLine;decide,λt5 nt5=>?_))
   have e6:=af nt5 (.tup [.ref p5,.ref ol]);have ge:=(((((e1.trans e2).trans e3).trans e4).trans e5).trans e6);have set5:(P.map iJ).take k++ [.int (0+(j:Int))]++(P.map iJ).drop 291=(P.set k 472).map iJ:=by
    rw[List.map_set,List.set_eq_take_append_cons_drop,if_pos (by rw[I0];exact kl'),JE,Jb]
    rfl
   refine hQ _ _ ge (bT t5 p5 ol (rfl,.inl (((((e1.trans e2).trans e3).trans e4).trans e5).free nt5),.inl ((((e1.trans e2).trans e3).trans e4).free np5),.inr zo,ag,by rw[e6 _ _ ag,set5],?_))
   exact (_,(g7.trans e6) _ _ eo,rz.imp λ_ _ q=>rD (dJ q (g7.trans e6)) λa h=> .inr h)
  ·exact q lc H2 g2 nlc hc
 |split S2=>
  obtain ⟨c,er,es⟩:=hrw;have s8:S2.length<=8:=ok;refine (aG r _ _ _ (rfl,rfl,bg.of er,rfl,rfl,mB.i (dF 41 (by show 0<=sizeLine;decide,λlc nlc=>?_))))
  have g0:=af nlc 149;refine (aG r _ _ _ (rfl,rfl,bg.of (g0 _ _ er),rfl,c,rfl,(_,aD.of (g0 _ _ es)),aV (xs:=S2.map V.int) (λk σ H'=>(∃o4 o5:Option V,σ= [Lh t,Lh r,Lh lc,o4,o5])/\aC H H'/\cU dW (λa=>a≠lc/\(H a=none∨Z a)) H' lc (dw P O S2 (S2.take k))) (386,g0,cU.new) 406 ?_ ?_))
  ·rintro k y σ H2 hy ⟨⟨o4,o5,rfl⟩,g2,cn⟩;sleep 26;refine (aG r _ _ _ (rfl,rfl,bg.of 361,rfl,c,rfl,(_,aD.of (g2 _ _ es)),aV (xs:=S2.map V.int) (λm σ H'=>(∃o5:Option V,σ= [Lh t,Lh r,Lh lc,some (.int i),o5])/\aC H H'/\cU dW (λa=>a≠lc/\(H a=none∨Z a)) H' lc (dw P O S2 (S2.take k)++((S2.take m).filter λj=> !decide 319).map (λj=>283))) (⟨ν⟩,g2,by simpa using cn) 406 ?_ ?_))
   ·rintro m y σ H3 hy ⟨⟨o5,rfl⟩,g3,vs,ev,rv⟩;sleep 76;refine (rfl,n2 344 (λc1=>(⟨ν⟩,g3,vs,ev,by rw[bG hj,jq,if_pos c1,Ji];exact rv)))
    have lz:vs.length<=1000:=by
     have h1:=rv.1;rw[IB,I0] at h1;have h2:=iG (P:=P) (O:=O) (S:=S2) (S1:=S2.take k);have h3:(S2.take k).length*S2.length<=8*8:=KC (by rw[IR];lia) s8
     have h4:=Jt (λj=> !decide 319) (S2.take m)
     rw[IR] at h4
     lia
    refine (.inl (rfl,_,aD.of ev),aG t _ _ _ (rfl,rfl,bg.of (g3 _ _ ec),rfl,aG t _ _ _ (rfl,rfl,bg.of (g3 _ _ ec),rfl,by show 2<=sizeLine;decide,λt1 nt1=>383)))
    have e2:=af nt1 (.tup [.int i,.int j]);have e3:=af nl1 491;have k3:=g3.trans (e2.trans e3);refine (aG ol l1 _ _ (rfl,rfl,k3 _ _ eo,ag,by rw[I0];simp;lia,λo no=>?_))
    have hO':=i5 (ro.imp λa k q=>k3 _ _ q) (dZ.one (k:= [i,j]) (a:=t1) (e3 _ _ ag)) no
    have e4:=af no (.lst (bo.map V.ref++ [.ref t1]));refine 382
    have e5:=af nt2 (.tup [.ref kl,.ref o]);have ge:=((e2.trans e3).trans e4).trans e5;refine (bT lc _ _ (rfl,rfl,ge _ _ ev,by lia,⟨ν⟩,dQ 497 nlc _,?_))
    rw[bG hj,jq,if_neg c1,<-JE];have ne:∀{a:Addr} {ob:HO},H a=some ob->a≠lc:=λh z=>by rw[z,nlc] at h;cases h
    have nn:∀{Hx:Hp} {a:Addr},aC H3 Hx->Hx a=none->a≠lc:=λg h z=>by rw[z,g _ _ ev] at h;cases h
    have zn:∀a,Z a->a≠lc/\(H a=none∨Z a):=λa h=>(λz=>hZ a h (by rw[z];exact nlc),.inr h)
    have t1P:t1≠lc/\(H t1=none∨Z t1):=(λz=>(by rw[z,ev] at nt1;cases nt1),.inl (g3.free nt1))
    refine cU.put (λh=>h.1 rfl) (rv.imp λ_ _ q=>dJ q ge) (bT t2 kl o (rfl,(λz=>(by rw[z,((e2.trans e3).trans e4) _ _ ev] at nt2;cases nt2),.inl ((g3.trans ((e2.trans e3).trans e4)).free nt2)),zn _ zk,(λz=>(by rw[z,(e2.trans e3) _ _ ev] at no;cases no),.inl ((g3.trans (e2.trans e3)).free no)),ag,497 _ _ ek,_,e5 _ _ ag,?_))
    exact (rz.imp λ_ _ q=>rD (dJ q 497) zn).append (.one (t1,rfl,t1P,((e3.trans e4).trans e5) _ _ ag))
   ·rintro σ H3 ⟨⟨o5,rfl⟩,g3,cn⟩;rw[I0,Ir] at cn;exact (355,g3,by rw[bG hi,lX];exact cn)
  ·rintro σ H2 ⟨⟨o4,o5,rfl⟩,g2,cn⟩;rw[I0,Ir] at cn;exact (q _ _ g2 nlc cn)
theorem F7 {dV:Value} (F:bv K "_law_leaf" "_law_leaf" DR dV f fd) (DZ70:Dx P w K mg base bj 2 "_law_total" ["_law_arcs_here","_law_chain"] [] sQ) (DZ74:Dx P w K mg base bj 2 "_law_work" ["_law_tasks","_law_case","_law_i","_law_name"] [] wq) (DZ75:Dx P w K mg base bj 2 "_law_front" ["_law_due_here","_law_cell","_law_i"] [] tJ) (DZ76:Dx P w K mg base bj 2 "_law_back" ["_law_due_here","_law_cell","_law_i"] [] wB) (DZ77:Dx P w K mg base bj 1 "_law_order" ["_law_many_here","_law_cell"] [] tN):bq P w K mg base bj 6 f fd ["_law_parts","_law_case","_law_due_here","_law_cell"] wI:=by
 have sc:aE ["_law_parts","_law_case","_law_due_here","_law_cell","_law_i","_law_j","_law_ring","_law_total_here","_law_some","_law_name","_law_work_here","_law_fronts","_law_backs","_law_chain"] ["_law_parts","_law_case","_law_due_here","_law_cell"] (av DR):=dk 47
 sleep 68
 refine uV h λtp t dl x D T A ps n _hi=>?_
 refine iO _hi λc due _hj=>?_
 refine ip _hj λ_r1 pc hD trK d7 q=>?_
 sleep 41;exists _,(ah (aP 117 rfl (aI 143) (cT rfl (aH 323 (aH 347 ca))) (ah (cO 6 sc (@aO _ _ _ _ (474<*>((am aW 474 ae)<*>(418<*>((am aW 418 ae)<*>ac)))))) (ah (cO 7 sc (cj DZ70 hr (127<*>((am bQ 322 (bu ce 322 bO (bH ae)))<*>ac)))) (ak (aN (PW.pt (cK (au cu (am aR 147 ae) ae 154) (cK (au gD 346 bz 154) (cp (au gS 346 ae 154))))) (ak (aw (@bc _ _ _ _ _ ((@bc _ _ _ _ _ (bW<*>(322<*>ac)))<*>(bz<*>ac))))) aB))))) (ah (cO 8 sc (cj DZ77 hr (229<*>(475<*>ac)))) (ah (aN (PW.pt (cK (au cu (am aR 147 ae) ae 154) (cp (au (j2 hr.units0) 435 146 154)))) (ah (fQ (i:=9) sc.nd rfl 252 (ao aM (ay (iY rfl) rfl B.Km PyProof.Rows.Boot.«sorted» (140<*>ac)) (am aR 475 ae) 36)) (ah (cO 10 sc (ay (jh rfl) rfl B.KJ PyProof.Rows.Boot.«sum» ((cQ (own:= "_law_i") (ys:= ["_law_case","_law_name","_law_parts"]) (js:= [1,9,0]) rfl 148 (aI 435) (λC fp s H=>(cj DZ74 hr ((ao 506 147 ae 36)<*>(129<*>(118<*>194))))))<*>ac))) (ah (hE (own:= "_law_i") (ys:= []) (js:= []) sc.nd (i:=11) rfl rfl rfl 124 (aI 435) (λC fp s H=>(@aO _ _ _ _ ((am aZ ae 118)<*>ac)))) (ah (hE (own:= "_law_i") (ys:= []) (js:= []) sc.nd (i:=12) rfl rfl rfl 124 (aI 435) (λC fp s H=>(@aO _ _ _ _ ((am aW (am aZ ae 118) ae)<*>ac)))) (ak (aw (@bc _ _ _ _ _ ((@bc _ _ _ _ _ (bW<*>(510<*>((pv 11)<*>((pv 12)<*>ac)))))<*>((am fR ae (am aX (mM jD (pv 10)) (i9 505 140 510 36)))<*>ac))))))))) aB) (ah (cO 4 sc (am aR 475 229)) (ah (cO 13 sc (cj DZ75 hr (127<*>(475<*>264)))) (ah (cO 13 sc (am bQ (pv 13) (cj DZ76 hr (127<*>(475<*>264))))) (ah (aN (PW.pt (cK (au cu (am aR 147 ae) ae 154) (cp (au cu (am aR 475 ae) ae 154)))) (ak (cO 13 sc 146)) aB) (ak (aw (@bc _ _ _ _ _ ((@bc _ _ _ _ _ (bW<*>((pv 13)<*>ac)))<*>((cj DZ70 hr (127<*>((pv 13)<*>ac)))<*>ac))))))))))))
 try dsimp only[cxK]
 sleep 85;sleep 0;refine fT pc.part.ex λtd tl la pl _hi=>?_
 sleep 133
 refine cA _hj λhA hP=>?_
 sleep 131;have t4:=pc.t4;have t1:=pc.t1;have lv:=rT.1;have trF:∀k∈due,∃p q g:Int,k= [p,q,g]:=λk hk=>by
  obtain ⟨p,q,g,e,_⟩:=trK.2 k hk;exact (bT p q g e)
 have d7':(due.map jo).length<=700:=by rw[I0];exact d7
 have n0:=pc.ok.n0;obtain ⟨kl,ol,ec,ek,bo,eo,ro⟩:=id pc.cs;have ot:=pc.cok.ord;have lbo:bo.length<=400:=by rw[ro.1];exact pc.cok.len
 try dsimp only[cE,c9]
 refine cut (λσ H'=>∃o4 o5 o6 o7:Option V,σ= [Lh tp,Lh t,Lh dl,some 368,o4,o5,o6,o7,none,none,none,none,none,none]/\aC H H') 232 ?_
 ·refine (aG t _ _ _ (rfl,rfl,bg.of ec,rfl,ol,rfl,(_,aD.of eo),aV (xs:=bo.map V.ref) (λk σ H'=>∃o4 o5 o6 o7:Option V,σ= [Lh tp,Lh t,Lh dl,some 368,o4,o5,o6,o7,none,none,none,none,none,none]/\aC H H') (aG none none none none (rfl,.refl _)) (λk σ H' _ (_,_,_,_,_,g)=>aD.of (g _ _ eo)) ?_ (λσ H' h=>hN _ _ h)))
  rintro k y σ H1 hy ⟨o4,o5,o6,o7,rfl,g1⟩;sleep 34;have il:k<c.2.length:=by rw[<-ro.1];exact (IC.mp hb).1
  have hk:=IA il;have eb:=g1 _ _ (ro.2 k b _ hb hk);obtain ⟨i,j,e2,i0,i1,j0,j1⟩:=ot _ 452;rw[e2] at eb;refine (aJ b _ (rfl,bg.of eb,rfl,aJ _ _ 187));refine (126 41,126 41,126 41,126 41,by show 4<=sizeLine;decide,λlr nlr=>?_)
  have gr:=af nlr 302;have er:aK H1 lr 302 lr=some (.lst ([2*i,2*i+1,2*j,2*j+1].map V.int)):=ag;generalize aK H1 lr 302=H2 at gr er⊢;have g2:=g1.trans gr;have lrn:=g1.free nlr;refine (ν,aJ lr _ (rfl,aD.of er,λp1 np1=>?_))
  have ct:gU ([2*i,2*i+1,2*j,2*j+1].map V.int) none (some 1)= [2*i].map V.int:=by
   rw[show (1:Int)=((1:Nat):Int) from rfl,dH 139]
   rfl
  rw[ct];have e1:=af np1 (.lst ([2*i].map V.int));refine (aG lr p1 _ _ (rfl,rfl,e1 _ _ er,ag,(by show 4+1<=sizeLine;lia),λp2 np2=>?_))
  have e2':=af np2 (.lst ([2*i,2*i+1,2*j,2*j+1].map V.int++ [2*i].map V.int));have g4:=g2.trans (e1.trans e2');refine (aG dl p2 (due.map jo) ([2*i,2*i+1,2*j,2*j+1]++ [2*i]) (rfl,kf (hD.same g4) trF,d7',by rw[ag,Il],(by show 5<=700;decide),λH5 g5=>?_))
  have g05:=g4.trans g5;have er5:=((e1.trans e2').trans g5) _ _ er;have skip:∃o4 o5 o6 o7:Option V,[some (.ref tp),some 427,some (.ref dl),some 368,some (V.int i),some (V.int j),some (.ref lr),some (oV (d0 (due.map jo) ([2*i,2*i+1,2*j,2*j+1]++ [2*i]))),none,none,none,none,none,none]= [some (.ref tp),some 427,some (.ref dl),some 368,o4,o5,o6,o7,none,none,none,none,none,none]/\aC H H5:=(aG _ _ _ _ (rfl,g05));refine (202,rfl,d2 328 (λ_=>skip))
  cases ho:d0 (due.map jo) ([2*i,2*i+1,2*j,2*j+1]++ [2*i]) with
  |none=>
   rw[ho] at skip;exact (rfl,mB.i (nF rfl skip))
  |some v=>
   rw[ho] at skip;refine (rfl,mB.i (nT nofun (d2 (λvp=>?_) (λ_=>skip))))
   refine (by show 2<=sizeLine;decide,λtr ntr=>381)
   have e6:=af ntr (.tup [.str "ring",.ref lr]);have e7:=af ntq (.tup [.ref tr,.non]);refine q tq (.ref tr) none (.one "ring" [2*i,2*i+1,2*j,2*j+1]) _ (g05.trans (e6.trans e7)) ag (tr,rfl,g05.free ntr,lr,lrn,e7 _ _ ag,(e6.trans e7) _ _ er5) (((.inr 471,by simp),λw hw=>by cases hw),(λz F G e=>by cases e),(λw C e=>by cases e;exact (by simp,λe=>absurd e 41)))
 rintro σ H1 ⟨o4,o5,o6,o7,rfl,g1⟩;refine (aG tp _ _ _ (rfl,rfl,bg.of (g1 _ _ etp),rfl,aJ tl _ (rfl,.inl (aD.of (g1 _ _ et)),135,aJ _ _ (rfl,by lia,by lia,λls S3 H2 g2 els s4 rg nd=>?_))))
 rw[lv] at rg;have k2:=g1.trans g2;have hD2:=hD.same k2;try dsimp only[cE,c9]
 refine cut (λσ H'=>σ= [Lh tp,Lh t,Lh dl,some 368,o4,o5,o6,o7,Lh ls,none,none,none,none,none]/\aC H H') 232 ?_
 ·refine (202,rfl,d2 328 (λ_=>df (hN _ _ (rfl,k2))))
  sleep 63
  sleep 123;refine (bT ls le _ (rfl,rfl,aD.of (ge _ _ els),aD.of ag,mB.i ?_));sleep 108
  by_cases se:S3= []
  ·rw[se];exact df (hN _ _ (rfl,k3))
  have re:(S3.map V.int).isEmpty=false:=by cases S3 with|nil=>exact absurd rfl se|cons _ _=>rfl
  have s1:1<=S3.length:=K2.mpr se;rw[re];clear hN;have els3:=ge _ _ els;have hD3:=hD2.same ge;refine dy (aG tp _ _ _ (rfl,rfl,bg.of (k3 _ _ etp),rfl,bT td (D.map 201) _ (rfl,k3 _ _ etd,Ac,pc.ok.dnd,by rw[I0,pc.d2];decide,λln ys nln perm _=>?_)))
  have gl:=af nln 276;have eln:aK H3 ln 276 ln=some (.lst 514):=ag;generalize aK H3 ln 276=H4 at gl eln⊢;have ly:ys.length=2:=by rw[perm.length_eq,I0,pc.d2]
  have m2:=fm (a:=x.fdiv 7) (n:=2) 41
  have hz:=IA (show ((x.fdiv 7).fmod 2).toNat<ys.length by lia)
  have az:io 514 ((x.fdiv 7).fmod 2)=some (.str (ys[((x.fdiv 7).fmod 2).toNat]'(by lia))):=by
   have:=aS (bY (f:=V.str) hz)
   rwa [Jc m2.1] at this
  obtain ⟨pz,pm,_,mz⟩:=Ad pc.ok.dnd (perm.mem_iff.mp (ID hz));obtain ⟨_,pz1,pz2⟩:=pc.ok.tool pz pm;refine (135,224,aG ln _ _ _ (rfl,rfl,aD.of eln,az,?_))
  generalize ys[((x.fdiv 7).fmod 2).toNat]'(by lia)=z0 at mz
  have k4:=k3.trans gl;have els4:=gl _ _ els3;have hD4:=hD3.same gl;have pc4:=pc.same k4;clear hz az perm nln eln;refine (ls,rfl,(_,aD.of els4),cg 284 160 (λk=>fA T c.1 (S3.getD k 0).toNat z0) (aD.of els4) 218 142 (λk y hy H5 g5 Q' hQ=>?_) λlw H5 nlw g5 hw=>?_)
  ·sleep 26;obtain ⟨i0,i1⟩:=rg i (ID hi);rw[aL hi] at hQ;have k5:=k4.trans g5;exact (aG tp _ _ _ (rfl,rfl,bg.of (k5 _ _ etp),rfl,eX tl t i.toNat z0 D T (c.1,(by rw[Jc i0];rfl,(hT.same k5,(_,pc.cs.same k5),pc.cok.pk,pc.ok.ways),by lia,λH6 g6=>hQ _ _ g6 rfl))))
  obtain ⟨us,eu,ru⟩:=hw;rw[ru.val,I0] at eu;have ews:(Ip S3.length).map (λk=>fA T c.1 (S3.getD k 0).toNat z0)=S3.map λi=>fA T c.1 i.toNat z0:=by
   conv=>rhs;rw[<-cG S3 0]
   rw[IW]
   rfl
  rw[ews] at eu;refine (aJ lw _ (rfl,aD.of eu,?_));have k5:=k4.trans g5;have els5:=g5 _ _ els4;have hD5:=hD4.same g5;generalize hws:(S3.map λi=>fA T c.1 i.toNat z0).sum=ws
  try dsimp only[cE,c9]
  refine cut (λσ H'=>∃lf,σ= [Lh tp,Lh t,Lh dl,some 368,o4,o5,o6,o7,Lh ls,some (.str z0),some (.int ws),Lh lf,none,none]/\aC H5 H'/\H lf=none/\cU wx 280 H' lf (S3.map λi=> [2*i])) 232 ?_
  ·refine (ls,rfl,(_,aD.of els5),cg wx 160 (λk=> [2*S3.getD k 0]) (aD.of els5) 218 142 (λj y hy H2 g2 Q' hQ=>?_) λlf H3 nlf glf hlf=>?_)
   ·sleep 26;rw[aL hi] at hQ;exact (126 41,by show 1<=sizeLine;decide,λp np=>hQ _ _ 449 (n4 (.inl np) ag))
   rw[I0,map_two S3 λi=> [2*i]] at hlf
   exact hN _ _ (lf,rfl,glf,k5.free nlf,hlf.mono λa h=>k5.free (h.2.elim id False.elim))
  rintro σ H6 ⟨lf,rfl,g6,lfn,hF⟩;have k6:=k5.trans g6;have els6:=g6 _ _ els5;try dsimp only[cE,c9]
  refine cut (λσ H'=>∃lb,σ= [Lh tp,Lh t,Lh dl,some 368,o4,o5,o6,o7,Lh ls,some (.str z0),some (.int ws),Lh lf,Lh lb,none]/\aC H6 H'/\H lb=none/\cU wx 280 H' lb (S3.map λi=> [2*i+1])) 232 ?_
  ·refine (ls,rfl,(_,aD.of els6),cg wx 160 (λk=> [2*S3.getD k 0+1]) (aD.of els6) 218 142 (λj y hy H2 g2 Q' hQ=>?_) λlf H3 nlf glf hlf=>?_)
   ·sleep 26;rw[aL hi] at hQ;exact (126 41,by show 1<=sizeLine;decide,λp np=>hQ _ _ 449 (n4 (.inl np) ag))
   rw[I0,map_two S3 λi=> [2*i+1]] at hlf
   exact hN _ _ (lf,rfl,glf,k6.free nlf,hlf.mono λa h=>k6.free (h.2.elim id False.elim))
  rintro σ H7 ⟨lb,rfl,g7,lbn,hG⟩;have k9:=k6.trans g7;have hF7:=hF.same g7;refine (by show 4<=sizeLine;decide,λtr ntr=>?_)
  have e10:=af ntr (.tup [.str "full",.str z0,.ref lf,.ref lb]);have k10:=k9.trans e10;refine (ν,aG tp _ _ _ (rfl,rfl,bg.of (k10 _ _ etp),rfl,aJ td _ (rfl,kQ (.inl (k10 _ _ etd)) mz,417,by show 2<=sizeLine;decide,λtq ntq=>?_)))
  have e11:=af ntq (.tup [.ref tr,.int (0-(-ws).fdiv pz.2)]);have kk:=e10.trans e11;have ms:∀f:Int->List Int,(∀i,(f i).length=1)->∀x∈S3.map f,x.length<=30:=λf hf x hx=>by
   obtain ⟨i,_,rfl⟩:=IV.mp hx;rw[hf]
   decide
  refine q tq (.ref tr) (some (0-(-ws).fdiv pz.2)) (.full z0 (S3.map λi=> [2*i]) (S3.map λi=> [2*i+1])) _ (k10.trans e11) ag (tr,rfl,k9.free ntr,aJ lf lb (lfn,lbn,e11 _ _ ag,hF7.same kk,hG.same kk)) (((by rw[I0];lia,by rw[I0];lia,ms _ λ_=>rfl,ms _ λ_=>rfl),λw hw=>by cases hw),(λz F G e=>by cases e;exact (aJ S3 pz.2 (mz,se,nd,s4,rg,rfl,rfl))),(λw C e=>by cases e))
 rintro σ H3 ⟨rfl,k3⟩;have hD3:=hD.same k3;refine (135,aG tp _ _ _ (rfl,rfl,bg.of (k3 _ _ etp),rfl,aJ tl _ (rfl,.inl (aD.of (k3 _ _ et)),?_)))
 rw[lv];have mi:=fm (a:=x.fdiv 4) (n:=121) 78
 exists by lia
 dsimp only;obtain ⟨i,hi⟩:∃i:Nat,(x.fdiv 4).fmod (T.length:Int)=(i:Int):=⟨((x.fdiv 4).fmod 121).toNat,by lia⟩
 rw[hi] at mi⊢;refine (135,aG dl _ i _ (_,(rfl,hD3,trK,by lia,λl1 C1 H4 nl1 g4 el1 c14 sh1 pt1 ai1=>?_)))
 have hD4:=hD3.same g4;refine (135,aG dl _ i _ (_,(rfl,hD4,trK,by lia,λl2 C2 H5 nl2 g5 el2 c24 sh2 pt2 ai2=>(aG l1 l2 _ _ (rfl,rfl,g5 _ _ el1,el2,by rw[I0,I0];lia,λlc nlc=>?_)))))
 have gc:=af nlc 433;have elc:aK H5 lc 433 lc=some (.lst ((C1++C2).map V.int)):=by rw[ag,Il]
 have lcn:H lc=none:=(k3.trans (g4.trans g5)).free nlc;generalize aK H5 lc 433=H6 at gc elc⊢;have k6:=k3.trans ((g4.trans g5).trans gc);have lC:(C1++C2).length<=8:=by rw[IB];lia
 generalize C1++C2=C0 at elc lC;try dsimp only[cE,c9]
 refine cut (λσ H'=>∃(lc:Addr) (C:List Int),σ= [Lh tp,Lh t,Lh dl,some 368,some 377,o5,o6,o7,Lh ls,none,none,none,none,Lh lc]/\aC H H'/\H lc=none/\H' lc=some 244/\C.length<=8) 232 ?_
 ·have keep:=hN _ _ (aJ lc C0 (rfl,k6,lcn,elc,lC));refine (202,rfl,d2 (λ_=>(135,183,rfl,d2 328 (λ_=>keep))) (λ_=>df keep))
  refine (by show 0<=sizeLine;decide,λle nle=>hN _ _ (aJ le [] (rfl,k6.trans (af nle _),k6.free nle,ag,by simp)))
 rintro σ H7 ⟨lc,C,rfl,k7,lcn,elc,lC⟩;refine 380
 have e8:=af ntr (.tup [.str "chain",.ref lc]);refine (aG dl lc (due.map jo) C (rfl,kf (hD.same (k7.trans e8)) trF,d7',e8 _ _ elc,by lia,λH9 g9=>?_))
 refine 381
 have e10:=af ntq (.tup [.ref tr,oV (d0 (due.map jo) C)]);refine q tq (.ref tr) (d0 (due.map jo) C) (.one "chain" C) _ (k7.trans (e8.trans (g9.trans e10))) ag (tr,rfl,k7.free ntr,lc,lcn,(g9.trans e10) _ _ ag,(e8.trans (g9.trans e10)) _ _ elc) (((.inl rfl,by lia),λw hw=>by cases hw),(λz F G e=>by cases e),(λw C e=>by cases e;exact (by lia,λe=>absurd e 41)))
theorem F8 {dV:Value} (F:bv K "_law_paper" "_law_paper" DS dV f fd) (DZ72:Dx P w K mg base bj 2 "_law_due" ["_law_arcs_here","_law_tasks","_law_case"] [] zI) (DZ82:Dx P w K mg base bj 5 "_law_inner" ["_law_parts","_law_case","_law_cell"] [] tW) (DZ83:Dx P w K mg base bj 1 "_law_cases" ["_law_case","_law_row"] [] tT) (DZ84:Dx P w K mg base bj 6 "_law_leaf" ["_law_parts","_law_case","_law_due_here","_law_cell"] [] wI):bq P w K mg base bj 7 f fd ["_law_parts","_law_cells"] tY:=by
 have sc:aE ["_law_parts","_law_cells","_law_paper_here","_law_totals","_law_pile","_law_room","_law_cell","_law_case","_law_row","_law_due_here","_law_total_here"] ["_law_parts","_law_cells"] (av DS):=dk 47
 sleep 68
 refine dR h λtp lc cs D T A _hi=>?_
 refine iO _hi λps n _hj=>?_
 refine dN _hj λ_r1 st ec _hk=>?_
 refine cA _hk λc63 q=>?_
 sleep 13;exists _,(ah 402 (ah (cO 3 sc 146) (ah (cO 4 sc (@aO _ _ _ _ ((@bc _ _ _ _ _ ((cQ (own:= "_law_task_here") (ys:= []) (js:= []) rfl 124 (aI 140) (λC fp s H=>bz))<*>(146<*>ac)))<*>ac))) (ah (cO 5 sc ae) (ah (aP 117 rfl (aI 129) (cP 6 sc) (ah (aN (au (jY hr.units0) 163 146 154) (ak ye) aB) (ah (cO 7 sc (qu IN PySem.F.slot_list_pop PySem.F.type_list_pop yA 163)) (ah (cO 8 sc bz) (ah (aN (PW.pt (cK (au gS 193 ae 154) (cp (au eZ (am aR 322 ae) ae 154)))) (ak (cO 8 sc (cj DZ82 hr (118<*>(346<*>((am aX 322 ae)<*>ac)))))) aB) (ah (aN (au gK 435 bz 154) (ah (cO 9 sc (cj DZ72 hr (140<*>(140<*>(346<*>ac))))) (ah (kj (cj DZ84 hr (118<*>(346<*>(510<*>((am aX 322 ae)<*>ac))))) (cT rfl (aH (cP 8 sc) (aH (cP 10 sc) ca)))) (ak (aN (au gD (pv 10) bz 154) (ak (bI (de IN Ij IZ bx 147 ((pv 10)<*>ac)))) aB)))) (ah (cO 5 sc (am fR 193 ae)) (ak (bI (de IN Je Jd fB 163 ((ix rfl rfl B.Ke rfl B.Kk boot_list PyProof.Rows.Boot.«reversed» (cj DZ83 hr (346<*>(435<*>ac))))<*>ac)))))) (ak (bI (de IN Ij IZ bx 127 (435<*>ac)))))))))) (ah (aP 117 rfl (aI 163) (cP 7 sc) (ah (bI (de IN Ij IZ bx 127 ((@bc _ _ _ _ _ (bW<*>(146<*>ac)))<*>ac))) (ak (bI (de IN Ij IZ bx 147 420))))) (ak (aw (@bc _ _ _ _ _ (127<*>213))))))))))
 try dsimp only[cxK]
 refine HG ?_;intro D' r6 r5 r4 r3 r2 r1;sleep 0;refine fT st.part.ex λtd tl la pl _hi=>?_
 sleep 133
 refine cA _hj λhA hP=>?_
 sleep 131;have t4:=st.t4;have lv:=rT.1;refine (by show 0<=sizeLine;decide,λlp nlp=>?_)
 have g1:=af nlp 149;have ep1:aK H lp 149 lp=some (.lst []):=ag;generalize aK H lp 149=H1 at g1 ep1⊢;refine (by show 0<=sizeLine;decide,λlt nlt=>?_)
 have g2:=af nlt 149;have et2:aK H1 lt 149 lt=some (.lst []):=ag;generalize aK H1 lt 149=H2 at g2 et2⊢;have ep2:=g2 _ _ ep1;have k2:=g1.trans g2;refine (aG tp _ _ _ (rfl,rfl,bg.of (k2 _ _ etp),rfl,tl,rfl,(_,aD.of (k2 _ _ et)),cg (fg iJ) 160 (λ_=>none) (aD.of (k2 _ _ et)) 78 142 (λi y hy H3 g3 Q' hQ=>hQ _ _ 170 rfl) λkl H3 nkl g3 hk=>?_))
 obtain ⟨us,ek,rk⟩:=hk;rw[rk.val,lv] at ek;refine (by show 0<=sizeLine;decide,λol nol=>(by show 2<=sizeLine;decide,λt0 nt0=>(by show 1<=sizeLine;decide,λlq nlq=>?_)))
 have e4:=af nol 149;have e5:=af nt0 (.tup [.ref kl,.ref ol]);have e6:=af nlq 492;have k6:=k2.trans 431;have ep6:=431 _ _ ep2;have et6:=431 _ _ et2;have ek6:=((e4.trans e5).trans e6) _ _ ek;have eol6:aK 266 lq 492 ol=some (.lst []):=(e5.trans e6) _ _ ag;have et06:aK 266 lq 492 t0=some (.tup [.ref kl,.ref ol]):=e6 _ _ ag;have eq6:aK 266 lq 492 lq=some (.lst [.ref t0]):=ag;have pt:lp≠lt:=λz=>by rw[<-z,ep1] at nlt;cases nlt
 have qp:lq≠lp:=λz=>by rw[z,(g3.trans (e4.trans e5)) _ _ ep2] at nlq;cases nlq
 have qt:lq≠lt:=λz=>by rw[z,(g3.trans (e4.trans e5)) _ _ et2] at nlq;cases nlq
 have pn:H lp=none:=nlp;have tn:H lt=none:=g1.free nlt;have qn:H lq=none:=(k2.trans (g3.trans (e4.trans e5))).free nlq;have Pkl:kl≠lp/\kl≠lt/\kl≠lq:=(λz=>(by rw[z,ep2] at nkl;cases nkl),λz=>(by rw[z,et2] at nkl;cases nkl),λz=>(by rw[<-z,(e4.trans e5) _ _ ek] at nlq;cases nlq))
 have Pol:ol≠lp/\ol≠lt/\ol≠lq:=(λz=>(by rw[z,g3 _ _ ep2] at nol;cases nol),λz=>(by rw[z,g3 _ _ et2] at nol;cases nol),λz=>(by rw[<-z,e5 _ _ ag] at nlq;cases nlq))
 generalize aK 266 lq 492=H6 at k6 ep6 et6 ek6 eol6 et06 eq6⊢;have Pt0:t0≠lp/\t0≠lt/\t0≠lq:=(λz=>(by rw[z,ep6] at et06;cases et06),λz=>(by rw[z,et6] at et06;cases et06),λz=>(by rw[z,eq6] at et06;cases et06))
 have hq0:cU dW (λa=>a≠lp/\a≠lt/\a≠lq) H6 lq (iH T).reverse:=(_,eq6,A2.one (bT t0 kl ol (rfl,Pt0,Pkl,Pol,et06,ek6,_,eol6,A2.nil)))
 have hp0:cU lY (λa=>a≠lp/\a≠lt/\a≠lq) H6 lp []:=(_,ep6,A2.nil)
 clear Pkl Pol Pt0 ek6 eol6 et06 eq6 ep6 nlp nlt nlq nol nt0 nkl e4 e5 e6 g3 g2 g1 k2 ep1 ep2 et2 ek rk;obtain ⟨P,hPd⟩:∃P:Addr->Prop,P=λa=>a≠lp/\a≠lt/\a≠lq:=502
 have nPp:¬P lp:=λz=>by rw[hPd] at z;exact z.1 rfl
 have nPt:¬P lt:=λz=>by rw[hPd] at z;exact z.2.1 rfl
 have nPq:¬P lq:=λz=>by rw[hPd] at z;exact z.2.2 rfl
 have newP:∀(G:Hp) (xs ys zs:List V),G lp=some 398->G lt=some 297->G lq=some (.lst zs)->∀a,G a=none->P a:=λG xs ys zs h1 h2 h3 a ha=>by
  rw[hPd];exact (λz=>(by rw[z,h1] at ha;cases ha),λz=>(by rw[z,h2] at ha;cases ha),λz=>(by rw[z,h3] at ha;cases ha))
 rw[<-hPd] at hq0 hp0;try dsimp only[cE,c9]
 refine cut (λσ H'=>σ= [Lh tp,Lh lc,Lh lp,Lh lt,Lh lq,some (.int 4),none,none,none,none,none]/\H6=H') (λN hN=>hN _ _ 444) ?_
 rintro σ _ ⟨rfl,rfl⟩;try dsimp only[cE,c9]
 refine cut (λσ H'=>∃(o5 o6 o7 o8 o9 o10:Option V) (m:Nat) (rs:List fj) (ts:List Int) (pq:Cs),σ= [Lh tp,Lh lc,Lh lp,Lh lt,Lh lq,o5,o6,o7,o8,o9,o10]/\aC H H'/\cU lY P H' lp rs/\H' lt=some (.lst (ts.map V.int))/\cU dW P H' lq pq.reverse/\kX D T m rs pq/\rs.length<=63/\ts.length<=63/\m<=4) 232 ?_
 ·refine (lc,rfl,(_,aD.of (k6 _ _ ec)),aV (xs:=cs.map V.int) (λk σ H'=>∃(o6 o7 o8 o9 o10:Option V) (m:Nat) (rs:List fj) (ts:List Int) (pq:Cs),σ= [Lh tp,Lh lc,Lh lp,Lh lt,Lh lq,some (.int (4-(m:Int))),o6,o7,o8,o9,o10]/\aC H H'/\cU lY P H' lp rs/\H' lt=some (.lst (ts.map V.int))/\cU dW P H' lq pq.reverse/\kX D T m rs pq/\rs.length<=k/\ts.length<=k/\m<=4) (rG none none none none none 0 [] [] _ (rfl,k6,hp0,et6,hq0,.nil,IH _,IH _,by decide)) (λk σ H' _ (_,_,_,_,_,_,_,_,_,_,g,_)=>aD.of (g _ _ ec)) ?_ ?_)
  ·intro k y σ H7 hy h_;refine uV h_ λo6 o7 o8 o9 o10 m rs ts pq _hi=>?_
   refine jH _hi λ_r1 g7 _r2 elt _r3 pap rl tlm m4=>?_
   sleep 92;obtain ⟨vp,ep,rp⟩:=_r2;obtain ⟨vq,eq',rq⟩:=_r3;have kl':k<cs.length:=by have:=(IC.mp hy).1;rw[I0] at this;exact this
   rw[IG] at hy;obtain ⟨x,hx,rfl⟩:=IF.mp hy;have okl:=pap.len;have okc:=pap.cok;have lvq:=rq.1;rw[JN] at lvq;sleep 63
   sleep 123;refine (bT lq le _ (rfl,rfl,aD.of (ge _ _ eq'),aD.of ag,mB.i ?_));generalize aK H7 le 149=H8 at ge⊢;replace ep:=ge _ _ ep;replace elt:=ge _ _ elt;replace eq':=ge _ _ eq';replace rp:=rp.imp λ_ _ q=>dJ q ge
   replace rq:=rq.imp λ_ _ q=>dJ q ge
   replace g7:=g7.trans ge;clear ge nle
   match pq,rq,lvq,pap,okl,okc with
   | [],rq,lvq,pap,okl,okc=>
    have:vq= []:=JF lvq;subst this;exact dy (hN _ _ (rG _ _ _ _ _ _ m rs ts ([],(rfl,g7,(vp,ep,rp),elt,(_,eq',rq),pap,by lia,by lia,m4))))
   |c::p0,rq,lvq,pap,okl,okc=>
   rw[List.reverse_cons] at rq;obtain ⟨us0,u,rfl,ru,rl0⟩:=rq.unsnoc;have re:(us0++ [u]).isEmpty=false:=by cases us0<;>rfl
   rw[re];refine df (.inl (rfl,_,aD.of eq'),bT lq _ u (rfl,rfl,eq',by simp,?_))
   rw[List.dropLast_concat];have ep8:aK H8 lq 350 lp=some (.lst vp):=by rw[aQ (λz=>qp z.symm)];exact ep
   have et8:aK H8 lq 350 lt=some (.lst (ts.map V.int)):=by rw[aQ (λz=>qt z.symm)];exact elt
   have eq8:aK H8 lq 350 lq=some (.lst us0):=ag;have g8:=dQ g7 qn 350;have rp8:=rp.imp λ_ _ q=>rE q nPq 350
   have ru8:=rE ru nPq 350;have rl8:=rl0.imp λ_ _ q=>rE q nPq 350
   generalize aK H8 lq 350=H9 at ep8 et8 eq8 g8 rp8 ru8 rl8⊢;clear ep elt eq' rp rq rl0 ru g7;obtain ⟨tc,rfl,hcs⟩:=dW.case ru8;have cok:oq T 400 c:=(okc c Iq).mono 78
   rw[Iu] at okl;have B0:True:=trivial;try dsimp only[cE,c9]
   refine cut (λσ H'=>σ= [Lh tp,Lh lc,Lh lp,Lh lt,Lh lq,some (.int (4-(m:Int))),some 368,Lh tc,some .non,o9,o10]/\H9=H') (λN' hN'=>hN' _ _ 444) ?_
   rintro σ _ ⟨rfl,rfl⟩;try dsimp only[cE,c9]
   refine cut (λσ H'=>∃v:V,σ= [Lh tp,Lh lc,Lh lp,Lh lt,Lh lq,some (.int (4-(m:Int))),some 368,Lh tc,some v,o9,o10]/\aC H9 H'/\(v= .non∨∃r,m<4/\lY P H' v r/\EM T c r)) (λN' hN'=>?_) ?_
   ·have miss:=hN' _ _ (.non,rfl,.refl _,.inl rfl);refine (d2 (λm0=>?_) (λ_=>df miss))
    refine (183,rfl,n2 328 (λ_=>miss))
    refine (135,rG tp tc _ D T A ps n c (rfl,(st.same g8).pc hcs cok,λv H10 g10 hv=>hN' _ _ (v,rfl,g10,?_)))
    rcases hv with hv|⟨r,hr',inn⟩
    ·exact .inl hv
    ·exact .inr (r,by lia,rD hr' (newP _ _ _ _ ep8 et8 eq8),inn)
   rintro σ H10 ⟨v,rfl,g10,hv⟩;have g010:=g8.trans g10;try dsimp only[cE,c9]
   refine cut (λσ H'=>∃(o9 o10:Option V) (v:V) (r:fj) (m':Nat) (ts':List Int) (pq':Cs),σ= [Lh tp,Lh lc,Lh lp,Lh lt,Lh lq,some (.int (4-(m':Int))),some 368,Lh tc,some v,o9,o10]/\aC H H'/\lY P H' v r/\H' lp=some (.lst vp)/\A2 (lY P H') vp rs/\H' lt=some (.lst (ts'.map V.int))/\cU dW P H' lq pq'.reverse/\kX D T m' (rs++ [r]) pq'/\ts'.length<=k+1/\m'<=4) (λN' hN'=>?_) ?_
   ·rcases hv with rfl|⟨r,m5,hr',⟨okr',osr,w,hw,rt⟩⟩
    ·have st10:=st.same g010;have pc10:=st10.pc (hcs.same g10) cok;refine (rfl,mB.i (dT rfl (aG tp _ _ _ (rfl,rfl,bg.of (g010 _ _ etp),rfl,aG tp _ _ _ (rfl,rfl,bg.of (g010 _ _ etp),rfl,eX la tl tc A D T (aJ c.1 c.2 (rfl,hA.same g010,by have:=st.a63;lia,hT.same g010,st.ok.t24,hcs.same g10,cok.pk,st.ok.ways,cok.pairs 41,λdl H11 g11 hD=>?_)))))))
     have pc11:=pc10.same g11;refine (135,rG tp tc dl _ D T A ps n (aJ c _ (rfl,pc11,hD,pc11.trip,(by have:=zS (P:=c.1) (O:=c.2) pc11.l7;rwa [I0] at this),λtq v o r H12 g12 etq hr' lf=>(aJ tq _ (rfl,bg.of etq,rfl,aJ _ _ 187)))))
     have g912:=(g10.trans g11).trans g12;have hrP:lY P H12 v r:=rD hr' (newP _ _ _ _ ((g10.trans g11) _ _ ep8) ((g10.trans g11) _ _ et8) ((g10.trans g11) _ _ eq8));have pap':=kX.leaf pap lf;cases o with
     |none=>
      exact (rfl,mB.i (nF rfl (hN' _ _ (eX _ _ v r m ts (p0,(rfl,g8.trans g912,hrP,g912 _ _ ep8,rp8.imp λ_ _ q=>dJ q g912,g912 _ _ et8,(us0,g912 _ _ eq8,rl8.imp λ_ _ q=>dJ q g912),pap',by lia,m4))))))
     |some tv=>
      have e12:=g912 _ _ et8;refine ⟨rfl,mB.i (nT nofun ⟨.inl ⟨rfl,_,aD.of e12⟩,bT lt _ _ ⟨rfl,rfl,e12,by rw[I0];lia,hN' _ _ (eX _ _ v r m (ts++ [tv]) ⟨p0,⟨rfl,dQ (g8.trans g912) tn _,rE hrP nPt _,by rw[aQ pt];exact g912 _ _ ep8,rp8.imp λ_ _ q=>rE (dJ q g912) nPt _,by rw[ag,Il];rfl,⟨us0,by rw[aQ qt];exact g912 _ _ eq8,rl8.imp λ_ _ q=>rE (dJ q g912) nPt _⟩,pap',by rw[IB];show _+1<=_;lia,m4⟩⟩)⟩⟩)⟩
    ·obtain ⟨tr,rfl,ra⟩:=hr'.row;refine (rfl,mB.i (dF nofun ?_));have okw:=okr'.2 w hw;have rgw:∀i,w= .ways i->0<=i/\i<(c.1.length:Int):=λi hi=>by
      subst hi;exact Bl cok.pk.len rt
     refine (.inl (rfl,_,aD.of (g10 _ _ eq8)),eX tc tr w c.1 c.2 P (rfl,dJ ru8 g10,cok.pairs 41,by rw[cok.pk.len];exact st.ok.t24,BK ra hw,okw,rgw,λl H11 g11 nl hl=>?_))
     obtain ⟨vl,el,rl'⟩:=hl;refine (aJ l _ (rfl,aD.of el,λlr nlr=>?_))
     have g12:=af nlr (.lst vl.reverse);have g912:=(g10.trans g11).trans g12;have lcs:=jr (P:=c.1) (O:=c.2) okw;have lvl:=rl'.1;have lus:=rl8.1;rw[JN] at lus;refine (aG lq lr _ _ (rfl,rfl,g912 _ _ eq8,ag,by rw[JN];lia,?_))
     have pap':=kX.inn pap (Bu okr' osr hw) okw rt;have mm:(4:Int)-(m:Int)-1=4-((m+1:Nat):Int):=by lia
     refine hN' _ _ (eX _ _ (.ref tr) r (m+1) ts (fi c.1 c.2 w++p0,(by rw[<-mm];rfl,dQ (g8.trans g912) qn _,rE (dJ hr' (g11.trans g12)) nPq _,by rw[aQ (λz=>qp z.symm)];exact g912 _ _ ep8,rp8.imp λ_ _ q=>rE (dJ q g912) nPq _,by rw[aQ (λz=>qt z.symm)];exact g912 _ _ et8,?_,pap',by lia,by lia)))
     rw[List.reverse_append];refine cU.ext nPq (rl8.imp λ_ _ q=>dJ q g912) ((rl'.imp λ_ _ q=>rD (dJ q g12) λa h=>?_).rev)
     rcases h.2 with h|h
     ·exact newP _ _ _ _ (g10 _ _ ep8) (g10 _ _ et8) (g10 _ _ eq8) a h
     ·exact h
   intro σ H11 h_;refine dR h_ λo9 o10 v r m' ts' _hi=>?_
   refine dU _hi λpq' _hj=>?_
   refine jH _hj λ_r1 g11 hr' ep11 rp11 et11 _r2 pap' _hk=>?_
   refine cA _hk λtl' m4'=>?_
   sleep 89;obtain ⟨vq,eq11,rq11⟩:=_r2;have lvp:=rp11.1;refine (.inl (rfl,_,aD.of ep11),bT lp _ _ (rfl,rfl,ep11,by lia,?_))
   exact (rG _ _ _ _ _ m' (rs++ [r]) ts' pq' (rfl,dQ g11 pn _,cU.put nPp rp11 hr',by rw[aQ (λz=>pt z.symm)];exact et11,(vq,by rw[aQ qp];exact eq11,rq11.imp λ_ _ q=>rE q nPp _),pap',by rw[IB];show _+1<=_;lia,tl',m4'))
  ·intro σ H7 h_;refine uV h_ λo6 o7 o8 o9 o10 m rs ts pq _hi=>?_
   refine jH _hi λ_r1 g7 h1 h2 h3 pap rl tlm m4=>?_
   sleep 92;rw[I0] at rl tlm;exact hN _ _ (rG _ _ _ _ _ _ m rs ts (pq,(rfl,g7,h1,h2,h3,pap,by lia,by lia,m4)))
 intro σ H7 h_;refine uV h_ λo5 o6 o7 o8 o9 o10 m rs ts _hi=>?_
 refine dU _hi λpq _hj=>?_
 refine jH _hj λ_r1 g7 h1 h2 _r2 pap rl tlm m4=>?_
 sleep 27;obtain ⟨vq,eq7,rq⟩:=_r2;have okl:=pap.len;have lvq:=rq.1;rw[JN] at lvq;refine (lq,rfl,(_,aD.of eq7),aV (xs:=vq) (λk σ H'=>∃o7:Option V,σ= [Lh tp,Lh lc,Lh lp,Lh lt,Lh lq,o5,o6,o7,o8,o9,o10]/\aC H H'/\H' lq=some (.lst vq)/\cU lY P H' lp (rs++List.replicate k (.one "chain" []))/\H' lt=some (.lst ((ts++List.replicate k 0).map V.int))) (o7,rfl,g7,eq7,by simpa using h1,by simpa using h2) (λk σ H' _ (_,_,_,e,_)=>aD.of e) ?_ ?_)
 ·rintro k y σ H8 hy ⟨o7,rfl,g8,eq8,⟨vp,ep,rp⟩,elt⟩;have kq:=(IC.mp hy).1;have lvp:=rp.1;rw[IB,KA] at lvp;refine (.inl (rfl,_,aD.of ep),by show 0<=sizeLine;decide,λc0 nc0=>380)
  have e9:=af nc0 149;have e10:=af ntr 270;have ge:=e9.trans e10;have ec10:aK (aK H8 c0 149) tr 270 c0=some (.lst []):=e10 _ _ ag;have etr:aK (aK H8 c0 149) tr 270 tr=some (.tup [.str "chain",.ref c0]):=ag;have c0P:=newP _ _ _ _ ep elt eq8 c0 nc0;have trP:=newP _ _ _ _ ep elt eq8 tr (e9.free ntr);generalize aK (aK H8 c0 149) tr 270=H9 at ge ec10 etr⊢;refine (bT lp _ _ (rfl,rfl,ge _ _ ep,by lia,?_))
  have rw9:lY P H9 (.ref tr) (.one "chain" []):=(tr,rfl,trP,c0,c0P,etr,ec10);have hp:=cU.put nPp (rp.imp λ_ _ q=>dJ q ge) rw9
  have et10:aK H9 lp 458 lt=some (.lst ((ts++List.replicate k 0).map V.int)):=by rw[aQ (λz=>pt z.symm)];exact ge _ _ elt
  have eq10:aK H9 lp 458 lq=some (.lst vq):=by rw[aQ qp];exact ge _ _ eq8
  have g10:=dQ (g8.trans ge) pn 458;generalize aK H9 lp 458=H10 at hp et10 eq10 g10⊢;refine (.inl (rfl,_,aD.of et10),bT lt _ _ (rfl,rfl,et10,by rw[I0,IB,KA];lia,(ν,dQ g10 tn _,by rw[aQ qt];exact eq10,?_,?_)))
  ·rw[List.replicate_succ',<-JE];exact hp.upd nPt pt _
  ·rw[ag,List.replicate_succ',<-JE,Il (l₁:=ts++List.replicate k 0)]
   rfl
 ·rintro σ H8 ⟨o7,rfl,g8,eq8,hp,elt⟩;refine 381
  have e9:=af ntq (.tup [.ref lp,.ref lt]);refine q tq lp lt _ _ _ (g8.trans e9) ag (hp.any.same e9) (e9 _ _ elt) (by rw[IB,KA];lia) (by rw[IB,KA];have:=pap.ne;lia) λr hr=>?_
  rcases IS.mp hr with z|z
  ·exact pap.rows r z
  ·rw[(List.mem_replicate.mp z).2];exact xZ
theorem F9 {dV:Value} (F:bv K "_law_spoilt" "_law_spoilt" DT dV f fd):bq P w K mg base bj 1 f fd ["_law_rows","_law_way","_law_k","_law_put"] ou:=by
 have sc:aE ["_law_rows","_law_way","_law_k","_law_put","_law_row","_law_here","_law_fronts"] ["_law_rows","_law_way","_law_k","_law_put"] (av DT):=dk 47
 sleep 68
 refine dR h λlp w put k D T _hi=>?_
 refine dU _hi λrs _hj=>?_
 refine ip _hj λ_r1 hl okS kl r3 q=>?_
 sleep 41;exists _,(ah (cO 4 sc (ao aM 118 127 36)) (ah (aN 332 (ak (aw (am bQ 256 215))) aB) (ah (aN 332 (ak (aw (am bQ (am bQ 256 (@aO _ _ _ _ 264)) (bu ce 118 (bH 127) bO)))) aB) (ah (aN 332 (ak (aw (am bQ 118 (@aO _ _ _ _ ((@bc _ _ _ _ _ (bW<*>(146<*>ac)))<*>ac))))) aB) (ah (aN (PW.pt (cK 332 (cp (au cu 137 bW 154)))) (ak (aw (am bQ (am bQ 256 (@aO _ _ _ _ ((@bc _ _ _ _ _ (bW<*>((am aW 137 147)<*>ac)))<*>ac))) 215))) aB) (ah (aN 221 (ak (aw (am bQ (am bQ 256 (@aO _ _ _ _ ((@bc _ _ _ _ _ (137<*>((ix rfl rfl B.Ke rfl B.Kk boot_list PyProof.Rows.Boot.«reversed» 137)<*>ac)))<*>ac))) 215))) aB) (ah (aN 221 (ak (aw (am bQ (am bQ 256 (@aO _ _ _ _ ((@bc _ _ _ _ _ (137<*>((am bQ 137 (@aO _ _ _ _ 213))<*>ac)))<*>ac))) 215))) aB) (ah (aN 221 (ak (aw (am bQ (am bQ 256 (@aO _ _ _ _ ((@bc _ _ _ _ _ (137<*>((bu ce 137 (bH ae) bO)<*>ac)))<*>ac))) 215))) aB) (ah (aN 332 (ak (aw (am bQ (am bQ 256 (@aO _ _ _ _ ((@bc _ _ _ _ _ (bW<*>((@aO _ _ _ _ (ae<*>(ae<*>213)))<*>ac)))<*>ac))) 215))) aB) (ah (aN (PW.pt (cK 332 (cp (au cu 137 bW 154)))) (ah (cO 5 sc (ao aM (ao aM 137 ae 36) ae 36)) (ah (cO 6 sc (am bQ 137 (@aO _ _ _ _ ((@aO _ _ _ _ (193<*>((am aW 193 ae)<*>376)))<*>ac)))) (ak (aw (am bQ (am bQ 256 (@aO _ _ _ _ ((@bc _ _ _ _ _ (bW<*>(137<*>(322<*>((am bQ 137 (@aO _ _ _ _ ((@aO _ _ _ _ ((am aW 193 ae)<*>ac))<*>ac)))<*>ac)))))<*>ac))) 215))))) aB) (ak (aw 118))))))))))))
 try dsimp only[cxK]
 refine G0 ?_;intro D' r10 r9 r8 r7 r6 r5 r4 r3 r2 r1;sleep 0;obtain ⟨vs,el,rl⟩:=id hl;have lvs:=rl.1;have okx:∀x∈rs,mw D T x:=λx hx=>(okS x hx).x
 have kk1:((k:Int)+1)=((k+1:Nat):Int):=rfl;have hk:=IA kl;obtain ⟨v0,hv0,rr⟩:=rl.get hk;obtain ⟨tr,rfl,ra⟩:=rr.row;have okr:=okS _ 516;generalize rs[k]=r at hk rr ra okr;refine (aG lp _ _ _ (rfl,rfl,aD.of el,(aS hv0),?_));have g0:aC H H:= .refl _;sleep 129
 ·skip
  sleep 113
  rw[dH 78]
  sleep 30;refine (ν,aJ lp _ (rfl,aD.of (gm _ _ el),λp4 np4=>?_))
  sleep 140
  have f4:=af np4 (.lst (vs.drop 291));refine (aG p1 p4 _ _ (rfl,rfl,f4 _ _ hp1,ag,by rw[IR,Io];lia,λp5 np5=>?_))
  have f5:=af np5 (.lst (vs.take k++vs.drop 291));have ff:=f4.trans f5;have hall:=rl.imp λ_ _ q=>dJ q 292
  have:=i7 okx (ms:= []) (λx hx=>by cases hx) k 291
  rw[Ji] at this;exact q p5 (rs.take k++rs.drop 291) _ 292 (_,ag,(hall.take k).append (hall.drop 291)) (by rw[IB,IR,Io];lia) this
 sleep 129
 ·skip
  sleep 113
  rw[dH 78]
  sleep 30;sleep 44
  have f2:=af np2 (.lst [.ref tr]);refine (aG p1 p2 _ _ (rfl,rfl,f2 _ _ hp1,ag,by rw[IR,IU];lia,λp3 np3=>?_))
  have f3:=af np3 (.lst (vs.take k++ [.ref tr]));refine (ν,aJ lp _ (rfl,aD.of ((gm.trans (f2.trans f3)) _ _ el),λp4 np4=>?_))
  rw[du 78]
  have f4:=af np4 (.lst (vs.drop k));refine (aG p3 p4 _ _ (rfl,rfl,f4 _ _ ag,ag,by rw[IB,IR,Io,IU];lia,λp5 np5=>?_))
  have f5:=af np5 (.lst (vs.take k++ [.ref tr]++vs.drop k));have ff:=(f2.trans f3).trans (f4.trans f5);have hall:=rl.imp λ_ _ q=>dJ q 292
  exact q p5 (rs.take k++ [r]++rs.drop k) _ 292 (_,ag,((hall.take k).append (.one (dJ rr 292))).append (hall.drop k)) 251 (i7 okx (jM okr.x) k k)
 sleep 129
 ·refine (by show 0<=sizeLine;decide,λc0 nc0=>(by show 2<=sizeLine;decide,λtn ntn=>(by show 1<=sizeLine;decide,λp2 np2=>?_)))
  have f0:=af nc0 149;have f1:=af ntn 270;have f2:=af np2 (.lst [.ref tn]);have gm:=(f0.trans f1).trans f2;have etn:lY An (aK (aK H c0 149) tn 270) (.ref tn) (.one "chain" []):=(tn,rfl,trivial,c0,trivial,ag,f1 _ _ ag);refine (aG lp p2 _ _ (rfl,rfl,gm _ _ el,ag,by rw[IU];lia,λp5 np5=>?_))
  have f5:=af np5 (.lst (vs++ [.ref tn]));refine q p5 (rs++ [.one "chain" []]) _ (gm.trans f5) (_,ag,(rl.imp λ_ _ q=>dJ q (gm.trans f5)).append (.one (dJ etn (f2.trans f5)))) (by rw[IB,IU];lia) λx hx=>?_
  rcases IS.mp hx with y|y
  ·exact okx x y
  ·rw[IM.mp y];exact tU 471 139 λe=>absurd e 41
 try dsimp only[cE,c9]
 sleep 17
 ·refine (rfl,xg 328 (λ_=>df (hN _ _ (rfl,g0))))
  obtain ⟨wd,ys,ew,iw⟩:=im ra okr.ok.1;refine (aG tr _ _ _ (rfl,rfl,bg.of ew,aS (j:=0) rfl,rfl,d2 (λcw=>?_) (λ_=>hN _ _ (rfl,g0))))
  cases r with
  |full z F G=>
   obtain ⟨lf,lb,e,_,_⟩:=ra;rw[e] at ew;cases ew;sleep 87
  |one w1 C=>
   obtain ⟨c1,e,ec1⟩:=ra;rw[e] at ew;cases ew;have hw1:(wd= "chain" ∨wd= "ring" ∨wd= "split")/\C.length<=30:=okr.ok.1;injection cw with cw
   subst cw;rcases hw1.1 with z|z|z<;>exact absurd z 41
  |ways i=>
   have er:H tr=some (.tup [.str "ways",.int i]):=ra;sleep 113
   rw[dH 78]
   sleep 30;refine (aG tr _ _ _ (rfl,rfl,bg.of (gm _ _ er),rfl,by show 2<=sizeLine;decide,λtn ntn=>?_))
   have f9:=af ntn (.tup [.str "ways",.int (i+put)]);have rr1:lY An (aK Hm tn (.tup [.str "ways",.int (i+put)])) (.ref tn) (.ways (i+put)):=(tn,rfl,trivial,ag);replace hp1:=f9 _ _ hp1;replace gm:=gm.trans f9;sleep 44
   sleep 15
   sleep 8
   sleep 140
   sleep 10
   sleep 2
   exact q p5 (rs.take k++ [.ways (i+put)]++rs.drop 291) _ 292 153 251 (i7 okx (jM Cw) k 291)
 rintro σ H1 ⟨rfl,g1⟩;try dsimp only[cE,c9]
 sleep 17
 ·refine (rfl,xg 328 (λ_=>df (hN _ _ (rfl,g1))))
  have raG:=ra.same g1;sleep 51
  sleep 107;refine (aJ tt _ (rfl,.inr (bg.of ag),rfl,vH ["split","chain","ring"],mB.i (Gk (gs:= ["split","chain","ring"]) (λcw=>?_) (λ_=>hN _ _ (rfl,g1.trans ft)))))
  generalize aK H1 tt 272=Ht at ft⊢;have gt:=g1.trans ft;cases r with
  |full z F G=>
   obtain ⟨lf,lb,e,_,_⟩:=raG;rw[e] at ew;cases ew;sleep 87
  |ways i=>
   have e:H1 tr=some (.tup [.str "ways",.int i]):=raG;rw[e] at ew;cases ew;sleep 87
  |one w1 C=>
   sleep 119;cases ew;sleep 24
   rw[dH 78]
   sleep 22;refine (aG tr _ _ _ (rfl,rfl,bg.of er,rfl,aG tr _ _ _ (rfl,rfl,bg.of er,rfl,aJ c1 _ (rfl,aD.of ec,λc2 nc2=>?_))))
   have f8:=af nc2 (.lst (C.map V.int).reverse);refine 287
   have f9:=af ntn 439;have rr1:lY An (aK (aK Hm c2 (.lst (C.map V.int).reverse)) tn 439) (.ref tn) (.one wd C.reverse):=(tn,rfl,trivial,c2,trivial,ag,by rw[f9 _ _ ag,List.map_reverse])
   sleep 98;sleep 44
   sleep 15
   sleep 8
   sleep 140
   sleep 10
   sleep 2
   exact q p5 (rs.take k++ [.one wd (C.reverse)]++rs.drop 291) _ 292 153 251 (i7 okx (jM (tU hw1 (by rw[JN];lia) (λe=>by have:=okc.2 e;rw[JN];lia))) k 291)
 rintro σ H2 ⟨rfl,g2⟩;try dsimp only[cE,c9]
 sleep 17
 ·refine (rfl,xg 328 (λ_=>df (hN _ _ (rfl,g2))))
  have raG:=ra.same g2;sleep 51
  sleep 107;refine (aJ tt _ (rfl,.inr (bg.of ag),rfl,vH ["split","chain","ring"],mB.i (Gk (gs:= ["split","chain","ring"]) (λcw=>?_) (λ_=>hN _ _ (rfl,g2.trans ft)))))
  generalize aK H2 tt 272=Ht at ft⊢;have gt:=g2.trans ft;cases r with
  |full z F G=>
   obtain ⟨lf,lb,e,_,_⟩:=raG;rw[e] at ew;cases ew;sleep 87
  |ways i=>
   have e:H2 tr=some (.tup [.str "ways",.int i]):=raG;rw[e] at ew;cases ew;sleep 87
  |one w1 C=>
   sleep 119;cases ew;sleep 24
   rw[dH 78]
   sleep 22;refine (aG tr _ _ _ (rfl,rfl,bg.of er,rfl,aG tr _ _ _ (rfl,rfl,bg.of er,rfl,by show 1<=sizeLine;decide,λc2 nc2=>?_)))
   have f7:=af nc2 (.lst [.int put]);refine (aG c1 c2 _ _ (rfl,rfl,f7 _ _ ec,ag,by rw[I0,IU];lia,λc3 nc3=>?_))
   have f8:=af nc3 (.lst (C.map V.int++ [.int put]));refine 287
   have f9:=af ntn (.tup [.str wd,.ref c3]);have rr1:lY An (aK (aK (aK Hm c2 (.lst [.int put])) c3 (.lst (C.map V.int++ [.int put]))) tn (.tup [.str wd,.ref c3])) (.ref tn) (.one wd (C++ [put])):=(tn,rfl,trivial,c3,trivial,ag,by rw[f9 _ _ ag,Il];rfl)
   replace hp1:=((f7.trans f8).trans f9) _ _ hp1;replace gm:=gm.trans ((f7.trans f8).trans f9);sleep 44
   sleep 15
   sleep 8
   sleep 140
   sleep 10
   sleep 2
   exact q p5 (rs.take k++ [.one wd (C++ [put])]++rs.drop 291) _ 292 153 251 (i7 okx (jM (tU hw1 (by rw[IB,IU];lia) (λe=>by have:=okc.2 e;rw[IB,IU];lia))) k 291)
 rintro σ H3 ⟨rfl,g3⟩;try dsimp only[cE,c9]
 sleep 17
 ·refine (rfl,xg 328 (λ_=>df (hN _ _ (rfl,g3))))
  have raG:=ra.same g3;sleep 51
  sleep 107;refine (aJ tt _ (rfl,.inr (bg.of ag),rfl,vH ["split","chain","ring"],mB.i (Gk (gs:= ["split","chain","ring"]) (λcw=>?_) (λ_=>hN _ _ (rfl,g3.trans ft)))))
  generalize aK H3 tt 272=Ht at ft⊢;have gt:=g3.trans ft;cases r with
  |full z F G=>
   obtain ⟨lf,lb,e,_,_⟩:=raG;rw[e] at ew;cases ew;sleep 87
  |ways i=>
   have e:H3 tr=some (.tup [.str "ways",.int i]):=raG;rw[e] at ew;cases ew;sleep 87
  |one w1 C=>
   sleep 119;cases ew;sleep 24
   rw[dH 78]
   sleep 22;refine (aG tr _ _ _ (rfl,rfl,bg.of er,rfl,aG tr _ _ _ (rfl,rfl,bg.of er,rfl,ν,aJ c1 _ (rfl,aD.of ec,λc2 nc2=>?_))))
   have e77:gU (C.map V.int) (some 1) none=(C.map V.int).drop (min 1 (C.map V.int).length):=va _ 1;rw[e77,<-List.map_drop];have f8:=af nc2 (.lst ((C.drop 385).map V.int));refine 287
   have f9:=af ntn 439;have rr1:lY An (aK (aK Hm c2 (.lst ((C.drop 385).map V.int))) tn 439) (.ref tn) (.one wd (C.drop 385)):=(tn,rfl,trivial,c2,trivial,ag,f9 _ _ ag);sleep 98;sleep 44
   sleep 15
   sleep 8
   sleep 140
   sleep 10
   sleep 2
   exact q p5 (rs.take k++ [.one wd (C.drop 385)]++rs.drop 291) _ 292 153 251 (i7 okx (jM (tU hw1 (by rw[Io];lia) (λe=>by have:=okc.2 e;rw[Io];lia))) k 291)
 rintro σ H4 ⟨rfl,g4⟩;sleep 129
 ·skip
  refine (ν,aJ lp _ (rfl,aD.of (g4 _ _ el),λp1 np1=>?_))
  rw[dH 78]
  have f1:=af np1 230;have hp1:aK H4 p1 230 p1=some (.lst (vs.take k)):=ag;generalize aK H4 p1 230=Hm at f1 hp1⊢;have gm:=(g4).trans f1;refine (by show 3<=sizeLine;decide,λc2 nc2=>287)
  have f8:=af nc2 (.lst [.int 0,.int 1,.int put]);have f9:=af ntn (.tup [.str "ring",.ref c2]);have rr1:lY An (aK (aK Hm c2 (.lst [.int 0,.int 1,.int put])) tn (.tup [.str "ring",.ref c2])) (.ref tn) (.one "ring" [0,1,put]):=(tn,rfl,trivial,c2,trivial,ag,f9 _ _ ag);sleep 98;sleep 44
  sleep 15
  sleep 8
  sleep 140
  sleep 10
  sleep 2
  exact q p5 (rs.take k++ [.one "ring" [0,1,put]]++rs.drop 291) _ 292 153 251 (i7 okx (jM (tU (.inr 471) 139 (λe=>absurd e 41))) k 291)
 try dsimp only[cE,c9]
 sleep 17
 ·refine (rfl,xg 328 (λ_=>df (hN _ _ (rfl,g4))))
  have raG:=ra.same g4;obtain ⟨wd,ys,ew,iw⟩:=im raG okr.ok.1;refine (aG tr _ _ _ (rfl,rfl,bg.of ew,aS (j:=0) rfl,rfl,d2 (λcw=>?_) (λ_=>hN _ _ (rfl,g4))))
  clear hN;cases r with
  |ways i=>
   have e:H4 tr=some (.tup [.str "ways",.int i]):=raG;rw[e] at ew;cases ew;sleep 87
  |one w1 C=>
   sleep 119;cases ew;have hw1:(wd= "chain" ∨wd= "ring" ∨wd= "split")/\C.length<=30:=okr.ok.1;injection cw with cw
   subst cw;rcases hw1.1 with z|z|z<;>exact absurd z 41
  |full z F G=>
   obtain ⟨lf,lb,e,hF,hG⟩:=raG;refine iO (okr.fs z F G rfl) λS m _hi=>?_
   refine ip _hi λhm sne snd s4 srg _hj=>?_
   refine cA _hj λeF eG=>?_
   obtain ⟨vf,ef,rf⟩:=id hF;obtain ⟨vb,eb,rb⟩:=id hG;have lS:0<S.length:=K2.mpr sne;have h0:=IA lS;have hF0:F[0]?=some [2*S[0]]:=by rw[eF,IG,h0];rfl
   have hFl:F.length=S.length:=by rw[eF,I0]
   have hGl:G.length=S.length:=by rw[eG,I0]
   generalize S[0]=i0 at hF0 h0;obtain ⟨vf0,hvf0,hc0⟩:=rf.get hF0;obtain ⟨cf,rfl,_,ecf⟩:=lQ hc0;have lvf:=rf.1;have lvb:=rb.1;refine (aG tr _ _ _ (rfl,rfl,bg.of e,rfl,aG lf _ _ _ (rfl,rfl,aD.of ef,(aS (j:=0) hvf0),aG cf _ _ _ (rfl,rfl,aD.of ecf,rfl,?_))));refine (aG tr _ _ _ (rfl,rfl,bg.of e,rfl,by show 3<=sizeLine;decide,λd1 nd1=>(by show 1<=sizeLine;decide,λd2 nd2=>?_)))
   have x1:=af nd1 342;have x2:=af nd2 (.lst [.ref d1]);refine (aG lf d2 _ _ (rfl,rfl,(x1.trans x2) _ _ ef,ag,by rw[IU];lia,λlf2 nlf2=>?_))
   have x3:=af nlf2 (.lst (vf++ [.ref d1]));have gx:=g4.trans 351;have hF2:zK (aK (aK (aK H4 d1 342) d2 (.lst [.ref d1])) lf2 (.lst (vf++ [.ref d1]))) lf2 (F++ [[2*i0,2*i0+1,2*i0]]):=(_,ag,(rf.imp λ_ _ q=>dJ q 351).append (.one (n4 trivial ((x2.trans x3) _ _ ag))))
   have ex:=351 _ _ e;have ebx:=351 _ _ eb;have rbx:=rb.imp λ_ _ q=>dJ q 351
   generalize aK (aK (aK H4 d1 342) d2 (.lst [.ref d1])) lf2 (.lst (vf++ [.ref d1]))=Hx at gx hF2 ex ebx rbx⊢;refine (ν,aJ lp _ (rfl,aD.of (gx _ _ el),λp1 np1=>?_))
   rw[dH 78]
   have f1:=af np1 230;have hp1:aK Hx p1 230 p1=some (.lst (vs.take k)):=ag;generalize aK Hx p1 230=Hm at f1 hp1⊢;have gm:=(gx).trans f1;refine (aG tr _ _ _ (rfl,rfl,bg.of (f1 _ _ ex),rfl,aG tr _ _ _ (rfl,rfl,bg.of (f1 _ _ ex),rfl,by show 1<=sizeLine;decide,λd3 nd3=>(by show 1<=sizeLine;decide,λd4 nd4=>?_))))
   have y1:=af nd3 (.lst [.int (2*i0+1)]);have y2:=af nd4 (.lst [.ref d3]);refine (aG lb d4 _ _ (rfl,rfl,(f1.trans (y1.trans y2)) _ _ ebx,ag,by rw[IU];lia,λBv nlb2=>?_))
   have y3:=af nlb2 (.lst (vb++ [.ref d3]));have yy:=(y1.trans y2).trans y3;have hG2:zK (aK (aK (aK Hm d3 (.lst [.int (2*i0+1)])) d4 (.lst [.ref d3])) Bv (.lst (vb++ [.ref d3]))) Bv (G++ [[2*i0+1]]):=(_,ag,(rbx.imp λ_ _ q=>dJ q (f1.trans yy)).append (.one (n4 trivial ((y2.trans y3) _ _ ag))))
   have hF3:=hF2.same (f1.trans yy);replace hp1:=yy _ _ hp1;replace gm:=gm.trans yy;generalize aK (aK (aK Hm d3 (.lst [.int (2*i0+1)])) d4 (.lst [.ref d3])) Bv (.lst (vb++ [.ref d3]))=Hy at gm hG2 hF3 hp1⊢;refine (by show 4<=sizeLine;decide,λtn ntn=>?_)
   have f9:=af ntn (.tup [.str "full",.str z,.ref lf2,.ref Bv]);have rr1:lY An (aK Hy tn (.tup [.str "full",.str z,.ref lf2,.ref Bv])) (.ref tn) (.full z (F++ [[2*i0,2*i0+1,2*i0]]) (G++ [[2*i0+1]])):=(tn,rfl,trivial,aJ lf2 Bv (trivial,trivial,ag,hF3.same f9,hG2.same f9));replace hp1:=f9 _ _ hp1;replace gm:=gm.trans f9;have rx1:mw D T (.full z (F++ [[2*i0,2*i0+1,2*i0]]) (G++ [[2*i0+1]])):=EL okr.fs hF0 rfl;sleep 44
   sleep 15
   sleep 8
   sleep 140
   sleep 10
   sleep 2
   exact q p5 (rs.take k++ [.full z (F++ [[2*i0,2*i0+1,2*i0]]) (G++ [[2*i0+1]])]++rs.drop 291) _ 292 153 251 (i7 okx (jM rx1) k 291)
 rintro σ H5 ⟨rfl,g5⟩;exact (q lp rs _ g5 (hl.same g5) 78 okx)
theorem Ga {dV:Value} (F:bv K "law" "law" q9 dV f fd) (DZ8:GR P w K mg base bj 3 Ks ["self","tools","tasks","arcs","apart","moments"] [.non,.int 0] (uP Ix)) (DZ22:Dx P w K mg base bj 6 "plan_fits" ["net","plan"] [] (vV Ix)) (DZ23:Dx P w K mg base bj 2 "length_of" ["plan"] [] yX) (DZ54:Dx P w K mg base bj 8 "lets_by" ["net","low","paper"] [] (z8 Ix)) (DZ55:Dx P w K mg base bj 1 "_law_cell_at" ["_law_script","_law_k"] [] (qw K)) (DZ65:Dx P w K mg base bj 1 "_law_arcs" ["_law_cells","_law_times","_law_far"] [] wj) (DZ66:Dx P w K mg base bj 2 "_law_apart" ["_law_runs_here","_law_cell"] [] sZ) (DZ67:Dx P w K mg base bj 3 "_law_built" ["_law_script","_law_at","_law_many_here","_law_far"] [] (wg K)) (DZ68:Dx P w K mg base bj 1 "_law_points" ["_law_runs_here","_law_times"] [] pS) (DZ85:Dx P w K mg base bj 7 "_law_paper" ["_law_parts","_law_cells"] [] tY) (DZ86:Dx P w K mg base bj 1 "_law_spoilt" ["_law_rows","_law_way","_law_k","_law_put"] [] ou):bq P w K mg base bj 11 f fd ["_law_script"] (vD K):=by
 have sc:aE ["_law_script","_law_many_here","_law_far","_law_tools_here","_law_tasks","_law_runs_here","_law_times","_law_at","_law_arcs_here","_law_pairs","_law_net","_law_parts","_law_plan","_law_length","_law_paper_here","_law_totals","_law_put","_law_spoilt_here","_law_drawn","_law_one","_law_low"] ["_law_script"] (av q9):=dk 47
 sleep 68
 obtain ⟨a,ns,rfl,hS,n63,q⟩:=h;exists _,(ah (cO 1 sc (am aW ae (am aR 165 ae))) (@ah _ _ _ _ _ (@fQ _ _ 2 _ _ _ _ sc.nd rfl (Or.inl rfl) (@ao _ _ _ _ _ _ _ aM (@aO _ _ _ _ (ae<*>(ae<*>((am aW (am vC ae ae) ae)<*>ac)))) (am aR (am aX 165 ae) ae) 36) rfl 252) (ah (kj (cj DZ67 hr (118<*>(ae<*>(129<*>194)))) (cT rfl (aH 331 (aH 323 (aH 347 (aH (cP 6 sc) ca)))))) (ah (cO 7 sc (cj DZ68 hr (193<*>(322<*>ac)))) (ah (cO 8 sc (cj DZ65 hr ((bu ce 118 (bH ae) (bH ae))<*>(346<*>194)))) (ah (cO 9 sc (cj DZ66 hr (193<*>(165<*>ac)))) (ah (cO 10 sc (B9 B.KQ DZ8 hr 41 rfl B.KR ((cM mW rfl B.KO m6 213)<*>((cQ (own:= "_law_ways") (ys:= []) (js:= []) rfl 124 (aI 163) (λC fp s H=>(cM (mZ (K:=K) rfl) rfl B.Ke boot_list 257)))<*>((cM cy rfl B.Ke boot_list (435<*>ac))<*>((cM cy rfl B.Ke boot_list (510<*>ac))<*>((ay ar rfl B.IO boot_len (322<*>ac))<*>ac))))))) (ah (cO 11 sc (@bc _ _ _ _ _ (147<*>(163<*>(435<*>(510<*>ac)))))) (ah (cO 12 sc (@bc _ _ _ _ _ ((cM cy rfl B.Ke boot_list 376)<*>((cM cy rfl B.Ke boot_list (322<*>ac))<*>ac)))) (ah (cO 13 sc (cj DZ23 hr ((pv 12)<*>ac))) (ah (aN (PW.pt (fr (au pU (cj DZ22 hr ((pv 10)<*>((pv 12)<*>ac))) cB 154) (dY (au eZ (pv 13) (ay (gZ rfl) rfl B.Ko boot_max (346<*>ac)) 154)))) 155 aB) (ah (kj (cj DZ85 hr ((pv 11)<*>((bu ce 118 (bH ae) (bH ae))<*>ac))) (cT rfl (aH (cP 14 sc) (aH (cP 15 sc) ca)))) (ah (cO 16 sc (am fR (am aR 165 ae) ae)) (ah (cO 17 sc (cj DZ86 hr ((pv 14)<*>((am aR 165 ae)<*>((am aR (am aX 165 ae) (ay ar rfl B.IO boot_len ((pv 14)<*>ac)))<*>((pv 16)<*>ac)))))) (ah (cO 18 sc (am aR 165 (am aW (am aZ ae (pv 13)) ae))) (ah (aP 117 rfl (aI (@aO _ _ _ _ ((pv 14)<*>((pv 17)<*>ac)))) (cP 19 sc) (ak (aP 117 rfl (aI (@aO _ _ _ _ ((am aW (pv 13) ae)<*>(bz<*>((am aW (am aW (pv 13) ae) (pv 18))<*>ac))))) (cP 20 sc) (ak (aN (au pU (cj DZ54 hr ((pv 10)<*>((pv 20)<*>((pv 19)<*>ac)))) cB 154) 155 aB))))) 155))))))))))))))))
 try dsimp only[cxK]
 sleep 0;try dsimp only[cE,c9]
 refine cut (λσ H'=>∃m:Int,σ= [Lh a,some 388,none,none,none,none,none,none,none,none,none,none,none,none,none,none,none,none,none,none,none]/\H=H'/\1<=m/\m<=4) 232 ?_
 ·refine (bT a ns 0 (rfl,hS,by decide,λc0=>?_))
  have mm:=fm (a:=c0) (n:=4) 41
  exact (202,hN _ _ (ν,rfl,by lia,by lia))
 rintro σ Hx ⟨m,rfl,rfl,m1⟩;refine ((by decide,by decide),by show 3<=sizeLine;decide,λlf nlf=>?_)
 have g0:=af nlf (.lst [.int 1,.int 1,.int ((10:Int)^(7:Int).toNat+19)]);refine (bT a ns 0 (rfl,(g0.seq hS),by decide,λc0'=>?_))
 have m3:=fm (a:=c0'.fdiv 4) (n:=3) 41
 obtain ⟨f,hf,far⟩:=Co m3.1 m3.2;refine (135,183,aG lf _ _ _ (rfl,rfl,aD.of ag,hf,?_))
 generalize aK H lf (.lst [.int 1,.int 1,.int ((10:Int)^(7:Int).toNat+19)])=H0 at g0⊢;refine (aG a ns 4 m (f,(rfl,g0.seq hS,by decide,by decide,m1.1,m1.2,far,λtb td tl rl ml n0 n1 m0 m1' hs1 hs2 T R M H1 g1 etb ed hT hR em lR bt=>?_)))
 clear hf nlf m3;refine (aJ tb _ (rfl,bg.of etb,rfl,aJ _ _ (rfl,aJ _ _ (rfl,aJ _ _ 187))));have k1:=g0.trans g1;have r4:=bt.r4;have M2:=bt.m2;refine (aG rl ml R M (rfl,hR,by lia,em,by lia,λlat H2 g2 eat=>?_))
 have k2:=k1.trans g2;obtain ⟨cs,ecs,lcs⟩:=ph ns (some 20) (some 32);have lsp:(aT R M).length=2*R.length+M.length:=eQ M R;refine (ν,ν,aJ a _ (rfl,k2.seq hS,λls nls=>?_))
 rw[ecs];have gs:=af nls 399;refine (aG ls lat cs 403 (f,(rfl,ag,by lia,gs _ _ eat,by lia,by lia,far,bt.spots,λla A H3 g3 hA lA okA=>?_)))
 have k3:=k2.trans (gs.trans g3);have q3:=g2.trans (gs.trans g3);have ed3:=q3 _ _ ed;have hT3:=hT.same q3;have hR3:=hR.same q3;have em3:=q3 _ _ em;have eat3:=(gs.trans g3) _ _ eat;clear ed hT hR em eat gs nls etb g3 g2 q3;refine (bT a ns 3 (rfl,(k3.seq hS),by decide,λc3=>(bT rl c3 R (rfl,hR3,r4,λlp ps H4 g4 hP p16 okP=>?_))))
 have k4:=k3.trans g4;have ed4:=g4 _ _ ed3;have hT4:=hT3.same g4;have hR4:=hR3.same g4;have em4:=g4 _ _ em3;have eat4:=g4 _ _ eat3;have hA4:=hA.same g4;clear ed3 hT3 hR3 em3 hA g4 k3;have nok:gL [246,496] T A 308 (M.length:Int):=bt.net 78 (λk hk=>by
   have:=(okA k hk).1;rw[lsp] at this;have e:((2*R.length+M.length:Nat):Int)=2*188+M.length:=by lia
   rw[e] at this;exact this) (by unfold cH;rw[I0];lia) (λk hk=>by
   obtain ⟨p,hp,rfl⟩:=IV.mp hk;obtain ⟨p1,p2,p3,p4,p5,_⟩:=okP p hp;exact (aJ p.1 p.2 (rfl,p1,p2,p3,p4,p5)))
 have dnd:=nok.dnd;have lT:=bt.len;refine (aJ td _ (rfl,ed4,λtd2 ntd2=>?_))
 have h1:=af ntd2 (.dK (bM [246,496]));have ed2:aK H4 td2 (.dK (bM [246,496])) td2=some (.dK (bM [246,496])):=ag;generalize aK H4 td2 (.dK (bM [246,496]))=H5 at h1 ed2⊢;obtain ⟨vt,et,rT⟩:=hT4.same h1;refine (tl,rfl,(_,aD.of et),cg (AX iM) (λa=>An a/\H5 a≠none) (λi=>T.getD i []) (aD.of et) (by rw[rT.1];lia) (λa h=>h.2) (λi y hy H6 g6 Q' hQ=>?_) λtl2 H6 ntl2 g6 hT2=>?_)
 ·refine dU (rT.at_ hy) λws _hi=>?_
  sleep 90
  refine dU _hj λl _hk=>?_
  sleep 127
  refine dU _hl λus _hm=>?_
  refine cA _hm λel rl'=>?_
  sleep 109;rw[aL hw] at hQ;have rl2:=rl'.imp λ_ _ q=>DX q
  refine (aJ l us (rfl,.inl (aD.of (g6 _ _ el)),λp np=>?_))
  have gp:=af np (.lst us);exact hQ _ _ gp (p,rfl,.inl np,us,ag,rl2.imp λv e q=>rD (dJ q (g6.trans gp)) λa h=> .inr h)
 rw[kP T [] rT.1] at hT2;have hT2':=hT2.any;obtain ⟨ba,ea,ra⟩:=hA4.same (h1.trans g6);obtain ⟨bp,ep,rp⟩:=hP.same (h1.trans g6);refine (aJ la _ (rfl,.inl (aD.of ea),λla2 nla2=>?_))
 have h3:=af nla2 254;have ela2:aK H6 la2 254 la2=some (.lst (ba.map V.ref)):=ag;generalize aK H6 la2 254=H7 at h3 ela2⊢;refine (aJ lp _ (rfl,.inl (aD.of (h3 _ _ ep)),λlp2 nlp2=>?_))
 have h4:=af nlp2 (.lst (bp.map V.ref));have elp2:aK H7 lp2 (.lst (bp.map V.ref)) lp2=some (.lst (bp.map V.ref)):=ag;generalize aK H7 lp2 (.lst (bp.map V.ref))=H8 at h4 elp2⊢;have h34:=h3.trans h4;have h8:=(h1.trans g6).trans h34;refine (aJ ml _ (rfl,.inl (aD.of (h8 _ _ em4)),?_));refine λx dx nx ndx dxx=>?_
 have sm:=nk (C:=Ix) nx ndx (H':=aK (aK H8 dx (.own x)) x (.ins Ix dx [])) (λa o _ e=>e)
 have lMm:(M.map V.int).length=M.length:=I0 _;refine (rG x dx td2 tl2 la2 (.ref lp2) _ [246,496] T (aJ A 308 (rfl,ag,sm _ _ ((g6.trans h34) _ _ ed2),(hT2'.same h34).same sm,(ba,sm _ _ (h4 _ _ ela2),ra.imp λa k q=>sm _ _ (h34 _ _ q)),.inr (lp2,rfl,(bp,sm _ _ elp2,rp.imp λa k q=>sm _ _ (h34 _ _ q))),by rw[lMm];exact nok,λH9 fx N=>(rfl,?_))))
 rw[lMm] at N;have h9:=h8.trans (nk nx ndx fx);have k9:=k4.trans h9;have ed9:=h9 _ _ ed4;have hT9:=hT4.same h9;have hR9:=hR4.same h9;have hP9:=hP.same h9;have em9:=h9 _ _ em4;have eat9:=h9 _ _ eat4;have hA9:=hA4.same h9;clear sm fx h8 h34 h4 h3 h1 ed2 hT2 hT2' ela2 elp2 ed4 hT4 hR4 hA4 em4 hP ea ra ep rp et rT nx ndx dxx g6 h9 k4;refine (by show 4<=sizeLine;decide,λtp ntp=>?_)
 have gt:=af ntp 391;have etp:aK H9 tp 391 tp=some (.tup [.ref td,.ref tl,.ref la,.ref lp]):=ag;generalize aK H9 tp 391=H10 at gt etp⊢;have k10:=k9.trans gt;have T1:1<=T.length:=by lia
 have a63:A.length<=63:=by lia
 have okQ:∀p∈ps,p.1≠p.2/\cq 211 210=false:=λp hp=>(okP p hp).2.2.2.2
 have st:u9 H10 tp [246,496] T A ps (M.length:Int):=((td,tl,la,lp,etp,gt _ _ ed9,hT9.same gt,hA9.same gt,hP9.same gt),nok,T1,by lia,λp hp=>(okQ p hp).1,a63,rfl)
 have N10:=N.same gt;have em10:=gt _ _ em9;have eat10:=gt _ _ eat9;obtain ⟨bs,er,rR⟩:=hR9.same gt;clear ed9 hT9 hR9 hP9 hA9 etp gt N k9 ntp em9 eat9;refine (aJ rl _ (rfl,.inl (aD.of er),λr2 nr2=>?_))
 have h1:=af nr2 (.lst 265);have er2:aK H10 r2 (.lst 265) r2=some (.lst 265):=ag;generalize aK H10 r2 (.lst 265)=Ha at h1 er2⊢;refine (aJ ml _ (rfl,.inl (aD.of (h1 _ _ em10)),λm2 nm2=>?_))
 have h2:=af nm2 285;have em2:aK Ha m2 285 m2=some (.lst (M.map V.int)):=ag;generalize aK Ha m2 285=Hb at h2 em2⊢;refine (by show 2<=sizeLine;decide,λth nth=>?_)
 have h3:=af nth (.tup [.ref r2,.ref m2]);have eth:aK Hb th (.tup [.ref r2,.ref m2]) th=some (.tup [.ref r2,.ref m2]):=ag;generalize aK Hb th (.tup [.ref r2,.ref m2])=Hc at h3 eth⊢;have hh:=(h1.trans h2).trans h3;have PL:nc Hc th R M:=(aJ r2 m2 (eth,(bs,(h2.trans h3) _ _ er2,rR.imp λa k q=>hh _ _ q),h3 _ _ em2))
 clear h1 h2 h3 er2 em2 eth nr2 nm2 nth er rR;refine (bT th R M (rfl,PL,by lia,by lia,λL Hd gd hL=>?_))
 have ge:=hh.trans gd;try dsimp only[cE,c9]
 refine cut (λσ H'=>σ= [Lh a,some 388,some 511,Lh td,Lh tl,Lh rl,Lh ml,Lh lat,Lh la,Lh lp,Lh x,Lh tp,Lh th,some (.int L),none,none,none,none,none,none,none]/\aC H10 H') (λN' hN=>?_) ?_
 ·refine (aJ x th (rfl,eX [246,496] T A 308 R M ((N10.same ge,PL.same gd,nok,bt.pok),λys He hy _ g10=>?_)))
  rw[bt.fits (λk hk=>(okA k hk).2) (λp hp=>(okQ p hp).2) hy]
  have gf:=ge.trans g10;have sne:aT R M≠ []:=λe=>by
   rw[e] at lsp;simp at lsp
   lia
  refine (aJ _ _ (rfl,rfl,(aJ lat _ (rfl,aD.of (gf _ _ eat10),sne,λL2 hm hle=>(rfl,mB.i ?_)))))
  have e2:L=L2:=hL.one ⟨IX _ hm,λz hz=>by
   rcases IK.mp hz with rfl|hz
   ·have:=(bt.spots L2 hm).1
    lia
   ·exact hle z hz⟩
  exact nF (by rw[e2]) (hN _ _ (rfl,gf))
 rintro σ Hf ⟨rfl,gf⟩;have k11:=k10.trans gf;have hLs:∀t∈aT R M,t<=L:=λt ht=>hL.2 t (IX _ ht)
 have L0:0<=L:=hL.2 0 Iq;have st1:=st.same gf;have N1:=N10.same gf;clear st N10 k10 PL hh gd ge em10 eat10 hL;obtain ⟨cs,ecs,lcs⟩:=ph ns (some 32) (some 64);refine (ν,ν,aJ a _ (rfl,k11.seq hS,λlc nlc=>?_))
 rw[ecs];have g11:=af nlc 399;have st11:=st1.same g11;refine (eX tp lc cs [246,496] T A (aJ ps _ (rfl,st11,ag,by lia,λtq lpp lt rs ts H12 g12 etq hpp elt r3 r1 rowS=>(aJ tq _ (rfl,bg.of etq,rfl,aJ _ _ 187)))))
 have g112:=g11.trans g12;have N12:=N1.same g112;have k12:=k11.trans g112;clear st11 N1 st1 k11 g11 g12 g112 nlc etq elt;have okr:∀r∈rs,kh r:=λr hr=>(rowS r hr).ok
 refine (bT a ns 18 (rfl,(k12.seq hS),by decide,λc18=>((by show (13:Int)≠0;decide),?_)))
 obtain ⟨vp,ep,rp⟩:=id hpp;have lvp:=rp.1;refine (bT a ns 19 (rfl,(k12.seq hS),by decide,λc19=>((by show (11:Int)≠0;decide),bT a ns 18 (rfl,(k12.seq hS),by decide,λc18'=>(135,aJ lpp _ (rfl,.inl (aD.of ep),?_))))))
 rw[lvp];have mk:=fm (a:=c18'.fdiv 13) (n:=(rs.length:Int)) 78
 exists by lia
 dsimp only;obtain ⟨k,hk⟩:∃k:Nat,(c18'.fdiv 13).fmod (rs.length:Int)=(k:Int):=⟨((c18'.fdiv 13).fmod (rs.length:Int)).toNat,by lia⟩
 rw[hk] at mk⊢;refine (eX lpp _ _ k [246,496] T (rs,(rfl,hpp,rowS,by lia,r3,λlo os H13 g13 ho o3 oko=>?_)))
 have k13:=k12.trans g13;have N13:=N12.same g13;have hp13:=hpp.same g13;refine (bT a ns 17 (rfl,(k13.seq hS),by decide,λc17=>(126 41,by lia,?_)))
 have md:=fm (a:=c17) (n:=2*L+2) 78
 have bnd:∀o:List fj,o.length<=400->A.length+2*T.length+o.length<=700:=λo ho=>by lia
 refine (by show 2<=sizeLine;decide,λl2 nl2=>?_)
 have g14:=af nl2 (.lst [.ref lpp,.ref lo]);have e14:aK H13 l2 (.lst [.ref lpp,.ref lo]) l2=some (.lst [.ref lpp,.ref lo]):=ag;generalize aK H13 l2 (.lst [.ref lpp,.ref lo])=H14 at g14 e14⊢;refine (l2,rfl,(_,aD.of e14),aV (xs:= [.ref lpp,.ref lo]) (λj σ H'=>∃o19 o20:Option V,σ= [Lh a,some 388,some 511,Lh td,Lh tl,Lh rl,Lh ml,Lh lat,Lh la,Lh lp,Lh x,Lh tp,Lh th,some (.int L),Lh lpp,Lh lt,some (.int (c18.fmod 13-1)),Lh lo,some (.int (c17.fmod (2*L+2))),o19,o20]/\aC H14 H') (aJ none none (rfl,.refl _)) (λj σ H' _ (_,_,_,g)=>aD.of (g _ _ e14)) ?_ ?_)
 ·rintro j y σ H15 hy ⟨o19,o20,rfl,g15⟩;have g1315:=g14.trans g15;obtain ⟨lq,qs,rfl,hq,q4,okq⟩:∃(lq:Addr) (qs:List fj),y= .ref lq/\cU lY An H15 lq qs/\qs.length<=400/\∀r∈qs,kh r:=by
   have:=ID hy;simp only[IK,Iz,or_false] at this;rcases this with rfl|rfl
   ·exact (aJ lpp rs (rfl,hp13.same g1315,by lia,okr))
   ·exact (aJ lo os (rfl,ho.same g1315,by lia,λr hr=>(oko r hr).1))
  refine (by show 3<=sizeLine;decide,λl3 nl3=>?_)
  have g16:=af nl3 320;have e16:aK H15 l3 320 l3=some (.lst [.int (L+1),.non,.int 462]):=ag;generalize aK H15 l3 320=H16 at g16 e16⊢;refine (l3,rfl,(_,aD.of e16),aV (xs:= [.int (L+1),.non,.int 462]) (λj σ H'=>∃o20:Option V,σ= [Lh a,some 388,some 511,Lh td,Lh tl,Lh rl,Lh ml,Lh lat,Lh la,Lh lp,Lh x,Lh tp,Lh th,some (.int L),Lh lpp,Lh lt,some (.int (c18.fmod 13-1)),Lh lo,some (.int (c17.fmod (2*L+2))),Lh lq,o20]/\aC H16 H') (o20,rfl,.refl _) (λj σ H' _ (_,_,g)=>aD.of (g _ _ e16)) ?_ ?_)
  ·rintro j z σ H17 hz ⟨o20,rfl,g17⟩;obtain ⟨low,rfl,hl⟩:∃low:Option Int,z=oV low/\∀l,low=some l->L<l:=by
    have:=ID hz;simp only[IK,Iz,or_false] at this;rcases this with rfl|rfl|rfl
    ·exact (some (L+1),rfl,λl e=>by cases e;lia)
    ·exact (none,rfl,λl e=>by cases e)
    ·exact (some 462,rfl,λl e=>by cases e;lia)
   have g1517:=g16.trans g17;refine (rG x lq low [246,496] T A 308 _ qs (rfl,N13.same (g1315.trans g1517),nok,hq.same g1517,okq,bnd qs 78,λH18 g18=>?_))
   rw[Ag bt okA okQ nok.ways hLs L0 hl qs];exact (aJ _ _ (rfl,rfl,(ν,g17.trans g18)))
  ·rintro σ H17 ⟨o20,rfl,g17⟩;exact (aJ _ _ (rfl,(g15.trans g16).trans g17))
 ·rintro σ H15 ⟨o19,o20,rfl,g15⟩;exact q _
universe z0
theorem DU {l:PySem.W.OpenLaw} {w:World} {K:IE} {h:Heap} {mg:KZ} {fa g5 g6 g7 g8 g9 gA gB gD gE bA bB bC bE bF bN bO bQ bV ca cb cc cd ce cf ch ci ck cl cm cn co cs ct cu cw cy c0 c1 c2 c3 c4 c7 c9 cD cL cZ da dc dd dg dh di dl dm dp dr dx dz d1 d3 d4 d5 d6 d7 d8 d9 dA dK dS dV dW ea eb ec ed ee ef eg eh ei ej ek el em en eo bp Ki Ix Ks:Addr} (X:K.In h) (G:h.Ns mainGlobals mg) (hfa:mg "law" =some (.ref fa))
  {b7 bi:Le} {b8:Array Lg} {b9 bk bl bm aT bo:Value}
  {aA:Tok}
  {h7:Tok}
  {ai:Tok}
  {aj:Tok}
  {ac:Tok}
  {a1:Tok}
  {ia:Tok}
  {a2:Tok}
  {al:Tok}
  {a7:Tok}
  {g3:Addr} {ep:Value} {eq:Le} {er:Nat} {es:Array Lg} {br:Tok}
  (gF:bD K g5 "is_name" G3 .none)
  (gK:bD K g6 "points_of" G4 .none)
  (gN:bD K g7 "copy_of_task" G5 .none)
  (gS:bD K g8 "refuse_wrong_tools" G6 .none)
  (gT:bD K g9 "refuse_wrong_uses" G7 .none)
  (gV:bD K gA "refuse_wrong_tasks" G8 .none)
  (ha:bD K gB "refuse_wrong_arcs" G9 .none)
  (hb:bD K gD "refuse_wrong_pairs" Hg .none)
  (hc:bD K gE "use_in" Hh .none)
  (et:bD K bA "is_plan" Cy .none)
  (eu:bD K bB "time_of" Cz .none)
  (ev:bD K bC "runs_meet" CA .none)
  (ew:bD K bE "goes_on" CB .none)
  (ex:bD K bF "use_of" CC .none)
  (ey:bD K bN "breaches_of_turns" CD .none)
  (ez:bD K bO "breaches_of_arcs" CF .none)
  (e0:bD K bQ "breaches_of_apart" CG .none)
  (e1:bD K bV "in_use" CH .none)
  (e2:bD K ca "breaches_of_tool" CI .none)
  (e3:bD K cb "breaches_of_heat" CJ .none)
  (e4:bD K cc "breaches" CK .none)
  (e5:bD K cd "plan_fits" CL .none)
  (e6:bD K ce "length_of" CM .none)
  (e7:bD K cf "are_points" CN .none)
  (e8:bD K ch "start_case" CO .none)
  (e9:bD K ci "many_in" CP .none)
  (eA:bD K ck "open_ways" CQ .none)
  (eD:bD K cl "want_of" CS .none)
  (eE:bD K cm "work_of" CT .none)
  (eF:bD K cn "heats_differ" CU .none)
  (eG:bD K co "unlike_heats" CV .none)
  (eH:bD K cs "arcs_of" CW .none)
  (eL:bD K ct "greatest_lags" CY .none)
  (eO:bD K cu "total_by" CZ .none)
  (eS:bD K cw "chain_total" C3 .none)
  (eT:bD K cy "ring_total" C4 .none)
  (eU:bD K c0 "are_unlike_tasks" C5 .none)
  (eW:bD K c1 "two_apart" C6 .none)
  (eZ:bD K c2 "two_at_unlike_heats" C7 .none)
  (fe:bD K c3 "too_much_wanted" C8 .none)
  (ff:bD K c4 "clashes" C9 .none)
  (fl:bD K c7 "turns_for" Da .none)
  (fp:bD K c9 "task_between" Db .none)
  (fs:bD K cD "tasks_between" Dc .none)
  (ft:bD K cL "stretch_total" Dd .none)
  (fu:bD K cZ "has_order_of" De .none)
  (fv:bD K da "cases_of_split" Df .none)
  (fw:bD K dc "with_pick" Dg .none)
  (fx:bD K dd "cases_of_ways" Dh .none)
  (fy:bD K dg "parted" Di .none)
  (fz:bD K dh "bound_of" Dj .none)
  (f0:bD K di "shuts_by_ring" Dk .none)
  (f1:bD K dl "shuts" Dl .none)
  (f2:bD K dm "lets_by" Dm .none)
  (f3:bD K dp "_law_cell_at" Dn .none)
  (f4:bD K dr "_law_mixed" Do .none)
  (f5:bD K dx "_law_meet" Dp .none)
  (f6:bD K dz "_law_names" Dq .none)
  (f7:bD K d1 "_law_runs" Dr .none)
  (f8:bD K d3 "_law_heats" Ds .none)
  (f9:bD K d4 "_law_uses" Dt .none)
  (fB:bD K d5 "_law_task" Du .none)
  (fC:bD K d6 "_law_used" Dv .none)
  (fG:bD K d7 "_law_tools" Dw .none)
  (fI:bD K d8 "_law_arcs" Dy .none)
  (fK:bD K d9 "_law_apart" Dz .none)
  (fL:bD K dA "_law_built" DA .none)
  (fR:bD K dK "_law_points" DB .none)
  (ga:bD K dS "_law_lag" DC .none)
  (gb:bD K dV "_law_total" DD .none)
  (gc:bD K dW "_law_open" DE .none)
  (gd:bD K ea "_law_due" DF .none)
  (ge:bD K eb "_law_many" DG .none)
  (gf:bD K ec "_law_work" DH .none)
  (gg:bD K ed "_law_front" DI .none)
  (gh:bD K ee "_law_back" DJ .none)
  (gk:bD K ef "_law_order" DK .none)
  (gl:bD K eg "_law_differ" DL .none)
  (gm:bD K eh "_law_unlike" DM .none)
  (go:bD K ei "_law_clash" DN .none)
  (gp:bD K ej "_law_splits" DO .none)
  (gq:bD K ek "_law_inner" DP .none)
  (gr:bD K el "_law_cases" DQ .none)
  (gs:bD K em "_law_leaf" DR .none)
  (gt:bD K en "_law_paper" DS .none)
  (gx:bD K eo "_law_spoilt" DT .none)
  (gz:J3 K mainGlobals "law" =some (some (.ref bp)))
  (g0:K.lookup bp=some ⟨b9,b7,.func (Jq "law" "law" (fU q9) (fJ q9) (av q9) .none bk bl bm bi aT bo),b8⟩) (g1:PySem.W.codeIn K aT "law" =true) (g2:K0 K (.ref bp)=true)
  (aB:J3 K mainGlobals "LETTERS" =some (some (.str "abcdefghijklmnopqrstuvwxyz" aA)))
  (kd:J3 K mainGlobals "MOST_LETTERS" =some (some (.int 12 h7)))
  (an:J3 K mainGlobals "MOST_TASKS" =some (some (.int 24 ai)))
  (ap:J3 K mainGlobals "MOST_TOOLS" =some (some (.int 12 aj)))
  (ad:J3 K mainGlobals "MOST_PIECES" =some (some (.int 8 ac)))
  (a3:J3 K mainGlobals "MOST_WAYS" =some (some (.int 2 a1)))
  (sn:J3 K mainGlobals "MOST_MOMENTS" =some (some (.int 8 ia)))
  (a4:J3 K mainGlobals "MOST_ARCS" =some (some (.int 600 a2)))
  (aq:J3 K mainGlobals "MOST_APART" =some (some (.int 300 al)))
  (a8:J3 K mainGlobals "GREATEST" =some (some (.int 1000000000 a7)))
  (bs:J3 K mainGlobals "abs" =some none)
  (bt:J3 K mainGlobals "all" =some none)
  (aZ:J3 K mainGlobals "dict" =some none)
  (a5:J3 K mainGlobals "enumerate" =some none)
  (ar:J3 K mainGlobals "isinstance" =some none)
  (bx:J3 K mainGlobals "len" =some none)
  (ba:J3 K mainGlobals "list" =some none)
  (b0:J3 K mainGlobals "max" =some none)
  (b1:J3 K mainGlobals "min" =some none)
  (aW:J3 K mainGlobals "range" =some none)
  (a9:J3 K mainGlobals "reversed" =some none)
  (b2:J3 K mainGlobals "set" =some none)
  (aM:J3 K mainGlobals "sorted" =some none)
  (b3:J3 K mainGlobals "str" =some none)
  (b4:J3 K mainGlobals "sum" =some none)
  (b5:J3 K mainGlobals "zip" =some none)
  (aX:J3 K mainGlobals "INNER" =some (some (.ref Ki)))
  (b6:J3 K mainGlobals "Net" =some (some (.ref Ix)))
  (atZ8:Js K (.ref Ix) "__init__" =some (some (.ref Ks)))
  (hd:FnAt K Ks "__init__" "Net.__init__" Gp (.ref g3))
  (g4:K.lookup g3=some ⟨ep,eq,.seq #[.none,.int 0 br] er,es⟩)
  (aR:Bm K Ki ["split","ways"])
  (bd:Av K Ix)
  (bh:Mk K Ix Ks)
  (ax:dq K Ix "tools")
  (az:dq K Ix "tasks")
  (a6:dq K Ix "arcs")
  (a0:dq K Ix "apart")
  (ab:dq K Ix "moments")
  :∃fd:FuncData,(∀(s:Shared) (v:Value),BindsTo s fd ⟨[v],[]⟩ [("_law_script",v)])/\∀base:Heap,K.In base->base.Ns mainGlobals mg->bq l.prog w K mg base bj 11 fa fd ["_law_script"] (vD K):=by
 have e:=hfa.symm.trans (JY X G gz);cases e;have B:Bn K mg Ki Ix Ks:=⟨Exists.intro _<|JY X G aB,Exists.intro _<|JY X G kd,Exists.intro _<|JY X G an,Exists.intro _<|JY X G ap,Exists.intro _<|JY X G ad,Exists.intro _<|JY X G a3,Exists.intro _<|JY X G sn,Exists.intro _<|JY X G a4,Exists.intro _<|JY X G aq,Exists.intro _<|JY X G a8,JD X G bs,JD X G bt,JD X G aZ,JD X G a5,JD X G ar,JD X G bx,JD X G ba,JD X G b0,JD X G b1,JD X G aW,JD X G a9,JD X G b2,JD X G aM,JD X G b3,JD X G b4,JD X G b5,JY X G aX,JY X G b6,aR,bd,bh,ax,az,a6,a0,ab⟩;refine uV hd λ_ _ _ _ _ _ _ _ _ _hi=>?_
 refine iC _hi λlZ8 cZ8 kZ8=>?_
 have FZ8:=qx (st:=Gp) lZ8 cZ8 kZ8;have Flaw:=qx (st:=q9) g0 g1 g2;refine (Jq "law" "law" (fU q9) (fJ q9) (av q9) .none bk bl bm bi aT bo,?bind,λbase _ _=>?ok)
 case bind=>exact λs v=> .of_eq rfl
 case ok=>
  have z9:Bx l.prog w base:=⟨⟩;have DZ0:=dt z9 X G gF 223 λF=>Hi B F
  have DZ1:=dt z9 X G gK 223 λF=>Hj B F
  have DZ2:=dt z9 X G gN 223 λF=>Hl B F
  have DZ3:=dt z9 X G gS 223 λF=>Hn B F DZ0
  have DZ4:=dt z9 X G gT 115 λF=>Ho B F
  have DZ5:=dt z9 X G gV 115 λF=>Hq B F DZ4
  have DZ6:=dt z9 X G ha 115 λF=>Hr B F
  have DZ7:=dt z9 X G hb 115 λF=>Hs B F
  have DZ8:GR l.prog w K mg base bj 3 Ks ["self","tools","tasks","arcs","apart","moments"] [.non,.int 0] (uP Ix):=⟨_,Hu B FZ8 DZ1 DZ2 DZ3 DZ5 DZ6 DZ7,FZ8.binds (ps:= ["self","tools","tasks","arcs","apart","moments"]) (ds:= []) g4 rfl λ_ _ _ _ _ _ us hl=>match us,hl with| [_,_,_,_,_,_],_=>⟨_,rfl,rfl⟩,⟨[.none,.int 0 br],FZ8.binds (ps:= ["self","tools","tasks","arcs","apart","moments"]) (ds:= [.none,.int 0 br]) g4 rfl λ_ _ _ _ _ _ us hl=>match us,hl with| [_,_,_,_],_=>⟨_,rfl,rfl⟩| [],h=>absurd h (by simp)| [_],h=>absurd h (by simp)| [_,_],h=>absurd h (by simp)| [_,_,_],h=>absurd h (by simp)|_::_::_::_::_::_,h=>absurd h (by simp),.cons rfl (.cons ⟨_,rfl⟩ .nil)⟩⟩
  have DZ9:=dt z9 X G hc 115 λF=>Hv B F
  have DZ10:=dt z9 X G et 115 λF=>EN B F
  have DZ11:=dt z9 X G eu 115 λF=>EO B F
  have DZ12:=dt z9 X G ev 115 λF=>EQ B F
  have DZ13:=dt z9 X G ew 115 λF=>ER B F
  have DZ14:=dt z9 X G ex 145 λF=>ES B F DZ9
  have DZ15:=dt z9 X G ey 115 λF=>ET B F
  have DZ16:=dt z9 X G ez 115 λF=>EU B F DZ11
  have DZ17:=dt z9 X G e0 115 λF=>EV B F DZ12
  have DZ18:=dt z9 X G e1 145 λF=>EW B F DZ13 DZ14
  have DZ19:=dt z9 X G e2 123 λF=>EX B F DZ18
  have DZ20:=dt z9 X G e3 123 λF=>EY B F DZ12 DZ14
  have DZ21:=dt z9 X G e4 115 λF=>EZ B F DZ10 DZ15 DZ16 DZ17 DZ19 DZ20
  have DZ22:=dt z9 X G e5 115 λF=>E1 B F DZ21
  have DZ23:=dt z9 X G e6 223 λF=>E2 B F DZ11
  have DZ24:=dt z9 X G e7 115 λF=>E3 B F DZ1
  have DZ25:=dt z9 X G e8 223 λF=>E4 B F
  have DZ26:=dt z9 X G e9 115 λF=>E5 B F DZ9
  have DZ27:=dt z9 X G eA 123 λF=>E6 B F DZ2
  have DZ28:=dt z9 X G eD 145 λF=>E7 B F DZ26 DZ27
  have DZ29:=dt z9 X G eE 145 λF=>E9 B F DZ26 DZ27
  have DZ30:=dt z9 X G eF 115 λF=>Fa B F DZ9
  have DZ31:=dt z9 X G eG 145 λF=>Fb B F DZ27 DZ30
  have DZ32:=dt z9 X G eH 115 λF=>Fc B F DZ27
  have DZ33:=dt z9 X G eL 223 λF=>Fd B F
  have DZ34:=dt z9 X G eO 115 λF=>Fe B F
  have DZ35:=dt z9 X G eS 115 λF=>Ff B F DZ33 DZ34
  have DZ36:=dt z9 X G eT 115 λF=>Fg B F DZ35
  have DZ37:=dt z9 X G eU 115 λF=>Fh B F
  have DZ38:=dt z9 X G eW 115 λF=>Fi B F
  have DZ39:=dt z9 X G eZ 123 λF=>Fj B F DZ31
  have DZ40:=dt z9 X G fe 123 λF=>Fk B F DZ28
  have DZ41:=dt z9 X G ff 123 λF=>Fm B F DZ37 DZ38 DZ39 DZ40
  have DZ42:=dt z9 X G fl 115 λF=>Fn B F
  have DZ43:=dt z9 X G fp 123 λF=>Fo B F DZ24
  have DZ44:=dt z9 X G fs 123 λF=>Fp B F DZ43
  have DZ45:=dt z9 X G ft (λ_ _ _ _ _ _=>yY λ_ _ _ _ _=>rfl) λF=>Fq B F DZ29 DZ32 DZ33 DZ34 DZ42 DZ44
  have DZ46:=dt z9 X G fu 115 λF=>Fr B F
  have DZ47:=dt z9 X G fv 123 λF=>Fs B F DZ41 DZ46
  have DZ48:=dt z9 X G fw 123 λF=>Ft B F
  have DZ49:=dt z9 X G fx 123 λF=>Fu B F DZ48
  have DZ50:=dt z9 X G fy 123 λF=>Fv B F DZ47 DZ49
  have DZ51:=dt z9 X G fz 123 λF=>Fw B F DZ24 DZ32 DZ35 DZ45
  have DZ52:=dt z9 X G f0 123 λF=>Fy B F DZ24 DZ32 DZ36
  have DZ53:=dt z9 X G f1 145 λF=>Fz B F DZ51 DZ52
  have DZ54:=dt z9 X G f2 123 λF=>FA B F DZ25 DZ50 DZ53
  have DZ55:=dt z9 X G f3 115 λF=>FB B F
  have DZ56:=dt z9 X G f4 115 λF=>FC B F
  have DZ57:=dt z9 X G f5 115 λF=>FD B F
  have DZ58:=dt z9 X G f6 223 λF=>FE B F DZ56
  have DZ59:=dt z9 X G f7 145 λF=>FG B F DZ55
  have DZ60:=dt z9 X G f8 123 λF=>FH B F DZ57
  have DZ61:=dt z9 X G f9 123 λF=>FI B F
  have DZ62:=dt z9 X G fB (λ_ _ _ _ _ _=>yY λ_ _ _ _ _=>rfl) λF=>FJ B F DZ61
  have DZ63:=dt z9 X G fC 145 λF=>FK B F
  have DZ64:=dt z9 X G fG 145 λF=>FL B F DZ63
  have DZ65:=dt z9 X G fI 123 λF=>FM B F
  have DZ66:=dt z9 X G fK 115 λF=>FN B F DZ56 DZ57
  have DZ67:=dt z9 X G fL 145 λF=>FO B F DZ55 DZ58 DZ59 DZ60 DZ62 DZ64
  have DZ68:=dt z9 X G fR 115 λF=>FP B F
  have DZ69:=dt z9 X G ga 123 λF=>FQ B F
  have DZ70:=dt z9 X G gb 115 λF=>FR B F DZ69
  have DZ71:=dt z9 X G gc 123 λF=>FS B F
  have DZ72:=dt z9 X G gd 123 λF=>FT B F DZ71
  have DZ73:=dt z9 X G ge 115 λF=>FU B F
  have DZ74:=dt z9 X G gf 145 λF=>FV B F DZ71 DZ73
  have DZ75:=dt z9 X G gg 123 λF=>FW B F DZ56
  have DZ76:=dt z9 X G gh 123 λF=>FX B F DZ56
  have DZ77:=dt z9 X G gk 115 λF=>FY B F
  have DZ78:=dt z9 X G gl 115 λF=>FZ B F
  have DZ79:=dt z9 X G gm 145 λF=>F0 B F DZ71 DZ78
  have DZ80:=dt z9 X G go 123 λF=>F3 B F DZ71 DZ73 DZ79
  have DZ81:=dt z9 X G gp 115 λF=>F4 B F DZ80
  have DZ82:=dt z9 X G gq 123 λF=>F5 B F DZ81
  have DZ83:=dt z9 X G gr 115 λF=>F6 B F
  have DZ84:=dt z9 X G gs 145 λF=>F7 B F DZ70 DZ74 DZ75 DZ76 DZ77
  have DZ85:=dt z9 X G gt 115 λF=>F8 B F DZ72 DZ82 DZ83 DZ84
  have DZ86:=dt z9 X G gx 145 λF=>F9 B F
  exact Ga B Flaw DZ8 DZ22 DZ23 DZ54 DZ55 DZ65 DZ66 DZ67 DZ68 DZ85 DZ86
theorem walk {l:PySem.W.OpenLaw} {q:Program} {loose:Lb} {XP:KZ->Heap->Prop} {YP:World->Heap->Prop} {d:DefRec} {K:Params->IE} (hn:l.most=some 63) (hdf:d.params.defaults= [])
  (hY:∀(w:World) (h:Heap),YP w h->(K w.params).In h)
  (F:∀(w:World) (mg:KZ) (fa:Addr) (h:Heap),(K w.params).In h->h.Ns mainGlobals mg->mg d.name=some (.ref fa)->
   ∃fd:FuncData,(∀(s:Shared) (u:Value),BindsTo s fd ⟨[u],[]⟩ [("_law_script",u)])/\∀base:Heap,(K w.params).In base->base.Ns mainGlobals mg->bq l.prog w (K w.params) mg base bj 11 fa fd ["_law_script"] (vD (K w.params))):
  PySem.W.WalkO q loose XP YP l.row.toRowW d [] (λf vs=>PySem.call f vs):=
 L2.AG (n:=63) (k:=11) (x:= "_law_script") (CX:=λ_=>bj) (sp:=λw=>vD (K w.params)) hn 41 hdf ⟨rfl,by decide,by decide⟩ hY F (λ_ _ a ns hl _ hS=>(aJ a ns ⟨rfl,hS,hl,λ_=>rfl⟩)) λ_ _ _ _ _ z=>z
universe Lk76
end
open PySem PySem.W PyProof.Rows
set_option maxRecDepth 100000 in
set_option maxHeartbeats 0 in
theorem PySem.Challenge.cw_stovework_k76_whole_no_false_paper_holds : PySem.Challenge.rw_stovework_k76_whole_no_false_paper.Holds := by
 refine Lk76.hd ?_
 k_fill
 refine Lk76.walk (l:=PySem.Challenge.rw_stovework_k76_whole_no_false_paper) rfl rfl (λw h Y=>PySem.W.kIn_of Y) ?F
 case F=>
  intro w mg fa h KX G hmg
  refine' Lk76.DU KX G hmg ?a ?b ?c ?d ?e ?f ?g ?h ?i ?j ?k ?l ?m ?n ?o ?p ?q ?r ?s ?t ?u ?v ?w ?x ?y ?z ?A ?B ?C ?D ?E ?F ?G ?H ?I ?J ?K ?L ?M ?N ?O ?P ?Q ?R ?S ?T ?U ?V ?W ?X ?Y ?Z ?aa ?ab ?ac ?ad ?ae ?af ?ag ?ah ?ai ?aj ?ak ?al ?am ?an ?ao ?ap ?aq ?ar ?au ?av ?aw ?ax ?ay ?az ?aA ?aB ?aC ?aD ?aE ?aF ?aG ?aH ?aI ?aJ ?aK ?aL ?aM ?aN ?aO ?aP ?aQ ?aR ?aS ?aT ?aU ?aV ?aW ?aX ?aY ?aZ ?ba ?bb ?bc ?bd ?be ?bf ?bg ?bh ?bi ?bj ?bk ?bl ?bm ?bn ?bo ?bp ?bq ?br ?bs ?bt ?bu ?bv ?bw ?bx ?bz ?bA ?bB
  case a|b|c|d|e|f|g|h|i|j|k|l|m|n|o|p|q|r|s|t|u|v|w|x|y|z|A|B|C|D|E|F|G|H|I|J|K|L|M|N|O|P|Q|R|S|T|U|V|W|X|Y|Z|aa|ab|ac|ad|ae|af|ag|ah|ai|aj|ak|al|am|an|ao|ap|aq|ar|au|av|aw|ax|ay|az|aA|aB|aC|aD|aE|aF|aG|aH|aI|aJ=>exact ⟨by k_is,_,_,_,_,_,_,_,_,_,by k_is,by k_is,by k_is⟩
  case aK|aL|aM|aN|aO|aP|aQ|aR|aS|aT|aU|aV|aW|aX|aY|aZ|ba|bb|bc|bd|be|bf|bg|bh|bi|bj|bk|bl|bm|bn|bo|bp|bq=>k_is
  case br=>exact ⟨_,_,_,_,_,_,_,_,_,by k_is,by k_is,by k_is⟩
  case bs=>k_is
  case bt=>exact ⟨_,_,_,by k_is,rfl,rfl,by decide,.cons ⟨_,rfl⟩ (.cons ⟨_,rfl⟩ (.nil))⟩
  case bu|bv=>exact ⟨by k_is,by k_is,by k_is,by k_is⟩
  case bw|bx|bz|bA|bB=>(unfold L2.dq;k_is)
