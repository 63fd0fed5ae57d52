import PyProof.Rows.All
import Wide.All
import OpenK.AllK
import Wide.FinOn
import Lean
import PyProof.EqAt
import PyProof.EqKinds
import PyProof.TupleCall
import PyProof.NeKinds
import PyProof.StationsW
import PyProof.RulesAs
import PyProof.ExcArgsOwn
import PyProof.CompFree
import PyProof.ExcInit
import PyProof.ConsumeWalk
import PyProof.Rows.SeqGen
import PyProof.StrWalks
import PyProof.SliceStr2
import PyProof.MeetsStr
import KE.KIntText
import PyProof.Rows.FStr
import PyProof.StrCalls6
import PyProof.StrBlockL
import PyProof.ToksMono
import PyProof.WalkInts
import PyProof.Rows.MinMaxN
import PyProof.StrLawsReplace
import PyProof.StrLawsTight
import PyProof.Rows.StrLawsPart
import PyProof.DictWalks
import KE.KEqDict
import KE.KDictLaws
import KE.KRevIter
import PyProof.ListCopy
import PyProof.CollectIter
import PyProof.Rows.SetFrom
import PyProof.Rows.SortShellK
import PyProof.Rows.SortStr
import PyProof.Rows.SortWalk
import KE.KDictSum
import KE.KSortTup
import PyProof.TupleOfSeq
import PyProof.Rows.SortRuns
import PyProof.FactsAll.tuple_2
import PyProof.WalksEnum
import PyProof.EnumMake
import PyProof.EnumFor
import PyProof.ZipIter
import KE.KDictOf
import PyProof.DictItems
import PyProof.FactsAll.dict_itemiterator_1
import PyProof.MeetsSeq3
import PyProof.FactsAll.list_2
import PyProof.Rows.StrRules
import PyProof.Rows.StrMul
import KE.KDictList
import PySem.Challenge.RW_stovework_k28_names_and_room
open Array renaming toList_append → AB, length_toList → AJ, getElem?_eq_getElem → AN, getElem?_toList → AT, toList_extract → Ag, toList_push → BB, toList_reverse → BM, toList_inj → BQ, getElem?_eq_some_iff → Bg
open Bool renaming false_ne_true → AM, false_eq_true → B9, and_eq_true → BU, eq_iff_iff → Bt
open Int renaming fmod_nonneg_of_pos → AG, fmod_lt_of_pos → Aa, fmod_eq_emod_of_nonneg → Bj
open List renaming getElem?_eq_some_iff → A1, mem_singleton → A2, mem_cons → A3, getElem?_append_right → A4, pairwise_append → A6, length_map → A8, mem_append → A9, length_append → AA, getElem?_append_left → AC, mem_append_right → AD, length_take → AH, append_assoc → AI, getElem?_eq_getElem → AK, mem_of_getElem? → AL, not_mem_nil → AQ, take_append_drop → AR, nodup_cons → AS, size_toArray → AV, mem_iff_getElem? → AW, extract_eq_take_drop → AY, mem_map → AZ, mem_cons_of_mem → Ab, getElem?_map → Ac, length_cons → Ad, mem_append_left → Aj, take_of_length_le → Ak, map_cons → An, mem_filter → Ap, eq_nil_of_length_eq_zero → Ar, getElem?_take_of_lt → Av, length_reverse → Aw, mem_cons_self → B2, drop_eq_getElem_cons → B4, length_filter_le → B5, mem_reverse → B7, filter_cons → B8, nodup_append → BC, length_nil → BE, all_eq_true → BH, pairwise_cons → BI, getElem?_eq_none → BJ, map_append → BL, length_range → BN, take_succ → BR, mem_range → BS, lookup → BW, length → BX, map_map → BY, range → Bh, Perm → Bk, filterMap_cons → Bm, find?_cons → Br, append_nil → Bs
open List.Perm renaming append_left → Ai, append_right → Ay
open Nat renaming le_refl → A5, ne_of_lt → AE, lt_of_lt_of_le → AU, le_trans → Ae, zero_le → Al, lt_succ_of_lt → B3, add_sub_cancel_left → BF, lt_succ_iff_lt_or_eq → BP, min_eq_left → BZ, ne_of_gt → Bl
open Option renaming isSome_iff_exists → B0, bind_eq_some_iff → BA, map_eq_some_iff → BG, map_some → Bo
open Option.some renaming inj → Ao
open PyProof renaming noPylong_small → Af
open PyProof.Rows renaming callWith_type1 → B1
open PySem renaming mem_of_lookup → Au
open PySem.F renaming plain_list_iadd → Bp, plainAttrs_dict → Bq
open PySem.W renaming Frag → A0, nsIn → A7, mg_of → AF, findIn → AO, emptyDict → AX, kitOne → Ah, mg_none_of → Am, subIn → Aq, kia_one → As, keepIn → Ax, fnOf → Az, excIn → B6, instObj → BK, codeIn → BO, callWith_K → BV
open PySem.W.Fast renaming te14364793385576792824 → Ba, te14289696077712309145 → Bb, te11892475500146522536 → Bc, te10274390034422433532 → Be, te10156331382660048174 → Bf, te6613529449190102663 → Bi
namespace Ht
open PySem PySem.W PyProof.Rows
noncomputable def qU (ok : Thread -> Bool) (st : SharedT -> Thread -> Option (SharedT × Thread)) (n : Nat) : SharedT -> Thread -> Option SharedT :=
 Nat.rec (motive := fun _ => SharedT -> Thread -> Option SharedT) (fun _ _ => none) (fun _ ih s t =>
  Bool.rec (motive := fun _ => Option SharedT)
   (Bool.rec (motive := fun _ => Option SharedT) none (Option.rec (motive := fun _ => Option SharedT) none (fun r => Prod.rec (motive := fun _ => Option SharedT) (fun s' t' => ih s' t') r) (st s t)) (ok t))
   (some s) (through t)) n
theorem oq {tb : String -> Option Builtin} {p : Program} {w : World} {m : Nat} {ann : Option Value} : ∀ {n : Nat} {s s' : SharedT} {t : Thread},qU (stepOk m ann) (stepT (denote tb) p w) n s t = some s' -> topRun tb p w m ann n s.abs t = some s'.abs
 | 0,_,_,_,h => by cases h
 | n + 1,s,s',t,h => by
  unfold topRun
  have h' : Bool.rec (motive := fun _ => Option SharedT)
   (Bool.rec (motive := fun _ => Option SharedT) none (Option.rec (motive := fun _ => Option SharedT) none (fun r => Prod.rec (motive := fun _ => Option SharedT) (fun s' t' => qU (stepOk m ann) (stepT (denote tb) p w) n s' t') r) (stepT (denote tb) p w s t)) (stepOk m ann t))
   (some s) (through t) = some s' := h
  cases ht : through t with
  | true => rw [ht] at h'; cases h'; rfl
  | false =>
   rw [ht] at h'
   cases hk : stepOk m ann t with
   | false => rw [hk] at h'; cases h'
   | true =>
    rw [hk] at h'
    cases hs : stepT (denote tb) p w s t with
    | none => rw [hs] at h'; cases h'
    | some r =>
     obtain ⟨s₂,t₂⟩ := r
     rw [hs] at h'
     dsimp only
     rw [stepT_spec hs]
     exact oq h'
noncomputable def grow (l : List Obj) : Nat -> BT -> Option BT :=
 List.rec (motive := fun _ => Nat -> BT -> Option BT) (fun _ t => some t) (fun o _ ih n t =>
  Bool.rec (motive := fun _ => Option BT) none (ih (n + 1) (t.ins n o)) ((t.ins n o).get n).isSome) l
theorem ot {life : Life} : ∀ {l : List Obj} {n : Nat} {t t' : BT},grow l n t = some t' -> absHeap t' (n + l.length) life = ⟨(absHeap t n life).objs ++ l.toArray,life⟩
 | [],n,t,t',h => by
  cases h
  simp [absHeap]
 | o :: l,n,t,t',h => by
  have h' : Bool.rec (motive := fun _ => Option BT) none (grow l (n + 1) (t.ins n o)) ((t.ins n o).get n).isSome = some t' := h
  cases e : ((t.ins n o).get n).isSome with
  | false => rw [e] at h'; cases h'
  | true =>
   rw [e] at h'
   have z := ot (life := life) h'
   rw [absHeap_ins e] at z
   rw [show n + (o :: l).length = n + 1 + l.length by rw [Ad]; omega,z]
   simp [Heap.push]
noncomputable def treeOf (s : Shared) : Option SharedT :=
 Option.rec (motive := fun _ => Option SharedT) none (fun t => some ⟨t,s.heap.objs.size,s.heap.life,s.gens,s.drawn,s.toks,s.os⟩) (grow s.heap.objs.toList 0 .nil)
theorem mQ {s : Shared} {s' : SharedT} (h : treeOf s = some s') : s'.abs = s := by
 have h' : Option.rec (motive := fun _ => Option SharedT) none (fun t => some ⟨t,s.heap.objs.size,s.heap.life,s.gens,s.drawn,s.toks,s.os⟩) (grow s.heap.objs.toList 0 .nil) = some s' := h
 cases e : grow s.heap.objs.toList 0 .nil with
 | none => rw [e] at h'; cases h'
 | some t =>
  rw [e] at h'
  cases h'
  have z := ot (life := s.heap.life) e
  obtain ⟨⟨objs,life⟩,gens,drawn,toks,os⟩ := s
  simp only [SharedT.abs]
  have z' : absHeap t objs.size life = ⟨objs,life⟩ := by
   simpa [absHeap,BT.list] using z
  rw [z']
noncomputable def qV (ok : Nat -> Option Value -> Thread -> Bool) (st : SharedT -> Thread -> Option (SharedT × Thread)) (p : Program) (N : Nat) (s₀ : Shared) : Option Shared :=
 Bool.rec (motive := fun _ => Option Shared) none
  ((treeOf s₀).bind fun t₀ => (qU (ok s₀.heap.objs.size (s₀.heap.nsMap mainGlobals "__annotations__")) st N t₀ (topStub p)).bind fun t₁ =>
   (fun s₁ => Bool.rec (motive := fun _ => Option Shared) none (some s₁) (staticsOk (importedModules p.main.body) s₀.heap s₁.heap && namesBound p s₁.heap && gensDone s₁ && laidKept s₀.heap s₁.heap)) t₁.abs)
  (s₀.heap.isNs mainGlobals && s₀.gens.size == 0)
theorem qW {tb : String -> Option Builtin} {p : Program} {w : World} {N : Nat} {s₀ s : Shared} (h : qV stepOk (stepT (denote tb) p w) p N s₀ = some s) : topFrom tb p w N s₀ = some s := by
 unfold qV at h
 unfold topFrom
 cases e : s₀.heap.isNs mainGlobals && s₀.gens.size == 0 with
 | false => rw [e] at h; cases h
 | true =>
  rw [e] at h
  obtain ⟨t₀,e0,h⟩ := BA.mp h
  obtain ⟨t₁,e1,h⟩ := BA.mp h
  have r := oq e1
  rw [mQ e0] at r
  dsimp only
  rw [r]
  dsimp only at h
  show (match staticsOk (importedModules p.main.body) s₀.heap t₁.abs.heap && namesBound p t₁.abs.heap && gensDone t₁.abs && laidKept s₀.heap t₁.abs.heap with | true => some t₁.abs | false => none) = some s
  cases q : staticsOk (importedModules p.main.body) s₀.heap t₁.abs.heap && namesBound p t₁.abs.heap && gensDone t₁.abs && laidKept s₀.heap t₁.abs.heap with
  | false => rw [q] at h; cases h
  | true => rw [q] at h; exact h
noncomputable def pD (ok : Nat -> Option Value -> Thread -> Bool) (st : SharedT -> Thread -> Option (SharedT × Thread)) (p : Program) (N : Nat) (s₀ : Shared) : Option Shared :=
 (treeOf s₀).bind fun t₀ => (qU (ok s₀.heap.objs.size (s₀.heap.nsMap mainGlobals "__annotations__")) st N t₀ (topStub p)).map fun t₁ => t₁.abs
def sV (p : Program) (s₀ s₁ : Shared) : Bool := (s₀.heap.isNs mainGlobals && s₀.gens.size == 0) && (staticsOk (importedModules p.main.body) s₀.heap s₁.heap && namesBound p s₁.heap && gensDone s₁ && laidKept s₀.heap s₁.heap)
theorem qX {tb : String -> Option Builtin} {p : Program} {w : World} {N : Nat} {s₀ s : Shared} (h : pD stepOk (stepT (denote tb) p w) p N s₀ = some s) (c : sV p s₀ s = true) : topFrom tb p w N s₀ = some s := by
 apply qW
 unfold pD at h
 obtain ⟨t₀,e0,h⟩ := BA.mp h
 obtain ⟨t₁,e1,rfl⟩ := BG.mp h
 unfold sV at c
 rw [BU] at c
 unfold qV
 rw [c.1]
 show ((treeOf s₀).bind fun t₀ => _) = _
 rw [e0]
 show ((qU _ _ N t₀ (topStub p)).bind fun t₁ => _) = _
 rw [e1]
 show (Bool.rec (motive := fun _ => Option Shared) none (some t₁.abs) (staticsOk (importedModules p.main.body) s₀.heap t₁.abs.heap && namesBound p t₁.abs.heap && gensDone t₁.abs && laidKept s₀.heap t₁.abs.heap) : Option Shared) = _
 rw [c.2]
abbrev Look (p : Program) (N : Nat) {α : Type} (f : Shared -> Shared -> α) (v : World -> α) : Prop := ∀ w : World,((importEnds treeTable (opening p) w N (start (opening p)).1 (start (opening p)).2).bind fun s => (fenceModules? p s).bind fun s₀ => (pD stepOk (stepT (denote treeTable) p w) p N s₀).map fun s₁ => f s₀ s₁) = some (v w)
theorem Look.at_ {p : Program} {N : Nat} {α : Type} {f : Shared -> Shared -> α} {v : World -> α} (h : Look p N f v) (w : World) {s s₀ s₁ : Shared} (a : importEnds treeTable (opening p) w N (start (opening p)).1 (start (opening p)).2 = some s) (b : fenceModules? p s = some s₀) (c : pD stepOk (stepT (denote treeTable) p w) p N s₀ = some s₁) : f s₀ s₁ = v w := by
 have := h w
 rw [a] at this
 replace this : ((fenceModules? p s).bind fun s₀ => (pD stepOk (stepT (denote treeTable) p w) p N s₀).map fun s₁ => f s₀ s₁) = some (v w) := this
 rw [b] at this
 replace this : ((pD stepOk (stepT (denote treeTable) p w) p N s₀).map fun s₁ => f s₀ s₁) = some (v w) := this
 rw [c] at this
 injection this
theorem qY {p q : Program} {loose : List Str} {Xt : Shared -> Bool} {α : Type} {Yf : Shared -> α} {Ya : World -> α} {N : Nat} {g0 : Bool} (hc : Look p N (fun s₀ s₁ => sV p s₀ s₁) fun _ => true)
  (h1 : Look p N (fun _ s => openSeen q loose (importedModules p.main.body) Xt g0 s) fun _ => openGood q loose) (h2 : Look p N (fun _ s => Yf s) Ya) : LeftO p q loose Xt Yf Ya N g0 := fun w => by
 obtain ⟨s,a,e⟩ := BA.mp (hc w)
 obtain ⟨s₀,b,e⟩ := BA.mp e
 obtain ⟨s₁,c,e⟩ := BG.mp e
 have z : openEnds treeTable p w N = some s₁ := by
  unfold openEnds fencedOpening
  rw [a]
  show (fenceModules? p s).bind _ = _
  rw [b]
  exact qX c e
 rw [z]
 show some (_,_) = some (_,_)
 rw [h1.at_ w a b c,h2.at_ w a b c]
end Ht
set_option Elab.async false
set_option linter.all false
set_option maxRecDepth 100000
namespace Lk28
open PySem PySem.W PyProof.Rows
def qv : Program := { PySem.Challenge.pw_stovework_k28_names_and_room with main := { PySem.Challenge.pw_stovework_k28_names_and_room.main with body := ([0,2,3,4,6,7,8,9,10,11,12,13,14,15,16,17,18,19,20,21,22,24,25,26,27,29,30,33,35,36,37,39,40,41,42,43,44,45,46,47] : List Nat).filterMap fun i => PySem.Challenge.pw_stovework_k28_names_and_room.main.body[i]? } }
def lo : List Str := ["fraction"]
theorem head {α : Type} {Yf : Shared -> α} {Ya : World -> α} {YP : World -> Heap -> Prop} {d : DefRec} {kwd : List (Str × Expr)} (left : LeftO PySem.Challenge.pw_stovework_k28_names_and_room qv lo (fun s => xlAt qv [] s && recOk [] s) Yf Ya 10224)
  (hY : ∀ w s,Yf s = Ya w -> YP w s.heap) (hYk : ∀ w h h',YP w h -> (∀ b o,h.get? b = some o -> h'.get? b = some o) -> YP w h') (hd : defOf qv PySem.Challenge.rw_stovework_k28_names_and_room.row.name = some (d,kwd))
  (hp : PySem.Challenge.rw_stovework_k28_names_and_room.row.prog.theDef PySem.Challenge.rw_stovework_k28_names_and_room.row.name = some (d.params,d.body,d.scope)) (hk : kwWritten? d.params.kwonlyargs d.params.kw_defaults = some kwd)
  (said : PySem.Challenge.rw_stovework_k28_names_and_room.row.wellSaid = true) (hw : PySem.Challenge.rw_stovework_k28_names_and_room.row.toRowW.promised) (call : WalkO qv lo (XL qv []) YP PySem.Challenge.rw_stovework_k28_names_and_room.row.toRowW d kwd fun f vs => PySem.call f vs) : PySem.Challenge.rw_stovework_k28_names_and_room.row.Holds :=
 holds_open left hY hYk (fun s e => xl_of s (Bool.and_eq_true_iff.mp e).1) XL.keeps hd hp hk (fun s e => recFacts_of (Bool.and_eq_true_iff.mp e).2) rfl said (by decide +kernel) ⟨rfl,rfl,rfl,rfl,rfl,by decide +kernel⟩ hw call
set_option maxHeartbeats 0 in
theorem la : Ht.Look PySem.Challenge.pw_stovework_k28_names_and_room 10224 (fun s₀ s₁ => Ht.sV PySem.Challenge.pw_stovework_k28_names_and_room s₀ s₁) (fun _ => true) := by
 intro w
 rw [Be,Bb,Bi,Bf,Bc,Ba]
 kernel_rfl
set_option maxHeartbeats 0 in
theorem lb : Ht.Look PySem.Challenge.pw_stovework_k28_names_and_room 10224 (fun _ s => openSeen qv lo (importedModules PySem.Challenge.pw_stovework_k28_names_and_room.main.body) (fun s => xlAt qv [] s && recOk [] s) true s) (fun _ => openGood qv lo) := by
 intro w
 rw [Be,Bb,Bi,Bf,Bc,Ba,PySem.W.Fast.te4187177175401517315]
 kernel_rfl
end Lk28
local macro_rules | `(tactic| o_head $H) => `(tactic| (refine Lk28.head (Yf := PySem.W.Hook.obs $H) (Ya := PySem.W.Hook.val $H) (YP := PySem.W.Hook.says $H) ?hl (PySem.W.Hook.of $H) (PySem.W.Hook.keeps $H) (by rfl) (by rfl) (by rfl) (by assumption) ?hw ?hc; (case hl => (refine Ht.qY Lk28.la Lk28.lb ?c; (case c => (intro w; rw [Be,Bb,Bi,Bf,Bc,Ba]; kernel_rfl))))))
namespace PySem.W.Fast
def dw : PySem.Program := PySem.Challenge.pw_stovework_k28_names_and_room
theorem jG : PySem.Challenge.pw_stovework_k28_names_and_room = dw := rfl
end PySem.W.Fast
set_option maxHeartbeats 0 in
open_top Lk28.hd for PySem.Challenge.rw_stovework_k28_names_and_room
namespace L2
open PySem PySem.Spec PyProof.Rows
abbrev Key := Sum Int Str
def jd : Key -> Value -> Bool
 | .inl k,v => Value.isInt k v
 | .inr x,v => Value.isStrOf x v
def yI (w : World) : Key -> Int
 | .inl k => hashInt k
 | .inr x => hashStr w x
theorem bz : ∀ {k : Key} {v : Value},jd k v = true -> (∃ i t,k = Sum.inl i /\ v = Value.int i t) ∨ (∃ x t,k = Sum.inr x /\ v = Value.str x t)
 | .inl i,v,h => by
  obtain ⟨t,e⟩ := Value.isInt_shape (k := i) (v := v) h
  exact .inl ⟨i,t,rfl,e⟩
 | .inr x,v,h => by
  obtain ⟨t,e⟩ := Value.isStrOf_shape (x := x) (v := v) h
  exact .inr ⟨x,t,rfl,e⟩
theorem pE (i : Int) (t : Tok) : jd (.inl i) (.int i t) = true := by simp [jd,Value.isInt]
theorem pG (x : Str) (t : Tok) : jd (.inr x) (.str x t) = true := by simp [jd,Value.isStrOf]
theorem vg (a b : Int) : decide ((Sum.inl a : Key) = Sum.inl b) = (a == b) := by
 by_cases e : a = b
 ·subst e; simp
 ·have h : ¬ (Sum.inl a : Key) = Sum.inl b := fun q => e (Sum.inl.inj q)
  rw [decide_eq_false h]
  exact (beq_eq_false_iff_ne.mpr e).symm
theorem vh (a b : Str) : decide ((Sum.inr a : Key) = Sum.inr b) = decide (a = b) := by
 by_cases e : a = b
 ·subst e; simp
 ·have h : ¬ (Sum.inr a : Key) = Sum.inr b := fun q => e (Sum.inr.inj q)
  rw [decide_eq_false h,decide_eq_false e]
theorem vk (a : Int) (b : Str) : decide ((Sum.inl a : Key) = Sum.inr b) = false := decide_eq_false (fun q => nomatch q)
theorem vm (a : Str) (b : Int) : decide ((Sum.inr a : Key) = Sum.inl b) = false := decide_eq_false (fun q => nomatch q)
def aA (prog : Program) (w : World) : PySem.KeyKind prog w Key where
 is := jd
 hash := yI w
 inj := fun v a b ha hb => by
  rcases bz ha with ⟨i,t,rfl,rfl⟩ | ⟨x,t,rfl,rfl⟩
  ·rcases bz hb with ⟨j,u,rfl,e⟩ | ⟨y,u,rfl,e⟩
   ·injection e with e1 _; rw [e1]
   ·exact nomatch e
  ·rcases bz hb with ⟨j,u,rfl,e⟩ | ⟨y,u,rfl,e⟩
   ·exact nomatch e
   ·injection e with e1 _; rw [e1]
 byValue := fun k v h => by
  rcases bz h with ⟨i,t,rfl,rfl⟩ | ⟨x,t,rfl,rfl⟩ <;> rfl
 pyHash := fun hv h => by
  rcases bz hv with ⟨i,t,rfl,rfl⟩ | ⟨x,t,rfl,rfl⟩
  ·exact wpAny_pyHash_int h
  ·exact wpAny_pyHash_str h
 eqBool := fun hu hv h => by
  rcases bz hu with ⟨i,t,rfl,rfl⟩ | ⟨x,t,rfl,rfl⟩
  ·rcases bz hv with ⟨j,u,rfl,rfl⟩ | ⟨y,u,rfl,rfl⟩
   ·rw [vg] at h; exact wpAny_eqBool_int h
   ·rw [vk] at h; exact SeqAt.EqAt.int_str i t y u _ _ _ _ h
  ·rcases bz hv with ⟨j,u,rfl,rfl⟩ | ⟨y,u,rfl,rfl⟩
   ·rw [vm] at h; exact SeqAt.EqAt.str_int x t j u _ _ _ _ h
   ·rw [vh] at h; exact wpAny_eqBool_str h
 «strs» := fun k x t v h => by
  rcases bz h with ⟨i,u,rfl,e⟩ | ⟨y,u,rfl,e⟩
  ·exact nomatch e
  ·injection e with e1 _
   subst e1
   cases v <;> rfl
theorem kT (prog : Program) (w : World) (i : Int) (t : Tok) : (aA prog w).is (.inl i) (.int i t) = true := pE i t
theorem kU (prog : Program) (w : World) (x : Str) (t : Tok) : (aA prog w).is (.inr x) (.str x t) = true := pG x t
inductive V where
 | non | bl (b : Bool) | int (i : Int) | str (x : Str) | byt (b : Array UInt8) | flt (b : UInt64) | ref (a : Addr) | ty (n : String)
 deriving DecidableEq
def RelV : V -> Value -> Prop
 | .non,u => u = Value.none
 | .bl b,u => u = Value.bool b
 | .int i,u => ∃ t,u = Value.int i t
 | .str x,u => ∃ t,u = Value.str x t
 | .byt b,u => ∃ t,u = Value.bytes b t
 | .flt b,u => ∃ t,u = Value.float b t
 | .ref a,u => u = Value.ref a
 | .ty n,u => u = Value.type n
abbrev aM : List V -> List Value -> Prop := Paired RelV
theorem aM.length {xs : List V} {us : List Value} (r : aM xs us) : xs.length = us.length := Paired.length r
theorem aM.get : ∀ {xs : List V} {us : List Value} {i : Nat} {x : V},aM xs us -> xs[i]? = some x -> ∃ u,us[i]? = some u /\ RelV x u
 | _,_,_,_,.nil,e => by simp at e
 | _,_,0,_,.cons r _,e => by simp at e; subst e; exact ⟨_,rfl,r⟩
 | _,_,i + 1,x,.cons _ t,e => by
  obtain ⟨u,h1,h2⟩ := aM.get (i := i) (x := x) t (by simpa using e)
  exact ⟨u,by simpa using h1,h2⟩
theorem aM.append : ∀ {xs ys : List V} {us ws : List Value},aM xs us -> aM ys ws -> aM (xs ++ ys) (us ++ ws)
 | _,_,_,_,.nil,s => s
 | _,_,_,_,.cons r t,s => .cons r (aM.append t s)
theorem aM.take : ∀ {xs : List V} {us : List Value} (n : Nat),aM xs us -> aM (xs.take n) (us.take n)
 | _,_,0,_ => .nil
 | _,_,_ + 1,.nil => .nil
 | _,_,n + 1,.cons r t => .cons r (aM.take n t)
theorem aM.drop : ∀ {xs : List V} {us : List Value} (n : Nat),aM xs us -> aM (xs.drop n) (us.drop n)
 | _,_,0,r => r
 | _,_,_ + 1,.nil => .nil
 | _,_,n + 1,.cons _ t => aM.drop n t
def cV : Option V -> Option Value -> Prop
 | some v,some u => RelV v u
 | none,none => True
 | _,_ => False
def KV {κ : Type} : List (κ × V) -> List (κ × Value) -> Prop := Paired fun (p : κ × V) (q : κ × Value) => p.1 = q.1 /\ RelV p.2 q.2
def kV : Key -> V
 | .inl i => .int i
 | .inr x => .str x
inductive HO where
  | lst (xs : List V)
  | tup (xs : List V)
  | dK (kvs : List (Key × V)) | dT (kvs : List (List Key × V))
  | set (S : Int -> Bool) (n : Nat)
  | ins (C dx : Addr) (fs : List (Str × V))
  | own (x : Addr)
  | xd (fs : List (Str × V))
  | met (f x : Addr)
  | rng (lo hi : Int)
  | frz (o : Obj) (u : HO)
  | tbl (ps : Array Value)
  | ext (φ : Heap -> Prop)
abbrev Hp := Addr -> Option HO
def ar (H : Hp) (a : Addr) (o : HO) : Hp := fun b => if b = a then some o else H b
theorem ae {H : Hp} {a : Addr} {o : HO} : ar H a o a = some o := by unfold ar; rw [if_pos rfl]
theorem af {H : Hp} {a b : Addr} {o : HO} (h : b ≠ a) : ar H a o b = H b := by unfold ar; rw [if_neg h]
theorem ou {H : Hp} {a : Addr} {o u : HO} : ar (ar H a o) a u = ar H a u := by
 funext b; unfold ar; split <;> rfl
theorem gq {H : Hp} {a b : Addr} {o u : HO} (h : H a = some o) (h' : H b = some u) (d : o ≠ u) : a ≠ b := by
 intro e; subst e; rw [h] at h'; exact d (Ao h')
theorem aR {H : Hp} {a b : Addr} {o : HO} (h : H a = some o) (h' : H b = none) : a ≠ b := by
 intro e; subst e; rw [h] at h'; cases h'
section
variable (P : Program) (w : World)
def aX (H : Hp) (h : Heap) (a : Addr) : HO -> Prop
 | .lst xs => xs.length <= sizeLine /\ ∃ (its : List Value) (n : Nat),aM xs its /\ h.get? a = some { cls := .type "list",data := .seq its.toArray n }
 | .tup xs => xs.length <= sizeLine /\ ∃ its : List Value,aM xs its /\ IsTup h a its.toArray
 | .dK kvs => kvs.length <= sizeLine /\ (a == sysModules) = false /\ ∃ vs,KV kvs vs /\ h.DictOf (aA P w) a vs
 | .dT kvs => kvs.length <= sizeLine /\ (a == sysModules) = false /\ ∃ xs : List (List Key × Addr × Value),
   Paired (fun (p : List Key × V) (q : List Key × Addr × Value) => p.1 = q.1 /\ H q.2.1 = some (.tup (p.1.map kV)) /\ RelV p.2 q.2.2) kvs xs /\
   ∃ o es ep,h.get? a = some o /\ o.ExactDict /\ o.data = .dict es ep /\ es.toList = xs.map (entryOfKey (tupleKind (aA P w))) /\ (xs.map (·.1)).Nodup
 | .set S n => h.SetOf (intKind P w) a S n
 | .ins C dx fs => H dx = some (.own a) /\ fs.length <= 1000 /\ dx ≠ a /\ h.get? a = some (BK C dx) /\
   ∃ mA,h.Ns1 dx mA /\ (∀ f,cV (fs.lookup f) (mA f)) /\ PySem.Within mA (fs.map (·.1))
 | .own _ => ∃ o,h.get? a = some o
 | .xd fs => ∃ mA,h.Ns1 a mA /\ ∀ f,cV (fs.lookup f) (mA f)
 | .rng lo hi => ∃ t u v,h.get? a = some { cls := .type "range",data := .fields #[.int lo t,.int hi u,.int 1 v] }
 | .frz o u => h.get? a = some o /\ aX H h a u
 | .tbl ps => h.get? a = some { cls := .none,data := .fields ps }
 | .met f x => h.get? a = some (PySem.W.methodObj (.ref f) (.ref x))
 | .ext φ => φ h /\ (∃ o,h.get? a = some o) /\ ∀ h1 h2 : Heap,φ h1 -> (∀ o,h1.get? a = some o -> h2.get? a = some o) -> φ h2
def c9 (H : Hp) (h : Heap) : Prop := ∀ a o,H a = some o -> aX P w H h a o
end
section
variable {P : Program} {w : World} {H H' : Hp} {h h' : Heap} {a : Addr} {o : HO}
theorem aX.lt (x : aX P w H h a o) : a < h.objs.size := by
 cases o with
 | lst xs => obtain ⟨_,_,_,_,e⟩ := x; exact Heap.lt_size e
 | tup xs => obtain ⟨_,_,_,p⟩ := x; exact p.lt
 | dK kvs => obtain ⟨_,_,_,_,o,_,_,e,_⟩ := x; exact Heap.lt_size e
 | dT kvs => obtain ⟨_,_,_,_,o,_,_,e,_⟩ := x; exact Heap.lt_size e
 | set S n => obtain ⟨o,_,_,_,e,_⟩ := x; exact Heap.lt_size e
 | ins C dx fs => obtain ⟨_,_,_,e,_⟩ := x; exact Heap.lt_size e
 | own y => obtain ⟨_,e⟩ := x; exact Heap.lt_size e
 | xd fs => obtain ⟨_,⟨_,_,_,e,_⟩,_⟩ := x; exact Heap.lt_size e
 | rng lo hi => obtain ⟨_,_,_,e⟩ := x; exact Heap.lt_size e
 | frz ob u => obtain ⟨e,_⟩ := x; exact Heap.lt_size e
 | tbl ps => exact Heap.lt_size (show h.get? a = some _ from x)
 | met f y => exact Heap.lt_size (show h.get? a = some _ from x)
 | ext φ => obtain ⟨_,⟨_,e⟩,_⟩ := x; exact Heap.lt_size e
theorem Paired.mapP {α β : Type} {F G : α -> β -> Prop} : ∀ {l₁ : List α} {l₂ : List β},Paired F l₁ l₂ -> (∀ a b,F a b -> G a b) -> Paired G l₁ l₂
 | _,_,.nil,_ => .nil
 | _,_,.cons r t,f => .cons (f _ _ r) (Paired.mapP t f)
theorem aX.stay (x : aX P w H h a o) (k : ∀ b u,(b = a ∨ H b = some (.own a)) -> h.get? b = some u -> h'.get? b = some u)
  (ho : ∀ b,H b = some (.own a) -> H' b = some (.own a)) (ht : ∀ b xs,H b = some (.tup xs) -> H' b = some (.tup xs)) : aX P w H' h' a o := by
 induction o with
 | lst xs => obtain ⟨z,its,n,r,e⟩ := x; exact ⟨z,its,n,r,k _ _ (.inl rfl) e⟩
 | tup xs => obtain ⟨z,its,r,ob,e,c⟩ := x; exact ⟨z,its,r,ob,k _ _ (.inl rfl) e,c⟩
 | dK kvs => obtain ⟨z,y,vs,r,ob,es,ep,e,c⟩ := x; exact ⟨z,y,vs,r,ob,es,ep,k _ _ (.inl rfl) e,c⟩
 | dT kvs =>
  obtain ⟨z,y,xs,r,ob,es,ep,e,c⟩ := x
  exact ⟨z,y,xs,Paired.mapP r fun p q z => ⟨z.1,ht _ _ z.2.1,z.2.2⟩,ob,es,ep,k _ _ (.inl rfl) e,c⟩
 | set S n => obtain ⟨ob,es,ep,t,e,c⟩ := x; exact ⟨ob,es,ep,t,k _ _ (.inl rfl) e,c⟩
 | ins C dx fs =>
  obtain ⟨d,z,ne,e,mA,⟨od,es,ep,e2,c⟩,r⟩ := x
  exact ⟨ho _ d,z,ne,k _ _ (.inl rfl) e,mA,⟨od,es,ep,k _ _ (.inr d) e2,c⟩,r⟩
 | own y => obtain ⟨ob,e⟩ := x; exact ⟨ob,k _ _ (.inl rfl) e⟩
 | xd fs => obtain ⟨mA,⟨od,es,ep,e,c⟩,r⟩ := x; exact ⟨mA,⟨od,es,ep,k _ _ (.inl rfl) e,c⟩,r⟩
 | rng lo hi => obtain ⟨t,u,v,e⟩ := x; exact ⟨t,u,v,k _ _ (.inl rfl) e⟩
 | frz ob u ih => obtain ⟨e,q⟩ := x; exact ⟨k _ _ (.inl rfl) e,ih q⟩
 | tbl ps =>
  have e : h.get? a = some { cls := .none,data := .fields ps } := x
  show h'.get? a = some { cls := .none,data := .fields ps }
  exact k a _ (.inl rfl) e
 | met f y =>
  have e : h.get? a = some (PySem.W.methodObj (.ref f) (.ref y)) := x
  show h'.get? a = some (PySem.W.methodObj (.ref f) (.ref y))
  exact k a _ (.inl rfl) e
 | ext φ => obtain ⟨p,⟨o,e⟩,st⟩ := x; exact ⟨st _ _ p fun o q => k _ _ (.inl rfl) q,⟨o,k _ _ (.inl rfl) e⟩,st⟩
theorem c9.lt (x : c9 P w H h) (e : H a = some o) : a < h.objs.size := (x a o e).lt
theorem c9.fresh (x : c9 P w H h) (e : h.objs.size <= a) : H a = none := by
 cases q : H a with
 | none => rfl
 | some u => exact absurd (AU (x.lt q) e) (Nat.lt_irrefl _)
theorem c9.kept (x : c9 P w H h) (k : ∀ b u,h.get? b = some u -> h'.get? b = some u) : c9 P w H h' := fun a o e =>
 (x a o e).stay (fun b u _ q => k b u q) (fun _ q => q) fun _ _ q => q
theorem c9.laid (x : c9 P w H h) (k : ∀ b u,h.get? b = some u -> h'.get? b = some u) (hp : h.objs.size <= a) (new : aX P w (ar H a o) h' a o) : c9 P w (ar H a o) h' := fun b u e => by
 have hn := x.fresh hp
 by_cases hb : b = a
 ·subst hb; rw [ae] at e; cases e; exact new
 ·rw [af hb] at e
  exact (x b u e).stay (fun c v _ q => k c v q) (fun c q => by rw [af (aR q hn)]; exact q) fun c xs q => by rw [af (aR q hn)]; exact q
end
def Rd (H : Hp) (a : Addr) (u : HO) : Prop := H a = some u ∨ ∃ o,H a = some (.frz o u)
theorem Rd.ok {P : Program} {w : World} {H : Hp} {h : Heap} {a : Addr} {u : HO} (r : Rd H a u) (x : c9 P w H h) : aX P w H h a u := by
 rcases r with r | ⟨o,r⟩
 ·exact x a u r
 ·obtain ⟨_,q⟩ := x a _ r
  exact q
def wv : Option HO -> Prop
 | some (.lst _) => True
 | some (.dK _) => True
 | some (.dT _) => True
 | some (.set _ _) => True
 | some (.ins _ _ _) => True
 | some (.ext _) => True
 | _ => False
section
variable {P : Program} {w : World} {H : Hp} {h h' : Heap} {x e : Addr} {o' : HO}
theorem c9.write (ok : c9 P w H h) (mu : wv (H x)) (he : e = x ∨ H e = some (.own x)) (k : ∀ b u,b ≠ e -> h.get? b = some u -> h'.get? b = some u) (heo : ∃ u,h'.get? e = some u)
  (new : aX P w (ar H x o') h' x o') : c9 P w (ar H x o') h' := fun b u q => by
 have nown : ∀ c y,H c = some (.own y) -> c ≠ x := fun c y r z => by subst z; rw [r] at mu; exact mu
 have ntup : ∀ c xs,H c = some (.tup xs) -> c ≠ x := fun c xs r z => by subst z; rw [r] at mu; exact mu
 by_cases hb : b = x
 ·subst hb; rw [ae] at q; cases q; exact new
 ·rw [af hb] at q
  by_cases hbe : b = e
  ·have q' : H b = some (.own x) := by
    rcases he with z | z
    ·exact absurd (hbe.trans z) hb
    ·rw [hbe]; exact z
   rw [q] at q'; cases q'
   obtain ⟨v,hv⟩ := heo
   exact ⟨v,by rw [hbe]; exact hv⟩
  ·refine (ok b u q).stay (fun c v hc r => k c v ?_ r) (fun c r => by rw [af (nown c b r)]; exact r) fun c xs r => by rw [af (ntup c xs r)]; exact r
   rcases hc with rfl | hc
   ·exact hbe
   ·rintro rfl
    rcases he with z | z
    ·exact nown c b hc z
    ·rw [hc] at z; cases z; exact hb rfl
end
structure Un (fs ex : List Addr) (H H' : Hp) (h h' : Heap) : Prop where
 keep : ∀ b o,h.get? b = some o -> H b = none -> b ∉ fs -> b ∉ ex -> h'.get? b = some o
 slot : ∀ b o,h.get? b = some o -> H b = none -> b ∈ fs -> b ∉ ex -> ∃ sl,h'.get? b = some { o with slots := sl }
 free : ∀ b o,h.get? b = some o -> H b = none -> b ∉ ex -> H' b = none
 there : ∀ b o,h.get? b = some o -> b ∉ ex -> ∃ o',h'.get? b = some o'
 tups : ∀ b xs,H b = some (.tup xs) -> H' b = some (.tup xs)
 frzs : ∀ b o u,H b = some (.frz o u) -> H' b = some (.frz o u)
 tbls : ∀ b ps,H b = some (.tbl ps) -> ∃ more,H' b = some (.tbl (ps ++ more))
section
variable {fs fs' ex ex' : List Addr} {H H1 H2 : Hp} {h h1 h2 h' : Heap} {a x e : Addr} {o : HO}
theorem Un.any (u : Un fs ex H H1 h h1) {b : Addr} {ob : Obj} (q : h.get? b = some ob) (n : H b = none) (hx : b ∉ ex) : ∃ sl,h1.get? b = some { ob with slots := sl } := by
 by_cases hb : b ∈ fs
 ·exact u.slot b ob q n hb hx
 ·exact ⟨ob.slots,u.keep b ob q n hb hx⟩
theorem Un.trans (a : Un fs ex H H1 h h1) (b : Un fs ex H1 H2 h1 h2) : Un fs ex H H2 h h2 where
 keep := fun c ob q n hc hx => b.keep c ob (a.keep c ob q n hc hx) (a.free c ob q n hx) hc hx
 slot := fun c ob q n hc hx => by
  obtain ⟨sl,e1⟩ := a.slot c ob q n hc hx
  obtain ⟨sl',e2⟩ := b.slot c _ e1 (a.free c ob q n hx) hc hx
  exact ⟨sl',e2⟩
 free := fun c ob q n hx => by
  obtain ⟨o',e1⟩ := a.there c ob q hx
  exact b.free c o' e1 (a.free c ob q n hx) hx
 there := fun c ob q hx => by
  obtain ⟨o',e1⟩ := a.there c ob q hx
  exact b.there c o' e1 hx
 tups := fun c xs q => b.tups c xs (a.tups c xs q)
 frzs := fun c ob xs q => b.frzs c ob xs (a.frzs c ob xs q)
 tbls := fun c ps q => by
  obtain ⟨m1,e1⟩ := a.tbls c ps q
  obtain ⟨m2,e2⟩ := b.tbls c _ e1
  exact ⟨m1 ++ m2,by rw [e2,Array.append_assoc]⟩
theorem Un.kept (k : ∀ b u,h.get? b = some u -> h'.get? b = some u) : Un fs ex H H h h' :=
 ⟨fun b ob q _ _ _ => k b ob q,fun b ob q _ _ _ => ⟨ob.slots,k b ob q⟩,fun _ _ _ n _ => n,fun b ob q _ => ⟨ob,k b ob q⟩,fun _ _ q => q,fun _ _ _ q => q,fun _ ps q => ⟨#[],by rw [q]; simp⟩⟩
theorem Un.refl : Un fs ex H H h h := Un.kept fun _ _ q => q
theorem Un.laid (k : ∀ b u,h.get? b = some u -> h'.get? b = some u) (hp : h.objs.size <= a) (hn : H a = none) : Un fs ex H (ar H a o) h h' where
 keep := fun b u q _ _ _ => k b u q
 slot := fun b u q _ _ _ => ⟨u.slots,k b u q⟩
 free := fun b u q n _ => by rw [af (AE (AU (Heap.lt_size q) hp))]; exact n
 there := fun b u q _ => ⟨u,k b u q⟩
 tups := fun b xs q => by rw [af (aR q hn)]; exact q
 frzs := fun b u xs q => by rw [af (aR q hn)]; exact q
 tbls := fun b ps q => ⟨#[],by rw [af (aR q hn),q]; simp⟩
theorem Un.write (mu : wv (H x)) (he : e = x ∨ H e = some (.own x)) (k : ∀ b u,b ≠ e -> h.get? b = some u -> h'.get? b = some u) (heo : ∃ u,h'.get? e = some u) : Un fs ex H (ar H x o) h h' := by
 have hx : ∀ b,H b = none -> b ≠ x := fun b n z => by subst z; rw [n] at mu; exact mu
 have hb : ∀ b,H b = none -> b ≠ e := fun b n z => by
  subst z
  rcases he with r | r
  ·exact hx b n r
  ·rw [n] at r; cases r
 have hm : ∀ b u,H b = some u -> ¬ wv (some u) -> b ≠ x := fun b u q nm z => by subst z; rw [q] at mu; exact nm mu
 refine ⟨fun b u q n _ _ => k b u (hb b n) q,fun b u q n _ _ => ⟨u.slots,k b u (hb b n) q⟩,fun b u q n _ => by rw [af (hx b n)]; exact n,fun b u q _ => ?_,
  fun b xs q => by rw [af (hm b _ q fun z => z)]; exact q,fun b u xs q => by rw [af (hm b _ q fun z => z)]; exact q,fun b ps q => ⟨#[],by rw [af (hm b _ q fun z => z),q]; simp⟩⟩
 by_cases hbe : b = e
 ·subst hbe; exact heo
 ·exact ⟨u,k b u hbe q⟩
end
def yf (h : Heap) (H : Hp) : List Addr := (Bh h.objs.size).filter fun a => (H a).isSome
def jH (h : Heap) (H : Hp) : Heap := PySem.W.hideAll h (yf h H)
theorem pH (h : Heap) (H : Hp) : (jH h H).objs.size = h.objs.size := PySem.W.hideAll_size _ _
theorem qZ {h : Heap} {H : Hp} {b : Addr} {o : Obj} (e : h.get? b = some o) (n : H b = none) : (jH h H).get? b = some o :=
 PySem.W.hideAll_get _ e fun hm => by
  have q : (H b).isSome = true := (Ap.mp hm).2
  rw [n] at q; simp at q
theorem sW {h : Heap} {H : Hp} {b : Addr} {o : Obj} (e : (jH h H).get? b = some o) : h.get? b = some o /\ H b = none := by
 have e' : h.get? b = some o := PySem.W.of_hideAll (yf h H) e
 refine ⟨e',?_⟩
 cases q : H b with
 | none => rfl
 | some x =>
  have hm : b ∈ yf h H := Ap.mpr ⟨BS.mpr (Heap.lt_size e'),by simp [q]⟩
  have z : (jH h H).get? b = none := PySem.W.hideAll_none (yf h H) hm
  rw [z] at e; cases e
structure Mod (K : A0) (mg : Str -> Option Value) (base : Heap) : Prop where
 kin : K.In base
 glob : base.Ns mainGlobals mg
 blt : ∃ mb,base.Ns builtinsNs mb /\ ∀ x : Str,x ≠ "__name__" -> mb x = bootBuiltins x
 nolimit : base.NoLimit
structure Cx where
 prog : Program
 w : World
 K : A0
 mg : Str -> Option Value
 base : Heap
 A : Around
 N : List Str
 s₀ : Shared
 H₀ : Hp
 env : Env
 outer : List Env
 stack : List Env
 ex : List Addr
 fn : Str -> Bool
 calm : Bool
 pn : List (Addr × Obj)
 xe : Value -> Shared -> Prop
def gr (l : List Env) : List Addr := l.filterMap (·.frame)
abbrev Cx.fs (X : Cx) : List Addr := gr X.outer
def yg (sc : Scope) (x : Str) : Prop := sc.names.lookup x = some .local ∨ sc.names.lookup x = some .cell ∨ sc.names.lookup x = some .free
def Loc (sc : Scope) (x : Str) : Prop := sc.names.lookup x = some .local ∨ sc.names.lookup x = some .cell
def Look (env : Env) (h : Heap) (m : Str -> Option Value) (x : Str) (u : Value) : Prop :=
 (env.kindOf x = some .local /\ m x = some u) ∨ ((env.kindOf x = some .cell ∨ env.kindOf x = some .free) /\ ∃ c,env.cells.lookup x = some c /\ h.IsCell c (some u))
structure Cx.Ok (X : Cx) : Prop where
 mod : Mod X.K X.mg X.base
 kind : X.env.scope.kind = .function
 glob : X.env.globals = mainGlobals
 blt : X.env.builtins = builtinsNs
 above : X.s₀.heap.objs.size <= X.env.locals
 inj : ∀ x y c,X.env.cells.lookup x = some c -> X.env.cells.lookup y = some c -> x = y
 has : ∀ x,(X.env.kindOf x = some .cell ∨ X.env.kindOf x = some .free) -> ∃ c,X.env.cells.lookup x = some c
 cab : ∀ x c,X.fn x = true -> X.env.cells.lookup x = some c -> X.s₀.heap.objs.size <= c
 hd : X.calm = true -> X.A.handled = none
 frames : X.A.frames = some X.stack
 stk : X.stack = X.outer ∨ (X.stack = X.env :: X.outer /\ X.env.frame = some X.env.locals)
 exf : ∀ b ∈ X.ex,b ≠ X.env.locals /\ ∀ x c,X.env.cells.lookup x = some c -> c ≠ b
 bs : ∀ b o,X.base.get? b = some o -> X.s₀.heap.get? b = some o /\ X.H₀ b = none
 bsz : X.base.objs.size <= X.s₀.heap.objs.size
 noex : ∀ b o,X.base.get? b = some o -> b ∉ X.ex
 exfs : ∀ b ∈ X.ex,b ∉ X.fs
 funs : X.s₀.heap.FunFrames X.base X.outer
 frf : ∀ b ∈ X.fs,X.H₀ b = none
structure aq (X : Cx) (pins : List (Addr × Obj)) (σ : List (Option V)) (H : Hp) (s : Shared) : Prop where
 ok : X.Ok
 os : s.os = X.s₀.os
 bare : AllBare s.gens
 base : Un X.fs X.ex X.H₀ H X.s₀.heap s.heap
 loc : ∃ m,s.heap.Ns X.env.locals m /\ ∀ (i : Nat) (x : Str) (v : V),X.N[i]? = some x -> σ[i]? = some (some v) -> yg X.env.scope x -> ∃ u,RelV v u /\ Look X.env s.heap m x u
 cell : ∀ x c,X.env.cells.lookup x = some c -> ∃ v,s.heap.IsCell c v
 free : H X.env.locals = none
 freeC : ∀ x c,X.env.cells.lookup x = some c -> H c = none
 pin : ∀ p ∈ X.pn ++ pins,s.heap.get? p.1 = some p.2 /\ H p.1 = none /\ p.1 ≠ X.env.locals /\ p.1 ∉ X.fs /\ ∀ v,p.2.data ≠ .cell v
 hok : c9 X.prog X.w H s.heap
 len : σ.length = X.N.length
section
variable {X : Cx} {pins : List (Addr × Obj)} {σ : List (Option V)} {H H' : Hp} {s : Shared} {h' : Heap}
theorem Cx.Ok.nofr (ok : X.Ok) {b : Addr} {o : Obj} (e : X.base.get? b = some o) : b ∉ X.fs := fun hb => by
 have := (ok.funs.mem hb).1
 rw [e] at this; cases this
theorem aq.bs (I : aq X pins σ H s) : ∀ b o,X.base.get? b = some o -> s.heap.get? b = some o /\ H b = none := fun b o e =>
 ⟨I.base.keep b o (I.ok.bs b o e).1 (I.ok.bs b o e).2 (I.ok.nofr e) (I.ok.noex b o e),I.base.free b o (I.ok.bs b o e).1 (I.ok.bs b o e).2 (I.ok.noex b o e)⟩
theorem aq.bk (I : aq X pins σ H s) : ∀ b o,X.base.get? b = some o -> s.heap.get? b = some o := fun b o e => (I.bs b o e).1
theorem aq.mod (I : aq X pins σ H s) : Mod X.K X.mg X.base := I.ok.mod
theorem aq.kIn (I : aq X pins σ H s) : X.K.In s.heap := I.ok.mod.kin.keeps I.bk
theorem aq.lt (I : aq X pins σ H s) : X.env.locals < s.heap.objs.size := let ⟨_,hn,_⟩ := I.loc; hn.lt
theorem aq.sz (I : aq X pins σ H s) : X.s₀.heap.objs.size <= s.heap.objs.size := Ae I.ok.above (Nat.le_of_lt I.lt)
theorem aq.nofs (I : aq X pins σ H s) {a : Addr} (h : s.heap.objs.size <= a) : a ∉ X.fs := fun hb => by
 obtain ⟨_,o,ho,_⟩ := I.ok.funs.mem hb
 exact absurd (AU (Heap.lt_size ho) (Ae I.sz h)) (Nat.lt_irrefl _)
theorem aq.cne (I : aq X pins σ H s) : ∀ x c,X.env.cells.lookup x = some c -> c ≠ X.env.locals := fun x c e z => by
 obtain ⟨v,o,ho,hd⟩ := I.cell x c e
 obtain ⟨m,⟨o',es,ep,ho',hd',_⟩,_⟩ := I.loc
 rw [z,ho'] at ho; cases ho; rw [hd'] at hd; cases hd
theorem aq.funs (I : aq X pins σ H s) : s.heap.FunFrames X.base X.outer := by
 have all : ∀ (l : List Env),(∀ b ∈ gr l,b ∈ X.fs) -> X.s₀.heap.FunFrames X.base l -> s.heap.FunFrames X.base l := by
  intro l
  induction l with
  | nil => intro _ _; trivial
  | cons env r ih =>
   intro hs hl
   obtain ⟨hk,⟨L,o,hf,hn,ho,hd⟩,hr⟩ := hl
   have hL : L ∈ X.fs := hs L (by unfold gr; rw [Bm,hf]; exact B2)
   obtain ⟨sl,e⟩ := I.base.slot L o ho (I.ok.frf L hL) hL fun z => I.ok.exfs L z hL
   exact ⟨hk,⟨L,_,hf,hn,e,hd⟩,ih (fun b hb => hs b (by unfold gr; rw [Bm,hf]; exact Ab _ hb)) hr⟩
 exact all X.outer (fun _ hb => hb) I.ok.funs
theorem aq.stack (I : aq X pins σ H s) : s.heap.FunFrames X.base X.stack := by
 rcases I.ok.stk with e | ⟨e,hf⟩
 ·rw [e]; exact I.funs
 ·rw [e]
  obtain ⟨m,hn,_⟩ := I.loc
  refine .cons (by rw [I.ok.kind]; decide) hf hn ?_ I.funs
  exact Heap.get?_none_of_le (Ae I.ok.bsz I.ok.above)
theorem aq.stkSub (I : aq X pins σ H s) : ∀ b ∈ gr X.stack,b ∈ X.env.locals :: X.fs := fun b hb => by
 rcases I.ok.stk with e | ⟨e,hf⟩
 ·rw [e] at hb; exact Ab _ hb
 ·rw [e] at hb
  unfold gr at hb
  rw [Bm,hf] at hb
  exact hb
theorem aq.stkFree (I : aq X pins σ H s) : ∀ b ∈ gr X.stack,H b = none := fun b hb => by
 rcases A3.mp (I.stkSub b hb) with e | hb
 ·rw [e]; exact I.free
 ·obtain ⟨_,o,ho,_⟩ := I.ok.funs.mem hb
  exact I.base.free b o ho (I.ok.frf b hb) fun z => I.ok.exfs b z hb
theorem aq.step {g' : Array GenState} {t' : Nat} {d' : Drawn} {ch : List Addr} (I : aq X pins σ H s)
  (hch : ∀ b ∈ ch,(b ∈ X.ex ∨ X.s₀.heap.objs.size <= b) /\ b ≠ X.env.locals /\ (∀ x c,X.env.cells.lookup x = some c -> c ≠ b) /\ ∀ p ∈ X.pn ++ pins,p.1 ≠ b)
  (keep : ∀ b o,b ≠ X.env.locals -> b ∉ X.fs -> b ∉ ch -> s.heap.get? b = some o -> H b = none -> h'.get? b = some o)
  (slot : ∀ b o,b ≠ X.env.locals -> b ∈ X.fs -> b ∉ ch -> s.heap.get? b = some o -> H b = none -> ∃ sl,h'.get? b = some { o with slots := sl }) (free : ∀ b o,b ∉ ch -> s.heap.get? b = some o -> H b = none -> H' b = none)
  (there : ∀ b o,b ∉ ch -> s.heap.get? b = some o -> ∃ o',h'.get? b = some o')
  (tups : ∀ b xs,H b = some (.tup xs) -> H' b = some (.tup xs)) (frzs : ∀ b o u,H b = some (.frz o u) -> H' b = some (.frz o u)) (tbls : ∀ b ps,H b = some (.tbl ps) -> ∃ more,H' b = some (.tbl (ps ++ more)))
  (ns : ∀ m,s.heap.Ns X.env.locals m -> h'.Ns X.env.locals m) (hok : c9 X.prog X.w H' h') (hg : AllBare g') :
  aq X pins σ H' { s with heap := h',gens := g',drawn := d',toks := t' } := by
 have neL : ∀ b o,X.s₀.heap.get? b = some o -> b ≠ X.env.locals := fun b o e => AE (AU (Heap.lt_size e) I.ok.above)
 have neC : ∀ b o,X.s₀.heap.get? b = some o -> b ∉ X.ex -> b ∉ ch := fun b o e hx hb => by
  rcases (hch b hb).1 with z | z
  ·exact hx z
  ·exact absurd (AU (Heap.lt_size e) z) (Nat.lt_irrefl _)
 have cellK : ∀ x c,X.env.cells.lookup x = some c -> ∀ v,s.heap.IsCell c v -> h'.IsCell c v := fun x c e v ⟨o,ho,hd⟩ => by
  have nch : c ∉ ch := fun z => (hch c z).2.2.1 x c e rfl
  by_cases hc : c ∈ X.fs
  ·obtain ⟨sl,q⟩ := slot c o (I.cne x c e) hc nch ho (I.freeC x c e)
   exact ⟨_,q,hd⟩
  ·exact ⟨o,keep c o (I.cne x c e) hc nch ho (I.freeC x c e),hd⟩
 refine ⟨I.ok,I.os,hg,⟨fun b o e n hb hx => ?_,fun b o e n hb hx => ?_,fun b o e n hx => ?_,fun b o e hx => ?_,fun b xs e => tups b xs (I.base.tups b xs e),fun b o xs e => frzs b o xs (I.base.frzs b o xs e),fun b ps e => ?_⟩,?_,fun x c e => ?_,?_,fun x c e => ?_,fun p hp => ?_,hok,I.len⟩
 ·exact keep b o (neL b o e) hb (neC b o e hx) (I.base.keep b o e n hb hx) (I.base.free b o e n hx)
 ·obtain ⟨sl,e1⟩ := I.base.slot b o e n hb hx
  obtain ⟨sl',e2⟩ := slot b _ (neL b o e) hb (neC b o e hx) e1 (I.base.free b o e n hx)
  exact ⟨sl',e2⟩
 ·obtain ⟨o',e1⟩ := I.base.there b o e hx
  exact free b o' (neC b o e hx) e1 (I.base.free b o e n hx)
 ·obtain ⟨o',e1⟩ := I.base.there b o e hx
  exact there b o' (neC b o e hx) e1
 ·obtain ⟨m1,e1⟩ := I.base.tbls b ps e
  obtain ⟨m2,e2⟩ := tbls b _ e1
  exact ⟨m1 ++ m2,by rw [e2,Array.append_assoc]⟩
 ·obtain ⟨m,hn,hl⟩ := I.loc
  refine ⟨m,ns m hn,fun i x v e1 e2 e3 => ?_⟩
  obtain ⟨u,r,l⟩ := hl i x v e1 e2 e3
  refine ⟨u,r,?_⟩
  rcases l with l | ⟨k,c,e,z⟩
  ·exact .inl l
  ·exact .inr ⟨k,c,e,cellK x c e _ z⟩
 ·obtain ⟨v,z⟩ := I.cell x c e
  exact ⟨v,cellK x c e v z⟩
 ·obtain ⟨m,⟨o,_,_,ho,_⟩,_⟩ := I.loc
  exact free _ o (fun z => (hch _ z).2.1 rfl) ho I.free
 ·obtain ⟨v,o,ho,hd⟩ := I.cell x c e
  exact free c o (fun z => (hch c z).2.2.1 x c e rfl) ho (I.freeC x c e)
 ·obtain ⟨e,n,ne,nf,d⟩ := I.pin p hp
  have nch : p.1 ∉ ch := fun z => (hch p.1 z).2.2.2 p hp rfl
  exact ⟨keep p.1 p.2 ne nf nch e n,free p.1 p.2 nch e n,ne,nf,d⟩
theorem aq.un {t' : Nat} (I : aq X pins σ H s) (u : Un X.fs [] H H' s.heap h') (hok : c9 X.prog X.w H' h') : aq X pins σ H' { s with heap := h',toks := t' } := by
 obtain ⟨m,⟨o,es,ep,ho,r⟩,_⟩ := id I.loc
 obtain ⟨sl,hL⟩ := u.any ho I.free (by simp)
 exact I.step (g' := s.gens) (d' := s.drawn) (ch := []) (fun _ z => nomatch z) (fun b o _ hb _ e n => u.keep b o e n hb (by simp)) (fun b o _ hb _ e n => u.slot b o e n hb (by simp)) (fun b o _ e n => u.free b o e n (by simp)) (fun b o _ e => u.there b o e (by simp)) u.tups u.frzs u.tbls (fun m' hm => by
  obtain ⟨o',es',ep',ho',r'⟩ := hm
  rw [ho] at ho'; cases ho'
  exact ⟨_,es',ep',hL,r'⟩) hok I.bare
theorem aq.call {g' : Array GenState} {t' : Nat} {d' : Drawn} {ch : List Addr} (I : aq X pins σ H s) (u : Un (gr X.stack) ch H H' s.heap h') (hok : c9 X.prog X.w H' h') (hg : AllBare g')
  (hch : ∀ b ∈ ch,(b ∈ X.ex ∨ X.s₀.heap.objs.size <= b) /\ b ≠ X.env.locals /\ (∀ x c,X.env.cells.lookup x = some c -> c ≠ b) /\ ∀ p ∈ X.pn ++ pins,p.1 ≠ b) :
  aq X pins σ H' { s with heap := h',gens := g',drawn := d',toks := t' } := by
 obtain ⟨m,⟨o,es,ep,ho,r⟩,_⟩ := id I.loc
 obtain ⟨sl,hL⟩ := u.any ho I.free fun z => (hch _ z).2.1 rfl
 exact I.step (ch := ch) hch (fun b o hL hb hc e n => u.keep b o e n (fun z => (A3.mp (I.stkSub b z)).elim hL hb) hc) (fun b o _ _ hc e n => u.any e n hc) (fun b o hc e n => u.free b o e n hc) (fun b o hc e => u.there b o e hc) u.tups u.frzs u.tbls (fun m' hm => by
  obtain ⟨o',es',ep',ho',r'⟩ := hm
  rw [ho] at ho'; cases ho'
  exact ⟨_,es',ep',hL,r'⟩) hok hg
theorem aq.turned {t' : Nat} {it : Addr} (I : aq X pins σ H s) (k : ∀ b o,b ≠ it -> s.heap.get? b = some o -> h'.get? b = some o) (hn : H it = none) (hL : it ≠ X.env.locals)
  (h1 : it ∈ X.ex ∨ X.s₀.heap.objs.size <= it) (h2 : ∀ x c,X.env.cells.lookup x = some c -> c ≠ it) (h3 : ∀ p ∈ X.pn ++ pins,p.1 ≠ it) : aq X pins σ H { s with heap := h',toks := t' } := by
 have nit : ∀ b u,H b = some u -> b ≠ it := fun b u e z => by rw [z,hn] at e; cases e
 refine I.step (g' := s.gens) (d' := s.drawn) (ch := [it]) (fun b hb => ?_) (fun b o _ _ hc e _ => k b o (fun z => hc (by simp [z])) e) (fun b o _ _ hc e _ => ⟨o.slots,k b o (fun z => hc (by simp [z])) e⟩) (fun _ _ _ _ n => n)
  (fun b o hc e => ⟨o,k b o (fun z => hc (by simp [z])) e⟩) (fun _ _ e => e) (fun _ _ _ e => e) (fun b ps e => ⟨#[],by rw [e]; simp⟩) (fun m hm => ?_) (fun b u e => ?_) I.bare
 ·have e : b = it := by simpa using hb
  subst e
  exact ⟨h1,hL,h2,h3⟩
 ·obtain ⟨o,es,ep,ho,r⟩ := hm
  exact ⟨o,es,ep,k _ o (Ne.symm hL) ho,r⟩
 ·refine (I.hok b u e).stay (fun c v hc q => k c v ?_ q) (fun _ q => q) fun _ _ q => q
  rcases hc with z | z
  ·rw [z]; exact nit b u e
  ·exact nit c _ z
theorem aq.tok (I : aq X pins σ H s) (t : Nat) : aq X pins σ H { s with toks := t } := I.un (h' := s.heap) (t' := t) Un.refl I.hok
theorem aq.kept {t' : Nat} (I : aq X pins σ H s) (k : ∀ b u,s.heap.get? b = some u -> h'.get? b = some u) : aq X pins σ H { s with heap := h',toks := t' } := I.un (Un.kept k) (I.hok.kept k)
theorem aq.laid {a : Addr} {o : HO} {t' : Nat} (I : aq X pins σ H s) (k : ∀ b u,s.heap.get? b = some u -> h'.get? b = some u) (hp : s.heap.objs.size <= a) (new : aX X.prog X.w (ar H a o) h' a o) :
  aq X pins σ (ar H a o) { s with heap := h',toks := t' } := I.un (Un.laid k hp (I.hok.fresh hp)) (I.hok.laid k hp new)
theorem aq.write {x e : Addr} {o : HO} {t' : Nat} (I : aq X pins σ H s) (mu : wv (H x)) (he : e = x ∨ H e = some (.own x)) (k : ∀ b u,b ≠ e -> s.heap.get? b = some u -> h'.get? b = some u) (heo : ∃ u,h'.get? e = some u)
  (new : aX X.prog X.w (ar H x o) h' x o) : aq X pins σ (ar H x o) { s with heap := h',toks := t' } := I.un (Un.write mu he k heo) (I.hok.write mu he k heo new)
theorem aq.pins_of {pins' : List (Addr × Obj)} (I : aq X pins σ H s) (h : ∀ p ∈ pins',s.heap.get? p.1 = some p.2 /\ H p.1 = none /\ p.1 ≠ X.env.locals /\ p.1 ∉ X.fs /\ ∀ v,p.2.data ≠ .cell v) : aq X pins' σ H s :=
 ⟨I.ok,I.os,I.bare,I.base,I.loc,I.cell,I.free,I.freeC,fun p hp => (A9.mp hp).elim (fun z => I.pin p (Aj _ z)) (h p),I.hok,I.len⟩
theorem gU {N : List Str} (hN : N.Nodup) {i j : Nat} {x : Str} (a : N[i]? = some x) (b : N[j]? = some x) : i = j := by
 obtain ⟨h1,e1⟩ := A1.mp a
 obtain ⟨h2,e2⟩ := A1.mp b
 exact (List.getElem_inj hN).mp (e1.trans e2.symm)
theorem je {M : Model} {A : Around} {E : Value -> Shared -> Prop} {i : Nat} {x : Str} {v : V} {u : Value} {Q : Unit -> Shared -> Prop} (I : aq X pins σ H s) (hN : X.N.Nodup) (hi : X.N[i]? = some x) (hx : Loc X.env.scope x) (r : RelV v u)
  (h : ∀ s',aq X pins (σ.set i (some v)) H s' -> (∃ a,Heap.SameBut a s.heap s'.heap /\ (a = X.env.locals ∨ X.env.cells.lookup x = some a)) -> Q () s') (hf : X.fn x = true ∨ X.env.scope.names.lookup x = some .local := by first | exact .inl rfl | exact .inr rfl | assumption) : wpAny M A (storeName X.env x u) Q E s := by
 obtain ⟨m,hn,hl⟩ := id I.loc
 have hcls : (X.env.scope.kind == .class || (X.env.scope.kind == .module && X.env.locals != X.env.globals)) = false := by rw [I.ok.kind]; rfl
 have hiσ : i < σ.length := by rw [I.len]; exact (A1.mp hi).1
 have cne := I.cne
 have tracked : ∀ {a : Addr} {h' : Heap},(∃ o,s.heap.get? a = some o /\ H a = none) -> Heap.SameBut a s.heap h' -> c9 X.prog X.w H h' := fun {a h'} ha hs b ob e => by
  obtain ⟨_,_,hfree⟩ := ha
  refine (I.hok b ob e).stay (fun c w' hc q => (hs.2 c ?_).trans q) (fun _ q => q) fun _ _ q => q
  rintro rfl
  rcases hc with rfl | hc
  ·rw [hfree] at e; cases e
  ·rw [hfree] at hc; cases hc
 rcases hx with hk | hk
 ·refine wpAny_storeName_local hk hn (fun h' hn' hs => ?_) hcls
  obtain ⟨oL,_,_,hoL,_⟩ := id hn
  refine h _ ⟨I.ok,I.os,I.bare,⟨fun b o e n hb hx => ?_,fun b o e n hb hx => ?_,I.base.free,fun b o e hx => ?_,I.base.tups,I.base.frzs,I.base.tbls⟩,⟨_,hn',fun j y v' e1 e2 e3 => ?_⟩,fun y c e => ?_,I.free,I.freeC,fun p hp => ?_,tracked ⟨oL,hoL,I.free⟩ hs,by simpa using I.len⟩ ⟨_,hs,.inl rfl⟩
  ·exact (hs.2 b (AE (AU (Heap.lt_size e) I.ok.above))).trans (I.base.keep b o e n hb hx)
  ·obtain ⟨sl,e1⟩ := I.base.slot b o e n hb hx
   exact ⟨sl,(hs.2 b (AE (AU (Heap.lt_size e) I.ok.above))).trans e1⟩
  ·obtain ⟨o',e1⟩ := I.base.there b o e hx
   exact ⟨o',(hs.2 b (AE (AU (Heap.lt_size e) I.ok.above))).trans e1⟩
  ·by_cases hj : j = i
   ·subst hj
    rw [hi] at e1; cases e1
    rw [List.getElem?_set_self hiσ] at e2
    cases e2
    exact ⟨u,r,.inl ⟨hk,by simp⟩⟩
   ·rw [List.getElem?_set_ne (Ne.symm hj)] at e2
    obtain ⟨u',r',q⟩ := hl j y v' e1 e2 e3
    refine ⟨u',r',?_⟩
    rcases q with ⟨k,e⟩ | ⟨k,c,e,z⟩
    ·refine .inl ⟨k,?_⟩
     have : y ≠ x := fun e => hj (gU hN e1 (e ▸ hi))
     simp [this,e]
    ·exact .inr ⟨k,c,e,z.sameBut hs (cne y c e)⟩
  ·obtain ⟨w',z⟩ := I.cell y c e
   exact ⟨w',z.sameBut hs (cne y c e)⟩
  ·obtain ⟨e,n,ne,nf,d⟩ := I.pin p hp
   exact ⟨(hs.2 p.1 ne).trans e,n,ne,nf,d⟩
 ·have hfn : X.fn x = true := by
   rcases hf with z | z
   ·exact z
   ·rw [z] at hk; cases hk
  obtain ⟨c,hc⟩ := I.ok.has x (.inl hk)
  obtain ⟨w',z⟩ := I.cell x c hc
  refine wpAny_storeName_cell I.ok.kind hk hc z (fun h' hc' hs => ?_)
  obtain ⟨oc,hoc,hocd⟩ := id z
  refine h { s with heap := h' } ⟨I.ok,I.os,I.bare,⟨fun b o e n hb hx => ?_,fun b o e n hb hx => ?_,I.base.free,fun b o e hx => ?_,I.base.tups,I.base.frzs,I.base.tbls⟩,⟨m,hn.sameBut hs (Ne.symm (cne x c hc)),fun j y v' e1 e2 e3 => ?_⟩,fun y c' e => ?_,I.free,I.freeC,fun p hp => ?_,tracked ⟨oc,hoc,I.freeC x c hc⟩ hs,by simpa using I.len⟩ ⟨c,hs,.inr hc⟩
  ·exact (hs.2 b (AE (AU (Heap.lt_size e) (I.ok.cab x c hfn hc)))).trans (I.base.keep b o e n hb hx)
  ·obtain ⟨sl,e1⟩ := I.base.slot b o e n hb hx
   exact ⟨sl,(hs.2 b (AE (AU (Heap.lt_size e) (I.ok.cab x c hfn hc)))).trans e1⟩
  ·obtain ⟨o',e1⟩ := I.base.there b o e hx
   exact ⟨o',(hs.2 b (AE (AU (Heap.lt_size e) (I.ok.cab x c hfn hc)))).trans e1⟩
  ·by_cases hj : j = i
   ·subst hj
    rw [hi] at e1; cases e1
    rw [List.getElem?_set_self hiσ] at e2
    cases e2
    exact ⟨u,r,.inr ⟨.inl hk,c,hc,hc'⟩⟩
   ·rw [List.getElem?_set_ne (Ne.symm hj)] at e2
    obtain ⟨u',r',q⟩ := hl j y v' e1 e2 e3
    refine ⟨u',r',?_⟩
    rcases q with q | ⟨k,c',e,z'⟩
    ·exact .inl q
    ·refine .inr ⟨k,c',e,z'.sameBut hs ?_⟩
     rintro rfl
     exact hj (gU hN e1 (I.ok.inj _ _ _ e hc ▸ hi))
  ·by_cases hcc : c' = c
   ·subst hcc; exact ⟨_,hc'⟩
   ·obtain ⟨w2,z2⟩ := I.cell y c' e
    exact ⟨w2,z2.sameBut hs hcc⟩
  ·obtain ⟨e,n,ne,nf,d⟩ := I.pin p hp
   refine ⟨(hs.2 p.1 ?_).trans e,n,ne,nf,d⟩
   intro q
   rw [q,hoc] at e
   have q' : oc = p.2 := Ao e
   exact d w' (by rw [<- q']; exact hocd)
theorem gW {M : Model} {A : Around} {E : Value -> Shared -> Prop} {i : Nat} {x : Str} {v : V} {u : Value} {Q : Unit -> Shared -> Prop} (I : aq X pins σ H s) (hN : X.N.Nodup) (hi : X.N[i]? = some x) (hx : Loc X.env.scope x) (r : RelV v u)
  (h : ∀ s',aq X pins (σ.set i (some v)) H s' -> Q () s') (hf : X.fn x = true ∨ X.env.scope.names.lookup x = some .local := by first | exact .inl rfl | exact .inr rfl | assumption) : wpAny M A (storeName X.env x u) Q E s :=
 je I hN hi hx r (fun s' I' _ => h s' I') hf
theorem aq.call' {s' : Shared} {ch : List Addr} (I : aq X pins σ H s) (ho : s'.os = s.os) (u : Un (gr X.stack) ch H H' s.heap s'.heap) (hok : c9 X.prog X.w H' s'.heap) (hg : AllBare s'.gens)
  (hch : ∀ b ∈ ch,(b ∈ X.ex ∨ X.s₀.heap.objs.size <= b) /\ b ≠ X.env.locals /\ (∀ x c,X.env.cells.lookup x = some c -> c ≠ b) /\ ∀ p ∈ X.pn ++ pins,p.1 ≠ b) : aq X pins σ H' s' := by
 obtain ⟨h',g',d',t',o'⟩ := s'
 have e : o' = s.os := ho
 subst e
 exact I.call (g' := g') (t' := t') (d' := d') u hok hg hch
end
abbrev XK := Value -> Option Addr -> Hp -> Prop
abbrev St := List (Option V)
abbrev VK := V -> Hp -> Prop
abbrev TE := St -> Hp -> VK -> Prop
abbrev TT := St -> Hp -> (Bool -> Hp -> Prop) -> Prop
abbrev TA := St -> Hp -> (List V -> Hp -> Prop) -> Prop
structure Ends where
 nx : St -> Hp -> Prop
 rt : VK
 bk : St -> Hp -> Prop := fun _ _ => False
 ct : St -> Hp -> Prop := fun _ _ => False
abbrev TS := Ends -> St -> Hp -> Prop
def EP (X : Cx) (pins : List (Addr × Obj)) (σ : St) (Q : VK) (u : Value) (s' : Shared) : Prop := ∃ v H',aq X pins σ H' s' /\ RelV v u /\ Q v H'
def TP (X : Cx) (pins : List (Addr × Obj)) (σ : St) (Q : Bool -> Hp -> Prop) (b : Bool) (s' : Shared) : Prop := ∃ H',aq X pins σ H' s' /\ Q b H'
def AP (X : Cx) (pins : List (Addr × Obj)) (σ : St) (Q : List V -> Hp -> Prop) (us : List Value) (s' : Shared) : Prop := ∃ vs H',aq X pins σ H' s' /\ aM vs us /\ Q vs H'
def SP (X : Cx) (pins : List (Addr × Obj)) (D : Ends) (f : Flow) (s' : Shared) : Prop :=
 match f with
 | .next => ∃ σ' H',aq X pins σ' H' s' /\ D.nx σ' H'
 | .brk => ∃ σ' H',aq X pins σ' H' s' /\ D.bk σ' H'
 | .cont => ∃ σ' H',aq X pins σ' H' s' /\ D.ct σ' H'
 | .ret u => ∃ v σ' H',aq X pins σ' H' s' /\ RelV v u /\ D.rt v H'
def PE (X : Cx) (e : Expr) (t : TE) : Prop :=
 ∀ (pins : List (Addr × Obj)) (s : Shared) (σ : St) (H : Hp) (Q : VK),aq X pins σ H s -> t σ H Q -> wpAny (model X.prog X.w) X.A (eval e X.env) (EP X pins σ Q) X.xe s
def PT (X : Cx) (e : Expr) (t : TT) : Prop :=
 ∀ (pins : List (Addr × Obj)) (s : Shared) (σ : St) (H : Hp) (Q : Bool -> Hp -> Prop),aq X pins σ H s -> t σ H Q -> wpAny (model X.prog X.w) X.A (isTrue e X.env (eval e X.env)) (TP X pins σ Q) X.xe s
def PW (X : Cx) (e : Expr) (t : TT) : Prop :=
 ∀ (whole : Sem Value) (pins : List (Addr × Obj)) (s : Shared) (σ : St) (H : Hp) (Q : Bool -> Hp -> Prop),aq X pins σ H s -> t σ H Q -> wpAny (model X.prog X.w) X.A (isTrue e X.env whole) (TP X pins σ Q) X.xe s
theorem PW.pt {X : Cx} {e : Expr} {t : TT} (h : PW X e t) : PT X e t := h _
def PA (X : Cx) (es : List Expr) (t : TA) : Prop :=
 ∀ (pos : Pos) (pins : List (Addr × Obj)) (s : Shared) (σ : St) (H : Hp) (Q : List V -> Hp -> Prop),aq X pins σ H s -> t σ H Q -> wpAny (model X.prog X.w) X.A (spliced (backTo pos (starEach es X.env))) (AP X pins σ Q) X.xe s
def PS (X : Cx) (st : Stmt) (t : TS) : Prop :=
 ∀ (pins : List (Addr × Obj)) (s : Shared) (σ : St) (H : Hp) (D : Ends),aq X pins σ H s -> t D σ H -> wpAny (model X.prog X.w) X.A (exec st X.env) (SP X pins D) X.xe s
def gX (X : Cx) (st : List Stmt) (t : TS) : Prop :=
 ∀ (pins : List (Addr × Obj)) (s : Shared) (σ : St) (H : Hp) (D : Ends),aq X pins σ H s -> t D σ H -> wpAny (model X.prog X.w) X.A (execs st X.env) (SP X pins D) X.xe s
theorem aZ {α : Type} {t : Sem α} {Q Q' : α -> Shared -> Prop} {M : Model} {A : Around} {E : Value -> Shared -> Prop} {s : Shared} (h : wpAny M A t Q E s) (hQ : ∀ a s,Q a s -> Q' a s) : wpAny M A t Q' E s := wpAny_mono h hQ fun _ _ x => x
section
variable {X : Cx}
def sZ (i : Nat) : TE := fun σ H Q => ∃ v,σ[i]? = some (some v) /\ Q v H
def tC (v : V) : TE := fun _ H Q => Q v H
theorem vo {i : Nat} {x : Str} {pos : Pos} (hN : X.N[i]? = some x) (hv : yg X.env.scope x) (hd : (x == ("__debug__" : Str)) = false := by decide) (hcd : (x == ("__classdict__" : Str)) = false := by decide) : PE X (.Name x pos) (sZ i) := by
 intro pins s σ H Q I h
 obtain ⟨v,e,h⟩ := h
 obtain ⟨m,hn,hl⟩ := I.loc
 obtain ⟨u,r,l⟩ := hl i x v hN e hv
 have fin : EP X pins σ Q u s := ⟨v,H,I,r,h⟩
 rcases l with ⟨hk,hm⟩ | ⟨hk,c,hc,hcell⟩
 ·exact wpAny_Name (wpAny_loadName_local I.ok.kind hk hn hm fin) hd
 ·rcases hk with hk | hk
  ·exact wpAny_Name (wpAny_loadName_cell I.ok.kind hk hc hcell fin) hd
  ·exact wpAny_Name (wpAny_loadName_free I.ok.kind hk hc hcell fin hcd) hd
theorem am {i j pos} : PE X (.Constant (.int i) j pos) (tC (.int i)) := fun _ _ _ H _ I h => wpAny_Constant_int ⟨.int i,H,I.tok _,⟨_,rfl⟩,h⟩
theorem bL {b j pos} : PE X (.Constant (.bool b) j pos) (tC (.bl b)) := fun _ _ _ H _ I h => Constant_bool ⟨.bl b,H,I,rfl,h⟩
theorem dQ {j pos} : PE X (.Constant .none j pos) (tC .non) := fun _ _ _ H _ I h => Constant_none ⟨.non,H,I,rfl,h⟩
theorem aS {x j pos} : PE X (.Constant (.str x) j pos) (tC (.str x)) := fun _ _ _ H _ I h => Calls.Constant_str ⟨.str x,H,I.tok _,⟨_,rfl⟩,h⟩
def Gl (X : Cx) (x : Str) : Prop := X.env.kindOf x = some .globalImplicit
theorem cB {E : Value -> Shared -> Prop} {pins : List (Addr × Obj)} {s : Shared} {σ : St} {H : Hp} {x : Str} {u : Value} {pos : Pos} {Q : Value -> Shared -> Prop} (I : aq X pins σ H s) (hg : Gl X x) (hm : X.mg x = some u) (h : Q u s)
  (hd : (x == ("__debug__" : Str)) = false := by decide) : wpAny (model X.prog X.w) X.A (eval (.Name x pos) X.env) Q E s :=
 Calls.Name_function_global I.ok.kind hg (Calls.loadGlobal_global (by rw [I.ok.glob]; exact I.mod.glob.keeps I.bk) hm h) hd
theorem dy {E : Value -> Shared -> Prop} {pins : List (Addr × Obj)} {s : Shared} {σ : St} {H : Hp} {x : Str} {u : Value} {pos : Pos} {Q : Value -> Shared -> Prop} (I : aq X pins σ H s) (hg : Gl X x) (hm : X.mg x = none) (hv : bootBuiltins x = some u) (h : Q u s)
  (hn : x ≠ "__name__" := by decide) (hd : (x == ("__debug__" : Str)) = false := by decide) : wpAny (model X.prog X.w) X.A (eval (.Name x pos) X.env) Q E s := by
 obtain ⟨mb,h1,h2⟩ := I.mod.blt
 exact Calls.Name_function_global I.ok.kind hg (Calls.loadGlobal_builtin (by rw [I.ok.glob]; exact I.mod.glob.keeps I.bk) hm (by rw [I.ok.blt]; exact h1.keeps I.bk) ((h2 x hn).trans hv) h) hd
theorem bB {x : Str} {v : V} {u : Value} {pos : Pos} (hg : Gl X x) (hm : X.mg x = some u) (r : RelV v u) (hd : (x == ("__debug__" : Str)) = false := by decide) : PE X (.Name x pos) (tC v) :=
 fun _ _ _ H _ I h => cB I hg hm ⟨v,H,I,r,h⟩ hd
theorem cO {x : Str} {v : V} {u : Value} {pos : Pos} (hg : Gl X x) (hm : X.mg x = none) (hv : bootBuiltins x = some u) (r : RelV v u) (hn : x ≠ "__name__" := by decide) (hd : (x == ("__debug__" : Str)) = false := by decide) : PE X (.Name x pos) (tC v) :=
 fun _ _ _ H _ I h => dy I hg hm hv ⟨v,H,I,r,h⟩ hn hd
variable {a b : Expr} {ta tb : TE} {pos : Pos}
def PC (X : Cx) (op : CmpOp) (a b : Expr) (t : TE) : Prop :=
 ∀ (pins : List (Addr × Obj)) (s : Shared) (σ : St) (H : Hp) (Q : VK),aq X pins σ H s -> t σ H Q ->
  wpAny (model X.prog X.w) X.A (eval a X.env) (fun v s₁ => wpAny (model X.prog X.w) X.A (eval b X.env) (fun u s₂ => wpAny (model X.prog X.w) X.A (compareOp op v u) (EP X pins σ Q) X.xe s₂) X.xe s₁) X.xe s
def tB (t : TE) : TT := fun σ H Q => t σ H fun x H1 => ∃ c,x = .bl c /\ Q c H1
theorem jI {op : CmpOp} {t : TE} (h : PC X op a b t) (h1 : behindInMarks op b = false := by first | exact nobehind _ (by decide) (by decide) | rfl) : PT X (.Compare a [op] [b] pos) (tB t) := by
 intro pins s σ H Q I hw
 refine wpAny_isTrue_Compare1 (aZ (h pins s σ H _ I hw) fun v s1 h1 => aZ h1 fun u s2 h2 => aZ h2 fun c s3 ⟨x,H1,I1,r1,q1⟩ => ?_) h1
 obtain ⟨d,rfl,q⟩ := q1
 cases r1
 exact wpAny_truthy_bool ⟨H1,I1,q⟩
theorem cv {e : Expr} {t : TE} (h : PE X e t) (he : ∀ whole,isTrue e X.env whole = (do let v <- whole; standAt e.pos; holding [v] (truthy v)) := by intro _; rfl) : PT X e (tB t) := by
 intro pins s σ H Q I hw
 refine isTrue_plain (aZ (h pins s σ H _ I hw) fun v s1 ⟨x,H1,I1,r1,q1⟩ => ?_) (he _)
 obtain ⟨d,rfl,q⟩ := q1
 cases r1
 exact wpAny_truthy_bool ⟨H1,I1,q⟩
variable {tA tB' : TT} {rest : List Expr}
def yJ (t u : TT) : TT := fun σ H Q => t σ H fun c H1 => if c = true then u σ H1 Q else Q false H1
def zT (t u : TT) : TT := fun σ H Q => t σ H fun c H1 => if c = true then Q true H1 else u σ H1 Q
def yK (t : TT) : TT := fun σ H Q => t σ H fun c H1 => Q (!c) H1
theorem fi (ha : PT X a tA) : PW X (.BoolOp .And [a] pos) tA := by
 intro wh pins s σ H Q I h
 refine isTrue_and (aZ (ha pins s σ H Q I h) fun c s1 e => ?_)
 cases c with
 | true => exact isTrue_and_nil e
 | false => exact e
theorem eP (ha : PT X a tA) : PW X (.BoolOp .Or [a] pos) tA := by
 intro wh pins s σ H Q I h
 refine isTrue_or (aZ (ha pins s σ H Q I h) fun c s1 e => ?_)
 cases c with
 | false => exact isTrue_or_nil e
 | true => exact e
theorem gY (ha : PT X a tA) (hb : PW X (.BoolOp .And (b :: rest) pos) tB') : PW X (.BoolOp .And (a :: b :: rest) pos) (yJ tA tB') := by
 intro wh pins s σ H Q I h
 refine isTrue_and (aZ (ha pins s σ H _ I h) fun c s1 ⟨H1,I1,q1⟩ => ?_)
 cases c with
 | true => exact hb wh pins s1 σ H1 Q I1 q1
 | false => exact ⟨H1,I1,q1⟩
theorem fj (ha : PT X a tA) (hb : PW X (.BoolOp .Or (b :: rest) pos) tB') : PW X (.BoolOp .Or (a :: b :: rest) pos) (zT tA tB') := by
 intro wh pins s σ H Q I h
 refine isTrue_or (aZ (ha pins s σ H _ I h) fun c s1 ⟨H1,I1,q1⟩ => ?_)
 cases c with
 | true => exact ⟨H1,I1,q1⟩
 | false => exact hb wh pins s1 σ H1 Q I1 q1
theorem cw (ha : PT X a tA) : PT X (.UnaryOp .Not a pos) (yK tA) := by
 intro pins s σ H Q I h
 exact isTrue_not (ha pins s σ H (fun c H1 => Q (!c) H1) I h)
def ww (ta tb : TE) : TE := fun σ H Q => ta σ H fun x H1 => ∃ c,x = .bl c /\ if c = true then tb σ H1 Q else Q (.bl false) H1
def wx (ta : TE) : TE := fun σ H Q => ta σ H fun x H1 => ∃ c,x = .bl c /\ Q (.bl (!c)) H1
theorem eQ {op} {t : TE} (h : PE X a t) : PE X (.BoolOp op [a] pos) t := fun pins s σ H Q I hw => BoolOp_one (h pins s σ H Q I hw)
theorem eR (ha : PE X a ta) (hb : PE X (.BoolOp .And (b :: rest) pos) tb) : PE X (.BoolOp .And (a :: b :: rest) pos) (ww ta tb) := by
 intro pins s σ H Q I h
 refine BoolOp_and (aZ (ha pins s σ H _ I h) fun v s1 ⟨x,H1,I1,r1,q1⟩ => ?_)
 obtain ⟨c,rfl,q1⟩ := q1
 cases r1
 refine wpAny_truthy_bool ?_
 cases c with
 | true => exact hb pins s1 σ H1 Q I1 q1
 | false => exact ⟨.bl false,H1,I1,rfl,q1⟩
theorem mR (ha : PE X a ta) : PE X (.UnaryOp .Not a pos) (wx ta) := by
 intro pins s σ H Q I h
 refine UnaryOp_ (aZ (ha pins s σ H _ I h) fun v s1 ⟨x,H1,I1,r1,q1⟩ => ?_)
 obtain ⟨c,rfl,q1⟩ := q1
 cases r1
 exact not_of (wpAny_truthy_bool ⟨.bl (!c),H1,I1,rfl,q1⟩)
end
def bu (K : A0) (H : Hp) (a : Addr) (xs : List V) : Prop :=
 Rd H a (.lst xs) ∨
  ∃ (o : Obj) (its : Array Value) (n : Nat),K.lookup a = some o /\ o.cls = .type "list" /\ o.dict = none /\ o.data = .seq its n /\ its.size <= sizeLine /\ aM xs its.toList
def iX (K : A0) (H : Hp) (a : Addr) (xs : List V) : Prop :=
 Rd H a (.tup xs) ∨
  ∃ (o : Obj) (its : Array Value) (n : Nat),K.lookup a = some o /\ o.cls = .type "tuple" /\ o.data = .seq its n /\ its.size <= sizeLine /\ aM xs its.toList
def yL : Value -> Option V
 | .none => some .non
 | .bool b => some (.bl b)
 | .int i _ => some (.int i)
 | .str x _ => some (.str x)
 | .bytes b _ => some (.byt b)
 | .float b _ => some (.flt b)
 | .ref a => some (.ref a)
 | .type n => some (.ty n)
 | _ => none
theorem RelV.abs {x : V} {u : Value} (r : RelV x u) : yL u = some x := by
 cases x with
 | non => cases r; rfl
 | bl _ => cases r; rfl
 | int _ => obtain ⟨t,rfl⟩ := r; rfl
 | str _ => obtain ⟨t,rfl⟩ := r; rfl
 | byt _ => obtain ⟨t,rfl⟩ := r; rfl
 | flt _ => obtain ⟨t,rfl⟩ := r; rfl
 | ref _ => cases r; rfl
 | ty _ => cases r; rfl
theorem RelV.inj {x y : V} {u : Value} (r : RelV x u) (q : RelV y u) : x = y := Ao (r.abs.symm.trans q.abs)
theorem aM.inj : ∀ {xs ys : List V} {us : List Value},aM xs us -> aM ys us -> xs = ys
 | _,_,_,.nil,.nil => rfl
 | _,_,_,.cons r t,.cons r' t' => by rw [r.inj r',aM.inj t t']
section
variable {X : Cx} {pins : List (Addr × Obj)} {σ : St} {H : Hp} {s : Shared} {a : Addr} {xs ys : List V}
theorem bu.of {K : A0} (h : H a = some (.lst xs)) : bu K H a xs := .inl (.inl h)
theorem iX.of {K : A0} (h : H a = some (.tup xs)) : iX K H a xs := .inl (.inl h)
theorem aq.list (I : aq X pins σ H s) (h : bu X.K H a xs) : ∃ its : List Value,aM xs its /\ PlainL s.heap a its.toArray /\ xs.length <= sizeLine := by
 rcases h with h | ⟨o,its,n,hk,hc,hd,hs,hz,r⟩
 ·obtain ⟨z,its,n,r,e⟩ := h.ok I.hok
  exact ⟨its,r,⟨_,n,e,rfl,rfl,rfl⟩,z⟩
 ·refine ⟨its.toList,r,⟨o,n,I.kIn a o hk,hc,hd,by simpa using hs⟩,?_⟩
  have e := r.length
  simp only [AJ] at e
  omega
theorem aq.tuple (I : aq X pins σ H s) (h : iX X.K H a xs) : ∃ its : List Value,aM xs its /\ IsTup s.heap a its.toArray /\ xs.length <= sizeLine := by
 rcases h with h | ⟨o,its,n,hk,hc,hs,hz,r⟩
 ·obtain ⟨z,its,r,p⟩ := h.ok I.hok
  exact ⟨its,r,p,z⟩
 ·refine ⟨its.toList,r,⟨o,I.kIn a o hk,hc,n,by simpa using hs⟩,?_⟩
  have e := r.length
  simp only [AJ] at e
  omega
theorem aq.list_inj (I : aq X pins σ H s) (h : bu X.K H a xs) (h' : bu X.K H a ys) : xs = ys := by
 obtain ⟨its,r,⟨o,n,e,_,_,d⟩,_⟩ := I.list h
 obtain ⟨its',r',⟨o',n',e',_,_,d'⟩,_⟩ := I.list h'
 rw [e] at e'; cases e'
 rw [d] at d'
 injection d' with d1 _
 have : its = its' := by simpa using congrArg Array.toList d1
 subst this
 exact r.inj r'
end
abbrev Cx.wish (X : Cx) (E : Value -> Shared -> Prop) : Cx := { X with xe := E }
abbrev Cx.nox (X : Cx) : Cx := X.wish fun _ _ => False
theorem Cx.Ok.wish {X : Cx} (ok : X.Ok) (E : Value -> Shared -> Prop) : (X.wish E).Ok :=
 ⟨ok.mod,ok.kind,ok.glob,ok.blt,ok.above,ok.inj,ok.has,ok.cab,ok.hd,ok.frames,ok.stk,ok.exf,ok.bs,ok.bsz,ok.noex,ok.exfs,ok.funs,ok.frf⟩
theorem Cx.Ok.unwish {X : Cx} {E : Value -> Shared -> Prop} (ok : (X.wish E).Ok) : X.Ok :=
 ⟨ok.mod,ok.kind,ok.glob,ok.blt,ok.above,ok.inj,ok.has,ok.cab,ok.hd,ok.frames,ok.stk,ok.exf,ok.bs,ok.bsz,ok.noex,ok.exfs,ok.funs,ok.frf⟩
section
variable {X : Cx} {pins : List (Addr × Obj)} {σ : St} {H : Hp} {s : Shared} {E : Value -> Shared -> Prop}
theorem aq.wish (I : aq X pins σ H s) (E : Value -> Shared -> Prop) : aq (X.wish E) pins σ H s := ⟨I.ok.wish E,I.os,I.bare,I.base,I.loc,I.cell,I.free,I.freeC,I.pin,I.hok,I.len⟩
theorem aq.unwish (I : aq (X.wish E) pins σ H s) : aq X pins σ H s := ⟨I.ok.unwish,I.os,I.bare,I.base,I.loc,I.cell,I.free,I.freeC,I.pin,I.hok,I.len⟩
theorem SP.unwish {D : Ends} {f : Flow} {s' : Shared} (h : SP (X.wish E) pins D f s') : SP X pins D f s' := by
 cases f with
 | next => obtain ⟨σ',H',I,q⟩ := h; exact ⟨σ',H',I.unwish,q⟩
 | brk => obtain ⟨σ',H',I,q⟩ := h; exact ⟨σ',H',I.unwish,q⟩
 | cont => obtain ⟨σ',H',I,q⟩ := h; exact ⟨σ',H',I.unwish,q⟩
 | ret u => obtain ⟨v,σ',H',I,r,q⟩ := h; exact ⟨v,σ',H',I.unwish,r,q⟩
theorem gX.nox {st : List Stmt} {t : TS} (h : gX X.nox st t) : gX X st t := fun pins s σ H D I hw =>
 wpAny_mono (h pins s σ H D (I.wish _) hw) (fun _ _ q => q.unwish) fun _ _ z => False.elim z
end
section
variable {X : Cx} {st : Stmt} {rest : List Stmt} {t u : TS} {e : Expr} {te : TE} {pos : Pos}
def bA : TS := fun D σ H => D.nx σ H
def wA (t u : TS) : TS := fun D σ H => t { D with nx := u D } σ H
theorem aI : gX X [] bA := fun _ _ σ H _ I h => wpAny_execs_nil ⟨σ,H,I,h⟩
theorem ag (h1 : PS X st t) (h2 : gX X rest u) : gX X (st :: rest) (wA t u) := by
 intro pins s σ H D I h
 refine wpAny_execs_cons (aZ (h1 pins s σ H { D with nx := u D } I h) fun f s1 q => ?_)
 cases f with
 | next =>
  obtain ⟨σ',H',I',q⟩ := q
  exact h2 pins s1 σ' H' D I' q
 | ret v => exact q
 | brk => exact q
 | cont => exact q
theorem ak (h1 : PS X st t) : gX X [st] t := by
 intro pins s σ H D I h
 refine wpAny_execs_cons (aZ (h1 pins s σ H D I h) fun f s1 q => ?_)
 cases f with
 | next => exact wpAny_execs_nil q
 | ret v => exact q
 | brk => exact q
 | cont => exact q
theorem aq.quiet {pins : List (Addr × Obj)} {σ : St} {H : Hp} {s : Shared} (I : aq X pins σ H s) : interactive X.env = false := by simp [interactive,I.ok.kind]
def wB (te : TE) : TS := fun D σ H => te σ H fun _ H1 => D.nx σ H1
theorem bC (he : PE X e te) (hs : swapsWith e none pos.line X.env = pure false := by rfl) : PS X (.Expr e pos) (wB te) := by
 intro pins s σ H D I h
 exact wpAny_Expr_any (aZ (he pins s σ H _ I h) fun v s1 ⟨x,H1,I1,r1,q1⟩ => ⟨σ,H1,I1,q1⟩) I.quiet hs
def yM (te : TE) : TS := fun D σ H => te σ H D.rt
theorem aG (he : PE X e te) : PS X (.Return (some e) pos) (yM te) := by
 intro pins s σ H D I h
 exact wpAny_Return_some (aZ (he pins s σ H _ I h) fun v s1 ⟨x,H1,I1,r1,q1⟩ => ⟨x,σ,H1,I1,r1,q1⟩)
def yN (c : TT) (t u : TS) : TS := fun D σ H => c σ H fun b H1 => if b = true then t D σ H1 else u D σ H1
theorem a6 {c : Expr} {a b : List Stmt} {tc : TT} (hc : PT X c tc) (ha : gX X a t) (hb : gX X b u) : PS X (.If c a b pos) (yN tc t u) := by
 intro pins s σ H D I h
 refine wpAny_If (aZ (hc pins s σ H _ I h) fun d s1 ⟨H1,I1,q1⟩ => ?_)
 cases d with
 | true => exact ha pins s1 σ H1 D I1 q1
 | false => exact hb pins s1 σ H1 D I1 q1
end
abbrev TG := V -> St -> Hp -> (St -> Hp -> Prop) -> Prop
def PG (X : Cx) (target : Expr) (t : TG) : Prop :=
 ∀ (pins : List (Addr × Obj)) (s : Shared) (σ : St) (H : Hp) (v : V) (u : Value) (Q : St -> Hp -> Prop),aq X pins σ H s -> RelV v u -> t v σ H Q ->
  wpAny (model X.prog X.w) X.A (assign target X.env u) (fun _ s' => ∃ σ' H',aq X pins σ' H' s' /\ Q σ' H') X.xe s
section
variable {X : Cx} {pos : Pos}
def bv (i : Nat) : TG := fun v σ H Q => Q (σ.set i (some v)) H
theorem ce {i : Nat} {x : Str} (hN : X.N.Nodup) (hi : X.N[i]? = some x) (hx : Loc X.env.scope x) (hf : X.fn x = true ∨ X.env.scope.names.lookup x = some .local := by first | exact .inl rfl | exact .inr rfl | assumption) : PG X (.Name x pos) (bv i) := by
 intro pins s σ H v u Q I r h
 exact wpAny_assign_Name (gW I hN hi hx r (fun s' I' => ⟨_,H,I',h⟩) hf)
def wC (te : TE) (g : TG) : TS := fun D σ H => te σ H fun x H1 => g x σ H1 D.nx
theorem aL {i : Nat} {x : Str} {e : Expr} {te : TE} {pos' : Pos} (hN : X.N.Nodup) (hi : X.N[i]? = some x) (hx : Loc X.env.scope x) (he : PE X e te) (hs : swapsWith e (some (.Name x pos')) pos.line X.env = pure false := by rfl) (hf : X.fn x = true ∨ X.env.scope.names.lookup x = some .local := by first | exact .inl rfl | exact .inr rfl | assumption) :
  PS X (.Assign [.Name x pos'] e pos) (wC te (bv i)) := by
 intro pins s σ H D I h
 refine wpAny_Assign_Name (aZ (he pins s σ H _ I h) fun v s1 ⟨y,H1,I1,r1,q1⟩ => ?_) hs
 exact gW I1 hN hi hx r1 (fun s2 I2 => ⟨_,H1,I2,q1⟩) hf
end
section
variable {X : Cx} {pos : Pos}
def rb (c : TT) (tb : TS) : TS := fun D σ H => ∃ W : Nat -> St -> Hp -> Prop,(∃ m,W m σ H) /\ ∀ m σ H,W m σ H ->
 c σ H fun b H1 => if b = true then ∃ N : St -> Hp -> Prop,(∀ σ' H',N σ' H' -> ∃ m',m' < m /\ W m' σ' H') /\ tb { D with nx := N,ct := N,bk := D.nx } σ H1 else D.nx σ H1
theorem hG {c : Expr} {body : List Stmt} {tc : TT} {tb : TS} (hp : PassesOwn (model X.prog X.w) X.A X.env X.xe) (hc : PT X c tc) (hb : gX X body tb) : PS X (.While c body [] pos) (rb tc tb) := by
 intro pins s σ H D I h
 obtain ⟨W,⟨m0,w0⟩,turn⟩ := h
 refine wpAny_While (codeAny_whileLoop (fun n s' => ∃ σ' H',aq X pins σ' H' s' /\ W n σ' H') ?_ m0 ⟨σ,H,I,w0⟩)
 rintro n s1 ⟨σ1,H1,I1,w1⟩
 refine wpAny_passesOwn hp (aZ (hc pins s1 σ1 H1 _ I1 (turn n σ1 H1 w1)) fun b s2 ⟨H2,I2,q2⟩ => ?_)
 cases b with
 | true =>
  obtain ⟨N,hN,q2⟩ := q2
  rw [if_pos rfl]
  refine wpAny_passesOwn hp (aZ (hb pins s2 σ1 H2 _ I2 q2) fun f s3 q3 => ?_)
  cases f with
  | next =>
   obtain ⟨σ3,H3,I3,n3⟩ := q3
   obtain ⟨m',hm,w3⟩ := hN σ3 H3 n3
   exact ⟨m',hm,σ3,H3,I3,w3⟩
  | cont =>
   obtain ⟨σ3,H3,I3,n3⟩ := q3
   obtain ⟨m',hm,w3⟩ := hN σ3 H3 n3
   exact ⟨m',hm,σ3,H3,I3,w3⟩
  | brk => exact q3
  | ret v => exact q3
 | false =>
  rw [if_neg AM]
  exact wpAny_execs_nil ⟨σ1,H2,I2,q2⟩
end
structure It where
 go : Nat -> Hp -> Prop
 yld : Nat -> Hp -> V -> Hp -> Prop
 stop : Nat -> Hp -> Prop
def dR (X : Cx) (pins : List (Addr × Obj)) (H : Hp) (b : Addr) : Prop :=
 H b = none /\ b ≠ X.env.locals /\ b ∉ X.fs /\ (b ∈ X.ex ∨ X.s₀.heap.objs.size <= b) /\ (∀ x c,X.env.cells.lookup x = some c -> c ≠ b) /\ ∀ p ∈ X.pn ++ pins,p.1 ≠ b
theorem aq.fpOk {X : Cx} {pins : List (Addr × Obj)} {σ : St} {H H' : Hp} {s : Shared} {b : Addr} (I : aq X pins σ H s) (hb : s.heap.objs.size <= b) (hn : H' b = none) : dR X pins H' b := by
 refine ⟨hn,Bl (AU I.lt hb),I.nofs hb,.inr (Ae I.sz hb),fun x c e z => ?_,fun p hp z => ?_⟩
 ·obtain ⟨v,q⟩ := I.cell x c e
  exact absurd (AU q.lt (by rw [z]; exact hb)) (Nat.lt_irrefl _)
 ·exact absurd (AU (Heap.lt_size (I.pin p hp).1) (by rw [z]; exact hb)) (Nat.lt_irrefl _)
structure Turn (P : Program) (w : World) (K : A0) (tg : Expr) (J : It) (fp : List Addr) (it : Addr) (tn : Nat -> Heap -> Prop) : Prop where
 mem : it ∈ fp
 obj : ∀ i h,tn i h -> ∀ b ∈ fp,∃ o,h.get? b = some o /\ ∀ v,o.data ≠ .cell v
 keep : ∀ i h h',tn i h -> (∀ b ∈ fp,∀ o,h.get? b = some o -> h'.get? b = some o) -> tn i h'
 item : ∀ (X : Cx),X.prog = P -> X.w = w -> X.K = K -> X.calm = true -> ∀ (i : Nat) (pins : List (Addr × Obj)) (s : Shared) (σ : St) (H : Hp) (E : Value -> Shared -> Prop),aq X pins σ H s -> (∀ b ∈ fp,dR X pins H b) -> tn i s.heap -> J.go i H ->
  wpAny (model P w) X.A (pyNext (.ref it)) (fun r s1 => ∃ u,r = some u /\
   wpAny (model P w) X.A (letOwnedTupleGo tg (.ref it) u) (fun _ s2 => ∃ x H',aq X pins σ H' s2 /\ RelV x u /\ J.yld i H x H' /\ tn (i + 1) s2.heap /\ ∀ b ∈ fp,H' b = none) E s1) E s
 done : ∀ (X : Cx),X.prog = P -> X.w = w -> X.K = K -> X.calm = true -> ∀ (i : Nat) (pins : List (Addr × Obj)) (s : Shared) (σ : St) (H : Hp) (E : Value -> Shared -> Prop),aq X pins σ H s -> (∀ b ∈ fp,dR X pins H b) -> tn i s.heap -> J.stop i H ->
  wpAny (model P w) X.A (pyNext (.ref it)) (fun r s1 => r = none /\ aq X pins σ H s1) E s
 self : ∀ (A : Around) (i : Nat) (s : Shared) (Q : Value -> Shared -> Prop) (E : Value -> Shared -> Prop),tn i s.heap -> Q (.ref it) s -> wpAny (model P w) A (pyIter (.ref it)) Q E s
abbrev TI := St -> Hp -> (It -> Hp -> Prop) -> Prop
def yO (X : Cx) (pins : List (Addr × Obj)) (σ : St) (tg : Expr) (R : It -> Hp -> Prop) (itv : Value) (s2 : Shared) : Prop :=
 ∃ (it : Addr) (fp : List Addr) (tn : Nat -> Heap -> Prop) (J : It) (H' : Hp),itv = .ref it /\ aq X pins σ H' s2 /\ Turn X.prog X.w X.K tg J fp it tn /\ tn 0 s2.heap /\ (∀ b ∈ fp,dR X pins H' b) /\ R J H'
def PI (X : Cx) (tg iter : Expr) (wi : TI) : Prop :=
 ∀ (pins : List (Addr × Obj)) (s : Shared) (σ : St) (H : Hp) (R : It -> Hp -> Prop),aq X pins σ H s -> wi σ H R ->
  wpAny (model X.prog X.w) X.A (eval iter X.env) (fun v s1 => wpAny (model X.prog X.w) X.A (pyIter v) (yO X pins σ tg R) X.xe s1) X.xe s
theorem kW {M : Model} {A : Around} {E : Value -> Shared -> Prop} {s : Shared} {tg : Expr} {it : Addr} {u : Value} {o : Obj} {n : String} {vs : Array Value} {Q : Unit -> Shared -> Prop} (ho : s.heap.get? it = some o) (hc : o.cls = .type n) (hd : o.data = .fields vs)
    (hn : ["enumerate","zip","dict_itemiterator","dict_reverseitemiterator","odict_iterator","itertools.zip_longest","itertools.pairwise"].contains n = false) (hQ : Q () s) : wpAny M A (letOwnedTupleGo tg (.ref it) u) Q E s := by
  unfold letOwnedTupleGo
  cases tg <;> first
    | exact wpAny_pure hQ
    | (cases u <;> first
        | exact wpAny_pure hQ
        | (refine wpAny_bind (wpAny_load ho ?_)
           rw [hc,hd]
           show wpAny M A (if (["enumerate","zip","dict_itemiterator","dict_reverseitemiterator","odict_iterator","itertools.zip_longest","itertools.pairwise"].contains n && vs[0]? == some (rawInt _)) = true then _ else _) Q E s
           rw [if_neg (by intro h; rw [hn,Bool.false_and] at h; cases h)]
           exact wpAny_pure hQ))
def vq (K : A0) (a : Addr) : It :=
 ⟨fun i H => ∃ xs x,bu K H a xs /\ xs[i]? = some x,fun i H x H' => H' = H /\ ∀ xs,bu K H a xs -> xs[i]? = some x,fun i H => ∃ xs,bu K H a xs /\ xs.length <= i⟩
def wn (lo : Int) (n : Nat) : It := ⟨fun i _ => i < n,fun i H x H' => H' = H /\ x = .int (lo + i),fun i _ => n <= i⟩
theorem pI {P : Program} {w : World} {K : A0} {tg : Expr} (a it : Addr) : Turn P w K tg (vq K a) [it] it (fun i h => h.IsListIter it a i) where
 mem := by simp
 obj := fun i h st b hb => by
  have e : b = it := by simpa using hb
  subst e
  obtain ⟨o,e,c,d⟩ := st
  exact ⟨o,e,fun v z => by rw [d] at z; cases z⟩
 keep := fun i h h' st k => st.at fun o e => k it (by simp) o e
 item := by
  intro X hP hw hK hc i pins s σ H E I hf st hg
  subst hP hw hK
  obtain ⟨xs,x,hq,hx⟩ := hg
  obtain ⟨its,rv,p,hz⟩ := I.list hq
  obtain ⟨u,hu,ru⟩ := rv.get hx
  obtain ⟨f0,f1,f2,f3,f4,f5⟩ := hf it (by simp)
  refine wpAny_pyNext_list_item st p.isList (x := u) (by simpa using hu) fun h' st' sb => ?_
  have I1 : aq X pins σ H { s with heap := h' } := I.turned (t' := s.toks) (fun b o hb e => (sb.2 b hb).trans e) f0 f1 f3 f4 f5
  obtain ⟨o,e,c,d⟩ := id st'
  exact ⟨u,rfl,kW (s := { s with heap := h' }) e c d (by decide) ⟨x,H,I1,ru,⟨rfl,fun ys hy => by rw [I.list_inj hy hq]; exact hx⟩,st',fun b hb => (hf b hb).1⟩⟩
 done := by
  intro X hP hw hK hc i pins s σ H E I hf st hg
  subst hP hw hK
  obtain ⟨xs,hq,hx⟩ := hg
  obtain ⟨its,rv,p,hz⟩ := I.list hq
  obtain ⟨f0,f1,f2,f3,f4,f5⟩ := hf it (by simp)
  have hl := rv.length
  exact wpAny_pyNext_list_end (I.ok.hd hc) st p.isList (by simp; omega) fun h' eb => ⟨rfl,I.turned (t' := s.toks) (fun b o hb e => eb b o hb e) f0 f1 f3 f4 f5⟩
 self := fun _ _ _ _ _ st h => wpAny_pyIter_listiter st h
theorem mS {P : Program} {w : World} {K : A0} {tg : Expr} (it : Addr) (lo : Int) (n : Nat) : Turn P w K tg (wn lo n) [it] it (fun i h => IsRangeIter h it (lo + (i : Nat) * 1) ((n : Int) - (i : Nat)) 1) where
 mem := by simp
 obj := fun i h st b hb => by
  have e : b = it := by simpa using hb
  subst e
  exact ⟨_,st,fun v z => by
   have z' : Data.fields _ = Data.cell v := z
   cases z'⟩
 keep := fun i h h' st k => k it (by simp) _ st
 item := by
  intro X hP hw hK hc i pins s σ H E I hf st hg
  subst hP hw hK
  obtain ⟨f0,f1,f2,f3,f4,f5⟩ := hf it (by simp)
  have W := Walks.range (prog := X.prog) (w := X.w) (I.ok.hd hc) it lo 1 n
  refine W.item i s _ _ hg st fun v h' tk hv st' kk => ?_
  obtain ⟨t,rfl⟩ := hv
  have I1 : aq X pins σ H { s with heap := h',toks := tk } := I.turned (fun b o hb e => kk b o (by simpa using hb) e) f0 f1 f3 f4 f5
  refine ⟨_,rfl,kW (s := { s with heap := h',toks := tk }) (n := "range_iterator") st' rfl rfl (by decide) ⟨.int (lo + i),H,I1,⟨t,?_⟩,⟨rfl,rfl⟩,st',fun b hb => (hf b hb).1⟩⟩
  rw [Int.mul_one]
 done := by
  intro X hP hw hK hc i pins s σ H E I hf st hg
  subst hP hw hK
  obtain ⟨f0,f1,f2,f3,f4,f5⟩ := hf it (by simp)
  exact wpAny_pyNext_range_end (I.ok.hd hc) st (by have : n <= i := hg; omega) fun h' eb => ⟨rfl,I.turned (t' := s.toks) (fun b o hb e => eb b o hb e) f0 f1 f3 f4 f5⟩
 self := fun _ _ _ _ _ st h => wpAny_pyIter_rangeiter st h
section
variable {X : Cx} {tg : Expr}
def wD (K : A0) (tl : TE) : TI := fun σ H R => tl σ H fun x H1 => ∃ a,x = .ref a /\ (∃ xs,bu K H1 a xs) /\ R (vq K a) H1
theorem dA {l : Expr} {tl : TE} (hl : PE X l tl) : PI X tg l (wD X.K tl) := by
 intro pins s σ H R I h
 refine aZ (hl pins s σ H _ I h) fun v s1 ⟨x,H1,I1,r1,q1⟩ => ?_
 obtain ⟨a,e,⟨xs,hq⟩,q⟩ := q1
 subst e
 cases r1
 obtain ⟨its,rv,p,hz⟩ := I1.list hq
 refine wpAny_pyIter_list p.isList ?_
 refine ⟨s1.heap.objs.size,[s1.heap.objs.size],_,_,H1,rfl,I1.kept (t' := s1.toks) fun b o e => Heap.get?_push_of_some _ e,pI a _,⟨_,Heap.get?_push_size _ rfl,rfl,rfl⟩,fun b hb => ?_,q⟩
 have e : b = s1.heap.objs.size := by simpa using hb
 subst e
 exact I1.fpOk (A5 _) (I1.hok.fresh (A5 _))
theorem re {pins : List (Addr × Obj)} {σ : St} {H : Hp} {s : Shared} {R : It -> Hp -> Prop} {E : Value -> Shared -> Prop} {lo hi : Int} {t u v : Tok} {tk : Nat} (I : aq X pins σ H s) (h1 : -(2 ^ 62) <= lo) (h2 : lo < 2 ^ 62) (h3 : -(2 ^ 62) <= hi) (h4 : hi < 2 ^ 62)
  (q : R (wn lo (hi - lo).toNat) H) : wpAny (model X.prog X.w) X.A (pyIter (.ref s.heap.objs.size)) (yO X pins σ tg R) E { s with heap := s.heap.push { cls := .type "range",data := .fields #[.int lo t,.int hi u,.int 1 v] },toks := tk } := by
 refine wpAny_pyIter_range (IsRange.new ..) (small_one h1 h2 h3 h4) ?_
 have I1 : aq X pins σ H { s with heap := s.heap.push { cls := .type "range",data := .fields #[.int lo t,.int hi u,.int 1 v] },toks := tk } := I.kept fun b o e => Heap.get?_push_of_some _ e
 refine ⟨(s.heap.push { cls := .type "range",data := .fields #[.int lo t,.int hi u,.int 1 v] }).objs.size,[(s.heap.push { cls := .type "range",data := .fields #[.int lo t,.int hi u,.int 1 v] }).objs.size],_,_,H,rfl,
  I1.kept (t' := tk) fun b o e => Heap.get?_push_of_some _ e,mS _ lo (hi - lo).toNat,?_,fun b hb => ?_,q⟩
 ·have e1 : lo + ((0 : Nat) : Int) * 1 = lo := by simp
  have e2 : (((hi - lo).toNat : Nat) : Int) - ((0 : Nat) : Int) = Builtin.Range.rangeSize lo hi 1 := by rw [rangeSize_one]; split <;> omega
  show IsRangeIter _ _ (lo + ((0 : Nat) : Int) * 1) ((((hi - lo).toNat : Nat) : Int) - ((0 : Nat) : Int)) 1
  rw [e1,e2]
  exact Heap.get?_push_size _ rfl
 ·have e : b = (s.heap.push { cls := .type "range",data := .fields #[.int lo t,.int hi u,.int 1 v] }).objs.size := by simpa using hb
  subst e
  exact I1.fpOk (A5 _) (I1.hok.fresh (A5 _))
def wE (ta : TA) : TI := fun σ H R => ta σ H fun vs H1 => ∃ j : Int,vs = [.int j] /\ -(2 ^ 62) <= j /\ j < 2 ^ 62 /\ R (wn 0 j.toNat) H1
theorem pJ {a : Expr} {ta : TA} {p pos : Pos} (hg : Gl X "range") (hm : X.mg "range" = none) (ha : PA X [a] ta) (hs : starEach [a] X.env = [(false,eval a X.env)] := by rfl) : PI X tg (.Call (.Name "range" p) [a] [] pos) (wE ta) := by
 intro pins s σ H R I h
 refine Call_ (dy I hg hm boot_range (B1 (aZ (ha pos pins s σ H _ I h) fun us s1 ⟨vs,H1,I1,r1,q1⟩ => ?_) hs rfl))
 obtain ⟨j,e,q1,q2,q⟩ := q1
 subst e
 cases r1 with
 | cons r rr =>
  cases rr
  obtain ⟨t,rfl⟩ := r
  exact call_range_1 (re I1 (by omega) (by omega) q1 q2 (by simpa using q))
def yP (wi : TI) (g : TG) (tb : TS) : TS := fun D σ H => wi σ H fun J H1 => ∃ W : Nat -> Nat -> St -> Hp -> Prop,(∃ m,W 0 m σ H1) /\ ∀ i m σ H,W i m σ H ->
 (J.stop i H /\ D.nx σ H) ∨ (J.go i H /\ ∃ N : St -> Hp -> Prop,(∀ σ' H',N σ' H' -> ∃ m',m' < m /\ W (i + 1) m' σ' H') /\ ∀ x H',J.yld i H x H' -> g x σ H' fun σ2 H2 => tb { D with nx := N,ct := N,bk := D.nx } σ2 H2)
def fT (fp : List Addr) (h : Heap) : List (Addr × Obj) := fp.filterMap fun b => (h.get? b).map fun o => (b,o)
theorem bN {fp : List Addr} {h : Heap} {b : Addr} {o : Obj} (hb : b ∈ fp) (e : h.get? b = some o) : (b,o) ∈ fT fp h := List.mem_filterMap.mpr ⟨b,hb,by rw [e]; rfl⟩
theorem pK {fp : List Addr} {h : Heap} {p : Addr × Obj} (hp : p ∈ fT fp h) : p.1 ∈ fp /\ h.get? p.1 = some p.2 := by
 obtain ⟨b,hb,e⟩ := List.mem_filterMap.mp hp
 cases q : h.get? b with
 | none => rw [q] at e; cases e
 | some o =>
  rw [q] at e
  have e' : (b,o) = p := Ao e
  subst e'
  exact ⟨hb,q⟩
theorem aq.pinned {pins : List (Addr × Obj)} {σ : St} {H : Hp} {s : Shared} {fp : List Addr} (I : aq X pins σ H s) (hf : ∀ b ∈ fp,dR X pins H b) (ho : ∀ b ∈ fp,∃ o,s.heap.get? b = some o /\ ∀ v,o.data ≠ .cell v) : aq X (pins ++ fT fp s.heap) σ H s :=
 I.pins_of fun p hp => (A9.mp hp).elim (fun z => I.pin p (AD _ z)) fun z => by
  obtain ⟨hb,e⟩ := pK z
  obtain ⟨f0,f1,f2,_⟩ := hf p.1 hb
  obtain ⟨o,e',d⟩ := ho p.1 hb
  rw [e] at e'; cases e'
  exact ⟨e,f0,f1,f2,d⟩
theorem aq.unpinned {pins pl : List (Addr × Obj)} {σ : St} {H : Hp} {s : Shared} (I : aq X (pins ++ pl) σ H s) : aq X pins σ H s := I.pins_of fun p hp => I.pin p (AD _ (Aj _ hp))
theorem eT {iter : Expr} {body : List Stmt} {wi : TI} {g : TG} {tb : TS} {pos : Pos} (hp : PassesOwn (model X.prog X.w) X.A X.env X.xe) (hc : X.calm = true) (hi : PI X tg iter wi) (hg : PG X tg g) (hb : gX X body tb)
  (hs : ∀ x,foldedSetIterable iter X.env x = pure x := by intro _; rfl) : PS X (.For tg iter body [] pos) (yP wi g tb) := by
 intro pins s σ H D I h
 refine wpAny_For (aZ (hi pins s σ H _ I h) fun v s1 h1 => aZ h1 fun itv s2 h2 => ?_) hs
 obtain ⟨it,fp,tn,J,H2,e,I2,T,st2,f2,W,⟨m0,w0⟩,turn⟩ := h2
 subst e
 have stat : ∀ {H' : Hp},(∀ b ∈ fp,H' b = none) -> ∀ b ∈ fp,dR X pins H' b := fun hn b hb => ⟨hn b hb,(f2 b hb).2⟩
 refine codeAny_forLoop_any (fun n s' => ∃ i σ' H',aq X pins σ' H' s' /\ tn i s'.heap /\ (∀ b ∈ fp,H' b = none) /\ W i n σ' H') ?_ m0 ⟨0,σ,H2,I2,st2,fun b hb => (f2 b hb).1,w0⟩
 rintro n s3 ⟨i,σ3,H3,I3,st3,fr3,w3⟩
 rcases turn i n σ3 H3 w3 with ⟨stop,qn⟩ | ⟨go,N,hN,step⟩
 ·refine wpAny_passesOwn hp (aZ (T.done X rfl rfl rfl hc i pins s3 σ3 H3 X.xe I3 (stat fr3) st3 stop) fun r s4 ⟨hr,I4⟩ => ?_)
  subst hr
  exact wpAny_execs_nil ⟨σ3,H3,I4,qn⟩
 ·refine wpAny_passesOwn hp (aZ (T.item X rfl rfl rfl hc i pins s3 σ3 H3 X.xe I3 (stat fr3) st3 go) fun r s4 ⟨u,hr,h4⟩ => ?_)
  subst hr
  refine wpAny_passesOwn hp (aZ h4 fun _ s5 ⟨x,H5,I5,r5,y5,st5,fr5⟩ => ?_)
  have I5' := I5.pinned (stat fr5) (T.obj _ _ st5)
  refine wpAny_passesOwn hp (aZ (hg _ s5 σ3 H5 x u _ I5' r5 (step x H5 y5)) fun _ s6 ⟨σ6,H6,I6,q6⟩ => ?_)
  refine wpAny_passesOwn hp (aZ (hb _ s6 σ6 H6 _ I6 q6) fun f s7 q7 => ?_)
  have again : ∀ {σ7 : St} {H7 : Hp},aq X (pins ++ fT fp s5.heap) σ7 H7 s7 -> N σ7 H7 -> ∃ m,m < n /\ ∃ i σ' H',aq X pins σ' H' s7 /\ tn i s7.heap /\ (∀ b ∈ fp,H' b = none) /\ W i m σ' H' := fun {σ7 H7} I7 n7 => by
   obtain ⟨m',hm,w7⟩ := hN σ7 H7 n7
   refine ⟨m',hm,i + 1,σ7,H7,I7.unpinned,T.keep _ _ _ st5 fun b hb o e => (I7.pin (b,o) (AD _ (AD _ (bN hb e)))).1,fun b hb => ?_,w7⟩
   obtain ⟨o,e,d⟩ := T.obj _ _ st5 b hb
   exact (I7.pin (b,o) (AD _ (AD _ (bN hb e)))).2.1
  cases f with
  | next => obtain ⟨σ7,H7,I7,n7⟩ := q7; exact again I7 n7
  | cont => obtain ⟨σ7,H7,I7,n7⟩ := q7; exact again I7 n7
  | brk => obtain ⟨σ7,H7,I7,q7⟩ := q7; exact ⟨σ7,H7,I7.unpinned,q7⟩
  | ret v => obtain ⟨x7,σ7,H7,I7,r7,q7⟩ := q7; exact ⟨x7,σ7,H7,I7.unpinned,r7,q7⟩
end
theorem fo {K : A0} {a : Addr} {xs : List V} {g : TG} {tb : TS} {D : Ends} {σ : St} {H : Hp} (Pv : Nat -> St -> Hp -> Prop) (h0 : Pv 0 σ H) (hl : ∀ i σ H,i <= xs.length -> Pv i σ H -> bu K H a xs)
  (hs : ∀ i x σ H,xs[i]? = some x -> Pv i σ H -> g x σ H fun σ2 H2 => tb { D with nx := Pv (i + 1),ct := Pv (i + 1),bk := D.nx } σ2 H2) (hd : ∀ σ H,Pv xs.length σ H -> D.nx σ H) :
  ∃ W : Nat -> Nat -> St -> Hp -> Prop,(∃ m,W 0 m σ H) /\ ∀ i m σ H,W i m σ H ->
   ((vq K a).stop i H /\ D.nx σ H) ∨ ((vq K a).go i H /\ ∃ N : St -> Hp -> Prop,(∀ σ' H',N σ' H' -> ∃ m',m' < m /\ W (i + 1) m' σ' H') /\ ∀ x H',(vq K a).yld i H x H' -> g x σ H' fun σ2 H2 => tb { D with nx := N,ct := N,bk := D.nx } σ2 H2) := by
 refine ⟨fun i m σ H => m = xs.length - i /\ i <= xs.length /\ Pv i σ H,⟨xs.length,by simp,Al _,h0⟩,?_⟩
 rintro i m σ H ⟨rfl,hi,p⟩
 have q := hl i σ H hi p
 by_cases hlt : i < xs.length
 ·refine .inr ⟨⟨xs,xs[i],q,by simp [hlt]⟩,Pv (i + 1),fun σ' H' p' => ⟨xs.length - (i + 1),by omega,rfl,hlt,p'⟩,fun x H' y => ?_⟩
  obtain ⟨e,y⟩ := y
  subst e
  exact hs i x σ _ (y xs q) p
 ·have e : i = xs.length := by omega
  subst e
  exact .inl ⟨⟨xs,q,A5 _⟩,hd σ H p⟩
theorem pM {lo : Int} {n : Nat} {g : TG} {tb : TS} {D : Ends} {σ : St} {H : Hp} (Pv : Nat -> St -> Hp -> Prop) (h0 : Pv 0 σ H)
  (hs : ∀ i σ H,i < n -> Pv i σ H -> g (.int (lo + i)) σ H fun σ2 H2 => tb { D with nx := Pv (i + 1),ct := Pv (i + 1),bk := D.nx } σ2 H2) (hd : ∀ σ H,Pv n σ H -> D.nx σ H) :
  ∃ W : Nat -> Nat -> St -> Hp -> Prop,(∃ m,W 0 m σ H) /\ ∀ i m σ H,W i m σ H ->
   ((wn lo n).stop i H /\ D.nx σ H) ∨ ((wn lo n).go i H /\ ∃ N : St -> Hp -> Prop,(∀ σ' H',N σ' H' -> ∃ m',m' < m /\ W (i + 1) m' σ' H') /\ ∀ x H',(wn lo n).yld i H x H' -> g x σ H' fun σ2 H2 => tb { D with nx := N,ct := N,bk := D.nx } σ2 H2) := by
 refine ⟨fun i m σ H => m = n - i /\ i <= n /\ Pv i σ H,⟨n,by simp,Al _,h0⟩,?_⟩
 rintro i m σ H ⟨rfl,hi,p⟩
 by_cases hlt : i < n
 ·refine .inr ⟨hlt,Pv (i + 1),fun σ' H' p' => ⟨n - (i + 1),by omega,rfl,hlt,p'⟩,fun x H' y => ?_⟩
  obtain ⟨e,y⟩ := y
  subst e y
  exact hs i σ _ hlt p
 ·have e : i = n := by omega
  subst e
  exact .inl ⟨A5 _,hd σ H p⟩
theorem hJ {c : TT} {tb : TS} {D : Ends} {σ : St} {H : Hp} (Pv : St -> Hp -> Prop) (μ : St -> Hp -> Nat) (h0 : Pv σ H)
  (hs : ∀ σ H,Pv σ H -> c σ H fun b H1 => if b = true then tb { D with nx := fun σ' H' => Pv σ' H' /\ μ σ' H' < μ σ H,ct := fun σ' H' => Pv σ' H' /\ μ σ' H' < μ σ H,bk := D.nx } σ H1 else D.nx σ H1)
  (mono : ∀ σ H Q Q',(∀ b H1,Q b H1 -> Q' b H1) -> c σ H Q -> c σ H Q') : rb c tb D σ H := by
 refine ⟨fun m σ H => m = μ σ H /\ Pv σ H,⟨_,rfl,h0⟩,?_⟩
 rintro m σ H ⟨rfl,p⟩
 refine mono σ H _ _ (fun b H1 q => ?_) (hs σ H p)
 cases b with
 | true => exact ⟨_,fun σ' H' ⟨p',l⟩ => ⟨_,l,rfl,p'⟩,q⟩
 | false => exact q
abbrev R2 := V -> V -> Hp -> VK -> Prop
def eM (X : Cx) (f : Value -> Value -> Sem Value) (r : R2) : Prop :=
 ∀ (pins : List (Addr × Obj)) (s : Shared) (σ : St) (H : Hp) (x y : V) (v u : Value) (Q : VK),aq X pins σ H s -> RelV x v -> RelV y u -> r x y H Q ->
  wpAny (model X.prog X.w) X.A (f v u) (EP X pins σ Q) X.xe s
def yQ (X : Cx) (f : Value -> Sem Value) (r : V -> Hp -> VK -> Prop) : Prop :=
 ∀ (pins : List (Addr × Obj)) (s : Shared) (σ : St) (H : Hp) (x : V) (v : Value) (Q : VK),aq X pins σ H s -> RelV x v -> r x H Q ->
  wpAny (model X.prog X.w) X.A (f v) (EP X pins σ Q) X.xe s
def cn (X : Cx) (f : Value) (r : List V -> Hp -> VK -> Prop) : Prop :=
 ∀ (pins : List (Addr × Obj)) (s : Shared) (σ : St) (H : Hp) (xs : List V) (us : List Value) (Q : VK),aq X pins σ H s -> aM xs us -> r xs H Q ->
  wpAny (model X.prog X.w) X.A (call f us) (EP X pins σ Q) X.xe s
def yh (r : R2) (ta tb : TE) : TE := fun σ H Q => ta σ H fun x H1 => tb σ H1 fun y H2 => r x y H2 Q
def zU (r : V -> Hp -> VK -> Prop) (ta : TE) : TE := fun σ H Q => ta σ H fun x H1 => r x H1 Q
def rI (C : Int -> Int -> Prop) (g : Int -> Int -> V) : R2 := fun x y H Q => ∃ i j,x = .int i /\ y = .int j /\ C i j /\ Q (g i j) H
def uW (g : Int -> Int -> V) : R2 := fun x y H Q => ∃ i j,x = .int i /\ y = .int j /\ Q (g i j) H
def rU (g : Int -> V) : V -> Hp -> VK -> Prop := fun x H Q => ∃ i,x = .int i /\ Q (g i) H
section
variable {X : Cx} {a b c : Expr} {ta tb tc : TE} {pos : Pos}
theorem vr (ha : PE X a ta) (hb : PE X b tb) {pins : List (Addr × Obj)} {s : Shared} {σ : St} {H : Hp} {R : V -> V -> Hp -> Prop} (I : aq X pins σ H s)
  (h : ta σ H fun x H1 => tb σ H1 fun y H2 => R x y H2) {Q : Value -> Shared -> Prop} {f : Value -> Value -> Sem Value}
  (hf : ∀ v u s2 x y H2,aq X pins σ H2 s2 -> RelV x v -> RelV y u -> R x y H2 -> wpAny (model X.prog X.w) X.A (f v u) Q X.xe s2) :
  wpAny (model X.prog X.w) X.A (eval a X.env) (fun v s₁ => wpAny (model X.prog X.w) X.A (eval b X.env) (fun u s₂ => wpAny (model X.prog X.w) X.A (f v u) Q X.xe s₂) X.xe s₁) X.xe s := by
 refine aZ (ha pins s σ H _ I h) fun v s1 ⟨x,H1,I1,r1,q1⟩ => ?_
 refine aZ (hb pins s1 σ H1 _ I1 q1) fun u s2 ⟨y,H2,I2,r2,q2⟩ => ?_
 exact hf v u s2 x y H2 I2 r1 r2 q2
theorem aJ {op : Operator} {r : R2} (ho : eM X (binaryOp op) r) (ha : PE X a ta) (hb : PE X b tb) : PE X (.BinOp a op b pos) (yh r ta tb) := by
 intro pins s σ H Q I h
 exact wpAny_BinOp (vr ha hb I h fun v u s2 x y H2 I2 rx ry q => ho pins s2 σ H2 x y v u Q I2 rx ry q)
theorem uX {op : UnaryOp} {r : V -> Hp -> VK -> Prop} (ho : yQ X (unaryOp op) r) (ha : PE X a ta) : PE X (.UnaryOp op a pos) (zU r ta) := by
 intro pins s σ H Q I h
 exact UnaryOp_ (aZ (ha pins s σ H _ I h) fun v s1 ⟨x,H1,I1,r1,q1⟩ => ho pins s1 σ H1 x v Q I1 r1 q1)
theorem yR {f : Value -> Value -> Sem Value} {C : Int -> Int -> Prop} {g : Int -> Int -> Int}
  (rule : ∀ (i j : Int) (t u : Tok) (s : Shared) (Q : Value -> Shared -> Prop) (E : Value -> Shared -> Prop),C i j -> Q (.int (g i j) s.toks) { s with toks := s.toks + 1 } -> wpAny (model X.prog X.w) X.A (f (.int i t) (.int j u)) Q E s) :
  eM X f (rI C fun i j => .int (g i j)) := by
 intro pins s σ H x y v u Q I rx ry h
 obtain ⟨i,j,rfl,rfl,hc,q⟩ := h
 obtain ⟨t,rfl⟩ := rx
 obtain ⟨t',rfl⟩ := ry
 exact rule i j t t' s _ _ hc ⟨.int (g i j),H,I.tok _,⟨_,rfl⟩,q⟩
theorem wF {f : Value -> Value -> Sem Value} {g : Int -> Int -> Int}
  (rule : ∀ (i j : Int) (t u : Tok) (s : Shared) (Q : Value -> Shared -> Prop) (E : Value -> Shared -> Prop),Q (.int (g i j) s.toks) { s with toks := s.toks + 1 } -> wpAny (model X.prog X.w) X.A (f (.int i t) (.int j u)) Q E s) :
  eM X f (uW fun i j => .int (g i j)) := by
 intro pins s σ H x y v u Q I rx ry h
 obtain ⟨i,j,rfl,rfl,q⟩ := h
 obtain ⟨t,rfl⟩ := rx
 obtain ⟨t',rfl⟩ := ry
 exact rule i j t t' s _ _ ⟨.int (g i j),H,I.tok _,⟨_,rfl⟩,q⟩
theorem tf {f : Value -> Value -> Sem Value} {g : Int -> Int -> Bool}
  (rule : ∀ (i j : Int) (t u : Tok) (s : Shared) (Q : Value -> Shared -> Prop) (E : Value -> Shared -> Prop),Q (.bool (g i j)) s -> wpAny (model X.prog X.w) X.A (f (.int i t) (.int j u)) Q E s) :
  eM X f (uW fun i j => .bl (g i j)) := by
 intro pins s σ H x y v u Q I rx ry h
 obtain ⟨i,j,rfl,rfl,q⟩ := h
 obtain ⟨t,rfl⟩ := rx
 obtain ⟨t',rfl⟩ := ry
 exact rule i j t t' s _ _ ⟨.bl (g i j),H,I,rfl,q⟩
theorem cW : eM X (binaryOp .Add) (uW fun i j => .int (i + j)) := wF fun _ _ _ _ _ _ _ q => add_int q
theorem rg : eM X (binaryOp .Sub) (uW fun i j => .int (i - j)) := wF fun _ _ _ _ _ _ _ q => sub_int q
theorem aY : eM X (binaryOp .Mod) (rI (fun _ j => j ≠ 0) fun i j => .int (i.fmod j)) := yR fun _ _ _ _ _ _ _ hc q => mod_int' hc q
theorem zV {f : Value -> Sem Value} {g : Int -> Int}
  (rule : ∀ (i : Int) (t : Tok) (s : Shared) (Q : Value -> Shared -> Prop) (E : Value -> Shared -> Prop),Q (.int (g i) s.toks) { s with toks := s.toks + 1 } -> wpAny (model X.prog X.w) X.A (f (.int i t)) Q E s) :
  yQ X f (rU fun i => .int (g i)) := by
 intro pins s σ H x v Q I rx h
 obtain ⟨i,rfl,q⟩ := h
 obtain ⟨t,rfl⟩ := rx
 exact rule i t s _ _ ⟨.int (g i),H,I.tok _,⟨_,rfl⟩,q⟩
theorem rh : yQ X (unaryOp .USub) (rU fun i => .int (-i)) := zV fun _ _ _ _ _ q => neg_int q
end
def wG : V -> V -> Bool
 | .non,.non => true | .non,.int _ => true | .int _,.non => true | .non,.bl _ => true | .bl _,.non => true | .non,.str _ => true | .str _,.non => true
 | .int _,.int _ => true | .bl _,.bl _ => true | .str _,.str _ => true | .byt _,.byt _ => true
 | .int _,.str _ => true | .str _,.int _ => true | .bl _,.str _ => true | .str _,.bl _ => true
 | _,_ => false
def zW : R2 := fun x y H Q => wG x y = true /\ Q (.bl (decide (x = y))) H
def zX : R2 := fun x y H Q => wG x y = true /\ Q (.bl (!decide (x = y))) H
theorem ow {i j : Int} : decide (V.int i = V.int j) = (i == j) := by
 rw [Bt]
 simp
theorem ri {i j : Bool} : decide (V.bl i = V.bl j) = (i == j) := by
 rw [Bt]
 simp
theorem oz {i j : Str} : decide (V.str i = V.str j) = (i == j) := by
 rw [Bt]
 simp
theorem oA {i j : Array UInt8} : decide (V.byt i = V.byt j) = (i.toList == j.toList) := by
 rw [Bt]
 cases i
 cases j
 simp
section
variable {X : Cx} {a b c : Expr} {ta tb tc : TE} {pos : Pos}
theorem aV {pins : List (Addr × Obj)} {σ : St} {H : Hp} {s : Shared} {Q : VK} {k k' : Bool} (I : aq X pins σ H s) (q : Q (.bl k) H) (e : k = k') : EP X pins σ Q (.bool k') s := by
 subst e
 exact ⟨.bl k,H,I,rfl,q⟩
theorem bX : eM X (compareOp .Eq) zW := by
 intro pins s σ H x y v u Q I rx ry h
 obtain ⟨hs,q⟩ := h
 cases x with
 | non =>
  cases rx
  cases y with
  | non => cases ry; exact PySem.EqNone.eq_none_none (aV I q (by simp))
  | bl j => cases ry; exact PySem.EqNone.eq_none_bool (aV I q (by simp))
  | int j => obtain ⟨t',rfl⟩ := ry; exact PySem.EqNone.eq_none_int (aV I q (by simp))
  | str j => obtain ⟨t',rfl⟩ := ry; exact PySem.EqNone.eq_none_str (aV I q (by simp))
  | _ => exact absurd (show false = true from hs) AM
 | bl i =>
  cases rx
  cases y with
  | non => cases ry; exact PySem.EqNone.eq_bool_none (aV I q (by simp))
  | bl j => cases ry; exact eq_bool (aV I q ri)
  | str j => obtain ⟨t',rfl⟩ := ry; exact PySem.EqMixed.eq_bool_str (aV I q (by simp))
  | _ => exact absurd (show false = true from hs) AM
 | int i =>
  obtain ⟨t,rfl⟩ := rx
  cases y with
  | non => cases ry; exact PySem.EqNone.eq_int_none (aV I q (by simp))
  | int j => obtain ⟨t',rfl⟩ := ry; exact eq_int (aV I q ow)
  | str j => obtain ⟨t',rfl⟩ := ry; exact PySem.EqMixed.eq_int_str (aV I q (by simp))
  | _ => exact absurd (show false = true from hs) AM
 | str i =>
  obtain ⟨t,rfl⟩ := rx
  cases y with
  | non => cases ry; exact PySem.EqNone.eq_str_none (aV I q (by simp))
  | bl j => cases ry; exact PySem.EqMixed.eq_str_bool (aV I q (by simp))
  | int j => obtain ⟨t',rfl⟩ := ry; exact PySem.EqMixed.eq_str_int (aV I q (by simp))
  | str j => obtain ⟨t',rfl⟩ := ry; exact eq_str (aV I q oz)
  | _ => exact absurd (show false = true from hs) AM
 | byt i =>
  obtain ⟨t,rfl⟩ := rx
  cases y with
  | byt j => obtain ⟨t',rfl⟩ := ry; exact PySem.W.eq_bytes (aV I q oA)
  | _ => exact absurd (show false = true from hs) AM
 | _ => cases y <;> exact absurd (show false = true from hs) AM
theorem jf : eM X (compareOp .NotEq) zX := by
 intro pins s σ H x y v u Q I rx ry h
 obtain ⟨hs,q⟩ := h
 cases x with
 | non =>
  cases rx
  cases y with
  | non => cases ry; exact PySem.EqNone.ne_none_none (aV I q (by simp))
  | bl j => cases ry; exact PySem.EqNone.ne_none_bool (aV I q (by simp))
  | int j => obtain ⟨t',rfl⟩ := ry; exact PySem.EqNone.ne_none_int (aV I q (by simp))
  | str j => obtain ⟨t',rfl⟩ := ry; exact PySem.EqNone.ne_none_str (aV I q (by simp))
  | _ => exact absurd (show false = true from hs) AM
 | bl i =>
  cases rx
  cases y with
  | non => cases ry; exact PySem.EqNone.ne_bool_none (aV I q (by simp))
  | bl j => cases ry; exact ne_bool (aV I q (congrArg not ri))
  | str j => obtain ⟨t',rfl⟩ := ry; exact PySem.EqMixed.ne_bool_str (aV I q (by simp))
  | _ => exact absurd (show false = true from hs) AM
 | int i =>
  obtain ⟨t,rfl⟩ := rx
  cases y with
  | non => cases ry; exact PySem.EqNone.ne_int_none (aV I q (by simp))
  | int j => obtain ⟨t',rfl⟩ := ry; exact ne_int (aV I q (congrArg not ow))
  | str j => obtain ⟨t',rfl⟩ := ry; exact PySem.EqMixed.ne_int_str (aV I q (by simp))
  | _ => exact absurd (show false = true from hs) AM
 | str i =>
  obtain ⟨t,rfl⟩ := rx
  cases y with
  | non => cases ry; exact PySem.EqNone.ne_str_none (aV I q (by simp))
  | bl j => cases ry; exact PySem.EqMixed.ne_str_bool (aV I q (by simp))
  | int j => obtain ⟨t',rfl⟩ := ry; exact PySem.EqMixed.ne_str_int (aV I q (by simp))
  | str j => obtain ⟨t',rfl⟩ := ry; exact ne_str (aV I q (congrArg not oz))
  | _ => exact absurd (show false = true from hs) AM
 | byt i =>
  obtain ⟨t,rfl⟩ := rx
  cases y with
  | byt j => obtain ⟨t',rfl⟩ := ry; exact PySem.W.ne_bytes (aV I q (congrArg not oA))
  | _ => exact absurd (show false = true from hs) AM
 | _ => cases y <;> exact absurd (show false = true from hs) AM
theorem oB : eM X (compareOp .Lt) (uW fun i j => .bl (decide (i < j))) := tf fun _ _ _ _ _ _ _ q => lt_int q
theorem rj : eM X (compareOp .LtE) (uW fun i j => .bl (decide (i <= j))) := tf fun _ _ _ _ _ _ _ q => le_int q
theorem oC : eM X (compareOp .Gt) (uW fun i j => .bl (decide (j < i))) := tf fun _ _ _ _ _ _ _ q => gt_int q
theorem wH : eM X (compareOp .GtE) (uW fun i j => .bl (decide (j <= i))) := tf fun _ _ _ _ _ _ _ q => ge_int q
theorem vt : eM X (compareOp .Is) (fun x y H Q => y = .non /\ Q (.bl (decide (x = .non))) H) := by
 intro pins s σ H x y v u Q I rx ry h
 obtain ⟨rfl,q⟩ := h
 cases ry
 refine is_none_gen (aV I q ?_)
 cases x <;> first
  | (cases rx; rfl)
  | (obtain ⟨t,rfl⟩ := rx; rfl)
theorem jJ : eM X (compareOp .IsNot) (fun x y H Q => y = .non /\ Q (.bl (!decide (x = .non))) H) := by
 intro pins s σ H x y v u Q I rx ry h
 obtain ⟨rfl,q⟩ := h
 cases ry
 refine isnot_none_gen (aV I q ?_)
 cases x <;> first
  | (cases rx; rfl)
  | (obtain ⟨t,rfl⟩ := rx; rfl)
theorem aC (b : Expr) {op : CmpOp} (h : op ≠ .In := by decide) (h2 : op ≠ .NotIn := by decide) : behindInMarks op b = false := by
 have e1 : (op == CmpOp.In) = false := by cases op <;> first | rfl | exact absurd rfl h
 have e2 : (op == CmpOp.NotIn) = false := by cases op <;> first | rfl | exact absurd rfl h2
 cases b <;> simp [behindInMarks,e1,e2]
theorem bW {op : CmpOp} {r : R2} (ho : eM X (compareOp op) r) (ha : PE X a ta) (hb : PE X b tb) (hm : behindInMarks op b = false) : PE X (.Compare a [op] [b] pos) (yh r ta tb) := by
 intro pins s σ H Q I h
 exact wpAny_Compare1 (vr ha hb I h fun v u s2 x y H2 I2 rx ry q => ho pins s2 σ H2 x y v u Q I2 rx ry q) hm
def uY (t : TE) : TT := fun σ H Q => t σ H fun x H' => ∃ k,x = .bl k /\ Q k H'
theorem av {op : CmpOp} {r : R2} (ho : eM X (compareOp op) r) (ha : PE X a ta) (hb : PE X b tb) (hm : behindInMarks op b = false) : PT X (.Compare a [op] [b] pos) (uY (yh r ta tb)) := by
 intro pins s σ H Q I h
 refine wpAny_isTrue_Compare1 (aZ (ha pins s σ H _ I h) fun v s1 ⟨x,H1,I1,r1,q1⟩ => aZ (hb pins s1 σ H1 _ I1 q1) fun u s2 ⟨y,H2,I2,r2,q2⟩ =>
  aZ (ho pins s2 σ H2 x y v u _ I2 r1 r2 q2) fun c s3 ⟨z,H3,I3,r3,k,e,q3⟩ => ?_) hm
 subst e
 cases r3
 exact wpAny_truthy_bool ⟨H3,I3,q3⟩
def vv (r r' : R2) (ta tb tc : TE) : TE := fun σ H Q => ta σ H fun x H1 => tb σ H1 fun y H2 => r x y H2 fun z H3 => ∃ k,z = .bl k /\
 (if k = true then tc σ H3 fun w' H4 => r' y w' H4 Q else Q (.bl false) H3)
theorem rn {op op' : CmpOp} {r r' : R2} (ho : eM X (compareOp op) r) (ho' : eM X (compareOp op') r') (ha : PE X a ta) (hb : PE X b tb) (hc : PE X c tc)
  (hm : lastMarks [op,op'] [b,c] = false := by with_unfolding_all rfl) : PT X (.Compare a [op,op'] [b,c] pos) (uY (vv r r' ta tb tc)) := by
 intro pins s σ H Q I h
 refine isTrue_chain (aZ (ha pins s σ H _ I h) fun v s1 ⟨x,H1,I1,r1,q1⟩ => test_link (aZ (hb pins s1 σ H1 _ I1 q1) fun u s2 ⟨y,H2,I2,r2,q2⟩ =>
  aZ (ho pins s2 σ H2 x y v u _ I2 r1 r2 q2) fun d s3 ⟨z,H3,I3,r3,k,e,q3⟩ => ?_)) hm
 subst e
 cases r3
 refine wpAny_truthy_bool ?_
 cases k with
 | false =>
  obtain ⟨k',e',q'⟩ := q3
  cases e'
  exact ite_ff ⟨H3,I3,q'⟩
 | true =>
  refine ite_tt (test_last (aZ (hc pins s3 σ H3 _ I3 q3) fun w' s4 ⟨z',H4,I4,r4,q4⟩ => aZ (ho' pins s4 σ H4 y z' u w' _ I4 r2 r4 q4) fun d' s5 ⟨z2,H5,I5,r5,k2,e2,q5⟩ => ?_))
  subst e2
  cases r5
  exact wpAny_truthy_bool ⟨H5,I5,q5⟩
theorem hU : (sizeLine : Nat) < 2 ^ 63 := by rw [sizeLine_eq]; decide
theorem cH : eM X (binaryOp .Add) (fun x y H Q => ∃ i j,x = .str i /\ y = .str j /\ i.length + j.length <= sizeLine /\ Q (.str (i ++ j)) H) := by
 intro pins s σ H x y v u Q I rx ry h
 obtain ⟨i,j,rfl,rfl,hz,q⟩ := h
 obtain ⟨t,rfl⟩ := rx
 obtain ⟨t',rfl⟩ := ry
 exact add_str (fun t' tk => ⟨.str (i ++ j),H,I.tok _,⟨_,rfl⟩,q⟩) hz
theorem vals1 {x : V} {us : List Value} (r : aM [x] us) : ∃ u,us = [u] /\ RelV x u := by
 cases r with
 | cons r1 r2 => cases r2; exact ⟨_,rfl,r1⟩
theorem vals2 {x y : V} {us : List Value} (r : aM [x,y] us) : ∃ u w',us = [u,w'] /\ RelV x u /\ RelV y w' := by
 cases r with
 | cons r1 r2 =>
  cases r2 with
  | cons r3 r4 => cases r4; exact ⟨_,_,rfl,r1,r3⟩
theorem kZ : cn X (.builtin "abs") (fun xs H Q => ∃ i,xs = [.int i] /\ Q (.int (if i < 0 then -i else i)) H) := by
 intro pins s σ H xs us Q I r h
 obtain ⟨i,rfl,q⟩ := h
 obtain ⟨u,rfl,t,rfl⟩ := vals1 r
 exact call_abs_int fun u tk => ⟨.int (if i < 0 then -i else i),H,I.tok _,⟨_,rfl⟩,q⟩
end
structure mT (h : Heap) (x dx C : Addr) (mA : Str -> Option Value) : Prop where
 obj : h.get? x = some (BK C dx)
 ns : h.Ns1 dx mA
 ne : dx ≠ x
theorem pN {h : Heap} {dx : Addr} {mA : Str -> Option Value} (n : h.Ns1 dx mA) : ∃ od,h.get? dx = some od /\ ∀ name,PySem.W.lookIn name od = some (mA name) := by
 obtain ⟨o,es,ep,ho,hd,hk,_,hm⟩ := n
 refine ⟨o,ho,fun name => ?_⟩
 have e := hm name
 unfold nsFind findBy at e
 rw [<- Array.find?_toList] at e
 unfold PySem.W.lookIn
 rw [hd]
 dsimp only
 split
 ·rename_i y q
  rw [q] at e
  exact congrArg some e
 ·rename_i q
  rw [q] at e
  have a : es.toList.any (·.refKey) = false := by
   rw [List.any_eq_false]
   intro y hy
   obtain ⟨z,t,hkey⟩ := hk y (Array.mem_toList_iff.mp hy)
   simp [DictEntry.refKey,hkey]
  have a' : ¬ es.toList.any (·.refKey) = true := by rw [a]; exact AM
  rw [if_neg a']
  exact congrArg some e
theorem mT.look {h : Heap} {x dx C : Addr} {mA : Str -> Option Value} (I : mT h x dx C mA) : ∃ od,PySem.W.InstAt h x (BK C dx) C (some od) /\ ∀ name,PySem.W.lookIn name od = some (mA name) :=
 let ⟨od,ho,hl⟩ := pN I.ns
 ⟨od,⟨I.obj,rfl,rfl,ho⟩,hl⟩
section
variable {prog : Program} {w : World} {A : Around} {E : Value -> Shared -> Prop} {s : Shared} {K : A0} {x dx C f : Addr} {mA : Str -> Option Value} {name : Str} {v : Value}
theorem ti {expr : Bool} {Q : Value -> Shared -> Prop} (X : K.In s.heap) (I : mT s.heap x dx C mA) (hg : PySem.W.plainGet K C name = true) (hh : PySem.W.hasDictIn K C = true)
  (ha : AO K (.ref C) name = some none) (hv : mA name = some v) (hv' : PySem.W.handedIn v = true) (h : Q v { s with toks := s.toks + 1 }) :
  wpAny (model prog w) A (getAttr (.ref x) name expr) Q E s := by
 obtain ⟨od,J,hl⟩ := I.look
 exact PySem.W.get_value X J (PySem.W.plainGet_of hg).1 (PySem.W.findObj_own hh ha rfl (by rw [hl,hv])) hv' h
theorem ro {pl : Sem Bool} {Q : Value × List Value -> Shared -> Prop} (X : K.In s.heap) (I : mT s.heap x dx C mA) (hg : PySem.W.plainGet K C name = true)
  (hf : AO K (.ref C) name = some (some (.ref f))) (ht : PySem.W.isFn K (.ref f) = true) (hv : mA name = none) (h : Q (.ref f,[.ref x]) s) :
  wpAny (model prog w) A (getMethod (.ref x) name pl) Q E s := by
 obtain ⟨od,J,hl⟩ := I.look
 exact PySem.W.method_fn X J (PySem.W.plainGet_of hg).1 (PySem.W.plainGet_of hg).2 hf (beq_iff_eq.mp ht) (by show (PySem.W.lookIn name od).map (·.isSome) = some false; rw [hl,hv]; rfl) h
theorem tj {ns : List Str} {Q : Unit -> Shared -> Prop} (X : K.In s.heap) (I : mT s.heap x dx C mA)
  (hs : AO K (.ref C) "__setattr__" = some (some (.builtin "object.__setattr__"))) (hp : PySem.W.plainOver K C = true) (ht : PySem.W.takerIn K C name = some none) (hh : PySem.W.hasDictIn K C = true)
  (hw : PySem.Within mA ns) (hsz : ns.length <= sizeLine)
  (h : ∀ h',mT h' x dx C (fun y => if y = name then some v else mA y) -> Heap.SameBut dx s.heap h' -> Q () { s with heap := h',toks := s.toks + 2 }) :
  wpAny (model prog w) A (setAttr (.ref x) name v) Q E s := by
 obtain ⟨od,J,hl⟩ := I.look
 refine PySem.W.set_plain X J hs (PySem.W.osa_open (s := { s with toks := s.toks + 1 }) (r := none) X J hp ht fun b => ?_)
 obtain ⟨cd,hc,hd'⟩ := PySem.W.any_some hh
 have hx : s.heap.get? x = some ⟨.ref C,some dx,.plain,#[]⟩ := I.obj
 refine wpAny_bind (wpAny_pure (wpAny_bind (wpAny_bind (wpAny_loadPart hx (wpAny_bind (PySem.W.Looks.here (s := { s with toks := s.toks + 1 }) (PySem.W.looks_clsIn X hc) ?_))))))
 rw [hd']
 refine wpAny_pure (a := some dx) (wpAny_bind (wpAny_pure (wpAny_bind ?_)))
 refine wpAny_nsSet1 (s := { s with toks := s.toks + 1 }) I.ns fun h' hn2 hs2 => ?_
 obtain ⟨oD,esD,epD,hoD,hdD,hcD⟩ := hn2.count (PySem.Within.cons name v hw)
 refine wpAny_bind (wpAny_lookBehind hoD (by rw [hdD]; exact pastItsLine_dict (Ae hcD (by rw [Ad]; omega))) ?_)
 exact wpAny_pure (h _ ⟨(hs2.2 _ (Ne.symm I.ne)).trans I.obj,hn2,I.ne⟩ hs2)
theorem rp {R : Result -> Shared -> Prop} {vs : List Value} {kw : List (Str × Value)} (X : K.In s.heap) (hm : PySem.W.makesIn K C = true)
  (hi : AO K (.ref C) "__init__" = some (some (.ref f))) (hf : PySem.W.typeIn K (.ref f) = some (.type "function"))
  (h : codeAny (model prog w) (A.under (.builtin "type.__call__" ⟨.ref C :: vs,kw⟩)) (.call (.ref f) ⟨.ref (s.heap.objs.size + 1) :: vs,kw⟩) (PySem.W.InitBack (s.heap.objs.size + 1) R)
   { s with heap := (s.heap.push AX).push (BK C s.heap.objs.size) }) :
  codeAny (model prog w) A (.call (.ref C) ⟨vs,kw⟩) R s := by
 obtain ⟨hh,g,d,t,os⟩ := s
 exact PySem.W.make_core (PySem.W.makes_of X hm) (PySem.W.looks_findIn X hi) (fun self => PySem.W.bind_fn X self hf) (.inl rfl) h
end
def aB (f : Str) (v : V) : List (Str × V) -> List (Str × V)
 | [] => [(f,v)]
 | (g,x) :: r => if g = f then (g,v) :: r else (g,x) :: aB f v r
theorem aH (f g : Str) (v : V) : ∀ fs : List (Str × V),(aB f v fs).lookup g = if g = f then some v else fs.lookup g
 | [] => by
  show BW g [(f,v)] = _
  by_cases h : g = f
  ·have hb : (g == f) = true := beq_iff_eq.mpr h
   simp only [BW,hb,if_pos h]
  ·have hb : (g == f) = false := beq_eq_false_iff_ne.mpr h
   simp only [BW,hb,if_neg h]
 | (k,x) :: r => by
  have ih := aH f g v r
  rw [show aB f v ((k,x) :: r) = (if k = f then (k,v) :: r else (k,x) :: aB f v r) from rfl]
  by_cases hk : k = f
  ·rw [if_pos hk]
   by_cases h : g = k
   ·have hb : (g == k) = true := beq_iff_eq.mpr h
    simp only [BW,hb,if_pos (h.trans hk)]
   ·have hb : (g == k) = false := beq_eq_false_iff_ne.mpr h
    simp only [BW,hb,if_neg (fun e : g = f => h (e.trans hk.symm))]
  ·rw [if_neg hk]
   by_cases h : g = k
   ·have hb : (g == k) = true := beq_iff_eq.mpr h
    simp only [BW,hb,if_neg (fun e : g = f => hk (h.symm.trans e))]
   ·have hb : (g == k) = false := beq_eq_false_iff_ne.mpr h
    simp only [BW,hb]
    exact ih
theorem fU (f : Str) (v : V) : ∀ fs : List (Str × V),f ∈ (aB f v fs).map (·.1) /\ ∀ g,g ∈ fs.map (·.1) -> g ∈ (aB f v fs).map (·.1)
 | [] => ⟨by simp [aB],fun g h => by simp at h⟩
 | (k,x) :: r => by
  obtain ⟨i1,i2⟩ := fU f v r
  rw [show aB f v ((k,x) :: r) = (if k = f then (k,v) :: r else (k,x) :: aB f v r) from rfl]
  by_cases hk : k = f
  ·rw [if_pos hk]
   subst hk
   exact ⟨by simp,fun g h => by simpa using h⟩
  ·rw [if_neg hk]
   refine ⟨?_,fun g h => ?_⟩
   ·rw [An]
    exact Ab _ i1
   ·rw [An] at h ⊢
    rcases A3.mp h with e | e
    ·exact A3.mpr (.inl e)
    ·exact Ab _ (i2 g e)
theorem bY (f : Str) (v : V) : ∀ fs : List (Str × V),(aB f v fs).length <= fs.length + 1
 | [] => by simp [aB]
 | (k,x) :: r => by
  have ih := bY f v r
  rw [show aB f v ((k,x) :: r) = (if k = f then (k,v) :: r else (k,x) :: aB f v r) from rfl]
  by_cases hk : k = f
  ·rw [if_pos hk,Ad,Ad]; omega
  ·rw [if_neg hk,Ad,Ad]; omega
theorem cV.some_of {v : V} {o : Option Value} (r : cV (some v) o) : ∃ u,o = some u /\ RelV v u := by
 cases o with
 | none => exact (show False from r).elim
 | some u => exact ⟨u,rfl,r⟩
theorem cV.none_of {o : Option Value} (r : cV none o) : o = none := by
 cases o with
 | none => rfl
 | some u => exact (show False from r).elim
theorem pO {v : V} {u : Value} (r : RelV v u) : PySem.W.handedIn u = true := by
 cases v with
 | non => cases (show u = Value.none from r); rfl
 | bl b => cases (show u = Value.bool b from r); rfl
 | int i => obtain ⟨t,e⟩ := (show ∃ t,u = Value.int i t from r); cases e; rfl
 | str x => obtain ⟨t,e⟩ := (show ∃ t,u = Value.str x t from r); cases e; rfl
 | byt b => obtain ⟨t,e⟩ := (show ∃ t,u = Value.bytes b t from r); cases e; rfl
 | flt b => obtain ⟨t,e⟩ := (show ∃ t,u = Value.float b t from r); cases e; rfl
 | ref a => cases (show u = Value.ref a from r); rfl
 | ty n => cases (show u = Value.type n from r); rfl
section
variable {P : Program} {w : World} {H H' : Hp} {h h' : Heap} {a C dx : Addr} {fs fs' : List (Str × V)}
theorem gM (hok : c9 P w H h) (e : H a = some (.ins C dx fs)) : ∃ mA,mT h a dx C mA /\ (∀ f,cV (fs.lookup f) (mA f)) /\ PySem.Within mA (fs.map (·.1)) /\ fs.length <= 1000 /\ H dx = some (.own a) := by
 obtain ⟨d,z,ne,ob,mA,n,r,q⟩ := (show aX P w H h a (.ins C dx fs) from hok a _ e)
 exact ⟨mA,⟨ob,n,ne⟩,r,q,z,d⟩
end
structure oE (K : A0) (C : Addr) : Prop where
 pg : PySem.W.plainGet K C Str.empty = true
 hd : PySem.W.hasDictIn K C = true
 po : PySem.W.plainOver K C = true
 sa : AO K (.ref C) "__setattr__" = some (some (.builtin "object.__setattr__"))
theorem oE.get {K : A0} {C : Addr} (c : oE K C) (f : Str) : PySem.W.plainGet K C f = true := c.pg
def bK (K : A0) (C : Addr) (f : Str) : Prop := AO K (.ref C) f = some none
theorem bK.taker {K : A0} {C : Addr} {f : Str} (n : bK K C f) : PySem.W.takerIn K C f = some none := by
 unfold PySem.W.takerIn
 rw [show AO K (.ref C) f = some none from n]
 rfl
structure cX (K : A0) (C : Addr) (m : Str) (f : Addr) : Prop where
 at_ : AO K (.ref C) m = some (some (.ref f))
 fn : PySem.W.isFn K (.ref f) = true
 kp : Ax K (.ref f) = true
section
variable {X : Cx} {pins : List (Addr × Obj)} {σ : St} {H : Hp} {s : Shared} {a C dx : Addr} {fs : List (Str × V)} {f : Str} {v : V} {A : Around} {E : Value -> Shared -> Prop}
theorem mW {b : Bool} {Q : Value -> Shared -> Prop} (I : aq X pins σ H s) (e : H a = some (.ins C dx fs)) (c : oE X.K C) (n : bK X.K C f) (l : fs.lookup f = some v)
  (h : ∀ u s',aq X pins σ H s' -> RelV v u -> Q u s') : wpAny (model X.prog X.w) A (getAttr (.ref a) f b) Q E s := by
 obtain ⟨mA,O,r,_,_,_⟩ := gM I.hok e
 obtain ⟨u,hu,ru⟩ := cV.some_of (v := v) (o := mA f) (by rw [<- l]; exact r f)
 exact ti I.kIn O (c.get f) c.hd n hu (pO ru) (h u _ (I.tok _) ru)
theorem eU {m : Str} {g : Addr} {pl : Sem Bool} {Q : Value × List Value -> Shared -> Prop} (I : aq X pins σ H s) (e : H a = some (.ins C dx fs)) (c : oE X.K C) (k : cX X.K C m g) (l : fs.lookup m = none)
  (h : Q (.ref g,[.ref a]) s) : wpAny (model X.prog X.w) A (getMethod (.ref a) m pl) Q E s := by
 obtain ⟨mA,O,r,_,_,_⟩ := gM I.hok e
 have hn : mA m = none := cV.none_of (by rw [<- l]; exact r m)
 exact ro I.kIn O (c.get m) k.at_ k.fn hn h
theorem mX {y : V} {u : Value} {Q : Unit -> Shared -> Prop} (I : aq X pins σ H s) (e : H a = some (.ins C dx fs)) (c : oE X.K C) (n : bK X.K C f) (hl : fs.length < 1000) (ry : RelV y u)
  (h : ∀ s',aq X pins σ (ar H a (.ins C dx (aB f y fs))) s' -> Q () s') : wpAny (model X.prog X.w) A (setAttr (.ref a) f u) Q E s := by
 obtain ⟨mA,O,r,wi,_,ho⟩ := gM I.hok e
 have hz : (fs.map (·.1)).length <= sizeLine := by rw [A8,sizeLine_eq]; omega
 refine tj I.kIn O c.sa c.po n.taker c.hd wi hz fun h' O' sb => h _ ?_
 have hd : ∃ o,h'.get? dx = some o := let ⟨o,_,_,e',_⟩ := O'.ns; ⟨o,e'⟩
 refine I.write (x := a) (e := dx) (by rw [e]; exact True.intro) (.inr ho) (fun b q hb z => (sb.2 b hb).trans z) hd ?_
 refine ⟨by rw [af O.ne]; exact ho,?_,O.ne,O'.obj,_,O'.ns,fun g => ?_,fun g hg => ?_⟩
 ·have := bY f y fs; omega
 ·show cV ((aB f y fs).lookup g) (if g = f then some u else mA g)
  rw [aH]
  by_cases q : g = f
  ·rw [if_pos q,if_pos q]; exact ry
  ·rw [if_neg q,if_neg q]; exact r g
 ·by_cases q : g = f
  ·rw [q]; exact (fU f y fs).1
  ·refine (fU f y fs).2 g (wi g fun z => hg ?_)
   show (if g = f then some u else mA g) = none
   rw [if_neg q]; exact z
theorem aq.made (I : aq X pins σ H s) : aq X pins σ (ar (ar H s.heap.objs.size (.own (s.heap.objs.size + 1))) (s.heap.objs.size + 1) (.ins C s.heap.objs.size []))
  { s with heap := (s.heap.push AX).push (BK C s.heap.objs.size) } := by
 have e1 : (s.heap.push AX).get? s.heap.objs.size = some AX := Heap.get?_push_size s.heap rfl
 have e2 : ((s.heap.push AX).push (BK C s.heap.objs.size)).get? (s.heap.objs.size + 1) = some (BK C s.heap.objs.size) := by
  have := Heap.get?_push_size (s.heap.push AX) (o := BK C s.heap.objs.size) rfl
  rwa [Heap.size_push] at this
 have e3 : (s.heap.push AX).Ns s.heap.objs.size (fun _ => none) := ⟨AX,#[],_,e1,rfl,(fun e he => absurd he (by simp)),fun _ => rfl⟩
 have I1 := I.laid (a := s.heap.objs.size) (o := .own (s.heap.objs.size + 1)) (h' := s.heap.push AX) (t' := s.toks) (fun b u q => Heap.get?_push_of_some _ q) (A5 _) ⟨_,e1⟩
 refine I1.laid (a := s.heap.objs.size + 1) (o := .ins C s.heap.objs.size []) (t' := s.toks) (fun b u q => Heap.get?_push_of_some _ q) (Nat.le_of_eq (Heap.size_push _ _)) ?_
 have ne : s.heap.objs.size ≠ s.heap.objs.size + 1 := AE (Nat.lt_succ_self _)
 refine ⟨by rw [af ne,ae],Al _,ne,e2,fun _ => none,(Heap.Ns1.of_empty e3).at fun o q => Heap.get?_push_of_some _ q,fun _ => True.intro,fun y hy => absurd rfl hy⟩
theorem tm {prog : Program} {w : World} {env : Env} {e : Expr} {f : Str} {pos : Pos} {s : Shared} {Q : Value -> Shared -> Prop} (hb : attributeBase e f env (eval e env) = eval e env)
  (h : wpAny (model prog w) A (eval e env) (fun o s₁ => wpAny (model prog w) A (getAttr o f true) Q E s₁) E s) : wpAny (model prog w) A (eval (.Attribute e f pos) env) Q E s :=
 Attribute_any_ h (by rw [arm_eval_Attribute,hb])
end
def wI (K : A0) (ta : TE) (f : Str) : TE := fun σ H Q => ta σ H fun x H1 => ∃ a C dx fs v,x = .ref a /\ H1 a = some (.ins C dx fs) /\ oE K C /\ bK K C f /\ fs.lookup f = some v /\ Q v H1
def yS (K : A0) (ta tv : TE) (f : Str) : TS := fun D σ H => tv σ H fun y H1 => ta σ H1 fun x H2 => ∃ a C dx fs,x = .ref a /\ H2 a = some (.ins C dx fs) /\ oE K C /\ bK K C f /\ fs.length < 1000 /\
 D.nx σ (ar H2 a (.ins C dx (aB f y fs)))
section
variable {X : Cx} {o e value : Expr} {f : Str} {pos pos' tpos : Pos} {ta tv : TE}
theorem b8 (he : PE X e ta) (hb : attributeBase e f X.env (eval e X.env) = eval e X.env) : PE X (.Attribute e f pos) (wI X.K ta f) := by
 intro pins s σ H Q I h
 refine tm hb (aZ (he pins s σ H _ I h) fun u s1 ⟨x,H1,I1,rx,a,C,dx,fs,v,ex,ea,c,n,l,q⟩ => ?_)
 subst ex
 obtain rfl : u = Value.ref a := rx
 exact mW I1 ea c n l fun u' s2 I2 ru => ⟨v,H1,I2,ru,q⟩
theorem jK (ha : PE X o ta) (hv : PE X value tv) (hs : swapsWith value (some (.Attribute o f pos')) pos.line X.env = pure false) : PS X (.Assign [.Attribute o f pos'] value pos) (yS X.K ta tv f) := by
 intro pins s σ H D I h
 refine plainObj_wpAny_Assign_Attribute (aZ (hv pins s σ H _ I h) fun u s1 ⟨y,H1,I1,ry,q⟩ => aZ (ha pins s1 σ H1 _ I1 q) fun ov s2 ⟨x,H2,I2,rx,a,C,dx,fs,ex,ea,c,n,l,q2⟩ => ?_) hs
 subst ex
 obtain rfl : ov = Value.ref a := rx
 exact mX I2 ea c n l ry fun s3 I3 => ⟨σ,_,I3,q2⟩
end
section
variable {X : Cx} {pins : List (Addr × Obj)} {σ : St} {H : Hp} {s : Shared} {A : Around} {E : Value -> Shared -> Prop} {Q : Value -> Shared -> Prop} {c : Value} {b : Bool}
inductive cY (K : A0) (H : Hp) : V -> Value -> Prop where
 | non : cY K H .non (.type "NoneType")
 | bl (x : Bool) : cY K H (.bl x) (.type "bool")
 | int (i : Int) : cY K H (.int i) (.type "int")
 | str (x : Str) : cY K H (.str x) (.type "str")
 | flt (x : UInt64) : cY K H (.flt x) (.type "float")
 | lst {a : Addr} {xs : List V} (e : H a = some (.lst xs)) : cY K H (.ref a) (.type "list")
 | frz {a : Addr} {o : Obj} {xs : List V} (e : H a = some (.frz o (.lst xs))) : cY K H (.ref a) (.type "list")
 | tup {a : Addr} {xs : List V} (e : H a = some (.tup xs)) : cY K H (.ref a) (.type "tuple")
 | dK {a : Addr} {kvs : List (Key × V)} (e : H a = some (.dK kvs)) : cY K H (.ref a) (.type "dict")
 | dT {a : Addr} {kvs : List (List Key × V)} (e : H a = some (.dT kvs)) : cY K H (.ref a) (.type "dict")
 | ins {a C dx : Addr} {fs : List (Str × V)} (e : H a = some (.ins C dx fs)) (cl : oE K C) (ha : AO K (.ref C) "__class__" = some (some (.builtin "object.__class__")))
   (hn : PySem.W.specialIn K (.builtin "object.__class__") "__get__" = some (some (.builtin "getset_descriptor.__get__"))) (htk : PySem.W.takesIn K (.builtin "object.__class__") = some true)
   (hm : PySem.W.mroIn K C (.type "object") = some true) : cY K H (.ref a) (.ref C)
theorem pP {x : V} {u t : Value} (I : aq X pins σ H s) (rx : RelV x u) (ty : cY X.K H x t) (e : Ah X.K t c = some b) (h : ∀ tk,Q (.bool b) { s with toks := tk }) :
  wpAny (model X.prog X.w) A (call (.builtin "isinstance") [u,c]) Q E s := by
 cases ty with
 | non => cases (show u = Value.none from rx); exact As PySem.W.kitx_none I.kIn True.intro e (fun z => nomatch z) h
 | bl y => cases (show u = Value.bool y from rx); exact As PySem.W.kitx_bool I.kIn True.intro e (fun z => nomatch z) h
 | int i => obtain ⟨t,q⟩ := (show ∃ t,u = Value.int i t from rx); cases q; exact As PySem.W.kitx_int I.kIn True.intro e (fun z => nomatch z) h
 | str y => obtain ⟨t,q⟩ := (show ∃ t,u = Value.str y t from rx); cases q; exact As PySem.W.kitx_str I.kIn True.intro e (fun z => nomatch z) h
 | flt y => obtain ⟨t,q⟩ := (show ∃ t,u = Value.float y t from rx); cases q; exact As PySem.W.kitx_float I.kIn True.intro e (fun z => nomatch z) h
 | @lst a xs ea =>
  cases (show u = Value.ref a from rx)
  obtain ⟨_,_,n,_,h1⟩ := (show aX X.prog X.w H s.heap a (.lst xs) from I.hok a _ ea)
  exact As PySem.W.kitx_list I.kIn ⟨_,h1,rfl⟩ e (fun z => nomatch z) h
 | @frz a ob xs ea =>
  cases (show u = Value.ref a from rx)
  obtain ⟨_,_,_,n,_,h1⟩ := (show aX X.prog X.w H s.heap a (.frz ob (.lst xs)) from I.hok a _ ea)
  exact As PySem.W.kitx_list I.kIn ⟨_,h1,rfl⟩ e (fun z => nomatch z) h
 | @tup a xs ea =>
  cases (show u = Value.ref a from rx)
  obtain ⟨_,_,_,p⟩ := (show aX X.prog X.w H s.heap a (.tup xs) from I.hok a _ ea)
  obtain ⟨o,h1,h2,_⟩ := p
  exact As PySem.W.kitx_tuple I.kIn ⟨o,h1,h2⟩ e (fun z => nomatch z) h
 | @dK a kvs ea =>
  cases (show u = Value.ref a from rx)
  obtain ⟨_,_,vs,_,p⟩ := (show aX X.prog X.w H s.heap a (.dK kvs) from I.hok a _ ea)
  obtain ⟨o,es,ep,h1,h2,_⟩ := p
  exact As PySem.W.kitx_dict I.kIn ⟨o,h1,h2.1⟩ e (fun z => nomatch z) h
 | @dT a kvs ea =>
  cases (show u = Value.ref a from rx)
  obtain ⟨_,_,xs,_,o,es,ep,h1,h2,_⟩ := (show aX X.prog X.w H s.heap a (.dT kvs) from I.hok a _ ea)
  exact As PySem.W.kitx_dict I.kIn ⟨o,h1,h2.1⟩ e (fun z => nomatch z) h
 | @ins a C dx fs ea cl ha hn htk hm =>
  cases (show u = Value.ref a from rx)
  obtain ⟨mA,O,_⟩ := gM I.hok ea
  obtain ⟨od,J,_⟩ := O.look
  exact As (PySem.W.kitx_own (cl.get _) cl.hd ha hn htk hm) I.kIn J e (fun z => nomatch z) h
end
structure bx (k : Nat) (A : Around) : Prop where
 hd : A.handled = none
 dp : A.depth + 3 * k + 5 < recursionLimit
 un : A.units + 16 * k + 200 < cLine
theorem bx.mono {j k : Nat} {A : Around} (r : bx k A) (h : j <= k) : bx j A := ⟨r.hd,by have := r.dp; omega,by have := r.un; omega⟩
theorem bx.deeper {k : Nat} {A : Around} (r : bx (k + 1) A) (env : Env) : bx k (A.deeper env) :=
 ⟨r.hd,by have := r.dp; show A.depth + 1 + 3 * k + 5 < _; omega,by have := r.un; show A.units + 3 + 16 * k + 200 < _; omega⟩
theorem mY {A : Around} {C : Addr} {us : List Value} {kw : List (Str × Value)} : (A.under (.builtin "type.__call__" ⟨.ref C :: us,kw⟩)).depth = A.depth + 1 := by
 first | rfl | simp [Around.under,Code.weight,Code.isCreation,Code.isGuard,Code.isCaller,Code.frames,Code.isFrame,guardIds]
theorem mZ {A : Around} {C : Addr} {us : List Value} {kw : List (Str × Value)} : (A.under (.builtin "type.__call__" ⟨.ref C :: us,kw⟩)).units = A.units + 1 := by
 first | rfl | simp [Around.under,Code.cUnits,Code.frames,Code.isFrame]
theorem bx.make {k : Nat} {A : Around} (r : bx (k + 1) A) (C : Addr) (us : List Value) (kw : List (Str × Value)) : bx k (A.under (.builtin "type.__call__" ⟨.ref C :: us,kw⟩)) :=
 ⟨r.hd,by have := r.dp; rw [mY]; omega,by have := r.un; rw [mZ]; omega⟩
theorem bx.depth {k : Nat} {A : Around} (r : bx k A) : A.depth < recursionLimit := by have := r.dp; omega
theorem bx.units {k : Nat} {A : Around} (r : bx k A) : A.units + 64 < cLine := by have := r.un; omega
theorem bx.units0 {k : Nat} {A : Around} (r : bx k A) : A.units < cLine := by have := r.un; omega
def iY : TA := fun _ H Q => Q [] H
def b3 (ta : TE) (tr : TA) : TA := fun σ H Q => ta σ H fun x H1 => tr σ H1 fun xs H2 => Q (x :: xs) H2
section
variable {X : Cx} {e : Expr} {es : List Expr} {te : TE} {t : TA} {pos : Pos}
theorem aj : PA X [] iY := fun _ _ _ _ H Q I h => Calls.spliced_nil ⟨[],H,I,.nil,h⟩
theorem aa (ha : PE X e te) (hr : PA X es t) (hs : starEach (e :: es) X.env = (false,eval e X.env) :: starEach es X.env := by rfl) : PA X (e :: es) (b3 te t) := by
 intro pos pins s σ H Q I h
 rw [hs]
 show wpAny _ _ (spliced ((false,eval e X.env) :: backTo pos (starEach es X.env))) _ _ s
 refine Calls.spliced_cons (aZ (ha pins s σ H _ I h) fun u s1 ⟨x,H1,I1,r1,q1⟩ => ?_)
 exact aZ (hr pos pins s1 σ H1 _ I1 q1) fun us s2 ⟨xs,H2,I2,r2,q2⟩ => ⟨x :: xs,H2,I2,.cons r1 r2,q2⟩
def tq (t : TA) : TE := fun σ H Q => t σ H fun xs H1 => xs.length <= sizeLine /\ ∀ p,H1 p = none -> Q (.ref p) (ar H1 p (.tup xs))
def m3 (t : TA) : TE := fun σ H Q => t σ H fun xs H1 => xs.length <= sizeLine /\ ∀ p,H1 p = none -> Q (.ref p) (ar H1 p (.lst xs))
theorem hV {x1} (h : PA X es t) : PE X (.Tuple es x1 pos) (tq t) := by
 intro pins s σ H Q I hq
 refine wpAny_Tuple_spliced (aZ (h pos pins s σ H _ I hq) fun us s1 ⟨xs,H1,I1,r,z,q⟩ => ⟨by rw [<- r.length]; exact z,?_⟩)
 have hf : H1 s1.heap.objs.size = none := I1.hok.fresh (A5 _)
 refine ⟨.ref s1.heap.objs.size,ar H1 s1.heap.objs.size (.tup xs),I1.laid (t' := s1.toks) (fun b u e => Heap.get?_push_of_some _ e) (A5 _) ?_,rfl,q _ hf⟩
 exact ⟨z,us,r,⟨_,Heap.get?_push_size _ rfl,rfl,_,rfl⟩⟩
theorem bg (h : PA X es t) : PE X (.List es pos) (m3 t) := by
 intro pins s σ H Q I hq
 refine wpAny_List_spliced (aZ (h pos pins s σ H _ I hq) fun us s1 ⟨xs,H1,I1,r,z,q⟩ => ⟨by rw [<- r.length]; exact z,?_⟩)
 have hf : H1 s1.heap.objs.size = none := I1.hok.fresh (A5 _)
 refine ⟨.ref s1.heap.objs.size,ar H1 s1.heap.objs.size (.lst xs),I1.laid (t' := s1.toks) (fun b u e => Heap.get?_push_of_some _ e) (A5 _) ?_,rfl,q _ hf⟩
 exact ⟨z,us,0,r,Heap.get?_push_size _ rfl⟩
end
abbrev Sp := List V -> Hp -> VK -> XK -> Prop
abbrev oF := List Env -> Hp -> Shared -> XK -> Value -> Shared -> Prop
structure iZ (P : Program) (w : World) (K : A0) (mg : Str -> Option Value) (base : Heap) (A : Around) (outer : List Env) (s : Shared) (H : Hp) : Prop where
 frames : A.frames = some outer
 mod : Mod K mg base
 bs : ∀ b o,base.get? b = some o -> s.heap.get? b = some o /\ H b = none
 bsz : base.objs.size <= s.heap.objs.size
 funs : s.heap.FunFrames base outer
 frf : ∀ b ∈ gr outer,H b = none
 hok : c9 P w H s.heap
 bare : AllBare s.gens
def CE (outer : List Env) (P : Program) (w : World) (H : Hp) (s : Shared) (Q : VK) (u : Value) (s' : Shared) : Prop :=
 ∃ v H',s'.os = s.os /\ AllBare s'.gens /\ Un (gr outer) [] H H' s.heap s'.heap /\ c9 P w H' s'.heap /\ RelV v u /\ Q v H'
def CR (CX : oF) (outer : List Env) (P : Program) (w : World) (H : Hp) (s : Shared) (Q : VK) (E : XK) (r : Result) (s' : Shared) : Prop :=
 match r with
 | .ok (.ret u) => CE outer P w H s Q u s'
 | .ok _ => False
 | .error e => CX outer H s E e s'
structure bh (P : Program) (w : World) (K : A0) (mg : Str -> Option Value) (base : Heap) (CX : oF) (k : Nat) (f : Addr) (fd : FuncData) (ps : List Str) (sp : Sp) : Prop where
 len : ∀ vs H Q E,sp vs H Q E -> vs.length = ps.length
 run : ∀ (A : Around) (outer : List Env) (s : Shared) (H : Hp) (args : Args) (us : List Value) (vs : List V) (Q : VK) (E : XK),bx k A -> iZ P w K mg base A outer s H -> BindsTo s fd args (ps.zip us) -> aM vs us -> sp vs H Q E ->
  codeAny (model P w) A (.call (.ref f) args) (CR CX outer P w H s Q E) s
theorem iZ.make {P : Program} {w : World} {K : A0} {mg : Str -> Option Value} {base : Heap} {A : Around} {outer : List Env} {s : Shared} {H : Hp} (e : iZ P w K mg base A outer s H) (C : Addr) (us : List Value) (kw : List (Str × Value)) :
  iZ P w K mg base (A.under (.builtin "type.__call__" ⟨.ref C :: us,kw⟩)) outer s H := ⟨by first | exact e.frames | (simpa [Around.under,Code.envs,Code.isFrame,pushEnvs] using e.frames),e.mod,e.bs,e.bsz,e.funs,e.frf,e.hok,e.bare⟩
section
variable {X : Cx} {pins : List (Addr × Obj)} {σ : St} {H : Hp} {s s' : Shared}
theorem aq.env0 (I : aq X pins σ H s) : iZ X.prog X.w X.K X.mg X.base X.A X.stack s H :=
 ⟨I.ok.frames,I.ok.mod,I.bs,Ae I.ok.bsz I.sz,I.stack,I.stkFree,I.hok,I.bare⟩
theorem aq.after {Q : VK} {u : Value} (I : aq X pins σ H s) (h : CE X.stack X.prog X.w H s Q u s') : EP X pins σ Q u s' := by
 obtain ⟨v,H',os,bare,un,hok,r,q⟩ := h
 obtain ⟨hh,g,d,t,os'⟩ := s'
 obtain rfl : os' = s.os := os
 exact ⟨v,H',I.call (h' := hh) (g' := g) (d' := d) (t' := t) (ch := []) un hok bare (fun b z => absurd z (by simp)),r,q⟩
end
def oG (sp : Sp) (dvs : List V) (E : XK) (t : TA) : TE := fun σ H Q => t σ H fun vs H1 => sp (vs ++ dvs) H1 Q E
def uZ (C : Addr) (sp : Sp) (dvs : List V) (E : XK) (t : TA) : TE := fun σ H Q => t σ H fun vs H1 => ∀ x dx,H1 x = none -> H1 dx = none -> dx ≠ x ->
 sp (.ref x :: (vs ++ dvs)) (ar (ar H1 dx (.own x)) x (.ins C dx [])) (fun v H2 => v = .non /\ Q (.ref x) H2) E
def Binds (K : A0) (fd : FuncData) (ps : List Str) (ds : List Value) : Prop :=
 ∀ (s : Shared) (us : List Value),K.In s.heap -> (us ++ ds).length = ps.length -> BindsTo s fd ⟨us,[]⟩ (ps.zip (us ++ ds))
theorem Binds.all {K : A0} {fd : FuncData} {ps : List Str} (h : ∀ us : List Value,us.length = ps.length -> bindArgs fd ⟨us,[]⟩ = pure (ps.zip us)) : Binds K fd ps [] := fun s us _ hl => by
 rw [Bs] at hl ⊢
 exact .of_eq (h us hl)
def hW (CX : oF) (X : Cx) (E : XK) : Prop := ∀ (pins : List (Addr × Obj)) (σ : St) (H : Hp) (s : Shared) (e : Value) (s' : Shared),aq X pins σ H s -> CX X.stack H s E e s' -> X.xe e s'
section
variable {X : Cx} {CX : oF} {k : Nat} {f C : Addr} {fd : FuncData} {ps : List Str} {sp : Sp} {dvs : List V} {ds : List Value} {E : XK} {x m : Str} {p pos apos : Pos} {e o : Expr} {es : List Expr} {ta : TE} {t : TA}
theorem m4 {pins : List (Addr × Obj)} {σ : St} {H : Hp} {s : Shared} {Q : VK} {us : List Value} {vs : List V} (F : bh X.prog X.w X.K X.mg X.base CX k f fd ps sp) (hr : bx k X.A) (hb : Binds X.K fd ps ds) (hd : aM dvs ds) (hx : hW CX X E)
  (I : aq X pins σ H s) (r : aM vs us) (h : sp (vs ++ dvs) H Q E) : wpAny (model X.prog X.w) X.A (call (.ref f) us) (EP X pins σ Q) X.xe s := by
 have r2 : aM (vs ++ dvs) (us ++ ds) := r.append hd
 have hl : (us ++ ds).length = ps.length := by rw [<- r2.length]; exact F.len _ _ _ _ h
 refine wpAny_call (codeAny_mono (F.run X.A X.stack s H ⟨us,[]⟩ (us ++ ds) (vs ++ dvs) Q E hr I.env0 (hb s us I.kIn hl) r2 h) fun r s' hq => ?_)
 cases r with
 | error e => exact hx pins σ H s e s' I hq
 | ok fl =>
  cases fl with
  | ret u => exact I.after hq
  | next => exact False.elim hq
  | brk => exact False.elim hq
  | cont => exact False.elim hq
theorem tu (F : bh X.prog X.w X.K X.mg X.base CX k f fd ps sp) (hr : bx k X.A) (hg : Gl X x) (hm : X.mg x = some (.ref f)) (hk : Ax X.K (.ref f) = true) (hb : Binds X.K fd ps ds) (hd : aM dvs ds) (hx : hW CX X E)
  (ha : PA X (e :: es) t) (hdb : (x == ("__debug__" : Str)) = false := by decide) (he : starEach (e :: es) X.env = (false,eval e X.env) :: starEach es X.env := by rfl) (hpl : (backTo pos (starEach es X.env)).any (·.1) = false := by rfl) :
  PE X (.Call (.Name x p) (e :: es) [] pos) (oG sp dvs E t) := by
 intro pins s σ H Q I h
 refine wpAny_Call_Name_kw (cB I hg hm ?_ hdb)
 refine BV (h₀ := X.base) I.ok.mod.kin hk (aZ (ha pos pins s σ H _ I h) fun us s1 ⟨vs,H1,I1,r,q⟩ => ⟨I1.kIn,?_⟩) he hpl
 exact m4 F hr hb hd hx I1 r q
structure Mk (K : A0) (C f : Addr) : Prop where
 makes : PySem.W.makesIn K C = true
 init : AO K (.ref C) "__init__" = some (some (.ref f))
 fn : PySem.W.isFn K (.ref f) = true
 kp : Ax K (.ref C) = true
theorem rq {pins : List (Addr × Obj)} {σ : St} {H : Hp} {s : Shared} {Q : VK} {us : List Value} {vs : List V} (M : Mk X.K C f) (F : bh X.prog X.w X.K X.mg X.base CX k f fd ps sp) (hr : bx (k + 1) X.A) (hb : Binds X.K fd ps ds) (hd : aM dvs ds)
  (hx : hW CX X E) (I : aq X pins σ H s) (r : aM vs us)
  (h : ∀ x dx,H x = none -> H dx = none -> dx ≠ x -> sp (.ref x :: (vs ++ dvs)) (ar (ar H dx (.own x)) x (.ins C dx [])) (fun v H2 => v = .non /\ Q (.ref x) H2) E) :
  wpAny (model X.prog X.w) X.A (call (.ref C) us) (EP X pins σ Q) X.xe s := by
 have hq := h (s.heap.objs.size + 1) s.heap.objs.size (I.hok.fresh (Nat.le_succ _)) (I.hok.fresh (A5 _)) (AE (Nat.lt_succ_self _))
 have I2 := aq.made (C := C) I
 have r2 : aM (V.ref (s.heap.objs.size + 1) :: (vs ++ dvs)) (Value.ref (s.heap.objs.size + 1) :: (us ++ ds)) := .cons rfl (r.append hd)
 have hl : (Value.ref (s.heap.objs.size + 1) :: us ++ ds).length = ps.length := by
  have e := r2.length
  rw [F.len _ _ _ _ hq] at e
  exact e.symm
 refine wpAny_call (rp (f := f) I.kIn M.makes M.init (beq_iff_eq.mp M.fn) (codeAny_mono (F.run _ X.stack _ _ ⟨Value.ref (s.heap.objs.size + 1) :: us,[]⟩ (Value.ref (s.heap.objs.size + 1) :: (us ++ ds)) _ _ E (hr.make C us [])
  (I2.env0.make C us []) (hb _ (Value.ref (s.heap.objs.size + 1) :: us) I2.kIn hl) r2 hq) fun r s' hq' => ?_))
 cases r with
 | error e => exact hx pins σ _ _ e s' I2 hq'
 | ok fl =>
  cases fl with
  | ret u =>
   obtain ⟨v,H',I3,rv,ev,q3⟩ := I2.after hq'
   subst ev
   exact ⟨rv,⟨V.ref (s.heap.objs.size + 1),H',I3,rfl,q3⟩⟩
  | next => exact False.elim hq'
  | brk => exact False.elim hq'
  | cont => exact False.elim hq'
theorem rA (M : Mk X.K C f) (F : bh X.prog X.w X.K X.mg X.base CX k f fd ps sp) (hr : bx (k + 1) X.A) (hg : Gl X x) (hm : X.mg x = some (.ref C)) (hb : Binds X.K fd ps ds) (hd : aM dvs ds) (hx : hW CX X E)
  (hdb : (x == ("__debug__" : Str)) = false := by decide) : PE X (.Call (.Name x p) [] [] pos) (uZ C sp dvs E iY) := by
 intro pins s σ H Q I h
 refine wpAny_Call_Name_kw (cB I hg hm ?_ hdb)
 exact PySem.W.callWith_K0 I.kIn M.kp (rq (us := []) M F hr hb hd hx I .nil h)
end
section
variable {X : Cx} {CX : oF} {k : Nat} {f C : Addr} {fd : FuncData} {ps ks : List Str} {sp : Sp} {E : XK} {x m : Str} {p pos apos kpos : Pos} {e o : Expr} {es : List Expr} {kws : List Keyword} {te ta : TE} {t tk : TA} {nm : Option Str}
variable {g : List Value -> List Value -> List Value} {gV : List V -> List V -> List V}
end
structure aD (N P : List Str) (sc : Scope) : Prop where
 kind : sc.kind = .function
 co : sc.isCoroutine = false
 gen : sc.isGenerator = false
 nd : N.Nodup
 pre : N.take P.length = P
 par : ∀ x ∈ P,sc.names.lookup x = some .local ∨ sc.names.lookup x = some .cell
 nofree : ∀ y ∈ sc.names,y.2 ≠ .free
theorem jg {kindOf : Str -> Option NameKind} {x : Str} : ∀ {binds : List (Str × Value)} {m : Str -> Option Value},(∀ v,(x,v) ∉ binds) -> bindL kindOf binds m x = m x
 | [],_,_ => rfl
 | (n,v) :: r,m,h => by
  unfold bindL
  rw [jg fun w hw => h w (Ab _ hw)]
  split
  ·have : x ≠ n := by rintro rfl; exact h v B2
   simp [this]
  ·rfl
theorem jh {kindOf : Str -> Option NameKind} {x : Str} : ∀ {binds : List (Str × Value)} {m : Str -> Option Value},(∀ v,(x,v) ∉ binds) -> bindC kindOf binds m x = m x
 | [],_,_ => rfl
 | (n,v) :: r,m,h => by
  unfold bindC
  rw [jh fun w hw => h w (Ab _ hw)]
  split
  ·rfl
  ·have : x ≠ n := by rintro rfl; exact h v B2
   simp [this]
theorem ji {kindOf : Str -> Option NameKind} {x : Str} {v : Value} : ∀ {P : List Str} {vs : List Value} {i : Nat} {m : Str -> Option Value},P.Nodup -> P[i]? = some x -> vs[i]? = some v -> kindOf x = some .local ->
  bindL kindOf (P.zip vs) m x = some v
 | [],_,_,_,_,h,_,_ => by simp at h
 | _ :: _,[],_,_,_,_,h,_ => by simp at h
 | p :: P,w :: vs,0,m,nd,h1,h2,hk => by
  simp at h1 h2; subst h1; subst h2
  show bindL kindOf ((p,w) :: P.zip vs) m p = _
  unfold bindL
  rw [jg fun v hv => (AS.mp nd).1 (List.of_mem_zip hv).1,if_pos hk]
  simp
 | p :: P,w :: vs,i + 1,m,nd,h1,h2,hk => by
  show bindL kindOf ((p,w) :: P.zip vs) m x = _
  unfold bindL
  exact ji (i := i) (AS.mp nd).2 (by simpa using h1) (by simpa using h2) hk
theorem jj {kindOf : Str -> Option NameKind} {x : Str} {v : Value} : ∀ {P : List Str} {vs : List Value} {i : Nat} {m : Str -> Option Value},P.Nodup -> P[i]? = some x -> vs[i]? = some v -> kindOf x ≠ some .local ->
  bindC kindOf (P.zip vs) m x = some v
 | [],_,_,_,_,h,_,_ => by simp at h
 | _ :: _,[],_,_,_,_,h,_ => by simp at h
 | p :: P,w :: vs,0,m,nd,h1,h2,hk => by
  simp at h1 h2; subst h1; subst h2
  show bindC kindOf ((p,w) :: P.zip vs) m p = _
  unfold bindC
  rw [jh fun v hv => (AS.mp nd).1 (List.of_mem_zip hv).1,if_neg hk]
  simp
 | p :: P,w :: vs,i + 1,m,nd,h1,h2,hk => by
  show bindC kindOf ((p,w) :: P.zip vs) m x = _
  unfold bindC
  exact jj (i := i) (AS.mp nd).2 (by simpa using h1) (by simpa using h2) hk
def start (N : List Str) (vs : List V) : St := vs.map some ++ List.replicate (N.length - vs.length) none
def fV (CX : oF) (P : Program) (w : World) (K : A0) (mg : Str -> Option Value) (base : Heap) (N : List Str) (qual : Str) (scope : Scope) (f : Addr) (cd : Value) (A : Around) (outer : List Env) (s : Shared) (H : Hp) (E : XK) : Cx where
 prog := P
 w := w
 K := K
 mg := mg
 base := base
 A := A.deeper (envOfC qual scope s.heap.objs.size f cd)
 N := N
 s₀ := s
 H₀ := H
 env := envOfC qual scope s.heap.objs.size f cd
 outer := outer
 stack := envOfC qual scope s.heap.objs.size f cd :: outer
 ex := []
 calm := true
 fn := fun _ => true
 pn := []
 xe := fun e s' => wpAny (model P w) (A.deeper (envOfC qual scope s.heap.objs.size f cd)) (leaving (envOfC qual scope s.heap.objs.size f cd) e) (fun _ s'' => CX outer H s E e s'') (fun e' s'' => CX outer H s E e' s'') s'
theorem k8 {sc : Scope} {n : Nat} {x : Str} (h : sc.names.lookup x = some .cell) : ∃ c,(cellsFrom n sc.names []).lookup x = some c := by
 have q := PySem.W.cellsFrom_some sc.names n [] (.inl h)
 exact B0.mp q
theorem jk {CX : oF} {P : Program} {w : World} {K : A0} {mg : Str -> Option Value} {base : Heap} {N ps : List Str} {qual : Str} {scope : Scope} {f : Addr} {cd : Value} {A : Around} {outer : List Env} {s s1 : Shared} {H : Hp} {E : XK} {us : List Value} {vs : List V}
  (S : aD N ps scope) (hd : A.handled = none) (e0 : iZ P w K mg base A outer s H) (hl : vs.length = ps.length) (r : aM vs us)
  (x : InCallC s s.heap.objs.size (bindL (envOfC qual scope s.heap.objs.size f cd).kindOf (ps.zip us) fun _ => none) (cellsFrom (s.heap.objs.size + 1) scope.names []) (bindC (envOfC qual scope s.heap.objs.size f cd).kindOf (ps.zip us) fun _ => none) s1) :
  aq (fV CX P w K mg base N qual scope f cd A outer s H E) [] (start N vs) H s1 := by
 have hpl : ps.length <= N.length := by have := congrArg BX S.pre; rw [AH] at this; omega
 obtain ⟨h1,tk,rfl,hk⟩ := x.done
 have noA : ∀ b : Addr,b ∉ (fV CX P w K mg base N qual scope f cd A outer s H E).ex := fun b z => absurd (show b ∈ ([] : List Addr) from z) (by simp)
 refine ⟨⟨e0.mod,S.kind,rfl,rfl,A5 _,fun y z c h1 h2 => ?_,fun y hy => ?_,fun y c _ h => ?_,fun _ => hd,Around.frames_deeper e0.frames,.inr ⟨rfl,rfl⟩,fun b z => absurd z (noA b),e0.bs,e0.bsz,fun b _ _ => noA b,fun b z => absurd z (noA b),e0.funs,e0.frf⟩,
  rfl,e0.bare,Un.kept hk,⟨_,x.toInCall.ns,fun i y v h1 h2 h3 => ?_⟩,fun y c h => ⟨_,x.cell y c h⟩,e0.hok.fresh (A5 _),fun y c h => ?_,fun p hp => absurd (show p ∈ ([] : List (Addr × Obj)) from hp) (by simp),e0.hok.kept hk,?_⟩
 ·exact name_of_addr x.apart (Au h1) (Au h2)
 ·have hy : scope.names.lookup y = some .cell ∨ scope.names.lookup y = some .free := hy
  rcases hy with hy | hy
  ·exact k8 hy
  ·exact absurd rfl (S.nofree _ (Au hy))
 ·exact Nat.le_of_lt (x.above y c (Au h))
 ·have hi : i < vs.length := by
   unfold start at h2
   by_cases hi : i < vs.length
   ·exact hi
   ·rw [A4 (by simpa using hi)] at h2
    rw [List.getElem?_replicate] at h2
    split at h2 <;> cases h2
  have ha : vs[i]? = some v := by
   unfold start at h2
   rw [AC (by simpa using hi),Ac] at h2
   cases e : vs[i]? with
   | none => rw [e] at h2; cases h2
   | some a => rw [e] at h2; cases h2; rfl
  obtain ⟨u,hu,rv⟩ := r.get ha
  have hp : ps[i]? = some y := by
   rw [<- S.pre,Av (by omega)]; exact h1
  have ndP : ps.Nodup := by rw [<- S.pre]; exact S.nd.sublist (List.take_sublist _ _)
  refine ⟨u,rv,?_⟩
  rcases S.par y (AL hp) with k | k
  ·exact .inl ⟨k,ji ndP hp hu k⟩
  ·obtain ⟨c,e⟩ := k8 (n := s.heap.objs.size + 1) k
   refine .inr ⟨.inl k,c,e,?_⟩
   have q := x.cell y c e
   rw [jj ndP hp hu (by show scope.names.lookup y ≠ _; rw [k]; decide)] at q
   exact q
 ·exact e0.hok.fresh (Nat.le_of_lt (x.above y c (Au h)))
 ·unfold start
  show _ = N.length
  rw [AA,A8,List.length_replicate]
  omega
theorem u3 {CX : oF} {P : Program} {w : World} {K : A0} {mg : Str -> Option Value} {base : Heap} {k : Nat} {f : Addr} {name qual : Str} {params : Arguments} {body : List Stmt} {scope : Scope} {dV kV doc pm cdv ct oc : Value} {an od : Option Addr}
  {osl : Array (Option Value)} {N ps : List Str} {sp : Sp} (lk : K.lookup f = some ⟨oc,od,.func (Az name qual params body scope dV kV doc pm an cdv ct),osl⟩) (hcd : BO K cdv qual = true) (S : aD N ps scope)
  (len : ∀ vs H Q E,sp vs H Q E -> vs.length = ps.length)
  (hbody : ∀ (A : Around) (outer : List Env) (s : Shared) (H : Hp) (vs : List V) (Q : VK) (E : XK),bx k (A.deeper (envOfC qual scope s.heap.objs.size f cdv)) -> sp vs H Q E ->
   ∃ t,gX (fV CX P w K mg base N qual scope f cdv A outer s H E) body t /\ t { nx := fun _ H' => Q .non H',rt := Q } (start N vs) H) :
  bh P w K mg base CX (k + 1) f (Az name qual params body scope dV kV doc pm an cdv ct) ps sp := by
 refine ⟨len,fun A outer s H args us vs Q E hr e0 hb r hsp => ?_⟩
 have hl := len _ _ _ _ hsp
 have KX : K.In s.heap := e0.mod.kin.keeps fun b o e => (e0.bs b o e).1
 have lim : s.heap.NoLimit := e0.mod.nolimit.keeps fun b o e => (e0.bs b o e).1
 have hkind : ∀ y ∈ ps.zip us,scope.names.lookup y.1 = some .local ∨ (scope.names.lookup y.1 = some .cell /\ ((cellsFrom (s.heap.objs.size + 1) scope.names []).lookup y.1).isSome = true) := fun ⟨n,v⟩ hy => by
  rcases S.par n (List.of_mem_zip hy).1 with q | q
  ·exact .inl q
  ·exact .inr ⟨q,PySem.W.cellsFrom_some _ _ _ (.inl q)⟩
 refine codeAny_call_function hr.depth (KX _ _ lk) rfl S.co S.gen rfl (PySem.W.codeRec_of KX hcd) (hb _ _ _ _ ?_)
 refine wpAny_newFunctionEnv_cells S.kind hkind fun env he s1 x => ?_
 subst he
 refine ⟨lim.keeps x.toInCall.keep,codeAny_func ?_⟩
 obtain ⟨t,ht,hq⟩ := hbody A outer s H vs Q E (hr.deeper _) hsp
 have I : aq (fV CX P w K mg base N qual scope f cdv A outer s H E) [] (start N vs) H s1 := jk S hr.hd e0 hl r x
 refine wpAny_mono (ht [] s1 (start N vs) H _ I hq) (fun fl s' hs => ?_) fun e s' hs => hs
 have fin : ∀ {σ' : St} {H' : Hp} {v : V} {u : Value},aq (fV CX P w K mg base N qual scope f cdv A outer s H E) [] σ' H' s' -> RelV v u -> Q v H' -> CE outer P w H s Q u s' :=
  fun {σ' H' v u} J rv q => ⟨v,H',J.os,J.bare,J.base,J.hok,rv,q⟩
 cases fl with
 | ret u =>
  obtain ⟨v,σ',H',J,rv,q⟩ := hs
  exact fin J rv q
 | next =>
  obtain ⟨σ',H',J,q⟩ := hs
  exact fin (v := V.non) (u := Value.none) J rfl q
 | brk =>
  obtain ⟨_,_,_,q⟩ := hs
  exact False.elim q
 | cont =>
  obtain ⟨_,_,_,q⟩ := hs
  exact False.elim q
section
variable {X : Cx} {x : Str} {p pos : Pos} {e : Expr} {es : List Expr} {t : TA} {id T : String} {r : List V -> Hp -> VK -> Prop}
def zN (r : List V -> Hp -> VK -> Prop) (t : TA) : TE := fun σ H Q => t σ H fun vs H1 => r vs H1 Q
theorem aK (hc : cn X (.builtin id) r) (hg : Gl X x) (hm : X.mg x = none) (hv : bootBuiltins x = some (.builtin id)) (ha : PA X (e :: es) t) (hn : x ≠ "__name__" := by decide) (hdb : (x == ("__debug__" : Str)) = false := by decide)
  (he : starEach (e :: es) X.env = (false,eval e X.env) :: starEach es X.env := by rfl) (hpl : (backTo pos (starEach es X.env)).any (·.1) = false := by rfl) : PE X (.Call (.Name x p) (e :: es) [] pos) (zN r t) := by
 intro pins s σ H Q I h
 refine wpAny_Call_Name_kw (dy I hg hm hv ?_ hn hdb)
 exact PyProof.Rows.callWith_builtin1 (aZ (ha pos pins s σ H _ I h) fun us s1 ⟨vs,H1,I1,r1,q1⟩ => hc pins s1 σ H1 vs us Q I1 r1 q1) he hpl
theorem jm (hc : cn X (.type T) r) (hg : Gl X x) (hm : X.mg x = none) (hv : bootBuiltins x = some (.type T)) (ha : PA X (e :: es) t) (hn : x ≠ "__name__" := by decide) (hdb : (x == ("__debug__" : Str)) = false := by decide)
  (he : starEach (e :: es) X.env = (false,eval e X.env) :: starEach es X.env := by rfl) (hpl : (backTo pos (starEach es X.env)).any (·.1) = false := by rfl) : PE X (.Call (.Name x p) (e :: es) [] pos) (zN r t) := by
 intro pins s σ H Q I h
 refine wpAny_Call_Name_kw (dy I hg hm hv ?_ hn hdb)
 exact B1 (aZ (ha pos pins s σ H _ I h) fun us s1 ⟨vs,H1,I1,r1,q1⟩ => hc pins s1 σ H1 vs us Q I1 r1 q1) he hpl
end
end L2
namespace HT
open PySem PyProof.Rows
section
open PySem.SeqAt
open PySem.AutoSeq1 (wpAny_loadPart')
open PySem.MeetsSeq PySem.MeetsSeq2 PySem.MeetsSeq3
end
section
variable {prog : Program} {w : World} {A : Around} {E : Value -> Shared -> Prop} {s : Shared}
def eC (n d : Nat) : Option Int -> Nat
 | none => d
 | some v => if v < 0 then (v + (n : Int)).toNat else min v.toNat n
end
end HT
namespace L2
open PySem PySem.Spec PyProof.Rows
abbrev TO := St -> Hp -> (Option Int -> Hp -> Prop) -> Prop
def PO (X : Cx) (e : Option Expr) (t : TO) : Prop :=
 ∀ (pins : List (Addr × Obj)) (s : Shared) (σ : St) (H : Hp) (Q : Option Int -> Hp -> Prop),aq X pins σ H s -> t σ H Q ->
  wpAny (model X.prog X.w) X.A (evalPart e X.env) (fun u s' => ∃ o H',aq X pins σ H' s' /\ IsPart u o /\ Q o H') X.xe s
def tw : TO := fun _ H Q => Q none H
def wJ (t : TE) : TO := fun σ H Q => t σ H fun x H1 => ∃ i,x = .int i /\ Q (some i) H1
section
variable {X : Cx} {e : Expr} {te : TE} {lo hi : Option Expr} {tl th : TO} {pos p2 : Pos}
theorem gN : PO X none tw := by
 intro pins s σ H Q I h
 rw [evalPart_none]
 exact wpAny_pure ⟨none,H,I,.none,h⟩
theorem eD (h : PE X e te) : PO X (some e) (wJ te) := by
 intro pins s σ H Q I hw
 rw [evalPart_some]
 refine aZ (h pins s σ H _ I hw) fun u s1 ⟨x,H1,I1,r1,q1⟩ => ?_
 obtain ⟨i,rfl,q⟩ := q1
 obtain ⟨t,rfl⟩ := r1
 exact ⟨some i,H1,I1,.int i t,q⟩
def yT (X : Cx) (r : V -> Option Int -> Option Int -> Hp -> VK -> Prop) : Prop :=
 ∀ (pins : List (Addr × Obj)) (s : Shared) (σ : St) (H : Hp) (x : V) (v vl vu : Value) (lo hi : Option Int) (sl : Addr) (Q : VK),aq X pins σ H s -> RelV x v -> s.heap.IsSliceOf sl vl vu .none -> IsPart vl lo -> IsPart vu hi -> r x lo hi H Q ->
  ∃ T id,typeLookup (.type T) "__getitem__" = pure (some (.builtin id)) /\ s.TypeIs v T /\ wpAny (model X.prog X.w) X.A (getItem v (.ref sl)) (EP X pins σ Q) X.xe s
def zY (r : V -> Option Int -> Option Int -> Hp -> VK -> Prop) (te : TE) (tl th : TO) : TE := fun σ H Q => te σ H fun x H1 => tl σ H1 fun l H2 => th σ H2 fun u H3 => r x l u H3 Q
theorem dS {r : V -> Option Int -> Option Int -> Hp -> VK -> Prop} (hr : yT X r) (he : PE X e te) (hl : PO X lo tl) (hu : PO X hi th) : PE X (.Subscript e (.Slice lo hi none p2) pos) (zY r te tl th) := by
 intro pins s σ H Q I h
 refine Subscript_ (aZ (he pins s σ H _ I h) fun v s1 ⟨x,H1,I1,r1,q1⟩ => ?_)
 refine wpAny_Slice (aZ (hl pins s1 σ H1 _ I1 q1) fun vl s2 ⟨l,H2,I2,pl,q2⟩ => aZ (hu pins s2 σ H2 _ I2 q2) fun vu s3 ⟨u,H3,I3,pu,q3⟩ => ?_)
 rw [evalPart_none]
 refine wpAny_pure ?_
 have I4 : aq X pins σ H3 { s3 with heap := s3.heap.push { cls := .type "slice",data := .fields #[vl,vu,.none] } } := I3.kept (t' := s3.toks) fun b ob q => Heap.get?_push_of_some _ q
 obtain ⟨T,id,hT,ht,hg⟩ := hr pins { s3 with heap := s3.heap.push { cls := .type "slice",data := .fields #[vl,vu,.none] } } σ H3 x v vl vu l u s3.heap.objs.size Q I4 r1 (Heap.IsSliceOf.new ..) pl pu q3
 show wpAny (model X.prog X.w) X.A (subscriptTail e (.Slice lo hi none p2) v (.ref s3.heap.objs.size)) (EP X pins σ Q) X.xe { s3 with heap := s3.heap.push { cls := .type "slice",data := .fields #[vl,vu,.none] } }
 exact tail_any (ops := [.ref s3.heap.objs.size,v]) ht hT hg (by with_unfolding_all rfl)
def jL (xs : List V) (lo hi : Option Int) : List V := (xs.drop (HT.eC xs.length 0 lo)).take (HT.eC xs.length xs.length hi - HT.eC xs.length 0 lo)
theorem gu (xs : List V) (lo hi : Option Int) : (jL xs lo hi).length <= xs.length := by
 unfold jL
 rw [AH,List.length_drop]
 omega
end
def wo (n : Nat) (i : Int) : Option Nat := if 0 <= i then (if i < n then some i.toNat else none) else if -(n : Int) <= i then some (i + n).toNat else none
def k9 {α : Type} (xs : List α) (i : Int) : Option α := (wo xs.length i).bind fun j => xs[j]?
theorem tz {n : Nat} {i : Int} {j : Nat} (h : wo n i = some j) : seqIndex? i n = some j /\ j < n /\ -(n : Int) <= i /\ i < n := by
 unfold wo at h
 by_cases h0 : 0 <= i
 ·rw [if_pos h0] at h
  by_cases h1 : i < n
  ·rw [if_pos h1] at h
   have e : i.toNat = j := Ao h
   exact ⟨by rw [seqIndex_of h0 h1,e],by omega,by omega,h1⟩
  ·rw [if_neg h1] at h; cases h
 ·rw [if_neg h0] at h
  by_cases h1 : -(n : Int) <= i
  ·rw [if_pos h1] at h
   have e : (i + n).toNat = j := Ao h
   exact ⟨by rw [seqIndex_neg (by omega) h1,e],by omega,h1,by omega⟩
  ·rw [if_neg h1] at h; cases h
theorem jM {α : Type} {xs : List α} {i : Int} {v : α} (h : k9 xs i = some v) : ∃ j,seqIndex? i xs.length = some j /\ xs[j]? = some v /\ j < xs.length /\ -(xs.length : Int) <= i /\ i < xs.length := by
 unfold k9 at h
 cases e : wo xs.length i with
 | none => rw [e] at h; cases h
 | some j =>
  rw [e] at h
  obtain ⟨h1,h2,h3,h4⟩ := tz e
  exact ⟨j,h1,h,h2,h3,h4⟩
theorem eE {α : Type} {xs : List α} {j : Nat} {v : α} (h : xs[j]? = some v) : k9 xs (j : Int) = some v := by
 have hj : j < xs.length := (A1.mp h).1
 have e : wo xs.length (j : Int) = some j := by
  unfold wo
  rw [if_pos (by omega),if_pos (by omega)]; simp
 unfold k9; rw [e]; exact h
def tD (b : Expr) : Prop := ∀ o i,subscripted b false o i = operate [o,i] (getItem o i)
def wK (X : Cx) (r : R2) : Prop :=
 ∀ (value slice : Expr) (pins : List (Addr × Obj)) (s : Shared) (σ : St) (H : Hp) (x y : V) (v u : Value) (Q : VK),aq X pins σ H s -> RelV x v -> RelV y u -> r x y H Q ->
  subscripted slice false v u = operate [v,u] (getItem v u) -> wpAny (model X.prog X.w) X.A (subscriptTail value slice v u) (EP X pins σ Q) X.xe s
def yi (X : Cx) (id : String) (r : V -> List V -> Hp -> VK -> Prop) : Prop :=
 ∀ (pins : List (Addr × Obj)) (s : Shared) (σ : St) (H : Hp) (x : V) (xs : List V) (v : Value) (us : List Value) (Q : VK),aq X pins σ H s -> RelV x v -> aM xs us -> r x xs H Q ->
  wpAny (model X.prog X.w) X.A (call (.builtin id) (v :: us)) (EP X pins σ Q) X.xe s
section
variable {X : Cx} {a b : Expr} {ta tb : TE} {pos : Pos}
theorem bO {r : R2} (hr : wK X r) (ha : PE X a ta) (hb : PE X b tb) (hs : tD b) : PE X (.Subscript a b pos) (yh r ta tb) := by
 intro pins s σ H Q I h
 exact Subscript_ (vr ha hb I h fun v u s2 x y H2 I2 rx ry q => hr a b pins s2 σ H2 x y v u Q I2 rx ry q (hs _ _))
def wL (K : A0) : R2 := fun x y H Q => ∃ p xs i v,x = .ref p /\ y = .int i /\ bu K H p xs /\ k9 xs i = some v /\ Q v H
def yU (K : A0) : R2 := fun x y H Q => ∃ p xs i v,x = .ref p /\ y = .int i /\ iX K H p xs /\ k9 xs i = some v /\ Q v H
def yV : R2 := fun x y H Q => ∃ z i c,x = .str z /\ y = .int i /\ z.length <= sizeLine /\ k9 z.cps.toList i = some c /\ Q (.str ⟨#[c]⟩) H
theorem bQ : wK X (wL X.K) := by
 intro value slice pins s σ H x y v u Q I rx ry h hs
 obtain ⟨p,xs,i,z,rfl,rfl,hq,he,q⟩ := h
 cases rx
 obtain ⟨t,rfl⟩ := ry
 obtain ⟨its,r,pl,hz⟩ := I.list hq
 obtain ⟨j,h1,h2,h3,h4,h5⟩ := jM he
 obtain ⟨w,ew,rw'⟩ := r.get h2
 have hl := r.length
 have hn := hU
 have fin : EP X pins σ Q w s := ⟨z,H,I,rw',q⟩
 by_cases h0 : 0 <= i
 ·have hj : i.toNat = j := by
   rw [seqIndex_of h0 h5] at h1
   exact Ao h1
  exact item_listR pl.isList h0 (by omega) (by rw [hj]; simpa using ew) fin hs
 ·have hj : (i + (its.toArray.size : Int)).toNat = j := by
   rw [seqIndex_neg (by omega) h4] at h1
   rw [AV,<- hl]
   exact Ao h1
  exact subscriptTail_builtinR (x := w) pl.isList.typeIs slot_list_getitem.lookup
   (wpAny_getItem_list_neg (Q := fun r s' => r = w /\ EP X pins σ Q r s') pl.isList (by omega) (by rw [AV] <;> omega) (by omega) (by rw [hj]; simpa using ew) ⟨rfl,fin⟩) hs
theorem fW : wK X (yU X.K) := by
 intro value slice pins s σ H x y v u Q I rx ry h hs
 obtain ⟨p,xs,i,z,rfl,rfl,hq,he,q⟩ := h
 cases rx
 obtain ⟨t,rfl⟩ := ry
 obtain ⟨its,r,pl,hz⟩ := I.tuple hq
 obtain ⟨j,h1,h2,h3,h4,h5⟩ := jM he
 obtain ⟨w,ew,rw'⟩ := r.get h2
 have hl := r.length
 have hn := hU
 have fin : EP X pins σ Q w s := ⟨z,H,I,rw',q⟩
 exact subscriptTail_builtinR (x := w) pl.typeIs slot_tuple_getitem.lookup
  (getItem_tuple (j := j) (Q := fun r s' => r = w /\ EP X pins σ Q r s') pl (by omega) (by omega) (by rw [AV,<- hl]; exact h1) (by simpa using ew) ⟨rfl,fin⟩) hs
theorem jN : wK X yV := by
 intro value slice pins s σ H x y v u Q I rx ry h hs
 obtain ⟨z,i,c,rfl,rfl,hz,he,q⟩ := h
 obtain ⟨t,rfl⟩ := rx
 obtain ⟨t',rfl⟩ := ry
 obtain ⟨j,h1,h2,h3,h4,h5⟩ := jM he
 have hl : z.cps.toList.length = z.length := by simp [Str.length]
 rw [hl] at h1 h4 h5
 have hn := hU
 exact tail_any (typeIs_str s z t) slot_str_getitem.lookup (getItem_str (c := c) (by
  have e1 : decide (i < -(2 ^ 63 : Int)) = false := decide_eq_false (by omega)
  have e2 : decide (i ≥ 2 ^ 63) = false := decide_eq_false (by omega)
  rw [e1,e2,Bool.or_false]) (by rw [h1]; simpa using h2) ⟨.str ⟨#[c]⟩,H,I.tok _,⟨_,rfl⟩,q⟩) hs
theorem jO (lo hi : Option Int) (n : Nat) : (sliceBounds lo hi none n).1 = ((HT.eC n 0 lo : Nat) : Int) /\ (sliceBounds lo hi none n).2.1 = ((HT.eC n n hi : Nat) : Int) /\ (sliceBounds lo hi none n).2.2 = 1 := by
 refine ⟨?_,?_,rfl⟩
 ·cases lo with
  | none => simp [sliceBounds,HT.eC]
  | some i =>
   simp only [sliceBounds,HT.eC,Option.getD_none,show (1 : Int) > 0 by decide,if_true]
   by_cases h : i < 0
   ·simp only [h,if_true] <;> omega
   ·simp only [h,if_false] <;> omega
 ·cases hi with
  | none => simp [sliceBounds,HT.eC]
  | some i =>
   simp only [sliceBounds,HT.eC,Option.getD_none,show (1 : Int) > 0 by decide,if_true]
   by_cases h : i < 0
   ·simp only [h,if_true] <;> omega
   ·simp only [h,if_false] <;> omega
theorem i3 (its : List Value) (lo hi : Option Int) : slicePick its.toArray lo hi none = ((its.drop (HT.eC its.length 0 lo)).take (HT.eC its.length its.length hi - HT.eC its.length 0 lo)).toArray := by
 obtain ⟨h1,h2,h3⟩ := jO lo hi its.toArray.size
 unfold slicePick
 rw [h1,h2,h3]
 simp only [sliceRange_one,pick_run,AV] <;> rfl
def yW (K : A0) : V -> Option Int -> Option Int -> Hp -> VK -> Prop := fun x lo hi H Q => ∃ a xs,x = .ref a /\ bu K H a xs /\ ∀ p,H p = none -> Q (.ref p) (ar H p (.lst (jL xs lo hi)))
theorem jP : yT X (yW X.K) := by
 intro pins s σ H x v vl vu lo hi sl Q I rx hs pl pu h
 obtain ⟨a,xs,rfl,hx,q⟩ := h
 cases rx
 obtain ⟨its,r,ht,hz⟩ := I.list hx
 have hlen := r.length
 refine ⟨"list",_,slot_list_getitem.lookup,ht.isList.typeIs,?_⟩
 refine wpAny_getItem_list_slice ht.isList hs pl pu .none (by simp) ?_ (by rw [AV] <;> omega)
 rw [i3,<- hlen]
 refine ⟨.ref s.heap.objs.size,_,I.laid (t' := s.toks) (o := .lst (jL xs lo hi)) (fun b ob q => Heap.get?_push_of_some _ q) (A5 _) ?_,rfl,q _ (I.hok.fresh (A5 _))⟩
 exact ⟨Ae (gu xs lo hi) hz,_,0,(r.drop (HT.eC xs.length 0 lo)).take (HT.eC xs.length xs.length hi - HT.eC xs.length 0 lo),Heap.get?_push_size _ rfl⟩
def fq : V -> Bool
 | .non => true
 | .bl _ => true
 | .int _ => true
 | .str _ => true
 | _ => false
def tE : V -> V -> Bool
 | .non,.non => true
 | .bl a,.bl b => a == b
 | .bl a,.int b => (if a then 1 else 0) == b
 | .int a,.bl b => a == (if b then 1 else 0)
 | .int a,.int b => a == b
 | .str a,.str b => a == b
 | _,_ => false
theorem vx {A : Around} {s : Shared} {y x : V} {u v : Value} (ry : RelV y u) (rx : RelV x v) (fy : fq y = true) (fx : fq x = true) : SeqAt.EqAt A s u v (tE y x) := by
 cases y with
 | non =>
  cases ry
  cases x with
  | non => cases rx; exact SeqAt.EqAt.same _
  | bl b => cases rx; exact SeqAt.EqAt.none_bool b
  | int b => obtain ⟨t,rfl⟩ := rx; exact SeqAt.EqAt.none_int b t
  | str b => obtain ⟨t,rfl⟩ := rx; exact SeqAt.EqAt.none_str b t
  | _ => exact absurd (show false = true from fx) AM
 | bl a =>
  cases ry
  cases x with
  | non => cases rx; exact SeqAt.EqAt.bool_none a
  | bl b => cases rx; exact SeqAt.EqAt.bool_bool a b
  | int b => obtain ⟨t,rfl⟩ := rx; exact SeqAt.EqAt.bool_int a b t
  | str b => obtain ⟨t,rfl⟩ := rx; exact SeqAt.EqAt.bool_str a b t
  | _ => exact absurd (show false = true from fx) AM
 | int a =>
  obtain ⟨t',rfl⟩ := ry
  cases x with
  | non => cases rx; exact SeqAt.EqAt.int_none a t'
  | bl b => cases rx; exact SeqAt.EqAt.int_bool a t' b
  | int b => obtain ⟨t,rfl⟩ := rx; exact SeqAt.EqAt.int_int a t' b t
  | str b => obtain ⟨t,rfl⟩ := rx; exact SeqAt.EqAt.int_str a t' b t
  | _ => exact absurd (show false = true from fx) AM
 | str a =>
  obtain ⟨t',rfl⟩ := ry
  cases x with
  | non => cases rx; exact SeqAt.EqAt.str_none a t'
  | bl b => cases rx; exact SeqAt.EqAt.str_bool a t' b
  | int b => obtain ⟨t,rfl⟩ := rx; exact SeqAt.EqAt.str_int a t' b t
  | str b => obtain ⟨t,rfl⟩ := rx; exact SeqAt.EqAt.str_str a t' b t
  | _ => exact absurd (show false = true from fx) AM
 | _ => exact absurd (show false = true from fy) AM
def m7 (x : V) (u : Value) : Bool := match u with
 | .none => tE .non x
 | .bool b => tE (.bl b) x
 | .int i _ => tE (.int i) x
 | .str z _ => tE (.str z) x
 | _ => false
theorem rB {x y : V} {u : Value} (r : RelV y u) (f : fq y = true) : m7 x u = tE y x := by
 cases y with
 | non => cases r; rfl
 | bl b => cases r; rfl
 | int i => obtain ⟨t,rfl⟩ := r; rfl
 | str z => obtain ⟨t,rfl⟩ := r; rfl
 | _ => exact absurd (show false = true from f) AM
theorem fu {x : V} : ∀ {xs : List V} {us : List Value},aM xs us -> xs.all fq = true -> us.any (m7 x) = xs.any fun y => tE y x
 | _,_,.nil,_ => rfl
 | y :: xs,u :: us,.cons r t,f => by
  rw [List.all_cons,BU] at f
  rw [List.any_cons,List.any_cons,rB r f.1,fu t f.2]
theorem dU {A : Around} {s : Shared} {x : V} {v : Value} (rx : RelV x v) (fx : fq x = true) : ∀ {xs : List V} {us : List Value},aM xs us -> xs.all fq = true -> ∀ u ∈ us,SeqAt.EqAt A s u v (m7 x u)
 | _,_,.nil,_ => fun u hu => by cases hu
 | y :: xs,u :: us,.cons r t,f => fun u' hu => by
  rw [List.all_cons,BU] at f
  rcases A3.mp hu with rfl | hu
  ·rw [rB r f.1]; exact vx r rx f.1 fx
  ·exact dU rx fx t f.2 u' hu
def tF (x : V) (xs : List V) : Bool := xs.any fun y => tE y x
def yj (K : A0) (neg : Bool) : R2 := fun x y H Q => ∃ p xs,y = .ref p /\ (bu K H p xs ∨ iX K H p xs) /\ fq x = true /\ xs.all fq = true /\ Q (.bl (if neg then !tF x xs else tF x xs)) H
theorem fX : eM X (compareOp .In) (yj X.K false) := by
 intro pins s σ H x y v u Q I rx ry h
 obtain ⟨p,xs,rfl,hq,fx,fs,q⟩ := h
 cases ry
 rcases hq with hq | hq
 ·obtain ⟨its,r,pl,hz⟩ := I.list hq
  refine SeqAt.in_listAt (m7 x) pl.isList (fun w hw => dU rx fx r fs w (by simpa using hw)) ⟨.bl _,H,I,rfl,?_⟩
  rw [show its.toArray.any (m7 x) = its.any (m7 x) by simp,fu r fs]
  exact q
 ·obtain ⟨its,r,pl,hz⟩ := I.tuple hq
  refine SeqAt.in_tupleAt (m7 x) pl (fun w hw => dU rx fx r fs w (by simpa using hw)) ⟨.bl _,H,I,rfl,?_⟩
  rw [show its.toArray.any (m7 x) = its.any (m7 x) by simp,fu r fs]
  exact q
theorem jQ : eM X (compareOp .NotIn) (yj X.K true) := by
 intro pins s σ H x y v u Q I rx ry h
 obtain ⟨p,xs,rfl,hq,fx,fs,q⟩ := h
 cases ry
 rcases hq with hq | hq
 ·obtain ⟨its,r,pl,hz⟩ := I.list hq
  refine SeqAt.notIn_listAt (m7 x) pl.isList (fun w hw => dU rx fx r fs w (by simpa using hw)) ⟨.bl _,H,I,rfl,?_⟩
  rw [show its.toArray.any (m7 x) = its.any (m7 x) by simp,fu r fs]
  exact q
 ·obtain ⟨its,r,pl,hz⟩ := I.tuple hq
  refine SeqAt.notIn_tupleAt (m7 x) pl (fun w hw => dU rx fx r fs w (by simpa using hw)) ⟨.bl _,H,I,rfl,?_⟩
  rw [show its.toArray.any (m7 x) = its.any (m7 x) by simp,fu r fs]
  exact q
theorem fz : eM X (compareOp .NotIn) (fun x y H Q => ∃ i j,x = .str i /\ y = .str j /\ Q (.bl (!(!(Builtin.Str.occurrences j i 0 j.length 1).isEmpty))) H) := by
 intro pins s σ H x y v u Q I rx ry h
 obtain ⟨i,j,rfl,rfl,q⟩ := h
 obtain ⟨t,rfl⟩ := rx
 obtain ⟨t',rfl⟩ := ry
 exact notIn_str ⟨.bl _,H,I,rfl,q⟩
theorem bR : cn X (.builtin "len") (fun xs H Q => ∃ p ys,xs = [.ref p] /\ (bu X.K H p ys ∨ iX X.K H p ys) /\ Q (.int ys.length) H) := by
 intro pins s σ H xs us Q I r h
 obtain ⟨p,ys,rfl,hq,q⟩ := h
 obtain ⟨u,rfl,rx⟩ := vals1 r
 cases rx
 have hn := hU
 rcases hq with hq | hq
 ·obtain ⟨its,r',pl,hz⟩ := I.list hq
  have hlen := r'.length
  exact Calls.call_len_list pl.isList (by simp only [AV] <;> omega) ⟨.int ys.length,H,I.tok _,⟨s.toks + 1,by rw [AV,hlen]⟩,q⟩
 ·obtain ⟨its,r',pl,hz⟩ := I.tuple hq
  have hlen := r'.length
  exact len_tuple pl (by simp only [AV] <;> omega) ⟨.int ys.length,H,I.tok _,⟨s.toks + 1,by rw [AV,hlen]⟩,q⟩
theorem cC : cn X (.builtin "len") (fun xs H Q => ∃ z,xs = [.str z] /\ z.length <= sizeLine /\ Q (.int z.length) H) := by
 intro pins s σ H xs us Q I r h
 obtain ⟨z,rfl,hz,q⟩ := h
 obtain ⟨u,rfl,t,rfl⟩ := vals1 r
 have hn := hU
 exact len_str (by omega) ⟨.int z.length,H,I.tok _,⟨_,rfl⟩,q⟩
def yX (K : A0) (T : String) (x : V) (H : Hp) : Prop := match x with
 | .str _ => T = "str"
 | .int _ => T = "int"
 | .ref p => (T = "list" /\ ∃ xs,bu K H p xs) ∨ (T = "tuple" /\ ∃ o,K.lookup p = some o /\ o.cls = .type "tuple" /\ o.dict = none) ∨
   (T = "dict" /\ ((∃ kvs,H p = some (.dK kvs)) ∨ ∃ kvs,H p = some (.dT kvs))) ∨ (T = "set" /\ ∃ S n,H p = some (.set S n))
 | _ => False
theorem rC {pins : List (Addr × Obj)} {σ : St} {H : Hp} {s : Shared} {T : String} {x : V} {v : Value} (I : aq X pins σ H s) (r : RelV x v) (ty : yX X.K T x H) :
  s.TypeIs v T /\ ∀ a,v = .ref a -> ∃ ob,s.heap.get? a = some ob /\ ob.dict = none := by
 cases x with
 | str z =>
  obtain ⟨t,rfl⟩ := r
  cases (show T = "str" from ty)
  exact ⟨typeIs_str s z t,fun _ e => nomatch e⟩
 | int i =>
  obtain ⟨t,rfl⟩ := r
  cases (show T = "int" from ty)
  exact ⟨typeIs_int s i t,fun _ e => nomatch e⟩
 | ref p =>
  cases r
  rcases ty with ⟨rfl,xs,hq⟩ | ⟨rfl,o,hk,hc,hd⟩ | ⟨rfl,hk⟩ | ⟨rfl,S,n,hk⟩
  ·obtain ⟨its,_,pl,_⟩ := I.list hq
   refine ⟨pl.isList.typeIs,fun a e => ?_⟩
   cases e
   obtain ⟨o,n,e,c,hd,_⟩ := pl
   exact ⟨o,e,hd⟩
  ·refine ⟨⟨o,I.kIn p o hk,hc⟩,fun a e => ?_⟩
   cases e
   exact ⟨o,I.kIn _ o hk,hd⟩
  ·have z : ∃ o,s.heap.get? p = some o /\ o.ExactDict := by
    rcases hk with ⟨kvs,hk⟩ | ⟨kvs,hk⟩
    ·obtain ⟨_,_,_,_,o,_,_,e,ex,_⟩ := I.hok p _ hk
     exact ⟨o,e,ex⟩
    ·obtain ⟨_,_,_,_,o,_,_,e,ex,_⟩ := I.hok p _ hk
     exact ⟨o,e,ex⟩
   obtain ⟨o,e,ex⟩ := z
   refine ⟨⟨o,e,ex.1⟩,fun a e2 => ?_⟩
   cases e2
   exact ⟨o,e,ex.2.1⟩
  ·obtain ⟨o,_,_,_,e,ex,_⟩ := I.hok p _ hk
   refine ⟨⟨o,e,ex.1⟩,fun a e2 => ?_⟩
   cases e2
   exact ⟨o,e,ex.2.1⟩
 | _ => exact False.elim ty
def yY (K : A0) (T : String) (r : V -> List V -> Hp -> VK -> Prop) (to : TE) : TE := fun σ H Q => to σ H fun x H1 => yX K T x H1 /\ r x [] H1 Q
def zZ (K : A0) (T : String) (r : V -> List V -> Hp -> VK -> Prop) (to : TE) (t : TA) : TE := fun σ H Q => to σ H fun x H1 => yX K T x H1 /\ t σ H1 fun xs H2 => r x xs H2 Q
variable {o e : Expr} {es : List Expr} {to : TE} {t : TA} {name : Str} {apos cpos : Pos} {T id : String} {r : V -> List V -> Hp -> VK -> Prop}
theorem vy (pa : PlainAttrs T) (slot : Slot T name id) (hty : typeOf (.builtin id) = pure (.type "method_descriptor")) (hm : yi X id r) (ho : PE X o to)
  (hbase : attributeBase o name X.env (eval o X.env) = eval o X.env := by rfl) (hline : (apos.endLine == cpos.line) = true := by rfl) : PE X (.Call (.Attribute o name apos) [] [] cpos) (yY X.K T r to) := by
 intro pins s σ H Q I h
 refine wpAny_Call_method0_late hbase hline (aZ (ho pins s σ H _ I h) fun v s1 ⟨x,H1,I1,r1,ty,q1⟩ => ?_)
 obtain ⟨h1,h2⟩ := rC I1 r1 ty
 exact ⟨T,id,pa,slot,hty,h1,h2,Calls.callWith_builtin rfl (PySem.evalArgs_none (hm pins s1 σ H1 x [] v [] Q I1 r1 .nil q1))⟩
theorem lh (pa : PlainAttrs T) (slot : Slot T name id) (hty : typeOf (.builtin id) = pure (.type "method_descriptor")) (hm : yi X id r) (ho : PE X o to) (ha : PA X (e :: es) t)
  (hbase : attributeBase o name X.env (eval o X.env) = eval o X.env := by rfl)
  (hfew : ((backTo cpos (starEach (e :: es) X.env)).all (fun x => !x.1) && (backToKw cpos (keywordEach [] X.env)).all (fun x => x.1.isSome)
   && decide ((e :: es).length + ([] : List Keyword).length + (if ([] : List Keyword).isEmpty then 0 else 1) < 30)) = true := by rfl)
  (hline : (apos.endLine == cpos.line) = true := by rfl) (hs : starEach (e :: es) X.env = (false,eval e X.env) :: starEach es X.env := by rfl) (hplain : (backTo cpos (starEach es X.env)).any (·.1) = false := by rfl) :
  PE X (.Call (.Attribute o name apos) (e :: es) [] cpos) (zZ X.K T r to t) := by
 intro pins s σ H Q I h
 refine wpAny_Call_method_late hbase hfew hline rfl (aZ (ho pins s σ H _ I h) fun v s1 ⟨x,H1,I1,r1,ty,q1⟩ => ?_)
 obtain ⟨h1,h2⟩ := rC I1 r1 ty
 refine ⟨T,id,pa,slot,hty,h1,h2,?_⟩
 have hA := ha cpos pins s1 σ H1 _ I1 q1
 rw [hs] at hA ⊢
 refine Calls.callWith_builtin (by show (false || (backTo cpos (starEach es X.env)).any (·.1)) = false; rw [hplain] <;> rfl) (Calls.evalArgs_plain ?_)
 exact aZ hA fun us s2 ⟨vs,H2,I2,r2,q2⟩ => hm pins s2 σ H2 x vs v us Q I2 r1 r2 q2
end
def zO (X : Cx) (id : String) (r : V -> List V -> Hp -> VK -> Prop) : Prop :=
 ∀ (pins : List (Addr × Obj)) (s : Shared) (σ : St) (H : Hp) (x : V) (xs : List V) (v : Value) (us : List Value) (Q : VK),aq X pins σ H s -> RelV x v -> aM xs us -> r x xs H Q ->
  wpAny (model X.prog X.w) X.A (call (.builtin id) (v :: us)) (EP X pins σ Q) X.xe s
theorem aM.one : ∀ {x : V} {us : List Value},aM [x] us -> ∃ u,us = [u] /\ RelV x u
 | _,_,.cons r .nil => ⟨_,rfl,r⟩
theorem aM.zero : ∀ {us : List Value},aM [] us -> us = []
 | _,.nil => rfl
theorem aM.dropLast {xs : List V} {us : List Value} (h : aM xs us) : aM xs.dropLast us.dropLast := by
 induction h with
 | nil => exact .nil
 | cons r t ih =>
  cases t with
  | nil => exact .nil
  | cons q t' => exact .cons r ih
theorem m8 {α : Type} (l : List α) : l.eraseIdx (l.length - 1) = l.dropLast := by
 induction l with
 | nil => rfl
 | cons a r ih =>
  cases r with
  | nil => rfl
  | cons b r =>
   have e : (a :: b :: r).length - 1 = ((b :: r).length - 1) + 1 := by
    have h1 : (a :: b :: r).length = r.length + 2 := rfl
    have h2 : (b :: r).length = r.length + 1 := rfl
    omega
   rw [e,List.eraseIdx_cons_succ,ih]
   all_goals rfl
section
variable {X : Cx} {pins : List (Addr × Obj)} {σ : St} {H : Hp} {s : Shared} {l b : Addr} {xs ys zs : List V}
theorem aq.lset {its its' : List Value} {n : Nat} {f : Array Value -> Array Value} {t' : Nat} (I : aq X pins σ H s) (hH : H l = some (.lst xs))
  (e : s.heap.get? l = some { cls := .type "list",data := .seq its.toArray n }) (hf : f its.toArray = its'.toArray) (hv : aM ys its') (hz : ys.length <= sizeLine) :
  aq X pins σ (ar H l (.lst ys)) { s with heap := s.heap.update l (Obj.mapSeq f),toks := t' } := by
 have q := PySem.IsL.update e f
 rw [hf] at q
 refine I.write (x := l) (e := l) (by rw [hH]; exact trivial) (.inl rfl) (fun b' u hb hu => (Heap.get?_update_other s.heap (Obj.mapSeq f) (Ne.symm hb)).trans hu) ⟨_,q⟩ ?_
 exact ⟨hz,its',_,hv,q⟩
theorem aq.lnew {its : List Value} {t' : Nat} (I : aq X pins σ H s) (hv : aM ys its) (hz : ys.length <= sizeLine) :
  aq X pins σ (ar H s.heap.objs.size (.lst ys)) { s with heap := s.heap.push { cls := .type "list",data := .seq its.toArray },toks := t' } :=
 I.laid (fun _ _ q => Heap.get?_push_of_some _ q) (A5 _) ⟨hz,its,0,hv,Heap.get?_push_size _ rfl⟩
theorem aq.fresh (I : aq X pins σ H s) : H s.heap.objs.size = none := I.hok.fresh (A5 _)
theorem aq.lstM (I : aq X pins σ H s) (hH : H l = some (.lst xs)) : xs.length <= sizeLine /\ ∃ (its : List Value) (n : Nat),aM xs its /\ xs.length = its.length /\ s.heap.get? l = some { cls := .type "list",data := .seq its.toArray n } := by
 obtain ⟨z,its,n,r,e⟩ := I.hok l _ hH
 exact ⟨z,its,n,r,r.length,e⟩
end
section
variable {X : Cx}
def tG : V -> List V -> Hp -> VK -> Prop := fun x vs H Q => ∃ l xs y,x = .ref l /\ vs = [y] /\ H l = some (.lst xs) /\ xs.length < sizeLine /\ Q .non (ar H l (.lst (xs ++ [y])))
theorem df : zO X "list.append" tG := by
 intro pins s σ H x vs v us Q I rx rv h
 obtain ⟨l,xs,y,rfl,rfl,hH,hz,q⟩ := h
 cases rx
 obtain ⟨u,rfl,ru⟩ := rv.one
 obtain ⟨z,its,n,r,hl,e⟩ := I.lstM hH
 refine call_meets F.slot_list_append ⟨_,e,rfl⟩ F.entry_list_append (F.args_list_append_2 _ _) (PySem.list_append l its.toArray n u (by rw [AV]; omega)) ⟨e,?_⟩
 refine ⟨.non,_,I.lset (its' := its ++ [u]) hH e (by simp) (r.append (.cons ru .nil)) ?_,rfl,q⟩
 rw [AA,List.length_singleton]
 omega
def yZ : V -> List V -> Hp -> VK -> Prop := fun x vs H Q => ∃ l xs y,x = .ref l /\ vs = [] /\ H l = some (.lst xs) /\ xs[xs.length - 1]? = some y /\ Q y (ar H l (.lst xs.dropLast))
theorem vz : zO X "list.pop" yZ := by
 intro pins s σ H x vs v us Q I rx rv h
 obtain ⟨l,xs,y,rfl,rfl,hH,hy,q⟩ := h
 cases rx
 have hus := rv.zero
 subst hus
 obtain ⟨z,its,n,r,hl,e⟩ := I.lstM hH
 obtain ⟨u,hu,ru⟩ := r.get hy
 have hy' : its.toArray[its.toArray.size - 1]? = some u := by
  show its.toArray[its.length - 1]? = some u
  rw [<- AT,<- hl]
  exact hu
 refine call_meets F.slot_list_pop ⟨_,e,rfl⟩ F.entry_list_pop (F.args_list_pop_1 _) (MeetsSeq.list_pop_last l its.toArray n u hy' (by rw [AV]; omega)) ⟨e,?_⟩
 refine ⟨y,_,I.lset (its' := its.dropLast) hH e ?_ r.dropLast ?_,ru,q⟩
 ·show its.toArray.eraseIdxIfInBounds (its.toArray.size - 1) = its.dropLast.toArray
  rw [AV,List.eraseIdxIfInBounds_toArray,m8]
 ·rw [List.length_dropLast]
  omega
def y3 : R2 := fun x y H Q => ∃ l b xs zs,x = .ref l /\ y = .ref b /\ H l = some (.lst xs) /\ H b = some (.lst zs) /\ xs.length + zs.length <= sizeLine /\ ∀ p,H p = none -> Q (.ref p) (ar H p (.lst (xs ++ zs)))
theorem vA : eM X (binaryOp .Add) y3 := by
 intro pins s σ H x y v u Q I rx ry h
 obtain ⟨l,b,xs,zs,rfl,rfl,hH,hB,hz,q⟩ := h
 cases rx
 cases ry
 obtain ⟨z,its,n,r,hl,e⟩ := I.lstM hH
 obtain ⟨z2,its2,n2,r2,hl2,e2⟩ := I.lstM hB
 refine PySem.P.add_list e e2 ?_ (by rw [AV,AV]; omega)
 have ea : its.toArray ++ its2.toArray = (its ++ its2).toArray := by simp
 rw [ea]
 exact ⟨.ref _,_,I.lnew (t' := s.toks) (r.append r2) (by rw [AA]; omega),rfl,q _ I.fresh⟩
end
section
variable {prog : Program} {w : World} {A : Around} {E : Value -> Shared -> Prop} {s : Shared}
end
section
variable {X : Cx}
end
section
variable {κ : Type} [DecidableEq κ]
def aN (kvs : List (κ × V)) (k : κ) : Option V := (kvs.find? fun kv => decide (kv.1 = k)).map (·.2)
def putK (kvs : List (κ × V)) (k : κ) (v : V) : List (κ × V) :=
 if (kvs.any fun kv => decide (kv.1 = k)) = true then kvs.map (fun kv => if kv.1 = k then (kv.1,v) else kv) else kvs ++ [(k,v)]
def hZ (kvs : List (κ × V)) (k : κ) : List (κ × V) := kvs.filter fun kv => decide (kv.1 ≠ k)
theorem a9 {p : κ × V} {r : List (κ × V)} {k : κ} (e : p.1 = k) : aN (p :: r) k = some p.2 := by simp [aN,Br,e]
theorem bf {p : κ × V} {r : List (κ × V)} {k : κ} (e : ¬ p.1 = k) : aN (p :: r) k = aN r k := by simp [aN,Br,e]
theorem dW (k : κ) : ∀ kvs : List (κ × V),(kvs.any fun kv => decide (kv.1 = k)) = (aN kvs k).isSome
 | [] => rfl
 | p :: r => by
  rw [List.any_cons]
  by_cases e : p.1 = k
  ·simp only [a9 e,decide_eq_true e,Bool.true_or,Option.isSome_some]
  ·rw [bf e,decide_eq_false e,Bool.false_or]; exact dW k r
theorem lj (k j : κ) (y : V) : ∀ kvs : List (κ × V),aN (kvs.map fun kv => if kv.1 = k then (kv.1,y) else kv) j = (aN kvs j).map fun x => if j = k then y else x
 | [] => rfl
 | p :: r => by
  have ih := lj k j y r
  rw [An]
  by_cases h : p.1 = k
  ·rw [if_pos h]
   by_cases e : p.1 = j
   ·rw [a9 (p := (p.1,y)) e,a9 e,Bo,if_pos (e.symm.trans h)]
   ·rw [bf (p := (p.1,y)) e,bf e,ih]
  ·rw [if_neg h]
   by_cases e : p.1 = j
   ·rw [a9 (p := p) e,a9 e,Bo,if_neg (fun z => h (e.trans z))]
   ·rw [bf (p := p) e,bf e,ih]
theorem jn (k j : κ) (y : V) : ∀ kvs : List (κ × V),aN kvs k = none -> aN (kvs ++ [(k,y)]) j = if j = k then some y else aN kvs j
 | [],_ => by
  by_cases e : k = j
  ·rw [if_pos e.symm]; exact a9 (p := (k,y)) e
  ·rw [if_neg (fun z => e z.symm)]; exact bf (p := (k,y)) e
 | p :: r,hn => by
  rw [List.cons_append]
  have hk : ¬ p.1 = k := fun z => by rw [a9 z] at hn; cases hn
  rw [bf hk] at hn
  have ih := jn k j y r hn
  by_cases e : p.1 = j
  ·rw [a9 e,a9 e,if_neg (fun z => hk (e.trans z))]
  ·rw [bf e,bf e,ih]
theorem fA (kvs : List (κ × V)) (k j : κ) (y : V) : aN (putK kvs k y) j = if j = k then some y else aN kvs j := by
 unfold putK
 by_cases a : (kvs.any fun kv => decide (kv.1 = k)) = true
 ·rw [if_pos a,lj]
  rw [dW] at a
  by_cases e : j = k
  ·obtain ⟨x,hx⟩ := B0.mp a
   rw [if_pos e,e,hx,Bo,if_pos rfl]
  ·rw [if_neg e]
   cases aN kvs j with
   | none => rfl
   | some x => rw [Bo,if_neg e]
 ·rw [if_neg a]
  refine jn k j y kvs ?_
  rw [dW] at a
  cases q : aN kvs k with
  | none => rfl
  | some x => rw [q] at a; exact (a rfl).elim
theorem cq (kvs : List (κ × V)) (k : κ) (v : V) : (putK kvs k v).length <= kvs.length + 1 := by
 unfold putK
 split
 ·rw [A8]; omega
 ·rw [AA,Ad,BE]; omega
theorem ic {kvs : List (κ × V)} {k : κ} (v : V) (h : aN kvs k = none) : putK kvs k v = kvs ++ [(k,v)] := by
 unfold putK
 rw [dW,h]
 exact if_neg (by decide)
theorem cV.isSome_eq {o : Option V} {u : Option Value} (r : cV o u) : o.isSome = u.isSome := by
 cases o with
 | none => cases u with
  | none => rfl
  | some _ => exact (show False from r).elim
 | some _ => cases u with
  | none => exact (show False from r).elim
  | some _ => rfl
theorem cV.getD {o : Option V} {u : Option Value} {d : V} {d' : Value} (r : cV o u) (rd : RelV d d') : RelV (o.getD d) (u.getD d') := by
 cases o with
 | none => cases u with
  | none => exact rd
  | some _ => exact (show False from r).elim
 | some _ => cases u with
  | none => exact (show False from r).elim
  | some _ => exact r
theorem KV.val {kvs : List (κ × V)} {vs : List (κ × Value)} (r : KV kvs vs) (k : κ) : cV (aN kvs k) (valueAt vs k) := by
 unfold KV at r
 induction r with
 | nil => exact True.intro
 | @cons p q ps qs h t ih =>
  obtain ⟨h1,h2⟩ := h
  by_cases e : p.1 = k
  ·have e' : q.1 = k := h1.symm.trans e
   have b : valueAt (q :: qs) k = some q.2 := by simp [valueAt,Br,e']
   rw [a9 e,b]; exact h2
  ·have e' : ¬ q.1 = k := fun z => e (h1.trans z)
   have b : valueAt (q :: qs) k = valueAt qs k := by simp [valueAt,Br,e']
   rw [bf e,b]; exact ih
theorem KV.any {kvs : List (κ × V)} {vs : List (κ × Value)} (r : KV kvs vs) (k : κ) : (kvs.any fun kv => decide (kv.1 = k)) = vs.any fun kv => decide (kv.1 = k) := by
 unfold KV at r
 induction r with
 | nil => rfl
 | cons h t ih => rw [List.any_cons,List.any_cons,ih,h.1]
theorem KV.repl {kvs : List (κ × V)} {vs : List (κ × Value)} (r : KV kvs vs) (k : κ) {y : V} {u : Value} (ry : RelV y u) :
  KV (kvs.map fun kv => if kv.1 = k then (kv.1,y) else kv) (vs.map fun kv => if kv.1 = k then (kv.1,u) else kv) := by
 unfold KV at r ⊢
 induction r with
 | nil => exact .nil
 | @cons p q ps qs h t ih =>
  rw [An,An]
  refine .cons ?_ ih
  obtain ⟨h1,h2⟩ := h
  by_cases e : p.1 = k
  ·rw [if_pos e,if_pos (h1.symm.trans e)]; exact ⟨h1,ry⟩
  ·rw [if_neg e,if_neg (fun z => e (h1.trans z))]; exact ⟨h1,h2⟩
theorem KV.put {kvs : List (κ × V)} {vs : List (κ × Value)} (r : KV kvs vs) (k : κ) {y : V} {u : Value} (ry : RelV y u) : KV (putK kvs k y) (stored vs k u) := by
 unfold putK stored
 rw [r.any k]
 by_cases e : (vs.any fun kv => decide (kv.1 = k)) = true
 ·rw [if_pos e,if_pos e]; exact r.repl k ry
 ·rw [if_neg e,if_neg e]; exact Paired.snoc r ⟨rfl,ry⟩
theorem KV.drop {kvs : List (κ × V)} {vs : List (κ × Value)} (r : KV kvs vs) (k : κ) : KV (hZ kvs k) (without vs k) := by
 unfold KV at r ⊢
 unfold hZ without
 induction r with
 | nil => exact .nil
 | @cons p q ps qs h t ih =>
  obtain ⟨h1,h2⟩ := h
  rw [B8,B8]
  by_cases e : p.1 = k
  ·have a : ¬ decide (p.1 ≠ k) = true := by simp [e]
   have b : ¬ decide (q.1 ≠ k) = true := by simp [h1.symm.trans e]
   rw [if_neg a,if_neg b]; exact ih
  ·have e' : ¬ q.1 = k := fun z => e (h1.trans z)
   have a : decide (p.1 ≠ k) = true := by simp [e]
   have b : decide (q.1 ≠ k) = true := by simp [e']
   rw [if_pos a,if_pos b]; exact .cons ⟨h1,h2⟩ ih
theorem KV.length {kvs : List (κ × V)} {vs : List (κ × Value)} (r : KV kvs vs) : kvs.length = vs.length := Paired.length r
theorem rD (kvs : List (κ × V)) (k : κ) : (hZ kvs k).length <= kvs.length := B5 _ _
end
theorem dX {P : Program} {w : World} {k : Key} {u : Value} (r : RelV (kV k) u) : (aA P w).is k u = true := by
 cases k with
 | inl i => obtain ⟨t,e⟩ := (show ∃ t,u = Value.int i t from r); subst e; exact kT P w i t
 | inr x => obtain ⟨t,e⟩ := (show ∃ t,u = Value.str x t from r); subst e; exact kU P w x t
theorem jo {P : Program} {w : World} : ∀ {ks : List Key} {us : List Value},aM (ks.map kV) us -> ItemsAre (aA P w) ks us
 | [],_,r => by rw [List.map_nil] at r; cases r; exact .nil
 | k :: ks,_,r => by
  rw [An] at r
  cases r with
  | cons h t => exact .cons (dX h) (jo t)
abbrev KT (H : Hp) : List (List Key × V) -> List (List Key × Addr × Value) -> Prop := Paired fun p q => p.1 = q.1 /\ H q.2.1 = some (.tup (p.1.map kV)) /\ RelV p.2 q.2.2
theorem KT.val {H : Hp} {kvs : List (List Key × V)} {xs : List (List Key × Addr × Value)} (r : KT H kvs xs) (k : List Key) : cV (aN kvs k) ((atKey xs k).map (·.2)) := by
 induction r with
 | nil => exact True.intro
 | @cons p q ps qs h t ih =>
  obtain ⟨h1,_,h2⟩ := h
  by_cases e : p.1 = k
  ·have e' : q.1 = k := h1.symm.trans e
   have b : atKey (q :: qs) k = some q.2 := by simp [atKey,Br,e']
   rw [a9 e,b]; exact h2
  ·have e' : ¬ q.1 = k := fun z => e (h1.trans z)
   have b : atKey (q :: qs) k = atKey qs k := by simp [atKey,Br,e']
   rw [bf e,b]; exact ih
theorem KT.repl {H : Hp} {kvs : List (List Key × V)} {xs : List (List Key × Addr × Value)} (r : KT H kvs xs) (k : List Key) {y : V} {u : Value} (ry : RelV y u) :
  KT H (kvs.map fun kv => if kv.1 = k then (kv.1,y) else kv) (xs.map (putAt k u)) := by
 induction r with
 | nil => exact .nil
 | @cons p q ps qs h t ih =>
  rw [An,An]
  refine .cons ?_ ih
  obtain ⟨h1,h2,h3⟩ := h
  unfold putAt
  by_cases e : p.1 = k
  ·rw [if_pos e,if_pos (h1.symm.trans e)]; exact ⟨h1,h2,ry⟩
  ·rw [if_neg e,if_neg (fun z => e (h1.trans z))]; exact ⟨h1,h2,h3⟩
theorem KT.put {H : Hp} {kvs : List (List Key × V)} {xs : List (List Key × Addr × Value)} (r : KT H kvs xs) (k : List Key) {b : Addr} {y : V} {u : Value} (hb : H b = some (.tup (k.map kV))) (ry : RelV y u) :
  KT H (putK kvs k y) (storedH xs k b u) := by
 have e : (kvs.any fun kv => decide (kv.1 = k)) = (atKey xs k).isSome := by
  rw [dW,(r.val k).isSome_eq,Option.isSome_map]
 unfold putK storedH
 rw [e]
 by_cases q : (atKey xs k).isSome = true
 ·rw [if_pos q,if_pos q]; exact r.repl k ry
 ·rw [if_neg q,if_neg q]; exact Paired.snoc r ⟨rfl,hb,ry⟩
theorem KT.keeps {H H' : Hp} {kvs : List (List Key × V)} {xs : List (List Key × Addr × Value)} (r : KT H kvs xs) (ht : ∀ b ys,H b = some (.tup ys) -> H' b = some (.tup ys)) : KT H' kvs xs :=
 Paired.mapP r fun _ _ z => ⟨z.1,ht _ _ z.2.1,z.2.2⟩
section
variable {P : Program} {w : World} {H : Hp} {h : Heap} {a : Addr}
theorem u4 {u : HO} (ok : c9 P w H h) (e : Rd H a u) : aX P w H h a u := e.ok ok
theorem gw {kvs : List (Key × V)} (ok : c9 P w H h) (e : Rd H a (.dK kvs)) : kvs.length <= sizeLine /\ (a == sysModules) = false /\ ∃ vs,KV kvs vs /\ h.DictOf (aA P w) a vs :=
 show aX P w H h a (.dK kvs) from u4 ok e
theorem ie {kvs : List (Key × V)} (ok : c9 P w H h) (e : H a = some (.dK kvs)) : kvs.length <= sizeLine /\ (a == sysModules) = false /\ ∃ vs,KV kvs vs /\ h.DictOf (aA P w) a vs := gw ok (.inl e)
theorem fY {ks : List Key} (ok : c9 P w H h) (e : H a = some (.tup (ks.map kV))) : (tupleKind (aA P w)).is h ks a := by
 obtain ⟨_,its,r,o,h1,h2,n,h3⟩ := (show aX P w H h a (.tup (ks.map kV)) from ok a _ e)
 exact ⟨o,its.toArray,n,h1,h2,h3,by simpa using jo r⟩
theorem ig {kvs : List (List Key × V)} (ok : c9 P w H h) (e : Rd H a (.dT kvs)) : kvs.length <= sizeLine /\ (a == sysModules) = false /\
  ∃ xs,KT H kvs xs /\ h.DictOfH (tupleKind (aA P w)) a xs := by
 obtain ⟨z,y,xs,r,o,es,ep,h1,h2,h3,h4,h5⟩ := (show aX P w H h a (.dT kvs) from u4 ok e)
 refine ⟨z,y,xs,r,o,es,ep,h1,h2,h3,h4,fun x hx => ?_,h5⟩
 have all : ∀ {l : List (List Key × V)} {m : List (List Key × Addr × Value)},KT H l m -> ∀ x ∈ m,(tupleKind (aA P w)).is h x.1 x.2.1 := by
  intro l m q
  induction q with
  | nil => intro x hx; exact nomatch hx
  | @cons p q ps qs hq t ih =>
   intro x hx
   rcases A3.mp hx with e | hx
   ·subst e
    exact fY ok (by rw [<- hq.1]; exact hq.2.1)
   ·exact ih x hx
 exact all r x hx
theorem wM {kvs : List (List Key × V)} (ok : c9 P w H h) (e : H a = some (.dT kvs)) : kvs.length <= sizeLine /\ (a == sysModules) = false /\
  ∃ xs,KT H kvs xs /\ h.DictOfH (tupleKind (aA P w)) a xs := ig ok (.inl e)
end
def dB (H : Hp) (a : Addr) (y : V) (r : Option V) : Prop :=
 (∃ kvs k,Rd H a (.dK kvs) /\ y = kV k /\ r = aN kvs k) ∨ ∃ kvs k b,Rd H a (.dT kvs) /\ y = .ref b /\ H b = some (.tup (k.map kV)) /\ r = aN kvs k
def fZ (H : Hp) (a : Addr) (y v : V) (H' : Hp) : Prop :=
 (∃ kvs k,H a = some (.dK kvs) /\ y = kV k /\ kvs.length < sizeLine /\ H' = ar H a (.dK (putK kvs k v))) ∨
 ∃ kvs k b,H a = some (.dT kvs) /\ y = .ref b /\ H b = some (.tup (k.map kV)) /\ kvs.length < sizeLine /\ H' = ar H a (.dT (putK kvs k v))
theorem dB.k {H : Hp} {a : Addr} {kvs : List (Key × V)} {k : Key} (e : H a = some (.dK kvs)) : dB H a (kV k) (aN kvs k) := .inl ⟨kvs,k,.inl e,rfl,rfl⟩
theorem fZ.k {H : Hp} {a : Addr} {kvs : List (Key × V)} {k : Key} {v : V} (e : H a = some (.dK kvs)) (hl : kvs.length < sizeLine) : fZ H a (kV k) v (ar H a (.dK (putK kvs k v))) := .inl ⟨kvs,k,e,rfl,hl,rfl⟩
section
variable {X : Cx} {pins : List (Addr × Obj)} {σ : St} {H : Hp} {s : Shared} {a : Addr} {y v : V} {u r : Value} {o : Option V} {A : Around} {E : Value -> Shared -> Prop}
theorem aq.big (I : aq X pins σ H s) : sysModules < s.heap.objs.size := by
 have h : mainGlobals < s.heap.objs.size := (I.mod.glob.keeps I.bk).lt
 exact Nat.lt_trans (by decide) h
theorem pQ {Q : Value -> Shared -> Prop} (hu : A.units + 1 < cLine) (I : aq X pins σ H s) (g : dB H a y (some v)) (ry : RelV y u) (h : ∀ w' s',aq X pins σ H s' -> RelV v w' -> Q w' s') :
  wpAny (model X.prog X.w) A (getItem (.ref a) u) Q E s := by
 rcases g with ⟨kvs,k,e,ey,l⟩ | ⟨kvs,k,b,e,ey,eb,l⟩
 ·subst ey
  obtain ⟨z,hd,vs,rel,dd⟩ := gw I.hok e
  obtain ⟨w',hw,rw'⟩ := cV.some_of (v := v) (o := valueAt vs k) (by rw [l]; exact rel.val k)
  exact wpAny_getItem_of (dX ry) dd.mapOf hw (h w' _ (I.tok _) rw')
 ·subst ey
  cases (show u = Value.ref b from ry)
  obtain ⟨z,hd,xs,rel,dd⟩ := ig I.hok e
  obtain ⟨w',hw,rw'⟩ := cV.some_of (v := v) (o := (atKey xs k).map (·.2)) (by rw [l]; exact rel.val k)
  obtain ⟨p,hp,hp2⟩ := BG.mp hw
  refine wpAny_getItem_heap (tupleKind_room_in1 hu) (fY I.hok eb) dd hp ?_
  rw [hp2]
  exact h w' _ (I.tok _) rw'
theorem y4 {Q : Value -> Shared -> Prop} (hu : A.units + 1 < cLine) (I : aq X pins σ H s) (g : dB H a y o) (ry : RelV y u) (h : ∀ s',aq X pins σ H s' -> Q (.bool o.isSome) s') :
  wpAny (model X.prog X.w) A (compareOp .In u (.ref a)) Q E s := by
 rcases g with ⟨kvs,k,e,ey,l⟩ | ⟨kvs,k,b,e,ey,eb,l⟩
 ·subst ey
  obtain ⟨z,hd,vs,rel,dd⟩ := gw I.hok e
  refine wpAny_in_of (dX ry) hd dd.mapOf ?_
  rw [<- (rel.val k).isSome_eq,<- l]
  exact h _ (I.tok _)
 ·subst ey
  cases (show u = Value.ref b from ry)
  obtain ⟨z,hd,xs,rel,dd⟩ := ig I.hok e
  refine wpAny_in_heap (tupleKind_room_in1 hu) (fY I.hok eb) hd dd ?_
  have q := (rel.val k).isSome_eq
  rw [Option.isSome_map] at q
  rw [<- q,<- l]
  exact h _ (I.tok _)
theorem tH {Q : Value -> Shared -> Prop} (hu : A.units + 1 < cLine) (I : aq X pins σ H s) (g : dB H a y o) (ry : RelV y u) (h : ∀ s',aq X pins σ H s' -> Q (.bool (!o.isSome)) s') :
  wpAny (model X.prog X.w) A (compareOp .NotIn u (.ref a)) Q E s := by
 rcases g with ⟨kvs,k,e,ey,l⟩ | ⟨kvs,k,b,e,ey,eb,l⟩
 ·subst ey
  obtain ⟨z,hd,vs,rel,dd⟩ := gw I.hok e
  refine wpAny_notIn_of (dX ry) hd dd.mapOf ?_
  rw [<- (rel.val k).isSome_eq,<- l]
  exact h _ (I.tok _)
 ·subst ey
  cases (show u = Value.ref b from ry)
  obtain ⟨z,hd,xs,rel,dd⟩ := ig I.hok e
  refine wpAny_notIn_heap (tupleKind_room_in1 hu) (fY I.hok eb) hd dd ?_
  have q := (rel.val k).isSome_eq
  rw [Option.isSome_map] at q
  rw [<- q,<- l]
  exact h _ (I.tok _)
theorem fB {h' : Heap} {t' : Nat} {ob : HO} (I : aq X pins σ H s) (mu : wv (H a)) (hs : Heap.SameBut a s.heap h') (he : ∃ q,h'.get? a = some q) (new : aX X.prog X.w (ar H a ob) h' a ob) :
  aq X pins σ (ar H a ob) { s with heap := h',toks := t' } :=
 I.write (x := a) (e := a) mu (.inl rfl) (fun b q hb z => (hs.2 b hb).trans z) he new
theorem jR {P : Program} {w : World} {H' : Hp} {h' : Heap} {kvs : List (Key × V)} {vs : List (Key × Value)} (z : kvs.length <= sizeLine) (hd : (a == sysModules) = false) (rel : KV kvs vs) (dd : h'.DictOf (aA P w) a vs) :
  aX P w H' h' a (.dK kvs) := ⟨z,hd,vs,rel,dd⟩
theorem pR {H' : Hp} {Q : Unit -> Shared -> Prop} (hu : A.units + 1 < cLine) (I : aq X pins σ H s) (g : fZ H a y v H') (ry : RelV y u) (rv : RelV v r) (h : ∀ s',aq X pins σ H' s' -> Q () s') :
  wpAny (model X.prog X.w) A (setItem (.ref a) u r) Q E s := by
 rcases g with ⟨kvs,k,e,ey,l,eH⟩ | ⟨kvs,k,b,e,ey,eb,l,eH⟩
 ·subst ey eH
  obtain ⟨z,hd,vs,rel,dd⟩ := ie I.hok e
  have hz : vs.length <= sizeLine := by rw [<- rel.length]; exact z
  have hl : (putK kvs k v).length <= sizeLine := by have := cq kvs k v; omega
  refine wpAny_setItem_pairs (hsz := hz) (dX ry) dd fun h' dd' hs => h _ ?_
  have he : ∃ q,h'.get? a = some q := let ⟨q,_,_,hq,_⟩ := dd'; ⟨q,hq⟩
  exact fB I (by rw [e]; exact True.intro) hs he (jR hl hd (rel.put k rv) dd')
 ·subst ey eH
  cases (show u = Value.ref b from ry)
  obtain ⟨z,hd,xs,rel,dd⟩ := wM I.hok e
  have hz : xs.length <= sizeLine := by rw [<- Paired.length rel]; exact z
  have hl : (putK kvs k v).length <= sizeLine := by have := cq kvs k v; omega
  refine wpAny_setItem_heap (hsz := hz) (tupleKind_room_in1 hu) (fY I.hok eb) dd fun h' dd' hs => h _ ?_
  obtain ⟨q,es,ep,hq,h2,h3,h4,_,h5⟩ := dd'
  refine fB I (by rw [e]; exact True.intro) hs ⟨q,hq⟩ ⟨hl,hd,_,(rel.put k eb rv).keeps fun c ys ec => ?_,q,es,ep,hq,h2,h3,h4,h5⟩
  rw [af (gq ec e (fun z => nomatch z))]
  exact ec
end
section
variable {X : Cx} {pins : List (Addr × Obj)} {σ : St} {H : Hp} {s : Shared} {a : Addr} {kvs : List (Key × V)} {k : Key} {u : Value} {A : Around} {E : Value -> Shared -> Prop}
theorem wN {v : V} {more : List Value} {Q : Value -> Shared -> Prop} (I : aq X pins σ H s) (e : H a = some (.dK kvs)) (ry : RelV (kV k) u) (l : aN kvs k = some v) (hm : more = [] ∨ ∃ x,more = [x])
  (h : ∀ w' s',aq X pins σ (ar H a (.dK (hZ kvs k))) s' -> RelV v w' -> Q w' s') : wpAny (model X.prog X.w) A (call (.builtin "dict.pop") (.ref a :: u :: more)) Q E s := by
 obtain ⟨z,hd,vs,rel,dd⟩ := ie I.hok e
 obtain ⟨w',hw,rw'⟩ := cV.some_of (v := v) (o := valueAt vs k) (by rw [<- l]; exact rel.val k)
 have hp : (keyPart u).isSome = true := by
  cases k with
  | inl i => obtain ⟨t,q⟩ := (show ∃ t,u = Value.int i t from ry); subst q; rfl
  | inr x => obtain ⟨t,q⟩ := (show ∃ t,u = Value.str x t from ry); subst q; rfl
 have ha : argsOk "dict.pop" ⟨.ref a :: u :: more,[]⟩ := by
  rcases hm with q | ⟨x,q⟩
  ·subst q; exact PySem.F.args_dict_pop_2 _ _
  ·subst q; exact PySem.F.args_dict_pop_3 _ _ _
 refine call_meetsIn PySem.F.slot_dict_pop dd.typeIs PySem.F.entry_dict_pop ha (meets_dict_pop_there (aA X.prog X.w) a (dX ry) more hm hp)
  ⟨vs,w',dd,by rw [<- rel.length]; exact z,hw,fun h' dd' hs => h w' _ ?_ rw'⟩
 have he : ∃ q,h'.get? a = some q := let ⟨q,_,_,hq,_⟩ := dd'; ⟨q,hq⟩
 exact fB I (by rw [e]; exact True.intro) hs he (jR (Ae (rD kvs k) z) hd (rel.drop k) dd')
theorem vB {r : Value} {Q : Value -> Shared -> Prop} (I : aq X pins σ H s) (e : H a = some (.dK kvs)) (ry : RelV (kV k) u) (l : aN kvs k = none) (h : ∀ s',aq X pins σ H s' -> Q r s') :
  wpAny (model X.prog X.w) A (call (.builtin "dict.pop") [.ref a,u,r]) Q E s := by
 obtain ⟨z,hd,vs,rel,dd⟩ := ie I.hok e
 have hn : valueAt vs k = none := cV.none_of (by rw [<- l]; exact rel.val k)
 have hp : (keyPart u).isSome = true := by
  cases k with
  | inl i => obtain ⟨t,q⟩ := (show ∃ t,u = Value.int i t from ry); subst q; rfl
  | inr x => obtain ⟨t,q⟩ := (show ∃ t,u = Value.str x t from ry); subst q; rfl
 exact call_meetsIn PySem.F.slot_dict_pop dd.typeIs PySem.F.entry_dict_pop (PySem.F.args_dict_pop_3 _ _ _) (meets_dict_pop_default (aA X.prog X.w) a (dX ry) hd hp r) ⟨vs,dd,hn,h _ (I.tok _)⟩
theorem wO {Q : Value -> Shared -> Prop} (I : aq X pins σ H s) (e : Rd H a (.dK kvs)) (h : ∀ t s',aq X pins σ H s' -> Q (.int kvs.length t) s') : wpAny (model X.prog X.w) A (call (.builtin "len") [.ref a]) Q E s := by
 obtain ⟨z,hd,vs,rel,dd⟩ := gw I.hok e
 refine call_len_dict hd dd (by rw [<- rel.length]; rw [sizeLine_eq] at z; omega) ?_
 rw [<- rel.length]
 exact h _ _ (I.tok _)
end
def wP (i : Expr) : Prop := ∀ ov iv,subscripted i false ov iv = operate [ov,iv] (getItem ov iv)
theorem tI {prog : Program} {w : World} {A : Around} {E : Value -> Shared -> Prop} {s : Shared} {env : Env} {value slice : Expr} {pos : Pos} {T id : String} {Q : Value -> Shared -> Prop}
  (hl : typeLookup (.type T) "__getitem__" = pure (some (.builtin id))) (hs : wP slice)
  (h : wpAny (model prog w) A (eval value env) (fun o s₁ => wpAny (model prog w) A (eval slice env) (fun i s₂ => s₂.TypeIs o T /\ wpAny (model prog w) A (getItem o i) Q E s₂) E s₁) E s) :
  wpAny (model prog w) A (eval (.Subscript value slice pos) env) Q E s := by
 refine Subscript_ (wpAny_mono h (fun o s₁ h₁ => wpAny_mono h₁ (fun i s₂ h₂ => ?_) fun _ _ x => x) fun _ _ x => x)
 obtain ⟨hT,h₂⟩ := h₂
 unfold subscriptTail
 refine wpAny_bind ?_
 rw [getitemInPython_of_ne hT.not_modules]
 refine wpAny_bind (wpAny_specialOf hT hl ?_)
 have fin : wpAny (model prog w) A (subscripted slice false o i) (fun r s₃ => wpAny (model prog w) A (letTemporaryGo value o r >>= fun _ => pure r) Q E s₃) E s₂ := by
  rw [hs o i]
  exact wpAny_operating (wpAny_mono h₂ (fun r s₃ h₃ => wpAny_bind (wpAny_letTemporaryGo (wpAny_pure h₃))) fun _ _ x => x)
 first
  | exact wpAny_pure (wpAny_bind fin)
  | exact wpAny_bind (wpAny_pure (wpAny_bind fin))
  | exact wpAny_bind fin
theorem lq {X : Cx} {pins : List (Addr × Obj)} {σ : St} {H : Hp} {s : Shared} {a : Addr} {y : V} {o : Option V} (I : aq X pins σ H s) (g : dB H a y o) : s.TypeIs (.ref a) "dict" := by
 rcases g with ⟨kvs,k,e,_,_⟩ | ⟨kvs,k,b,e,_,_,_⟩
 ·obtain ⟨_,_,vs,_,dd⟩ := gw I.hok e
  exact dd.typeIs
 ·obtain ⟨_,_,xs,_,dd⟩ := ig I.hok e
  exact dd.typeIs
def wQ (td ty : TE) : TE := fun σ H Q => td σ H fun x H1 => ty σ H1 fun y H2 => ∃ a v,x = .ref a /\ dB H2 a y (some v) /\ Q v H2
def y6 (ty td : TE) : TE := fun σ H Q => ty σ H fun y H1 => td σ H1 fun x H2 => ∃ a o,x = .ref a /\ dB H2 a y o /\ Q (.bl o.isSome) H2
def tJ (ty td : TE) : TE := fun σ H Q => ty σ H fun y H1 => td σ H1 fun x H2 => ∃ a o,x = .ref a /\ dB H2 a y o /\ Q (.bl (!o.isSome)) H2
def wR (td ty tv : TE) : TS := fun D σ H => tv σ H fun v H1 => td σ H1 fun x H2 => ty σ H2 fun y H3 => ∃ a H4,x = .ref a /\ fZ H3 a y v H4 /\ D.nx σ H4
section
variable {X : Cx} {o i e value : Expr} {pos pos' tpos : Pos} {td ty tv : TE}
theorem tK (hu : X.A.units + 1 < cLine) (ho : PE X o td) (hi : PE X i ty) (hs : wP i) : PE X (.Subscript o i pos) (wQ td ty) := by
 intro pins s σ H Q I h
 refine tI PySem.F.slot_dict_getitem.lookup hs (aZ (ho pins s σ H _ I h) fun u s1 ⟨x,H1,I1,rx,q1⟩ => aZ (hi pins s1 σ H1 _ I1 q1) fun iv s2 ⟨y,H2,I2,ry,a,v,ex,g,q2⟩ => ?_)
 subst ex
 obtain rfl : u = Value.ref a := rx
 exact ⟨lq I2 g,pQ hu I2 g ry fun w' s3 I3 rw' => ⟨v,H2,I3,rw',q2⟩⟩
theorem vC (hu : X.A.units + 1 < cLine) (hi : PE X i ty) (ho : PE X o td) : PC X .In i o (y6 ty td) := by
 intro pins s σ H Q I h
 refine aZ (hi pins s σ H _ I h) fun iv s1 ⟨y,H1,I1,ry,q1⟩ => aZ (ho pins s1 σ H1 _ I1 q1) fun u s2 ⟨x,H2,I2,rx,a,ov,ex,g,q2⟩ => ?_
 subst ex
 obtain rfl : u = Value.ref a := rx
 exact y4 hu I2 g ry fun s3 I3 => ⟨.bl ov.isSome,H2,I3,rfl,q2⟩
theorem f7 (hu : X.A.units + 1 < cLine) (hi : PE X i ty) (ho : PE X o td) : PC X .NotIn i o (tJ ty td) := by
 intro pins s σ H Q I h
 refine aZ (hi pins s σ H _ I h) fun iv s1 ⟨y,H1,I1,ry,q1⟩ => aZ (ho pins s1 σ H1 _ I1 q1) fun u s2 ⟨x,H2,I2,rx,a,ov,ex,g,q2⟩ => ?_
 subst ex
 obtain rfl : u = Value.ref a := rx
 exact tH hu I2 g ry fun s3 I3 => ⟨.bl (!ov.isSome),H2,I3,rfl,q2⟩
theorem dC (hu : X.A.units + 1 < cLine) (ho : PE X o td) (hi : PE X i ty) (hv : PE X value tv) (hs : swapsWith value (some (.Subscript o i pos')) pos.line X.env = pure false) :
  PS X (.Assign [.Subscript o i pos'] value pos) (wR td ty tv) := by
 intro pins s σ H D I h
 refine wpAny_Assign_Subscript (aZ (hv pins s σ H _ I h) fun r s1 ⟨v,H1,I1,rv,q1⟩ => aZ (ho pins s1 σ H1 _ I1 q1) fun u s2 ⟨x,H2,I2,rx,q2⟩ => aZ (hi pins s2 σ H2 _ I2 q2) fun iv s3 ⟨y,H3,I3,ry,a,H4,ex,g,q3⟩ => ?_) hs
 subst ex
 obtain rfl : u = Value.ref a := rx
 exact pR hu I3 g ry rv fun s4 I4 => ⟨σ,H4,I4,q3⟩
end
theorem ly {P : Program} {w : World} {H : Hp} (h : Heap) (hb : sysModules < h.objs.size) : aX P w H (h.push { cls := .type "dict",data := .dict #[] }) h.objs.size (.dK []) :=
 ⟨Al _,beq_eq_false_iff_ne.mpr (Ne.symm (AE hb)),[],.nil,Heap.DictOf.new h⟩
def vD : TE := fun _ H Q => ∀ p,H p = none -> Q (.ref p) (ar H p (.dK []))
section
variable {X : Cx} {pos : Pos}
theorem b4 : PE X (.Dict [] [] pos) vD := fun pins s σ H Q I h =>
 wpAny_Dict_empty ⟨.ref s.heap.objs.size,_,I.laid (a := s.heap.objs.size) (o := .dK []) (t' := s.toks) (fun _ _ q => Heap.get?_push_of_some _ q) (A5 _) (ly s.heap I.big),rfl,h _ (I.hok.fresh (A5 _))⟩
end
def m9 : List (TE × TE) -> St -> Hp -> (List (V × V) -> Hp -> Prop) -> Prop
 | [],_,H,Q => Q [] H
 | (tk,tv) :: r,σ,H,Q => tk σ H fun x H1 => tv σ H1 fun y H2 => m9 r σ H2 fun ps H3 => Q ((x,y) :: ps) H3
abbrev VV : List (V × V) -> List (Value × Value) -> Prop := Paired fun p q => RelV p.1 q.1 /\ RelV p.2 q.2
def yo (X : Cx) (pos : Pos) (keys : List (Option Expr)) (values : List Expr) (trs : List (TE × TE)) : Prop :=
 ∀ (pins : List (Addr × Obj)) (s : Shared) (σ : St) (H : Hp) (Q : List (V × V) -> Hp -> Prop),aq X pins σ H s -> m9 trs σ H Q ->
  wpAny (model X.prog X.w) X.A (evalPairs (pairTrees keys values X.env pos)) (fun vs s' => ∃ ps H',aq X pins σ H' s' /\ VV ps vs /\ Q ps H') X.xe s
theorem oH {X : Cx} {pos : Pos} : yo X pos [] [] [] := fun pins s σ H Q I h => pairTrees_nil_walk ⟨[],H,I,.nil,h⟩
theorem lA {X : Cx} {pos : Pos} {k v : Expr} {ks : List (Option Expr)} {vs : List Expr} {tk tv : TE} {trs : List (TE × TE)} (hk : PE X k tk) (hv : PE X v tv) (hr : yo X pos ks vs trs) :
  yo X pos (some k :: ks) (v :: vs) ((tk,tv) :: trs) := fun pins s σ H Q I h =>
 pairTrees_cons_walk (aZ (hk pins s σ H _ I h) fun u s1 ⟨x,H1,I1,rx,q1⟩ => aZ (hv pins s1 σ H1 _ I1 q1) fun w2 s2 ⟨y,H2,I2,ry,q2⟩ =>
  aZ (hr pins s2 σ H2 _ I2 q2) fun ws s3 ⟨ps,H3,I3,rel,q3⟩ => ⟨(x,y) :: ps,H3,I3,.cons ⟨rx,ry⟩ rel,q3⟩)
def cx (kvs more : List (Key × V)) : List (Key × V) := more.foldl (fun acc kv => putK acc kv.1 kv.2) kvs
theorem KV.merge : ∀ {more : List (Key × V)} {rs : List (Key × Value)} {kvs : List (Key × V)} {vs : List (Key × Value)},KV more rs -> KV kvs vs -> KV (cx kvs more) (merged vs rs) := by
 intro more rs kvs vs r
 unfold KV at r
 induction r generalizing kvs vs with
 | nil => intro q; exact q
 | @cons p q ps qs h t ih =>
  intro r0
  have e : KV (putK kvs p.1 p.2) (stored vs q.1 q.2) := by
   have := r0.put p.1 h.2
   rw [<- h.1]; exact this
  exact ih e
theorem eO : ∀ (more kvs : List (Key × V)),(cx kvs more).length <= kvs.length + more.length
 | [],kvs => by show kvs.length <= kvs.length + 0; omega
 | p :: r,kvs => by
  have h1 := eO r (putK kvs p.1 p.2)
  have h2 := cq kvs p.1 p.2
  show (cx (putK kvs p.1 p.2) r).length <= _
  rw [Ad]; omega
theorem ij {P : Program} {w : World} : ∀ {kvs : List (Key × V)} {ws : List (Value × Value)},VV (kvs.map fun kv => (kV kv.1,kv.2)) ws -> ∃ rs,Carries (aA P w) ws rs /\ KV kvs rs
 | [],_,r => by rw [List.map_nil] at r; cases r; exact ⟨[],True.intro,.nil⟩
 | p :: kvs,_,r => by
  rw [An] at r
  cases r with
  | @cons a b as bs h t =>
   obtain ⟨rs,c,q⟩ := ij (P := P) (w := w) t
   obtain ⟨b1,b2⟩ := b
   exact ⟨(p.1,b2) :: rs,⟨dX h.1,rfl,c⟩,.cons ⟨rfl,h.2⟩ q⟩
def rE (trs : List (TE × TE)) : TE := fun σ H Q => ∀ p,H p = none -> m9 trs σ (ar H p (.dK [])) fun ps H2 => H2 p = some (.dK []) /\ ∃ kvs : List (Key × V),ps = kvs.map (fun kv => (kV kv.1,kv.2)) /\ kvs.length <= 15 /\ Q (.ref p) (ar H2 p (.dK (cx [] kvs)))
theorem oJ {X : Cx} {pos : Pos} {keys : List (Option Expr)} {values : List Expr} {trs : List (TE × TE)} (h : yo X pos keys values trs) (hall : keys.all (·.isSome) = true) (hl : keys.length = values.length) (h0 : keys ≠ [])
  (h15 : keys.length <= 15) : PE X (.Dict keys values pos) (rE trs) := by
 intro pins s σ H Q I q
 have hn := I.hok.fresh (A5 s.heap.objs.size)
 have I1 := I.laid (a := s.heap.objs.size) (o := .dK []) (h' := s.heap.push { cls := .type "dict",data := .dict #[] }) (t' := s.toks) (fun _ _ q => Heap.get?_push_of_some _ q) (A5 _) (ly s.heap I.big)
 refine wpAny_Dict_walk (knd := aA X.prog X.w) hall hl h0 h15 (aZ (h pins _ σ _ _ I1 (q _ hn)) fun ws s2 ⟨ps,H2,I2,rel,e,kvs,ep,lk,q2⟩ => ?_)
 subst ep
 obtain ⟨rs,c,rk⟩ := ij (P := X.prog) (w := X.w) rel
 obtain ⟨z,hd,vs0,r0,dd⟩ := ie I2.hok e
 cases r0
 refine ⟨rs,c,dd,fun h' dd' hs => ⟨.ref s.heap.objs.size,_,?_,rfl,q2⟩⟩
 have hz : (cx [] kvs).length <= sizeLine := by
  have h1 := eO kvs []
  rw [BE] at h1
  rw [sizeLine_eq]; omega
 have he : ∃ q,h'.get? s.heap.objs.size = some q := let ⟨q,_,_,hq,_⟩ := dd'; ⟨q,hq⟩
 exact fB I2 (by rw [e]; exact True.intro) hs he (jR hz hd (rk.merge .nil) dd')
structure M2 (X : Cx) (o : Expr) (m : Str) (apos : Pos) (e f : Expr) (cpos : Pos) : Prop where
 base : attributeBase o m X.env (eval o X.env) = eval o X.env
 few : ((backTo cpos (starEach [e,f] X.env)).all (fun x => !x.1) && (backToKw cpos (keywordEach [] X.env)).all (fun x => x.1.isSome)
  && decide (([e,f] : List Expr).length + ([] : List Keyword).length + (if ([] : List Keyword).isEmpty then 0 else 1) < 30)) = true
 line : (apos.endLine == cpos.line) = true
 trees : backTo cpos (starEach [e,f] X.env) = [(false,eval e X.env),(false,eval f X.env)]
def y8 (H : Hp) (a : Addr) : Prop := (∃ kvs,Rd H a (.dK kvs)) ∨ ∃ kvs,Rd H a (.dT kvs)
theorem rF {X : Cx} {pins : List (Addr × Obj)} {σ : St} {H : Hp} {s : Shared} {a : Addr} (I : aq X pins σ H s) (d : y8 H a) :
  s.TypeIs (.ref a) "dict" /\ (∀ b,Value.ref a = .ref b -> ∃ ob,s.heap.get? b = some ob /\ ob.dict = none) /\ (a == sysModules) = false := by
 rcases d with ⟨kvs,e⟩ | ⟨kvs,e⟩
 ·obtain ⟨_,hd,vs,_,dd⟩ := gw I.hok e
  refine ⟨dd.typeIs,fun b q => ?_,hd⟩
  cases q
  obtain ⟨ob,_,_,h1,h2,_⟩ := dd
  exact ⟨ob,h1,h2.2.1⟩
 ·obtain ⟨_,hd,xs,_,dd⟩ := ig I.hok e
  refine ⟨dd.typeIs,fun b q => ?_,hd⟩
  cases q
  obtain ⟨ob,_,_,h1,h2,_⟩ := dd
  exact ⟨ob,h1,h2.2.1⟩
section
variable {X : Cx} {pins : List (Addr × Obj)} {σ : St} {H : Hp} {s : Shared} {a : Addr} {y d : V} {u r : Value} {o : Option V} {A : Around} {E : Value -> Shared -> Prop}
theorem vE {Q : Value -> Shared -> Prop} (hu : A.units + 1 < cLine) (I : aq X pins σ H s) (g : dB H a y o) (ry : RelV y u) (rd : RelV d r) (h : ∀ w' s',aq X pins σ H s' -> RelV (o.getD d) w' -> Q w' s') :
  wpAny (model X.prog X.w) A (call (.builtin "dict.get") [.ref a,u,r]) Q E s := by
 rcases g with ⟨kvs,k,e,ey,l⟩ | ⟨kvs,k,b,e,ey,eb,l⟩
 ·subst ey
  obtain ⟨z,hd,vs,rel,dd⟩ := gw I.hok e
  refine call_meetsIn PySem.F.slot_dict_get dd.typeIs PySem.F.entry_dict_get (PySem.F.args_dict_get_3 _ _ _) (meets_dict_get_default (aA X.prog X.w) a (dX ry) hd r) ⟨_,dd.mapOf,h _ _ (I.tok _) ?_⟩
  rw [l]
  exact (rel.val k).getD rd
 ·subst ey
  cases (show u = Value.ref b from ry)
  obtain ⟨z,hd,xs,rel,dd⟩ := ig I.hok e
  refine call_meetsIn PySem.F.slot_dict_get dd.typeIs PySem.F.entry_dict_get (PySem.F.args_dict_get_3 _ _ _) (meetsH_dict_get_default (tupleKind (aA X.prog X.w)) a b hd r) ⟨tupleKind_room_in1 hu,k,xs,fY I.hok eb,dd,h _ _ (I.tok _) ?_⟩
  rw [l]
  exact (rel.val k).getD rd
end
def vF (td ty tx : TE) : TE := fun σ H Q => td σ H fun x H1 => ∃ a,x = .ref a /\ y8 H1 a /\ ty σ H1 fun y H2 => tx σ H2 fun z H3 => ∃ o,dB H3 a y o /\ Q (o.getD z) H3
def vG (td ty tx : TE) : TE := fun σ H Q => td σ H fun x H1 => ∃ a,x = .ref a /\ y8 H1 a /\ ty σ H1 fun y H2 => tx σ H2 fun z H3 => ∃ kvs k,H3 a = some (.dK kvs) /\ y = kV k /\
 (∀ v,aN kvs k = some v -> Q v (ar H3 a (.dK (hZ kvs k)))) /\ (aN kvs k = none -> Q z H3)
section
variable {X : Cx} {o e f : Expr} {apos cpos : Pos} {td ty tx : TE}
theorem lB (hu : X.A.units + 1 < cLine) (ho : PE X o td) (he : PE X e ty) (hf : PE X f tx) (m : M2 X o "get" apos e f cpos) : PE X (.Call (.Attribute o "get" apos) [e,f] [] cpos) (vF td ty tx) := by
 intro pins s σ H Q I h
 refine wpAny_Call_method m.base m.few m.line Bq PySem.F.slot_dict_get PySem.F.type_dict_get (aZ (ho pins s σ H _ I h) fun u s1 ⟨x,H1,I1,rx,a,ex,d,q1⟩ => ?_)
 subst ex
 obtain rfl : u = Value.ref a := rx
 obtain ⟨t1,t2,_⟩ := rF I1 d
 refine ⟨t1,t2,?_⟩
 rw [m.trees]
 refine Calls.callWith_builtin rfl (Calls.evalArgs_plain (Calls.spliced_cons (aZ (he pins s1 σ H1 _ I1 q1) fun iv s2 ⟨y,H2,I2,ry,q2⟩ =>
  Calls.spliced_cons (aZ (hf pins s2 σ H2 _ I2 q2) fun fv s3 ⟨z,H3,I3,rz,ov,g,q3⟩ => Calls.spliced_nil ?_))))
 exact vE hu I3 g ry rz fun w' s4 I4 rw' => ⟨_,H3,I4,rw',q3⟩
theorem rG (ho : PE X o td) (he : PE X e ty) (hf : PE X f tx) (m : M2 X o "pop" apos e f cpos) : PE X (.Call (.Attribute o "pop" apos) [e,f] [] cpos) (vG td ty tx) := by
 intro pins s σ H Q I h
 refine wpAny_Call_method m.base m.few m.line Bq PySem.F.slot_dict_pop PySem.F.type_dict_pop (aZ (ho pins s σ H _ I h) fun u s1 ⟨x,H1,I1,rx,a,ex,d,q1⟩ => ?_)
 subst ex
 obtain rfl : u = Value.ref a := rx
 obtain ⟨t1,t2,_⟩ := rF I1 d
 refine ⟨t1,t2,?_⟩
 rw [m.trees]
 refine Calls.callWith_builtin rfl (Calls.evalArgs_plain (Calls.spliced_cons (aZ (he pins s1 σ H1 _ I1 q1) fun iv s2 ⟨y,H2,I2,ry,q2⟩ =>
  Calls.spliced_cons (aZ (hf pins s2 σ H2 _ I2 q2) fun fv s3 ⟨z,H3,I3,rz,kvs,k,ea,ey,q3,q4⟩ => Calls.spliced_nil ?_))))
 subst ey
 cases l : aN kvs k with
 | some v => exact wN I3 ea ry l (.inr ⟨fv,rfl⟩) fun w' s4 I4 rw' => ⟨v,_,I4,rw',q3 v l⟩
 | none => exact vB I3 ea ry l fun s4 I4 => ⟨z,H3,I4,rz,q4 l⟩
end
section
variable {X : Cx} {pins : List (Addr × Obj)} {σ : St} {H : Hp} {s : Shared} {a : Addr} {kvs : List (Key × V)} {A : Around} {E : Value -> Shared -> Prop}
end
section
variable {X : Cx} {pins : List (Addr × Obj)} {σ : St} {H : Hp} {s : Shared} {a : Addr} {y : V} {u : Value} {A : Around} {E : Value -> Shared -> Prop}
end
end L2
namespace Att
open PySem PySem.W PySem.Calls PyProof.Rows
theorem gK {P : Params} {h : Heap} : ∀ (ns : List Int) (vs : List Value),WellAll P h vs (ns.map WData.int) -> IntsAre vs ns := by
 intro ns
 induction ns with
 | nil =>
  intro vs w
  rw [List.map_nil] at w
  cases w
  exact .nil
 | cons n ns ih =>
  intro vs w
  rw [An] at w
  cases w with
  | cons a b =>
   cases a
   exact .cons _ _ (ih _ b)
theorem pS {l : OpenLaw} {n : Nat} (hn : l.most = some n) {P : Params} {h : Heap} {args : List WData} {vals : List Value}
  (hpre : l.row.toRowW.claim.pre args = true) (hwl : WellAll P h vals args) :
  ∃ a vs ns,vals = [Value.ref a] /\ args = [WData.list (ns.map WData.int)] /\ h.get? a = some { cls := .type "list",data := .seq vs.toArray } /\ IntsAre vs ns /\ ns.length <= n := by
 have hsh : WShape.hasAll [] args [.list .int] = true := (pre_splitW hpre).1
 have hc : l.pre.holds [] { args := args } = true := (pre_splitW hpre).2
 obtain ⟨d,r,rfl,h1,h2⟩ := hasAllW_cons hsh
 obtain rfl := hasAllW_nil h2
 obtain ⟨xs,rfl,h3⟩ := hasW_list h1
 obtain ⟨ns,rfl⟩ := items_int h3
 have hlen : ns.length <= n := by
  unfold OpenLaw.pre at hc
  have h4 : (WTm.not (.lt (.lit (.int (n : Int))) (.len (.arg 0)))).holds [] { args := [.list (ns.map .int)] } = true := by
   have h4 := (holds_andW hc).1
   rw [hn] at h4
   exact h4
  have h5 := condW_of h4 (w_not (w_lt w_lit (w_len_list (w_arg rfl))))
  rw [A8] at h5
  refine Nat.le_of_not_lt fun q => ?_
  have q' : (n : Int) < ((ns.length : Nat) : Int) := by omega
  first
   | (rw [decide_eq_true q'] at h5; exact absurd h5 (by decide))
   | (simp at h5; omega)
 cases hwl with
 | cons w1 w2 =>
  cases w2
  cases w1 with
  | list ho hall => exact ⟨_,_,ns,rfl,rfl,ho,gK ns _ hall,hlen⟩
theorem pT (l : OpenLaw) (args : List WData) : l.row.toRowW.claim.post args (.bool true) args = true :=
 postW_of (r := l.row.toRowW) (X := (true == true))
  (show WShape.has [] (.bool true) .bool = true by first | rfl | decide | simp [WShape.has,WShape.arms,WShape.armsAll])
  (show (WTm.eq .res (.lit (.bool true))).value [] { args := args,res := some (.bool true),after := args } = some (.bool (true == true)) from w_eq_bool (w_res rfl) w_lit) rfl
theorem lC {l : OpenLaw} {n : Nat} {q : Program} {loose : List Str} {XP : (Str -> Option Value) -> Heap -> Prop} {YP : World -> Heap -> Prop} {d : DefRec}
  (hn : l.most = some n) (hdf : d.params.defaults = [])
  (call : ∀ (w : World) (s₀ s₁ : Shared) (mg mb : Str -> Option Value) (fa : Addr) (o : Obj) (pm cd doc : Value) (a : Addr) (vs : List Value) (ns : List Int),
   Ground q loose [] XP w s₀ mg mb s₁.heap -> YP w s₁.heap ->
   s₁.heap.get? fa = some o -> o.data = .func (docDef d.name d.params d.body d.scope pm cd doc) -> s₁.heap.CodeRec cd d.name -> mg d.name = some (.ref fa) ->
   s₁.heap.get? a = some { cls := .type "list",data := .seq vs.toArray } -> IntsAre vs ns -> ns.length <= n -> s₁.gens = #[] ->
   codeAny (model l.prog w) callerA (.call (.ref fa) ⟨[.ref a],[]⟩) (fun r s' => r = .ok (.ret (.bool true)) /\ OldK s₁.heap s'.heap /\ s'.os = s₁.os /\ AllBare s'.gens) s₁) :
  WalkO q loose XP YP l.row.toRowW d [] (fun f vs => PySem.call f vs) := by
 intro w s₀ s₁ mg mb G Y fa o pm cd doc dV kV ho hd hcd hD hmg hg args vals as hpre hlay hrd hwl hlo
 obtain rfl : dV = .none := Dflts.none hD hdf
 obtain rfl : kV = .none := Dflts.noKw hD
 obtain ⟨a,vs,ns,rfl,rfl,hobj,hints,hlen⟩ := pS hn hpre hwl
 refine enter_call (codeAny_mono (call w s₀ s₁ mg mb fa o pm cd doc a vs ns G Y ho (fd_plain hd) hcd hmg hobj hints hlen hg) fun r s' hq => ?_)
 obtain ⟨rfl,h2,h3,h4⟩ := hq
 exact ⟨.inl ⟨.bool true,.bool true,[],rfl,fun _ => rfl,.bool true,pT l _,fun _ => ⟨List.Pairwise.nil,fun _ hm => (nomatch hm)⟩⟩,h2,h3,h4⟩
section
variable {prog : Program} {w : World} {A : Around} {E : Value -> Shared -> Prop} {s : Shared} {K : Frag}
end
end Att
namespace L2
open PySem PySem.Spec PyProof.Rows
theorem jp : ∀ {vs : List Value} {ns : List Int},IntsAre vs ns -> aM (ns.map V.int) vs
 | _,_,.nil => .nil
 | _,_,.cons n t h => .cons ⟨t,rfl⟩ (jp h)
def vH (H : Hp) : Prop := ∀ b,H b = none ∨ ∃ o xs,H b = some (.frz o (.lst xs))
theorem rH {P : Program} {w : World} {K : A0} {mg mb : Str -> Option Value} {CX : oF} {k : Nat} {fa a : Addr} {fd : FuncData} {x : Str} {sp : Sp} {s₁ : Shared} {vs : List Value} {ns : List Int}
  (KX : K.In s₁.heap) (hns : s₁.heap.Ns mainGlobals mg) (hb : s₁.heap.Ns builtinsNs mb) (hbb : ∀ x : Str,x ≠ "__name__" -> mb x = bootBuiltins x) (hlim : s₁.heap.NoLimit) (hg : s₁.gens = #[])
  (ha : s₁.heap.get? a = some { cls := .type "list",data := .seq vs.toArray }) (hi : IntsAre vs ns) (hl : ns.length <= sizeLine) (hr : bx k callerA)
  (F : ∀ base : Heap,K.In base -> base.Ns mainGlobals mg -> bh P w K mg base CX k fa fd [x] sp) (hbind : ∀ (s : Shared) (u : Value),BindsTo s fd ⟨[u],[]⟩ [(x,u)])
  (hsp : ∀ H : Hp,vH H -> bu K H a (ns.map V.int) -> sp [.ref a] H (fun v _ => v = .bl true) fun _ _ _ => False)
  (hCX : ∀ H e s',CX [] H s₁ (fun _ _ _ => False) e s' -> False) :
  codeAny (model P w) callerA (.call (.ref fa) ⟨[.ref a],[]⟩) (fun r s' => r = .ok (.ret (.bool true)) /\ OldK s₁.heap s'.heap /\ s'.os = s₁.os /\ AllBare s'.gens) s₁ := by
 have rv := jp hi
 have lenV := hi.length
 have core : ∀ H : Hp,vH H -> bu K H a (ns.map V.int) -> c9 P w H s₁.heap -> (∀ b,H b ≠ none -> b = a) -> (H a ≠ none -> K.lookup a = none) ->
   codeAny (model P w) callerA (.call (.ref fa) ⟨[.ref a],[]⟩) (fun r s' => r = .ok (.ret (.bool true)) /\ OldK s₁.heap s'.heap /\ s'.os = s₁.os /\ AllBare s'.gens) s₁ := by
  intro H hO hS hok hA hK
  have base_of : ∀ {b : Addr} {o : Obj},s₁.heap.get? b = some o -> H b = none -> (jH s₁.heap H).get? b = some o := fun e n => qZ e n
  have noA : ∀ {b : Addr} {o : Obj} {es : Array DictEntry} {ep : Nat},s₁.heap.get? b = some o -> o.data = .dict es ep -> H b = none := fun {b o es ep} e d => by
   cases q : H b with
   | none => rfl
   | some u =>
    have e' : b = a := hA b (by rw [q]; simp)
    subst e'
    rw [ha] at e; cases e
    have d' : Data.seq vs.toArray _ = Data.dict es ep := d
    cases d'
  have nsK : ∀ {b : Addr} {m : Str -> Option Value},s₁.heap.Ns b m -> (jH s₁.heap H).Ns b m := fun {b m} ⟨o,es,ep,e,d,r⟩ => ⟨o,es,ep,base_of e (noA e d),d,r⟩
  have hKb : K.In (jH s₁.heap H) := fun b o e => base_of (KX b o e) (by
   cases q : H b with
   | none => rfl
   | some u =>
    have e' : b = a := hA b (by rw [q]; simp)
    subst e'
    rw [hK (by rw [q]; simp)] at e; cases e)
  have hM : Mod K mg (jH s₁.heap H) := ⟨hKb,nsK hns,⟨mb,nsK hb,hbb⟩,let ⟨mc,h1,h2⟩ := hlim; ⟨mc,nsK h1,h2⟩⟩
  have e0 : iZ P w K mg (jH s₁.heap H) callerA [] s₁ H := ⟨rfl,hM,fun b o e => sW e,Nat.le_of_eq (pH _ _),trivial,fun b hb => absurd (show b ∈ ([] : List Addr) from hb) (by simp),hok,.of_eq hg⟩
  refine codeAny_mono ((F _ hKb (nsK hns)).run callerA [] s₁ H ⟨[.ref a],[]⟩ [.ref a] [.ref a] _ _ hr e0 (hbind s₁ (.ref a)) (.cons rfl .nil) (hsp H hO hS)) fun r s' h => ?_
  cases r with
  | error e => exact (hCX H e s' h).elim
  | ok fl =>
   cases fl with
   | next => exact False.elim h
   | brk => exact False.elim h
   | cont => exact False.elim h
   | ret u =>
    obtain ⟨v,H',os,bare,un,hok',r',q⟩ := h
    have q' : v = .bl true := q
    subst q'
    obtain rfl : u = Value.bool true := r'
    refine ⟨rfl,OldK.of_keep fun b o e => ?_,os,bare⟩
    cases q : H b with
    | none => exact un.keep b o e q (by intro z; exact absurd (show b ∈ ([] : List Addr) from z) (by simp)) (by simp)
    | some u =>
     rcases hO b with z | ⟨ob,xs,z⟩
     ·rw [q] at z; cases z
     ·have z2 := un.frzs b ob _ z
      obtain ⟨e1,_⟩ := hok b _ z
      obtain ⟨e2,_⟩ := hok' b _ z2
      rw [e] at e1; cases e1
      exact e2
 cases hk : K.lookup a with
 | some o =>
  have e := KX a o hk
  rw [ha] at e
  cases e
  refine core (fun _ => none) (fun _ => .inl rfl) (.inr ⟨_,vs.toArray,_,hk,rfl,rfl,rfl,by rw [AV,lenV]; exact hl,by simpa using rv⟩) (fun b u z => by have z' : (none : Option HO) = some u := z; cases z') (fun b z => absurd rfl z) fun z => absurd rfl z
 | none =>
  refine core (fun b => if b = a then some (.frz { cls := .type "list",data := .seq vs.toArray } (.lst (ns.map V.int))) else none) (fun b => ?_) (.inl (.inr ⟨{ cls := .type "list",data := .seq vs.toArray },if_pos rfl⟩)) (fun b u z => ?_) (fun b z => ?_) fun _ => hk
  ·by_cases hb : b = a
   ·exact .inr ⟨_,_,if_pos hb⟩
   ·exact .inl (if_neg hb)
  ·by_cases hb : b = a
   ·have z' := (if_pos hb).symm.trans z
    cases z'
    subst hb
    exact ⟨ha,by rw [A8]; exact hl,vs,_,rv,ha⟩
   ·have z' := (if_neg hb).symm.trans z
    cases z'
  ·by_cases hb : b = a
   ·exact hb
   ·exact absurd (if_neg hb) z
theorem tL {l : PySem.W.OpenLaw} {n k : Nat} {q : Program} {loose : List Str} {XP : (Str -> Option Value) -> Heap -> Prop} {YP : World -> Heap -> Prop} {d : DefRec} {K : Params -> A0} {CX : World -> oF} {sp : World -> Sp} {x : Str}
  (hn : l.most = some n) (hn2 : n <= sizeLine) (hdf : d.params.defaults = []) (hr : bx k callerA)
  (hY : ∀ (w : World) (h : Heap),YP w h -> (K w.params).In h)
  (F : ∀ (w : World) (mg : Str -> Option Value) (fa : Addr) (h : Heap),(K w.params).In h -> h.Ns mainGlobals mg -> mg d.name = some (.ref fa) ->
   ∃ fd : FuncData,(∀ (s : Shared) (u : Value),BindsTo s fd ⟨[u],[]⟩ [(x,u)]) /\
    ∀ base : Heap,(K w.params).In base -> base.Ns mainGlobals mg -> bh l.prog w (K w.params) mg base (CX w) k fa fd [x] (sp w))
  (hsp : ∀ (w : World) (H : Hp) (a : Addr) (ns : List Int),ns.length <= n -> vH H -> bu (K w.params) H a (ns.map V.int) -> sp w [.ref a] H (fun v _ => v = .bl true) fun _ _ _ => False)
  (hCX : ∀ (w : World) (H : Hp) (s : Shared) (e : Value) (s' : Shared),CX w [] H s (fun _ _ _ => False) e s' -> False) :
  PySem.W.WalkO q loose XP YP l.row.toRowW d [] (fun f vs => PySem.call f vs) := by
 refine Att.lC hn hdf fun w s₀ s₁ mg mb fa o pm cd doc a vs ns G Y ho hd hcd hmg hobj hints hlen hg => ?_
 have KX := hY w _ Y
 obtain ⟨fd,hb,hF⟩ := F w mg fa _ KX G.T.g hmg
 exact rH KX G.T.g G.T.b G.T.builtins G.T.nolimit hg hobj hints (Ae hlen hn2) hr hF hb (fun H hO hS => hsp w H a ns hlen hO hS) fun H e s' => hCX w H s₁ e s'
def cD (s : Stmt) : Arguments := match s with
 | .FunctionDef _ a _ _ _ _ _ _ _ _ => a
 | _ => { posonlyargs := [],args := [],vararg := none,kwonlyargs := [],kw_defaults := [],kwarg := none,defaults := [] }
def bM (s : Stmt) : List Stmt := match s with
 | .FunctionDef _ _ b _ _ _ _ _ _ _ => b
 | _ => []
def ap (s : Stmt) : Scope := match s with
 | .FunctionDef _ _ _ _ _ _ sc _ _ _ => sc
 | _ => { kind := .function,names := [],isGenerator := false,isCoroutine := false }
abbrev bw : oF := fun _ _ _ _ _ _ => False
abbrev E0 : XK := fun _ _ _ => False
theorem oK {X : Cx} : hW bw X E0 := fun _ _ _ _ _ _ _ h => h.elim
section
variable {P : Program} {w : World} {K : A0} {mg : Str -> Option Value} {base : Heap}
end
theorem cQ {A : Around} {k : Nat} (hr : bx k A) : A.units + 1 < cLine := Nat.lt_of_le_of_lt (Nat.add_le_add_left (by decide : 1 <= 64) _) hr.units
section
variable {X : Cx}
theorem pv (i : Nat) {x : Str} {pos : Pos} (hN : X.N[i]? = some x := by rfl) (hv : yg X.env.scope x := by first | exact Or.inl rfl | exact Or.inr (Or.inl rfl) | exact Or.inr (Or.inr rfl)) (hd : (x == ("__debug__" : Str)) = false := by decide)
  (hcd : (x == ("__classdict__" : Str)) = false := by decide) : PE X (.Name x pos) (sZ i) := vo hN hv hd hcd
end
theorem bU {A B : Prop} (h : B) : if false = true then A else B := by
 rw [if_neg AM]
 exact h
theorem cE {A B : Prop} (h : A) : if true = true then A else B := by
 rw [if_pos rfl]
 exact h
def au (H H' : Hp) : Prop := ∀ b o,H b = some o -> H' b = some o
theorem au.refl (H : Hp) : au H H := fun _ _ h => h
theorem au.trans {H H1 H2 : Hp} (a : au H H1) (b : au H1 H2) : au H H2 := fun c o h => b c o (a c o h)
theorem au.free {H H' : Hp} (e : au H H') {l : Addr} (h : H' l = Option.none) : H l = Option.none := by
 cases q : H l with
 | none => rfl
 | some o =>
  rw [e l o q] at h
  cases h
theorem au.seq {K : A0} {H H' : Hp} {a : Addr} {xs : List V} (e : au H H') (h : bu K H a xs) : bu K H' a xs := by
 rcases h with (h | ⟨o,h⟩) | h
 ·exact .inl (.inl (e _ _ h))
 ·exact .inl (.inr ⟨o,e _ _ h⟩)
 ·exact .inr h
section
variable {X : Cx}
theorem fD : eM X (binaryOp .Mult) (rI (fun i j => IntMulOk i j) fun i j => .int (i * j)) := yR fun _ _ _ _ _ _ _ hc q => mul_int q hc
theorem bG : eM X (binaryOp .FloorDiv) (rI (fun i j => j ≠ 0 /\ Builtin.divisionGoesByPylong i j = false) fun i j => .int (i.fdiv j)) := yR fun _ _ _ _ _ _ _ hc q => floordiv_int hc.1 q (.inl hc.2)
theorem lD : cn X (.builtin "isinstance") (fun xs H Q => ∃ i,xs = [.int i,.ty "int"] /\ Q (.bl true) H) := by
 intro pins s σ H xs us Q I r h
 obtain ⟨i,rfl,q⟩ := h
 obtain ⟨u,w',rfl,⟨t,rfl⟩,e2⟩ := vals2 r
 cases e2
 exact PySem.call_isinstance (PySem.isinstance_true (Tx := "int") PySem.F.isi_meta_int PySem.F.isi_self_int) ⟨rfl,⟨.bl true,H,I,rfl,q⟩⟩
theorem jS : cn X (.builtin "isinstance") (fun xs H Q => ∃ i,xs = [.int i,.ty "bool"] /\ Q (.bl false) H) := by
 intro pins s σ H xs us Q I r h
 obtain ⟨i,rfl,q⟩ := h
 obtain ⟨u,w',rfl,⟨t,rfl⟩,e2⟩ := vals2 r
 cases e2
 exact PySem.call_isinstance (PySem.isinstance_false_int (T := "bool") (by decide) PySem.F.isi_meta_bool PySem.F.sub_int_bool) ⟨.bl false,H,I.tok _,rfl,q⟩
theorem lE : cn X (.builtin "isinstance") (fun xs H Q => ∃ i,xs = [.bl i,.ty "bool"] /\ Q (.bl true) H) := by
 intro pins s σ H xs us Q I r h
 obtain ⟨i,rfl,q⟩ := h
 obtain ⟨u,w',rfl,e1,e2⟩ := vals2 r
 cases e1
 cases e2
 exact PySem.call_isinstance (PySem.isinstance_true (Tx := "bool") PySem.F.isi_meta_bool PySem.F.isi_self_bool) ⟨rfl,⟨.bl true,H,I,rfl,q⟩⟩
theorem lG : cn X (.builtin "isinstance") (fun xs H Q => ∃ a ys,xs = [.ref a,.ty "tuple"] /\ iX X.K H a ys /\ Q (.bl true) H) := by
 intro pins s σ H xs us Q I r h
 obtain ⟨a,ys,rfl,hs,q⟩ := h
 obtain ⟨u,w',rfl,e1,e2⟩ := vals2 r
 cases e1
 cases e2
 obtain ⟨its,_,p1,_⟩ := I.tuple hs
 exact PySem.call_isinstance (PySem.isinstance_true (Tx := "tuple") PySem.F.isi_meta_tuple PySem.F.isi_self_tuple) ⟨p1.typeIs,⟨.bl true,H,I,rfl,q⟩⟩
end
end L2
namespace Sw
open PySem
def Bd (n : Nat) (x : Int) : Prop := x.natAbs < 2 ^ n
theorem Bd.mono {m n : Nat} {x : Int} (h : Bd m x) (e : m <= n) : Bd n x := AU h (Nat.pow_le_pow_right (by decide) e)
theorem Bd.of_le {n : Nat} {x y : Int} (h : Bd n y) (e : x.natAbs <= y.natAbs) : Bd n x := Nat.lt_of_le_of_lt e h
theorem Bd.mul {m n : Nat} {x y : Int} (h : Bd m x) (g : Bd n y) : Bd (m + n) (x * y) := by
 unfold Bd at *
 rw [Int.natAbs_mul,Nat.pow_add]
 exact Nat.mul_lt_mul_of_lt_of_le h (Nat.le_of_lt g) (Nat.lt_of_le_of_lt (Al _) g)
theorem Bd.ok {m n : Nat} {x y : Int} (h : Bd m x) (g : Bd n y) (e : m + n <= 134217728 := by decide) : IntMulOk x y :=
 IntMulOk.of_le (intBits_le_iff.mpr h) (intBits_le_iff.mpr g) e
theorem Bd.div {n : Nat} {x y : Int} (h : Bd n y) (y0 : y ≠ 0) (e : n <= 9000 := by decide) : Builtin.divisionGoesByPylong x y = false := by
 refine PyProof.noPylong_of_log2 ((Nat.log2_lt (by omega)).mpr ?_)
 exact AU h (Nat.pow_le_pow_right (by decide) e)
theorem Bd.one : Bd 1 1 := by unfold Bd; decide
def bD (a b : Int) : Int := ((Int.gcd a b : Nat) : Int)
theorem tM (a b : Int) : 0 <= bD a b := Int.natCast_nonneg _
theorem ng (a b : Int) : bD (-a) b = bD a b := by unfold bD; rw [Int.neg_gcd]
theorem nh (a b : Int) : bD a (-b) = bD a b := by unfold bD; rw [Int.gcd_neg]
theorem pU {g l : Int} (hl : 0 < l) : bD l (g.fmod l) = bD g l := by
 unfold bD
 have e : g.fmod l = g - (g.fdiv l) * l := by rw [Int.fmod_def,Int.mul_comm]
 rw [e,Int.gcd_comm l,Int.gcd_sub_mul_right_left]
def rJ (i : Int) : Int := if i < 0 then -i else i
theorem oM (i : Int) : 0 <= rJ i := by unfold rJ; split <;> omega
theorem rK (a b : Int) : bD (rJ a) (rJ b) = bD a b := by
 unfold rJ
 split <;> split <;> simp only [ng,nh]
theorem pV {g : Int} (h : 0 <= g) : bD g 0 = g := by
 unfold bD; rw [Int.gcd_zero_right]; omega
theorem fE {a b : Int} (h : bD a b = 0) : a = 0 /\ b = 0 := by
 unfold bD at h
 exact Int.gcd_eq_zero_iff.mp (by omega)
theorem ik (a b : Int) : bD a b ∣ a := Int.gcd_dvd_left ..
theorem eV (a b : Int) : bD a b ∣ b := Int.gcd_dvd_right ..
structure Fr (p q a b : Int) : Prop where
 pos : 0 < q
 low : bD p q = 1
 same : p * b = a * q
 bt : p.natAbs <= a.natAbs
 bb : q.natAbs <= b.natAbs
structure y9 (p q : Int) : Prop where
 pos : 0 < q
 low : bD p q = 1
def jq (a b : Int) : Int := if b < 0 then -bD a b else bD a b
theorem rL {a b : Int} (h : b ≠ 0) : jq a b ≠ 0 := by
 have g : bD a b ≠ 0 := fun z => h (fE z).2
 unfold jq; split <;> omega
theorem wS {a b : Int} (h : b ≠ 0) : Fr (a.fdiv (jq a b)) (b.fdiv (jq a b)) a b := by
 have g : bD a b ≠ 0 := fun z => h (fE z).2
 have p : 0 < bD a b := by have := tM a b; omega
 have c0 := rL (a := a) h
 have da : jq a b ∣ a := by
  unfold jq; split
  ·exact Int.neg_dvd.mpr (ik a b)
  ·exact ik a b
 have db : jq a b ∣ b := by
  unfold jq; split
  ·exact Int.neg_dvd.mpr (eV a b)
  ·exact eV a b
 obtain ⟨x,hx⟩ := da
 obtain ⟨y,hy⟩ := db
 have ex : a.fdiv (jq a b) = x := by
  conv => lhs; arg 1; rw [hx]
  exact Int.mul_fdiv_cancel_left x c0
 have ey : b.fdiv (jq a b) = y := by
  conv => lhs; arg 1; rw [hy]
  exact Int.mul_fdiv_cancel_left y c0
 rw [ex,ey]
 have yp : 0 < y := by
  have e := hy
  unfold jq at e
  rcases (by omega : y < 0 ∨ y = 0 ∨ 0 < y) with q | q | q
  ·exfalso
   split at e
   ·rename_i hb
    have := Int.mul_neg_of_pos_of_neg p q
    rw [Int.neg_mul] at e
    omega
   ·have := Int.mul_neg_of_pos_of_neg p q
    omega
  ·rw [q] at hy; omega
  ·exact q
 have lowx : bD x y = 1 := by
  have m : bD (jq a b * x) (jq a b * y) = bD a b * bD x y := by
   show ((Int.gcd _ _ : Nat) : Int) = _ * ((Int.gcd x y : Nat) : Int)
   rw [Int.gcd_mul_left,Int.natCast_mul]
   congr 1
   unfold jq; split <;> omega
  rw [<- hx,<- hy] at m
  exact Int.eq_one_of_mul_eq_self_right g m.symm
 refine ⟨yp,lowx,?_,?_,?_⟩
 ·conv => lhs; rw [hy]
  conv => rhs; rw [hx]
  rw [<- Int.mul_assoc,Int.mul_comm x]
 ·have : a.natAbs = (jq a b).natAbs * x.natAbs := by conv => lhs; rw [hx]; rw [Int.natAbs_mul]
  rw [this]
  exact Nat.le_mul_of_pos_left _ (by omega)
 ·have : b.natAbs = (jq a b).natAbs * y.natAbs := by conv => lhs; rw [hy]; rw [Int.natAbs_mul]
  rw [this]
  exact Nat.le_mul_of_pos_left _ (by omega)
end Sw
namespace L2
open PySem
inductive wT (K : A0) (H : Hp) : V -> String -> Bool -> Prop where
 | ii (i : Int) : wT K H (.int i) "int" true
 | ib (i : Int) : wT K H (.int i) "bool" false
 | bb (b : Bool) : wT K H (.bl b) "bool" true
 | tt (a : Addr) (ys : List V) (h : iX K H a ys) : wT K H (.ref a) "tuple" true
theorem lH {X : Cx} : cn X (.builtin "isinstance") (fun xs H Q => ∃ x T b,xs = [x,.ty T] /\ wT X.K H x T b /\ Q (.bl b) H) := by
 intro pins s σ H xs us Q I r h
 obtain ⟨x,T,b,rfl,i,q⟩ := h
 cases i with
 | ii i => exact lD pins s σ H _ us Q I r ⟨i,rfl,q⟩
 | ib i => exact jS pins s σ H _ us Q I r ⟨i,rfl,q⟩
 | bb i => exact lE pins s σ H _ us Q I r ⟨i,rfl,q⟩
 | tt a ys h => exact lG pins s σ H _ us Q I r ⟨a,ys,rfl,h,q⟩
end L2
namespace Sw
open PySem L2
theorem dT {p A B : Prop} [Decidable p] (h : p) (a : A) : if decide p = true then A else B := by rw [if_pos (decide_eq_true h)]; exact a
theorem dF {p A B : Prop} [Decidable p] (h : ¬ p) (b : B) : if decide p = true then A else B := by rw [if_neg (by simp [h])]; exact b
theorem d2 {p A B : Prop} [Decidable p] (h1 : p -> A) (h2 : ¬ p -> B) : if decide p = true then A else B := by
 by_cases h : p
 ·exact dT h (h1 h)
 ·exact dF h (h2 h)
theorem nT {p A B : Prop} [Decidable p] (h : ¬ p) (a : A) : if (!decide p) = true then A else B := by rw [if_pos (by simp [h])]; exact a
theorem nF {p A B : Prop} [Decidable p] (h : p) (b : B) : if (!decide p) = true then A else B := by rw [if_neg (by simp [h])]; exact b
theorem vi {a b : Int} (h : a = b) : V.int a = V.int b := by rw [h]
theorem vj {a b : Int} (h : V.int a = V.int b) : a = b := by cases h; rfl
theorem sU {a b : Int} {A B : Prop} (h1 : a = b -> A) (h2 : a ≠ b -> B) : if decide (V.int a = V.int b) = true then A else B := d2 (fun h => h1 (vj h)) fun h => h2 fun e => h (vi e)
theorem z5 {a b : Int} {A B : Prop} (h1 : a ≠ b -> A) (h2 : a = b -> B) : if (!decide (V.int a = V.int b)) = true then A else B := by
 by_cases h : a = b
 ·exact nF (vi h) (h2 h)
 ·exact nT (fun e => h (vj e)) (h1 h)
theorem zP {a b : Int} {A B : Prop} (h : a = b) (x : A) : if decide (V.int a = V.int b) = true then A else B := dT (vi h) x
theorem z6 {a b : Int} {A B : Prop} (h : a ≠ b) (x : B) : if decide (V.int a = V.int b) = true then A else B := dF (fun e => h (vj e)) x
theorem z7 {a b : Int} {A B : Prop} (h : a ≠ b) (x : A) : if (!decide (V.int a = V.int b)) = true then A else B := nT (fun e => h (vj e)) x
theorem za {a b : Int} {A B : Prop} (h : a = b) (x : B) : if (!decide (V.int a = V.int b)) = true then A else B := nF (vi h) x
section
variable {X : Cx} {k j : Nat} {x : Str} {ps : List Str} {sp : Sp} {p pos : Pos} {e : Expr} {es : List Expr} {t : TA}
end
def oN : Sp := fun vs H Q _ => ∃ a b : Int,vs = [.int a,.int b] /\ Q (.int (bD a b)) H
def nj (K : A0) : Sp := fun vs H Q _ => ∃ (a : Addr) (ns : List Int) (k : Int),vs = [.ref a,.int k] /\ bu K H a (ns.map V.int) /\ 0 <= k /\ ∀ v : Int,Q (.int v) H
def jT : Sp := fun vs H Q _ => ∃ v : Int,vs = [.int v] /\ Q (.bl true) H
def oO (K : A0) : Sp := fun vs H Q _ => ∃ (a : Addr) (ns : List Int),vs = [.ref a] /\ bu K H a (ns.map V.int) /\ ns.length <= 63 /\ ∀ H',Q (.bl true) H'
theorem tN {ns : List Int} {k : Int} (h0 : 0 <= k) (h : k < (((ns.map V.int).length : Nat) : Int)) : ∃ v : Int,k9 (ns.map V.int) k = some (.int v) := by
 rw [A8] at h
 have hk : k.toNat < ns.length := by omega
 have ek : k = ((k.toNat : Nat) : Int) := by omega
 have q : k9 (ns.map V.int) ((k.toNat : Nat) : Int) = some (.int ns[k.toNat]) := eE (by rw [Ac,AK hk] <;> rfl)
 rw [<- ek] at q
 exact ⟨_,q⟩
theorem cut {t u : TS} {D : Ends} {σ : L2.St} {H : Hp} (I : L2.St -> Hp -> Prop) (h1 : ∀ N : L2.St -> Hp -> Prop,(∀ σ H,I σ H -> N σ H) -> t { D with nx := N } σ H) (h2 : ∀ σ H,I σ H -> u D σ H) : wA t u D σ H := h1 _ h2
theorem ai {H : Hp} {p : Addr} (h : H p = none) (o : HO) : au H (ar H p o) := fun b u q => by rw [af (aR q h)]; exact q
theorem vI {n : Nat} {a b : Int} (b0 : b ≠ 0) (h : Bd n b) : Bd n (jq a b) := by
 have d : bD a b ∣ b := eV a b
 have k := Nat.le_of_dvd (by omega) (Int.natAbs_dvd_natAbs.mpr d)
 refine h.of_le ?_
 unfold jq
 split <;> omega
def Pair (H : Hp) (Q : VK) (p q : Int) : Prop := ∀ (t : Addr) (H' : Hp),au H H' -> H' t = some (.tup [.int p,.int q]) -> Q (.ref t) H'
def wU : Sp := fun vs H Q _ => ∃ a b : Int,vs = [.int a,.int b] /\ b ≠ 0 /\ Bd 8500 b /\ ∀ p q : Int,Fr p q a b -> Pair H Q p q
structure bH (K : A0) (x qual : Str) (st : Stmt) (dV : Value) (f : Addr) (fd : FuncData) : Prop where
 ex : ∃ (oc : Value) (od : Option Addr) (kV doc pm : Value) (an : Option Addr) (cdv ct : Value) (osl : Array (Option Value)),
  fd = Az x qual (cD st) (bM st) (ap st) dV kV doc pm an cdv ct /\ K.lookup f = some ⟨oc,od,.func fd,osl⟩ /\ BO K cdv qual = true
 kp : Ax K (.ref f) = true
section
variable {P : Program} {w : World} {K : A0} {mg : Str -> Option Value} {base : Heap}
theorem bH.ok {x qual : Str} {st : Stmt} {dV : Value} {f : Addr} {fd : FuncData} {N ps : List Str} {k : Nat} {sp : Sp} (F : bH K x qual st dV f fd) (S : aD N ps (ap st)) (len : ∀ vs H Q E,sp vs H Q E -> vs.length = ps.length)
  (hbody : ∀ (cdv : Value) (A : Around) (outer : List Env) (s : Shared) (H : Hp) (vs : List V) (Q : VK) (E : XK),bx k (A.deeper (PyProof.Rows.envOfC qual (ap st) s.heap.objs.size f cdv)) -> sp vs H Q E ->
   ∃ t,gX (fV bw P w K mg base N qual (ap st) f cdv A outer s H E).nox (bM st) t /\ t { nx := fun _ H' => Q .non H',rt := Q } (start N vs) H) : bh P w K mg base bw (k + 1) f fd ps sp := by
 obtain ⟨oc,od,kV,doc,pm,an,cdv,ct,osl,rfl,lk,hcd⟩ := F.ex
 refine u3 lk hcd S len fun A outer s H vs Q E hr hsp => ?_
 obtain ⟨t,h,q⟩ := hbody cdv A outer s H vs Q E hr hsp
 exact ⟨t,h.nox,q⟩
theorem bH.binds {x qual : Str} {st : Stmt} {T : Addr} {f : Addr} {fd : FuncData} {ps : List Str} {o : Obj} {items : Array Value} {n : Nat} {ds : List Value} (F : bH K x qual st (.ref T) f fd) (ho : K.lookup T = some o) (hs : o.data = .seq items n)
  (h : ∀ (kV doc pm : Value) (an : Option Addr) (cdv ct : Value) (us : List Value),(us ++ ds).length = ps.length -> ∃ k : Option (Array Value) -> Sem (List (Str × Value)),bindArgs (Az x qual (cD st) (bM st) (ap st) (.ref T) kV doc pm an cdv ct) ⟨us,[]⟩ = seqItems? (.ref T) >>= k /\ k (some items) = pure (ps.zip (us ++ ds))) : Binds K fd ps ds := by
 obtain ⟨oc,od,kV,doc,pm,an,cdv,ct,osl,rfl,lk,hcd⟩ := F.ex
 intro s us KX hl
 obtain ⟨k,h1,h2⟩ := h kV doc pm an cdv ct us hl
 exact PySem.W.binds_K KX rfl ho hs h1 h2
theorem bH.binds0 {x qual : Str} {st : Stmt} {dV : Value} {f : Addr} {fd : FuncData} {ps : List Str} (F : bH K x qual st dV f fd)
  (h : ∀ (kV doc pm : Value) (an : Option Addr) (cdv ct : Value) (us : List Value),us.length = ps.length -> bindArgs (Az x qual (cD st) (bM st) (ap st) dV kV doc pm an cdv ct) ⟨us,[]⟩ = pure (ps.zip us)) : Binds K fd ps [] := by
 obtain ⟨oc,od,kV,doc,pm,an,cdv,ct,osl,rfl,lk,hcd⟩ := F.ex
 exact .all (h kV doc pm an cdv ct)
theorem aQ {x qual : Str} {st : Stmt} {f : Addr} {oc dV : Value} {od an : Option Addr} {osl : Array (Option Value)} {kV doc pm cdv ct : Value} (l : K.lookup f = some ⟨oc,od,.func (Az x qual (cD st) (bM st) (ap st) dV kV doc pm an cdv ct),osl⟩)
  (c : BO K cdv qual = true) (k : Ax K (.ref f) = true) : bH K x qual st dV f (Az x qual (cD st) (bM st) (ap st) dV kV doc pm an cdv ct) := ⟨⟨oc,od,kV,doc,pm,an,cdv,ct,osl,rfl,l,c⟩,k⟩
end
section
variable {X : Cx} {k j : Nat} {x : Str} {ps : List Str} {sp : Sp} {p pos : Pos} {e : Expr} {es : List Expr} {t : TA} {dvs : List V}
end
end Sw
namespace XH
open PySem
structure Mv (fs ch : List Addr) (h h' : Heap) : Prop where
 keep : ∀ b o,b ∉ fs -> b ∉ ch -> h.get? b = some o -> h'.get? b = some o
 slot : ∀ b o,b ∈ fs -> b ∉ ch -> h.get? b = some o -> ∃ sl,h'.get? b = some { o with slots := sl }
 there : ∀ b o,h.get? b = some o -> ∃ o',h'.get? b = some o'
theorem Mv.refl (fs ch : List Addr) (h : Heap) : Mv fs ch h h := ⟨fun _ _ _ _ q => q,fun _ o _ _ q => ⟨o.slots,q⟩,fun _ o q => ⟨o,q⟩⟩
theorem Mv.trans {fs c1 c2 ch : List Addr} {h h1 h2 : Heap} (x : Mv fs c1 h h1) (y : Mv fs c2 h1 h2) (k1 : ∀ b,b ∈ c1 -> b ∈ ch) (k2 : ∀ b,b ∈ c2 -> b ∈ ch) : Mv fs ch h h2 where
 keep := fun b o hf hc q => y.keep b o hf (fun z => hc (k2 b z)) (x.keep b o hf (fun z => hc (k1 b z)) q)
 slot := fun b o hf hc q => by
  obtain ⟨sl,q1⟩ := x.slot b o hf (fun z => hc (k1 b z)) q
  obtain ⟨sl2,q2⟩ := y.slot b _ hf (fun z => hc (k2 b z)) q1
  exact ⟨sl2,q2⟩
 there := fun b o q => by
  obtain ⟨o1,q1⟩ := x.there b o q
  exact y.there b o1 q1
inductive u5 where
 | new
 | fl (v : Value)
def u5.Is (F : Addr -> Prop) (h : Heap) (e : Addr) (vs : Array Value) : u5 -> Prop
 | .new => vs[1]? = some .none
 | .fl v => ∃ T oT ts,vs[1]? = some (.ref T) /\ F T /\ T ≠ e /\ h.get? T = some oT /\ oT.data = .fields ts /\ ts[3]? = some v
def Fz (vs : Array Value) : Prop := 1 < vs.size /\ vs[2]? = some .none
theorem Fz.set {vs : Array Value} (h : Fz vs) (v : Value) : Fz (vs.setIfInBounds 1 v) := ⟨by simpa using h.1,by rw [Array.getElem?_setIfInBounds]; simp [h.2]⟩
structure XO (F : Addr -> Prop) (h : Heap) (e : Addr) (cls : Value) (dx : Option Addr) (st : u5) : Prop where
 ex : ∃ oe vs,h.get? e = some oe /\ oe.cls = cls /\ oe.dict = dx /\ oe.data = .fields vs /\ Fz vs /\ st.Is F h e vs
 fr : F e
theorem XO.mono {F G : Addr -> Prop} {h : Heap} {e : Addr} {cls : Value} {dx : Option Addr} {st : u5} (x : XO F h e cls dx st) (k : ∀ b,F b -> G b) : XO G h e cls dx st := by
 obtain ⟨⟨oe,vs,a,b,c,d,f,g⟩,fr⟩ := x
 refine ⟨⟨oe,vs,a,b,c,d,f,?_⟩,k _ fr⟩
 cases st with
 | new => exact g
 | fl v =>
  obtain ⟨T,oT,ts,g1,g2,g3⟩ := g
  exact ⟨T,oT,ts,g1,k _ g2,g3⟩
theorem jr (o : Obj) (f : Array Value -> Array Value) : (o.mapFields f).dict = o.dict := by
 obtain ⟨c,d,dt,sl⟩ := o
 cases dt <;> rfl
section
variable {M : Model} {A : Around} {E : Value -> Shared -> Prop} {s : Shared}
theorem lJ {base : Heap} {env : Env} {outer : List Env} {L e : Addr} {oe : Obj} {vs : Array Value} {head : Value} {had : Bool} {Q : Unit -> Shared -> Prop}
  (hfr : A.frames = some (env :: outer)) (hl : s.heap.FunFrames base (env :: outer)) (hf : env.frame = some L) (he : s.heap.get? e = some oe) (hd : oe.data = .fields vs) (hsz : 1 < vs.size)
  (h : ∀ h' T,Mv ((env :: outer).filterMap (·.frame)) [e] s.heap h' -> s.heap.get? T = none -> T ≠ e -> h'.get? e = some (oe.mapFields (·.setIfInBounds 1 (.ref T))) ->
   (∃ oT ts,h'.get? T = some oT /\ oT.data = .fields ts /\ ts[3]? = some (rawInt L)) -> Q () { s with heap := h' }) :
  wpAny M A (do let a <- frameOf env; let pl <- entryPlaceOf L had; let b <- EntryCells.newEntry head a .none (rawInt L) .none pl; setField (.ref e) 1 b) Q E s := by
 have hne : e ∉ (env :: outer).filterMap (·.frame) := by
  intro hm
  obtain ⟨_,o,ho,hnf⟩ := hl.mem hm
  rw [he] at ho
  cases ho
  exact hnf vs hd
 apply wpAny_bind
 apply wpAny_frameOf_fun hfr hl hf
 intro h1 hs
 apply wpAny_bind
 apply wpAny_entryPlaceOf
 intro pl hpl
 unfold EntryCells.newEntry newFields
 apply wpAny_bind
 refine wpAny_newObj_type ?_ (hpl.sizeOk5 ..)
 have e1 : h1.get? e = some oe := (hs.2.1 e hne).trans he
 generalize hob : ({ cls := .type "traceback",dict := none,data := .fields ([head,.ref L,.none,rawInt L,.none] ++ (if pl.isEmpty then List.replicate 6 Value.none else pl)).toArray } : Obj) = ob
 have e2 := Heap.get?_push_of_some (h := h1) ob e1
 refine wpAny_setField e2 hd hsz ?_
 have hTe : h1.objs.size ≠ e := Bl (Heap.lt_size e1)
 have d3 := Obj.data_mapFields hd (·.setIfInBounds 1 (Value.ref h1.objs.size))
 have e3 := Heap.get?_update_self (Obj.mapFields (·.setIfInBounds 1 (Value.ref h1.objs.size))) e2 (Obj.isFreed_of_fields d3)
 have kp : ∀ b o,b ≠ e -> h1.get? b = some o -> ((h1.push ob).update e (Obj.mapFields (·.setIfInBounds 1 (Value.ref h1.objs.size)))).get? b = some o := by
  intro b o hb q
  rw [Heap.get?_update_other _ _ (Ne.symm hb)]
  exact Heap.get?_push_of_some _ q
 have t3 : ((h1.push ob).update e (Obj.mapFields (·.setIfInBounds 1 (Value.ref h1.objs.size)))).get? h1.objs.size = some ob := by
  rw [Heap.get?_update_other _ _ (Ne.symm hTe)]
  exact Heap.get?_push_size h1 (by rw [<- hob]; rfl)
 refine h _ h1.objs.size ⟨?_,?_,?_⟩ ?_ hTe e3 ?_
 ·intro b o hb hc q
  exact kp b o (fun z => hc (by rw [z]; exact A2.mpr rfl)) ((hs.2.1 b hb).trans q)
 ·intro b o hb hc q
  obtain ⟨sl,q1⟩ := hs.2.2 b o q
  exact ⟨sl,kp b _ (fun z => hc (by rw [z]; exact A2.mpr rfl)) q1⟩
 ·intro b o q
  by_cases hb : b = e
  ·subst hb
   exact ⟨_,e3⟩
  ·obtain ⟨sl,q1⟩ := hs.2.2 b o q
   exact ⟨_,kp b _ hb q1⟩
 ·exact Heap.get?_none_of_le (by rw [hs.1]; exact A5 _)
 ·subst hob
  refine ⟨_,_,t3,rfl,?_⟩
  rcases hpl with rfl | ⟨_,_,_,_,_,_,_,rfl⟩ <;> simp
theorem pW {F : Addr -> Prop} {e : Addr} {cls v : Value} {dx fl : Option Addr} {Q : Unit -> Shared -> Prop} (x : XO F s.heap e cls dx (.fl v))
  (h : ∀ h' T,F T -> Mv [] [T] s.heap h' -> XO F h' e cls dx (.fl (fl.elim .none fun f => rawInt f)) -> Q () { s with heap := h' }) : wpAny M A (setFlight (.ref e) fl) Q E s := by
 obtain ⟨⟨oe,vs,he,hc,hdx,hd,hsz,T,oT,ts,h1,hF,hTe,hT,hdT,h3⟩,fr⟩ := x
 have z3 : 3 < ts.size := (Bg.mp h3).1
 have oth : ∀ b,b ≠ T -> (s.heap.update T (Obj.mapFields (·.setIfInBounds 3 (fl.elim Value.none fun f => rawInt f)))).get? b = s.heap.get? b := fun b hb => Heap.get?_update_other _ _ (Ne.symm hb)
 have t4 := Heap.get?_update_self (Obj.mapFields (·.setIfInBounds 3 (fl.elim Value.none fun f => rawInt f))) hT (Obj.isFreed_of_fields (Obj.data_mapFields hdT _))
 unfold setFlight
 apply wpAny_bind
 apply wpAny_field he hd h1
 rw [if_pos (by simp)]
 apply wpAny_setField hT hdT z3
 refine h _ T hF ⟨?_,fun b o hb => absurd hb (by simp),?_⟩ ⟨⟨oe,vs,(oth e (Ne.symm hTe)).trans he,hc,hdx,hd,hsz,T,_,_,h1,hF,hTe,t4,Obj.data_mapFields hdT _,by simp [z3]⟩,fr⟩
 ·intro b o _ hb q
  exact (oth b (fun z => hb (by rw [z]; exact A2.mpr rfl))).trans q
 ·intro b o q
  by_cases hb : b = T
  ·subst hb
   exact ⟨_,t4⟩
  ·exact ⟨o,(oth b hb).trans q⟩
theorem tO {F : Addr -> Prop} {base : Heap} {env : Env} {outer : List Env} {L e : Addr} {cls : Value} {dx : Option Addr} {st : u5} {Q : Unit -> Shared -> Prop}
  (hfr : A.frames = some (env :: outer)) (hl : s.heap.FunFrames base (env :: outer)) (hf : env.frame = some L) (x : XO F s.heap e cls dx st)
  (h : ∀ h' ch,(∀ b ∈ ch,F b) -> Mv ((env :: outer).filterMap (·.frame)) ch s.heap h' -> XO (fun b => F b ∨ s.heap.get? b = none) h' e cls dx (.fl (rawInt L)) -> Q () { s with heap := h' }) : wpAny M A (noteFrame (.ref e) env) Q E s := by
 obtain ⟨⟨oe,vs,he,hc,hdx,hd,hsz,hst⟩,fr⟩ := x
 unfold noteFrame
 simp only [hf]
 cases st with
 | new =>
  apply wpAny_bind
  apply wpAny_field he hd hst
  rw [if_neg (by decide)]
  refine lJ hfr hl hf he hd hsz.1 fun h' T mv tn tne he' ⟨oT,ts,hT,hdT,h3⟩ => ?_
  refine h h' [e] (fun b hb => by rw [A2.mp hb]; exact fr) mv ⟨⟨_,_,he',?_,?_,Obj.data_mapFields hd _,hsz.set _,T,oT,ts,by simp [hsz.1],.inr tn,tne,hT,hdT,h3⟩,.inl fr⟩
  ·rw [Obj.cls_mapFields]; exact hc
  ·rw [jr]; exact hdx
 | fl v =>
  obtain ⟨T,oT,ts,h1,hF,hTe,hT,hdT,h3⟩ := hst
  have z3 : 3 < ts.size := (Bg.mp h3).1
  apply wpAny_bind
  apply wpAny_field he hd h1
  rw [if_pos (by simp)]
  apply wpAny_bind
  apply wpAny_field hT hdT h3
  by_cases hv : (v == rawInt L) = true
  ·rw [if_pos hv]
   have ev : v = rawInt L := beq_iff_eq.mp hv
   subst ev
   refine wpAny_pure (h s.heap [] (fun b hb => absurd hb (by simp)) (.refl ..) ⟨⟨oe,vs,he,hc,hdx,hd,hsz,T,oT,ts,h1,.inl hF,hTe,hT,hdT,h3⟩,.inl fr⟩)
  ·rw [if_neg hv]
   apply wpAny_bind
   apply wpAny_setField hT hdT z3
   have oth : ∀ b,b ≠ T -> (s.heap.update T (Obj.mapFields (·.setIfInBounds 3 Value.none))).get? b = s.heap.get? b := fun b hb => Heap.get?_update_other _ _ (Ne.symm hb)
   have t4 := Heap.get?_update_self (Obj.mapFields (·.setIfInBounds 3 Value.none)) hT (Obj.isFreed_of_fields (Obj.data_mapFields hdT _))
   have nrec : ∀ b o,s.heap.get? b = some o -> (∀ vs,o.data ≠ .fields vs) -> b ≠ T := by
    intro b o hb hn z
    rw [z,hT] at hb
    cases hb
    exact hn ts hdT
   have mv1 : Mv ((env :: outer).filterMap (·.frame)) [T] s.heap (s.heap.update T (Obj.mapFields (·.setIfInBounds 3 Value.none))) := by
    refine ⟨fun b o _ hb q => (oth b (fun z => hb (by rw [z]; exact A2.mpr rfl))).trans q,fun b o _ hb q => ⟨o.slots,(oth b (fun z => hb (by rw [z]; exact A2.mpr rfl))).trans q⟩,fun b o q => ?_⟩
    by_cases hb : b = T
    ·subst hb
     exact ⟨_,t4⟩
    ·exact ⟨o,(oth b hb).trans q⟩
   refine lJ (s := { s with heap := s.heap.update T (Obj.mapFields (·.setIfInBounds 3 Value.none)) }) hfr (hl.of_keeps fun b o hb hn => ⟨o,(oth b (nrec b o hb hn)).trans hb,rfl⟩) hf ((oth e (Ne.symm hTe)).trans he) hd hsz.1 fun h' T2 mv tn tne he' ⟨oT2,ts2,hT2,hdT2,h32⟩ => ?_
   refine h h' [T,e] ?_ (mv1.trans mv (fun b hb => by simp at hb; simp [hb]) (fun b hb => by simp at hb; simp [hb])) ⟨⟨_,_,he',?_,?_,Obj.data_mapFields hd _,hsz.set _,T2,oT2,ts2,by simp [hsz.1],.inr ?_,tne,hT2,hdT2,h32⟩,.inl fr⟩
   ·intro b hb
    simp at hb
    rcases hb with rfl | rfl
    ·exact hF
    ·exact fr
   ·rw [Obj.cls_mapFields]; exact hc
   ·rw [jr]; exact hdx
   ·cases q : s.heap.get? T2 with
    | none => rfl
    | some o =>
     obtain ⟨o',q'⟩ := mv1.there T2 o q
     rw [q'] at tn
     cases tn
end
end XH
namespace L2
open PySem PySem.Spec PyProof.Rows XH
structure dY (P : Program) (w : World) (outer : List Env) (H : Hp) (s : Shared) (a : Addr) (H' : Hp) (cls : Value) (dx : Option Addr) (st : u5) (s' : Shared) : Prop where
 os : s'.os = s.os
 bare : AllBare s'.gens
 un : Un (gr outer) [] H H' s.heap s'.heap
 hok : c9 P w H' s'.heap
 xo : XO (fun b => s.heap.get? b = none /\ H' b = none) s'.heap a cls dx st
def b9 (P : Program) (w : World) : oF := fun outer H s E e s' => ∃ a H' cls dx st,e = .ref a /\ dY P w outer H s a H' cls dx st s' /\ E cls dx H'
section
variable {P : Program} {w : World} {H H' : Hp} {h h' h0 : Heap} {fs ch : List Addr} {a : Addr} {o : HO}
theorem aX.there (x : aX P w H h a o) : ∃ u,h.get? a = some u := by
 cases o with
 | lst xs => obtain ⟨_,_,_,_,e⟩ := x; exact ⟨_,e⟩
 | tup xs => obtain ⟨_,_,_,_,e,_⟩ := x; exact ⟨_,e⟩
 | dK kvs => obtain ⟨_,_,_,_,_,_,_,e,_⟩ := x; exact ⟨_,e⟩
 | dT kvs => obtain ⟨_,_,_,_,_,_,_,e,_⟩ := x; exact ⟨_,e⟩
 | set S n => obtain ⟨_,_,_,_,e,_⟩ := x; exact ⟨_,e⟩
 | ins C dx fs => obtain ⟨_,_,_,e,_⟩ := x; exact ⟨_,e⟩
 | own y => exact x
 | xd fs => obtain ⟨_,⟨_,_,_,e,_⟩,_⟩ := x; exact ⟨_,e⟩
 | rng lo hi => obtain ⟨_,_,_,e⟩ := x; exact ⟨_,e⟩
 | frz ob u => obtain ⟨e,_⟩ := x; exact ⟨_,e⟩
 | tbl ps => exact ⟨_,show h.get? a = some _ from x⟩
 | met f y => exact ⟨_,show h.get? a = some _ from x⟩
 | ext φ => obtain ⟨_,⟨_,e⟩,_⟩ := x; exact ⟨_,e⟩
theorem c9.none_of (k : c9 P w H h) (q : h.get? a = none) : H a = none := by
 cases r : H a with
 | none => rfl
 | some o =>
  obtain ⟨u,e⟩ := (k a o r).there
  rw [q] at e
  cases e
theorem u6 (u : Un fs [] H H' h0 h) (m : Mv fs ch h h') (hc : ∀ b ∈ ch,h0.get? b = none) : Un fs [] H H' h0 h' where
 keep := fun b o q n hb hx => m.keep b o hb (fun z => by rw [hc b z] at q; cases q) (u.keep b o q n hb hx)
 slot := fun b o q n hb hx => by
  obtain ⟨sl,q1⟩ := u.slot b o q n hb hx
  obtain ⟨sl2,q2⟩ := m.slot b _ hb (fun z => by rw [hc b z] at q; cases q) q1
  exact ⟨sl2,q2⟩
 free := u.free
 there := fun b o q hx => by
  obtain ⟨o1,q1⟩ := u.there b o q hx
  exact m.there b o1 q1
 tups := u.tups
 frzs := u.frzs
 tbls := u.tbls
theorem rM (k : c9 P w H h) (m : Mv fs ch h h') (hc : ∀ b ∈ ch,H b = none) (hf : ∀ b ∈ fs,H b = none) : c9 P w H h' := fun a o e =>
 (k a o e).stay (fun b u hb q => by
  have t : H b ≠ none := by
   rcases hb with z | z
   ·rw [z,e]; exact fun y => nomatch y
   ·rw [z]; exact fun y => nomatch y
  exact m.keep b u (fun z => t (hf b z)) (fun z => t (hc b z)) q) (fun _ q => q) fun _ _ q => q
theorem _root_.XH.Mv.wider (m : Mv [] ch h h') : Mv fs ch h h' := ⟨fun b o _ hc q => m.keep b o (by simp) hc q,fun b o _ hc q => ⟨o.slots,m.keep b o (by simp) hc q⟩,m.there⟩
theorem oP {base : Heap} (u : Un fs [] H H' h h') : ∀ {l : List Env},h.FunFrames base l -> (∀ b ∈ gr l,b ∈ fs /\ H b = none) -> h'.FunFrames base l
 | [],_,_ => trivial
 | env :: r,⟨hk,⟨L,o,hf,hn,ho,hd⟩,hr⟩,hs => by
  have hL : L ∈ gr (env :: r) := by unfold gr; rw [Bm,hf]; exact B2
  obtain ⟨sl,e⟩ := u.slot L o ho (hs L hL).2 (hs L hL).1 (by simp)
  exact ⟨hk,⟨L,_,hf,hn,e,hd⟩,oP u hr fun b hb => hs b (by unfold gr; rw [Bm,hf]; exact Ab _ hb)⟩
end
section
variable {P : Program} {w : World} {H H' : Hp} {s s' : Shared} {a L : Addr} {cls v : Value} {dx : Option Addr} {st : u5} {env : Env} {outer : List Env} {base : Heap} {M : Model} {A : Around} {Z : Value -> Shared -> Prop} {Q : Unit -> Shared -> Prop}
theorem dY.frees (c : dY P w outer H s a H' cls dx st s') (hl : s.heap.FunFrames base outer) (hH : ∀ b ∈ gr outer,H b = none) : ∀ b ∈ gr outer,H' b = none := fun b hb => by
 obtain ⟨_,o,ho,_⟩ := hl.mem hb
 exact c.un.free b o ho (hH b hb) (by simp)
theorem dY.note (c : dY P w (env :: outer) H s a H' cls dx st s') (hfr : A.frames = some (env :: outer)) (hf : env.frame = some L) (hl : s.heap.FunFrames base (env :: outer)) (hH : ∀ b ∈ gr (env :: outer),H b = none)
  (h : ∀ s'',dY P w (env :: outer) H s a H' cls dx (.fl (rawInt L)) s'' -> Q () s'') : wpAny M A (noteFrame (.ref a) env) Q Z s' := by
 refine tO hfr (oP c.un hl fun b hb => ⟨hb,hH b hb⟩) hf c.xo fun h' ch hch mv x => h _ ?_
 refine ⟨c.os,c.bare,u6 c.un mv fun b hb => (hch b hb).1,rM c.hok mv (fun b hb => (hch b hb).2) (c.frees hl hH),x.mono ?_⟩
 rintro b (q | q)
 ·exact q
 ·refine ⟨?_,c.hok.none_of q⟩
  cases r : s.heap.get? b with
  | none => rfl
  | some o =>
   obtain ⟨o',r'⟩ := c.un.there b o r (by simp)
   rw [r'] at q
   cases q
theorem dY.flight {fl : Option Addr} (c : dY P w outer H s a H' cls dx (.fl v) s') (hl : s.heap.FunFrames base outer) (hH : ∀ b ∈ gr outer,H b = none)
  (h : ∀ s'',dY P w outer H s a H' cls dx (.fl (fl.elim .none fun f => rawInt f)) s'' -> Q () s'') : wpAny M A (setFlight (.ref a) fl) Q Z s' := by
 refine pW c.xo fun h' T hT mv x => h _ ⟨c.os,c.bare,u6 c.un mv.wider fun b hb => ?_,rM c.hok (mv.wider (fs := gr outer)) (fun b hb => ?_) (c.frees hl hH),x⟩
 ·rw [A2.mp hb]; exact hT.1
 ·rw [A2.mp hb]; exact hT.2
end
def XS (X : Cx) (E : St -> XK) : Value -> Shared -> Prop := fun e s' => ∃ σ H0 s0,aq X [] σ H0 s0 /\ b9 X.prog X.w X.stack H0 s0 (E σ) e s'
def dZ (X : Cx) (E : St -> XK) : Prop := ∀ (pins : List (Addr × Obj)) (σ : St) (H : Hp) (s : Shared) (e : Value) (s' : Shared),aq X pins σ H s -> b9 X.prog X.w X.stack H s (E σ) e s' -> X.xe e s'
theorem bZ {X : Cx} {E : St -> XK} : dZ (X.wish (XS X E)) E := fun pins σ H s e s' I c => ⟨σ,H,s,I.unwish.pins_of (fun p hp => absurd hp (by simp)),c⟩
def nu (sp : Sp) (dvs : List V) (E : St -> XK) (t : TA) : TE := fun σ H Q => t σ H fun vs H1 => sp (vs ++ dvs) H1 Q (E σ)
section
variable {X : Cx} {k : Nat} {f C : Addr} {fd : FuncData} {ps : List Str} {sp : Sp} {dvs : List V} {ds : List Value} {E : St -> XK} {x m : Str} {p pos apos : Pos} {e o : Expr} {es : List Expr} {ta : TE} {t : TA}
theorem oQ {pins : List (Addr × Obj)} {σ : St} {H : Hp} {s : Shared} {Q : VK} {us : List Value} {vs : List V} (F : bh X.prog X.w X.K X.mg X.base (b9 X.prog X.w) k f fd ps sp) (hr : bx k X.A) (hb : Binds X.K fd ps ds) (hd : aM dvs ds) (hx : dZ X E)
  (I : aq X pins σ H s) (r : aM vs us) (h : sp (vs ++ dvs) H Q (E σ)) : wpAny (model X.prog X.w) X.A (call (.ref f) us) (EP X pins σ Q) X.xe s := by
 have r2 : aM (vs ++ dvs) (us ++ ds) := r.append hd
 have hl : (us ++ ds).length = ps.length := by rw [<- r2.length]; exact F.len _ _ _ _ h
 refine wpAny_call (codeAny_mono (F.run X.A X.stack s H ⟨us,[]⟩ (us ++ ds) (vs ++ dvs) Q (E σ) hr I.env0 (hb s us I.kIn hl) r2 h) fun r s' hq => ?_)
 cases r with
 | error e => exact hx pins σ H s e s' I hq
 | ok fl =>
  cases fl with
  | ret u => exact I.after hq
  | next => exact False.elim hq
  | brk => exact False.elim hq
  | cont => exact False.elim hq
theorem lK (F : bh X.prog X.w X.K X.mg X.base (b9 X.prog X.w) k f fd ps sp) (hr : bx k X.A) (hg : Gl X x) (hm : X.mg x = some (.ref f)) (hk : Ax X.K (.ref f) = true) (hb : Binds X.K fd ps ds) (hd : aM dvs ds) (hx : dZ X E)
  (ha : PA X (e :: es) t) (hdb : (x == ("__debug__" : Str)) = false := by decide) (he : starEach (e :: es) X.env = (false,eval e X.env) :: starEach es X.env := by rfl) (hpl : (backTo pos (starEach es X.env)).any (·.1) = false := by rfl) :
  PE X (.Call (.Name x p) (e :: es) [] pos) (nu sp dvs E t) := by
 intro pins s σ H Q I h
 refine wpAny_Call_Name_kw (cB I hg hm ?_ hdb)
 refine BV (h₀ := X.base) I.ok.mod.kin hk (aZ (ha pos pins s σ H _ I h) fun us s1 ⟨vs,H1,I1,r,q⟩ => ⟨I1.kIn,?_⟩) he hpl
 exact oQ F hr hb hd hx I1 r q
end
theorem gX.toX {X : Cx} {E' : Value -> Shared -> Prop} {st : List Stmt} {t : TS} (h : gX (X.wish E') st t) (k : ∀ e s,E' e s -> X.xe e s) : gX X st t := fun pins s σ H D I hw =>
 wpAny_mono (h pins s σ H D (I.wish _) hw) (fun _ _ q => q.unwish) fun e s z => k e s z
section
variable {P : Program} {w : World} {K : A0} {mg : Str -> Option Value} {base : Heap}
theorem rN {N : List Str} {qual : Str} {scope : Scope} {f : Addr} {cd : Value} {A : Around} {outer : List Env} {s : Shared} {H : Hp} {E : XK} {e : Value} {s' : Shared}
  (h : XS (fV (b9 P w) P w K mg base N qual scope f cd A outer s H E) (fun _ => E) e s') : (fV (b9 P w) P w K mg base N qual scope f cd A outer s H E).xe e s' := by
 obtain ⟨σ,H0,s0,I,a,H',cls,dx,st,rfl,c,hE⟩ := h
 show wpAny (model P w) (A.deeper (envOfC qual scope s.heap.objs.size f cd)) (leaving (envOfC qual scope s.heap.objs.size f cd) (.ref a)) (fun _ s'' => b9 P w outer H s E (.ref a) s'') (fun e' s'' => b9 P w outer H s E e' s'') s'
 unfold leaving
 apply wpAny_bind
 refine c.note (L := s.heap.objs.size) I.ok.frames rfl I.stack I.stkFree fun s1 c1 => ?_
 refine c1.flight I.stack I.stkFree fun s2 c2 => ?_
 have J := I.call' c2.os c2.un c2.hok c2.bare (fun b z => absurd z (by simp))
 refine ⟨a,H',cls,dx,_,rfl,⟨J.os,c2.bare,J.base,c2.hok,c2.xo.mono fun b q => ⟨?_,q.2⟩⟩,hE⟩
 cases r : s.heap.get? b with
 | none => rfl
 | some o =>
  obtain ⟨o',r'⟩ := I.base.there b o r (fun z => absurd (show b ∈ ([] : List Addr) from z) (by simp))
  rw [q.1] at r'
  cases r'
theorem vJ {k : Nat} {f : Addr} {name qual : Str} {params : Arguments} {body : List Stmt} {scope : Scope} {dV kV doc pm cdv ct oc : Value} {an od : Option Addr}
  {osl : Array (Option Value)} {N ps : List Str} {sp : Sp} (lk : K.lookup f = some ⟨oc,od,.func (Az name qual params body scope dV kV doc pm an cdv ct),osl⟩) (hcd : BO K cdv qual = true) (S : aD N ps scope)
  (len : ∀ vs H Q E,sp vs H Q E -> vs.length = ps.length)
  (hbody : ∀ (A : Around) (outer : List Env) (s : Shared) (H : Hp) (vs : List V) (Q : VK) (E : XK),bx k (A.deeper (envOfC qual scope s.heap.objs.size f cdv)) -> sp vs H Q E ->
   ∃ t,gX ((fV (b9 P w) P w K mg base N qual scope f cdv A outer s H E).wish (XS (fV (b9 P w) P w K mg base N qual scope f cdv A outer s H E) fun _ => E)) body t /\ t { nx := fun _ H' => Q .non H',rt := Q } (start N vs) H) :
  bh P w K mg base (b9 P w) (k + 1) f (Az name qual params body scope dV kV doc pm an cdv ct) ps sp := by
 refine u3 lk hcd S len fun A outer s H vs Q E hr hsp => ?_
 obtain ⟨t,h,q⟩ := hbody A outer s H vs Q E hr hsp
 exact ⟨t,h.toX fun e s' z => rN z,q⟩
theorem bh.noraise {k : Nat} {f : Addr} {fd : FuncData} {ps : List Str} {sp sp0 : Sp} (F : bh P w K mg base (b9 P w) k f fd ps sp) (h : ∀ vs H Q E,sp0 vs H Q E -> sp vs H Q E0) : bh P w K mg base bw k f fd ps sp0 :=
 ⟨fun vs H Q E q => F.len vs H Q E0 (h _ _ _ _ q),fun A outer s H args us vs Q E hr he hb hv hs => codeAny_mono (F.run A outer s H args us vs Q E0 hr he hb hv (h _ _ _ _ hs)) fun r s' hq => by
  cases r with
  | error e => obtain ⟨_,_,_,_,_,_,_,z⟩ := hq; exact z.elim
  | ok fl => cases fl <;> exact hq⟩
end
abbrev Cx.tried (X : Cx) (pins : List (Addr × Obj)) : Cx := { X with pn := X.pn ++ pins }
abbrev Cx.suite (X : Cx) (pins : List (Addr × Obj)) (a : Addr) : Cx := { X with A := X.A.mark (some (.ref a)),calm := false,pn := X.pn ++ pins,xe := fun _ _ => False }
def b7 (n : Bool) (a : Addr) (cls : Value) (dx : Option Addr) : HO := .ext fun h => ∃ ox vs,h.get? a = some ox /\ ox.cls = cls /\ ox.dict = dx /\ ox.data = .fields vs /\ vs[2]? = some .none /\ (n = true -> 1 < vs.size /\ vs[1]? = some .none)
abbrev vK := b7 false
theorem jU {P : Program} {w : World} {H : Hp} {h : Heap} {n : Bool} {a : Addr} {cls : Value} {dx : Option Addr} {ox : Obj} {vs : Array Value} (h1 : h.get? a = some ox) (h2 : ox.cls = cls) (h3 : ox.dict = dx) (h4 : ox.data = .fields vs) (h6 : vs[2]? = some .none) (h5 : n = true -> 1 < vs.size /\ vs[1]? = some .none) : aX P w H h a (b7 n a cls dx) :=
 ⟨⟨ox,vs,h1,h2,h3,h4,h6,h5⟩,⟨ox,h1⟩,fun _ _ ⟨oy,ws,q,r⟩ kp => ⟨oy,ws,kp _ q,r⟩⟩
abbrev TH := Ends -> St -> Value -> Option Addr -> Hp -> Addr -> Prop
def PH (X : Cx) (hs : List ExceptHandler) (th : TH) : Prop :=
 ∀ (pins : List (Addr × Obj)) (σ : St) (H0 : Hp) (s0 : Shared) (D : Ends) (a : Addr) (H' : Hp) (cls v : Value) (dx : Option Addr) (s' : Shared),aq X pins σ H0 s0 -> dY X.prog X.w X.stack H0 s0 a H' cls dx (.fl v) s' -> th D σ cls dx H' a ->
  wpAny (model X.prog X.w) X.A (handleBy (.ref a) X.env hs) (SP X pins D) X.xe s'
section
variable {X : Cx} {pins : List (Addr × Obj)} {σ : St} {H H' : Hp} {s s' : Shared}
theorem aq.tried (I : aq X pins σ H s) : aq (X.tried pins) [] σ H s :=
 ⟨⟨I.ok.mod,I.ok.kind,I.ok.glob,I.ok.blt,I.ok.above,I.ok.inj,I.ok.has,I.ok.cab,I.ok.hd,I.ok.frames,I.ok.stk,I.ok.exf,I.ok.bs,I.ok.bsz,I.ok.noex,I.ok.exfs,I.ok.funs,I.ok.frf⟩,
  I.os,I.bare,I.base,I.loc,I.cell,I.free,I.freeC,fun p hp => I.pin p (by simpa using hp),I.hok,I.len⟩
theorem aq.untried (I : aq (X.tried pins) [] σ H s) : aq X pins σ H s :=
 ⟨⟨I.ok.mod,I.ok.kind,I.ok.glob,I.ok.blt,I.ok.above,I.ok.inj,I.ok.has,I.ok.cab,I.ok.hd,I.ok.frames,I.ok.stk,I.ok.exf,I.ok.bs,I.ok.bsz,I.ok.noex,I.ok.exfs,I.ok.funs,I.ok.frf⟩,
  I.os,I.bare,I.base,I.loc,I.cell,I.free,I.freeC,fun p hp => I.pin p (by simpa using hp),I.hok,I.len⟩
theorem aq.insuite (I : aq X pins σ H s) (a : Addr) : aq (X.suite pins a) [] σ H s :=
 ⟨⟨I.ok.mod,I.ok.kind,I.ok.glob,I.ok.blt,I.ok.above,I.ok.inj,I.ok.has,I.ok.cab,fun z => (Bool.noConfusion z),I.ok.frames,I.ok.stk,I.ok.exf,I.ok.bs,I.ok.bsz,I.ok.noex,I.ok.exfs,I.ok.funs,I.ok.frf⟩,
  I.os,I.bare,I.base,I.loc,I.cell,I.free,I.freeC,fun p hp => I.pin p (by simpa using hp),I.hok,I.len⟩
theorem aq.outsuite {a : Addr} (ok : X.Ok) (I : aq (X.suite pins a) [] σ H s) : aq X pins σ H s :=
 ⟨ok,I.os,I.bare,I.base,I.loc,I.cell,I.free,I.freeC,fun p hp => I.pin p (by simpa using hp),I.hok,I.len⟩
theorem aq.unbound {n : Str} {i : Nat} {h' : Heap} {m : Str -> Option Value} {v : Option Value} {t' : Nat} (I : aq X pins σ H s) (hi : X.N[i]? = some n) (hN : X.N.Nodup)
  (hm : ∀ (j : Nat) (x : Str) (v : V),X.N[j]? = some x -> σ[j]? = some (some v) -> yg X.env.scope x -> ∃ u,RelV v u /\ Look X.env s.heap m x u)
  (hn : h'.Ns X.env.locals (fun x => if x = n then v else m x)) (hs : Heap.SameBut X.env.locals s.heap h') : aq X pins (σ.set i none) H { s with heap := h',toks := t' } := by
 obtain ⟨m0,hn0,_⟩ := id I.loc
 obtain ⟨oL,_,_,hoL,_⟩ := id hn0
 have cne := I.cne
 have low : ∀ b o,X.s₀.heap.get? b = some o -> b ≠ X.env.locals := fun b o e => AE (AU (Heap.lt_size e) I.ok.above)
 refine ⟨I.ok,I.os,I.bare,⟨fun b o e n hb hx => ?_,fun b o e n hb hx => ?_,I.base.free,fun b o e hx => ?_,I.base.tups,I.base.frzs,I.base.tbls⟩,⟨_,hn,fun j y v' e1 e2 e3 => ?_⟩,fun y c e => ?_,I.free,I.freeC,fun p hp => ?_,fun b ob e => ?_,by simpa using I.len⟩
 ·exact (hs.2 b (low b o e)).trans (I.base.keep b o e n hb hx)
 ·obtain ⟨sl,e1⟩ := I.base.slot b o e n hb hx
  exact ⟨sl,(hs.2 b (low b o e)).trans e1⟩
 ·obtain ⟨o',e1⟩ := I.base.there b o e hx
  exact ⟨o',(hs.2 b (low b o e)).trans e1⟩
 ·by_cases hj : j = i
  ·subst hj
   rw [List.getElem?_set] at e2
   simp at e2
  ·rw [List.getElem?_set_ne (Ne.symm hj)] at e2
   obtain ⟨u',r',q⟩ := hm j y v' e1 e2 e3
   refine ⟨u',r',?_⟩
   rcases q with ⟨k,e⟩ | ⟨k,c,e,z⟩
   ·refine .inl ⟨k,?_⟩
    have : y ≠ n := fun e => hj (gU hN e1 (e ▸ hi))
    simp [this,e]
   ·exact .inr ⟨k,c,e,z.sameBut hs (cne y c e)⟩
 ·obtain ⟨w',z⟩ := I.cell y c e
  exact ⟨w',z.sameBut hs (cne y c e)⟩
 ·obtain ⟨e,n,ne,nf,d⟩ := I.pin p hp
  exact ⟨(hs.2 p.1 ne).trans e,n,ne,nf,d⟩
 ·refine (I.hok b ob e).stay (fun c w' hc q => (hs.2 c ?_).trans q) (fun _ q => q) fun _ _ q => q
  rintro rfl
  rcases hc with rfl | hc
  ·rw [I.free] at e; cases e
  ·rw [I.free] at hc; cases hc
theorem im {fs : List Addr} {h0 h : Heap} {a : Addr} {o : HO} (u : Un fs [] H H' h0 h) (n0 : h0.get? a = none) (na : H' a = none) : Un fs [] H (ar H' a o) h0 h where
 keep := u.keep
 slot := u.slot
 free := fun b ob q n hx => by
  have : b ≠ a := fun z => by rw [z,n0] at q; cases q
  rw [af this]
  exact u.free b ob q n hx
 there := u.there
 tups := fun b xs e => by
  have q := u.tups b xs e
  rw [af (aR q na)]
  exact q
 frzs := fun b o' w' e => by
  have q := u.frzs b o' w' e
  rw [af (aR q na)]
  exact q
 tbls := fun b ps e => by
  obtain ⟨mo,q⟩ := u.tbls b ps e
  exact ⟨mo,by rw [af (aR q na)]; exact q⟩
theorem jt {P : Program} {w : World} {h : Heap} {a : Addr} {o : HO} (k : c9 P w H h) (na : H a = none) (new : aX P w (ar H a o) h a o) : c9 P w (ar H a o) h := fun b u e => by
 by_cases hb : b = a
 ·subst hb; rw [ae] at e; cases e; exact new
 ·rw [af hb] at e
  exact (k b u e).stay (fun c v _ q => q) (fun c q => by rw [af (aR q na)]; exact q) fun c xs q => by rw [af (aR q na)]; exact q
theorem dY.caughtN {a : Addr} {cls : Value} {dx : Option Addr} (I : aq X pins σ H s) (c : dY X.prog X.w X.stack H s a H' cls dx .new s') : aq X pins σ (ar H' a (b7 true a cls dx)) s' := by
 obtain ⟨⟨oe,vs,he,hc,hd,hda,hz,hn⟩,n0,na⟩ := c.xo
 refine I.call' c.os (im c.un n0 na) (jt c.hok na (jU he hc hd hda hz.2 fun _ => ⟨hz.1,hn⟩)) c.bare fun b z => absurd z (by simp)
theorem dY.caught {a : Addr} {cls : Value} {dx : Option Addr} {st : u5} (I : aq X pins σ H s) (c : dY X.prog X.w X.stack H s a H' cls dx st s') : aq X pins σ (ar H' a (vK a cls dx)) s' := by
 obtain ⟨⟨oe,vs,he,hc,hd,hda,hz,_⟩,n0,na⟩ := c.xo
 refine I.call' c.os (im c.un n0 na) (jt c.hok na (jU he hc hd hda hz.2 fun z => nomatch z)) c.bare fun b z => absurd z (by simp)
end
section
variable {X : Cx} {body : List Stmt} {h₀ : ExceptHandler} {hs : List ExceptHandler} {pos : Pos} {th : TH}
def zb (tb : (St -> XK) -> TS) (th : TH) : TS := fun D σ H => tb (fun σ' cls dx H' => ∀ a,H' a = none -> th D σ' cls dx H' a) D σ H
theorem SP.untried {pins : List (Addr × Obj)} {E : Value -> Shared -> Prop} {D : Ends} {f : Flow} {s' : Shared} (h : SP ((X.tried pins).wish E) [] D f s') : SP X pins D f s' := by
 cases f with
 | next => obtain ⟨σ',H',I,q⟩ := h; exact ⟨σ',H',I.unwish.untried,q⟩
 | brk => obtain ⟨σ',H',I,q⟩ := h; exact ⟨σ',H',I.unwish.untried,q⟩
 | cont => obtain ⟨σ',H',I,q⟩ := h; exact ⟨σ',H',I.unwish.untried,q⟩
 | ret u => obtain ⟨v,σ',H',I,r,q⟩ := h; exact ⟨v,σ',H',I.unwish.untried,r,q⟩
theorem vL {tb : (St -> XK) -> TS} (hstk : X.stack = X.env :: X.outer) (hfm : X.env.frame = some X.env.locals)
  (hb : ∀ (pins : List (Addr × Obj)) (E : St -> XK),gX ((X.tried pins).wish (XS (X.tried pins) E)) body (tb E)) (hh : PH X (h₀ :: hs) th) : PS X (.Try body (h₀ :: hs) [] [] pos) (zb tb th) := by
 intro pins s σ H D I h
 refine wpAny_Try_except ?_
 refine wpAny_mono (hb pins _ [] s σ H D (I.tried.wish _) h) (fun f s1 q => ?_) fun e s1 hx => ?_
 ·have q := q.untried
  cases f with
  | next => exact wpAny_execs_nil q
  | brk => exact q
  | cont => exact q
  | ret u => exact q
 ·obtain ⟨σ',H0,s0,I0,a,H',cls,dx,st,rfl,c,hE⟩ := hx
  have c' : dY X.prog X.w (X.env :: X.outer) H0 s0 a H' cls dx st s1 := hstk ▸ c
  have J := I0.untried
  have fr : X.A.frames = some (X.env :: X.outer) := by rw [<- hstk]; exact J.ok.frames
  have st1 : s0.heap.FunFrames X.base (X.env :: X.outer) := by rw [<- hstk]; exact J.stack
  have sf : ∀ b ∈ gr (X.env :: X.outer),H0 b = none := by rw [<- hstk]; exact J.stkFree
  refine c'.note fr hfm st1 sf fun s2 c2 => ?_
  refine c2.flight st1 sf fun s3 c3 => ?_
  exact hh pins σ' H0 s0 D a H' cls _ dx s3 J (hstk ▸ c3) (hE a c3.xo.fr.2)
theorem vM : PH X [] (fun _ _ _ _ _ _ => False) := fun _ _ _ _ _ _ _ _ _ _ _ _ _ h => h.elim
end
structure XT (K : A0) (C : Addr) : Prop where
 ty : PySem.W.typeIn K (.ref C) = some (.type "type")
 cl : (PySem.W.clsIn K C).isSome = true
 ex : Aq K (.ref C) (.type "BaseException") = some true
theorem fF {K : A0} {M : Model} {h : Heap} {C : Addr} (X : K.In h) (e : (PySem.W.clsIn K C).isSome = true) : PySem.W.Looks M h (isType (.ref C)) true := by
 unfold PySem.W.clsIn at e
 split at e
 ·rename_i ho
  intro A' Q' E' s' k q
  unfold isType loadHead
  exact wpAny_bind (wpAny_loadPart (k _ _ (X _ _ ho)) (wpAny_pure q))
 ·cases e
structure XG (K : A0) (C : Addr) : Prop where
 ga : AO K (.ref C) "__getattribute__" = some (some (.builtin "BaseException.__getattribute__"))
 gt : AO K (.ref C) "__getattr__" = some none
 be : PySem.W.mroIn K C (.type "BaseException") = some true
section
variable {prog : Program} {w : World} {A : Around} {E : Value -> Shared -> Prop} {K : A0} {h : Heap} {g : Array GenState} {d : Drawn} {t : Nat} {os : OsState} {x C : Addr} {ox : Obj} {od : Option Obj} {name : Str}
open PySem.W in
theorem pY {nameV : Value} {Q : Unit -> Shared -> Prop} (X : K.In h) (I : InstAt h x ox C od) (G : XG K C) (hq : Q () ⟨h,g,d,t,os⟩) :
  wpAny (model prog w) A (checkBuiltinCall "BaseException.__getattribute__" ⟨[.ref x,nameV],[]⟩) Q E ⟨h,g,d,t,os⟩ := by
 have hk : builtinKind "BaseException.__getattribute__" = some .slot := by decide +kernel
 have hs : splitId "BaseException.__getattribute__" = some ("BaseException","__getattribute__") := by decide +kernel
 have l0 := I.type (M := model prog w)
 have l1 := looks_mroIn (M := model prog w) X G.be
 have ha := F.args_bexc_ga (.ref x) nameV
 have l2 : Looks (model prog w) h (isInstance (.ref x) (.type "BaseException")) true := l0.andThen l1
 simp only [checkBuiltinCall,hk,hs]
 refine wpAny_bind ?_
 unfold isInstance
 have hx := I.at_
 have hc := I.cls
 repeat (first | (with_reducible refine wpAny_loadPart_at hx ?_; rw [hc]) | with_reducible refine l1.at ?_ | wp_step)
 exact hq
open PySem.W in
theorem io {tk : Tok} {gv a : Value} {Q : Fin -> Shared -> Prop} (X : K.In h) (I : InstAt h x ox C od) (hf : findObj K C od name = some (.bind gv a))
  (hq : wpAny (model prog w) A (call gv [a,.ref x,.ref C]) (fun v s' => Q (.done (.ret v)) s') E ⟨h,g,d,t,os⟩) :
  wpAny (model prog w) A (Builtin.«object.__getattribute__» ⟨[.ref x,.str name tk],[]⟩) Q E ⟨h,g,d,t,os⟩ := by
 have l0 := I.type (M := model prog w)
 have l1 := looks_find (M := model prog w) X I hf
 unfold Builtin.«object.__getattribute__»
 refine wpAny_bind (wpAny_pure (wpAny_bind (wpAny_pure (wpAny_bind (l0.at (wpAny_bind (l1.at ?_)))))))
 show wpAny _ _ (holding [a] (call gv [a,.ref x,.ref C]) >>= ret) _ _ _
 exact wpAny_bind (wpAny_holding (wpAny_mono hq (fun v s' z => wpAny_pure z) fun _ _ z => z))
open PySem.W in
theorem vN {tk : Tok} {fill expr : Bool} {Q : Value -> Shared -> Prop} (X : K.In h) (I : InstAt h x ox C od) (G : XG K C)
  (hq : ∀ A' : Around,wpAny (model prog w) A' (Builtin.«object.__getattribute__» ⟨[.ref x,.str name tk],[]⟩) (fun fin s' => match fin with | .done (.ret v) => wpAny (model prog w) A (handedOut v) Q E s' | _ => False) (fun _ _ => False) ⟨h,g,d,t,os⟩) :
  wpAny (model prog w) A (getAttrBy (.ref x) (.str name tk) fill expr) Q E ⟨h,g,d,t,os⟩ := by
 have l0 := I.type (M := model prog w)
 have l1 := looks_findIn (M := model prog w) X G.ga
 have l2 := looks_findIn (M := model prog w) X G.gt
 have fb := F.attrBase_ValueError
 have f3 := fb.ga.bind (.ref x)
 unfold getAttrBy
 refine wpAny_holding (wpAny_bind (l0.at (wpAny_bind (l1.at ?_))))
 have hx2 : (Value.builtin "BaseException.__getattribute__" == Value.builtin "object.__getattribute__") = false := by decide +kernel
 simp only [hx2,Bool.and_false,B9,if_false]
 unfold getAttrByItsOwn hookBefore
 refine wpAny_bind ?_
 rw [if_pos (show onTheHeap (.ref C) = true from rfl)]
 refine l2.at ?_
 refine wpAny_bind (wpAny_attempt (wpAny_holding ?_))
 unfold callGetattribute
 rw [if_neg (by cases expr <;> exact AM)]
 unfold boundAndCalled
 refine wpAny_bind (wpAny_of_eq f3 ?_)
 refine wpAny_call (codeAny_call_builtin fb.ga.plain F.entry_bexc_ga (pY X I G (wpAny_mono (hq _) (fun fin s' z => ?_) fun _ _ z => z.elim)))
 rcases fin with (_ | _ | _ | _) | _ <;> first | exact z.elim | exact z
end
section
variable {prog : Program} {w : World} {A : Around} {E : Value -> Shared -> Prop} {K : A0}
theorem ip {h : Heap} {g : Array GenState} {d : Drawn} {t : Nat} {os : OsState} {e C C' : Addr} {oe : Obj} {b : Bool} {Q : Bool -> Shared -> Prop} (KX : K.In h) (he : h.get? e = some oe) (hc : oe.cls = .ref C) (T : XT K C')
  (hsub : Aq K (.ref C) (.ref C') = some b) (hq : Q b ⟨h,g,d,t,os⟩) : wpAny (model prog w) A (excMatches (.ref e) (.ref C')) Q E ⟨h,g,d,t,os⟩ := by
 have l1 := PySem.W.looks_typeIn (M := model prog w) KX T.ty
 have l2 := PySem.W.looks_subIn (M := model prog w) KX T.ex
 have l3 := PySem.W.looks_subIn (M := model prog w) KX hsub
 have l4 := fF (M := model prog w) KX T.cl
 have l5 : PySem.W.Looks (model prog w) h (isInstance (.ref C') (.type "tuple")) false := l1.andThen (PySem.W.Looks.of_pure tc_notTuple)
 have l6 : PySem.W.Looks (model prog w) h (isExcClass (.ref C')) true := by
  unfold isExcClass
  refine l4.andThen ?_
  exact l2
 unfold excMatches
 repeat (first | with_reducible refine wpAny_bind (l5.at ?_) | with_reducible refine wpAny_bind (l6.at ?_) | with_reducible refine wpAny_bind (l3.at ?_) | (with_reducible refine wpAny_loadPart_at he ?_; rw [hc]) | wp_step)
 cases b <;> (wp_walk; exact hq)
end
def wV (i : Nat) (D : Ends) : Ends := { nx := fun σ H => D.nx (σ.set i none) H,rt := D.rt,bk := fun σ H => D.bk (σ.set i none) H,ct := fun σ H => D.ct (σ.set i none) H }
def zc (K : A0) (C' : Addr) (t : TS) (r : TH) : TH := fun D σ cls dx H a => ∃ C b,cls = .ref C /\ Aq K (.ref C) (.ref C') = some b /\
 if b = true then t D σ (ar H a (vK a cls dx)) else r D σ cls dx H a
section
variable {X : Cx} {x n : Str} {np pos : Pos} {b0 : Stmt} {suite : List Stmt} {rest : List ExceptHandler} {i : Nat} {C' : Addr} {t : TS} {th : TH}
theorem tP {pins : List (Addr × Obj)} {a : Addr} {D : Ends} {f : Flow} {s : Shared} {M : Model} {A : Around} {E : Value -> Shared -> Prop} (ok : X.Ok) (hN : X.N.Nodup) (hi : X.N[i]? = some n) (hloc : X.env.scope.names.lookup n = some .local)
  (q : SP (X.suite pins a) [] (wV i D) f s) : wpAny M A (do bindName X.env n .none; unbindBehindTheSuite X.env n pos) (fun _ s' => SP X pins D f s') E s := by
 have hcls : (X.env.scope.kind == .class || (X.env.scope.kind == .module && X.env.locals != X.env.globals)) = false := by rw [ok.kind]; rfl
 cases f with
 | next =>
  obtain ⟨σ,H,I,q⟩ := q
  have J := I.outsuite ok
  obtain ⟨m,hn,hl⟩ := id J.loc
  exact wpAny_nameGoes_keeps hloc hn hcls fun h' v hn' hs => ⟨_,H,J.unbound hi hN hl hn' hs,q⟩
 | brk =>
  obtain ⟨σ,H,I,q⟩ := q
  have J := I.outsuite ok
  obtain ⟨m,hn,hl⟩ := id J.loc
  exact wpAny_nameGoes_keeps hloc hn hcls fun h' v hn' hs => ⟨_,H,J.unbound hi hN hl hn' hs,q⟩
 | cont =>
  obtain ⟨σ,H,I,q⟩ := q
  have J := I.outsuite ok
  obtain ⟨m,hn,hl⟩ := id J.loc
  exact wpAny_nameGoes_keeps hloc hn hcls fun h' v hn' hs => ⟨_,H,J.unbound hi hN hl hn' hs,q⟩
 | ret u =>
  obtain ⟨v,σ,H,I,r,q⟩ := q
  have J := I.outsuite ok
  obtain ⟨m,hn,hl⟩ := id J.loc
  exact wpAny_nameGoes_keeps hloc hn hcls fun h' v' hn' hs => ⟨v,_,H,J.unbound hi hN hl hn' hs,r,q⟩
theorem SP.outsuite {pins : List (Addr × Obj)} {a : Addr} {D : Ends} {f : Flow} {s : Shared} (ok : X.Ok) (h : SP (X.suite pins a) [] D f s) : SP X pins D f s := by
 cases f with
 | next => obtain ⟨σ',H',I,q⟩ := h; exact ⟨σ',H',I.outsuite ok,q⟩
 | brk => obtain ⟨σ',H',I,q⟩ := h; exact ⟨σ',H',I.outsuite ok,q⟩
 | cont => obtain ⟨σ',H',I,q⟩ := h; exact ⟨σ',H',I.outsuite ok,q⟩
 | ret u => obtain ⟨v,σ',H',I,r,q⟩ := h; exact ⟨v,σ',H',I.outsuite ok,r,q⟩
theorem u7 (T : XT X.K C') (hg : Gl X x) (hm : X.mg x = some (.ref C'))
  (hs : ∀ (pins : List (Addr × Obj)) (a : Addr),gX (X.suite pins a) (b0 :: suite) t) (hrest : PH X rest th) (hd : (x == ("__debug__" : Str)) = false := by decide) :
  PH X (.ExceptHandler (some (.Name x np)) none (b0 :: suite) pos :: rest) (zc X.K C' t th) := by
 intro pins σ H0 s0 D a H' cls v dx s' I c h
 obtain ⟨C,b,rfl,hsub,h⟩ := h
 have J : aq X pins σ H' s' := I.call' c.os c.un c.hok c.bare (fun b z => absurd z (by simp))
 obtain ⟨oe,vs,he,hc,_,_,_⟩ := c.xo.ex
 refine wpAny_handleBy_cons (codeAny_handlers_test (cB (X := X.suite pins a) (J.insuite a) hg hm ?_ hd)) (by intro q; cases q)
 have KX := J.kIn
 obtain ⟨hh,g,d,tk,os⟩ := s'
 refine ip KX he hc T hsub ?_
 cases b with
 | false => exact hrest pins σ H0 s0 D a H' _ v dx _ I c h
 | true =>
  refine codeAny_handlers_suite ?_
  refine c.flight I.stack I.stkFree fun s2 c2 => ?_
  have J2 := (c2.caught I).insuite a
  refine wpAny_mono (hs pins a [] s2 _ _ _ J2 h) (fun f s4 q => ?_) fun _ _ z => z.elim
  exact q.outsuite I.ok
theorem rO {E : St -> XK} (hstk : X.stack = X.env :: X.outer) (hfm : X.env.frame = some X.env.locals) : PassesOwn (model X.prog X.w) X.A X.env (XS X E) := by
 intro e s1 hx
 obtain ⟨σ',H0,s0,J,a,H',cls,dx,st,rfl,c,hE⟩ := hx
 have c' : dY X.prog X.w (X.env :: X.outer) H0 s0 a H' cls dx st s1 := hstk ▸ c
 have fr : X.A.frames = some (X.env :: X.outer) := by rw [<- hstk]; exact J.ok.frames
 have st1 : s0.heap.FunFrames X.base (X.env :: X.outer) := by rw [<- hstk]; exact J.stack
 have sf : ∀ b ∈ gr (X.env :: X.outer),H0 b = none := by rw [<- hstk]; exact J.stkFree
 unfold notedBy
 refine c'.note fr hfm st1 sf fun s2 c2 => ?_
 unfold cameBackBy
 obtain ⟨oe,vs,he,_,_,hd,_,T,_,_,h1,_⟩ := c2.xo.ex
 apply wpAny_bind
 apply wpAny_field he hd h1
 rw [if_neg (by simp)]
 refine c2.flight st1 sf fun s3 c3 => ?_
 exact ⟨σ',H0,s0,J,a,H',cls,dx,_,rfl,hstk ▸ c3,hE⟩
end
def oR : List Value := [.type "ValueError",.type "Exception",.type "BaseException",.type "object"]
theorem vO {K : A0} {h : Heap} {C : Addr} {bmB : List Value} {nw : String} (X : K.In h) (q : B6 K C bmB nw = true) :
  ∃ bm N nm qn bs hdct sn sub ab col dd k0 k1 k2 k3 k5 mN,h.get? C = some (excClassObj nm qn C N bs bm hdct sn sub ab col dd k0 k1 k2 k3 k5 nw) /\ h.Ns N mN /\ mN "__init__" = none /\ OwnTail h bmB bm := by
 unfold B6 at q
 split at q
 ·rename_i dd cd sl ho
  split at q
  ·rename_i C' bm k0 k1 k2 k3 n k5 hm hs
   simp only [BU,beq_iff_eq,Bool.not_eq_true'] at q
   obtain ⟨⟨⟨⟨⟨e1,e2⟩,hdel⟩,ht⟩,hok⟩,hni⟩ := q
   subst e1 e2
   obtain ⟨nm,bs,mro,ns,qn,hd,sn,sub,ab,col,del⟩ := cd
   dsimp only at hm hdel hok hni
   subst hm hdel
   obtain ⟨l⟩ := sl
   have hl : l = [k0,k1,k2,k3,some (.builtin n),k5] := hs
   subst hl
   exact ⟨bm,ns,nm,qn,bs,hd,sn,sub,ab,col,dd,k0,k1,k2,k3,k5,_,X _ _ ho,.of_isNs (PySem.W.isNs_of_in X hok),PySem.W.nsMap_none_of_in X hok hni,PySem.W.tail_of_in X ht⟩
  ·cases q
 ·cases q
def vP (C : Addr) (E : St -> XK) (t : TA) : TS := fun _ σ H => t σ H fun vs H1 => vs.length <= sizeLine /\ E σ (.ref C) none H1
section
variable {X : Cx} {x : Str} {np cpos pos : Pos} {e₀ : Expr} {rest : List Expr} {C : Addr} {t : TA} {E : St -> XK}
theorem oS {pins : List (Addr × Obj)} {σ : St} {H : Hp} {s : Shared} {h' : Heap} {e : Addr} {us : List Value} (I : aq X pins σ H s) (mk : Heap.MadeExcOf s.heap h' e (.ref C) us) : dY X.prog X.w X.stack H s e H (.ref C) none .new { s with heap := h' } := by
 obtain ⟨t,ht,_,_⟩ := mk.there
 exact ⟨rfl,I.bare,Un.kept mk.keeps,I.hok.kept mk.keeps,⟨⟨_,_,ht,rfl,rfl,rfl,⟨by show 1 < 6; decide,rfl⟩,rfl⟩,mk.new,I.hok.none_of mk.new⟩⟩
theorem cJ (q : B6 X.K C oR "ValueError.__new__" = true) (hg : Gl X x) (hm : X.mg x = some (.ref C)) (hc : X.calm = true) (hp : dZ X E) (ha : PA X (e₀ :: rest) t) (hd : (x == ("__debug__" : Str)) = false := by decide)
  (he : starEach (e₀ :: rest) X.env = (false,eval e₀ X.env) :: starEach rest X.env := by rfl) (hpl : (backTo cpos (starEach rest X.env)).any (·.1) = false := by rfl) :
  PS X (.Raise (some (.Call (.Name x np) (e₀ :: rest) [] cpos)) none pos) (vP C E t) := by
 intro pins s σ H D I h
 obtain ⟨bm,N,nm,qn,bs,hdct,sn,sub,ab,col,dd,k0,k1,k2,k3,k5,mN,hC,hN,hni,TL⟩ := vO I.ok.mod.kin q
 have F := PySem.F.excBase_ValueError
 have W := ha cpos pins s σ H _ I h
 refine wpAny_Raise_call_subT (C := C) (nm := nm) (q := qn) (N := N) (bs := bs) (bm := bm) (hdct := hdct) (sn := sn) (sub := sub) (ab := ab) (col := col) (dd := dd) (k0 := k0) (k1 := k1) (k2 := k2) (k3 := k3) (k5 := k5) (mN := mN)
  F (TL.hasType F.hasBase) (I.ok.hd hc) (by rw [he]; exact hpl) hni (cB I hg hm ⟨rfl,?_⟩ hd)
 rw [he] at W ⊢
 refine Calls.evalArgs_plain (aZ W fun us s2 ⟨vs,H1,I1,r,hl,z⟩ => ⟨rfl,by rw [<- r.length]; exact hl,I1.bk _ _ hC,hN.keeps I1.bk,TL.keeps I1.bk,fun h' e mk => ?_⟩)
 exact hp pins σ H1 s2 _ _ I1 ⟨e,H1,.ref C,none,.new,rfl,oS I1 mk,z⟩
end
structure XI (K : A0) (C : Addr) : Prop where
 gg : XG K C
 cl : (PySem.W.clsIn K C).isSome = true
 at_ : AO K (.ref C) "__class__" = some (some (.builtin "object.__class__"))
 gt : PySem.W.specialIn K (.builtin "object.__class__") "__get__" = some (some (.builtin "getset_descriptor.__get__"))
 tk : PySem.W.takesIn K (.builtin "object.__class__") = some true
 ob : PySem.W.mroIn K C (.type "object") = some true
theorem findObj_cls {K : A0} {C : Addr} {od : Option Obj} (x : XI K C) : PySem.W.findObj K C od "__class__" = some (.bind (.builtin "getset_descriptor.__get__") (.builtin "object.__class__")) := by
 obtain ⟨cd,hc⟩ := B0.mp x.cl
 unfold PySem.W.findObj
 rw [hc,Option.bind_some,x.at_,Option.bind_some]
 simp [x.gt,x.tk]
theorem iq {K : A0} {a C : Addr} (x : XI K C) : PySem.W.KitX K (.ref a) (.ref C) (fun h => ∃ ox od,PySem.W.InstAt h a ox C od) where
 ty := fun _ _ _ ⟨_,_,I⟩ => I.type
 it := fun _ _ X _ => fF X x.cl
 ne := fun h tp dd its n sl X htp => by
  refine Bool.eq_false_iff.mpr fun q => ?_
  have e : C = tp := Value.ref.inj (beq_iff_eq.mp q)
  subst e
  have c := x.cl
  unfold PySem.W.clsIn at c
  split at c
  ·rename_i ho
   have z := (X _ _ ho).symm.trans htp
   cases z
  ·cases c
 ca := fun {_ _ _ _ _ s} X I k => by
  obtain ⟨ox,od,I⟩ := I
  obtain ⟨hh,g,d,t,os⟩ := s
  unfold getAttr? getAttrBy?
  refine wpAny_bind (wpAny_mkText (wpAny_bind (wpAny_attempt (vN (h := hh) X I x.gg fun A' => io X I (findObj_cls x) ?_))))
  exact wpAny_call (PySem.W.class_get (s := ⟨hh,g,d,t + 1,os⟩) (ox := ox) (od := od) X I x.ob (PySem.W.handed_on rfl (wpAny_pure k)))
def oU (H : Hp) (dx : Option Addr) : Prop := match dx with
 | none => True
 | some d => ∃ fs,H d = some (.xd fs)
theorem jV {X : Cx} {pins : List (Addr × Obj)} {σ : St} {H : Hp} {s : Shared} {a C : Addr} {n : Bool} {dx : Option Addr} (I : aq X pins σ H s) (e : H a = some (b7 n a (.ref C) dx)) (d : oU H dx) : ∃ ox od,PySem.W.InstAt s.heap a ox C od := by
 obtain ⟨⟨ox,vs,h1,h2,h3,h4,_⟩,_⟩ := (show aX X.prog X.w H s.heap a (b7 n a (.ref C) dx) from I.hok a _ e)
 have nc : PySem.W.notCls ox = true := by unfold PySem.W.notCls; rw [h4]
 cases dx with
 | none => exact ⟨ox,none,h1,h2,nc,by rw [h3]; trivial⟩
 | some d' =>
  obtain ⟨fs,hd⟩ := d
  obtain ⟨mA,⟨o,es,ep,e',_⟩,_⟩ := (show aX X.prog X.w H s.heap d' (.xd fs) from I.hok d' _ hd)
  exact ⟨ox,some o,h1,h2,nc,by rw [h3]; exact e'⟩
inductive zd (K : A0) (C : Addr) : V -> Bool -> Prop where
 | own {D : Addr} {b : Bool} (h : Ah K (.ref C) (.ref D) = some b) : zd K C (.ref D) b
 | ty {T : String} {b : Bool} (h : Ah K (.ref C) (.type T) = some b) : zd K C (.ty T) b
theorem pZ {X : Cx} {K : A0} (hK : X.K = K) : cn X (.builtin "isinstance") (fun xs H Q => ∃ a C dx c b,xs = [.ref a,c] /\ (∃ n,H a = some (b7 n a (.ref C) dx)) /\ oU H dx /\ XI K C /\ zd K C c b /\ Q (.bl b) H) := by
 subst hK
 intro pins s σ H xs us Q I r h
 obtain ⟨a,C,dx,c,b,rfl,⟨n,e⟩,d,xi,xs,q⟩ := h
 obtain ⟨u,w',rfl,e1,e2⟩ := vals2 r
 cases e1
 cases xs with
 | own h =>
  cases e2
  exact As (iq xi) I.kIn (jV I e d) h (fun z => nomatch z) fun tk => ⟨.bl b,H,I.tok tk,rfl,q⟩
 | ty h =>
  cases e2
  exact As (iq xi) I.kIn (jV I e d) h (fun z => nomatch z) fun tk => ⟨.bl b,H,I.tok tk,rfl,q⟩
abbrev Cx.block (X : Cx) (scope : Scope) (cl : List (Str × Addr)) (C : Addr) (N : List Str) (own : Str) (fp : List Addr) (s : Shared) (H : Hp) : Cx :=
 { X with env := compEnvC scope cl C X.env,N := N,s₀ := s,H₀ := H,outer := X.stack,stack := X.stack,ex := fp,fn := fun y => y == own,pn := [],xe := fun _ _ => False }
structure ir (X : Cx) (scope : Scope) (cl : List (Str × Addr)) (own : Str) (ys : List Str) (js : List Nat) : Prop where
 clos : closureFor scope X.env = pure cl
 nocell : (scope.names.all fun p => !(p.2 == .cell)) = true
 kind : scope.kind = .function
 loc : (scope.names.all fun p => !(p.2 == .local) || scope.names.lookup p.1 == some .local) = true
 ownL : scope.names.lookup own = some .local
 sub : ∀ p ∈ cl,X.env.cells.lookup p.1 = some p.2
 has : ((relabel scope X.env).names.all fun p => !(p.2 == .cell || p.2 == .free) || (cl.lookup p.1).isSome) = true
 noown : cl.lookup own = none
 nd : (own :: ys).Nodup
 at_ : ∀ (i : Nat) (y : Str),ys[i]? = some y -> ∃ j : Nat,js[i]? = some j /\ X.N[j]? = some y /\ (X.env.scope.names.lookup y = some .cell ∨ X.env.scope.names.lookup y = some .free) /\ ((relabel scope X.env).names.lookup y = some .cell ∨ (relabel scope X.env).names.lookup y = some .free)
 len : js.length = ys.length
def a8 (js : List Nat) (σ : St) : St := js.map fun j => (σ[j]?).getD none
def u8 (js : List Nat) (te : TE) (σ : St) (Q : VK) : It -> Hp -> Prop := fun J H1 => ∀ p,H1 p = none -> ∃ W : Nat -> Nat -> List V -> Hp -> Prop,(∃ m,W 0 m [] (ar H1 p (.lst []))) /\
 ∀ i m ys H2,W i m ys H2 -> H2 p = some (.lst ys) /\ ((J.stop i H2 /\ Q (.ref p) H2) ∨ (J.go i H2 /\ ys.length < sizeLine /\ ∀ x H3,J.yld i H2 x H3 -> te (some x :: a8 js σ) H3 fun y H4 => H4 p = some (.lst ys) /\ ∃ m',m' < m /\ W (i + 1) m' (ys ++ [y]) (ar H4 p (.lst (ys ++ [y])))))
def wW (wi : TI) (js : List Nat) (te : TE) : TE := fun σ H Q => wi σ H (u8 js te σ Q)
theorem lookup_all {α : Type} {f : Str × α -> Bool} {x : Str} {a : α} : ∀ {l : List (Str × α)},l.all f = true -> l.lookup x = some a -> f (x,a) = true := by
 intro l h e
 exact BH.mp h _ (Au e)
section
variable {prog : Program} {w : World} {A : Around} {R : Result -> Shared -> Prop} {s : Shared}
theorem jW {elt target iter : Expr} {scope : Scope} {pos : Pos} {it acc : Value} {env : Env} (I : Nat -> Shared -> Prop)
  (turn : ∀ n s,I n s -> wpAny (model prog w) A (pyNext it) (fun r s1 => match r with
   | none => R (.ok .next) s1
   | some v => wpAny (model prog w) A (letOwnedTupleGo target it v) (fun _ s2 => wpAny (model prog w) A (assign target env v) (fun _ s3 => wpAny (model prog w) A (eval elt env) (fun x s4 =>
     wpAny (model prog w) A (call (.builtin "list.append") [acc,x]) (fun _ s5 => ∃ m,m < n /\ I m s5) (fun _ _ => False) s4) (fun _ _ => False) s3) (fun _ _ => False) s2) (fun _ _ => False) s1) (fun _ _ => False) s)
  (n : Nat) (h : I n s) : codeAny (model prog w) A (.compLoop (.ListComp elt [⟨target,iter,[],0⟩] scope pos) 0 it acc env) R s := by
 apply codeAny_loop rfl I ?_ n h
 intro n s hI
 show wpAny _ _ ((compTurn (.ListComp elt [⟨target,iter,[],0⟩] scope pos) 0 it acc env).onRaise _) _ _ s
 apply wpAny_noted
 rw [compTurn_list1]
 apply wpAny_bind
 apply wpAny_standAt
 apply wpAny_bind
 refine wpAny_mono (turn n s hI) (fun r s1 h1 => ?_) fun _ _ z => z.elim
 cases r with
 | none => exact wpAny_pure h1
 | some v =>
  apply wpAny_bind
  refine wpAny_mono h1 (fun _ s2 h2 => ?_) fun _ _ z => z.elim
  apply wpAny_bind
  refine wpAny_mono h2 (fun _ s3 h3 => ?_) fun _ _ z => z.elim
  apply wpAny_bind
  apply wpAny_bind
  refine wpAny_mono h3 (fun x s4 h4 => ?_) fun _ _ z => z.elim
  apply wpAny_bind
  refine wpAny_mono h4 (fun _ s5 h5 => ?_) fun _ _ z => z.elim
  exact wpAny_pure (wpAny_pure ⟨rfl,h5⟩)
end
section
variable {X : Cx} {scope : Scope} {cl : List (Str × Addr)} {own : Str} {ys : List Str} {js : List Nat} {fp : List Addr} {pins : List (Addr × Obj)} {σ : St} {H : Hp} {s s4 : Shared}
theorem d7 {h1 : Heap} (ok : ir X scope cl own ys js) (I : aq X pins σ H s) (hf : ∀ b ∈ fp,dR X pins H b) (hlt : ∀ b ∈ fp,b < s.heap.objs.size) (hns : h1.Ns s.heap.objs.size (fun _ => none))
  (hk : ∀ b o,s.heap.get? b = some o -> h1.get? b = some o) (tk : Nat) :
  aq (X.block scope cl s.heap.objs.size (own :: ys) own fp s H) [] (none :: a8 js σ) H { s with heap := h1,toks := tk } := by
 have sub : ∀ y c,cl.lookup y = some c -> X.env.cells.lookup y = some c := fun y c e => ok.sub (y,c) (Au e)
 refine ⟨⟨I.ok.mod,ok.kind,I.ok.glob,I.ok.blt,A5 _,fun x y c e1 e2 => I.ok.inj x y c (sub x c e1) (sub y c e2),fun x hx => ?_,fun x c e1 e2 => ?_,I.ok.hd,I.ok.frames,.inl rfl,fun b hb => ⟨AE (hlt b hb),fun x c e => (hf b hb).2.2.2.2.1 x c (sub x c e)⟩,
  I.bs,Ae I.ok.bsz I.sz,fun b o e hb => ?_,fun b hb z => ?_,I.stack,I.stkFree⟩,rfl,I.bare,Un.kept hk,⟨_,hns,fun i y v e1 e2 e3 => ?_⟩,fun y c e => ?_,I.hok.fresh (A5 _),fun y c e => I.freeC y c (sub y c e),fun p hp => absurd (show p ∈ ([] : List (Addr × Obj)) from hp) (by simp),I.hok.kept hk,?_⟩
 ·have hx' : (relabel scope X.env).names.lookup x = some .cell ∨ (relabel scope X.env).names.lookup x = some .free := hx
  rcases hx' with z | z
  ·have q := lookup_all ok.has z
   simp only [beq_self_eq_true,Bool.true_or,Bool.not_true,Bool.false_or] at q
   exact B0.mp q
  ·have q := lookup_all ok.has z
   simp only [beq_self_eq_true,Bool.or_true,Bool.not_true,Bool.false_or] at q
   exact B0.mp q
 ·have e1' : (x == own) = true := e1
  have e : x = own := beq_iff_eq.mp e1'
  have e2' : cl.lookup x = some c := e2
  rw [e,ok.noown] at e2'
  cases e2'
 ·rcases (hf b hb).2.2.2.1 with z | z
  ·exact I.ok.noex b o e z
  ·exact absurd (AU (Heap.lt_size (I.ok.bs b o e).1) z) (Nat.lt_irrefl _)
 ·rcases A3.mp (I.stkSub b z) with q | q
  ·exact (hf b hb).2.1 q
  ·exact (hf b hb).2.2.1 q
 ·cases i with
  | zero => cases e2
  | succ i =>
   have e1' : ys[i]? = some y := e1
   obtain ⟨j,hj,hN,hX,hc⟩ := ok.at_ i y e1'
   have e2' : (a8 js σ)[i]? = some (some v) := e2
   unfold a8 at e2'
   rw [Ac,hj] at e2'
   have hs : σ[j]? = some (some v) := by
    cases q : σ[j]? with
    | none => rw [Bo,q] at e2'; cases e2'
    | some o => rw [Bo,q] at e2'; exact e2'
   obtain ⟨m,hn,hl⟩ := I.loc
   obtain ⟨u,r,l⟩ := hl j y v hN hs (hX.elim (fun z => .inr (.inl z)) fun z => .inr (.inr z))
   refine ⟨u,r,.inr ⟨hc,?_⟩⟩
   rcases l with ⟨k,_⟩ | ⟨k,c,hcl,hcell⟩
   ·have k' : X.env.scope.names.lookup y = some .local := k
    rcases hX with z | z <;> (rw [z] at k'; cases k')
   ·have ex : ∃ c',cl.lookup y = some c' := by
     rcases hc with z | z
     ·have q := lookup_all ok.has z
      simp only [beq_self_eq_true,Bool.true_or,Bool.not_true,Bool.false_or] at q
      exact B0.mp q
     ·have q := lookup_all ok.has z
      simp only [beq_self_eq_true,Bool.or_true,Bool.not_true,Bool.false_or] at q
      exact B0.mp q
    obtain ⟨c',hc'⟩ := ex
    have e := sub y c' hc'
    rw [hcl] at e
    cases e
    obtain ⟨oc,hoc,hd⟩ := hcell
    exact ⟨c,hc',oc,hk _ _ hoc,hd⟩
 ·obtain ⟨v,oc,hoc,hd⟩ := I.cell y c (sub y c e)
  exact ⟨v,oc,hk _ _ hoc,hd⟩
 ·show (none :: a8 js σ).length = (own :: ys).length
  simp [a8,ok.len]
theorem f8 {H' : Hp} {h' : Heap} {σ' : St} (I : aq X pins σ H s) (hf : ∀ b ∈ fp,dR X pins H b) (J : aq (X.block scope cl s.heap.objs.size (own :: ys) own fp s H) [] σ' H' s4) (hs : Heap.SameBut s.heap.objs.size s4.heap h') :
  aq X pins σ H' { s4 with heap := h' } := by
 have low : ∀ b o,s.heap.get? b = some o -> b ≠ s.heap.objs.size := fun b o e => AE (Heap.lt_size e)
 have B := J.base
 have u : Un (gr X.stack) fp H H' s.heap h' := {
  keep := fun b o q n hb hx => (hs.2 b (low b o q)).trans (B.keep b o q n hb hx)
  slot := fun b o q n hb hx => by
   obtain ⟨sl,e⟩ := B.slot b o q n hb hx
   exact ⟨sl,(hs.2 b (low b o q)).trans e⟩
  free := B.free
  there := fun b o q hx => by
   obtain ⟨o',e⟩ := B.there b o q hx
   exact ⟨o',(hs.2 b (low b o q)).trans e⟩
  tups := B.tups
  frzs := B.frzs
  tbls := B.tbls }
 have hn : H' s.heap.objs.size = none := J.free
 have hk : c9 X.prog X.w H' h' := fun a o e => (J.hok a o e).stay (fun b v hb q => (hs.2 b (by
  intro z
  rcases hb with z' | z'
  ·rw [<- z',z,hn] at e; cases e
  ·rw [z,hn] at z'; cases z')).trans q) (fun _ q => q) fun _ _ q => q
 exact I.call' (s' := { s4 with heap := h' }) (ch := fp) J.os u hk J.bare fun b hb => ⟨(hf b hb).2.2.2.1,(hf b hb).2.1,(hf b hb).2.2.2.2.1,(hf b hb).2.2.2.2.2⟩
end
section
variable {X : Cx} {scope : Scope} {cl : List (Str × Addr)} {own : Str} {ys : List Str} {js : List Nat} {elt iter : Expr} {px pos : Pos} {wi : TI} {te : TE}
end
open PySem.Builtin PySem.Builtin.ObjectAttr
structure XA (K : A0) (C S : Addr) : Prop where
 sa : AO K (.ref C) "__setattr__" = some (some (.builtin "object.__setattr__"))
 mro : (PySem.W.clsIn K C).map (·.mro) = some (.ref C :: .ref S :: oR)
 dct : PySem.W.hasDictIn K C = true
 ob : PySem.W.mroIn K C (.type "object") = some true
theorem rP (self : Value) (C S : Addr) : refuseLoop self "__setattr__" (.ref C :: .ref S :: oR) = pure () := by
 rw [refuseLoop_ref,refuseLoop_ref]
 kernel_rfl
section
variable {prog : Program} {w : World} {A : Around} {E : Value -> Shared -> Prop} {s : Shared} {K : A0} {x C S : Addr} {ox : Obj} {od : Option Obj} {name : Str} {v : Value}
open PySem.W in
theorem tQ {R : Result -> Shared -> Prop} {tk : Tok} (X : K.In s.heap) (I : InstAt s.heap x ox C od) (N : XA K C S) (hn : findIn K (.ref C) name = some none)
  (h : wpAny (model prog w) A.in1 (storeInOwnDict (.ref x) (.ref C) (.str name tk) name v false) (fun fin s' => match fin with | .done f => R (.ok f) s' | .again c' => c'.quiet = true /\ codeAny (model prog w) A c' R s') (fun e s' => R (.error e) s') s) :
  codeAny (model prog w) A (.call (.builtin "object.__setattr__") ⟨[.ref x,.str name tk,v],[]⟩) R s := by
 have so := PySem.F.store_object
 obtain ⟨cd,hc,hm⟩ := BG.mp N.mro
 have sub : Looks (model prog w) s.heap (isInstance (.ref x) (.type "object")) true := I.type.andThen (looks_mroIn X N.ob)
 have lm : Looks (model prog w) s.heap (mroOf (.ref C)) cd.mro := (looks_clsIn X hc).andThen .now
 have ck : ∀ {A' : Around} {Q' : Unit -> Shared -> Prop} {E' : Value -> Shared -> Prop},Q' () s -> wpAny (model prog w) A' (checkBuiltinCall "object.__setattr__" ⟨[.ref x,.str name tk,v],[]⟩) Q' E' s := fun {A' Q' E'} q =>
  check_slot (M := model prog w) (A := A') (E := E') (s := s) (i := "object.__setattr__") (owner := "object") (n := "__setattr__") (self := .ref x) (rest := [.str name tk,v]) (kw := []) (Q := Q') so.kind so.split sub (so.args (.ref x) (.str name tk) v) q
 refine codeAny_call_builtin so.slot.plain so.entry (ck ?_)
 rw [osa_eq,refuse_eq]
 refine wpAny_bind (wpAny_bind (I.type.here ?_))
 refine wpAny_bind (lm.here ?_)
 rw [hm,rP]
 refine wpAny_pure (wpAny_bind ?_)
 refine I.type.here (wpAny_bind ?_)
 refine (looks_findIn X hn).here (wpAny_bind (wpAny_pure ?_))
 exact h
open PySem.W in
theorem tR {vs : Array Value} {Q : Unit -> Shared -> Prop} (X : K.In s.heap) (he : s.heap.get? x = some ox) (hc : ox.cls = .ref C) (hdx : ox.dict = none) (hda : ox.data = .fields vs) (N : XA K C S) (hn : findIn K (.ref C) name = some none)
  (h : ∀ h',(∀ b o,b ≠ x -> s.heap.get? b = some o -> h'.get? b = some o) -> h'.get? x = some { ox with dict := some s.heap.objs.size } -> h'.Ns1 s.heap.objs.size (fun y => if y = name then some v else none) ->
   Q () { s with heap := h',toks := s.toks + 2 }) : wpAny (model prog w) A (setAttr (.ref x) name v) Q E s := by
 have I : InstAt s.heap x ox C none := ⟨he,hc,by unfold notCls; rw [hda],by rw [hdx]; trivial⟩
 apply set_plain X I N.sa
 have I2 : InstAt ({ s with toks := s.toks + 1 } : Shared).heap x ox C none := I
 apply tQ (s := { s with toks := s.toks + 1 }) X I2 N hn
 obtain ⟨cd,hcd,hd⟩ := any_some N.dct
 obtain ⟨oc,odi,oda,osl⟩ := ox
 dsimp only at hc hdx hda
 subst hc hdx hda
 refine wpAny_bind (wpAny_pure (wpAny_bind (wpAny_bind (wpAny_loadPart he ?_))))
 refine wpAny_bind (Looks.here (s := { s with toks := s.toks + 1 }) (looks_clsIn X hcd) ?_)
 rw [hd]
 show wpAny _ _ (alloc { cls := .type "dict",data := .dict #[] } >>= fun d => update x (fun o => { o with dict := some d }) >>= fun _ => dictMade (.ref C) x d) _ _ _
 refine wpAny_bind (wpAny_alloc ?_)
 have lt := Heap.lt_size he
 have hne : x ≠ s.heap.objs.size := AE lt
 have he1 := Heap.get?_push_of_some (h := s.heap) { cls := .type "dict",data := .dict #[] } he
 have e1 : (s.heap.push AX).get? s.heap.objs.size = some AX := Heap.get?_push_size s.heap rfl
 have e2 : (s.heap.push AX).Ns s.heap.objs.size (fun _ => none) := ⟨AX,#[],_,e1,rfl,(fun e he => absurd he (by simp)),fun _ => rfl⟩
 refine wpAny_bind (wpAny_update he1 ?_)
 refine wpAny_pure ?_
 have up : ∀ b,b ≠ x -> ((s.heap.push AX).update x (fun o => { o with dict := some s.heap.objs.size })).get? b = (s.heap.push AX).get? b := fun b hb => Heap.get?_update_other _ _ (Ne.symm hb)
 have e3 : ((s.heap.push AX).update x (fun o => { o with dict := some s.heap.objs.size })).Ns1 s.heap.objs.size (fun _ => none) := (Heap.Ns1.of_empty e2).at fun o q => (up _ (Ne.symm hne)).trans q
 have e4 : ((s.heap.push AX).update x (fun o => { o with dict := some s.heap.objs.size })).get? x = some ⟨.ref C,some s.heap.objs.size,.fields vs,osl⟩ := Heap.get?_update_self _ he1 rfl
 refine wpAny_bind (wpAny_pure (wpAny_bind ?_))
 refine wpAny_nsSet1 (s := ⟨(s.heap.push AX).update x (fun o => { o with dict := some s.heap.objs.size }),s.gens,s.drawn,s.toks + 1,s.os⟩) e3 fun h' hn2 hs2 => ?_
 obtain ⟨oD,esD,epD,hoD,hdD,hcD⟩ := hn2.count (ns := [name]) (PySem.Within.cons (ns := []) name v (fun y hy => absurd rfl hy))
 refine wpAny_bind (wpAny_lookBehind hoD (by rw [hdD]; exact pastItsLine_dict (Ae hcD (by show 1 <= sizeLine + 1; decide))) ?_)
 refine wpAny_pure (h h' (fun b o hb q => ?_) ((hs2.2 x hne).trans e4) hn2)
 have hbd : b ≠ s.heap.objs.size := AE (Heap.lt_size q)
 exact (hs2.2 b hbd).trans ((up b hb).trans (Heap.get?_push_of_some _ q))
end
def wX (K : A0) (ta tv : TE) (f : Str) : TS := fun D σ H => tv σ H fun y H1 => ta σ H1 fun x H2 => ∃ a C S n,x = .ref a /\ H2 a = some (b7 n a (.ref C) none) /\ XA K C S /\ AO K (.ref C) f = some none /\
 ∀ d,H2 d = none -> D.nx σ (ar (ar H2 d (.xd [(f,y)])) a (b7 n a (.ref C) (some d)))
section
variable {X : Cx} {o value : Expr} {f : Str} {pos pos' : Pos} {ta tv : TE}
theorem tT {pins : List (Addr × Obj)} {σ : St} {H : Hp} {s : Shared} {a C S : Addr} {y : V} {u : Value} {n : Bool} {A : Around} {E : Value -> Shared -> Prop} {Q : Unit -> Shared -> Prop} (I : aq X pins σ H s) (e : H a = some (b7 n a (.ref C) none)) (N : XA X.K C S)
  (hn : AO X.K (.ref C) f = some none) (ry : RelV y u) (h : ∀ d s',H d = none -> aq X pins σ (ar (ar H d (.xd [(f,y)])) a (b7 n a (.ref C) (some d))) s' -> Q () s') :
  wpAny (model X.prog X.w) A (setAttr (.ref a) f u) Q E s := by
 obtain ⟨⟨ox,vs,h1,h2,h3,h4,h6,h5⟩,_⟩ := (show aX X.prog X.w H s.heap a (b7 n a (.ref C) none) from I.hok a _ e)
 refine tR I.kIn h1 h2 h3 h4 N hn fun h' kp ha hd => ?_
 have nd : H s.heap.objs.size = none := I.hok.fresh (A5 _)
 have ad : a ≠ s.heap.objs.size := aR e nd
 refine h s.heap.objs.size _ nd ?_
 have ne : ∀ b o,H b = some o -> b ≠ s.heap.objs.size := fun b o q => aR q nd
 have nea : ∀ b,H b = none -> b ≠ a := fun b q z => by rw [z,e] at q; cases q
 refine I.un (t' := s.toks + 2) (h' := h') ⟨?_,?_,?_,?_,?_,?_,?_⟩ ?_
 ·intro b o q n hb _
  exact kp b o (nea b n) q
 ·intro b o q n hb _
  exact ⟨o.slots,kp b o (nea b n) q⟩
 ·intro b o q n _
  rw [af (nea b n),af (AE (Heap.lt_size q))]
  exact n
 ·intro b o q _
  by_cases hb : b = a
  ·subst hb
   exact ⟨_,ha⟩
  ·exact ⟨o,kp b o hb q⟩
 ·intro b xs q
  have hb : b ≠ a := gq q e (by intro z; cases z)
  rw [af hb,af (ne b _ q)]
  exact q
 ·intro b o' u' q
  have hb : b ≠ a := gq q e (by intro z; cases z)
  rw [af hb,af (ne b _ q)]
  exact q
 ·intro b ps q
  have hb : b ≠ a := gq q e (by intro z; cases z)
  exact ⟨#[],by rw [af hb,af (ne b _ q),q]; simp⟩
 ·intro b ob q
  by_cases hb : b = a
  ·subst hb
   rw [ae] at q
   cases q
   exact jU ha h2 rfl h4 h6 h5
  ·rw [af hb] at q
   by_cases hbd : b = s.heap.objs.size
   ·subst hbd
    rw [ae] at q
    cases q
    refine ⟨_,hd,fun g => ?_⟩
    show cV (BW g [(f,y)]) (if g = f then some u else none)
    by_cases hg : g = f
    ·subst hg
     rw [if_pos rfl]
     simp only [BW,beq_self_eq_true]
     exact ry
    ·rw [if_neg hg]
     have : (g == f) = false := beq_eq_false_iff_ne.mpr hg
     simp only [BW,this]
     trivial
   ·rw [af hbd] at q
    refine (I.hok b ob q).stay (fun c v hc z => kp c v (fun y => ?_) z) (fun c z => ?_) fun c xs z => ?_
    ·rcases hc with z' | z'
     ·exact hb (z'.symm.trans y)
     ·rw [y,e] at z'; cases z'
    ·have hc : c ≠ a := gq z e (by intro z; cases z)
     rw [af hc,af (ne c _ z)]
     exact z
    ·have hc : c ≠ a := gq z e (by intro z; cases z)
     rw [af hc,af (ne c _ z)]
     exact z
end
section
variable {X : Cx} {o e value : Expr} {f : Str} {pos pos' : Pos} {ta tv : TE}
theorem tU {K : A0} (hK : X.K = K) (ha : PE X o ta) (hv : PE X value tv) (hs : swapsWith value (some (.Attribute o f pos')) pos.line X.env = pure false) : PS X (.Assign [.Attribute o f pos'] value pos) (wX K ta tv f) := by
 subst hK
 intro pins s σ H D I h
 refine plainObj_wpAny_Assign_Attribute (aZ (hv pins s σ H _ I h) fun u s1 ⟨y,H1,I1,ry,q⟩ => aZ (ha pins s1 σ H1 _ I1 q) fun ov s2 ⟨x,H2,I2,rx,a,C,S,nb,ex,ea,n,hn,q2⟩ => ?_) hs
 subst ex
 obtain rfl : ov = Value.ref a := rx
 exact tT I2 ea n hn ry fun d s3 nd I3 => ⟨σ,_,I3,q2 d nd⟩
end
theorem tV {K : A0} {h : Heap} {N : Addr} {mg : Str -> Option Value} {n : Str} {v : Value} (X : K.In h) (G : h.Ns N mg) (e : A7 K N n = some (some v)) : mg n = some v := by
 obtain ⟨o,es,ep,ho,hd,_,hf⟩ := G
 unfold A7 at e
 split at e
 ·rename_i q
  have z := X _ _ q
  rw [ho] at z
  cases z
  cases hd
  split at e
  ·rename_i he
   cases e
   rw [<- hf]
   unfold nsFind findBy
   rw [<- Array.find?_toList,he]
   rfl
  ·split at e <;> cases e
 ·cases e
structure yq (K : A0) (C f : Addr) : Prop where
 ex : ∃ bm N nm q bs hdct sn sub ab col dd k0 k1 k2 k3 k5,K.lookup C = some (excClassObj nm q C N bs bm hdct sn sub ab col dd k0 k1 k2 k3 k5 "ValueError.__new__") /\ PySem.W.nsOkIn K N = true /\ A7 K N "__init__" = some (some (.ref f)) /\ PySem.W.tailIn K oR bm = true
 fn : PySem.W.typeIn K (.ref f) = some (.type "function")
 kp : Ax K (.ref C) = true
section
variable {prog : Program} {w : World} {A : Around} {E : Value -> Shared -> Prop} {h : Heap} {g : Array GenState} {d : Drawn} {t : Nat} {os : OsState}
variable {nm q : Str} {C N : Addr} {bs bm : List Value} {hdct : Bool} {sn : List Str} {sub : List Value} {ab : Bool} {col : Option Bool} {dd : Option Addr} {k0 k1 k2 k3 k5 : Option Value}
theorem iu {mN : Str -> Option Value} {rest : List Value} {fI : Addr} {oI : Obj} {Q : Fin -> Shared -> Prop} (tl : OwnTail h oR bm)
  (cl : h.get? C = some (excClassObj nm q C N bs bm hdct sn sub ab col dd k0 k1 k2 k3 k5 "ValueError.__new__")) (nn : h.Ns N mN) (ni : mN "__init__" = some (.ref fI)) (gI : h.get? fI = some oI) (cI : oI.cls = .type "function")
  (kq : ∀ h' e,Heap.MadeExcOf h h' e (.ref C) rest -> wpAny (model prog w) A (call (.ref fI) (.ref e :: rest)) (fun r s' => r = .none /\ Q (.done (.ret (.ref e))) s') E ⟨h',g,d,t,os⟩) (lr : rest.length <= sizeLine) :
  wpAny (model prog w) A (Builtin.«type.__call__» ⟨.ref C :: rest,[]⟩) Q E ⟨h,g,d,t,os⟩ := by
 have FV := PySem.F.excBase_ValueError
 repeat (first | with_reducible refine wpAny_loadPart_at cl ?_ | with_reducible refine wpAny_madeBy_exc cl ?_ | wp_step)
 refine codeAny_call_builtin_code (Code.quiet_builtin _ FV.quiet) (wpAny_check_new_subT FV tl cl ?_)
 refine codeAny_exc_new_subT FV tl cl ?_ lr
 show wpAny _ _ _ _ _ _
 generalize hp : (h.push { cls := .type "tuple",data := .seq rest.toArray }).push { cls := .ref C,data := .fields #[.ref h.objs.size,.none,.none,.none,.bool false,.none] } = h2
 have kp : ∀ b o,h.get? b = some o -> h2.get? b = some o := fun b o z => by rw [<- hp]; exact Heap.get?_push_of_some _ (Heap.get?_push_of_some _ z)
 have ge : h2.get? (h.objs.size + 1) = some { cls := .ref C,data := .fields #[.ref h.objs.size,.none,.none,.none,.bool false,.none] } := by rw [<- hp]; heap_get
 have gt : h2.get? h.objs.size = some { cls := .type "tuple",data := .seq rest.toArray } := by rw [<- hp]; exact Heap.get?_push_of_some _ (Heap.get?_push_at rfl rfl)
 have cl2 := kp _ _ cl
 have nn2 : h2.Ns N mN := nn.keeps kp
 have self : (Value.ref C :: bm).contains (.ref C) = true := by simp
 unfold isInstance
 repeat (first | with_reducible refine wpAny_loadPart_at ge ?_ | (with_reducible refine wpAny_isSubtype_exc cl2 ?_; rw [self]) | wp_step)
 show wpAny _ _ (typeLookup (.ref C) _) _ _ _
 refine wpAny_typeLookup_tail cl2 nn2 (tl.keeps kp) FV.mroIs FV.init.lookup ?_
 rw [ni]
 refine wpAny_holding (wpAny_bind ?_)
 unfold bindSpecial
 refine wpAny_bind (wpAny_typeOf (T := "function") ⟨_,kp _ _ gI,cI⟩ ?_)
 rw [if_pos (by decide)]
 refine wpAny_pure (wpAny_bind ?_)
 refine wpAny_mono (kq h2 (h.objs.size + 1) ⟨kp,Heap.get?_none_of_le (Nat.le_succ _),h.objs.size,ge,Heap.get?_none_of_le (A5 _),gt⟩) (fun r s' hr => ?_) fun _ _ z => z
 obtain ⟨rfl,z⟩ := hr
 wp_walk
 exact z
theorem qa {mN : Str -> Option Value} {rest : List Value} {fI : Addr} {oI : Obj} {Q : Value -> Shared -> Prop} (tl : OwnTail h oR bm)
  (cl : h.get? C = some (excClassObj nm q C N bs bm hdct sn sub ab col dd k0 k1 k2 k3 k5 "ValueError.__new__")) (nn : h.Ns N mN) (ni : mN "__init__" = some (.ref fI)) (gI : h.get? fI = some oI) (cI : oI.cls = .type "function")
  (kq : ∀ h' e,Heap.MadeExcOf h h' e (.ref C) rest -> wpAny (model prog w) (A.under (.builtin "type.__call__" ⟨.ref C :: rest,[]⟩)) (call (.ref fI) (.ref e :: rest)) (fun r s' => r = .none /\ Q (.ref e) s') E ⟨h',g,d,t,os⟩) (lr : rest.length <= sizeLine) :
  wpAny (model prog w) A (call (.ref C) rest) Q E ⟨h,g,d,t,os⟩ := by
 have a1 := tc_lookup
 have a2 := tc_bind (.ref C)
 have ty : (⟨h,g,d,t,os⟩ : Shared).TypeIs (.ref C) "type" := ⟨_,cl,rfl⟩
 refine wpAny_call (codeAny_of_tree ?_)
 show wpAny _ _ (callAny (.ref C) _) _ _ _
 repeat (any_goals (first | assumption | with_reducible refine wpAny_loadPart_at cl ?_ | wp_step))
 refine ⟨rfl,?_⟩
 refine codeAny_call_builtin_at (Code.quiet_builtin _ (by decide +kernel)) entry_typeCall (wpAny_check_type_call_sub cl ?_)
 exact iu tl cl nn ni gI cI (fun h' e mk => kq h' e mk) lr
end
section
variable {X : Cx} {x : Str} {p pos : Pos} {e : Expr} {es : List Expr} {C fI : Addr} {t : TA} {k : Nat} {fd : FuncData} {ps : List Str} {sp : Sp}
theorem rQ {pins : List (Addr × Obj)} {σ : St} {H : Hp} {s : Shared} {Q : Value -> Shared -> Prop} {us : List Value} {vs : List V} {E : Value -> Shared -> Prop} {R : Addr -> Hp -> Prop} (M : yq X.K C fI) (F : bh X.prog X.w X.K X.mg X.base bw k fI fd ps sp) (hr : bx (k + 1) X.A) (hb : Binds X.K fd ps [])
  (I : aq X pins σ H s) (r : aM vs us) (lr : vs.length <= sizeLine) (h : ∀ a,H a = none -> sp (.ref a :: vs) (ar H a (b7 true a (.ref C) none)) (fun v H2 => v = .non /\ R a H2) E0)
  (hq : ∀ a h' H2 s2,Heap.MadeExcOf s.heap h' a (.ref C) us -> s2.os = s.os -> AllBare s2.gens -> Un (gr X.stack) [] H H2 s.heap s2.heap -> c9 X.prog X.w H2 s2.heap -> R a H2 -> Q (.ref a) s2) :
  wpAny (model X.prog X.w) X.A (call (.ref C) us) Q E s := by
 obtain ⟨bm,N,nm,qn,bs,hdct,sn,sub,ab,col,dd,k0,k1,k2,k3,k5,lk,ok,ini,tl⟩ := M.ex
 have KX := I.kIn
 have lr' : us.length <= sizeLine := by rw [<- r.length]; exact lr
 have fn := M.fn
 unfold PySem.W.typeIn at fn
 obtain ⟨oI,gI,cI⟩ := BG.mp fn
 have nn : s.heap.Ns N (s.heap.nsMap N) := .of_isNs (PySem.W.isNs_of_in KX ok)
 have key := fun h' a (mk : Heap.MadeExcOf s.heap h' a (.ref C) us) => (oS I mk).caughtN I
 have un := fun h' a (mk : Heap.MadeExcOf s.heap h' a (.ref C) us) => im (o := b7 true a (.ref C) none) (Un.kept (fs := gr X.stack) (ex := []) (H := H) mk.keeps) mk.new (I.hok.none_of mk.new)
 obtain ⟨hh,g,d,tk,os⟩ := s
 refine qa (PySem.W.tail_of_in KX tl) (KX _ _ lk) nn (tV KX nn ini) (KX _ _ gI) cI (fun h' a mk => ?_) lr'
 have I2 := key h' a mk
 have na : H a = none := I.hok.none_of mk.new
 have hs := h a na
 have r2 : aM (V.ref a :: vs) (Value.ref a :: us) := .cons rfl r
 have hl : (Value.ref a :: us ++ []).length = ps.length := by
  rw [Bs,<- r2.length]
  exact F.len _ _ _ _ hs
 have hb' := hb ⟨h',g,d,tk,os⟩ (Value.ref a :: us) I2.kIn hl
 rw [Bs] at hb'
 refine wpAny_call (codeAny_mono (F.run _ X.stack _ _ ⟨Value.ref a :: us,[]⟩ (Value.ref a :: us) _ _ E0 (hr.make C us []) (I2.env0.make C us []) hb' r2 hs) fun rr s' hq' => ?_)
 cases rr with
 | error z => exact hq'.elim
 | ok fl =>
  cases fl with
  | ret u =>
   obtain ⟨v,H2,os',bare,un2,hok,rv,ev,q2⟩ := hq'
   subst ev
   exact ⟨rv,hq a h' H2 s' mk os' bare ((un h' a mk).trans un2) hok q2⟩
  | next => exact False.elim hq'
  | brk => exact False.elim hq'
  | cont => exact False.elim hq'
end
section
variable {M : Model} {A : Around} {E : Value -> Shared -> Prop} {env : Env}
variable {nm q : Str} {C N : Addr} {bs bm : List Value} {hdct : Bool} {sn : List Str} {sub : List Value} {ab : Bool} {col : Option Bool} {dd : Option Addr} {k0 k1 k2 k3 k5 : Option Value} {nw : String}
theorem qb {s : Shared} {x : Sem Value} {Q : Flow -> Shared -> Prop} (hb : bm.contains (.type "BaseException") = true) (hh : A.handled = none)
  (h : wpAny M A x (fun v s1 => ∃ e dx ws sl,v = .ref e /\ s1.heap.get? C = some (excClassObj nm q C N bs bm hdct sn sub ab col dd k0 k1 k2 k3 k5 nw) /\ s1.heap.get? e = some ⟨.ref C,dx,.fields ws,sl⟩ /\ ws[1]? = some .none /\ E (.ref e) s1) E s) :
  wpAny M A (raiseStmt env (some x) none) Q E s := by
 have cb : (Value.ref C :: bm).contains (.type "BaseException") = true := by rw [List.contains_cons,hb,Bool.or_true]
 unfold raiseStmt
 apply wpAny_bind
 refine wpAny_mono h (fun v s1 h1 => ?_) fun _ _ z => z
 obtain ⟨e,dx,ws,sl,rfl,cl,ge,n1,he⟩ := h1
 obtain ⟨hp,g,d,tk,os⟩ := s1
 repeat (first | with_reducible refine wpAny_loadPart_at ge ?_ | with_reducible refine wpAny_loadPart_at cl ?_ | (with_reducible refine wpAny_isSubtype_exc cl ?_; rw [cb]) | wp_step)
 rw [n1]
 refine wpAny_pure ?_
 rw [if_neg (by decide)]
 exact wpAny_pure (wpAny_raiseNew_none hh he)
end
def del (H : Hp) (a : Addr) : Hp := fun b => if b = a then none else H b
theorem dD {H : Hp} {a b : Addr} (h : b ≠ a) : del H a b = H b := if_neg h
theorem iy {H : Hp} {a : Addr} : del H a a = none := if_pos rfl
theorem vQ {fs : List Addr} {H H2 : Hp} {h0 h : Heap} {a : Addr} (u : Un fs [] H H2 h0 h) (na : H a = none) : Un fs [] H (del H2 a) h0 h where
 keep := u.keep
 slot := u.slot
 free := fun b o q n hx => by
  by_cases hb : b = a
  ·rw [hb,iy]
  ·rw [dD hb]; exact u.free b o q n hx
 there := u.there
 tups := fun b xs e => by rw [dD (aR e na)]; exact u.tups b xs e
 frzs := fun b o w e => by rw [dD (aR e na)]; exact u.frzs b o w e
 tbls := fun b ps e => by rw [dD (aR e na)]; exact u.tbls b ps e
theorem tW {P : Program} {w : World} {H : Hp} {h : Heap} {a : Addr} {φ : Heap -> Prop} (k : c9 P w H h) (e : H a = some (.ext φ)) : c9 P w (del H a) h := fun b o q => by
 by_cases hb : b = a
 ·rw [hb,iy] at q; cases q
 ·rw [dD hb] at q
  refine (k b o q).stay (fun c v _ z => z) (fun c z => ?_) fun c xs z => ?_
  ·rw [dD (gq z e (by intro y; cases y))]; exact z
  ·rw [dD (gq z e (by intro y; cases y))]; exact z
def oV (C : Addr) (sp : Sp) (E : St -> XK) (t : TA) : TS := fun _ σ H => t σ H fun vs H1 => vs.length <= sizeLine /\ ∀ a,H1 a = none -> sp (.ref a :: vs) (ar H1 a (b7 true a (.ref C) none)) (fun v H2 => v = .non /\ ∃ d,H2 a = some (b7 true a (.ref C) (some d)) /\ E σ (.ref C) (some d) (del H2 a)) E0
section
variable {X : Cx} {x : Str} {np cpos pos : Pos} {e₀ : Expr} {rest : List Expr} {C fI : Addr} {t : TA} {k : Nat} {fd : FuncData} {ps : List Str} {sp : Sp} {E : St -> XK}
theorem qc (M : yq X.K C fI) (F : bh X.prog X.w X.K X.mg X.base bw k fI fd ps sp) (hr : bx (k + 1) X.A) (hg : Gl X x) (hm : X.mg x = some (.ref C)) (hb : Binds X.K fd ps []) (hc : X.calm = true) (hp : dZ X E) (ha : PA X (e₀ :: rest) t) (hd : (x == ("__debug__" : Str)) = false := by decide)
  (he : starEach (e₀ :: rest) X.env = (false,eval e₀ X.env) :: starEach rest X.env := by rfl) (hpl : (backTo cpos (starEach rest X.env)).any (·.1) = false := by rfl) :
  PS X (.Raise (some (.Call (.Name x np) (e₀ :: rest) [] cpos)) none pos) (oV C sp E t) := by
 intro pins s σ H D I h
 obtain ⟨bm,N,nm,qn,bs,hdct,sn,sub,ab,col,dd,k0,k1,k2,k3,k5,lk,ok,ini,tl⟩ := M.ex
 have bb : bm.contains (.type "BaseException") = true := (PySem.W.tail_of_in I.kIn tl).hasType PySem.F.excBase_ValueError.hasBase
 have body : wpAny (model X.prog X.w) X.A (eval (.Call (.Name x np) (e₀ :: rest) [] cpos) X.env) (fun v s1 => ∃ e dx ws sl,v = .ref e /\ s1.heap.get? C = some (excClassObj nm qn C N bs bm hdct sn sub ab col dd k0 k1 k2 k3 k5 "ValueError.__new__") /\ s1.heap.get? e = some ⟨.ref C,dx,.fields ws,sl⟩ /\ ws[1]? = some .none /\ X.xe (.ref e) s1) X.xe s := by
  refine wpAny_Call_Name_kw (cB I hg hm ?_ hd)
  refine BV (h₀ := X.base) I.ok.mod.kin M.kp (aZ (ha cpos pins s σ H _ I h) fun us s1 ⟨vs,H1,I1,r,lr,q⟩ => ⟨I1.kIn,?_⟩) he hpl
  refine rQ M F hr hb I1 r lr q fun a h' H2 s2 mk os bare un hok q2 => ?_
  obtain ⟨d,ed,hE⟩ := q2
  have I2 := I1.call' os un hok bare (fun b z => absurd z (by simp))
  obtain ⟨⟨ox,ws,g1,g2,g3,g4,g6,g5⟩,_⟩ := (show aX X.prog X.w H2 s2.heap a (b7 true a (.ref C) (some d)) from hok a _ ed)
  have na := I1.hok.none_of mk.new
  obtain ⟨oc,odx,oda,osl⟩ := ox
  dsimp only at g2 g3 g4
  subst g2 g3 g4
  refine ⟨a,some d,ws,osl,rfl,I2.kIn _ _ lk,g1,(g5 rfl).2,hp pins σ H1 s1 _ _ I1 ⟨a,del H2 a,.ref C,some d,.new,rfl,⟨os,bare,vQ un na,tW hok ed,⟨⟨_,ws,g1,rfl,rfl,rfl,⟨(g5 rfl).1,g6⟩,(g5 rfl).2⟩,mk.new,iy⟩⟩,hE⟩⟩
 rw [arm_exec_Raise]
 apply wpAny_bind
 apply wpAny_standAt
 refine qb (C := C) (nm := nm) (q := qn) (N := N) (bs := bs) (bm := bm) (hdct := hdct) (sn := sn) (sub := sub) (ab := ab) (col := col) (dd := dd) (k0 := k0) (k1 := k1) (k2 := k2) (k3 := k3) (k5 := k5) (nw := "ValueError.__new__") bb (I.ok.hd hc) ?_
 apply wpAny_bind
 refine wpAny_mono body (fun v s1 h1 => ?_) fun _ _ z => z
 apply wpAny_bind
 apply wpAny_standAt
 exact wpAny_pure h1
end
theorem i5 : entryFor table "proto.unchain" = some Builtin.«proto.unchain» := entryFor_of_fast (by kernel_rfl)
def nv (hd : Option Value) (H : Hp) : Prop := ∀ v,hd = some v -> ∃ a n cls dx,v = .ref a /\ H a = some (b7 n a cls dx)
theorem nv.no {H : Hp} : nv none H := fun _ z => nomatch z
section
variable {prog : Program} {w : World} {A : Around} {E : Value -> Shared -> Prop} {s : Shared}
theorem nA {it hx : Addr} {ox : Obj} {vs : Array Value} {x left step : Int} {Q : Option Value -> Shared -> Prop} (hh : A.handled = some (.ref hx)) (ho : s.heap.get? hx = some ox) (hd : ox.data = .fields vs) (h2 : vs[2]? = some .none)
  (hit : IsRangeIter s.heap it x left step) (hleft : left <= 0) (hQ : ∀ h',Heap.ExtBut it s.heap h' -> Q none { s with heap := h' }) : wpAny (model prog w) A (pyNext (.ref it)) Q E s := by
 have hT : s.TypeIs (.ref it) "range_iterator" := ⟨_,hit,rfl⟩
 unfold pyNext
 refine wpAny_bind (wpAny_attempt (wpAny_callSpecial?_slot (name := Str.ofString "__next__") hT F.slot_range_iterator_next
  (wpAny_call_entry F.slot_range_iterator_next hT F.entry_range_iterator_next ?_ (F.args_range_iterator_next_1 _))))
 show wpAny _ _ (field (.ref it) 0 >>= _) _ _ s
 refine wpAny_bind (wpAny_field hit rfl (x := rawInt x) rfl ?_)
 show wpAny _ _ (field (.ref it) 1 >>= _) _ _ s
 refine wpAny_bind (wpAny_field hit rfl (x := rawInt left) rfl ?_)
 show wpAny _ _ (field (.ref it) 2 >>= _) _ _ s
 refine wpAny_bind (wpAny_field hit rfl (x := rawInt step) rfl ?_)
 show wpAny _ _ (if left <= 0 then _ else _) _ _ s
 rw [if_pos hleft]
 refine wpAny_bind (wpAny_rule ?_)
 refine wpAny_bind ?_
 show wpAny _ _ (newExc (.type "StopIteration") [] >>= _) _ _ _
 refine wpAny_bind ?_
 simp only [newExc,newTuple]
 refine wpAny_bind (wpAny_newObj_type ?_ (by size_fits))
 refine wpAny_bind (m := firstArgMember _ _) (wpAny_of_eq (a := Value.none) (by first | rfl | (simp only [firstArgMember]; rfl)) ?_)
 refine wpAny_newObj_type ?_ (by size_fits)
 simp only [raiseNew]
 refine wpAny_bind (wpAny_handled ?_)
 rw [show A.in1.handled = some (.ref hx) from hh]
 have g0 : s.heap.get? (s.heap.push { cls := .type "tuple",dict := none,data := .seq ([] : List Value).toArray }).objs.size = none := Heap.get?_none_of_le (by rw [Heap.size_push]; omega)
 have ne : hx ≠ (s.heap.push { cls := .type "tuple",dict := none,data := .seq ([] : List Value).toArray }).objs.size := fun z => by
  rw [z,g0] at ho
  cases ho
 dsimp only
 rw [if_pos (bne_iff_ne.mpr fun z => ne (Value.ref.inj z))]
 refine wpAny_bind (wpAny_holding (wpAny_runValue (codeAny_builtin i5 ?_)))
 show wpAny _ _ (field (.ref hx) 2 >>= _) _ _ _
 refine wpAny_bind (wpAny_field (Heap.get?_push_of_some _ (Heap.get?_push_of_some _ ho)) hd h2 ?_)
 rw [if_pos (by rfl)]
 refine wpAny_bind (wpAny_pure (wpAny_pure ?_))
 refine wpAny_bind (m := updateField _ 2 _) (wpAny_setField (Heap.get?_push_size _ rfl) rfl (by show 2 < 6; decide) ?_)
 refine wpAny_throw ?_
 refine wpAny_bind (wpAny_isInstance (T := "StopIteration") (b := true) ⟨_,Heap.get?_update_self _ (Heap.get?_push_size _ rfl) rfl,rfl⟩ isSubtype_stop ?_)
 refine wpAny_pure (hQ _ fun b o hb e => ?_)
 rw [Heap.get?_update_other _ _ (by
  intro z
  rw [z] at g0
  rw [g0] at e
  cases e)]
 exact Heap.get?_push_of_some _ (Heap.get?_push_of_some _ e)
end
structure u9 (hd : Option Value) (P : Program) (w : World) (K : A0) (tg : Expr) (J : It) (fp : List Addr) (it : Addr) (tn : Nat -> Heap -> Prop) : Prop where
 mem : it ∈ fp
 obj : ∀ i h,tn i h -> ∀ b ∈ fp,∃ o,h.get? b = some o /\ ∀ v,o.data ≠ .cell v
 keep : ∀ i h h',tn i h -> (∀ b ∈ fp,∀ o,h.get? b = some o -> h'.get? b = some o) -> tn i h'
 item : ∀ (X : Cx),X.prog = P -> X.w = w -> X.K = K -> X.A.handled = hd -> ∀ (i : Nat) (pins : List (Addr × Obj)) (s : Shared) (σ : St) (H : Hp) (E : Value -> Shared -> Prop),aq X pins σ H s -> (∀ b ∈ fp,dR X pins H b) -> tn i s.heap -> J.go i H ->
  wpAny (model P w) X.A (pyNext (.ref it)) (fun r s1 => ∃ u,r = some u /\
   wpAny (model P w) X.A (letOwnedTupleGo tg (.ref it) u) (fun _ s2 => ∃ x H',aq X pins σ H' s2 /\ RelV x u /\ J.yld i H x H' /\ tn (i + 1) s2.heap /\ ∀ b ∈ fp,H' b = none) E s1) E s
 done : ∀ (X : Cx),X.prog = P -> X.w = w -> X.K = K -> X.A.handled = hd -> ∀ (i : Nat) (pins : List (Addr × Obj)) (s : Shared) (σ : St) (H : Hp) (E : Value -> Shared -> Prop),aq X pins σ H s -> (∀ b ∈ fp,dR X pins H b) -> tn i s.heap -> J.stop i H ->
  wpAny (model P w) X.A (pyNext (.ref it)) (fun r s1 => r = none /\ aq X pins σ H s1) E s
 self : ∀ (A : Around) (i : Nat) (s : Shared) (Q : Value -> Shared -> Prop) (E : Value -> Shared -> Prop),tn i s.heap -> Q (.ref it) s -> wpAny (model P w) A (pyIter (.ref it)) Q E s
def wY (hd : Option Value) (X : Cx) (pins : List (Addr × Obj)) (σ : St) (tg : Expr) (R : It -> Hp -> Prop) (itv : Value) (s2 : Shared) : Prop :=
 ∃ (it : Addr) (fp : List Addr) (tn : Nat -> Heap -> Prop) (J : It) (H' : Hp),itv = .ref it /\ aq X pins σ H' s2 /\ u9 hd X.prog X.w X.K tg J fp it tn /\ tn 0 s2.heap /\ (∀ b ∈ fp,dR X pins H' b) /\ R J H'
def zQ (hd : Option Value) (X : Cx) (tg iter : Expr) (wi : TI) : Prop :=
 ∀ (pins : List (Addr × Obj)) (s : Shared) (σ : St) (H : Hp) (R : It -> Hp -> Prop),aq X pins σ H s -> wi σ H R ->
  wpAny (model X.prog X.w) X.A (eval iter X.env) (fun v s1 => wpAny (model X.prog X.w) X.A (pyIter v) (wY hd X pins σ tg R) X.xe s1) X.xe s
def tX (hd : Option Value) (lo : Int) (n : Nat) : It := ⟨fun i _ => i < n,fun i H x H' => H' = H /\ x = .int (lo + i),fun i H => n <= i /\ nv hd H⟩
theorem lL {hd : Option Value} {P : Program} {w : World} {K : A0} {tg : Expr} (it : Addr) (lo : Int) (n : Nat) : u9 hd P w K tg (tX hd lo n) [it] it (fun i h => IsRangeIter h it (lo + (i : Nat) * 1) ((n : Int) - (i : Nat)) 1) where
 mem := by simp
 obj := fun i h st b hb => by
  have e : b = it := by simpa using hb
  subst e
  exact ⟨_,st,fun v z => by
   have z' : Data.fields _ = Data.cell v := z
   cases z'⟩
 keep := fun i h h' st k => k it (by simp) _ st
 item := by
  intro X hP hw hK hA i pins s σ H E I hf st hg
  subst hP hw hK
  obtain ⟨f0,f1,f2,f3,f4,f5⟩ := hf it (by simp)
  have hg' : i < n := hg
  refine wpAny_pyNext_range_item st (by omega) fun h' st' sb => ?_
  have I1 : aq X pins σ H { s with heap := h',toks := s.toks + 1 } := I.turned (fun b o hb e => (sb.2 b hb).trans e) f0 f1 f3 f4 f5
  have st2 : IsRangeIter h' it (lo + ((i + 1 : Nat) : Int) * 1) ((n : Int) - ((i + 1 : Nat) : Int)) 1 := by
   have e1 : lo + ((i + 1 : Nat) : Int) * 1 = lo + (i : Int) * 1 + 1 := by push_cast; omega
   have e2 : (n : Int) - ((i + 1 : Nat) : Int) = (n : Int) - (i : Int) - 1 := by push_cast; omega
   rw [e1,e2]
   exact st'
  refine ⟨_,rfl,kW (s := { s with heap := h',toks := s.toks + 1 }) (n := "range_iterator") st2 rfl rfl (by decide) ⟨.int (lo + i),H,I1,⟨s.toks,?_⟩,⟨rfl,rfl⟩,st2,fun b hb => (hf b hb).1⟩⟩
  rw [Int.mul_one]
 done := by
  intro X hP hw hK hA i pins s σ H E I hf st hg
  subst hP hw hK
  obtain ⟨f0,f1,f2,f3,f4,f5⟩ := hf it (by simp)
  obtain ⟨hl,hk⟩ := hg
  cases hd with
  | none => exact wpAny_pyNext_range_end hA st (by omega) fun h' eb => ⟨rfl,I.turned (t' := s.toks) (fun b o hb e => eb b o hb e) f0 f1 f3 f4 f5⟩
  | some v =>
   obtain ⟨a,m,cls,dx,rfl,e⟩ := hk v rfl
   obtain ⟨⟨ox,vs,h1,h2,h3,h4,h6,h5⟩,_⟩ := (show aX X.prog X.w H s.heap a (b7 m a cls dx) from I.hok a _ e)
   exact nA hA h1 h4 h6 st (by omega) fun h' eb => ⟨rfl,I.turned (t' := s.toks) (fun b o hb e => eb b o hb e) f0 f1 f3 f4 f5⟩
 self := fun _ _ _ _ _ st h => wpAny_pyIter_rangeiter st h
def wZ (hd : Option Value) (ta : TA) : TI := fun σ H R => ta σ H fun vs H1 => ∃ j : Int,vs = [.int j] /\ -(2 ^ 62) <= j /\ j < 2 ^ 62 /\ R (tX hd 0 j.toNat) H1
section
variable {X : Cx} {tg : Expr} {hd : Option Value}
theorem qd {pins : List (Addr × Obj)} {σ : St} {H : Hp} {s : Shared} {R : It -> Hp -> Prop} {E : Value -> Shared -> Prop} {lo hi : Int} {t u v : Tok} {tk : Nat} (I : aq X pins σ H s) (h1 : -(2 ^ 62) <= lo) (h2 : lo < 2 ^ 62) (h3 : -(2 ^ 62) <= hi) (h4 : hi < 2 ^ 62)
  (q : R (tX hd lo (hi - lo).toNat) H) : wpAny (model X.prog X.w) X.A (pyIter (.ref s.heap.objs.size)) (wY hd X pins σ tg R) E { s with heap := s.heap.push { cls := .type "range",data := .fields #[.int lo t,.int hi u,.int 1 v] },toks := tk } := by
 refine wpAny_pyIter_range (IsRange.new ..) (small_one h1 h2 h3 h4) ?_
 have I1 : aq X pins σ H { s with heap := s.heap.push { cls := .type "range",data := .fields #[.int lo t,.int hi u,.int 1 v] },toks := tk } := I.kept fun b o e => Heap.get?_push_of_some _ e
 refine ⟨(s.heap.push { cls := .type "range",data := .fields #[.int lo t,.int hi u,.int 1 v] }).objs.size,[(s.heap.push { cls := .type "range",data := .fields #[.int lo t,.int hi u,.int 1 v] }).objs.size],_,_,H,rfl,
  I1.kept (t' := tk) fun b o e => Heap.get?_push_of_some _ e,lL _ lo (hi - lo).toNat,?_,fun b hb => ?_,q⟩
 ·have e1 : lo + ((0 : Nat) : Int) * 1 = lo := by simp
  have e2 : (((hi - lo).toNat : Nat) : Int) - ((0 : Nat) : Int) = Builtin.Range.rangeSize lo hi 1 := by rw [rangeSize_one]; split <;> omega
  show IsRangeIter _ _ (lo + ((0 : Nat) : Int) * 1) ((((hi - lo).toNat : Nat) : Int) - ((0 : Nat) : Int)) 1
  rw [e1,e2]
  exact Heap.get?_push_size _ rfl
 ·have e : b = (s.heap.push { cls := .type "range",data := .fields #[.int lo t,.int hi u,.int 1 v] }).objs.size := by simpa using hb
  subst e
  exact I1.fpOk (A5 _) (I1.hok.fresh (A5 _))
theorem qf {a : Expr} {ta : TA} {p pos : Pos} (hg : Gl X "range") (hm : X.mg "range" = none) (ha : PA X [a] ta) (hs : starEach [a] X.env = [(false,eval a X.env)] := by rfl) : zQ hd X tg (.Call (.Name "range" p) [a] [] pos) (wZ hd ta) := by
 intro pins s σ H R I h
 refine Call_ (dy I hg hm boot_range (B1 (aZ (ha pos pins s σ H _ I h) fun us s1 ⟨vs,H1,I1,r1,q1⟩ => ?_) hs rfl))
 obtain ⟨j,e,q1,q2,q⟩ := q1
 subst e
 cases r1 with
 | cons r rr =>
  cases rr
  obtain ⟨t,rfl⟩ := r
  exact call_range_1 (qd I1 (by omega) (by omega) q1 q2 (by simpa using q))
end
section
variable {X : Cx} {scope : Scope} {cl : List (Str × Addr)} {own : Str} {ys : List Str} {js : List Nat} {elt iter : Expr} {px pos : Pos} {wi : TI} {te : TE} {hd : Option Value}
theorem rR (hA : X.A.handled = hd) (ok : ir X scope cl own ys js) (hi : zQ hd X (.Name own px) iter wi)
  (he : ∀ (C : Addr) (fp : List Addr) (s : Shared) (H : Hp),PE (X.block scope cl C (own :: ys) own fp s H) elt te)
  (hs : ∀ x,foldedSetIterable iter X.env x = pure x := by intro _; rfl) : PE X (.ListComp elt [⟨.Name own px,iter,[],0⟩] scope pos) (wW wi js te) := by
 intro pins s σ H Q I h
 rw [eval_ListComp]
 have ncell : ∀ y ∈ scope.names,y.2 ≠ .cell := fun y hy z => by
  have q := BH.mp ok.nocell y hy
  rw [z] at q
  simp at q
 have nloc : ∀ y ∈ scope.names,y.2 = .local -> scope.names.lookup y.1 = some .local := fun y hy z => by
  have q := BH.mp ok.loc y hy
  rw [z] at q
  simpa using q
 refine wpAny_comprehension_free (use := none) rfl hs ok.clos ok.kind nloc (aZ (hi pins s σ H _ I h) fun v s1 h1 => aZ h1 fun itv s2 h2 => ?_)
 obtain ⟨it,fp,tn,J,H2,rfl,I2,T,st2,f2,q2⟩ := h2
 obtain ⟨W,⟨m0,w0⟩,turn⟩ := q2 s2.heap.objs.size (I2.hok.fresh (A5 _))
 refine wpAny_newObj_type (wpAny_newFunctionEnv ncell (by intro y hy; simp at hy) (fun h1 hns hsb => ?_) ok.kind)
 have I3 := I2.laid (a := s2.heap.objs.size) (o := .lst []) (h' := s2.heap.push { cls := .type "list",dict := none,data := .seq ([] : List Value).toArray }) (t' := s2.toks) (fun b u q => Heap.get?_push_of_some _ q) (A5 _)
  ⟨Al _,[],0,.nil,Heap.get?_push_size _ rfl⟩
 have fpo : ∀ b ∈ fp,b < s2.heap.objs.size := fun b hb => by
  obtain ⟨o,e,_⟩ := T.obj 0 _ st2 b hb
  exact Heap.lt_size e
 have f3 : ∀ b ∈ fp,dR X pins (ar H2 s2.heap.objs.size (.lst [])) b := fun b hb => ⟨by rw [af (AE (fpo b hb))]; exact (f2 b hb).1,(f2 b hb).2⟩
 generalize hs3 : ({ s2 with heap := s2.heap.push { cls := .type "list",dict := none,data := .seq ([] : List Value).toArray },toks := s2.toks } : Shared) = s3 at I3
 have e3 : s3.heap = s2.heap.push { cls := .type "list",dict := none,data := .seq ([] : List Value).toArray } := by rw [<- hs3]
 have lt3 : ∀ b ∈ fp,b < s3.heap.objs.size := fun b hb => by rw [e3,Heap.size_push]; exact B3 (fpo b hb)
 dsimp only at hns hsb ⊢
 rw [<- e3] at hns hsb
 have hk : ∀ b o,s3.heap.get? b = some o -> h1.get? b = some o := fun b o e => hsb.extBut b o (AE (Heap.lt_size e)) (Heap.get?_push_of_some _ e)
 have J0 := d7 (h1 := h1) ok I3 f3 lt3 hns hk (s2.toks + 0)
 have t0 : tn 0 h1 := T.keep 0 _ _ st2 fun b hb o e => hk b o (by rw [e3]; exact Heap.get?_push_of_some _ e)
 have fpB : ∀ {H' : Hp},(∀ b ∈ fp,H' b = none) -> ∀ b ∈ fp,dR (X.block scope cl s3.heap.objs.size (own :: ys) own fp s3 (ar H2 s2.heap.objs.size (.lst []))) [] H' b := fun {H'} hn b hb =>
  ⟨hn b hb,AE (lt3 b hb),fun z => (A3.mp (I3.stkSub b z)).elim (f3 b hb).2.1 (f3 b hb).2.2.1,.inl hb,fun x c e => (f3 b hb).2.2.2.2.1 x c (ok.sub (x,c) (Au e)),fun p hp => absurd (show p ∈ ([] : List (Addr × Obj)) from hp) (by simp)⟩
 have loop : codeAny (model X.prog X.w) X.A (.compLoop (.ListComp elt [⟨.Name own px,iter,[],0⟩] scope pos) 0 (.ref it) (.ref s2.heap.objs.size) (compEnvC scope cl s3.heap.objs.size X.env))
   (compPost (model X.prog X.w) X.A X.xe none (EP X pins σ Q) (.ref s2.heap.objs.size) s3.heap.objs.size) { s3 with heap := h1,toks := s2.toks + 0 } := by
  refine jW (fun n s' => ∃ i zs o0 H',aq (X.block scope cl s3.heap.objs.size (own :: ys) own fp s3 (ar H2 s2.heap.objs.size (.lst []))) [] (o0 :: a8 js σ) H' s' /\ tn i s'.heap /\ (∀ b ∈ fp,H' b = none) /\ W i n zs H') ?_ m0
   ⟨0,[],none,_,J0,t0,fun b hb => (f3 b hb).1,w0⟩
  rintro n s5 ⟨i,zs,o0,H5,I5,t5,n5,w5⟩
  obtain ⟨hD,hw⟩ := turn i n zs H5 w5
  rcases hw with ⟨stop,qn⟩ | ⟨go,hz,step⟩
  ·refine aZ (T.done (X.block scope cl s3.heap.objs.size (own :: ys) own fp s3 (ar H2 s2.heap.objs.size (.lst []))) rfl rfl rfl hA i [] s5 _ H5 (fun _ _ => False) I5 (fpB n5) t5 stop) fun r s6 ⟨hr,I6⟩ => ?_
   subst hr
   obtain ⟨m,hn,_⟩ := id I6.loc
   exact ⟨m,hn,fun h' hs' => ⟨V.ref s2.heap.objs.size,H5,f8 I3 f3 I6 hs',rfl,qn⟩⟩
  ·refine aZ (T.item (X.block scope cl s3.heap.objs.size (own :: ys) own fp s3 (ar H2 s2.heap.objs.size (.lst []))) rfl rfl rfl hA i [] s5 _ H5 (fun _ _ => False) I5 (fpB n5) t5 go) fun r s6 ⟨u,hr,h6⟩ => ?_
   subst hr
   refine aZ h6 fun _ s7 ⟨x,H7,I7,r7,y7,t7,n7⟩ => ?_
   have I7' := I7.pinned (fpB n7) (T.obj _ _ t7)
   have hst := step x H7 y7
   have own' : (relabel scope X.env).names.lookup own = some .local := lookup_relabel_local ok.ownL
   refine aZ (ce (X := X.block scope cl s3.heap.objs.size (own :: ys) own fp s3 (ar H2 s2.heap.objs.size (.lst []))) (i := 0) (x := own) (pos := px) ok.nd rfl (.inl own') (.inr own') _ s7 _ H7 x u (fun σ' H' => σ' = some x :: a8 js σ /\ H' = H7) I7' r7 ⟨rfl,rfl⟩) fun _ s8 ⟨σ8,H8,I8,e8,eH8⟩ => ?_
   subst e8 eH8
   refine aZ (he _ _ _ _ _ s8 _ H8 _ I8 hst) fun yv s9 ⟨y,H9,I9,r9,hD9,m',hm,w9⟩ => ?_
   refine aZ (df _ s9 _ H9 (.ref s2.heap.objs.size) [y] (.ref s2.heap.objs.size) [yv] (fun _ H' => H' = ar H9 s2.heap.objs.size (.lst (zs ++ [y]))) I9 rfl (.cons r9 .nil) ⟨_,zs,y,rfl,rfl,hD9,hz,rfl⟩) fun _ s10 ⟨_,H10,I10,_,e10⟩ => ?_
   subst e10
   refine ⟨m',hm,i + 1,zs ++ [y],some x,_,I10.unpinned,T.keep _ _ _ t7 fun b hb o e => (I10.pin (b,o) (AD _ (AD _ (bN hb e)))).1,fun b hb => ?_,w9⟩
   obtain ⟨o,e,d⟩ := T.obj _ _ t7 b hb
   exact (I10.pin (b,o) (AD _ (AD _ (bN hb e)))).2.1
 subst hs3
 exact codeAny_compStart_list loop (T.self _ 0 _ _ _ t0 loop)
end
def w6 (K : A0) (C' : Addr) (i : Nat) (t : Addr -> TS) (r : TH) : TH := fun D σ cls dx H a => ∃ C b,cls = .ref C /\ Aq K (.ref C) (.ref C') = some b /\
 if b = true then t a (wV i D) (σ.set i (some (.ref a))) (ar H a (vK a cls dx)) else r D σ cls dx H a
section
variable {X : Cx} {x n : Str} {np pos : Pos} {b0 : Stmt} {suite : List Stmt} {rest : List ExceptHandler} {i : Nat} {C' : Addr} {tA : Addr -> TS} {th : TH}
theorem vR (T : XT X.K C') (hg : Gl X x) (hm : X.mg x = some (.ref C')) (hN : X.N.Nodup) (hi : X.N[i]? = some n) (hloc : X.env.scope.names.lookup n = some .local)
  (hs : ∀ (pins : List (Addr × Obj)) (a : Addr),gX (X.suite pins a) (b0 :: suite) (tA a)) (hrest : PH X rest th) (hd : (x == ("__debug__" : Str)) = false := by decide) :
  PH X (.ExceptHandler (some (.Name x np)) (some n) (b0 :: suite) pos :: rest) (w6 X.K C' i tA th) := by
 intro pins σ H0 s0 D a H' cls v dx s' I c h
 obtain ⟨C,b,rfl,hsub,h⟩ := h
 have J : aq X pins σ H' s' := I.call' c.os c.un c.hok c.bare (fun b z => absurd z (by simp))
 obtain ⟨oe,vs,he,hc,_,_,_⟩ := c.xo.ex
 refine wpAny_handleBy_cons (codeAny_handlers_test (cB (X := X.suite pins a) (J.insuite a) hg hm ?_ hd)) (by intro q; cases q)
 have KX := J.kIn
 obtain ⟨hh,g,d,tk,os⟩ := s'
 refine ip KX he hc T hsub ?_
 cases b with
 | false => exact hrest pins σ H0 s0 D a H' _ v dx _ I c h
 | true =>
  refine codeAny_handlers_suite_as ?_
  refine c.flight I.stack I.stkFree fun s2 c2 => ?_
  have J2 := (c2.caught I).insuite a
  refine gW (X := X.suite pins a) (v := V.ref a) J2 hN hi (.inl hloc) (show RelV (V.ref a) (Value.ref a) from rfl) (fun s3 I3 => ?_) (.inr hloc)
  refine wpAny_mono (hs pins a [] s3 _ _ _ I3 h) (fun f s4 q => ?_) fun _ _ z => z.elim
  exact tP I.ok hN hi hloc q
end
structure cA (hd : Option Value) (k : Nat) (A : Around) : Prop where
 hd : A.handled = hd
 dp : A.depth + 3 * k + 5 < recursionLimit
 un : A.units + 16 * k + 200 < cLine
theorem cA.mono {hd : Option Value} {j k : Nat} {A : Around} (r : cA hd k A) (h : j <= k) : cA hd j A := ⟨r.hd,by have := r.dp; omega,by have := r.un; omega⟩
theorem cA.deeper {hd : Option Value} {k : Nat} {A : Around} (r : cA hd (k + 1) A) (env : Env) : cA hd k (A.deeper env) :=
 ⟨r.hd,by have := r.dp; show A.depth + 1 + 3 * k + 5 < _; omega,by have := r.un; show A.units + 3 + 16 * k + 200 < _; omega⟩
theorem cA.depth {hd : Option Value} {k : Nat} {A : Around} (r : cA hd k A) : A.depth < recursionLimit := by have := r.dp; omega
theorem bx.h {k : Nat} {A : Around} (r : bx k A) : cA none k A := ⟨r.hd,r.dp,r.un⟩
theorem bx.suite {k : Nat} {A : Around} (r : bx k A) (v : Value) : cA (some v) k (A.mark (some v)) := ⟨rfl,r.dp,r.un⟩
structure va (hd : Option Value) (P : Program) (w : World) (K : A0) (mg : Str -> Option Value) (base : Heap) (k : Nat) (f : Addr) (fd : FuncData) (ps : List Str) (sp : Sp) : Prop where
 len : ∀ vs H Q E,sp vs H Q E -> vs.length = ps.length
 run : ∀ (A : Around) (outer : List Env) (s : Shared) (H : Hp) (args : Args) (us : List Value) (vs : List V) (Q : VK) (E : XK),cA hd k A -> iZ P w K mg base A outer s H -> BindsTo s fd args (ps.zip us) -> aM vs us -> sp vs H Q E ->
  codeAny (model P w) A (.call (.ref f) args) (CR bw outer P w H s Q E) s
section
variable {P : Program} {w : World} {K : A0} {mg : Str -> Option Value} {base : Heap} {hd : Option Value}
theorem va.calm {k : Nat} {f : Addr} {fd : FuncData} {ps : List Str} {sp : Sp} (F : va none P w K mg base k f fd ps sp) : bh P w K mg base bw k f fd ps sp :=
 ⟨F.len,fun A outer s H args us vs Q E hr => F.run A outer s H args us vs Q E hr.h⟩
def vS (hd : Option Value) (P : Program) (w : World) (K : A0) (mg : Str -> Option Value) (base : Heap) (N : List Str) (qual : Str) (scope : Scope) (f : Addr) (cd : Value) (A : Around) (outer : List Env) (s : Shared) (H : Hp) (E : XK) : Cx :=
 { fV bw P w K mg base N qual scope f cd A outer s H E with calm := hd.isNone }
theorem nB {N ps : List Str} {qual : Str} {scope : Scope} {f : Addr} {cd : Value} {A : Around} {outer : List Env} {s s1 : Shared} {H : Hp} {E : XK} {us : List Value} {vs : List V}
  (S : aD N ps scope) (hA : A.handled = hd) (e0 : iZ P w K mg base A outer s H) (hl : vs.length = ps.length) (r : aM vs us)
  (x : InCallC s s.heap.objs.size (bindL (envOfC qual scope s.heap.objs.size f cd).kindOf (ps.zip us) fun _ => none) (cellsFrom (s.heap.objs.size + 1) scope.names []) (bindC (envOfC qual scope s.heap.objs.size f cd).kindOf (ps.zip us) fun _ => none) s1) :
  aq (vS hd P w K mg base N qual scope f cd A outer s H E) [] (start N vs) H s1 := by
 have e0' : iZ P w K mg base { A with handled := none } outer s H := ⟨e0.frames,e0.mod,e0.bs,e0.bsz,e0.funs,e0.frf,e0.hok,e0.bare⟩
 have I := jk (CX := bw) (E := E) S (A := { A with handled := none }) rfl e0' hl r x
 have hh : (vS hd P w K mg base N qual scope f cd A outer s H E).calm = true -> (vS hd P w K mg base N qual scope f cd A outer s H E).A.handled = none := fun z => by
  cases hd with
  | none => exact hA
  | some v => cases (show false = true from z)
 exact ⟨⟨I.ok.mod,I.ok.kind,I.ok.glob,I.ok.blt,I.ok.above,I.ok.inj,I.ok.has,I.ok.cab,hh,I.ok.frames,I.ok.stk,I.ok.exf,I.ok.bs,I.ok.bsz,I.ok.noex,I.ok.exfs,I.ok.funs,I.ok.frf⟩,
  I.os,I.bare,I.base,I.loc,I.cell,I.free,I.freeC,I.pin,I.hok,I.len⟩
theorem vT {k : Nat} {f : Addr} {name qual : Str} {params : Arguments} {body : List Stmt} {scope : Scope} {dV kV doc pm cdv ct oc : Value} {an od : Option Addr}
  {osl : Array (Option Value)} {N ps : List Str} {sp : Sp} (lk : K.lookup f = some ⟨oc,od,.func (Az name qual params body scope dV kV doc pm an cdv ct),osl⟩) (hcd : BO K cdv qual = true) (S : aD N ps scope)
  (len : ∀ vs H Q E,sp vs H Q E -> vs.length = ps.length)
  (hbody : ∀ (A : Around) (outer : List Env) (s : Shared) (H : Hp) (vs : List V) (Q : VK) (E : XK),cA hd k (A.deeper (envOfC qual scope s.heap.objs.size f cdv)) -> sp vs H Q E ->
   ∃ t,gX (vS hd P w K mg base N qual scope f cdv A outer s H E) body t /\ t { nx := fun _ H' => Q .non H',rt := Q } (start N vs) H) :
  va hd P w K mg base (k + 1) f (Az name qual params body scope dV kV doc pm an cdv ct) ps sp := by
 refine ⟨len,fun A outer s H args us vs Q E hr e0 hb r hsp => ?_⟩
 have hl := len _ _ _ _ hsp
 have KX : K.In s.heap := e0.mod.kin.keeps fun b o e => (e0.bs b o e).1
 have lim : s.heap.NoLimit := e0.mod.nolimit.keeps fun b o e => (e0.bs b o e).1
 have hkind : ∀ y ∈ ps.zip us,scope.names.lookup y.1 = some .local ∨ (scope.names.lookup y.1 = some .cell /\ ((cellsFrom (s.heap.objs.size + 1) scope.names []).lookup y.1).isSome = true) := fun ⟨n,v⟩ hy => by
  rcases S.par n (List.of_mem_zip hy).1 with q | q
  ·exact .inl q
  ·exact .inr ⟨q,PySem.W.cellsFrom_some _ _ _ (.inl q)⟩
 refine codeAny_call_function hr.depth (KX _ _ lk) rfl S.co S.gen rfl (PySem.W.codeRec_of KX hcd) (hb _ _ _ _ ?_)
 refine wpAny_newFunctionEnv_cells S.kind hkind fun env he s1 x => ?_
 subst he
 refine ⟨lim.keeps x.toInCall.keep,codeAny_func ?_⟩
 obtain ⟨t,ht,hq⟩ := hbody A outer s H vs Q E (hr.deeper _) hsp
 have I : aq (vS hd P w K mg base N qual scope f cdv A outer s H E) [] (start N vs) H s1 := nB S hr.hd e0 hl r x
 refine wpAny_mono (ht [] s1 (start N vs) H _ I hq) (fun fl s' hs => ?_) fun e s' hs => hs
 have fin : ∀ {σ' : St} {H' : Hp} {v : V} {u : Value},aq (vS hd P w K mg base N qual scope f cdv A outer s H E) [] σ' H' s' -> RelV v u -> Q v H' -> CE outer P w H s Q u s' :=
  fun {σ' H' v u} J rv q => ⟨v,H',J.os,J.bare,J.base,J.hok,rv,q⟩
 cases fl with
 | ret u =>
  obtain ⟨v,σ',H',J,rv,q⟩ := hs
  exact fin J rv q
 | next =>
  obtain ⟨σ',H',J,q⟩ := hs
  exact fin (v := V.non) (u := Value.none) J rfl q
 | brk =>
  obtain ⟨_,_,_,q⟩ := hs
  exact False.elim q
 | cont =>
  obtain ⟨_,_,_,q⟩ := hs
  exact False.elim q
end
section
variable {X : Cx} {k : Nat} {f : Addr} {fd : FuncData} {ps : List Str} {sp : Sp} {dvs : List V} {ds : List Value} {x : Str} {p pos : Pos} {e : Expr} {es : List Expr} {t : TA} {hd : Option Value}
theorem tY {pins : List (Addr × Obj)} {σ : St} {H : Hp} {s : Shared} {Q : VK} {us : List Value} {vs : List V} (F : va hd X.prog X.w X.K X.mg X.base k f fd ps sp) (hr : cA hd k X.A) (hb : Binds X.K fd ps ds) (hv : aM dvs ds)
  (I : aq X pins σ H s) (r : aM vs us) (h : sp (vs ++ dvs) H Q E0) : wpAny (model X.prog X.w) X.A (call (.ref f) us) (EP X pins σ Q) X.xe s := by
 have r2 : aM (vs ++ dvs) (us ++ ds) := r.append hv
 have hl : (us ++ ds).length = ps.length := by rw [<- r2.length]; exact F.len _ _ _ _ h
 refine wpAny_call (codeAny_mono (F.run X.A X.stack s H ⟨us,[]⟩ (us ++ ds) (vs ++ dvs) Q E0 hr I.env0 (hb s us I.kIn hl) r2 h) fun r s' hq => ?_)
 cases r with
 | error e => exact False.elim hq
 | ok fl =>
  cases fl with
  | ret u => exact I.after hq
  | next => exact False.elim hq
  | brk => exact False.elim hq
  | cont => exact False.elim hq
theorem rS (F : va hd X.prog X.w X.K X.mg X.base k f fd ps sp) (hr : cA hd k X.A) (hg : Gl X x) (hm : X.mg x = some (.ref f)) (hk : Ax X.K (.ref f) = true) (hb : Binds X.K fd ps ds) (hv : aM dvs ds)
  (ha : PA X (e :: es) t) (hdb : (x == ("__debug__" : Str)) = false := by decide) (he : starEach (e :: es) X.env = (false,eval e X.env) :: starEach es X.env := by rfl) (hpl : (backTo pos (starEach es X.env)).any (·.1) = false := by rfl) :
  PE X (.Call (.Name x p) (e :: es) [] pos) (oG sp dvs E0 t) := by
 intro pins s σ H Q I h
 refine wpAny_Call_Name_kw (cB I hg hm ?_ hdb)
 refine BV (h₀ := X.base) I.ok.mod.kin hk (aZ (ha pos pins s σ H _ I h) fun us s1 ⟨vs,H1,I1,r,q⟩ => ⟨I1.kIn,?_⟩) he hpl
 exact tY F hr hb hv I1 r q
end
end L2
namespace Sw
open PySem L2 XH
structure Dx (P : Program) (w : World) (K : A0) (mg : Str -> Option Value) (base : Heap) (CX : oF) (k : Nat) (x : Str) (ps : List Str) (dvs : List V) (sp : Sp) where
 f : Addr
 fd : FuncData
 ok : bh P w K mg base CX k f fd ps sp
 m : mg x = some (.ref f)
 q : Ax K (.ref f) = true
 b : Binds K fd ps []
 bd : ∃ ds,Binds K fd ps ds /\ aM dvs ds
def Dx.calm {P : Program} {w : World} {K : A0} {mg : Str -> Option Value} {base : Heap} {k : Nat} {x : Str} {ps : List Str} {dvs : List V} {sp sp0 : Sp} (D : Dx P w K mg base (b9 P w) k x ps dvs sp) (h : ∀ vs H Q E,sp0 vs H Q E -> sp vs H Q E0) : Dx P w K mg base bw k x ps dvs sp0 :=
 ⟨D.f,D.fd,D.ok.noraise h,D.m,D.q,D.b,D.bd⟩
section
variable {X : Cx} {k j : Nat} {x : Str} {ps : List Str} {sp : Sp} {p pos : Pos} {e : Expr} {es : List Expr} {t : TA} {dvs : List V} {E : St -> XK}
theorem aT (D : Dx X.prog X.w X.K X.mg X.base bw k x ps dvs sp) (hr : bx j X.A) (hk : k <= j) (hg : Gl X x) (ha : PA X (e :: es) t) (hdb : (x == ("__debug__" : Str)) = false := by decide)
  (he : starEach (e :: es) X.env = (false,eval e X.env) :: starEach es X.env := by rfl) (hpl : (backTo pos (starEach es X.env)).any (·.1) = false := by rfl) :
  PE X (.Call (.Name x p) (e :: es) [] pos) (oG sp [] E0 t) :=
 tu D.ok (hr.mono hk) hg D.m D.q D.b .nil oK ha hdb he hpl
theorem f9 (D : Dx X.prog X.w X.K X.mg X.base (b9 X.prog X.w) k x ps dvs sp) (hr : bx j X.A) (hk : k <= j) (hg : Gl X x) (hx : dZ X E) (ha : PA X (e :: es) t) (hdb : (x == ("__debug__" : Str)) = false := by decide)
  (he : starEach (e :: es) X.env = (false,eval e X.env) :: starEach es X.env := by rfl) (hpl : (backTo pos (starEach es X.env)).any (·.1) = false := by rfl) :
  PE X (.Call (.Name x p) (e :: es) [] pos) (nu sp [] E t) :=
 lK D.ok (hr.mono hk) hg D.m D.q D.b .nil hx ha hdb he hpl
theorem tZ (D : Dx X.prog X.w X.K X.mg X.base (b9 X.prog X.w) k x ps dvs sp) (hr : bx j X.A) (hk : k <= j) (hg : Gl X x) (hx : dZ X E) (ha : PA X (e :: es) t) (hdb : (x == ("__debug__" : Str)) = false := by decide)
  (he : starEach (e :: es) X.env = (false,eval e X.env) :: starEach es X.env := by rfl) (hpl : (backTo pos (starEach es X.env)).any (·.1) = false := by rfl) :
  PE X (.Call (.Name x p) (e :: es) [] pos) (nu sp dvs E t) := by
 obtain ⟨ds,hb,hv⟩ := D.bd
 exact lK D.ok (hr.mono hk) hg D.m D.q hb hv hx ha hdb he hpl
end
theorem bH.okX {P : Program} {w : World} {K : A0} {mg : Str -> Option Value} {base : Heap} {x qual : Str} {st : Stmt} {dV : Value} {f : Addr} {fd : FuncData} {N ps : List Str} {k : Nat} {sp : Sp} (F : bH K x qual st dV f fd) (S : aD N ps (ap st)) (len : ∀ vs H Q E,sp vs H Q E -> vs.length = ps.length)
  (hbody : ∀ (cdv : Value) (A : Around) (outer : List Env) (s : Shared) (H : Hp) (vs : List V) (Q : VK) (E : XK),bx k (A.deeper (PyProof.Rows.envOfC qual (ap st) s.heap.objs.size f cdv)) -> sp vs H Q E ->
   ∃ t,gX ((fV (b9 P w) P w K mg base N qual (ap st) f cdv A outer s H E).wish (XS (fV (b9 P w) P w K mg base N qual (ap st) f cdv A outer s H E) fun _ => E)) (bM st) t /\ t { nx := fun _ H' => Q .non H',rt := Q } (start N vs) H) : bh P w K mg base (b9 P w) (k + 1) f fd ps sp := by
 obtain ⟨oc,od,kV,doc,pm,an,cdv,ct,osl,rfl,lk,hcd⟩ := F.ex
 exact vJ lk hcd S len fun A outer s H vs Q E hr hsp => hbody cdv A outer s H vs Q E hr hsp
def oW (c : Addr) : Sp := fun vs H Q E => ∃ a b : Int,vs = [.int a,.int b] /\ Bd 8500 b /\ (b ≠ 0 -> ∀ p q : Int,Fr p q a b -> Pair H Q p q) /\ (b = 0 -> E (.ref c) none H)
theorem vU {c : Addr} : ∀ vs H Q E,wU vs H Q E -> oW c vs H Q E0 := fun vs H Q E ⟨a,b,e,b0,hb,q⟩ => ⟨a,b,e,hb,fun _ => q,fun z => absurd z b0⟩
end Sw
namespace L2
open PySem PySem.Spec PyProof.Rows XH
theorem cG {X : Cx} {K : A0} (hK : X.K = K) : cn X (.builtin "isinstance") (fun xs H Q => ∃ x t T b,xs = [x,.ty T] /\ cY K H x t /\ Ah K t (.type T) = some b /\ Q (.bl b) H) := by
 subst hK
 intro pins s σ H xs us Q I r h
 obtain ⟨x,t,T,b,rfl,ty,e,q⟩ := h
 obtain ⟨u,w',rfl,e1,e2⟩ := vals2 r
 cases e2
 exact pP I e1 ty e fun tk => ⟨.bl b,H,I.tok tk,rfl,q⟩
theorem t6 {X : Cx} : eM X (compareOp .IsNot) (fun x y H Q => ∃ b c,x = .bl b /\ y = .bl c /\ Q (.bl (!(b == c))) H) := by
 intro pins s σ H x y v u Q I rx ry h
 obtain ⟨b,c,rfl,rfl,q⟩ := h
 cases rx
 cases ry
 have e : (Value.bool b == Value.bool c) = (b == c) := by cases b <;> cases c <;> rfl
 refine wpAny_pure (a := Value.bool (!(Value.bool b == Value.bool c))) ?_
 rw [e]
 exact ⟨.bl (!(b == c)),H,I,rfl,q⟩
end L2
namespace Sw
open PySem L2 XH
inductive Wh (K : A0) (H : Hp) : V -> Bool -> Prop where
 | mk {x : V} {t : Value} {b1 b2 : Bool} (ty : cY K H x t) (h1 : Ah K t (.type "int") = some b1) (h2 : Ah K t (.type "bool") = some b2) : Wh K H x (b1 && !b2)
section
variable {K : A0} {H : Hp}
theorem rT (i : Int) : Wh K H (.int i) true := .mk (b1 := true) (b2 := false) (.int i) (by kernel_rfl) (by kernel_rfl)
theorem jX {H' : Hp} (g : au H H') {x : V} {t : Value} (h : cY K H x t) : cY K H' x t := by
 cases h with
 | non => exact .non
 | bl b => exact .bl b
 | int i => exact .int i
 | str x => exact .str x
 | flt x => exact .flt x
 | lst e => exact .lst (g _ _ e)
 | frz e => exact .frz (g _ _ e)
 | tup e => exact .tup (g _ _ e)
 | dK e => exact .dK (g _ _ e)
 | dT e => exact .dT (g _ _ e)
 | ins e c a n k m => exact .ins (g _ _ e) c a n k m
theorem Wh.same {H' : Hp} (g : au H H') {x : V} {b : Bool} (h : Wh K H x b) : Wh K H' x b := by
 cases h with
 | mk ty h1 h2 => exact .mk (jX g ty) h1 h2
end
def vV (K : A0) : Sp := fun vs H Q _ => ∃ (x : V) (b : Bool),vs = [x] /\ Wh K H x b /\ Q (.bl b) H
inductive qg (K : A0) (H : Hp) : V -> Bool -> Prop where
 | no {x : V} {t : Value} (ty : cY K H x t) (h : Ah K t (.type "tuple") = some false) : qg K H x false
 | len {a : Addr} {ys : List V} (e : H a = some (.tup ys)) (h : ((ys.length : Nat) : Int) ≠ 2) : qg K H (.ref a) false
 | top {a : Addr} {y z : V} (e : H a = some (.tup [y,z])) (h : Wh K H y false) : qg K H (.ref a) false
 | bot {a : Addr} {y z : V} (e : H a = some (.tup [y,z])) (h : Wh K H y true) (h' : Wh K H z false) : qg K H (.ref a) false
 | two {a : Addr} {p q : Int} (e : H a = some (.tup [.int p,.int q])) : qg K H (.ref a) (decide (1 <= q) && decide (bD p q = 1))
theorem qg.same {K : A0} {H H' : Hp} (g : au H H') {x : V} {b : Bool} (h : qg K H x b) : qg K H' x b := by
 cases h with
 | no ty h => exact .no (jX g ty) h
 | len e h => exact .len (g _ _ e) h
 | top e h => exact .top (g _ _ e) (h.same g)
 | bot e h h' => exact .bot (g _ _ e) (h.same g) (h'.same g)
 | two e => exact .two (g _ _ e)
def nC (K : A0) : Sp := fun vs H Q _ => ∃ (x : V) (b : Bool),vs = [x] /\ qg K H x b /\ Q (.bl b) H
theorem gO (K : A0) : Ah K (.type "tuple") (.type "tuple") = some true := by kernel_rfl
theorem rV {K : A0} {H : Hp} {a : Addr} {p q : Int} {b : Bool} (e : H a = some (.tup [.int p,.int q])) (h : (decide (1 <= q) && decide (bD p q = 1)) = b) : qg K H (.ref a) b := h ▸ .two e
end Sw
namespace L2
open PySem PySem.Spec PyProof.Rows XH
def w8 : V -> Prop
 | .bl _ => True
 | .int _ => True
 | .str _ => True
 | .non => True
 | _ => False
theorem rW {A : Around} {s : Shared} {v : V} {u w : Value} (h : w8 v) (r1 : RelV v u) (r2 : RelV v w) : SeqAt.EqAt A s u w true := by
 cases v with
 | bl b =>
  cases r1
  cases r2
  have z := SeqAt.EqAt.bool_bool (A := A) (s := s) b b
  rw [beq_self_eq_true] at z
  exact z
 | int i =>
  obtain ⟨t,rfl⟩ := r1
  obtain ⟨t',rfl⟩ := r2
  have z := SeqAt.EqAt.int_int (A := A) (s := s) i t i t'
  rw [beq_self_eq_true] at z
  exact z
 | str i =>
  obtain ⟨t,rfl⟩ := r1
  obtain ⟨t',rfl⟩ := r2
  have z := SeqAt.EqAt.str_str (A := A) (s := s) i t i t'
  rw [beq_self_eq_true] at z
  exact z
 | non =>
  cases r1
  cases r2
  exact SeqAt.EqAt.same _
 | _ => exact absurd h (fun z => z)
theorem gb {A : Around} {s : Shared} : ∀ {zs : List V} {us ws : List Value},(∀ z ∈ zs,w8 z) -> aM zs us -> aM zs ws -> ∀ j (h1 : j < us.length) (h2 : j < ws.length),SeqAt.EqAt A s us[j] ws[j] true
 | _,_,_,_,.nil,.nil,j,h1,_ => absurd h1 (by simp)
 | _,_,_,hs,.cons r1 _,.cons r2 _,0,_,_ => rW (hs _ (B2)) r1 r2
 | _,_,_,hs,.cons _ t1,.cons _ t2,j + 1,h1,h2 => gb (fun z hz => hs z (Ab _ hz)) t1 t2 j (by simpa using h1) (by simpa using h2)
theorem nD {X : Cx} (hu : X.A.units < cLine) : eM X (compareOp .Eq) (fun x y H Q => ∃ a b zs,x = .ref a /\ y = .ref b /\ bu X.K H a zs /\ bu X.K H b zs /\ (∀ z ∈ zs,w8 z) /\ Q (.bl true) H) := by
 intro pins s σ H x y v u Q I rx ry h
 obtain ⟨a,b,zs,rfl,rfl,h1,h2,hs,hq⟩ := h
 cases rx
 cases ry
 obtain ⟨i1,r1,p1,_⟩ := I.list h1
 obtain ⟨i2,r2,p2,_⟩ := I.list h2
 refine SeqAt.eq_listAt (e := fun _ => true) p1.isList p2.isList (by simp [<- r1.length,<- r2.length]) hu (fun j g1 g2 => ?_) ?_
 ·exact gb (A := X.A.in1) (s := s) hs r1 r2 j (by simpa using g1) (by simpa using g2)
 ·exact ⟨.bl true,H,I,by show Value.bool _ = Value.bool _; simp,hq⟩
theorem vW {X : Cx} (hu : X.A.units < cLine) : eM X (compareOp .NotEq) (fun x y H Q => ∃ a b zs,x = .ref a /\ y = .ref b /\ bu X.K H a zs /\ bu X.K H b zs /\ (∀ z ∈ zs,w8 z) /\ Q (.bl false) H) := by
 intro pins s σ H x y v u Q I rx ry h
 obtain ⟨a,b,zs,rfl,rfl,h1,h2,hs,hq⟩ := h
 cases rx
 cases ry
 obtain ⟨i1,r1,p1,_⟩ := I.list h1
 obtain ⟨i2,r2,p2,_⟩ := I.list h2
 refine SeqAt.RcNeAt.lists (e := fun _ => true) p1.isList p2.isList (by simp [<- r1.length,<- r2.length]) hu (fun j g1 g2 => ?_) _ _ _ _ ⟨.bl false,H,I,by show Value.bool _ = Value.bool _; simp,hq⟩
 exact gb (A := X.A.in1) (s := s) hs r1 r2 j (by simpa using g1) (by simpa using g2)
end L2
namespace Sw
open PySem L2 XH PyProof.Rows
structure xc (hd : Option Value) (P : Program) (w : World) (K : A0) (mg : Str -> Option Value) (base : Heap) (k : Nat) (x : Str) (ps : List Str) (sp : Sp) where
 f : Addr
 fd : FuncData
 ok : va hd P w K mg base k f fd ps sp
 m : mg x = some (.ref f)
 q : Ax K (.ref f) = true
 b : Binds K fd ps []
def xc.calm {P : Program} {w : World} {K : A0} {mg : Str -> Option Value} {base : Heap} {k : Nat} {x : Str} {ps : List Str} {sp : Sp} (D : xc none P w K mg base k x ps sp) : Dx P w K mg base bw k x ps [] sp :=
 ⟨D.f,D.fd,D.ok.calm,D.m,D.q,D.b,⟨[],D.b,.nil⟩⟩
structure ze (P : Program) (w : World) (K : A0) (mg : Str -> Option Value) (base : Heap) (k : Nat) (C : Addr) (ps : List Str) (sp : Sp) where
 f : Addr
 fd : FuncData
 ok : bh P w K mg base bw k f fd ps sp
 ci : yq K C f
 b : Binds K fd ps []
section
variable {X : Cx} {k j : Nat} {x : Str} {ps : List Str} {sp : Sp} {p np pos cpos : Pos} {e : Expr} {es : List Expr} {t : TA} {hd : Option Value} {C : Addr} {E : L2.St -> XK}
theorem vX (D : xc hd X.prog X.w X.K X.mg X.base k x ps sp) (hr : cA hd j X.A) (hk : k <= j) (hg : Gl X x) (ha : PA X (e :: es) t) (hdb : (x == ("__debug__" : Str)) = false := by decide)
  (he : starEach (e :: es) X.env = (false,eval e X.env) :: starEach es X.env := by rfl) (hpl : (backTo pos (starEach es X.env)).any (·.1) = false := by rfl) :
  PE X (.Call (.Name x p) (e :: es) [] pos) (oG sp [] E0 t) :=
 rS D.ok (hr.mono hk) hg D.m D.q D.b .nil ha hdb he hpl
theorem t8 (D : ze X.prog X.w X.K X.mg X.base k C ps sp) (hr : bx j X.A) (hk : k + 1 <= j) (hg : Gl X x) (hm : X.mg x = some (.ref C)) (hc : X.calm = true) (hp : dZ X E) (ha : PA X (e :: es) t) (hdb : (x == ("__debug__" : Str)) = false := by decide)
  (he : starEach (e :: es) X.env = (false,eval e X.env) :: starEach es X.env := by rfl) (hpl : (backTo cpos (starEach es X.env)).any (·.1) = false := by rfl) :
  PS X (.Raise (some (.Call (.Name x np) (e :: es) [] cpos)) none pos) (oV C sp E t) :=
 qc D.ci D.ok (hr.mono hk) hg hm D.b hc hp ha hdb he hpl
end
theorem bH.okH {hd : Option Value} {P : Program} {w : World} {K : A0} {mg : Str -> Option Value} {base : Heap} {x qual : Str} {st : Stmt} {dV : Value} {f : Addr} {fd : FuncData} {N ps : List Str} {k : Nat} {sp : Sp} (F : bH K x qual st dV f fd) (S : aD N ps (ap st)) (len : ∀ vs H Q E,sp vs H Q E -> vs.length = ps.length)
  (hbody : ∀ (cdv : Value) (A : Around) (outer : List Env) (s : Shared) (H : Hp) (vs : List V) (Q : VK) (E : XK),cA hd k (A.deeper (envOfC qual (ap st) s.heap.objs.size f cdv)) -> sp vs H Q E ->
   ∃ t,gX (vS hd P w K mg base N qual (ap st) f cdv A outer s H E) (bM st) t /\ t { nx := fun _ H' => Q .non H',rt := Q } (start N vs) H) : va hd P w K mg base (k + 1) f fd ps sp := by
 obtain ⟨oc,od,kV,doc,pm,an,cdv,ct,osl,rfl,lk,hcd⟩ := F.ex
 exact vT lk hcd S len fun A outer s H vs Q E hr hsp => hbody cdv A outer s H vs Q E hr hsp
theorem vY {hd : Option Value} {H H' : Hp} (h : nv hd H) (g : au H H') : nv hd H' := fun v e => by
 obtain ⟨a,n,cls,dx,e1,e2⟩ := h v e
 exact ⟨a,n,cls,dx,e1,g _ _ e2⟩
theorem iz {H H' : Hp} {p : Addr} (g : au H H') (h : H p = none) (o : HO) : au H (ar H' p o) := fun b u q => by
 rw [af (aR q h)]
 exact g b u q
theorem t9 {hd : Option Value} {n : Nat} {js : List Nat} {te : TE} {σ : L2.St} {H1 : Hp} {Q : VK} (P : Nat -> V -> Prop) (hok : nv hd H1) (hn : n <= sizeLine)
  (step : ∀ i,i < n -> ∀ H3,au H1 H3 -> ∀ Q' : VK,(∀ y H4,P i y -> au H3 H4 -> Q' y H4) -> te (some (.int (0 + (i : Int))) :: a8 js σ) H3 Q')
  (fin : ∀ p ys H',H1 p = none -> ys.length = n -> (∀ i y,ys[i]? = some y -> P i y) -> au H1 H' -> H' p = some (.lst ys) -> Q (.ref p) H') :
  u8 js te σ Q (tX hd 0 n) H1 := by
 intro p hp
 refine ⟨fun i m ys H2 => i <= n /\ m = n - i /\ ys.length = i /\ (∀ j y,ys[j]? = some y -> P j y) /\ au H1 H2 /\ H2 p = some (.lst ys),⟨n,Al _,rfl,rfl,fun j y e => by simp at e,ai hp _,ae⟩,?_⟩
 rintro i m ys H2 ⟨hi,rfl,hl,hP,g,e⟩
 refine ⟨e,?_⟩
 by_cases hin : i < n
 ·refine .inr ⟨hin,by omega,fun x H3 hy => ?_⟩
  obtain ⟨rfl,rfl⟩ := hy
  refine step i hin H3 g _ fun y H4 py g4 => ⟨g4 _ _ e,n - (i + 1),by omega,hin,rfl,by simp [hl],fun j z ez => ?_,iz (g.trans g4) hp _,ae⟩
  by_cases hj : j < ys.length
  ·rw [AC hj] at ez
   exact hP j z ez
  ·rw [A4 (by omega)] at ez
   have h0 : j - ys.length = 0 := by
    rcases Nat.eq_zero_or_pos (j - ys.length) with q | q
    ·exact q
    ·rw [BJ (by simp; omega)] at ez; cases ez
   rw [h0] at ez
   have hji : j = i := by omega
   subst hji
   cases ez
   exact py
 ·have e2 : i = n := by omega
  subst e2
  exact .inl ⟨⟨A5 _,vY hok g⟩,fin p ys H2 hp hl hP g e⟩
def jY (X : Cx) (scope : Scope) (ys : List Str) (js : List Nat) : Prop := ∀ (i : Nat) (y : Str),ys[i]? = some y -> ∃ j : Nat,js[i]? = some j /\ X.N[j]? = some y /\ (X.env.scope.names.lookup y = some .cell ∨ X.env.scope.names.lookup y = some .free) /\ ((relabel scope X.env).names.lookup y = some .cell ∨ (relabel scope X.env).names.lookup y = some .free)
theorem wp {X : Cx} {scope : Scope} : jY X scope [] [] := fun i y h => by simp at h
theorem vZ {X : Cx} {scope : Scope} {ys : List Str} {js : List Nat} {y : Str} {j : Nat} (t : jY X scope ys js) (h1 : X.N[j]? = some y := by rfl) (h2 : X.env.scope.names.lookup y = some .cell ∨ X.env.scope.names.lookup y = some .free := by first | exact Or.inl rfl | exact Or.inr rfl)
  (h3 : (relabel scope X.env).names.lookup y = some .cell ∨ (relabel scope X.env).names.lookup y = some .free := by first | exact Or.inl rfl | exact Or.inr rfl) : jY X scope (y :: ys) (j :: js) := fun i z h => by
 cases i with
 | zero =>
  cases h
  exact ⟨j,rfl,h1,h2,h3⟩
 | succ i => exact t i z h
inductive qh (X : Cx) : List (Str × Addr) -> Prop where
 | nil : qh X []
 | cons {y : Str} {c : Addr} {cl : List (Str × Addr)} (h : X.env.cells.lookup y = some c) (t : qh X cl) : qh X ((y,c) :: cl)
theorem qh.all {X : Cx} {cl : List (Str × Addr)} (h : qh X cl) : ∀ p ∈ cl,X.env.cells.lookup p.1 = some p.2 := by
 induction h with
 | nil => intro p hp; simp at hp
 | cons h _ ih =>
  intro p hp
  rcases A3.mp hp with e | e
  ·rw [e]; exact h
  ·exact ih p e
theorem wq {X : Cx} {scope : Scope} {cl : List (Str × Addr)} {own : Str} {ys : List Str} {js : List Nat} (a : jY X scope ys js) (s : qh X cl) (nd : (own :: ys).Nodup) (len : js.length = ys.length) (clos : closureFor scope X.env = pure cl) (nocell : (scope.names.all fun p => !(p.2 == .cell)) = true) (kind : scope.kind = .function)
  (loc : (scope.names.all fun p => !(p.2 == .local) || scope.names.lookup p.1 == some .local) = true) (ownL : scope.names.lookup own = some .local) (has : ((relabel scope X.env).names.all fun p => !(p.2 == .cell || p.2 == .free) || (cl.lookup p.1).isSome) = true) (noown : cl.lookup own = none) : ir X scope cl own ys js :=
 ⟨clos,nocell,kind,loc,ownL,s.all,has,noown,nd,a,len⟩
def z8 (H : Hp) (a C : Addr) (dx : Option Addr) : Prop := (∃ n,H a = some (b7 n a (.ref C) dx)) /\ oU H dx
section
variable {K : A0} {cs : List Addr} {S C D : Addr} {i j : Nat}
end
def jZ (C : Addr) (f : Str) : Sp := fun vs H Q _ => ∃ a y n,vs = [.ref a,y] /\ H a = some (b7 n a (.ref C) none) /\ ∀ d,H d = none -> Q .non (L2.ar (L2.ar H d (.xd [(f,y)])) a (b7 n a (.ref C) (some d)))
theorem ua {H : Hp} {Q : VK} {a C : Addr} {f : Str} {y : V} (na : H a = none) (h : ∀ d H2,au H H2 -> H2 a = some (b7 true a (.ref C) (some d)) -> H2 d = some (.xd [(f,y)]) -> d ≠ a -> au H (del H2 a) -> del H2 a d = some (.xd [(f,y)]) -> Q .non H2) {E : XK} :
  jZ C f [.ref a,y] (L2.ar H a (b7 true a (.ref C) none)) Q E := by
 refine ⟨a,y,true,rfl,ae,fun d hd => ?_⟩
 have ne : d ≠ a := by
  intro z
  rw [z,ae] at hd
  cases hd
 have nd : H d = none := by rwa [af ne] at hd
 have g : au H (L2.ar (L2.ar (L2.ar H a (b7 true a (.ref C) none)) d (.xd [(f,y)])) a (b7 true a (.ref C) (some d))) := iz (iz (iz (fun _ _ q => q) na _) nd _) na _
 have e2 : L2.ar (L2.ar (L2.ar H a (b7 true a (.ref C) none)) d (.xd [(f,y)])) a (b7 true a (.ref C) (some d)) d = some (.xd [(f,y)]) := by rw [af ne,ae]
 exact h d _ g ae e2 ne (fun b o q => by rw [dD (aR q na)]; exact g b o q) (by rw [dD ne]; exact e2)
structure dv (P : Program) (w : World) (K : A0) (mg : Str -> Option Value) (base : Heap) (CX : oF) (k : Nat) (f : Addr) (ps : List Str) (dvs : List V) (sp : Sp) where
 fd : FuncData
 ok : bh P w K mg base CX k f fd ps sp
 b : Binds K fd ps []
 bd : ∃ ds,Binds K fd ps ds /\ aM dvs ds
def dv.calm {P : Program} {w : World} {K : A0} {mg : Str -> Option Value} {base : Heap} {k : Nat} {f : Addr} {ps : List Str} {dvs : List V} {sp sp0 : Sp} (D : dv P w K mg base (b9 P w) k f ps dvs sp) (h : ∀ vs H Q E,sp0 vs H Q E -> sp vs H Q E0) : dv P w K mg base bw k f ps dvs sp0 :=
 ⟨D.fd,D.ok.noraise h,D.b,D.bd⟩
def nE (K : A0) (m : Str) (f : Addr) (sp : Sp) (dvs : List V) (ta : TE) (t : TA) : TE := fun σ H Q => ta σ H fun x H1 => ∃ a C dx fs,x = .ref a /\ H1 a = some (.ins C dx fs) /\ oE K C /\ cX K C m f /\ fs.lookup m = none /\
 t σ H1 fun vs H2 => sp (x :: (vs ++ dvs)) H2 Q E0
section
variable {X : Cx} {k j : Nat} {f C : Addr} {ps : List Str} {sp : Sp} {dvs : List V} {x m : Str} {p pos apos : Pos} {e o : Expr} {es : List Expr} {ta tb : TE} {t : TA}
theorem v0 (M : Mk X.K C f) (D : dv X.prog X.w X.K X.mg X.base bw k f ps dvs sp) (hr : bx j X.A) (hk : k + 1 <= j) (hg : Gl X x) (hm : X.mg x = some (.ref C)) (hdb : (x == ("__debug__" : Str)) = false := by decide) : PE X (.Call (.Name x p) [] [] pos) (uZ C sp [] E0 iY) :=
 rA M D.ok (hr.mono hk) hg hm D.b .nil oK hdb
theorem rX {pins : List (Addr × Obj)} {σ : L2.St} {H1 : Hp} {s1 : Shared} {Q : VK} {a dx : Addr} {fs : List (Str × V)} {pl : Sem Bool} {ds : List Value} (F : bh X.prog X.w X.K X.mg X.base bw k f fd ps sp) (hr : bx k X.A) (hb : Binds X.K fd ps ds) (hd : aM dvs ds) (ha : PA X (e :: es) t)
  (hst : starEach (e :: es) X.env = (false,eval e X.env) :: starEach es X.env) (hpl : (backTo pos (starEach es X.env)).any (·.1) = false)
  (I1 : aq X pins σ H1 s1) (ea : H1 a = some (.ins C dx fs)) (c : oE X.K C) (hm : cX X.K C m f) (l : fs.lookup m = none) (q : t σ H1 fun vs H2 => sp (.ref a :: (vs ++ dvs)) H2 Q E0) :
  wpAny (model X.prog X.w) X.A (getMethod (.ref a) m pl) (fun fx s2 => wpAny (model X.prog X.w) X.A (callWith pos fx.1 fx.2 (backTo pos (starEach (e :: es) X.env)) (backToKw pos (keywordEach [] X.env))) (EP X pins σ Q) X.xe s2) X.xe s1 := by
 refine eU I1 ea c hm l ?_
 refine BV (first := [.ref a]) (h₀ := X.base) I1.ok.mod.kin hm.kp (aZ (ha pos pins s1 σ H1 _ I1 q) fun us s2 ⟨vs,H2,I2,r,q2⟩ => ⟨I2.kIn,?_⟩) hst hpl
 exact m4 (us := .ref a :: us) (vs := .ref a :: vs) F hr hb hd oK I2 (.cons rfl r) q2
theorem eW {pl : Sem Bool} (he : PE X o ta) (D : dv X.prog X.w X.K X.mg X.base bw k f ps dvs sp) (hr : bx j X.A) (hk : k <= j) (ha : PA X (e :: es) t)
  (hst : starEach (e :: es) X.env = (false,eval e X.env) :: starEach es X.env := by rfl) (hpl : (backTo pos (starEach es X.env)).any (·.1) = false := by rfl)
  (ht : eval (.Call (.Attribute o m apos) (e :: es) [] pos) X.env = (do
   let ov <- eval o X.env
   standAt apos.atName
   let (f,first) <- holding [ov] (getMethod ov m pl)
   callWith pos f first (backTo pos (starEach (e :: es) X.env)) (backToKw pos (keywordEach [] X.env))) := by rfl) :
  PE X (.Call (.Attribute o m apos) (e :: es) [] pos) (nE X.K m f sp [] ta t) := by
 intro pins s σ H Q I h
 refine PySem.W.methodCall_KW (pl := pl) (aZ (he pins s σ H _ I h) fun u s1 ⟨x,H1,I1,rx,a,C,dx,fs,ex,ea,c,hm,l,q⟩ => ?_) ht
 subst ex
 obtain rfl : u = Value.ref a := rx
 exact rX D.ok (hr.mono hk) D.b .nil ha hst hpl I1 ea c hm l q
theorem nG {pl : Sem Bool} (he : PE X o ta) (D : dv X.prog X.w X.K X.mg X.base bw k f ps dvs sp) (hr : bx j X.A) (hk : k <= j)
  (ht : eval (.Call (.Attribute o m apos) [] [] pos) X.env = (do
   let ov <- eval o X.env
   standAt apos.atName
   let (f,first) <- holding [ov] (getMethod ov m pl)
   callWith pos f first (backTo pos (starEach [] X.env)) (backToKw pos (keywordEach [] X.env))) := by rfl) :
  PE X (.Call (.Attribute o m apos) [] [] pos) (nE X.K m f sp [] ta iY) := by
 intro pins s σ H Q I h
 refine PySem.W.methodCall_KW (pl := pl) (aZ (he pins s σ H _ I h) fun u s1 ⟨x,H1,I1,rx,a,C,dx,fs,ex,ea,c,hm,l,q⟩ => ?_) ht
 subst ex
 obtain rfl : u = Value.ref a := rx
 refine eU I1 ea c hm l ?_
 exact PySem.W.callWith_K0 (first := [.ref a]) I1.kIn hm.kp (m4 (us := [.ref a]) (vs := [.ref a]) D.ok (hr.mono hk) D.b .nil oK I1 (.cons rfl .nil) q)
end
def j0 (K : A0) (m : Str) (f : Addr) (sp : Sp) (dvs : List V) (E : L2.St -> XK) (ta : TE) (t : TA) : TE := fun σ H Q => ta σ H fun x H1 => ∃ a C dx fs,x = .ref a /\ H1 a = some (.ins C dx fs) /\ oE K C /\ cX K C m f /\ fs.lookup m = none /\
 t σ H1 fun vs H2 => sp (x :: (vs ++ dvs)) H2 Q (E σ)
section
variable {X : Cx} {k j : Nat} {f C : Addr} {ps : List Str} {sp : Sp} {dvs : List V} {x m : Str} {p pos apos : Pos} {e o : Expr} {es : List Expr} {ta tb : TE} {t : TA} {E : L2.St -> XK}
theorem ju {pins : List (Addr × Obj)} {σ : L2.St} {H1 : Hp} {s1 : Shared} {Q : VK} {a dx : Addr} {fs : List (Str × V)} {pl : Sem Bool} {ds : List Value} {fd : FuncData} (F : bh X.prog X.w X.K X.mg X.base (b9 X.prog X.w) k f fd ps sp) (hr : bx k X.A) (hb : Binds X.K fd ps ds) (hd : aM dvs ds) (hx : dZ X E) (ha : PA X (e :: es) t)
  (hst : starEach (e :: es) X.env = (false,eval e X.env) :: starEach es X.env) (hpl : (backTo pos (starEach es X.env)).any (·.1) = false)
  (I1 : aq X pins σ H1 s1) (ea : H1 a = some (.ins C dx fs)) (c : oE X.K C) (hm : cX X.K C m f) (l : fs.lookup m = none) (q : t σ H1 fun vs H2 => sp (.ref a :: (vs ++ dvs)) H2 Q (E σ)) :
  wpAny (model X.prog X.w) X.A (getMethod (.ref a) m pl) (fun fx s2 => wpAny (model X.prog X.w) X.A (callWith pos fx.1 fx.2 (backTo pos (starEach (e :: es) X.env)) (backToKw pos (keywordEach [] X.env))) (EP X pins σ Q) X.xe s2) X.xe s1 := by
 refine eU I1 ea c hm l ?_
 refine BV (first := [.ref a]) (h₀ := X.base) I1.ok.mod.kin hm.kp (aZ (ha pos pins s1 σ H1 _ I1 q) fun us s2 ⟨vs,H2,I2,r,q2⟩ => ⟨I2.kIn,?_⟩) hst hpl
 exact oQ (us := .ref a :: us) (vs := .ref a :: vs) F hr hb hd hx I2 (.cons rfl r) q2
theorem j9 {pl : Sem Bool} (D : dv X.prog X.w X.K X.mg X.base (b9 X.prog X.w) k f ps dvs sp) (hr : bx j X.A) (hk : k <= j) (hx : dZ X E) (he : PE X o ta) (ha : PA X (e :: es) t)
  (hst : starEach (e :: es) X.env = (false,eval e X.env) :: starEach es X.env := by rfl) (hpl : (backTo pos (starEach es X.env)).any (·.1) = false := by rfl)
  (ht : eval (.Call (.Attribute o m apos) (e :: es) [] pos) X.env = (do
   let ov <- eval o X.env
   standAt apos.atName
   let (f,first) <- holding [ov] (getMethod ov m pl)
   callWith pos f first (backTo pos (starEach (e :: es) X.env)) (backToKw pos (keywordEach [] X.env))) := by rfl) :
  PE X (.Call (.Attribute o m apos) (e :: es) [] pos) (j0 X.K m f sp [] E ta t) := by
 intro pins s σ H Q I h
 refine PySem.W.methodCall_KW (pl := pl) (aZ (he pins s σ H _ I h) fun u s1 ⟨x,H1,I1,rx,a,C,dx,fs,ex,ea,c,hm,l,q⟩ => ?_) ht
 subst ex
 obtain rfl : u = Value.ref a := rx
 exact ju D.ok (hr.mono hk) D.b .nil hx ha hst hpl I1 ea c hm l q
theorem ub {pl : Sem Bool} (D : dv X.prog X.w X.K X.mg X.base (b9 X.prog X.w) k f ps dvs sp) (hr : bx j X.A) (hk : k <= j) (hx : dZ X E) (he : PE X o ta) (ha : PA X (e :: es) t)
  (hst : starEach (e :: es) X.env = (false,eval e X.env) :: starEach es X.env := by rfl) (hpl : (backTo pos (starEach es X.env)).any (·.1) = false := by rfl)
  (ht : eval (.Call (.Attribute o m apos) (e :: es) [] pos) X.env = (do
   let ov <- eval o X.env
   standAt apos.atName
   let (f,first) <- holding [ov] (getMethod ov m pl)
   callWith pos f first (backTo pos (starEach (e :: es) X.env)) (backToKw pos (keywordEach [] X.env))) := by rfl) :
  PE X (.Call (.Attribute o m apos) (e :: es) [] pos) (j0 X.K m f sp dvs E ta t) := by
 intro pins s σ H Q I h
 obtain ⟨ds,hb,hv⟩ := D.bd
 refine PySem.W.methodCall_KW (pl := pl) (aZ (he pins s σ H _ I h) fun u s1 ⟨x,H1,I1,rx,a,C,dx,fs,ex,ea,c,hm,l,q⟩ => ?_) ht
 subst ex
 obtain rfl : u = Value.ref a := rx
 exact ju D.ok (hr.mono hk) hb hv hx ha hst hpl I1 ea c hm l q
end
end Sw
namespace L2
open PySem PySem.Spec PyProof.Rows XH
def xf (x : Str) : It := ⟨fun i _ => i < x.cps.size,fun i H v H' => H' = H /\ ∃ c,x.cps[i]? = some c /\ v = .str ⟨#[c]⟩,fun i _ => i = x.cps.size⟩
theorem rY {P : Program} {w : World} {K : A0} {tg : Expr} {ty : String} (hty : ty = "str_ascii_iterator" ∨ ty = "str_iterator") (it : Addr) (x : Str) (t : Tok) : Turn P w K tg (xf x) [it] it (fun i h => h.IsStrIter it ty x t i) where
 mem := by simp
 obj := fun i h st b hb => by
  have e : b = it := by simpa using hb
  subst e
  obtain ⟨o,e,c,d⟩ := st
  exact ⟨o,e,fun v z => by rw [d] at z; cases z⟩
 keep := fun i h h' st k => by
  obtain ⟨o,e,c,d⟩ := st
  exact ⟨o,k it (by simp) o e,c,d⟩
 item := by
  intro X hP hw hK hc i pins s σ H E I hf st hg
  subst hP hw hK
  obtain ⟨f0,f1,f2,f3,f4,f5⟩ := hf it (by simp)
  have W : Walks X.prog X.w X.A it [it] [it] x.cps.size (SignAt x) (fun i h => h.IsStrIter it ty x t i) := by
   rcases hty with rfl | rfl
   ·exact Walks.strAscii (I.ok.hd hc) it x t
   ·exact Walks.strWide (I.ok.hd hc) it x t
  refine W.item i s _ _ hg st fun v h' tk hv st' kk => ?_
  obtain ⟨c,u,hc',rfl⟩ := hv
  have I1 : aq X pins σ H { s with heap := h',toks := tk } := I.turned (fun b o hb e => kk b o (by simpa using hb) e) f0 f1 f3 f4 f5
  obtain ⟨o,e,c1,d1⟩ := id st'
  refine ⟨_,rfl,kW (s := { s with heap := h',toks := tk }) (n := ty) e c1 d1 (by rcases hty with rfl | rfl <;> decide) ⟨.str ⟨#[c]⟩,H,I1,⟨u,rfl⟩,⟨rfl,c,hc',rfl⟩,st',fun b hb => (hf b hb).1⟩⟩
 done := by
  intro X hP hw hK hc i pins s σ H E I hf st hg
  subst hP hw hK
  obtain ⟨f0,f1,f2,f3,f4,f5⟩ := hf it (by simp)
  have W : Walks X.prog X.w X.A it [it] [it] x.cps.size (SignAt x) (fun i h => h.IsStrIter it ty x t i) := by
   rcases hty with rfl | rfl
   ·exact Walks.strAscii (I.ok.hd hc) it x t
   ·exact Walks.strWide (I.ok.hd hc) it x t
  have hg' : i = x.cps.size := hg
  subst hg'
  exact W.done s _ _ st fun h' tk kk => ⟨rfl,I.turned (fun b o hb e => kk b o (by simpa using hb) e) f0 f1 f3 f4 f5⟩
 self := fun _ _ _ _ _ st h => by
  rcases hty with rfl | rfl
  ·exact wpAny_pyIter_striter_ascii st h
  ·exact wpAny_pyIter_striter_wide st h
def zf (tl : TE) : TI := fun σ H R => tl σ H fun x H1 => ∃ z,x = .str z /\ R (xf z) H1
section
variable {X : Cx} {tg : Expr}
theorem rZ {l : Expr} {tl : TE} (hl : PE X l tl) : PI X tg l (zf tl) := by
 intro pins s σ H R I h
 refine aZ (hl pins s σ H _ I h) fun v s1 ⟨x,H1,I1,r1,q1⟩ => ?_
 obtain ⟨z,rfl,q⟩ := q1
 obtain ⟨t,rfl⟩ := r1
 have fin : ∀ {ty : String} {o : Obj},(ty = "str_ascii_iterator" ∨ ty = "str_iterator") -> (s1.heap.push o).IsStrIter s1.heap.objs.size ty z t 0 -> yO X pins σ tg R (.ref s1.heap.objs.size) { s1 with heap := s1.heap.push o } := fun {ty o} hty st => by
  refine ⟨s1.heap.objs.size,[s1.heap.objs.size],_,_,H1,rfl,I1.kept (t' := s1.toks) fun b o e => Heap.get?_push_of_some _ e,rY hty _ z t,st,fun b hb => ?_,q⟩
  have e : b = s1.heap.objs.size := by simpa using hb
  subst e
  exact I1.fpOk (A5 _) (I1.hok.fresh (A5 _))
 cases ha : z.cps.all (· < 128)
 ·exact wpAny_pyIter_wide ha (fin (.inr rfl) ⟨_,Heap.get?_push_size _ rfl,rfl,rfl⟩)
 ·exact wpAny_pyIter_ascii ha (fin (.inl rfl) ⟨_,Heap.get?_push_size _ rfl,rfl,rfl⟩)
end
theorem uc {z : Str} {g : TG} {tb : TS} {D : Ends} {σ : St} {H : Hp} (Pv : Nat -> St -> Hp -> Prop) (h0 : Pv 0 σ H)
  (hs : ∀ i c σ H,z.cps[i]? = some c -> Pv i σ H -> g (.str ⟨#[c]⟩) σ H fun σ2 H2 => tb { D with nx := Pv (i + 1),ct := Pv (i + 1),bk := D.nx } σ2 H2) (hd : ∀ σ H,Pv z.cps.size σ H -> D.nx σ H) :
  ∃ W : Nat -> Nat -> St -> Hp -> Prop,(∃ m,W 0 m σ H) /\ ∀ i m σ H,W i m σ H ->
   ((xf z).stop i H /\ D.nx σ H) ∨ ((xf z).go i H /\ ∃ N : St -> Hp -> Prop,(∀ σ' H',N σ' H' -> ∃ m',m' < m /\ W (i + 1) m' σ' H') /\ ∀ x H',(xf z).yld i H x H' -> g x σ H' fun σ2 H2 => tb { D with nx := N,ct := N,bk := D.nx } σ2 H2) := by
 refine ⟨fun i m σ H => m = z.cps.size - i /\ i <= z.cps.size /\ Pv i σ H,⟨z.cps.size,by simp,Al _,h0⟩,?_⟩
 rintro i m σ H ⟨rfl,hi,p⟩
 by_cases hlt : i < z.cps.size
 ·refine .inr ⟨hlt,Pv (i + 1),fun σ' H' p' => ⟨z.cps.size - (i + 1),by omega,rfl,hlt,p'⟩,fun x H' y => ?_⟩
  obtain ⟨e,c,hc,rfl⟩ := y
  subst e
  exact hs i c σ _ hc p
 ·have e : i = z.cps.size := by omega
  subst e
  exact .inl ⟨rfl,hd σ H p⟩
def lM (x : Str) (lo hi : Option Int) : Str := ⟨((x.cps.toList.drop (HT.eC x.length 0 lo)).take (HT.eC x.length x.length hi - HT.eC x.length 0 lo)).toArray⟩
theorem xg (lo hi : Option Int) (n : Nat) : Builtin.Str.strSliceIndices lo hi 1 n = (Bh (HT.eC n n hi - HT.eC n 0 lo)).map (HT.eC n 0 lo + ·) := by
 have h1 : (match lo with | none => (0 : Int) | some i => max 0 (min (if i < 0 then i + (n : Int) else i) n)) = ((HT.eC n 0 lo : Nat) : Int) := by
  cases lo with
  | none => simp [HT.eC]
  | some i =>
   simp only [HT.eC]
   by_cases h : i < 0
   ·simp only [h,if_true] <;> omega
   ·simp only [h,if_false] <;> omega
 have h2 : (match hi with | none => (n : Int) | some i => max 0 (min (if i < 0 then i + (n : Int) else i) n)) = ((HT.eC n n hi : Nat) : Int) := by
  cases hi with
  | none => simp [HT.eC]
  | some i =>
   simp only [HT.eC]
   by_cases h : i < 0
   ·simp only [h,if_true] <;> omega
   ·simp only [h,if_false] <;> omega
 rw [<- sliceRange_one,<- h1,<- h2]
 cases lo <;> cases hi <;> rfl
theorem lN (x : Str) (l u : Option (Int × Tok)) : (⟨((slicePicked x l u none).filterMap (x.cps[·]?)).toArray⟩ : Str) = lM x (l.map (·.1)) (u.map (·.1)) := by
 show (⟨((Builtin.Str.strSliceIndices (l.map (·.1)) (u.map (·.1)) 1 x.length).filterMap (x.cps[·]?)).toArray⟩ : Str) = _
 rw [xg,pick_run]
 rfl
theorem gx (x : Str) (lo hi : Option Int) : (lM x lo hi).length <= x.length := by
 show ((x.cps.toList.drop _).take _).toArray.size <= x.cps.size
 rw [AV,AH,List.length_drop]
 simp only [AJ]
 omega
theorem nH (x : Str) (l u : Option (Int × Tok)) (h : (slicePicked x l u none).length = x.length) : lM x (l.map (·.1)) (u.map (·.1)) = x := by
 have h' : (Builtin.Str.strSliceIndices (l.map (·.1)) (u.map (·.1)) 1 x.length).length = x.length := h
 rw [xg,A8,BN] at h'
 have hs : HT.eC x.length x.length (u.map (·.1)) <= x.length ∨ x.length < HT.eC x.length x.length (u.map (·.1)) := by omega
 have hu : HT.eC x.length x.length (u.map (·.1)) <= x.length := by
  cases u with
  | none => exact A5 _
  | some p =>
   show (if p.1 < 0 then (p.1 + (x.length : Int)).toNat else min p.1.toNat x.length) <= x.length
   by_cases hp : p.1 < 0
   ·rw [if_pos hp]; omega
   ·rw [if_neg hp]; omega
 unfold lM
 by_cases hx : x.length = 0
 ·have e : x.cps.toList = [] := by
   have : x.cps.toList.length = 0 := by rw [AJ]; exact hx
   exact Ar this
  rw [e,List.drop_nil,List.take_nil]
  obtain ⟨c⟩ := x
  have e' : c = #[] := BQ.mp (by simpa using e)
  rw [e']
 ·have h0 : HT.eC x.length 0 (l.map (·.1)) = 0 := by omega
  rw [h0,List.drop_zero,Ak (by rw [AJ]; show x.length <= _; omega)]
theorem part_of {v : Value} {o : Option Int} (p : IsPart v o) : ∃ l : Option (Int × Tok),partValue l = v /\ l.map (·.1) = o := by
 cases p with
 | none => exact ⟨none,rfl,rfl⟩
 | int i t => exact ⟨some (i,t),rfl,rfl⟩
theorem r6 {X : Cx} : yT X (fun x lo hi H Q => ∃ z,x = .str z /\ z.length <= sizeLine /\ Q (.str (lM z lo hi)) H) := by
 intro pins s σ H x v vl vu lo hi sl Q I rx hs pl pu h
 obtain ⟨z,rfl,hz,q⟩ := h
 obtain ⟨t,rfl⟩ := rx
 obtain ⟨l,rfl,rfl⟩ := part_of pl
 obtain ⟨u,rfl,rfl⟩ := part_of pu
 refine ⟨"str",_,slot_str_getitem.lookup,typeIs_str s z t,?_⟩
 refine wpAny_getItem_str_slice (l := l) (u := u) (st := none) hs rfl ?_
 unfold sliceMade
 by_cases hw : (slicePicked z l u none).length = z.length
 ·rw [if_pos (by simp [hw])]
  refine ⟨.str (lM z (l.map (·.1)) (u.map (·.1))),H,I,⟨t,by rw [nH z l u hw]⟩,q⟩
 ·rw [if_neg (by simp [hw])]
  rw [lN]
  exact ⟨Ae (gx _ _ _) hz,.str (lM z (l.map (·.1)) (u.map (·.1))),H,I.tok _,⟨_,rfl⟩,q⟩
end L2
namespace Sw
open PySem PySem.NumText
end Sw
namespace L2
open PySem PySem.Spec PyProof.Rows XH
section
variable {X : Cx} {a b e o : Expr} {es : List Expr} {t te to : TE} {ta : TA} {pos apos cpos : Pos} {x y : Str}
theorem r8 {z : Str} {p : Pos} (hg : Gl X x) (h : ∃ t,X.mg x = some (.str z t)) (hd : (x == ("__debug__" : Str)) = false := by decide) : PE X (.Name x p) (tC (.str z)) := by
 obtain ⟨t,h⟩ := h
 exact bB hg h ⟨t,rfl⟩ hd
theorem lO {i : Int} {p : Pos} (hg : Gl X x) (h : ∃ t,X.mg x = some (.int i t)) (hd : (x == ("__debug__" : Str)) = false := by decide) : PE X (.Name x p) (tC (.int i)) := by
 obtain ⟨t,h⟩ := h
 exact bB hg h ⟨t,rfl⟩ hd
end
end L2
namespace Sw
open PySem L2 XH PySem.NumText
def sL (z : Str) : List Nat := z.cps.toList
def zR (l : List Nat) : Str := ⟨l.toArray⟩
theorem iA (z : Str) : (sL z).length = z.length := by simp [sL,Str.length]
theorem v1 (x y : Str) : sL (x ++ y) = sL x ++ sL y := by
 show (x.cps ++ y.cps).toList = _
 rw [AB]
 rfl
theorem v2 (z : Str) (c : Nat) : (!(Builtin.Str.occurrences z (zR [c]) 0 z.length 1).isEmpty) = decide (c ∈ sL z) := StrLaws.found_one z c
theorem zS {b : Bool} {A B : Prop} (h1 : b = false -> A) (h2 : b = true -> B) : if (!b) = true then A else B := by
 cases b with
 | false => exact cE (h1 rfl)
 | true => exact bU (h2 rfl)
theorem v3 {xs : List V} {i : Int} (h0 : 0 <= i) (h : i < (xs.length : Int)) : ∃ v ∈ xs,k9 xs i = some v := by
 have hk : i.toNat < xs.length := by omega
 have ek : i = ((i.toNat : Nat) : Int) := by omega
 refine ⟨xs[i.toNat],List.getElem_mem hk,?_⟩
 have q : k9 xs ((i.toNat : Nat) : Int) = some xs[i.toNat] := eE (AK hk)
 rw [<- ek] at q
 exact q
end Sw
namespace L2
open PySem PySem.Spec PyProof.Rows XH
section
variable {X : Cx}
theorem lP : ∀ {ws : List Str} {us : List Value},aM (ws.map V.str) us -> StrsAre us ws
 | [],_,h => by cases h; exact .nil
 | w :: ws,_,h => by
  cases h with
  | cons r rr =>
   obtain ⟨t,rfl⟩ := r
   exact .cons _ _ (lP rr)
theorem ud : yi X "str.join" (fun x vs H Q => ∃ z a ws,x = .str z /\ vs = [.ref a] /\ bu X.K H a (ws.map V.str) /\ z.length <= 16 /\ (ws.map (fun x => x.length)).sum + ws.length <= 1048576 /\ Q (.str (Txt.join z ws)) H) := by
 intro pins s σ H x vs v us Q I rx rv h
 obtain ⟨z,a,ws,rfl,rfl,hS,hz,hl,q⟩ := h
 obtain ⟨t,rfl⟩ := rx
 obtain ⟨u,rfl,ru⟩ := vals1 rv
 cases ru
 obtain ⟨its,r,p,_⟩ := I.list hS
 exact join_listW p.isList (by simpa using lP r) hz hl fun t' k => ⟨.str _,H,I.tok _,⟨_,rfl⟩,q⟩
end
end L2
namespace Sw
open PySem L2 XH PySem.NumText
theorem sd (sep : Str) (ws : List Str) : (Txt.join sep ws).length = (ws.map (fun x => x.length)).sum + (ws.length - 1) * sep.length := PySem.size_glued sep ws
theorem eG {n : Nat} : ∀ {ys : List V},(∀ y ∈ ys,∃ z : Str,y = .str z /\ z.length <= n) -> ∃ ws : List Str,ys = ws.map V.str /\ (ws.map (fun x => x.length)).sum <= n * ws.length
 | [],_ => ⟨[],rfl,by simp⟩
 | y :: ys,h => by
  obtain ⟨z,rfl,hz⟩ := h y (by simp)
  obtain ⟨ws,rfl,hw⟩ := eG (n := n) (ys := ys) fun y hy => h y (Ab _ hy)
  refine ⟨z :: ws,rfl,?_⟩
  simp only [An,List.sum_cons,Ad,Nat.mul_add]
  omega
structure kQ (X : Cx) (es : List Expr) (t : TA) : Prop where
 h : PA X es t
theorem ue {X : Cx} : kQ X [] iY := ⟨aj⟩
theorem uf {X : Cx} {z : Str} {p : Pos} {j} {es : List Expr} {t : TA} (h : kQ X es t) : kQ X (.Constant (.str z) j p :: es) (b3 (tC (.str z)) t) := ⟨aa aS h.h⟩
theorem ug {X : Cx} {es : List Expr} {t : TA} {pos : Pos} (h : kQ X es t) : PE X (.List es pos) (m3 t) := bg h.h
def v4 : Str := "abcdefghijklmnopqrstuvwxyz"
def Nm (z : Str) : Prop := 1 <= (sL z).length /\ (sL z).length <= 12 /\ ∀ c ∈ sL z,97 <= c /\ c <= 122
theorem kc (c : Nat) : (!(Builtin.Str.occurrences v4 (zR [c]) 0 v4.length 1).isEmpty) = decide (97 <= c /\ c <= 122) := by
 rw [v2]
 have e : sL v4 = (Bh 26).map (97 + ·) := by decide
 rw [e]
 apply decide_eq_decide.mpr
 constructor
 ·intro h
  obtain ⟨i,hi,rfl⟩ := AZ.mp h
  have := BS.mp hi
  omega
 ·intro h
  exact AZ.mpr ⟨c - 97,BS.mpr (by omega),by omega⟩
def fG (K : A0) : Sp := fun vs H Q _ => ∃ x : V,vs = [x] /\ ((∃ z : Str,x = .str z /\ z.length <= 1000000 /\ (Nm z -> Q (.bl true) H) /\ (¬ Nm z -> Q (.bl false) H)) ∨ ∃ ty,cY K H x ty /\ Ah K ty (.type "str") = some false /\ Q (.bl false) H)
def iB (x : V) : Prop := ∃ z,x = .str z /\ Nm z
def dg (K : A0) (H : Hp) (x : V) : Prop := (∃ z,x = .str z /\ z.length <= 1000000 /\ ¬ Nm z) ∨ ∃ ty,cY K H x ty /\ Ah K ty (.type "str") = some false
theorem dg.same {K : A0} {H H' : Hp} {x : V} (g : au H H') (h : dg K H x) : dg K H' x := by
 rcases h with h | ⟨ty,a,b⟩
 ·exact .inl h
 ·exact .inr ⟨ty,jX g a,b⟩
theorem qi {xs : List V} (h : 1 <= xs.length) : jL xs none (some (-1)) = xs.dropLast := by
 unfold jL
 have e1 : HT.eC xs.length 0 none = 0 := rfl
 have e2 : HT.eC xs.length xs.length (some (-1)) = xs.length - 1 := by
  unfold HT.eC
  simp
  omega
 rw [e1,e2,List.drop_zero,Nat.sub_zero,List.dropLast_eq_take]
def oX : Sp := fun _ _ _ _ => False
theorem v5 {z : Str} (h : Nm z) : z.length <= 1000000 := by
 have := h.2.1
 have e := iA z
 omega
def vc : Sp := fun vs H Q _ => ∃ (l : Addr) (xs : List V),vs = [.ref l] /\ H l = some (.lst xs) /\ (∀ x ∈ xs,iB x) /\ Q .non H
def dE (K : A0) (c : Addr) : Sp := fun vs H Q E => ∃ (l : Addr) (xs : List V),vs = [.ref l] /\ H l = some (.lst xs) /\ (∀ x ∈ xs,iB x ∨ dg K H x) /\ ((∀ x ∈ xs,iB x) -> Q .non H) /\ ((¬ ∀ x ∈ xs,iB x) -> ∀ H',au H H' -> E (.ref c) none H')
theorem v6 {K : A0} {c : Addr} {vs : List V} {H : Hp} {Q : VK} {E : XK} (h : vc vs H Q E) : dE K c vs H Q E0 := by
 obtain ⟨l,xs,e,h1,h2,h3⟩ := h
 exact ⟨l,xs,e,h1,fun x hx => .inl (h2 x hx),fun _ => h3,fun z => absurd h2 z⟩
end Sw
namespace So
open PySem PyProof.Rows
def fH : Bool -> Keyed -> Array Keyed -> Nat -> Nat -> Nat -> StateT SortSt Sem (Option Nat) := sortPriv% PySem.Builtin.gallop
def lQ : Array Keyed -> Array Keyed -> StateT SortSt Sem (Array Keyed) := sortPriv% PySem.Builtin.mergeLo
def lR : Array Keyed -> Array Keyed -> StateT SortSt Sem (Array Keyed) := sortPriv% PySem.Builtin.mergeHi
def kk (κ : KeyKind) (p : Keyed) : κ.α := (κ.keyOf p.1).getD κ.dflt
def Kd (κ : KeyKind) (p : Keyed) : Prop := ∃ a,κ.keyOf p.1 = some a
def lS (prog : Program) (w : World) (A : Around) (E : Value -> Shared -> Prop) (s : Shared) (κ : KeyKind) (kd : SortKind) : Prop := ∀ (st : SortSt) (x y : Keyed) (Q : Option Bool -> SortSt -> Prop),kindOf st = kd -> Kd κ x -> Kd κ y -> Q (some (κ.blt (kk κ x) (kk κ y))) st -> wpS (model prog w) A E s (lt' x y) Q st
section
variable {prog : Program} {w : World} {A : Around} {E : Value -> Shared -> Prop} {s : Shared} {κ : KeyKind} {kd : SortKind}
theorem cK {α β : Type} {st : SortSt} {x : StateT SortSt Sem α} {f : α -> StateT SortSt Sem β} {Q : β -> SortSt -> Prop} (h : wpS (model prog w) A E s (x >>= f) Q st) : wpS (model prog w) A E s (x >>= f) Q st := h
theorem gc (hO : lS prog w A E s κ kd) {st : SortSt} {x y : Keyed} {Q : Option Bool -> SortSt -> Prop} (hk : kindOf st = kd) (hx : Kd κ x) (hy : Kd κ y) (h : Q (some (κ.blt (kk κ x) (kk κ y))) st) : wpS (model prog w) A E s (lt' x y) Q st := hO st x y Q hk hx hy h
theorem az {st : SortSt} {arr : Array Keyed} {i : Nat} {p : Keyed} {Q : Keyed -> SortSt -> Prop} (e : arr[i]? = some p) (h : Q p st) : wpS (model prog w) A E s (elem' arr i) Q st := by
 rw [elem'_eq,e]
 exact wpS_pure h
def bq (κ : KeyKind) (left : Bool) (key x : Keyed) : Bool := if left = true then κ.blt (kk κ x) (kk κ key) else !κ.blt (kk κ key) (kk κ x)
theorem nJ (hO : lS prog w A E s κ kd) {st : SortSt} {arr : Array Keyed} {i : Nat} {left : Bool} {key x : Keyed} {Q : Option Bool -> SortSt -> Prop} (hk : kindOf st = kd) (e : arr[i]? = some x) (hx : Kd κ x) (hy : Kd κ key) (h : Q (some (bq κ left key x)) st) :
  wpS (model prog w) A E s (elem' arr i >>= fun x => if left = true then lt' x key else lt' key x >>= fun r => pure (Option.map (fun x => !x) r)) Q st := by
 refine wpS_bind (az e ?_)
 cases left with
 | true =>
  rw [if_pos rfl]
  exact gc hO hk hx hy h
 | false =>
  rw [if_neg (by decide)]
  exact wpS_bind (gc hO hk hy hx (wpS_pure h))
theorem eZ (hO : lS prog w A E s κ kd) {st : SortSt} {left : Bool} {key : Keyed} {arr : Array Keyed} {base n hint : Nat} {Q : Option Nat -> SortSt -> Prop} (hk : kindOf st = kd) (hy : Kd κ key) (f : Nat -> Bool)
  (seg : ∀ i,i < n -> ∃ x,arr[base + i]? = some x /\ Kd κ x /\ bq κ left key x = f i) (anti : ∀ i j,i <= j -> j < n -> f j = true -> f i = true) (hh : hint < n)
  (h : ∀ k,k <= n -> (∀ i,i < k -> f i = true) -> (∀ i,k <= i -> i < n -> f i = false) -> Q (some k) st) : wpS (model prog w) A E s (fH left key arr base n hint) Q st := by
 have bey : ∀ {i : Nat} {Q : Option Bool -> SortSt -> Prop},i < n -> Q (some (f i)) st -> wpS (model prog w) A E s (elem' arr (base + i) >>= fun x => if left = true then lt' x key else lt' key x >>= fun r => pure (Option.map (fun x => !x) r)) Q st := fun {i Q} hi hq => by
  obtain ⟨x,e,hx,hf⟩ := seg i hi
  exact nJ hO hk e hx hy (by rw [hf]; exact hq)
 have anti' : ∀ i j,i <= j -> j < n -> f i = false -> f j = false := fun i j hij hj hf => by
  cases hc : f j with
  | false => rfl
  | true => rw [anti i j hij hj hc] at hf; cases hf
 unfold fH
 refine cK ?_
 dsimp only
 refine wpS_bind (bey hh ?_)
 dsimp only
 cases hf : f hint with
 | true =>
  rw [if_pos rfl]
  refine wpS_bind (wpS_mono (wpS_forRange (I := fun x c st' => st' = st /\ ∃ l o,c = (none,l,o) /\ hint + l < n /\ f (hint + l) = true /\ l < o /\ x + 1 <= o)
   (Q := fun c st' => st' = st /\ ∃ l o,c = (none,l,o) /\ hint + l < n /\ f (hint + l) = true /\ l < o /\ (n - hint <= o ∨ f (hint + o) = false)) ?s1 ?e1 ⟨rfl,0,1,rfl,hh,hf,by omega,by omega⟩) ?p1)
  case e1 =>
   rintro c st' ⟨rfl,l,o,rfl,h1,h2,h3,h4⟩
   exact ⟨rfl,l,o,rfl,h1,h2,h3,.inl (by omega)⟩
  case s1 =>
   rintro x c st' _ hx ⟨rfl,l,o,rfl,h1,h2,h3,h4⟩
   dsimp only
   by_cases c : o ≥ n - hint
   ·rw [if_pos c]
    exact wpS_pure ⟨rfl,l,o,rfl,h1,h2,h3,.inl c⟩
   ·rw [if_neg c]
    refine wpS_bind (bey (by omega) ?_)
    dsimp only
    cases hg : f (hint + o) with
    | true => exact wpS_pure ⟨rfl,o,2 * o + 1,rfl,by omega,hg,by omega,by omega⟩
    | false => exact wpS_pure ⟨rfl,l,o,rfl,h1,h2,h3,.inr hg⟩
  case p1 =>
   rintro c st' ⟨rfl,l,o,rfl,h1,h2,h3,h4⟩
   dsimp only
   refine wpS_bind (wpS_mono (wpS_forRange (I := fun x c st'' => st'' = st' /\ ∃ l o,c = (none,l,o) /\ l <= o /\ o <= n /\ (∀ i,i < l -> f i = true) /\ (∀ i,o <= i -> i < n -> f i = false) /\ o - l + x <= n)
    (Q := fun c st'' => st'' = st' /\ ∃ k,c = (none,k,k) /\ k <= n /\ (∀ i,i < k -> f i = true) /\ (∀ i,k <= i -> i < n -> f i = false)) ?s2 ?e2 ⟨rfl,_,_,rfl,by omega,by omega,fun i hi => anti i (hint + l) (by omega) h1 h2,fun i hi hn => ?q2,by omega⟩) ?p2)
   case q2 =>
    rcases h4 with h4 | h4
    ·omega
    ·exact anti' (hint + o) i (by omega) hn h4
   case e2 =>
    rintro c st'' ⟨rfl,l,o,rfl,g1,g2,g3,g4,g5⟩
    have : l = o := by omega
    subst this
    exact ⟨rfl,l,rfl,g2,g3,g4⟩
   case s2 =>
    rintro x c st'' _ hx ⟨rfl,l,o,rfl,g1,g2,g3,g4,g5⟩
    dsimp only
    by_cases c : l ≥ o
    ·rw [if_pos c]
     have : l = o := by omega
     subst this
     exact wpS_pure ⟨rfl,l,rfl,g2,g3,g4⟩
    ·rw [if_neg c]
     refine wpS_bind (bey (by omega) ?_)
     dsimp only
     cases hg : f (l + (o - l) / 2) with
     | true => exact wpS_pure ⟨rfl,_,_,rfl,by omega,g2,fun i hi => anti i _ (by omega) (by omega) hg,g4,by omega⟩
     | false => exact wpS_pure ⟨rfl,_,_,rfl,by omega,by omega,g3,fun i hi hn => anti' _ i (by omega) hn hg,by omega⟩
   case p2 =>
    rintro c st'' ⟨rfl,k,rfl,g1,g2,g3⟩
    exact wpS_pure (h k g1 g2 g3)
 | false =>
  rw [if_neg (by decide)]
  refine wpS_bind (wpS_mono (wpS_forRange (I := fun x c st' => st' = st /\ ∃ l o,c = (none,l,o) /\ l <= hint /\ f (hint - l) = false /\ l < o /\ x + 1 <= o)
   (Q := fun c st' => st' = st /\ ∃ l o,c = (none,l,o) /\ l <= hint /\ f (hint - l) = false /\ l < o /\ (hint + 1 <= o ∨ f (hint - o) = true)) ?us1 ?ue1 ⟨rfl,0,1,rfl,by omega,hf,by omega,by omega⟩) ?up1)
  case ue1 =>
   rintro c st' ⟨rfl,l,o,rfl,h1,h2,h3,h4⟩
   exact ⟨rfl,l,o,rfl,h1,h2,h3,.inl (by omega)⟩
  case us1 =>
   rintro x c st' _ hx ⟨rfl,l,o,rfl,h1,h2,h3,h4⟩
   dsimp only
   by_cases c : o ≥ hint + 1
   ·rw [if_pos c]
    exact wpS_pure ⟨rfl,l,o,rfl,h1,h2,h3,.inl c⟩
   ·rw [if_neg c]
    refine wpS_bind (bey (by omega) ?_)
    dsimp only
    cases hg : f (hint - o) with
    | false => exact wpS_pure ⟨rfl,o,2 * o + 1,rfl,by omega,hg,by omega,by omega⟩
    | true => exact wpS_pure ⟨rfl,l,o,rfl,h1,h2,h3,.inr hg⟩
  case up1 =>
   rintro c st' ⟨rfl,l,o,rfl,h1,h2,h3,h4⟩
   dsimp only
   refine wpS_bind (wpS_mono (wpS_forRange (I := fun x c st'' => st'' = st' /\ ∃ l o,c = (none,l,o) /\ l <= o /\ o <= n /\ (∀ i,i < l -> f i = true) /\ (∀ i,o <= i -> i < n -> f i = false) /\ o - l + x <= n)
    (Q := fun c st'' => st'' = st' /\ ∃ k,c = (none,k,k) /\ k <= n /\ (∀ i,i < k -> f i = true) /\ (∀ i,k <= i -> i < n -> f i = false)) ?us2 ?ue2 ⟨rfl,_,_,rfl,by omega,by omega,fun i hi => ?uq2,fun i hi hn => anti' _ i hi hn h2,by omega⟩) ?up2)
   case uq2 =>
    rcases h4 with h4 | h4
    ·omega
    ·exact anti i (hint - o) (by omega) (by omega) h4
   case ue2 =>
    rintro c st'' ⟨rfl,l,o,rfl,g1,g2,g3,g4,g5⟩
    have : l = o := by omega
    subst this
    exact ⟨rfl,l,rfl,g2,g3,g4⟩
   case us2 =>
    rintro x c st'' _ hx ⟨rfl,l,o,rfl,g1,g2,g3,g4,g5⟩
    dsimp only
    by_cases c : l ≥ o
    ·rw [if_pos c]
     have : l = o := by omega
     subst this
     exact wpS_pure ⟨rfl,l,rfl,g2,g3,g4⟩
    ·rw [if_neg c]
     refine wpS_bind (bey (by omega) ?_)
     dsimp only
     cases hg : f (l + (o - l) / 2) with
     | true => exact wpS_pure ⟨rfl,_,_,rfl,by omega,g2,fun i hi => anti i _ (by omega) (by omega) hg,g4,by omega⟩
     | false => exact wpS_pure ⟨rfl,_,_,rfl,by omega,by omega,g3,fun i hi hn => anti' _ i (by omega) hn hg,by omega⟩
   case up2 =>
    rintro c st'' ⟨rfl,k,rfl,g1,g2,g3⟩
    exact wpS_pure (h k g1 g2 g3)
end
def setG (st : SortSt) (g : Nat) : SortSt := SortSt.mk' (kindOf st) (arrOf st) (pendingOf st) g (failedOf st)
def i6 : Nat -> StateT SortSt Sem Unit := sortPriv% PySem.Builtin.setMinGallop
def nK (st st' : SortSt) : Prop := kindOf st' = kindOf st /\ arrOf st' = arrOf st /\ pendingOf st' = pendingOf st /\ failedOf st' = failedOf st
theorem nK.refl (st : SortSt) : nK st st := ⟨rfl,rfl,rfl,rfl⟩
theorem nK.set {st st' : SortSt} (h : nK st st') (g : Nat) : nK st (setG st' g) := ⟨h.1,h.2.1,h.2.2.1,h.2.2.2⟩
def Lq (κ : KeyKind) (p q : Keyed) : Prop := κ.kle (kk κ p) (kk κ q)
section
variable {κ : KeyKind} {kd : SortKind} {a b out : Array Keyed} {ia ib : Nat}
structure Mg (κ : KeyKind) (a b out : Array Keyed) (ia ib : Nat) : Prop where
 perm : (out.toList ++ (a.toList.drop ia ++ b.toList.drop ib)).Perm (a.toList ++ b.toList)
 srt : out.toList.Pairwise (Lq κ)
 lea : ∀ x ∈ out.toList,∀ y ∈ a.toList.drop ia,Lq κ x y
 leb : ∀ x ∈ out.toList,∀ y ∈ b.toList.drop ib,Lq κ x y
def gf (κ : KeyKind) (a b r : Array Keyed) : Prop := r.toList.Perm (a.toList ++ b.toList) /\ r.toList.Pairwise (Lq κ)
theorem Mg.pushB (h : Mg κ a b out ia ib) (sb : b.toList.Pairwise (Lq κ)) {y : Keyed} (e : b[ib]? = some y) (hy : ∀ z ∈ a.toList.drop ia,Lq κ y z) : Mg κ a b (out.push y) ia (ib + 1) := by
 have e' : b.toList[ib]? = some y := by simpa using e
 have dr : b.toList.drop ib = y :: b.toList.drop (ib + 1) := by
  obtain ⟨l,g⟩ := A1.mp e'
  rw [B4 l,g]
 have sb' : (y :: b.toList.drop (ib + 1)).Pairwise (Lq κ) := by rw [<- dr]; exact sb.drop
 have sb2 := BI.mp sb'
 have lb := h.leb
 have pm := h.perm
 rw [dr] at lb pm
 refine ⟨?_,?_,?_,?_⟩
 ·rw [BB,AI]
  refine Bk.trans (Ai _ ?_) pm
  show (y :: (List.drop ia a.toList ++ List.drop (ib + 1) b.toList)).Perm _
  exact (List.perm_middle).symm
 ·rw [BB,A6]
  refine ⟨h.srt,by simp,fun x hx z hz => ?_⟩
  simp at hz
  rw [hz]
  exact lb x hx y (by simp)
 ·intro x hx z hz
  rw [BB] at hx
  rcases A9.mp hx with k | k
  ·exact h.lea x k z hz
  ·simp at k
   rw [k]
   exact hy z hz
 ·intro x hx z hz
  rw [BB] at hx
  rcases A9.mp hx with k | k
  ·exact lb x k z (by simp [hz])
  ·simp at k
   rw [k]
   exact sb2.1 z hz
theorem Mg.runA (h : Mg κ a b out ia ib) (sa : a.toList.Pairwise (Lq κ)) {k : Nat} (hy : ∀ x ∈ (a.toList.drop ia).take k,∀ z ∈ b.toList.drop ib,Lq κ x z) : Mg κ a b (out ++ a.extract ia (ia + k)) (ia + k) ib := by
 have ex : (a.extract ia (ia + k)).toList = (a.toList.drop ia).take k := by
  rw [Ag,AY,BF]
 have dr : a.toList.drop ia = (a.toList.drop ia).take k ++ a.toList.drop (ia + k) := by
  rw [<- List.drop_drop,AR]
 have sa' : ((a.toList.drop ia).take k ++ a.toList.drop (ia + k)).Pairwise (Lq κ) := by rw [<- dr]; exact sa.drop
 have sa2 := A6.mp sa'
 have la := h.lea
 have pm := h.perm
 rw [dr] at la pm
 refine ⟨?_,?_,?_,?_⟩
 ·rw [AB,ex]
  simpa [AI] using pm
 ·rw [AB,ex,A6]
  exact ⟨h.srt,sa2.1,fun x hx z hz => la x hx z (by simp [hz])⟩
 ·intro x hx z hz
  rw [AB,ex] at hx
  rcases A9.mp hx with k | k
  ·exact la x k z (by simp [hz])
  ·exact sa2.2.2 x k z hz
 ·intro x hx z hz
  rw [AB,ex] at hx
  rcases A9.mp hx with k | k
  ·exact h.leb x k z hz
  ·exact hy x k z hz
theorem Mg.pushA (h : Mg κ a b out ia ib) (sa : a.toList.Pairwise (Lq κ)) {x : Keyed} (e : a[ia]? = some x) (hy : ∀ z ∈ b.toList.drop ib,Lq κ x z) : Mg κ a b (out.push x) (ia + 1) ib := by
 have e' : a.toList[ia]? = some x := by simpa using e
 have dr : a.toList.drop ia = x :: a.toList.drop (ia + 1) := by
  obtain ⟨l,g⟩ := A1.mp e'
  rw [B4 l,g]
 have q := h.runA sa (k := 1) (by
  rw [dr]
  intro u hu
  simp at hu
  rw [hu]
  exact hy)
 have ex : out ++ a.extract ia (ia + 1) = out.push x := by
  apply BQ.mp
  rw [AB,BB,Ag,AY,BF,dr]
  rfl
 rw [ex] at q
 exact q
theorem Mg.runB (h : Mg κ a b out ia ib) (sb : b.toList.Pairwise (Lq κ)) {k : Nat} (hy : ∀ x ∈ (b.toList.drop ib).take k,∀ z ∈ a.toList.drop ia,Lq κ x z) : Mg κ a b (out ++ b.extract ib (ib + k)) ia (ib + k) := by
 have ex : (b.extract ib (ib + k)).toList = (b.toList.drop ib).take k := by
  rw [Ag,AY,BF]
 have dr : b.toList.drop ib = (b.toList.drop ib).take k ++ b.toList.drop (ib + k) := by
  rw [<- List.drop_drop,AR]
 have sb' : ((b.toList.drop ib).take k ++ b.toList.drop (ib + k)).Pairwise (Lq κ) := by rw [<- dr]; exact sb.drop
 have sb2 := A6.mp sb'
 have lb := h.leb
 have pm := h.perm
 rw [dr] at lb pm
 refine ⟨?_,?_,?_,?_⟩
 ·rw [AB,ex]
  refine Bk.trans ?_ pm
  rw [AI]
  refine Ai _ ?_
  rw [<- AI,<- AI]
  exact Ay _ List.perm_append_comm
 ·rw [AB,ex,A6]
  exact ⟨h.srt,sb2.1,fun x hx z hz => lb x hx z (by simp [hz])⟩
 ·intro x hx z hz
  rw [AB,ex] at hx
  rcases A9.mp hx with k | k
  ·exact h.lea x k z hz
  ·exact hy x k z hz
 ·intro x hx z hz
  rw [AB,ex] at hx
  rcases A9.mp hx with k | k
  ·exact lb x k z (by simp [hz])
  ·exact sb2.2.2 x k z hz
theorem Mg.done (h : Mg κ a b out ia ib) (sa : a.toList.Pairwise (Lq κ)) (sb : b.toList.Pairwise (Lq κ)) (c : a.size <= ia ∨ b.size <= ib) : gf κ a b (out ++ a.extract ia ++ b.extract ib) := by
 have xa : (a.extract ia).toList = a.toList.drop ia := by
  rw [Ag,AY,Ak (by simp)]
 have xb : (b.extract ib).toList = b.toList.drop ib := by
  rw [Ag,AY,Ak (by simp)]
 refine ⟨?_,?_⟩
 ·rw [AB,AB,xa,xb,AI]
  exact h.perm
 ·rw [AB,AB,xa,xb,AI,A6,A6]
  refine ⟨h.srt,⟨sa.drop,sb.drop,fun x hx z hz => ?_⟩,fun x hx z hz => ?_⟩
  ·rcases c with c | c
   ·rw [List.drop_of_length_le (by simpa using c)] at hx
    simp at hx
   ·rw [List.drop_of_length_le (by simpa using c)] at hz
    simp at hz
  ·rcases A9.mp hz with k | k
   ·exact h.lea x hx z k
   ·exact h.leb x hx z k
theorem Mg.lastA (h : Mg κ a b out ia ib) (sa : a.toList.Pairwise (Lq κ)) (sb : b.toList.Pairwise (Lq κ)) (hl : ∀ y ∈ b.toList,∀ x ∈ a.toList.drop (a.size - 1),Lq κ y x) (c : ia + 1 = a.size) : gf κ a b (out ++ b.extract ib ++ a.extract ia) := by
 have xa : (a.extract ia).toList = a.toList.drop ia := by
  rw [Ag,AY,Ak (by simp)]
 have xb : (b.extract ib).toList = b.toList.drop ib := by
  rw [Ag,AY,Ak (by simp)]
 have ca : a.size - 1 = ia := by omega
 rw [ca] at hl
 refine ⟨?_,?_⟩
 ·rw [AB,AB,xa,xb,AI]
  exact Bk.trans (Ai _ List.perm_append_comm) h.perm
 ·rw [AB,AB,xa,xb,AI,A6,A6]
  refine ⟨h.srt,⟨sb.drop,sa.drop,fun x hx z hz => hl x (List.mem_of_mem_drop hx) z hz⟩,fun x hx z hz => ?_⟩
  rcases A9.mp hz with k | k
  ·exact h.leb x hx z k
  ·exact h.lea x hx z k
theorem bS {xs : Array Keyed} (sx : xs.toList.Pairwise (Lq κ)) {i : Nat} {x y : Keyed} (e : xs[i]? = some x) (h : Lq κ y x) : ∀ z ∈ xs.toList.drop i,Lq κ y z := by
 have e' : xs.toList[i]? = some x := by simpa using e
 have dr : xs.toList.drop i = x :: xs.toList.drop (i + 1) := by
  obtain ⟨l,g⟩ := A1.mp e'
  rw [B4 l,g]
 have sx' : (x :: xs.toList.drop (i + 1)).Pairwise (Lq κ) := by rw [<- dr]; exact sx.drop
 have sx2 := BI.mp sx'
 intro z hz
 rw [dr] at hz
 rcases A3.mp hz with k | k
 ·rw [k]; exact h
 ·exact KeyOrd.kle_trans h (sx2.1 z k)
theorem kg {xs : Array Keyed} (sx : xs.toList.Pairwise (Lq κ)) {i j : Nat} {x y : Keyed} (hij : i <= j) (e1 : xs[i]? = some x) (e2 : xs[j]? = some y) : Lq κ x y := by
 refine bS sx e1 (KeyOrd.kle_refl _) y ?_
 have e' : xs.toList[j]? = some y := by simpa using e2
 have : (xs.toList.drop i)[j - i]? = some y := by
  rw [List.getElem?_drop,<- e']
  congr 1
  omega
 exact AL this
end
section
variable {prog : Program} {w : World} {A : Around} {E : Value -> Shared -> Prop} {s : Shared} {κ : KeyKind} {kd : SortKind}
theorem fJ {st : SortSt} {g : Nat} {Q : Unit -> SortSt -> Prop} (h : Q () (setG st g)) : wpS (model prog w) A E s (i6 g) Q st := wpS_modify (f := fun st => setG st g) h
theorem dh {st : SortSt} {r : String} {Q : Unit -> SortSt -> Prop} (h : Q () st) : wpS (model prog w) A E s (liftM (rule r) : StateT SortSt Sem Unit) Q st := wpS_lift (wpAny_rule ⟨rfl,h⟩)
theorem gy (hO : lS prog w A E s κ kd) {st : SortSt} {key : Keyed} {arr : Array Keyed} {base hint n : Nat} {Q : Option Nat -> SortSt -> Prop} (hk : kindOf st = kd) (hy : Kd κ key) (ka : ∀ x ∈ arr.toList,Kd κ x) (sa : arr.toList.Pairwise (Lq κ)) (hn : base + n <= arr.size) (hh : hint < n)
  (h : ∀ k,k <= n -> (∀ i x,i < k -> arr[base + i]? = some x -> Lq κ x key) -> (∀ i x,k <= i -> i < n -> arr[base + i]? = some x -> Lq κ key x) -> Q (some k) st) : wpS (model prog w) A E s (fH false key arr base n hint) Q st := by
 have get : ∀ i,i < n -> ∃ x,arr[base + i]? = some x /\ Kd κ x := fun i hi => by
  have l : base + i < arr.size := by omega
  exact ⟨arr[base + i],AN l,ka _ (by simp)⟩
 refine eZ hO hk hy (fun i => match arr[base + i]? with | some x => bq κ false key x | none => false) (fun i hi => ?_) (fun i j hij hj hf => ?_) hh (fun k hk h1 h2 => h k hk (fun i x hi e => ?_) (fun i x hi hn e => ?_))
 ·obtain ⟨x,e,kx⟩ := get i hi
  exact ⟨x,e,kx,by rw [e]⟩
 ·obtain ⟨x,e,_⟩ := get i (by omega)
  obtain ⟨y,e2,_⟩ := get j hj
  try dsimp only at hf ⊢
  rw [e]
  rw [e2] at hf
  have l := kg sa (show base + i <= base + j by omega) e e2
  have hf' : (!κ.blt (kk κ key) (kk κ y)) = true := hf
  show (!κ.blt (kk κ key) (kk κ x)) = true
  have f1 : κ.blt (kk κ key) (kk κ y) = false := by simpa using hf'
  have f2 : κ.blt (kk κ key) (kk κ x) = false := KeyOrd.kle_trans l f1
  rw [f2]
  rfl
 ·have q := h1 i hi
  try dsimp only at q
  rw [e] at q
  have q' : (!κ.blt (kk κ key) (kk κ x)) = true := q
  show κ.blt (kk κ key) (kk κ x) = false
  simpa using q'
 ·have q := h2 i hi hn
  try dsimp only at q
  rw [e] at q
  have q' : (!κ.blt (kk κ key) (kk κ x)) = false := q
  exact KeyOrd.kle_of_klt (show κ.blt (kk κ key) (kk κ x) = true by simpa using q')
theorem cR (hO : lS prog w A E s κ kd) {st : SortSt} {key : Keyed} {arr : Array Keyed} {base hint n : Nat} {Q : Option Nat -> SortSt -> Prop} (hk : kindOf st = kd) (hy : Kd κ key) (ka : ∀ x ∈ arr.toList,Kd κ x) (sa : arr.toList.Pairwise (Lq κ)) (hn : base + n <= arr.size) (hh : hint < n)
  (h : ∀ k,k <= n -> (∀ i x,i < k -> arr[base + i]? = some x -> Lq κ x key) -> (∀ i x,k <= i -> i < n -> arr[base + i]? = some x -> Lq κ key x) -> Q (some k) st) : wpS (model prog w) A E s (fH true key arr base n hint) Q st := by
 have get : ∀ i,i < n -> ∃ x,arr[base + i]? = some x /\ Kd κ x := fun i hi => by
  have l : base + i < arr.size := by omega
  exact ⟨arr[base + i],AN l,ka _ (by simp)⟩
 refine eZ hO hk hy (fun i => match arr[base + i]? with | some x => bq κ true key x | none => false) (fun i hi => ?_) (fun i j hij hj hf => ?_) hh (fun k hk h1 h2 => h k hk (fun i x hi e => ?_) (fun i x hi hn e => ?_))
 ·obtain ⟨x,e,kx⟩ := get i hi
  exact ⟨x,e,kx,by rw [e]⟩
 ·obtain ⟨x,e,_⟩ := get i (by omega)
  obtain ⟨y,e2,_⟩ := get j hj
  try dsimp only at hf ⊢
  rw [e]
  rw [e2] at hf
  have l := kg sa (show base + i <= base + j by omega) e e2
  exact KeyOrd.klt_of_kle_of_klt l hf
 ·have q := h1 i hi
  try dsimp only at q
  rw [e] at q
  exact KeyOrd.kle_of_klt q
 ·have q := h2 i hi hn
  try dsimp only at q
  rw [e] at q
  exact q
theorem kh {xs : Array Keyed} {key : Keyed} {base k : Nat} (h : ∀ i x,i < k -> xs[base + i]? = some x -> Lq κ x key) : ∀ x ∈ (xs.toList.drop base).take k,Lq κ x key := fun x hx => by
 obtain ⟨i,hi⟩ := AW.mp hx
 have il : i < k := by
  have := (A1.mp hi).1
  rw [AH] at this
  omega
 rw [Av il,List.getElem?_drop] at hi
 exact h i x il (by simpa using hi)
structure Go (κ : KeyKind) (a b : Array Keyed) (m : Nat) (out : Array Keyed) (ia ib : Nat) : Prop where
 mg : Mg κ a b out ia ib
 la : ia + 1 < a.size
 lb : ib < b.size
 far : m <= ia + ib
theorem lT (hO : lS prog w A E s κ kd) {st : SortSt} {a b : Array Keyed} {Q : Array Keyed -> SortSt -> Prop} (hk : kindOf st = kd) (ka : ∀ x ∈ a.toList,Kd κ x) (kb : ∀ x ∈ b.toList,Kd κ x)
  (sa : a.toList.Pairwise (Lq κ)) (sb : b.toList.Pairwise (Lq κ)) (na : 0 < a.size) (nb : 0 < b.size) (h0 : ∀ x y,a[0]? = some x -> b[0]? = some y -> Lq κ y x) (hl : ∀ y ∈ b.toList,∀ x ∈ a.toList.drop (a.size - 1),Lq κ y x)
  (h : ∀ r st',gf κ a b r -> nK st st' -> Q r st') : wpS (model prog w) A E s (lQ a b) Q st := by
 have getA : ∀ {i : Nat},i < a.size -> ∃ x,a[i]? = some x /\ Kd κ x := fun {i} hi => ⟨a[i],AN hi,ka _ (by simp)⟩
 have getB : ∀ {i : Nat},i < b.size -> ∃ x,b[i]? = some x /\ Kd κ x := fun {i} hi => ⟨b[i],AN hi,kb _ (by simp)⟩
 obtain ⟨x0,ex0,kx0⟩ := getA na
 obtain ⟨y0,ey0,ky0⟩ := getB nb
 have M0 : Mg κ a b #[] 0 0 := ⟨by simp,by simp,by simp,by simp⟩
 have M1 : Mg κ a b #[y0] 0 1 := M0.pushB sb ey0 (bS sa ex0 (h0 _ _ ex0 ey0))
 unfold lQ
 refine cK ?_
 try dsimp only
 refine wpS_bind (dh (wpS_bind (az ey0 ?_)))
 by_cases c1 : 1 = b.size
 ·rw [if_pos (beq_iff_eq.mpr c1)]
  exact wpS_pure (h _ _ (M1.done sa sb (.inr (by omega))) (.refl _))
 rw [if_neg (fun z => c1 (beq_iff_eq.mp z))]
 by_cases c2 : 0 + 1 = a.size
 ·rw [if_pos (beq_iff_eq.mpr c2)]
  exact wpS_pure (h _ _ (M1.lastA sa sb hl (by omega)) (.refl _))
 rw [if_neg (fun z => c2 (beq_iff_eq.mp z))]
 refine wpS_bind (wpS_get ?_)
 try dsimp only
 refine wpS_bind (wpS_mono (wpS_forRange
  (I := fun x c st' => nK st st' /\ ∃ out ia ib g,c = (none,out,ia,ib,g) /\ Go κ a b (x + 1) out ia ib)
  (Q := fun c st' => nK st st' /\ ∃ r q,c = (some r,q) /\ gf κ a b r) ?s1 ?e1 ⟨.refl _,_,_,_,_,rfl,⟨M1,by omega,by omega,by omega⟩⟩) ?p1)
 case e1 =>
  rintro c st' ⟨ge,out,ia,ib,g,rfl,go⟩
  have := go.la
  have := go.lb
  have := go.far
  omega
 case p1 =>
  rintro c st' ⟨ge,r,q,rfl,f⟩
  exact wpS_pure (h _ _ f ge)
 case s1 =>
  rintro x c st1 _ hx ⟨ge,out,ia,ib,g,rfl,go⟩
  have hk1 : kindOf st1 = kd := ge.1.trans hk
  try dsimp only
  refine wpS_bind (wpS_mono (wpS_forRange
   (I := fun x' c st' => st' = st1 /\ ∃ out ia ib ac bc,c = (none,out,ia,ib,ac,bc) /\ Go κ a b (x + 1 + x') out ia ib)
   (Q := fun c st' => st' = st1 /\ ((∃ r q,c = (some r,q) /\ gf κ a b r) ∨ ∃ out ia ib ac bc,c = (none,out,ia,ib,ac,bc) /\ Go κ a b (x + 1 + 1) out ia ib)) ?s2 ?e2 ⟨rfl,_,_,_,_,_,rfl,go⟩) ?p2)
  case e2 =>
   rintro c st' ⟨_,out,ia,ib,ac,bc,rfl,go⟩
   have := go.la
   have := go.lb
   have := go.far
   omega
  case s2 =>
   rintro x' c st' _ hx' ⟨rfl,out,ia,ib,ac,bc,rfl,go⟩
   have l1 := go.la
   have l2 := go.lb
   have l3 := go.far
   obtain ⟨xa,exa,kxa⟩ := getA (show ia < a.size by omega)
   obtain ⟨yb,eyb,kyb⟩ := getB l2
   try dsimp only
   refine wpS_bind (az eyb (wpS_bind (az exa (wpS_bind (gc hO hk1 kyb kxa ?_)))))
   try dsimp only
   cases cc : κ.blt (kk κ yb) (kk κ xa) with
   | true =>
    rw [if_pos rfl]
    have M2 := go.mg.pushB sb eyb (bS sa exa (KeyOrd.kle_of_klt cc))
    refine wpS_bind (az eyb ?_)
    by_cases d1 : ib + 1 = b.size
    ·rw [if_pos (beq_iff_eq.mpr d1)]
     exact wpS_pure ⟨rfl,.inl ⟨_,_,rfl,M2.done sa sb (.inr (by omega))⟩⟩
    rw [if_neg (fun z => d1 (beq_iff_eq.mp z))]
    by_cases d2 : bc + 1 ≥ g
    ·rw [if_pos d2]
     exact wpS_pure ⟨rfl,.inr ⟨_,_,_,_,_,rfl,⟨M2,l1,by omega,by omega⟩⟩⟩
    ·rw [if_neg d2]
     exact wpS_pure ⟨rfl,_,_,_,_,_,rfl,⟨M2,l1,by omega,by omega⟩⟩
   | false =>
    rw [if_neg (by decide)]
    have M2 := go.mg.pushA sa exa (bS sb eyb cc)
    refine wpS_bind (az exa ?_)
    by_cases d1 : ia + 1 + 1 = a.size
    ·rw [if_pos (beq_iff_eq.mpr d1)]
     exact wpS_pure ⟨rfl,.inl ⟨_,_,rfl,M2.lastA sa sb hl d1⟩⟩
    rw [if_neg (fun z => d1 (beq_iff_eq.mp z))]
    by_cases d2 : ac + 1 ≥ g
    ·rw [if_pos d2]
     exact wpS_pure ⟨rfl,.inr ⟨_,_,_,_,_,rfl,⟨M2,by omega,l2,by omega⟩⟩⟩
    ·rw [if_neg d2]
     exact wpS_pure ⟨rfl,_,_,_,_,_,rfl,⟨M2,by omega,l2,by omega⟩⟩
  case p2 =>
   rintro c st' ⟨rfl,⟨r,q,rfl,f⟩ | ⟨out,ia,ib,ac,bc,rfl,go⟩⟩
   ·exact wpS_pure ⟨ge,_,_,rfl,f⟩
   try dsimp only
   refine wpS_bind (dh ?_)
   refine wpS_bind (wpS_mono (wpS_forRange
    (I := fun x' c st' => nK st st' /\ ∃ out ia ib g ac bc,c = (none,out,ia,ib,g,ac,bc) /\ Go κ a b (x + 1 + 1 + x') out ia ib)
    (Q := fun c st' => nK st st' /\ ((∃ r q,c = (some r,q) /\ gf κ a b r) ∨ ∃ out ia ib g ac bc,c = (none,out,ia,ib,g,ac,bc) /\ Go κ a b (x + 1 + 1) out ia ib)) ?s3 ?e3 ⟨ge,_,_,_,_,_,_,rfl,go⟩) ?p3)
   case e3 =>
    rintro c st' ⟨_,out,ia,ib,g,ac,bc,rfl,go⟩
    have := go.la
    have := go.lb
    have := go.far
    omega
   case p3 =>
    rintro c st' ⟨ge,⟨r,q,rfl,f⟩ | ⟨out,ia,ib,g,ac,bc,rfl,go⟩⟩
    ·exact wpS_pure ⟨ge,_,_,rfl,f⟩
    ·exact wpS_bind (fJ (wpS_pure ⟨ge.set _,_,_,_,_,rfl,go⟩))
   case s3 =>
    rintro x' c st2 _ hx' ⟨ge2,out,ia,ib,g,ac,bc,rfl,go⟩
    have l1 := go.la
    have l2 := go.lb
    have l3 := go.far
    try dsimp only
    obtain ⟨yb,eyb,kyb⟩ := getB l2
    by_cases cg : g > 1
    all_goals
     first
      | rw [if_pos cg]
      | rw [if_neg cg]
     refine wpS_bind (fJ (wpS_bind (az eyb (wpS_bind (gy hO (ge2.1.trans hk) kyb ka sa (by omega) (by omega) fun k hkn p1 p2 => ?_)))))
     try dsimp only
     have ge3 := ge2.set (st' := st2)
     by_cases ck : k > 0
     ·rw [if_pos ck]
      have M1 := go.mg.runA sa (k := k) (fun u hu z hz => bS sb eyb (kh p1 u hu) z hz)
      by_cases d1 : ia + k + 1 = a.size
      ·rw [if_pos (beq_iff_eq.mpr d1)]
       exact wpS_pure ⟨ge3 _,.inl ⟨_,_,rfl,M1.lastA sa sb hl d1⟩⟩
      rw [if_neg (fun z => d1 (beq_iff_eq.mp z))]
      by_cases d2 : ia + k = a.size
      ·rw [if_pos (beq_iff_eq.mpr d2)]
       exact wpS_pure ⟨ge3 _,.inl ⟨_,_,rfl,M1.done sa sb (.inl (by omega))⟩⟩
      rw [if_neg (fun z => d2 (beq_iff_eq.mp z))]
      obtain ⟨xa,exa,kxa⟩ := getA (show ia + k < a.size by omega)
      have M2 := M1.pushB sb eyb (bS sa exa (p2 k xa (by omega) (by omega) exa))
      refine wpS_bind (az eyb ?_)
      by_cases d3 : ib + 1 = b.size
      ·rw [if_pos (beq_iff_eq.mpr d3)]
       exact wpS_pure ⟨ge3 _,.inl ⟨_,_,rfl,M2.done sa sb (.inr (by omega))⟩⟩
      rw [if_neg (fun z => d3 (beq_iff_eq.mp z))]
      refine wpS_bind (az exa (wpS_bind (cR hO (ge2.1.trans hk) kxa kb sb (by omega) (by omega) fun k1 hk1n r1 r2 => ?_)))
      try dsimp only
      by_cases ck1 : k1 > 0
      ·rw [if_pos ck1]
       have M3 := M2.runB sb (k := k1) (fun u hu z hz => bS sa exa (kh r1 u hu) z hz)
       by_cases d4 : ib + 1 + k1 = b.size
       ·rw [if_pos (beq_iff_eq.mpr d4)]
        exact wpS_pure ⟨ge3 _,.inl ⟨_,_,rfl,M3.done sa sb (.inr (by omega))⟩⟩
       rw [if_neg (fun z => d4 (beq_iff_eq.mp z))]
       obtain ⟨y2,ey2,ky2⟩ := getB (show ib + 1 + k1 < b.size by omega)
       have M4 := M3.pushA sa exa (bS sb ey2 (r2 k1 y2 (by omega) (by omega) ey2))
       refine wpS_bind (az exa ?_)
       by_cases d5 : ia + k + 1 + 1 = a.size
       ·rw [if_pos (beq_iff_eq.mpr d5)]
        exact wpS_pure ⟨ge3 _,.inl ⟨_,_,rfl,M4.lastA sa sb hl d5⟩⟩
       rw [if_neg (fun z => d5 (beq_iff_eq.mp z))]
       split
       ·exact wpS_pure ⟨ge3 _,.inr ⟨_,_,_,_,_,_,rfl,⟨M4,by omega,by omega,by omega⟩⟩⟩
       ·exact wpS_pure ⟨ge3 _,_,_,_,_,_,_,rfl,⟨M4,by omega,by omega,by omega⟩⟩
      ·rw [if_neg ck1]
       obtain ⟨y2,ey2,ky2⟩ := getB (show ib + 1 < b.size by omega)
       have M4 := M2.pushA sa exa (bS sb ey2 (r2 0 y2 (by omega) (by omega) ey2))
       refine wpS_bind (az exa ?_)
       by_cases d5 : ia + k + 1 + 1 = a.size
       ·rw [if_pos (beq_iff_eq.mpr d5)]
        exact wpS_pure ⟨ge3 _,.inl ⟨_,_,rfl,M4.lastA sa sb hl d5⟩⟩
       rw [if_neg (fun z => d5 (beq_iff_eq.mp z))]
       split
       ·exact wpS_pure ⟨ge3 _,.inr ⟨_,_,_,_,_,_,rfl,⟨M4,by omega,by omega,by omega⟩⟩⟩
       ·exact wpS_pure ⟨ge3 _,_,_,_,_,_,_,rfl,⟨M4,by omega,by omega,by omega⟩⟩
     ·rw [if_neg ck]
      obtain ⟨xa,exa,kxa⟩ := getA (show ia < a.size by omega)
      have M2 := go.mg.pushB sb eyb (bS sa exa (p2 0 xa (by omega) (by omega) exa))
      refine wpS_bind (az eyb ?_)
      by_cases d3 : ib + 1 = b.size
      ·rw [if_pos (beq_iff_eq.mpr d3)]
       exact wpS_pure ⟨ge3 _,.inl ⟨_,_,rfl,M2.done sa sb (.inr (by omega))⟩⟩
      rw [if_neg (fun z => d3 (beq_iff_eq.mp z))]
      refine wpS_bind (az exa (wpS_bind (cR hO (ge2.1.trans hk) kxa kb sb (by omega) (by omega) fun k1 hk1n r1 r2 => ?_)))
      try dsimp only
      by_cases ck1 : k1 > 0
      ·rw [if_pos ck1]
       have M3 := M2.runB sb (k := k1) (fun u hu z hz => bS sa exa (kh r1 u hu) z hz)
       by_cases d4 : ib + 1 + k1 = b.size
       ·rw [if_pos (beq_iff_eq.mpr d4)]
        exact wpS_pure ⟨ge3 _,.inl ⟨_,_,rfl,M3.done sa sb (.inr (by omega))⟩⟩
       rw [if_neg (fun z => d4 (beq_iff_eq.mp z))]
       obtain ⟨y2,ey2,ky2⟩ := getB (show ib + 1 + k1 < b.size by omega)
       have M4 := M3.pushA sa exa (bS sb ey2 (r2 k1 y2 (by omega) (by omega) ey2))
       refine wpS_bind (az exa ?_)
       by_cases d5 : ia + 1 + 1 = a.size
       ·rw [if_pos (beq_iff_eq.mpr d5)]
        exact wpS_pure ⟨ge3 _,.inl ⟨_,_,rfl,M4.lastA sa sb hl d5⟩⟩
       rw [if_neg (fun z => d5 (beq_iff_eq.mp z))]
       split
       ·exact wpS_pure ⟨ge3 _,.inr ⟨_,_,_,_,_,_,rfl,⟨M4,by omega,by omega,by omega⟩⟩⟩
       ·exact wpS_pure ⟨ge3 _,_,_,_,_,_,_,rfl,⟨M4,by omega,by omega,by omega⟩⟩
      ·rw [if_neg ck1]
       obtain ⟨y2,ey2,ky2⟩ := getB (show ib + 1 < b.size by omega)
       have M4 := M2.pushA sa exa (bS sb ey2 (r2 0 y2 (by omega) (by omega) ey2))
       refine wpS_bind (az exa ?_)
       by_cases d5 : ia + 1 + 1 = a.size
       ·rw [if_pos (beq_iff_eq.mpr d5)]
        exact wpS_pure ⟨ge3 _,.inl ⟨_,_,rfl,M4.lastA sa sb hl d5⟩⟩
       rw [if_neg (fun z => d5 (beq_iff_eq.mp z))]
       split
       ·exact wpS_pure ⟨ge3 _,.inr ⟨_,_,_,_,_,_,rfl,⟨M4,by omega,by omega,by omega⟩⟩⟩
       ·exact wpS_pure ⟨ge3 _,_,_,_,_,_,_,rfl,⟨M4,by omega,by omega,by omega⟩⟩
end
section
variable {κ : KeyKind} {kd : SortKind} {a b out : Array Keyed} {na nb : Nat}
structure Mh (κ : KeyKind) (a b out : Array Keyed) (na nb : Nat) : Prop where
 perm : (a.toList.take na ++ (b.toList.take nb ++ out.toList.reverse)).Perm (a.toList ++ b.toList)
 srt : out.toList.reverse.Pairwise (Lq κ)
 gea : ∀ x ∈ out.toList,∀ y ∈ a.toList.take na,Lq κ y x
 geb : ∀ x ∈ out.toList,∀ y ∈ b.toList.take nb,Lq κ y x
theorem Mh.runA (h : Mh κ a b out na nb) (sa : a.toList.Pairwise (Lq κ)) {k : Nat} (hk : k <= na) (hy : ∀ x ∈ (a.toList.take na).drop k,∀ z ∈ b.toList.take nb,Lq κ z x) : Mh κ a b (out ++ (a.extract k na).reverse) k nb := by
 have ex : (a.extract k na).toList = (a.toList.take na).drop k := by
  rw [Ag,AY,List.drop_take]
 have dr : a.toList.take na = a.toList.take k ++ (a.toList.take na).drop k := by
  have e := (AR k (a.toList.take na)).symm
  rw [List.take_take,BZ hk] at e
  exact e
 have sa' : (a.toList.take k ++ (a.toList.take na).drop k).Pairwise (Lq κ) := by rw [<- dr]; exact sa.take
 have sa2 := A6.mp sa'
 have to : (out ++ (a.extract k na).reverse).toList = out.toList ++ ((a.toList.take na).drop k).reverse := by rw [AB,BM,ex]
 have tr : (out ++ (a.extract k na).reverse).toList.reverse = (a.toList.take na).drop k ++ out.toList.reverse := by rw [to,List.reverse_append,List.reverse_reverse]
 have ga := h.gea
 have pm := h.perm
 rw [dr] at pm
 have ga' : ∀ x ∈ out.toList,∀ y ∈ (a.toList.take k ++ (a.toList.take na).drop k),Lq κ y x := by rw [<- dr]; exact ga
 refine ⟨?_,?_,?_,?_⟩
 ·rw [tr]
  refine Bk.trans ?_ pm
  rw [AI]
  refine Ai _ ?_
  rw [<- AI,<- AI]
  exact Ay _ List.perm_append_comm
 ·rw [tr,A6]
  exact ⟨sa2.2.1,h.srt,fun x hx z hz => ga' z (by simpa using hz) x (AD _ hx)⟩
 ·intro x hx z hz
  rw [to] at hx
  rcases A9.mp hx with c | c
  ·exact ga' x c z (Aj _ hz)
  ·exact sa2.2.2 z hz x (B7.mp c)
 ·intro x hx z hz
  rw [to] at hx
  rcases A9.mp hx with c | c
  ·exact h.geb x c z hz
  ·exact hy x (B7.mp c) z hz
theorem Mh.runB (h : Mh κ a b out na nb) (sb : b.toList.Pairwise (Lq κ)) {k : Nat} (hk : k <= nb) (hy : ∀ x ∈ (b.toList.take nb).drop k,∀ z ∈ a.toList.take na,Lq κ z x) : Mh κ a b (out ++ (b.extract k nb).reverse) na k := by
 have ex : (b.extract k nb).toList = (b.toList.take nb).drop k := by
  rw [Ag,AY,List.drop_take]
 have dr : b.toList.take nb = b.toList.take k ++ (b.toList.take nb).drop k := by
  have e := (AR k (b.toList.take nb)).symm
  rw [List.take_take,BZ hk] at e
  exact e
 have sb' : (b.toList.take k ++ (b.toList.take nb).drop k).Pairwise (Lq κ) := by rw [<- dr]; exact sb.take
 have sb2 := A6.mp sb'
 have to : (out ++ (b.extract k nb).reverse).toList = out.toList ++ ((b.toList.take nb).drop k).reverse := by rw [AB,BM,ex]
 have tr : (out ++ (b.extract k nb).reverse).toList.reverse = (b.toList.take nb).drop k ++ out.toList.reverse := by rw [to,List.reverse_append,List.reverse_reverse]
 have pm := h.perm
 rw [dr] at pm
 have gb' : ∀ x ∈ out.toList,∀ y ∈ (b.toList.take k ++ (b.toList.take nb).drop k),Lq κ y x := by rw [<- dr]; exact h.geb
 refine ⟨?_,?_,?_,?_⟩
 ·rw [tr]
  refine Bk.trans ?_ pm
  rw [AI]
 ·rw [tr,A6]
  exact ⟨sb2.2.1,h.srt,fun x hx z hz => gb' z (by simpa using hz) x (AD _ hx)⟩
 ·intro x hx z hz
  rw [to] at hx
  rcases A9.mp hx with c | c
  ·exact h.gea x c z hz
  ·exact hy x (B7.mp c) z hz
 ·intro x hx z hz
  rw [to] at hx
  rcases A9.mp hx with c | c
  ·exact gb' x c z (Aj _ hz)
  ·exact sb2.2.2 z hz x (B7.mp c)
theorem ki {xs : Array Keyed} {n : Nat} {x : Keyed} (e : xs[n]? = some x) : xs.extract n (n + 1) = #[x] /\ (xs.toList.take (n + 1)).drop n = [x] := by
 have e' : xs.toList[n]? = some x := by simpa using e
 obtain ⟨l,g⟩ := A1.mp e'
 have q : (xs.toList.take (n + 1)).drop n = [x] := by
  rw [List.drop_take,BF,B4 l,g]
  rfl
 refine ⟨?_,q⟩
 apply BQ.mp
 rw [Ag,AY,<- List.drop_take,q]
theorem Mh.pushA (h : Mh κ a b out (na + 1) nb) (sa : a.toList.Pairwise (Lq κ)) {x : Keyed} (e : a[na]? = some x) (hy : ∀ z ∈ b.toList.take nb,Lq κ z x) : Mh κ a b (out.push x) na nb := by
 have q := h.runA sa (k := na) (by omega) (by
  rw [(ki e).2]
  intro u hu
  simp at hu
  rw [hu]
  exact hy)
 rw [(ki e).1] at q
 have ex : out ++ (#[x] : Array Keyed).reverse = out.push x := by
  apply BQ.mp
  simp
 rw [ex] at q
 exact q
theorem Mh.pushB (h : Mh κ a b out na (nb + 1)) (sb : b.toList.Pairwise (Lq κ)) {x : Keyed} (e : b[nb]? = some x) (hy : ∀ z ∈ a.toList.take na,Lq κ z x) : Mh κ a b (out.push x) na nb := by
 have q := h.runB sb (k := nb) (by omega) (by
  rw [(ki e).2]
  intro u hu
  simp at hu
  rw [hu]
  exact hy)
 rw [(ki e).1] at q
 have ex : out ++ (#[x] : Array Keyed).reverse = out.push x := by
  apply BQ.mp
  simp
 rw [ex] at q
 exact q
theorem Mh.popA (h : Mh κ a b out na nb) (sa : a.toList.Pairwise (Lq κ)) (hn : 0 < na) {x : Keyed} (e : a[na - 1]? = some x) (hy : ∀ z ∈ b.toList.take nb,Lq κ z x) : Mh κ a b (out.push x) (na - 1) nb := by
 have en : na = na - 1 + 1 := by omega
 rw [en] at h
 exact h.pushA sa e hy
theorem Mh.popB (h : Mh κ a b out na nb) (sb : b.toList.Pairwise (Lq κ)) (hn : 0 < nb) {x : Keyed} (e : b[nb - 1]? = some x) (hy : ∀ z ∈ a.toList.take na,Lq κ z x) : Mh κ a b (out.push x) na (nb - 1) := by
 have en : nb = nb - 1 + 1 := by omega
 rw [en] at h
 exact h.pushB sb e hy
theorem lU (xs : Array Keyed) (n : Nat) : (xs.extract 0 n).toList = xs.toList.take n := by
 rw [Ag,AY]
 simp
theorem Mh.done (h : Mh κ a b out na nb) (sa : a.toList.Pairwise (Lq κ)) (sb : b.toList.Pairwise (Lq κ)) (c : na = 0 ∨ nb = 0) : gf κ a b (a.extract 0 na ++ b.extract 0 nb ++ out.reverse) := by
 refine ⟨?_,?_⟩
 ·rw [AB,AB,lU,lU,BM,AI]
  exact h.perm
 ·rw [AB,AB,lU,lU,BM,AI,A6,A6]
  refine ⟨sa.take,⟨sb.take,h.srt,fun x hx z hz => h.geb z (B7.mp hz) x hx⟩,fun x hx z hz => ?_⟩
  rcases A9.mp hz with k | k
  ·rcases c with c | c
   ·rw [c] at hx; simp at hx
   ·rw [c] at k; simp at k
  ·exact h.gea z (B7.mp k) x hx
theorem Mh.firstB (h : Mh κ a b out na nb) (sa : a.toList.Pairwise (Lq κ)) (sb : b.toList.Pairwise (Lq κ)) (hf : ∀ x ∈ b.toList.take 1,∀ z ∈ a.toList,Lq κ x z) (c : nb = 1) : gf κ a b (b.extract 0 nb ++ a.extract 0 na ++ out.reverse) := by
 subst c
 refine ⟨?_,?_⟩
 ·rw [AB,AB,lU,lU,BM]
  have pm := h.perm
  rw [<- AI] at pm
  exact Bk.trans (Ay _ List.perm_append_comm) pm
 ·rw [AB,AB,lU,lU,BM,AI,A6,A6]
  refine ⟨sb.take,⟨sa.take,h.srt,fun x hx z hz => h.gea z (B7.mp hz) x hx⟩,fun x hx z hz => ?_⟩
  rcases A9.mp hz with k | k
  ·exact hf x hx z (List.mem_of_mem_take k)
  ·exact h.geb z (B7.mp k) x hx
theorem gP {xs : Array Keyed} {n : Nat} {z : Keyed} (h : z ∈ xs.toList.take n) : ∃ i,i < n /\ xs[i]? = some z := by
 obtain ⟨i,hi⟩ := AW.mp h
 have il := (A1.mp hi).1
 rw [AH] at il
 rw [Av (by omega)] at hi
 exact ⟨i,by omega,by simpa using hi⟩
theorem nL {xs : Array Keyed} {n k : Nat} {z : Keyed} (h : z ∈ (xs.toList.take n).drop k) : ∃ i,k <= i /\ i < n /\ xs[i]? = some z := by
 obtain ⟨i,hi⟩ := AW.mp h
 rw [List.getElem?_drop] at hi
 obtain ⟨j,hj,e⟩ : ∃ j,j = k + i /\ (xs.toList.take n)[j]? = some z := ⟨_,rfl,hi⟩
 have il := (A1.mp e).1
 rw [AH] at il
 rw [Av (by omega)] at e
 exact ⟨j,by omega,by omega,by simpa using e⟩
theorem d8 {xs : Array Keyed} (sx : xs.toList.Pairwise (Lq κ)) {n : Nat} {x y : Keyed} (hn : 0 < n) (e : xs[n - 1]? = some x) (h : Lq κ x y) : ∀ z ∈ xs.toList.take n,Lq κ z y := fun z hz => by
 obtain ⟨i,hi,ez⟩ := gP hz
 exact KeyOrd.kle_trans (kg sx (by omega) ez e) h
end
structure Gh (κ : KeyKind) (a b : Array Keyed) (m : Nat) (out : Array Keyed) (na nb : Nat) : Prop where
 mh : Mh κ a b out na nb
 la : 0 < na
 lb : 1 < nb
 ha : na <= a.size
 hb : nb <= b.size
 far : na + nb + m <= a.size + b.size
section
variable {prog : Program} {w : World} {A : Around} {E : Value -> Shared -> Prop} {s : Shared} {κ : KeyKind} {kd : SortKind}
theorem lV (hO : lS prog w A E s κ kd) {st : SortSt} {a b : Array Keyed} {Q : Array Keyed -> SortSt -> Prop} (hk : kindOf st = kd) (ka : ∀ x ∈ a.toList,Kd κ x) (kb : ∀ x ∈ b.toList,Kd κ x)
  (sa : a.toList.Pairwise (Lq κ)) (sb : b.toList.Pairwise (Lq κ)) (pa : 0 < a.size) (pb : 0 < b.size) (h0 : ∀ x ∈ b.toList.take 1,∀ z ∈ a.toList,Lq κ x z) (hl : ∀ y ∈ b.toList,∀ x,a[a.size - 1]? = some x -> Lq κ y x)
  (h : ∀ r st',gf κ a b r -> nK st st' -> Q r st') : wpS (model prog w) A E s (lR a b) Q st := by
 have getA : ∀ {i : Nat},i < a.size -> ∃ x,a[i]? = some x /\ Kd κ x := fun {i} hi => ⟨a[i],AN hi,ka _ (by simp)⟩
 have getB : ∀ {i : Nat},i < b.size -> ∃ x,b[i]? = some x /\ Kd κ x := fun {i} hi => ⟨b[i],AN hi,kb _ (by simp)⟩
 obtain ⟨x0,ex0,kx0⟩ := getA (show a.size - 1 < a.size by omega)
 have M0 : Mh κ a b #[] (a.size - 1 + 1) b.size := ⟨by
  rw [Ak (by simp; omega),Ak (by simp)]
  simp,by simp,by simp,by simp⟩
 have M1 : Mh κ a b #[x0] (a.size - 1) b.size := M0.pushA sa ex0 (fun z hz => hl z (List.mem_of_mem_take hz) x0 ex0)
 unfold lR
 refine cK ?_
 try dsimp only
 refine wpS_bind (dh (wpS_bind (az ex0 ?_)))
 by_cases c1 : a.size - 1 = 0
 ·rw [if_pos (beq_iff_eq.mpr c1)]
  exact wpS_pure (h _ _ (M1.done sa sb (.inl c1)) (.refl _))
 rw [if_neg (fun z => c1 (beq_iff_eq.mp z))]
 by_cases c2 : b.size = 1
 ·rw [if_pos (beq_iff_eq.mpr c2)]
  exact wpS_pure (h _ _ (M1.firstB sa sb h0 c2) (.refl _))
 rw [if_neg (fun z => c2 (beq_iff_eq.mp z))]
 refine wpS_bind (wpS_get ?_)
 try dsimp only
 refine wpS_bind (wpS_mono (wpS_forRange
  (I := fun x c st' => nK st st' /\ ∃ out na nb g,c = (none,na,nb,out,g) /\ Gh κ a b (x + 1) out na nb)
  (Q := fun c st' => nK st st' /\ ∃ r q,c = (some r,q) /\ gf κ a b r) ?s1 ?e1 ⟨.refl _,_,_,_,_,rfl,⟨M1,by omega,by omega,by omega,by omega,by omega⟩⟩) ?p1)
 case e1 =>
  rintro c st' ⟨ge,out,na,nb,g,rfl,go⟩
  have := go.la
  have := go.lb
  have := go.far
  omega
 case p1 =>
  rintro c st' ⟨ge,r,q,rfl,f⟩
  exact wpS_pure (h _ _ f ge)
 case s1 =>
  rintro x c st1 _ hx ⟨ge,out,na,nb,g,rfl,go⟩
  have hk1 : kindOf st1 = kd := ge.1.trans hk
  try dsimp only
  refine wpS_bind (wpS_mono (wpS_forRange
   (I := fun x' c st' => st' = st1 /\ ∃ out na nb ac bc,c = (none,na,nb,out,ac,bc) /\ Gh κ a b (x + 1 + x') out na nb)
   (Q := fun c st' => st' = st1 /\ ((∃ r q,c = (some r,q) /\ gf κ a b r) ∨ ∃ out na nb ac bc,c = (none,na,nb,out,ac,bc) /\ Gh κ a b (x + 1 + 1) out na nb)) ?s2 ?e2 ⟨rfl,_,_,_,_,_,rfl,go⟩) ?p2)
  case e2 =>
   rintro c st' ⟨_,out,na,nb,ac,bc,rfl,go⟩
   have := go.la
   have := go.lb
   have := go.far
   omega
  case s2 =>
   rintro x' c st' _ hx' ⟨rfl,out,na,nb,ac,bc,rfl,go⟩
   have l1 := go.la
   have l2 := go.lb
   have l3 := go.far
   have l4 := go.ha
   have l5 := go.hb
   obtain ⟨xa,exa,kxa⟩ := getA (show na - 1 < a.size by omega)
   obtain ⟨yb,eyb,kyb⟩ := getB (show nb - 1 < b.size by omega)
   try dsimp only
   refine wpS_bind (az eyb (wpS_bind (az exa (wpS_bind (gc hO hk1 kyb kxa ?_)))))
   try dsimp only
   cases cc : κ.blt (kk κ yb) (kk κ xa) with
   | true =>
    rw [if_pos rfl]
    have M2 := go.mh.popA sa l1 exa (d8 sb (by omega) eyb (KeyOrd.kle_of_klt cc))
    refine wpS_bind (az exa ?_)
    by_cases d1 : na - 1 = 0
    ·rw [if_pos (beq_iff_eq.mpr d1)]
     exact wpS_pure ⟨rfl,.inl ⟨_,_,rfl,M2.done sa sb (.inl d1)⟩⟩
    rw [if_neg (fun z => d1 (beq_iff_eq.mp z))]
    by_cases d2 : ac + 1 ≥ g
    ·rw [if_pos d2]
     exact wpS_pure ⟨rfl,.inr ⟨_,_,_,_,_,rfl,⟨M2,by omega,l2,by omega,l5,by omega⟩⟩⟩
    ·rw [if_neg d2]
     exact wpS_pure ⟨rfl,_,_,_,_,_,rfl,⟨M2,by omega,l2,by omega,l5,by omega⟩⟩
   | false =>
    rw [if_neg (by decide)]
    have M2 := go.mh.popB sb (by omega) eyb (d8 sa l1 exa cc)
    refine wpS_bind (az eyb ?_)
    by_cases d1 : nb - 1 = 1
    ·rw [if_pos (beq_iff_eq.mpr d1)]
     exact wpS_pure ⟨rfl,.inl ⟨_,_,rfl,M2.firstB sa sb h0 d1⟩⟩
    rw [if_neg (fun z => d1 (beq_iff_eq.mp z))]
    by_cases d2 : bc + 1 ≥ g
    ·rw [if_pos d2]
     exact wpS_pure ⟨rfl,.inr ⟨_,_,_,_,_,rfl,⟨M2,l1,by omega,l4,by omega,by omega⟩⟩⟩
    ·rw [if_neg d2]
     exact wpS_pure ⟨rfl,_,_,_,_,_,rfl,⟨M2,l1,by omega,l4,by omega,by omega⟩⟩
  case p2 =>
   rintro c st' ⟨rfl,⟨r,q,rfl,f⟩ | ⟨out,na,nb,ac,bc,rfl,go⟩⟩
   ·exact wpS_pure ⟨ge,_,_,rfl,f⟩
   try dsimp only
   refine wpS_bind (dh ?_)
   refine wpS_bind (wpS_mono (wpS_forRange
    (I := fun x' c st' => nK st st' /\ ∃ out na nb g ac bc,c = (none,na,nb,out,g,ac,bc) /\ Gh κ a b (x + 1 + 1 + x') out na nb)
    (Q := fun c st' => nK st st' /\ ((∃ r q,c = (some r,q) /\ gf κ a b r) ∨ ∃ out na nb g ac bc,c = (none,na,nb,out,g,ac,bc) /\ Gh κ a b (x + 1 + 1) out na nb)) ?s3 ?e3 ⟨ge,_,_,_,_,_,_,rfl,go⟩) ?p3)
   case e3 =>
    rintro c st' ⟨_,out,na,nb,g,ac,bc,rfl,go⟩
    have := go.la
    have := go.lb
    have := go.far
    omega
   case p3 =>
    rintro c st' ⟨ge,⟨r,q,rfl,f⟩ | ⟨out,na,nb,g,ac,bc,rfl,go⟩⟩
    ·exact wpS_pure ⟨ge,_,_,rfl,f⟩
    ·exact wpS_bind (fJ (wpS_pure ⟨ge.set _,_,_,_,_,rfl,go⟩))
   case s3 =>
    rintro x' c st2 _ hx' ⟨ge2,out,na,nb,g,ac,bc,rfl,go⟩
    have l1 := go.la
    have l2 := go.lb
    have l3 := go.far
    have l4 := go.ha
    have l5 := go.hb
    try dsimp only
    obtain ⟨yb,eyb,kyb⟩ := getB (show nb - 1 < b.size by omega)
    have z0 : ∀ i : Nat,0 + i = i := fun i => Nat.zero_add i
    by_cases cg : g > 1
    all_goals
     first
      | rw [if_pos cg]
      | rw [if_neg cg]
     refine wpS_bind (fJ (wpS_bind (az eyb (wpS_bind (gy hO (ge2.1.trans hk) kyb ka sa (by omega) (by omega) fun k hkn p1 p2 => ?_)))))
     simp only [z0] at p1 p2
     try dsimp only
     have ge3 := ge2.set (st' := st2)
     have pA : ∀ z ∈ a.toList.take k,Lq κ z yb := fun z hz => by
      obtain ⟨i,hi,ez⟩ := gP hz
      exact p1 i z hi ez
     by_cases ck : na - k > 0
     ·rw [if_pos ck]
      have M1 := go.mh.runA sa (k := k) hkn (fun u hu z hz => by
       obtain ⟨i,h1,h2,e⟩ := nL hu
       exact d8 sb (by omega) eyb (p2 i u h1 h2 e) z hz)
      by_cases d1 : k = 0
      ·rw [if_pos (beq_iff_eq.mpr d1)]
       exact wpS_pure ⟨ge3 _,.inl ⟨_,_,rfl,M1.done sa sb (.inl d1)⟩⟩
      rw [if_neg (fun z => d1 (beq_iff_eq.mp z))]
      have M2 := M1.popB sb (by omega) eyb pA
      refine wpS_bind (az eyb ?_)
      by_cases d3 : nb - 1 = 1
      ·rw [if_pos (beq_iff_eq.mpr d3)]
       exact wpS_pure ⟨ge3 _,.inl ⟨_,_,rfl,M2.firstB sa sb h0 d3⟩⟩
      rw [if_neg (fun z => d3 (beq_iff_eq.mp z))]
      obtain ⟨xa,exa,kxa⟩ := getA (show k - 1 < a.size by omega)
      refine wpS_bind (az exa (wpS_bind (cR hO (ge2.1.trans hk) kxa kb sb (by omega) (by omega) fun k1 hk1n r1 r2 => ?_)))
      simp only [z0] at r1 r2
      try dsimp only
      have pB : ∀ z ∈ b.toList.take k1,Lq κ z xa := fun z hz => by
       obtain ⟨i,hi,ez⟩ := gP hz
       exact r1 i z hi ez
      by_cases ck1 : nb - 1 - k1 > 0
      ·rw [if_pos ck1]
       have M3 := M2.runB sb (k := k1) hk1n (fun u hu z hz => by
        obtain ⟨i,h1,h2,e⟩ := nL hu
        exact d8 sa (by omega) exa (r2 i u h1 h2 e) z hz)
       by_cases d4 : k1 = 1
       ·rw [if_pos (beq_iff_eq.mpr d4)]
        exact wpS_pure ⟨ge3 _,.inl ⟨_,_,rfl,M3.firstB sa sb h0 d4⟩⟩
       rw [if_neg (fun z => d4 (beq_iff_eq.mp z))]
       by_cases d6 : k1 = 0
       ·rw [if_pos (beq_iff_eq.mpr d6)]
        exact wpS_pure ⟨ge3 _,.inl ⟨_,_,rfl,M3.done sa sb (.inr d6)⟩⟩
       rw [if_neg (fun z => d6 (beq_iff_eq.mp z))]
       have M4 := M3.popA sa (by omega) exa pB
       refine wpS_bind (az exa ?_)
       by_cases d5 : k - 1 = 0
       ·rw [if_pos (beq_iff_eq.mpr d5)]
        exact wpS_pure ⟨ge3 _,.inl ⟨_,_,rfl,M4.done sa sb (.inl d5)⟩⟩
       rw [if_neg (fun z => d5 (beq_iff_eq.mp z))]
       split
       ·exact wpS_pure ⟨ge3 _,.inr ⟨_,_,_,_,_,_,rfl,⟨M4,by omega,by omega,by omega,by omega,by omega⟩⟩⟩
       ·exact wpS_pure ⟨ge3 _,_,_,_,_,_,_,rfl,⟨M4,by omega,by omega,by omega,by omega,by omega⟩⟩
      ·rw [if_neg ck1]
       have ek : k1 = nb - 1 := by omega
       have M4 := M2.popA sa (by omega) exa (by rw [<- ek]; exact pB)
       refine wpS_bind (az exa ?_)
       by_cases d5 : k - 1 = 0
       ·rw [if_pos (beq_iff_eq.mpr d5)]
        exact wpS_pure ⟨ge3 _,.inl ⟨_,_,rfl,M4.done sa sb (.inl d5)⟩⟩
       rw [if_neg (fun z => d5 (beq_iff_eq.mp z))]
       split
       ·exact wpS_pure ⟨ge3 _,.inr ⟨_,_,_,_,_,_,rfl,⟨M4,by omega,by omega,by omega,by omega,by omega⟩⟩⟩
       ·exact wpS_pure ⟨ge3 _,_,_,_,_,_,_,rfl,⟨M4,by omega,by omega,by omega,by omega,by omega⟩⟩
     ·rw [if_neg ck]
      have ekn : k = na := by omega
      have M2 := go.mh.popB sb (by omega) eyb (by rw [<- ekn]; exact pA)
      refine wpS_bind (az eyb ?_)
      by_cases d3 : nb - 1 = 1
      ·rw [if_pos (beq_iff_eq.mpr d3)]
       exact wpS_pure ⟨ge3 _,.inl ⟨_,_,rfl,M2.firstB sa sb h0 d3⟩⟩
      rw [if_neg (fun z => d3 (beq_iff_eq.mp z))]
      obtain ⟨xa,exa,kxa⟩ := getA (show na - 1 < a.size by omega)
      refine wpS_bind (az exa (wpS_bind (cR hO (ge2.1.trans hk) kxa kb sb (by omega) (by omega) fun k1 hk1n r1 r2 => ?_)))
      simp only [z0] at r1 r2
      try dsimp only
      have pB : ∀ z ∈ b.toList.take k1,Lq κ z xa := fun z hz => by
       obtain ⟨i,hi,ez⟩ := gP hz
       exact r1 i z hi ez
      by_cases ck1 : nb - 1 - k1 > 0
      ·rw [if_pos ck1]
       have M3 := M2.runB sb (k := k1) hk1n (fun u hu z hz => by
        obtain ⟨i,h1,h2,e⟩ := nL hu
        exact d8 sa (by omega) exa (r2 i u h1 h2 e) z hz)
       by_cases d4 : k1 = 1
       ·rw [if_pos (beq_iff_eq.mpr d4)]
        exact wpS_pure ⟨ge3 _,.inl ⟨_,_,rfl,M3.firstB sa sb h0 d4⟩⟩
       rw [if_neg (fun z => d4 (beq_iff_eq.mp z))]
       by_cases d6 : k1 = 0
       ·rw [if_pos (beq_iff_eq.mpr d6)]
        exact wpS_pure ⟨ge3 _,.inl ⟨_,_,rfl,M3.done sa sb (.inr d6)⟩⟩
       rw [if_neg (fun z => d6 (beq_iff_eq.mp z))]
       have M4 := M3.popA sa (by omega) exa pB
       refine wpS_bind (az exa ?_)
       by_cases d5 : na - 1 = 0
       ·rw [if_pos (beq_iff_eq.mpr d5)]
        exact wpS_pure ⟨ge3 _,.inl ⟨_,_,rfl,M4.done sa sb (.inl d5)⟩⟩
       rw [if_neg (fun z => d5 (beq_iff_eq.mp z))]
       split
       ·exact wpS_pure ⟨ge3 _,.inr ⟨_,_,_,_,_,_,rfl,⟨M4,by omega,by omega,by omega,by omega,by omega⟩⟩⟩
       ·exact wpS_pure ⟨ge3 _,_,_,_,_,_,_,rfl,⟨M4,by omega,by omega,by omega,by omega,by omega⟩⟩
      ·rw [if_neg ck1]
       have ek : k1 = nb - 1 := by omega
       have M4 := M2.popA sa (by omega) exa (by rw [<- ek]; exact pB)
       refine wpS_bind (az exa ?_)
       by_cases d5 : na - 1 = 0
       ·rw [if_pos (beq_iff_eq.mpr d5)]
        exact wpS_pure ⟨ge3 _,.inl ⟨_,_,rfl,M4.done sa sb (.inl d5)⟩⟩
       rw [if_neg (fun z => d5 (beq_iff_eq.mp z))]
       split
       ·exact wpS_pure ⟨ge3 _,.inr ⟨_,_,_,_,_,_,rfl,⟨M4,by omega,by omega,by omega,by omega,by omega⟩⟩⟩
       ·exact wpS_pure ⟨ge3 _,_,_,_,_,_,_,rfl,⟨M4,by omega,by omega,by omega,by omega,by omega⟩⟩
end
section
variable {prog : Program} {w : World} {A : Around} {E : Value -> Shared -> Prop} {s : Shared} {κ : KeyKind} {kd : SortKind}
theorem gz (hO : lS prog w A E s κ kd) {st : SortSt} {left : Bool} {key : Keyed} {arr : Array Keyed} {P X S : List Keyed} {hint : Nat} {Q : Option Nat -> SortSt -> Prop} (hk : kindOf st = kd) (hy : Kd κ key) (ka : ∀ x ∈ arr.toList,Kd κ x) (e : arr.toList = P ++ (X ++ S)) (sx : X.Pairwise (Lq κ)) (hh : hint < X.length)
  (h : ∀ X1 X2,X = X1 ++ X2 -> (∀ x ∈ X1,Lq κ x key) -> (∀ x ∈ X2,Lq κ key x) -> Q (some X1.length) st) : wpS (model prog w) A E s (fH left key arr P.length X.length hint) Q st := by
 have at_ : ∀ i,i < X.length -> arr[P.length + i]? = X[i]? := fun i hi => by
  have : arr.toList[P.length + i]? = X[i]? := by
   rw [e,A4 (by omega),BF,AC hi]
  simpa using this
 have get : ∀ i,i < X.length -> ∃ x,X[i]? = some x /\ Kd κ x := fun i hi => ⟨X[i],AK hi,ka _ (by rw [e]; simp)⟩
 have mono : ∀ {i j : Nat} {x y : Keyed},i <= j -> X[i]? = some x -> X[j]? = some y -> Lq κ x y := fun {i j x y} hij h1 h2 => by
  rcases Nat.lt_or_ge i j with c | c
  ·obtain ⟨l1,g1⟩ := A1.mp h1
   obtain ⟨l2,g2⟩ := A1.mp h2
   have := List.pairwise_iff_getElem.mp sx i j l1 l2 c
   rw [g1,g2] at this
   exact this
  ·have : i = j := by omega
   subst this
   rw [h1] at h2
   cases h2
   exact KeyOrd.kle_refl _
 refine eZ hO hk hy (fun i => match X[i]? with | some x => bq κ left key x | none => false) (fun i hi => ?_) (fun i j hij hj hf => ?_) hh (fun k hkn h1 h2 => ?_)
 ·obtain ⟨x,ex,kx⟩ := get i hi
  exact ⟨x,(at_ i hi).trans ex,kx,by rw [ex]⟩
 ·obtain ⟨x,ex,_⟩ := get i (by omega)
  obtain ⟨y,ey,_⟩ := get j hj
  try dsimp only at hf ⊢
  rw [ex]
  rw [ey] at hf
  have l := mono hij ex ey
  cases left with
  | true => exact KeyOrd.klt_of_kle_of_klt l hf
  | false =>
   have hf' : (!κ.blt (kk κ key) (kk κ y)) = true := hf
   have f1 : κ.blt (kk κ key) (kk κ y) = false := by simpa using hf'
   have f2 : κ.blt (kk κ key) (kk κ x) = false := KeyOrd.kle_trans l f1
   show (!κ.blt (kk κ key) (kk κ x)) = true
   rw [f2]
   rfl
 ·have tl : (X.take k).length = k := by rw [AH]; omega
  have q := h (X.take k) (X.drop k) (AR k X).symm (fun x hx => ?_) (fun x hx => ?_)
  ·rw [tl] at q
   exact q
  ·obtain ⟨i,hi⟩ := AW.mp hx
   have il := (A1.mp hi).1
   rw [tl] at il
   rw [Av il] at hi
   have q := h1 i il
   try dsimp only at q
   rw [hi] at q
   cases left with
   | true => exact KeyOrd.kle_of_klt q
   | false =>
    have q' : (!κ.blt (kk κ key) (kk κ x)) = true := q
    show κ.blt (kk κ key) (kk κ x) = false
    simpa using q'
  ·obtain ⟨i,hi⟩ := AW.mp hx
   rw [List.getElem?_drop] at hi
   have il := (A1.mp hi).1
   have q := h2 (k + i) (by omega) il
   try dsimp only at q
   rw [hi] at q
   cases left with
   | true => exact q
   | false =>
    have q' : (!κ.blt (kk κ key) (kk κ x)) = false := q
    exact KeyOrd.kle_of_klt (show κ.blt (kk κ key) (kk κ x) = true by simpa using q')
end
theorem writes (P : Nat) : ∀ (l : List Keyed) (c : Nat) (arr : Array Keyed),P + c + l.length <= arr.size ->
  ((l.zipIdx c).foldl (fun (a : Array Keyed) (q : Keyed × Nat) => a.setIfInBounds (P + q.2) q.1) arr).toList = arr.toList.take (P + c) ++ l ++ arr.toList.drop (P + c + l.length)
 | [],c,arr,h => by simp
 | x :: l,c,arr,h => by
  have hl : P + c < arr.size := by simp at h; omega
  rw [List.zipIdx_cons,List.foldl_cons,writes P l (c + 1) _ (by rw [Array.size_setIfInBounds]; simp at h ⊢; omega)]
  have e : (arr.setIfInBounds (P + c) x).toList = arr.toList.set (P + c) x := by simp
  dsimp only
  rw [e]
  have e1 : P + (c + 1) = P + c + 1 := by omega
  rw [e1]
  have hl' : P + c < arr.toList.length := by simpa using hl
  have t1 : (arr.toList.set (P + c) x).take (P + c + 1) = arr.toList.take (P + c) ++ [x] := by
   rw [BR,List.take_set_of_le (A5 _),List.getElem?_set_self hl']
   rfl
  have t2 : (arr.toList.set (P + c) x).drop (P + c + 1 + l.length) = arr.toList.drop (P + c + (x :: l).length) := by
   rw [List.drop_set_of_lt (by omega)]
   congr 1
   simp
   omega
  rw [t1,t2]
  simp
theorem v7 {κ : KeyKind} {X1 X2 Y1 Y2 r : List Keyed} (sx : (X1 ++ X2).Pairwise (Lq κ)) (sy : (Y1 ++ Y2).Pairwise (Lq κ)) (h1 : ∀ x ∈ X1,∀ y ∈ Y1 ++ Y2,Lq κ x y) (h2 : ∀ x ∈ X1 ++ X2,∀ y ∈ Y2,Lq κ x y) (pr : r.Perm (X2 ++ Y1)) (sr : r.Pairwise (Lq κ)) : (X1 ++ (r ++ Y2)).Pairwise (Lq κ) := by
 have x := A6.mp sx
 have y := A6.mp sy
 rw [A6,A6]
 refine ⟨x.1,⟨sr,y.2.1,fun u hu v hv => ?_⟩,fun u hu v hv => ?_⟩
 ·rcases A9.mp (pr.mem_iff.mp hu) with k | k
  ·exact h2 u (AD _ k) v hv
  ·exact y.2.2 u k v hv
 ·rcases A9.mp hv with k | k
  ·rcases A9.mp (pr.mem_iff.mp k) with k | k
   ·exact x.2.2 u hu v k
   ·exact h1 u hu v (Aj _ k)
  ·exact h1 u hu v (AD _ k)
theorem v8 {X1 X2 Y1 Y2 r : List Keyed} (pr : r.Perm (X2 ++ Y1)) : (X1 ++ (r ++ Y2)).Perm ((X1 ++ X2) ++ (Y1 ++ Y2)) := by
 have : (X1 ++ X2) ++ (Y1 ++ Y2) = X1 ++ ((X2 ++ Y1) ++ Y2) := by simp
 rw [this]
 exact Ai _ (Ay _ pr)
theorem uh {M : Model} {A : Around} {E : Value -> Shared -> Prop} {s : Shared} {σ : Type} {st st' : σ} {Q : PUnit -> σ -> Prop} (h : Q ⟨⟩ st') : wpS M A E s (set st' : StateT σ Sem PUnit) Q st := by
 unfold wpS
 rw [StateT.run_set]
 exact wpAny_pure ⟨rfl,h⟩
section
variable {prog : Program} {w : World} {A : Around} {E : Value -> Shared -> Prop} {s : Shared} {κ : KeyKind} {kd : SortKind}
theorem lW (hO : lS prog w A E s κ kd) {st : SortSt} {i : Nat} {P X Y S : List Keyed} {pa pb : Nat} {Q : Bool -> SortSt -> Prop} (hk : kindOf st = kd) (hf : failedOf st = none) (ka : ∀ x ∈ (arrOf st).toList,Kd κ x)
  (e : (arrOf st).toList = P ++ (X ++ (Y ++ S))) (sx : X.Pairwise (Lq κ)) (sy : Y.Pairwise (Lq κ)) (nx : 0 < X.length) (ny : 0 < Y.length)
  (p1 : (pendingOf st)[i]? = some (P.length,X.length,pa)) (p2 : (pendingOf st)[i + 1]? = some (P.length + X.length,Y.length,pb))
  (h : ∀ st' Z,Z.Perm (X ++ Y) -> Z.Pairwise (Lq κ) -> kindOf st' = kd -> failedOf st' = none -> (arrOf st').toList = P ++ (Z ++ S) -> pendingOf st' = ((pendingOf st).setIfInBounds i (P.length,X.length + Y.length,pa)).eraseIdxIfInBounds (i + 1) -> Q true st') :
  wpS (model prog w) A E s (mergeAt' i) Q st := by
 unfold mergeAt'
 refine cK ?_
 try dsimp only
 have ix : ∀ {U V : List Keyed} {v : Keyed},(arrOf st).toList = U ++ v :: V -> (arrOf st)[U.length]? = some v := fun {U V v} q => by
  have : (arrOf st).toList[U.length]? = some v := by rw [q]; simp
  simpa using this
 have sub : ∀ {U V W : List Keyed},(arrOf st).toList = U ++ (V ++ W) -> ((arrOf st).extract U.length (U.length + V.length)).toList = V := fun {U V W} q => by
  rw [Ag,AY,q]
  simp
 obtain ⟨y0,Y',rfl⟩ : ∃ y0 Y',Y = y0 :: Y' := by
  cases Y with
  | nil => simp at ny
  | cons y Y => exact ⟨y,Y,rfl⟩
 have sy' := BI.mp sy
 have ey : (arrOf st)[P.length + X.length]? = some y0 := by
  have := ix (U := P ++ X) (V := Y' ++ S) (v := y0) (by rw [e]; simp)
  rwa [AA] at this
 have mem : ∀ x ∈ X ++ (y0 :: Y'),x ∈ (arrOf st).toList := fun x hx => by
  rw [e]
  rcases A9.mp hx with k | k
  ·simp [k]
  ·simp at k ⊢
   rcases k with k | k
   ·simp [k]
   ·simp [k]
 refine wpS_bind (wpS_get ?_)
 rw [p1,p2]
 try dsimp only
 refine wpS_bind (uh (wpS_bind (az ey (wpS_bind (gz (P := P) (X := X) (S := (y0 :: Y') ++ S) hO hk (ka _ (mem y0 (by simp))) ka e sx nx fun X1 X2 eX q1 q2 => ?_)))))
 try dsimp only
 subst eX
 have lx : (X1 ++ X2).length = X1.length + X2.length := AA
 have leY : ∀ {x : Keyed},Lq κ x y0 -> ∀ y ∈ y0 :: Y',Lq κ x y := fun {x} l y hy => by
  rcases A3.mp hy with k | k
  ·rw [k]; exact l
  ·exact KeyOrd.kle_trans l (sy'.1 y k)
 by_cases c1 : (X1 ++ X2).length - X1.length = 0
 ·rw [if_pos (beq_iff_eq.mpr c1)]
  have x2 : X2 = [] := Ar (by omega)
  subst x2
  refine wpS_pure (h _ ((X1 ++ []) ++ (y0 :: Y')) (List.Perm.refl _) ?_ hk hf (by rw [show arrOf _ = arrOf st from rfl,e]; simp) rfl)
  rw [A6]
  exact ⟨sx,sy,fun x hx y hy => leY (q1 x (by simpa using hx)) y hy⟩
 rw [if_neg (fun z => c1 (beq_iff_eq.mp z))]
 obtain ⟨X3,xl,rfl⟩ : ∃ X3 xl,X2 = X3 ++ [xl] := by
  rcases List.eq_nil_or_concat X2 with z | ⟨a,b,z⟩
  ·subst z; simp at c1
  ·exact ⟨a,b,by rw [z,List.concat_eq_append]⟩
 have lx3 : (X3 ++ [xl]).length = X3.length + 1 := by simp
 have exl : (arrOf st)[P.length + X1.length + ((X1 ++ (X3 ++ [xl])).length - X1.length) - 1]? = some xl := by
  have := ix (U := P ++ (X1 ++ X3)) (V := (y0 :: Y') ++ S) (v := xl) (by rw [e]; simp)
  rw [AA,AA] at this
  rw [<- this]
  congr 1
  omega
 have lexl : ∀ x ∈ X1 ++ (X3 ++ [xl]),Lq κ x xl := fun x hx => by
  have q : ((X1 ++ X3) ++ [xl]).Pairwise (Lq κ) := by rw [AI]; exact sx
  have q' := A6.mp q
  rw [<- AI] at hx
  rcases A9.mp hx with k | k
  ·exact q'.2.2 x k xl (by simp)
  ·simp at k
   rw [k]
   exact KeyOrd.kle_refl _
 have g2 := fun (st2 : SortSt) (hk2 : kindOf st2 = kd) (Q2 : Option Nat -> SortSt -> Prop) hh => gz (prog := prog) (w := w) (A := A) (E := E) (s := s) (st := st2) (left := true) (key := xl) (arr := arrOf st) (P := P ++ (X1 ++ (X3 ++ [xl]))) (X := y0 :: Y') (S := S) (hint := (y0 :: Y').length - 1) (Q := Q2) hO hk2 (ka _ (mem xl (by simp))) ka (by rw [e]; simp) sy (by simp) hh
 rw [show (P ++ (X1 ++ (X3 ++ [xl]))).length = P.length + (X1 ++ (X3 ++ [xl])).length from AA] at g2
 refine wpS_bind (az exl (wpS_bind (g2 _ (by exact hk) _ fun Y1 Y2 eY r1 r2 => ?_)))
 try dsimp only
 have l2 : ∀ x ∈ X1 ++ (X3 ++ [xl]),∀ y ∈ Y2,Lq κ x y := fun x hx y hy => KeyOrd.kle_trans (lexl x hx) (r2 y hy)
 by_cases c2 : Y1.length = 0
 ·rw [if_pos (beq_iff_eq.mpr c2)]
  have y1 : Y1 = [] := Ar c2
  subst y1
  have eY' : Y2 = y0 :: Y' := by simpa using eY.symm
  refine wpS_pure (h _ ((X1 ++ (X3 ++ [xl])) ++ (y0 :: Y')) (List.Perm.refl _) ?_ hk hf (by rw [show arrOf _ = arrOf st from rfl,e]; simp) rfl)
  rw [A6]
  exact ⟨sx,sy,fun x hx y hy => l2 x hx y (by rw [eY']; exact hy)⟩
 rw [if_neg (fun z => c2 (beq_iff_eq.mp z))]
 have xx : ((arrOf st).extract (P.length + X1.length) (P.length + (X1 ++ (X3 ++ [xl])).length)).toList = X3 ++ [xl] := by
  have := sub (U := P ++ X1) (V := X3 ++ [xl]) (W := (y0 :: Y') ++ S) (by rw [e]; simp)
  rw [AA] at this
  have l : P.length + (X1 ++ (X3 ++ [xl])).length = P.length + X1.length + (X3 ++ [xl]).length := by rw [AA]; omega
  rw [l]
  exact this
 have yy : ((arrOf st).extract (P.length + (X1 ++ (X3 ++ [xl])).length) (P.length + (X1 ++ (X3 ++ [xl])).length + Y1.length)).toList = Y1 := by
  have := sub (U := P ++ (X1 ++ (X3 ++ [xl]))) (V := Y1) (W := Y2 ++ S) (by rw [e,eY]; simp)
  rw [AA] at this
  exact this
 generalize (arrOf st).extract (P.length + X1.length) (P.length + (X1 ++ (X3 ++ [xl])).length) = ax at xx ⊢
 generalize (arrOf st).extract (P.length + (X1 ++ (X3 ++ [xl])).length) (P.length + (X1 ++ (X3 ++ [xl])).length + Y1.length) = ay at yy ⊢
 have sX := A6.mp sx
 have sY : (Y1 ++ Y2).Pairwise (Lq κ) := by rw [<- eY]; exact sy
 have sY1 := (A6.mp sY).1
 have kX : ∀ x ∈ ax.toList,Kd κ x := fun x hx => by
  rw [xx] at hx
  exact ka x (mem x (Aj _ (AD _ hx)))
 have kY : ∀ x ∈ ay.toList,Kd κ x := fun x hx => by
  rw [yy] at hx
  exact ka x (mem x (by rw [eY]; simp [hx]))
 have zx : ax.size = X3.length + 1 := by
  have := congrArg BX xx
  simpa using this
 have zy : ay.size = Y1.length := by
  have := congrArg BX yy
  simpa using this
 have y1c : ∃ Y3,Y1 = y0 :: Y3 := by
  cases Y1 with
  | nil => simp at c2
  | cons y Y3 =>
   have : y0 = y := by
    have := congrArg List.head? eY
    simpa using this
   exact ⟨Y3,by rw [this]⟩
 obtain ⟨Y3,eY3⟩ := y1c
 have last : ∀ y ∈ ay.toList,Lq κ y xl := fun y hy => r1 y (by rw [<- yy]; exact hy)
 have axl : ∀ x,ax[ax.size - 1]? = some x -> x = xl := fun x hx => by
  have hx' : ax.toList[ax.size - 1]? = some x := by simpa using hx
  rw [xx,zx,Nat.add_sub_cancel,A4 (A5 _)] at hx'
  simpa using hx'.symm
 have fin : ∀ (r : Array Keyed) (st2 : SortSt),gf κ ax ay r -> kindOf st2 = kd -> failedOf st2 = none -> arrOf st2 = arrOf st -> pendingOf st2 = ((pendingOf st).setIfInBounds i (P.length,(X1 ++ (X3 ++ [xl])).length + (y0 :: Y').length,pa)).eraseIdxIfInBounds (i + 1) ->
   Q true (SortSt.mk' (kindOf st2) (List.foldl (fun (a : Array Keyed) (x : Keyed × Nat) => a.setIfInBounds (P.length + X1.length + x.snd) x.fst) (arrOf st2) r.toList.zipIdx) (pendingOf st2) (gallopOf st2) (failedOf st2)) := by
  rintro r st2 ⟨pr,sr⟩ h1 h2 h3 h4
  rw [xx,yy] at pr
  have rl : r.toList.length = X3.length + 1 + Y1.length := by
   rw [pr.length_eq]
   simp
   omega
  refine h _ (X1 ++ (r.toList ++ Y2)) ?_ (v7 sx sY (fun x hx y hy => leY (q1 x hx) y (by rw [eY]; exact hy)) l2 pr sr) h1 h2 ?_ h4
  ·rw [eY]
   exact v8 pr
  ·show (List.foldl (fun (a : Array Keyed) (x : Keyed × Nat) => a.setIfInBounds (P.length + X1.length + x.snd) x.fst) (arrOf st2) r.toList.zipIdx).toList = _
   rw [h3]
   have sz : (arrOf st).size = P.length + X1.length + (X3.length + 1) + (Y1.length + Y2.length) + S.length := by
    have := congrArg BX e
    rw [eY] at this
    simp at this
    omega
   have w := writes (P.length + X1.length) r.toList 0 (arrOf st) (by rw [rl]; omega)
   rw [w,rl,e,eY]
   have t : P ++ (X1 ++ (X3 ++ [xl]) ++ (Y1 ++ Y2 ++ S)) = (P ++ X1) ++ ((X3 ++ [xl] ++ Y1) ++ (Y2 ++ S)) := by simp
   rw [t]
   have l1 : P.length + X1.length + 0 = (P ++ X1).length := by simp
   have l3 : P.length + X1.length + 0 + (X3.length + 1 + Y1.length) = (P ++ X1).length + (X3 ++ [xl] ++ Y1).length := by simp; omega
   have d : ∀ (A B C : List Keyed),(A ++ (B ++ C)).drop (A.length + B.length) = C := fun A B C => by rw [<- AI,<- AA,List.drop_left]
   rw [l3,l1,d,List.take_left]
   simp
 by_cases c3 : (X1 ++ (X3 ++ [xl])).length - X1.length <= Y1.length
 ·rw [if_pos c3]
  refine wpS_bind (lT hO (by exact hk) kX kY (by rw [xx]; exact sX.2.1) (by rw [yy]; exact sY1) (by omega) (by omega) (fun x y hx hy => ?_) (fun y hy x hx => ?_) fun r st2 mf ge => ?_)
  ·have hx' : ax.toList[0]? = some x := by simpa using hx
   have hy' : ay.toList[0]? = some y := by simpa using hy
   rw [yy,eY3] at hy'
   simp at hy'
   rw [<- hy']
   rw [xx] at hx'
   exact q2 x (AL hx')
  ·rw [xx,zx,Nat.add_sub_cancel,List.drop_left'] at hx
   ·simp at hx
    rw [hx]
    exact last y hy
   ·rfl
  ·refine wpS_bind (wpS_modify (wpS_bind (wpS_get (wpS_pure ?_))))
   have f := fin r st2 mf (ge.1.trans hk) (ge.2.2.2.trans hf) ge.2.1 ge.2.2.1
   have fl : failedOf st2 = none := ge.2.2.2.trans hf
   show Q ((failedOf st2).isNone) _
   rw [fl]
   exact f
 ·rw [if_neg c3]
  refine wpS_bind (lV hO (by exact hk) kX kY (by rw [xx]; exact sX.2.1) (by rw [yy]; exact sY1) (by omega) (by omega) (fun x hx z hz => ?_) (fun y hy x hx => ?_) fun r st2 mf ge => ?_)
  ·rw [yy,eY3] at hx
   simp at hx
   rw [hx]
   rw [xx] at hz
   exact q2 z hz
  ·rw [axl x hx]
   exact last y hy
  ·refine wpS_bind (wpS_modify (wpS_bind (wpS_get (wpS_pure ?_))))
   have f := fin r st2 mf (ge.1.trans hk) (ge.2.2.2.trans hf) ge.2.1 ge.2.2.1
   have fl : failedOf st2 = none := ge.2.2.2.trans hf
   show Q ((failedOf st2).isNone) _
   rw [fl]
   exact f
end
section
variable {prog : Program} {w : World} {A : Around} {E : Value -> Shared -> Prop} {s : Shared} {κ : KeyKind} {kd : SortKind}
theorem ui {arr : Array Keyed} {P R : List Keyed} (e : arr.toList = P ++ R) {i : Nat} {x : Keyed} (h : R[i]? = some x) : arr[P.length + i]? = some x := by
 have : arr.toList[P.length + i]? = some x := by rw [e,A4 (by omega),BF]; exact h
 simpa using this
theorem fK (hO : lS prog w A E s κ kd) {st : SortSt} {P R : List Keyed} {i j i' j' : Nat} {x y : Keyed} {Q : Option Bool -> SortSt -> Prop} (hk : kindOf st = kd) (ka : ∀ x ∈ R,Kd κ x) (e : (arrOf st).toList = P ++ R)
  (hi : R[i]? = some x) (hj : R[j]? = some y) (ei : i' = P.length + i) (ej : j' = P.length + j) (h : Q (some (κ.blt (kk κ x) (kk κ y))) st) : wpS (model prog w) A E s (ltAt' i' j') Q st := by
 subst ei ej
 rw [ltAt'_eq]
 refine wpS_bind (wpS_get ?_)
 exact wpS_bind (az (ui e hi) (wpS_bind (az (ui e hj) (gc hO hk (ka x (AL hi)) (ka y (AL hj)) h))))
theorem take_snoc {R : List Keyed} {n : Nat} {x : Keyed} (h : R[n]? = some x) : R.take (n + 1) = R.take n ++ [x] := by
 rw [BR,h]
 rfl
theorem zh {R : List Keyed} {n : Nat} {x y : Keyed} (h1 : 1 <= n) (hs : (R.take n).Pairwise (Lq κ)) (hy : R[n - 1]? = some y) (hx : R[n]? = some x) (l : Lq κ y x) : (R.take (n + 1)).Pairwise (Lq κ) := by
 have e1 : R.take n = R.take (n - 1) ++ [y] := by
  have := take_snoc hy
  rwa [show n - 1 + 1 = n by omega] at this
 rw [take_snoc hx,A6]
 refine ⟨hs,by simp,fun u hu v hv => ?_⟩
 simp at hv
 rw [hv]
 rw [e1] at hu hs
 rcases A9.mp hu with k | k
 ·exact KeyOrd.kle_trans ((A6.mp hs).2.2 u k y (by simp)) l
 ·simp at k
  rw [k]
  exact l
theorem oY {st : SortSt} {R : List Keyed} {n0 N : Nat} (hN : N = R.length) {body : Nat -> Option (Option Nat) × Nat -> StateT SortSt Sem (ForInStep (Option (Option Nat) × Nat))} {Q : Option (Option Nat) × Nat -> SortSt -> Prop} (h1 : 1 <= n0) (hn : n0 <= R.length) (hs : (R.take n0).Pairwise (Lq κ))
  (hb : ∀ n x y (i : Nat) (Q' : ForInStep (Option (Option Nat) × Nat) -> SortSt -> Prop),1 <= n -> R[n]? = some x -> R[n - 1]? = some y -> (κ.blt (kk κ x) (kk κ y) = true -> Q' (.done (none,n)) st) -> (κ.blt (kk κ x) (kk κ y) = false -> Q' (.yield (none,n + 1)) st) -> wpS (model prog w) A E s (body i (none,n)) Q' st)
  (h : ∀ n,n0 <= n -> n <= R.length -> (R.take n).Pairwise (Lq κ) -> (n = R.length ∨ ∃ x y,R[n]? = some x /\ R[n - 1]? = some y /\ κ.blt (kk κ x) (kk κ y) = true) -> Q (none,n) st) : wpS (model prog w) A E s (forIn [n0:N] (none,n0) body) Q st := by
 subst hN
 refine wpS_forRange (I := fun i c st' => st' = st /\ c = (none,i) /\ n0 <= i /\ (R.take i).Pairwise (Lq κ)) ?_ ?_ ⟨rfl,rfl,A5 _,hs⟩
 ·rintro i c st' hi1 hi2 ⟨rfl,rfl,h3,h4⟩
  have ex := AK hi2
  have ey := AK (show i - 1 < R.length by omega)
  refine hb i _ _ i _ (by omega) ex ey (fun c => h i h3 (by omega) h4 (.inr ⟨_,_,ex,ey,c⟩)) (fun c => ⟨rfl,rfl,by omega,zh (by omega) h4 ey ex c⟩)
 ·rintro c st' ⟨rfl,rfl,h3,h4⟩
  rw [Nat.max_eq_right hn] at h3 h4 ⊢
  exact h _ h3 (A5 _) h4 (.inl rfl)
theorem gB {arr : Array Keyed} {P D S : List Keyed} (e : arr.toList = P ++ (D ++ S)) : (mirror arr P.length (P.length + D.length) ((P.length + D.length - P.length) / 2)).toList = P ++ (D.reverse ++ S) := by
 have sz : arr.size = P.length + (D.length + S.length) := by
  have := congrArg BX e
  simpa using this
 apply List.ext_getElem?
 intro k
 have q := getElem?_mirror_all (xs := arr) (i := P.length) (j := P.length + D.length) (by omega) k
 have q' : (mirror arr P.length (P.length + D.length) ((P.length + D.length - P.length) / 2)).toList[k]? = (mirror arr P.length (P.length + D.length) ((P.length + D.length - P.length) / 2))[k]? := by simp
 have ga : ∀ i,arr[i]? = (P ++ (D ++ S))[i]? := fun i => by rw [<- e,AT]
 rw [q',q,ga,ga]
 by_cases c : P.length <= k /\ k < P.length + D.length
 ·rw [if_pos c,A4 (by omega),AC (by omega),A4 (by omega),AC (by rw [Aw]; omega),List.getElem?_reverse (by omega)]
  congr 1
  omega
 ·rw [if_neg c]
  by_cases c2 : k < P.length
  ·rw [AC c2,AC c2]
  ·rw [A4 (by omega),A4 (by omega),A4 (by omega),A4 (by rw [Aw]; omega),Aw]
structure Kp (st st' : SortSt) : Prop where
 kind : kindOf st' = kindOf st
 failed : failedOf st' = failedOf st
 pend : pendingOf st' = pendingOf st
def NI (κ : KeyKind) (L : List Keyed) (n : Nat) : Prop := ((L.map (kk κ)).take n).Pairwise fun a b => κ.blt a b = false
theorem NI.snoc {L : List Keyed} {n : Nat} {x y : Keyed} (h1 : 1 <= n) (h : NI κ L n) (hy : L[n - 1]? = some y) (hx : L[n]? = some x) (l : κ.blt (kk κ y) (kk κ x) = false) : NI κ L (n + 1) := by
 have ey : (L.map (kk κ))[n - 1]? = some (kk κ y) := by rw [Ac,hy]; rfl
 have ex : (L.map (kk κ))[n]? = some (kk κ x) := by rw [Ac,hx]; rfl
 unfold NI at h ⊢
 have e1 : (L.map (kk κ)).take n = (L.map (kk κ)).take (n - 1) ++ [kk κ y] := by
  have := BR (l := L.map (kk κ)) (i := n - 1)
  rw [show n - 1 + 1 = n by omega,ey] at this
  exact this
 have e2 : (L.map (kk κ)).take (n + 1) = (L.map (kk κ)).take n ++ [kk κ x] := by
  rw [BR,ex]
  rfl
 rw [e2,A6]
 refine ⟨h,by simp,fun u hu v hv => ?_⟩
 simp at hv
 rw [hv]
 rw [e1] at hu h
 rcases A9.mp hu with k | k
 ·have q := (A6.mp h).2.2 u k (kk κ y) (by simp)
  exact KeyOrd.kle_trans (O := κ.toKeyOrd) l q
 ·simp at k
  rw [k]
  exact l
theorem NI.falls {L : List Keyed} {n : Nat} (h : NI κ L n) : (L.take n).Pairwise (fun p q => Lq κ q p) := by
 unfold NI at h
 rw [<- List.map_take,List.pairwise_map] at h
 exact h
def vd (κ : KeyKind) (L : List Keyed) (n m : Nat) : Prop := ∃ (D1 D2 S : List Keyed) (a : κ.α),L = D1 ++ (D2 ++ S) /\ D1.length + D2.length = n /\ D2.length = m + 1 /\ ∀ x ∈ D2,kk κ x = a
theorem qj {D : List Keyed} {a : κ.α} (h : ∀ x ∈ D,kk κ x = a) : D.reverse.map (kk κ) = D.map (kk κ) := by
 have e1 : D.map (kk κ) = List.replicate D.length a := List.eq_replicate_iff.mpr ⟨by simp,fun b hb => by
  obtain ⟨x,hx,rfl⟩ := AZ.mp hb
  exact h x hx⟩
 have e2 : D.reverse.map (kk κ) = List.replicate D.length a := List.eq_replicate_iff.mpr ⟨by simp,fun b hb => by
  obtain ⟨x,hx,rfl⟩ := AZ.mp hb
  exact h x (B7.mp hx)⟩
 rw [e1,e2]
theorem iC {st : SortSt} {P L : List Keyed} {n m i j : Nat} {Q : Unit -> SortSt -> Prop} (e : (arrOf st).toList = P ++ L) (q : vd κ L n m) (ei : i = P.length + n - (m + 1)) (ej : j = P.length + n)
  (h : ∀ st' L',Kp st st' -> (arrOf st').toList = P ++ L' -> L'.Perm L -> L'.map (kk κ) = L.map (kk κ) -> (∀ k,n <= k -> L'[k]? = L[k]?) -> Q () st') : wpS (model prog w) A E s (reverseSlice' i j) Q st := by
 obtain ⟨D1,D2,S,a,rfl,l1,l2,al⟩ := q
 refine wpS_reverse ?_
 have er : (arrOf st).toList = (P ++ D1) ++ (D2 ++ S) := by rw [e]; simp
 have em := gB er
 have i1 : i = (P ++ D1).length := by rw [AA]; omega
 have j1 : j = (P ++ D1).length + D2.length := by rw [AA]; omega
 rw [i1,j1]
 refine h (setArr st (mirror (arrOf st) (P ++ D1).length ((P ++ D1).length + D2.length) (((P ++ D1).length + D2.length - (P ++ D1).length) / 2))) (D1 ++ (D2.reverse ++ S)) ⟨rfl,rfl,rfl⟩ ?_ ?_ ?_ fun k hk => ?_
 ·rw [<- AI]
  exact em
 ·exact Ai _ (Ay _ (List.reverse_perm _))
 ·simp only [BL]
  rw [qj al]
 ·rw [A4 (by omega),A4 (by rw [Aw]; omega),A4 (by omega),A4 (by omega),Aw]
theorem Kp.trans {a b c : SortSt} (h1 : Kp a b) (h2 : Kp b c) : Kp a c := ⟨h2.kind.trans h1.kind,h2.failed.trans h1.failed,h2.pend.trans h1.pend⟩
theorem kj {L : List Keyed} {n : Nat} (h : n < L.length) : vd κ L (n + 1) 0 := by
 refine ⟨L.take n,[L[n]],L.drop (n + 1),kk κ L[n],?_,by rw [AH]; simp; omega,rfl,fun x hx => by simp at hx; rw [hx]⟩
 have := B4 h
 rw [List.singleton_append,<- this,AR]
theorem vd.more {L : List Keyed} {n m : Nat} {x y : Keyed} (h : vd κ L n m) (hy : L[n - 1]? = some y) (hx : L[n]? = some x) (e : kk κ x = kk κ y) : vd κ L (n + 1) (m + 1) := by
 obtain ⟨D1,D2,S,a,rfl,l1,l2,al⟩ := h
 have my : y ∈ D2 := by
  rw [A4 (by omega),AC (by omega)] at hy
  exact AL hy
 rw [A4 (by omega),A4 (by omega)] at hx
 have z : n - D1.length - D2.length = 0 := by omega
 rw [z] at hx
 cases S with
 | nil => simp at hx
 | cons s S =>
  simp at hx
  subst hx
  refine ⟨D1,D2 ++ [s],S,a,by simp,by simp; omega,by simp; omega,fun u hu => ?_⟩
  rcases A9.mp hu with k | k
  ·exact al u k
  ·simp at k
   rw [k,e]
   exact al y my
theorem se {st st6 : SortSt} {P L R : List Keyed} {n : Nat} {f : Unit -> StateT SortSt Sem (Option Nat)} {Q : Option Nat -> SortSt -> Prop} (kp : Kp st st6) (e : (arrOf st6).toList = P ++ L) (pr : L.Perm R) (hn : n <= R.length) (ni : NI κ L n)
  (h : ∀ st7 M,Kp st st7 -> (arrOf st7).toList = P ++ M -> M.Perm R -> (M.take n).Pairwise (Lq κ) -> wpS (model prog w) A E s (f ()) Q st7) : wpS (model prog w) A E s (reverseSlice' P.length (P.length + n) >>= f) Q st6 := by
 have tl : (L.take n).length = n := by rw [AH,pr.length_eq]; omega
 have er : (arrOf st6).toList = P ++ (L.take n ++ L.drop n) := by rw [AR]; exact e
 have em := gB er
 rw [tl] at em
 refine wpS_bind (wpS_reverse (h _ ((L.take n).reverse ++ L.drop n) ⟨kp.kind,kp.failed,kp.pend⟩ em ?_ ?_))
 ·refine Bk.trans (Ay _ (List.reverse_perm _)) ?_
  rw [AR]
  exact pr
 ·rw [List.take_left' (by rw [Aw,tl]),List.pairwise_reverse]
  exact ni.falls
theorem lY (hO : lS prog w A E s κ kd) {st : SortSt} {P R : List Keyed} {Q : Option Nat -> SortSt -> Prop} (hk : kindOf st = kd) (ka : ∀ x ∈ R,Kd κ x) (e : (arrOf st).toList = P ++ R) (hR : 1 <= R.length)
  (h : ∀ st' X S,Kp st st' -> (arrOf st').toList = P ++ (X ++ S) -> X.Pairwise (Lq κ) -> (X ++ S).Perm R -> 1 <= X.length -> Q (some X.length) st') : wpS (model prog w) A E s (countRun' P.length R.length) Q st := by
 have got : ∀ n,1 <= n -> n <= R.length -> (R.take n).Pairwise (Lq κ) -> Q (some n) st := fun n h1 h2 h3 => by
  have q := h st (R.take n) (R.drop n) ⟨rfl,rfl,rfl⟩ (by rw [AR]; exact e) h3 (by rw [AR]) (by rw [AH]; omega)
  rwa [AH,BZ h2] at q
 unfold countRun'
 refine cK ?_
 try dsimp only
 refine wpS_bind (oY (κ := κ) (R := R) rfl (A5 1) hR ?_ (fun n x y i Q' h1 hx hy ht hf => ?_) fun n h1 h2 h3 h4 => ?_)
 ·cases R with
  | nil => simp
  | cons => simp
 ·refine wpS_bind (fK hO hk ka e hx hy rfl (by omega) ?_)
  cases c : κ.blt (kk κ x) (kk κ y) with
  | true => exact wpS_pure (ht c)
  | false => exact wpS_pure (hf c)
 try dsimp only
 by_cases c1 : n = R.length
 ·rw [if_pos (beq_iff_eq.mpr c1)]
  exact wpS_pure (got n h1 h2 h3)
 rw [if_neg (fun z => c1 (beq_iff_eq.mp z))]
 rcases h4 with h4 | ⟨x,y,hx,hy,lt⟩
 ·exact absurd h4 c1
 have nl : n < R.length := by omega
 have all : ∀ (i j : Nat) (u v : Keyed),i <= j -> j < n -> R[i]? = some u -> R[j]? = some v -> Lq κ u v := fun i j u v hij hj hu hv => by
  rcases Nat.lt_or_ge i j with c | c
  ·obtain ⟨l1,g1⟩ := A1.mp hu
   obtain ⟨l2,g2⟩ := A1.mp hv
   have q := List.pairwise_iff_getElem.mp h3 i j (by rw [AH]; omega) (by rw [AH]; omega) c
   rw [List.getElem_take,List.getElem_take,g1,g2] at q
   exact q
  ·have : i = j := by omega
   subst this
   rw [hu] at hv
   cases hv
   exact KeyOrd.kle_refl _
 by_cases c2 : n > 1
 case' pos =>
  rw [if_pos c2]
  obtain ⟨x0,hx0⟩ : ∃ x,R[0]? = some x := ⟨_,AK (by omega)⟩
  refine wpS_bind (fK hO hk ka e hx0 hy rfl (by omega) ?_)
  try dsimp only
  cases rose : κ.blt (kk κ x0) (kk κ y) with
  | true => exact wpS_pure (got n h1 h2 h3)
  | false => ?_
  try dsimp only
  rw [if_neg (by decide)]
  have al : ∀ z ∈ R.take n,kk κ z = kk κ x0 := fun z hz => by
   obtain ⟨k,hk'⟩ := AW.mp hz
   have kn : k < n := by
    have := (A1.mp hk').1
    rw [AH] at this
    omega
   rw [Av kn] at hk'
   have a1 := all 0 k x0 z (by omega) kn hx0 hk'
   have a2 := all k (n - 1) z y (by omega) (by omega) hk' hy
   exact KeyOrd.kle_antisymm (O := κ.toKeyOrd) (KeyOrd.kle_trans (O := κ.toKeyOrd) a2 rose) a1
  have eq0 : vd κ R n (n - 1) := ⟨[],R.take n,R.drop n,kk κ x0,by simp,by rw [AH]; simp; omega,by rw [AH]; omega,al⟩
  have ni0 : NI κ R n := by
   unfold NI
   rw [<- List.map_take]
   refine List.pairwise_map.mpr (List.Pairwise.imp_of_mem (R := fun _ _ => True) (fun {u v} hu hv _ => ?_) (List.pairwise_of_forall fun _ _ => trivial))
   rw [al u hu,al v hv]
   exact κ.irrefl _
  have ni1 : NI κ R (n + 1) := ni0.snoc h1 hy hx (KeyOrd.kle_of_klt lt)
  refine wpS_bind (iC (κ := κ) e eq0 (by omega) rfl fun st1 L0 kp1 e1 p1 m1 _ => ?_)
  have niL : NI κ L0 (n + 1) := by
   unfold NI at ni1 ⊢
   rw [m1]
   exact ni1
 case' neg =>
  rw [if_neg c2]
  have n1 : n = 1 := by omega
  have ni1 : NI κ R (n + 1) := by
   refine NI.snoc h1 ?_ hy hx (KeyOrd.kle_of_klt lt)
   rw [n1]
   unfold NI
   cases R with
   | nil => simp
   | cons => simp
  have kp1 : Kp st st := ⟨rfl,rfl,rfl⟩
  have e1 := e
  have p1 := List.Perm.refl R
  have niL := ni1
 all_goals
  refine wpS_bind (dh ?_)
  have n2 : 2 <= n + 1 := by omega
  refine wpS_bind (wpS_mono (wpS_forRange (I := fun i c st' => ∃ L m,c = (none,i,m) /\ Kp st st' /\ (arrOf st').toList = P ++ L /\ L.Perm R /\ NI κ L i /\ vd κ L i m /\ 2 <= i)
   (Q := fun c st' => ∃ n' L m,c = (none,n',m) /\ Kp st st' /\ (arrOf st').toList = P ++ L /\ L.Perm R /\ NI κ L n' /\ vd κ L n' m /\ 2 <= n' /\ n' <= R.length) ?ds ?de ⟨_,0,rfl,kp1,e1,p1,niL,?i0,n2⟩) ?dp)
  case i0 =>
   exact kj (by rw [p1.length_eq]; omega)
  case de =>
   rintro c st' ⟨L,m,rfl,kp,eL,pL,ni,eq,g1⟩
   have : max (n + 1) R.length = R.length := by omega
   rw [this] at ni eq g1 ⊢
   exact ⟨_,L,m,rfl,kp,eL,pL,ni,eq,g1,A5 _⟩
  case ds =>
   rintro i c st' hi1 hi2 ⟨L,m,rfl,kp,eL,pL,ni,eq,g1⟩
   have hi3 : i < L.length := by rw [pL.length_eq]; exact hi2
   have ex := AK hi3
   have ey := AK (show i - 1 < L.length by omega)
   have kL : ∀ x ∈ L,Kd κ x := fun x hx => ka x (pL.mem_iff.mp hx)
   have hk' := kp.kind.trans hk
   try dsimp only
   refine wpS_bind (fK hO hk' kL eL ex ey rfl (by omega) ?_)
   try dsimp only
   cases c : κ.blt (kk κ L[i]) (kk κ L[i - 1]) with
   | true =>
    rw [if_pos rfl]
    by_cases hm : m > 0
    ·rw [if_pos hm]
     refine wpS_bind (iC (κ := κ) eL eq rfl rfl fun st6 L6 kp6 e6 p6 m6 g6 => wpS_pure ⟨L6,0,rfl,kp.trans kp6,e6,p6.trans pL,?_,kj (by rw [p6.length_eq]; omega),by omega⟩)
     have := ni.snoc (by omega) ey ex (KeyOrd.kle_of_klt c)
     unfold NI at this ⊢
     rw [m6]
     exact this
    ·rw [if_neg hm]
     exact wpS_pure ⟨L,0,rfl,kp,eL,pL,ni.snoc (by omega) ey ex (KeyOrd.kle_of_klt c),kj (by omega),by omega⟩
   | false =>
    rw [if_neg (by decide)]
    refine wpS_bind (fK hO hk' kL eL ey ex (by omega) rfl ?_)
    try dsimp only
    cases c' : κ.blt (kk κ L[i - 1]) (kk κ L[i]) with
    | true => exact wpS_pure ⟨i,L,m,rfl,kp,eL,pL,ni,eq,g1,by omega⟩
    | false => exact wpS_pure ⟨L,m + 1,rfl,kp,eL,pL,ni.snoc (by omega) ey ex c',eq.more ey ex (κ.total _ _ c c'),by omega⟩
  case dp =>
   rintro c st' ⟨n',L,m,rfl,kp,eL,pL,ni,eq,g1,g2⟩
   try dsimp only
   by_cases hm : m > 0
   case' pos =>
    rw [if_pos hm]
    refine wpS_bind (iC (κ := κ) eL eq rfl rfl fun st6 L6 kp6' e6 p6' m6 g6 => ?_)
    have kp6 := kp.trans kp6'
    have p6 := p6'.trans pL
    have ni6 : NI κ L6 n' := by
     unfold NI at ni ⊢
     rw [m6]
     exact ni
   case' neg =>
    rw [if_neg hm]
    have kp6 := kp
    have e6 := eL
    have p6 := pL
    have ni6 := ni
   all_goals
    refine se (κ := κ) kp6 e6 p6 g2 ni6 fun st7 M kp7 e7 p7 s7 => ?_
    have rl := p7.length_eq
    have kM : ∀ x ∈ M,Kd κ x := fun x hx => ka x (p7.mem_iff.mp hx)
    refine wpS_bind (oY (κ := κ) (R := M) rl.symm (by omega) (by omega) s7 (fun m x y i Q' h1 hx hy ht hf => ?_) fun m h1 h2 h3 _ => ?_)
    ·try dsimp only
     refine wpS_bind (fK hO (kp7.kind.trans hk) kM e7 hx hy rfl (by omega) ?_)
     cases c : κ.blt (kk κ x) (kk κ y) with
     | true => exact wpS_pure (ht c)
     | false => exact wpS_pure (hf c)
    ·have q := h st7 (M.take m) (M.drop m) kp7 (by rw [AR]; exact e7) h3 (by rw [AR]; exact p7) (by rw [AH]; omega)
     rw [AH,BZ h2] at q
     exact wpS_pure q
end
theorem lZ {arr : Array Keyed} {B V W : List Keyed} {x : Keyed} (e : arr.toList = B ++ (V ++ x :: W)) : (bubble arr (B.length + V.length) V.length).toList = B ++ (x :: (V ++ W)) := by
 have sz : arr.size = B.length + (V.length + (W.length + 1)) := by
  have := congrArg BX e
  simpa using this
 apply List.ext_getElem?
 intro k
 have q := getElem?_bubble (xs := arr) (src := B.length + V.length) (by omega) V.length (by omega) k
 rw [Nat.add_sub_cancel] at q
 have ga : ∀ i,arr[i]? = (B ++ (V ++ x :: W))[i]? := fun i => by rw [<- e,AT]
 rw [AT,q,ga,ga,ga]
 by_cases c1 : k = B.length
 ·rw [if_pos c1]
  subst c1
  simp
 rw [if_neg c1]
 by_cases c2 : B.length < k /\ k <= B.length + V.length
 ·rw [if_pos c2,A4 (by omega),AC (by omega),A4 (by omega)]
  have : k - B.length = (k - 1 - B.length) + 1 := by omega
  rw [this,List.getElem?_cons_succ,AC (by omega)]
 rw [if_neg c2]
 by_cases c3 : k < B.length
 ·rw [AC c3,AC c3]
 ·rw [A4 (by omega),A4 (by omega),A4 (by omega)]
  have e1 : k - B.length - V.length = (k - B.length - V.length - 1) + 1 := by omega
  have e2 : k - B.length = (k - B.length - 1) + 1 := by omega
  rw [e1,List.getElem?_cons_succ,e2,List.getElem?_cons_succ,A4 (by omega)]
  congr 1
  omega
section
variable {prog : Program} {w : World} {A : Around} {E : Value -> Shared -> Prop} {s : Shared} {κ : KeyKind} {kd : SortKind}
theorem qk (hO : lS prog w A E s κ kd) {st : SortSt} {P D S : List Keyed} {ok n : Nat} {Q : Bool -> SortSt -> Prop} (hn : n = D.length) (hk : kindOf st = kd) (ka : ∀ x ∈ D,Kd κ x) (e : (arrOf st).toList = P ++ (D ++ S)) (h1 : 1 <= ok) (h2 : ok <= D.length) (hs : (D.take ok).Pairwise (Lq κ))
  (h : ∀ st' X,Kp st st' -> (arrOf st').toList = P ++ (X ++ S) -> X.Pairwise (Lq κ) -> X.Perm D -> Q true st') : wpS (model prog w) A E s (binarySort' P.length n ok) Q st := by
 subst hn
 unfold binarySort'
 refine cK ?_
 try dsimp only
 have mx : max ok 1 = ok := by omega
 rw [mx]
 refine wpS_bind (wpS_mono (wpS_forRange (I := fun k c st' => c = (none,()) /\ Kp st st' /\ ∃ X,(arrOf st').toList = P ++ (X ++ S) /\ X.Perm D /\ (X.take k).Pairwise (Lq κ))
  (Q := fun c st' => c = (none,()) /\ Kp st st' /\ ∃ X,(arrOf st').toList = P ++ (X ++ S) /\ X.Perm D /\ X.Pairwise (Lq κ)) ?s1 ?e1 ⟨rfl,⟨rfl,rfl,rfl⟩,D,e,List.Perm.refl _,hs⟩) ?p1)
 case e1 =>
  rintro c st' ⟨rfl,kp,X,eX,pX,sX⟩
  rw [Nat.max_eq_right h2,Ak (by rw [pX.length_eq]; exact A5 _)] at sX
  exact ⟨rfl,kp,X,eX,pX,sX⟩
 case p1 =>
  rintro c st' ⟨rfl,kp,X,eX,pX,sX⟩
  exact wpS_pure (h st' X kp eX sX pX)
 case s1 =>
  rintro k c st' hk1 hk2 ⟨rfl,kp,X,eX,pX,sX⟩
  have xl := pX.length_eq
  have kaX : ∀ x ∈ X ++ S,x ∈ X -> Kd κ x := fun x _ hx => ka x (pX.mem_iff.mp hx)
  have hkx : k < X.length := by omega
  have ex := AK hkx
  generalize X[k] = x at ex
  have eX' : (arrOf st').toList = P ++ X ++ S := by rw [eX,AI]
  have lt : ∀ {i : Nat} {y : Keyed} {Q' : Option Bool -> SortSt -> Prop},X[i]? = some y -> Q' (some (κ.blt (kk κ x) (kk κ y))) st' -> wpS (model prog w) A E s (ltAt' (P.length + k) (P.length + i)) Q' st' := fun {i y Q'} hy hq => by
   have il := (A1.mp hy).1
   rw [ltAt'_eq]
   refine wpS_bind (wpS_get ?_)
   exact wpS_bind (az (ui eX (by rw [AC hkx]; exact ex)) (wpS_bind (az (ui eX (by rw [AC il]; exact hy)) (gc hO (kp.kind.trans hk) (ka x (pX.mem_iff.mp (AL ex))) (ka y (pX.mem_iff.mp (AL hy))) hq))))
  have mono : ∀ {i j : Nat} {u v : Keyed},i <= j -> j < k -> X[i]? = some u -> X[j]? = some v -> Lq κ u v := fun {i j u v} hij hj hu hv => by
   rcases Nat.lt_or_ge i j with c | c
   ·obtain ⟨l1,g1⟩ := A1.mp hu
    obtain ⟨l2,g2⟩ := A1.mp hv
    have q := List.pairwise_iff_getElem.mp sX i j (by rw [AH]; omega) (by rw [AH]; omega) c
    rw [List.getElem_take,List.getElem_take,g1,g2] at q
    exact q
   ·have : i = j := by omega
    subst this
    rw [hu] at hv
    cases hv
    exact KeyOrd.kle_refl _
  try dsimp only
  refine wpS_bind (wpS_mono (wpS_forRange (I := fun i c st'' => st'' = st' /\ ∃ l r,c = (none,l,r) /\ l <= r /\ r <= k /\ (∀ j u,j < l -> X[j]? = some u -> Lq κ u x) /\ (∀ j u,r <= j -> j < k -> X[j]? = some u -> Lq κ x u) /\ r - l + i <= k)
   (Q := fun c st'' => st'' = st' /\ ∃ l,c = (none,l,l) /\ l <= k /\ (∀ j u,j < l -> X[j]? = some u -> Lq κ u x) /\ (∀ j u,l <= j -> j < k -> X[j]? = some u -> Lq κ x u)) ?s2 ?e2 ⟨rfl,0,k,rfl,by omega,by omega,fun j u z => absurd z (by omega),fun j u z z' => absurd z' (by omega),by omega⟩) ?p2)
  case e2 =>
   rintro c st'' ⟨rfl,l,r,rfl,a1,a2,a3,a4,a5⟩
   have : l = r := by omega
   subst this
   exact ⟨rfl,l,rfl,a2,a3,a4⟩
  case s2 =>
   rintro i c st'' _ hi ⟨rfl,l,r,rfl,a1,a2,a3,a4,a5⟩
   try dsimp only
   by_cases c : l ≥ r
   ·rw [if_pos c]
    have : l = r := by omega
    subst this
    exact wpS_pure ⟨rfl,l,rfl,a2,a3,a4⟩
   ·rw [if_neg c]
    have ml : (l + r) / 2 < X.length := by omega
    have em := AK ml
    refine wpS_bind (lt em ?_)
    try dsimp only
    cases cc : κ.blt (kk κ x) (kk κ X[(l + r) / 2]) with
    | true => exact wpS_pure ⟨rfl,_,_,rfl,by omega,by omega,a3,fun j u hj hj2 hu => KeyOrd.kle_trans (KeyOrd.kle_of_klt cc) (mono hj hj2 em hu),by omega⟩
    | false => exact wpS_pure ⟨rfl,_,_,rfl,by omega,by omega,fun j u hj hu => KeyOrd.kle_trans (mono (show j <= (l + r) / 2 by omega) (by omega) hu em) cc,a4,by omega⟩
  case p2 =>
   rintro c st'' ⟨rfl,l,rfl,a2,a3,a4⟩
   try dsimp only
   have eX2 : X = X.take l ++ ((X.take k).drop l ++ x :: X.drop (k + 1)) := by
    obtain ⟨l1,g1⟩ := A1.mp ex
    have d1 : X.drop k = x :: X.drop (k + 1) := by rw [B4 l1,g1]
    have t1 : X.take k = X.take l ++ (X.take k).drop l := by
     have q := (AR l (X.take k)).symm
     rw [List.take_take,BZ a2] at q
     exact q
    rw [<- d1,<- AI,<- t1,AR]
   have lv : ((X.take k).drop l).length = k - l := by rw [List.length_drop,AH]; omega
   have lu : (X.take l).length = l := by rw [AH]; omega
   have mU : ∀ u ∈ X.take l,Lq κ u x := fun u hu => by
    obtain ⟨j,hj⟩ := AW.mp hu
    have jl := (A1.mp hj).1
    rw [lu] at jl
    rw [Av jl] at hj
    exact a3 j u jl hj
   have mV : ∀ u ∈ (X.take k).drop l,Lq κ x u := fun u hu => by
    obtain ⟨j,hj⟩ := AW.mp hu
    have jl := (A1.mp hj).1
    rw [lv] at jl
    rw [List.getElem?_drop,Av (by omega)] at hj
    exact a4 (l + j) u (by omega) (by omega) hj
   have sUV : (X.take l ++ (X.take k).drop l).Pairwise (Lq κ) := by
    have q := (AR l (X.take k)).symm
    rw [List.take_take,BZ a2] at q
    rw [<- q]
    exact sX
   generalize X.take l = U at *
   generalize (X.take k).drop l = V at *
   generalize X.drop (k + 1) = W at *
   subst eX2
   have eb : (arrOf st'').toList = (P ++ U) ++ (V ++ x :: (W ++ S)) := by rw [eX]; simp
   have bl := lZ eb
   have l1 : (P ++ U).length + V.length = P.length + k := by rw [AA]; omega
   rw [l1] at bl
   have l2 : P.length + k - (P.length + l) = V.length := by omega
   have sp := A6.mp sUV
   refine wpS_bind ?_
   show wpS _ _ _ _ (moveDown' (P.length + k) (P.length + l)) _ _
   rw [moveDown'_eq]
   refine wpS_modify (wpS_pure ⟨rfl,⟨kp.kind,kp.failed,kp.pend⟩,U ++ (x :: (V ++ W)),?_,?_,?_⟩)
   ·show (bubble (arrOf st'') (P.length + k) (P.length + k - (P.length + l))).toList = _
    rw [l2,bl]
    simp
   ·refine Bk.trans (Ai _ ?_) pX
    exact (List.perm_middle).symm
   ·have t : U ++ (x :: (V ++ W)) = (U ++ x :: V) ++ W := by simp
    rw [t,List.take_left' (by simp; omega),A6,BI]
    refine ⟨sp.1,⟨mV,sp.2.1⟩,fun u hu v hv => ?_⟩
    rcases A3.mp hv with c | c
    ·rw [c]; exact mU u hu
    ·exact sp.2.2 u hu v c
end
def Pd (κ : KeyKind) : Nat -> List (Nat × Nat × Nat) -> List (List Keyed) -> Prop
 | _,[],[] => True
 | a,p :: ps,r :: rs => p.1 = a /\ p.2.1 = r.length /\ 1 <= r.length /\ r.Pairwise (Lq κ) /\ Pd κ (a + r.length) ps rs
 | _,_,_ => False
section
variable {κ : KeyKind} {kd : SortKind}
theorem Pd.len : ∀ {a : Nat} {ps : List (Nat × Nat × Nat)} {rs : List (List Keyed)},Pd κ a ps rs -> ps.length = rs.length
 | _,[],[],_ => rfl
 | _,_ :: _,_ :: _,h => by simp [Pd.len h.2.2.2.2]
 | _,[],_ :: _,h => h.elim
 | _,_ :: _,[],h => h.elim
theorem Pd.snoc : ∀ {a : Nat} {ps : List (Nat × Nat × Nat)} {rs : List (List Keyed)} {p : Nat × Nat × Nat} {r : List Keyed},Pd κ a ps rs -> p.1 = a + rs.flatten.length -> p.2.1 = r.length -> 1 <= r.length -> r.Pairwise (Lq κ) -> Pd κ a (ps ++ [p]) (rs ++ [r])
 | _,[],[],p,r,_,h1,h2,h3,h4 => ⟨by simpa using h1,h2,h3,h4,trivial⟩
 | a,q :: ps,u :: rs,p,r,h,h1,h2,h3,h4 => ⟨h.1,h.2.1,h.2.2.1,h.2.2.2.1,Pd.snoc h.2.2.2.2 (by rw [h1]; simp; omega) h2 h3 h4⟩
 | _,[],_ :: _,_,_,h,_,_,_,_ => h.elim
 | _,_ :: _,[],_,_,h,_,_,_,_ => h.elim
theorem Pd.big : ∀ {a : Nat} {ps : List (Nat × Nat × Nat)} {rs : List (List Keyed)},Pd κ a ps rs -> rs.length <= rs.flatten.length
 | _,[],[],_ => by simp
 | _,_ :: _,r :: rs,h => by
  have := Pd.big h.2.2.2.2
  have := h.2.2.1
  rw [List.flatten_cons,AA,Ad]
  omega
 | _,[],_ :: _,h => h.elim
 | _,_ :: _,[],h => h.elim
theorem Pd.modify (f : Nat × Nat × Nat -> Nat × Nat × Nat) (hf : ∀ x,(f x).1 = x.1 /\ (f x).2.1 = x.2.1) : ∀ {a : Nat} {ps : List (Nat × Nat × Nat)} {rs : List (List Keyed)} (i : Nat),Pd κ a ps rs -> Pd κ a (ps.modify i f) rs
 | _,[],[],i,h => by cases i <;> exact h
 | _,p :: ps,r :: rs,0,h => by
  rw [List.modify_zero_cons]
  exact ⟨(hf p).1.trans h.1,(hf p).2.trans h.2.1,h.2.2⟩
 | _,p :: ps,r :: rs,i + 1,h => by
  rw [List.modify_succ_cons]
  exact ⟨h.1,h.2.1,h.2.2.1,h.2.2.2.1,Pd.modify f hf i h.2.2.2.2⟩
 | _,[],_ :: _,_,h => h.elim
 | _,_ :: _,[],_,h => h.elim
theorem Pd.two : ∀ {a : Nat} {ps : List (Nat × Nat × Nat)} {rs : List (List Keyed)} {i : Nat},Pd κ a ps rs -> i + 1 < rs.length ->
  ∃ RL X Y RT pa pb,rs = RL ++ X :: Y :: RT /\ RL.length = i /\ ps[i]? = some (a + RL.flatten.length,X.length,pa) /\ ps[i + 1]? = some (a + RL.flatten.length + X.length,Y.length,pb) /\ 1 <= X.length /\ 1 <= Y.length /\ X.Pairwise (Lq κ) /\ Y.Pairwise (Lq κ) /\
   ∀ Z : List Keyed,Z.length = X.length + Y.length -> Z.Pairwise (Lq κ) -> Pd κ a ((ps.set i (a + RL.flatten.length,X.length + Y.length,pa)).eraseIdx (i + 1)) (RL ++ Z :: RT)
 | _,[],[],i,_,hi => by simp at hi
 | a,p :: q :: ps,X :: Y :: rs,0,h,_ => by
  obtain ⟨h1,h2,h3,h4,h5,h6,h7,h8,h9⟩ := h
  refine ⟨[],X,Y,rs,p.2.2,q.2.2,rfl,rfl,?_,?_,h3,h7,h4,h8,fun Z hz sz => ?_⟩
  ·simp
   rw [<- h1,<- h2]
  ·simp
   rw [<- h5,<- h6]
  ·refine ⟨by simp,hz.symm,by omega,sz,?_⟩
   have : a + Z.length = a + X.length + Y.length := by omega
   rw [this]
   simpa using h9
 | a,[p],X :: Y :: rs,_,h,_ => h.2.2.2.2.elim
 | a,p :: ps,r :: rs,i + 1,h,hi => by
  obtain ⟨RL,X,Y,RT,pa,pb,e1,e2,e3,e4,e5,e6,e7,e8,e9⟩ := Pd.two (i := i) h.2.2.2.2 (by simpa using hi)
  refine ⟨r :: RL,X,Y,RT,pa,pb,by rw [e1]; rfl,by simp [e2],?_,?_,e5,e6,e7,e8,fun Z hz sz => ?_⟩
  ·simpa [Nat.add_assoc] using e3
  ·simpa [Nat.add_assoc] using e4
  ·have q := e9 Z hz sz
   refine ⟨h.1,h.2.1,h.2.2.1,h.2.2.2.1,?_⟩
   simpa [Nat.add_assoc] using q
 | _,_ :: _,[_],0,_,hi => by simp at hi
 | _,[],_ :: _,_,h,_ => h.elim
 | _,_ :: _,[],_,h,_ => h.elim
end
structure Sv (kd : SortKind) (κ : KeyKind) (a0 : List Keyed) (st : SortSt) (rs : List (List Keyed)) (rest : List Keyed) : Prop where
 kind : kindOf st = kd
 failed : failedOf st = none
 arr : (arrOf st).toList = rs.flatten ++ rest
 pd : Pd κ 0 (pendingOf st).toList rs
 perm : (rs.flatten ++ rest).Perm a0
section
variable {prog : Program} {w : World} {A : Around} {E : Value -> Shared -> Prop} {s : Shared} {κ : KeyKind} {kd : SortKind}
theorem Sv.size {a0 : List Keyed} {st : SortSt} {rs : List (List Keyed)} {rest : List Keyed} (h : Sv kd κ a0 st rs rest) : (pendingOf st).size = rs.length := by
 have := h.pd.len
 simpa using this
theorem l7 (hO : lS prog w A E s κ kd) {a0 : List Keyed} {st : SortSt} {rs : List (List Keyed)} {rest : List Keyed} {i : Nat} {Q : Bool -> SortSt -> Prop} (k0 : ∀ x ∈ a0,Kd κ x) (h : Sv kd κ a0 st rs rest) (hi : i + 1 < rs.length)
  (q : ∀ st' rs',Sv kd κ a0 st' rs' rest -> rs'.length + 1 = rs.length -> rs'.flatten.length = rs.flatten.length -> Q true st') : wpS (model prog w) A E s (mergeAt' i) Q st := by
 obtain ⟨RL,X,Y,RT,pa,pb,e1,e2,e3,e4,e5,e6,e7,e8,e9⟩ := h.pd.two hi
 simp only [Nat.zero_add] at e3 e4 e9
 have ea : (arrOf st).toList = RL.flatten ++ (X ++ (Y ++ (RT.flatten ++ rest))) := by rw [h.arr,e1]; simp
 refine lW hO h.kind h.failed (fun x hx => k0 x (h.perm.mem_iff.mp (by rw [<- h.arr]; exact hx))) ea e7 e8 e5 e6 (by simpa using e3) (by simpa using e4) fun st' Z pz sz hk hf ha hp => ?_
 have zl : Z.length = X.length + Y.length := by rw [pz.length_eq,AA]
 refine q st' (RL ++ Z :: RT) ⟨hk,hf,by rw [ha]; simp,?_,?_⟩ (by rw [e1]; simp; omega) (by rw [e1]; simp; omega)
 ·rw [hp]
  have := e9 Z zl sz
  simpa using this
 ·refine Bk.trans ?_ h.perm
  rw [e1]
  have t1 : (RL ++ Z :: RT).flatten ++ rest = RL.flatten ++ (Z ++ (RT.flatten ++ rest)) := by simp
  have t2 : (RL ++ X :: Y :: RT).flatten ++ rest = RL.flatten ++ ((X ++ Y) ++ (RT.flatten ++ rest)) := by simp
  rw [t1,t2]
  exact Ai _ (Ay _ pz)
end
section
variable {prog : Program} {w : World} {A : Around} {E : Value -> Shared -> Prop} {s : Shared} {κ : KeyKind} {kd : SortKind}
theorem sg (hO : lS prog w A E s κ kd) {a0 : List Keyed} {st : SortSt} {Q : Unit -> SortSt -> Prop} (hk : kindOf st = kd) (hf : failedOf st = none) (hp : pendingOf st = #[]) (ha : (arrOf st).toList = a0) (k0 : ∀ x ∈ a0,Kd κ x)
  (h : ∀ st',(arrOf st').toList.Perm a0 -> failedOf st' = none -> (arrOf st').toList.Pairwise (Lq κ) -> Q () st') : wpS (model prog w) A E s sortRuns' Q st := by
 have S0 : Sv kd κ a0 st [] a0 := ⟨hk,hf,by simpa using ha,by rw [hp]; trivial,by simp⟩
 have sz : (arrOf st).size = a0.length := by rw [<- ha]; simp
 unfold sortRuns'
 refine cK ?_
 refine wpS_bind (wpS_get ?_)
 dsimp only
 rw [sz]
 generalize (sortPriv% PySem.Builtin.minRun) a0.length a0.length 0 = mr
 refine wpS_bind (wpS_mono (wpS_forRange (I := fun x c st' => ∃ rs rest,c = (none,rs.flatten.length) /\ Sv kd κ a0 st' rs rest /\ x <= rs.flatten.length)
  (Q := fun c st' => ∃ rs lo,c = (none,lo) /\ Sv kd κ a0 st' rs []) ?s1 ?e1 ⟨[],a0,rfl,S0,by simp⟩) ?p1)
 case e1 =>
  rintro c st' ⟨rs,rest,rfl,sv,hx⟩
  have l := sv.perm.length_eq
  rw [AA] at l
  have : rest = [] := Ar (by omega)
  subst this
  exact ⟨rs,_,rfl,sv⟩
 case p1 =>
  rintro c st' ⟨rs,lo,rfl,sv⟩
  try dsimp only
  refine wpS_bind (wpS_mono (wpS_forRange (I := fun x c st' => c = (none,()) /\ ∃ rs,Sv kd κ a0 st' rs [] /\ rs.length + x <= a0.length)
   (Q := fun c st' => c = (none,()) /\ ∃ rs,Sv kd κ a0 st' rs [] /\ rs.length <= 1) ?s4 ?e4 ⟨rfl,rs,sv,?i4⟩) ?p4)
  case i4 =>
   have b := sv.pd.big
   have l := sv.perm.length_eq
   rw [AA] at l
   simp only [BE,Nat.add_zero] at l ⊢
   omega
  case e4 =>
   rintro c st'' ⟨rfl,rs,sv,hx⟩
   exact ⟨rfl,rs,sv,by omega⟩
  case p4 =>
   rintro c st'' ⟨rfl,rs,sv,hl⟩
   refine wpS_pure (h st'' ?_ sv.failed ?_)
   ·rw [sv.arr]
    exact sv.perm
   ·rw [sv.arr]
    have pd := sv.pd
    cases rs with
    | nil => simp
    | cons r rs =>
     have : rs = [] := Ar (by rw [Ad] at hl; omega)
     subst this
     cases hq : (pendingOf st'').toList with
     | nil => rw [hq] at pd; exact pd.elim
     | cons p ps =>
      rw [hq] at pd
      simpa using pd.2.2.2.1
  case s4 =>
   rintro x c st'' _ hx ⟨rfl,rs,sv,hl⟩
   refine wpS_bind (wpS_get ?_)
   have ps := sv.size
   by_cases c1 : (pendingOf st'').size <= 1
   ·rw [if_pos c1]
    exact wpS_pure ⟨rfl,rs,sv,by omega⟩
   ·rw [if_neg c1]
    refine wpS_bind (l7 hO k0 sv ?_ fun st3 rs3 sv3 l3 _ => ?_)
    ·have gen : ∀ b : Bool,(if b = true then (pendingOf st'').size - 2 - 1 else (pendingOf st'').size - 2) + 1 < rs.length := fun b => by
      cases b with
      | true => rw [if_pos rfl]; omega
      | false => rw [if_neg (by decide)]; omega
     exact gen _
    ·exact wpS_pure ⟨rfl,rs3,sv3,by omega⟩
 case s1 =>
  rintro x c st1 _ hx ⟨rs,rest,rfl,sv,hxl⟩
  have l := sv.perm.length_eq
  rw [AA] at l
  try dsimp only
  by_cases c1 : rs.flatten.length ≥ a0.length
  ·rw [if_pos c1]
   have : rest = [] := Ar (by omega)
   subst this
   exact wpS_pure ⟨rs,_,rfl,sv⟩
  rw [if_neg c1]
  have kR : ∀ x ∈ rest,Kd κ x := fun x hx => k0 x (sv.perm.mem_iff.mp (by simp [hx]))
  have rl : a0.length - rs.flatten.length = rest.length := by omega
  rw [rl]
  refine wpS_bind (lY hO sv.kind kR sv.arr (by omega) fun st3 X3 S3 kp3 e3 s3 p3 l3 => ?_)
  try dsimp only
  have fin : ∀ (n : Nat) (st4 : SortSt) (rs4 : List (List Keyed)) (X S : List Keyed),1 <= X.length -> n = X.length -> X.Pairwise (Lq κ) -> kindOf st4 = kd -> failedOf st4 = none -> (arrOf st4).toList = rs4.flatten ++ (X ++ S) -> Pd κ 0 (pendingOf st4).toList rs4 -> rs4.flatten.length = rs.flatten.length -> (rs4.flatten ++ (X ++ S)).Perm a0 ->
    ∃ rs' rest',((none : Option Unit),rs.flatten.length + n) = (none,rs'.flatten.length) /\ Sv kd κ a0 (setPending st4 ((pendingOf st4).push (rs.flatten.length,n,0))) rs' rest' /\ x + 1 <= rs'.flatten.length := by
   intro n st4 rs4 X S lX hn sX hk4 hf4 e4 pd4 fl pr
   subst hn
   have fl2 : (rs4 ++ [X]).flatten.length = rs.flatten.length + X.length := by
    rw [List.flatten_append,AA,fl]
    simp
   refine ⟨rs4 ++ [X],S,by rw [fl2],⟨hk4,hf4,by show (arrOf st4).toList = _; rw [e4]; simp,?_,by simpa using pr⟩,by omega⟩
   show Pd κ 0 ((pendingOf st4).push (rs.flatten.length,X.length,0)).toList (rs4 ++ [X])
   rw [BB]
   exact pd4.snoc (by simp only [Nat.zero_add]; exact fl.symm) rfl lX sX
  have sv3 : Sv kd κ a0 st3 rs (X3 ++ S3) := ⟨kp3.kind.trans sv.kind,kp3.failed.trans sv.failed,e3,by rw [kp3.pend]; exact sv.pd,Bk.trans (Ai _ p3) sv.perm⟩
  by_cases cm : X3.length < mr
  case' pos =>
   rw [if_pos cm]
   have fl : min rest.length mr <= (X3 ++ S3).length := by rw [p3.length_eq]; omega
   have lx : X3.length <= min rest.length mr := by
    have := p3.length_eq
    rw [AA] at this
    omega
   refine wpS_bind (dh (wpS_bind (qk hO (P := rs.flatten) (D := (X3 ++ S3).take (min rest.length mr)) (S := (X3 ++ S3).drop (min rest.length mr)) (by rw [AH]; omega) sv3.kind (fun x hx => kR x (p3.mem_iff.mp (List.mem_of_mem_take hx))) (by rw [AR]; exact e3) l3 (by rw [AH]; omega) (by rw [List.take_take,BZ lx,List.take_left]; exact s3) fun st4 X4 kp4 e4 s4 p4 => ?_)))
   have l4 : min rest.length mr = X4.length := by rw [p4.length_eq,AH]; omega
   have sv4 : Sv kd κ a0 st4 rs (X4 ++ (X3 ++ S3).drop (min rest.length mr)) := ⟨kp4.kind.trans sv3.kind,kp4.failed.trans sv3.failed,e4,by rw [kp4.pend]; exact sv3.pd,by
    refine Bk.trans (Ai _ (Ay _ p4)) ?_
    rw [AR]
    exact sv3.perm⟩
   have l5 : 1 <= X4.length := by omega
   simp only [Bool.not_true,B9,if_false]
   generalize min rest.length mr = n at l4 sv4 ⊢
   generalize (X3 ++ S3).drop n = S4 at sv4 ⊢
  case' neg =>
   rw [if_neg cm]
   have l4 : X3.length = X3.length := rfl
   have sv4 := sv3
   have s4 := s3
   have l5 := l3
  all_goals
   refine wpS_bind (wpS_get ?_)
   split
   ·refine wpS_bind (wpS_mono (wpS_forRange (I := fun _ c st' => c = (none,()) /\ ∃ rs',Sv kd κ a0 st' rs' _ /\ rs'.flatten.length = rs.flatten.length) (Q := fun c st' => c = (none,()) /\ ∃ rs',Sv kd κ a0 st' rs' _ /\ rs'.flatten.length = rs.flatten.length) ?_ (fun _ _ z => z) ⟨rfl,rs,sv4,rfl⟩) ?_)
    ·rintro y c st5 _ _ ⟨rfl,rs5,sv5,f5⟩
     refine wpS_bind (wpS_get ?_)
     have ps := sv5.size
     by_cases cp : (pendingOf st5).size > 1
     ·rw [if_pos cp]
      split
      ·split
       ·exact wpS_pure ⟨rfl,rs5,sv5,f5⟩
       ·refine wpS_bind (l7 hO k0 sv5 (by show (pendingOf st5).size - 2 + 1 < rs5.length; omega) fun st6 rs6 sv6 _ f6 => ?_)
        exact wpS_pure ⟨rfl,rs6,sv6,f6.trans f5⟩
      ·exact wpS_pure ⟨rfl,rs5,sv5,f5⟩
     ·rw [if_neg cp]
      exact wpS_pure ⟨rfl,rs5,sv5,f5⟩
    ·rintro c st5 ⟨rfl,rs5,sv5,f5⟩
     try dsimp only
     refine wpS_bind (wpS_modify (wpS_bind (wpS_modify (wpS_pure ?_))))
     exact fin _ (setPending st5 ((pendingOf st5).modify ((pendingOf st5).size - 1) fun x => (x.fst,x.2.fst,_))) rs5 _ _ l5 l4 s4 sv5.kind sv5.failed sv5.arr (by
      show Pd κ 0 ((pendingOf st5).modify _ _).toList rs5
      rw [Array.toList_modify]
      refine Pd.modify _ ?_ _ sv5.pd
      exact fun x => ⟨rfl,rfl⟩) f5 sv5.perm
   ·exact wpS_bind (wpS_modify (wpS_pure (fin _ _ rs _ _ l5 l4 s4 sv4.kind sv4.failed sv4.arr sv4.pd rfl sv4.perm)))
end
section
variable {prog : Program} {w : World} {A : Around} {E : Value -> Shared -> Prop} {s : Shared} {κ : KeyKind}
theorem ve {xs : Array Keyed} {i : Nat} {p : Keyed} (e : xs[i]? = some p) : KK κ xs i = kk κ p := by
 unfold KK kk
 rw [e]
theorem ma {xs : Array Keyed} (sx : xs.toList.Pairwise (Lq κ)) : SortedToK κ xs xs.size := fun i j hij hj => by
 have e1 := AN (show i < xs.size by omega)
 have e2 := AN hj
 rw [ve e1,ve e2]
 exact kg sx hij e1 e2
theorem lS.of_one (hO : κ.OneLt) : lS prog w A E s κ oneType' := by
 intro st x y Q hk hx hy h
 obtain ⟨a,ha⟩ := hx
 obtain ⟨b,hb⟩ := hy
 have e1 : kk κ x = a := by unfold kk; rw [ha]; rfl
 have e2 : kk κ y = b := by unfold kk; rw [hb]; rfl
 rw [e1,e2] at h
 rw [lt'_eq]
 refine wpS_bind (wpS_get ?_)
 rw [hk,keyLt'_oneType]
 refine wpS_bind (wpS_lift (wpAny_attempt (hO prog w A _ s x.1 y.1 a b ha hb ⟨rfl,?_⟩)))
 exact wpS_pure h
theorem sh (hO : κ.OneLt) {a : Addr} {vs : List Value} {n : Nat} {P : Fin -> Shared -> Prop} (ho : s.heap.get? a = some (seqObj "list" vs.toArray n))
  (h0 : KeysOf κ (pairsOf vs)) (dist : (pairsOf vs).toList.Pairwise (fun p q => kk κ p ≠ kk κ q)) (hkk : ∀ v₁ v₂ rest,vs = v₁ :: v₂ :: rest -> keyKind' (v₁ :: v₂ :: rest).toArray = pure oneType') (hz : vs.length <= sizeLine)
  (h : ∀ st' : SortSt,(arrOf st').Perm (pairsOf vs) -> SortedToK κ (arrOf st') (pairsOf vs).size -> P (.done (.ret .none)) { s with heap := sortedHeap s.heap a vs ((arrOf st').map (·.2)) }) :
  wpAny (model prog w) A (Builtin.«list.sort» ⟨[.ref a],[]⟩) P E s := by
 rcases Nat.lt_or_ge vs.length 64 with c | c
 ·exact list_sort_treeK hO ho h0 hkk c h
 obtain ⟨v₁,v₂,rest,rfl⟩ : ∃ v₁ v₂ rest,vs = v₁ :: v₂ :: rest := by
  match vs,c with
  | [],c => simp at c
  | [_],c => simp at c
  | v₁ :: v₂ :: rest,_ => exact ⟨v₁,v₂,rest,rfl⟩
 rw [list_sort_plain]
 have ha : a < s.heap.objs.size := Heap.lt_size ho
 refine wpAny_bind (listItems_at ho rfl ?_)
 refine wpAny_bind (listUpdate_at ho rfl ?_)
 obtain ⟨e1,ho1⟩ : ∃ e1,(s.heap.update a (Obj.mapSeq fun _ => #[])).get? a = some (seqObj "list" #[] e1) := ⟨_,get?_update_seq ho (fun _ => #[])⟩
 refine wpAny_bind (seqEpoch_at ho1 rfl (wpAny_bind (wpAny_newTuple (wpAny_bind (wpAny_newList (wpAny_holding ?_))))))
 have ho6 : (((s.heap.update a (Obj.mapSeq fun _ => #[])).push (seqObj "tuple" (v₁ :: v₂ :: rest).toArray 0)).push (seqObj "list" #[] 0)).get? a = some (seqObj "list" #[] e1) := by
  rw [Heap.get?_push_ne _ _ _ (by rw [size_push',Heap.size_update]; exact AE (B3 ha)),Heap.get?_push_ne _ _ _ (by rw [Heap.size_update]; exact AE ha)]
  exact ho1
 show wpAny (model prog w) A _ P E { s with heap := ((s.heap.update a (Obj.mapSeq fun _ => #[])).push (seqObj "tuple" (v₁ :: v₂ :: rest).toArray 0)).push (seqObj "list" #[] 0) }
 dsimp only
 have h2 : ¬ (v₁ :: v₂ :: rest).toArray.size < 2 := by simp
 rw [if_neg h2,if_neg h2,hkk _ _ _ rfl]
 refine wpAny_bind (wpAny_pure ?_)
 refine wpAny_bind (wpAny_mono (sg (κ := κ) (lS.of_one hO) (a0 := (pairsOf (v₁ :: v₂ :: rest)).toList) (st := SortSt.mk' oneType' ((v₁ :: v₂ :: rest).toArray.zip (v₁ :: v₂ :: rest).toArray) #[] 7 none)
  (Q := fun _ st' => (arrOf st').Perm (pairsOf (v₁ :: v₂ :: rest)) /\ failedOf st' = none /\ SortedToK κ (arrOf st') (pairsOf (v₁ :: v₂ :: rest)).size)
  rfl rfl rfl rfl (fun x hx => h0 x hx) fun st' pr fl sr => ⟨Array.perm_iff_toList_perm.mpr pr,fl,?_⟩) ?_ fun _ _ e => e)
 ·have q := ma sr
  have z : (arrOf st').size = (pairsOf (v₁ :: v₂ :: rest)).size := by
   have := pr.length_eq
   simpa using this
  rw [<- z]
  exact q
 rintro ⟨⟨⟩,st'⟩ s' ⟨rfl,hp,hf,hs⟩
 dsimp only
 refine wpAny_bind (seqEpoch_at ho6 rfl ?_)
 refine wpAny_bind (listUpdate_at ho6 rfl ?_ (hsz2 := by refine Ae (Nat.le_of_eq ((Array.size_map ..).trans (hp.size_eq.trans (pairsOf_size _)))) (Nat.le_succ_of_le hz)))
 rw [hf]
 simp only [bne_self_eq_false,B9,if_false]
 exact wpAny_pure (h st' hp hs)
end
end So
namespace L2
open PySem PySem.Spec PyProof.Rows XH
def wu (a : Addr) (o : Obj) (kvs : List (Key × V)) : It :=
 ⟨fun i H => H a = some (.frz o (.dK kvs)) /\ i < kvs.length,fun i H v H' => H' = H /\ ∃ k x,kvs[i]? = some (k,x) /\ v = kV k,fun i H => H a = some (.frz o (.dK kvs)) /\ i = kvs.length⟩
theorem oZ {P : Program} {w : World} {k : Key} {u : Value} (h : (aA P w).is k u = true) : RelV (kV k) u := by
 rcases bz h with ⟨i,t,rfl,rfl⟩ | ⟨x,t,rfl,rfl⟩
 ·exact ⟨t,rfl⟩
 ·exact ⟨t,rfl⟩
theorem si {κ : Type} : ∀ {kvs : List (κ × V)} {vs : List (κ × Value)} (r : KV kvs vs) (i : Nat) {k : κ} {x : V},kvs[i]? = some (k,x) -> ∃ u,vs[i]? = some (k,u) /\ RelV x u
 | _,_,.nil,i,k,x,h => by simp at h
 | _,_,.cons (b := q) r t,0,k,x,h => by
  simp at h
  subst h
  obtain ⟨q1,q2⟩ := q
  have e : k = q1 := r.1
  subst e
  exact ⟨q2,by simp,r.2⟩
 | _,_,.cons r t,i + 1,k,x,h => by
  obtain ⟨u,e,rx⟩ := si t i (by simpa using h)
  exact ⟨u,by simpa using e,rx⟩
theorem md {X : Cx} {pins : List (Addr × Obj)} {σ : St} {H : Hp} {s : Shared} {a : Addr} {o : Obj} {kvs : List (Key × V)} {es0 : Array DictEntry} {ep : Nat} (I : aq X pins σ H s) (h : H a = some (.frz o (.dK kvs))) (hd : o.data = .dict es0 ep) :
  ∃ vs,KV kvs vs /\ s.heap.DictAt (aA X.prog X.w) a vs ep := by
 obtain ⟨ho,z,y,vs,rel,ob,es,ep',e,c,d,rest⟩ := (show aX X.prog X.w H s.heap a (.frz o (.dK kvs)) from I.hok a _ h)
 rw [ho] at e
 cases e
 have e2 : ep' = ep := by rw [hd] at d; cases d; rfl
 subst e2
 exact ⟨vs,rel,o,es,ho,c,d,rest⟩
theorem ql {P : Program} {w : World} {K : A0} {tg : Expr} (it a : Addr) (o : Obj) (kvs : List (Key × V)) {es0 : Array DictEntry} {ep : Nat} (hd : o.data = .dict es0 ep) : Turn P w K tg (wu a o kvs) [it] it (fun i h => h.IsKeyIter it a i kvs.length ep) where
 mem := by simp
 obj := fun i h st b hb => by
  have e : b = it := by simpa using hb
  subst e
  obtain ⟨o,e,c,d⟩ := st
  exact ⟨o,e,fun v z => by rw [d] at z; cases z⟩
 keep := fun i h h' st k => by
  obtain ⟨o,e,c,d⟩ := st
  exact ⟨o,k it (by simp) o e,c,d⟩
 item := by
  intro X hP hw hK hc i pins s σ H E I hf st hg
  subst hP hw hK
  obtain ⟨f0,f1,f2,f3,f4,f5⟩ := hf it (by simp)
  obtain ⟨hz,hlt⟩ := hg
  obtain ⟨vs,rel,D⟩ := md I hz hd
  obtain ⟨⟨k,x⟩,hx⟩ : ∃ p,kvs[i]? = some p := ⟨kvs[i],AK hlt⟩
  obtain ⟨u,hu,_⟩ := si rel i hx
  have st' := st
  rw [rel.length] at st'
  refine wpAny_pyNext_dict_item st' D hu fun key h' hkey hit' hs' => ?_
  rw [<- rel.length] at hit'
  have I1 : aq X pins σ H { s with heap := h',toks := s.toks } := I.turned (fun b ob hb e => hs'.extBut b ob hb e) f0 f1 f3 f4 f5
  obtain ⟨oi,ei,ci,di⟩ := id hit'
  exact ⟨_,rfl,kW (s := { s with heap := h' }) (n := "dict_keyiterator") ei ci di (by decide) ⟨kV k,H,I1,oZ hkey,⟨rfl,k,x,hx,rfl⟩,hit',fun b hb => (hf b hb).1⟩⟩
 done := by
  intro X hP hw hK hc i pins s σ H E I hf st hg
  subst hP hw hK
  obtain ⟨f0,f1,f2,f3,f4,f5⟩ := hf it (by simp)
  obtain ⟨hz,rfl⟩ := hg
  obtain ⟨vs,rel,D⟩ := md I hz hd
  rw [rel.length] at st
  refine wpAny_pyNext_dict_end (I.ok.hd hc) st D (by simp) fun h' he' => ⟨rfl,I.turned (t' := s.toks) (fun b ob hb e => he' b ob hb e) f0 f1 f3 f4 f5⟩
 self := fun _ _ _ _ _ st h => wpAny_pyIter_keyiter st h
def NF (X : Cx) (a : Addr) : Prop := ∀ o u,X.H₀ a ≠ some (.frz o u)
theorem aq.nf {X : Cx} {pins : List (Addr × Obj)} {σ : St} {H : Hp} {s : Shared} {a : Addr} {kvs : List (Key × V)} (I : aq X pins σ H s) (h : H a = some (.dK kvs)) : NF X a := fun o u e => by
 have := I.base.frzs a o u e
 rw [h] at this
 cases this
theorem aq.freeze {X : Cx} {pins : List (Addr × Obj)} {σ : St} {H : Hp} {s : Shared} {a : Addr} {kvs : List (Key × V)} {o : Obj} (I : aq X pins σ H s) (h : H a = some (.dK kvs)) (ho : s.heap.get? a = some o) : aq X pins σ (ar H a (.frz o (.dK kvs))) s := by
 refine I.un (H' := ar H a (.frz o (.dK kvs))) (h' := s.heap) (t' := s.toks) ⟨fun b ob q n _ _ => q,fun b ob q n _ _ => ⟨ob.slots,q⟩,fun b ob q n _ => ?_,fun b ob q _ => ⟨ob,q⟩,fun b xs q => ?_,fun b ob u q => ?_,fun b ps q => ⟨#[],?_⟩⟩ ?_
 ·rw [af (fun z => by subst z; rw [h] at n; cases n)]; exact n
 ·rw [af (fun z => by subst z; rw [h] at q; cases q)]; exact q
 ·rw [af (fun z => by subst z; rw [h] at q; cases q)]; exact q
 ·rw [af (fun z => by subst z; rw [h] at q; cases q),q]; simp
 ·intro b u q
  by_cases hb : b = a
  ·subst hb
   rw [ae] at q
   cases q
   exact ⟨ho,(I.hok b _ h).stay (fun _ _ _ q => q) (fun c q => by rw [af (fun z => by subst z; rw [h] at q; cases q)]; exact q) fun c xs q => by rw [af (fun z => by subst z; rw [h] at q; cases q)]; exact q⟩
  ·rw [af hb] at q
   exact (I.hok b _ q).stay (fun _ _ _ q => q) (fun c q => by rw [af (fun z => by subst z; rw [h] at q; cases q)]; exact q) fun c xs q => by rw [af (fun z => by subst z; rw [h] at q; cases q)]; exact q
theorem aq.thaw {X : Cx} {pins : List (Addr × Obj)} {σ : St} {H : Hp} {s : Shared} {a : Addr} {kvs : List (Key × V)} {o : Obj} (I : aq X pins σ H s) (h : H a = some (.frz o (.dK kvs))) (nf : NF X a) : aq X pins σ (ar H a (.dK kvs)) s := by
 have hn : ∀ {b : Addr} {u : HO},H b = some u -> (∀ o' v,u ≠ .frz o' v) -> ar H a (.dK kvs) b = some u := fun {b u} q n => by
  rw [af (fun z => by subst z; rw [h] at q; cases q; exact n _ _ rfl)]; exact q
 have hf : ∀ {b : Addr},H b = none -> ar H a (.dK kvs) b = none := fun {b} n => by
  rw [af (fun z => by subst z; rw [h] at n; cases n)]; exact n
 refine ⟨I.ok,I.os,I.bare,⟨I.base.keep,I.base.slot,fun b ob q n hx => hf (I.base.free b ob q n hx),I.base.there,fun b xs q => hn (I.base.tups b xs q) (fun _ _ z => nomatch z),fun b ob u q => ?_,fun b ps q => ?_⟩,I.loc,I.cell,hf I.free,fun y c e => hf (I.freeC y c e),fun p hp => ?_,?_,I.len⟩
 ·have q' := I.base.frzs b ob u q
  rw [af (fun z => by subst z; exact nf _ _ q)]
  exact q'
 ·obtain ⟨more,q'⟩ := I.base.tbls b ps q
  exact ⟨more,hn q' (fun _ _ z => nomatch z)⟩
 ·obtain ⟨p1,p2,p3⟩ := I.pin p hp
  exact ⟨p1,hf p2,p3⟩
 ·intro b u q
  by_cases hb : b = a
  ·subst hb
   rw [ae] at q
   cases q
   obtain ⟨_,q2⟩ := (show aX X.prog X.w H s.heap b (.frz o (.dK kvs)) from I.hok b _ h)
   exact aX.stay (o := .dK kvs) q2 (fun _ _ _ q => q) (fun c q => hn q (fun _ _ z => nomatch z)) fun c xs q => hn q (fun _ _ z => nomatch z)
  ·rw [af hb] at q
   exact (I.hok b _ q).stay (fun _ _ _ q => q) (fun c q => hn q (fun _ _ z => nomatch z)) fun c xs q => hn q (fun _ _ z => nomatch z)
def xh (X : Cx) (tl : TE) : TI := fun σ H R => tl σ H fun x H1 => ∃ a kvs,x = .ref a /\ H1 a = some (.dK kvs) /\ ∀ o,NF X a -> R (wu a o kvs) (ar H1 a (.frz o (.dK kvs)))
section
variable {X : Cx} {tg : Expr}
theorem o9 {l : Expr} {tl : TE} (hl : PE X l tl) : PI X tg l (xh X tl) := by
 intro pins s σ H R I h
 refine aZ (hl pins s σ H _ I h) fun v s1 ⟨x,H1,I1,r1,q1⟩ => ?_
 obtain ⟨a,kvs,rfl,hk,q⟩ := q1
 cases r1
 obtain ⟨z,y,vs,rel,ob,es,ep,e,c,d,rest⟩ := (show aX X.prog X.w H1 s1.heap a (.dK kvs) from I1.hok a _ hk)
 have D : s1.heap.DictAt (aA X.prog X.w) a vs ep := ⟨ob,es,e,c,d,rest⟩
 have I2 := I1.freeze hk e
 refine wpAny_pyIter_dict y D ?_
 refine ⟨s1.heap.objs.size,[s1.heap.objs.size],_,_,_,rfl,I2.kept (t' := s1.toks) fun b o e => Heap.get?_push_of_some _ e,ql _ a ob kvs d,⟨_,Heap.get?_push_size _ rfl,rfl,by rw [rel.length]; rfl⟩,fun b hb => ?_,q ob (I1.nf hk)⟩
 have e : b = s1.heap.objs.size := by simpa using hb
 subst e
 exact I2.fpOk (A5 _) (I2.hok.fresh (A5 _))
end
def yu (X : Cx) (P : Hp -> Prop) (H : Hp) : Prop := ∃ a o kvs,H a = some (.frz o (.dK kvs)) /\ NF X a /\ P (ar H a (.dK kvs))
def zi (X : Cx) (D : Ends) : Ends := { nx := fun σ => yu X (D.nx σ),bk := fun σ => yu X (D.bk σ),ct := fun σ => yu X (D.ct σ),rt := fun v => yu X (D.rt v) }
theorem sj {X : Cx} {st : Stmt} {t : TS} (h : PS X st t) : PS X st (fun D σ H => t (zi X D) σ H) := by
 intro pins s σ H D I q
 refine aZ (h pins s σ H _ I q) fun f s1 q1 => ?_
 cases f with
 | next =>
  obtain ⟨σ',H',I',a,o,kvs,e,nf,p⟩ := q1
  exact ⟨σ',_,I'.thaw e nf,p⟩
 | brk =>
  obtain ⟨σ',H',I',a,o,kvs,e,nf,p⟩ := q1
  exact ⟨σ',_,I'.thaw e nf,p⟩
 | cont =>
  obtain ⟨σ',H',I',a,o,kvs,e,nf,p⟩ := q1
  exact ⟨σ',_,I'.thaw e nf,p⟩
 | ret u =>
  obtain ⟨v,σ',H',I',r,a,o,kvs,e,nf,p⟩ := q1
  exact ⟨v,σ',_,I'.thaw e nf,r,p⟩
theorem sk {a : Addr} {o : Obj} {kvs : List (Key × V)} {g : TG} {tb : TS} {D : Ends} {σ : St} {H : Hp} (Pv : Nat -> St -> Hp -> Prop) (h0 : Pv 0 σ H) (hz : ∀ i σ H,i <= kvs.length -> Pv i σ H -> H a = some (.frz o (.dK kvs)))
  (hs : ∀ i k x σ H,kvs[i]? = some (k,x) -> Pv i σ H -> g (kV k) σ H fun σ2 H2 => tb { D with nx := Pv (i + 1),ct := Pv (i + 1),bk := D.nx } σ2 H2) (hd : ∀ σ H,Pv kvs.length σ H -> D.nx σ H) :
  ∃ W : Nat -> Nat -> St -> Hp -> Prop,(∃ m,W 0 m σ H) /\ ∀ i m σ H,W i m σ H ->
   ((wu a o kvs).stop i H /\ D.nx σ H) ∨ ((wu a o kvs).go i H /\ ∃ N : St -> Hp -> Prop,(∀ σ' H',N σ' H' -> ∃ m',m' < m /\ W (i + 1) m' σ' H') /\ ∀ x H',(wu a o kvs).yld i H x H' -> g x σ H' fun σ2 H2 => tb { D with nx := N,ct := N,bk := D.nx } σ2 H2) := by
 refine ⟨fun i m σ H => m = kvs.length - i /\ i <= kvs.length /\ Pv i σ H,⟨kvs.length,by simp,Al _,h0⟩,?_⟩
 rintro i m σ H ⟨rfl,hi,p⟩
 by_cases hlt : i < kvs.length
 ·refine .inr ⟨⟨hz i σ H hi p,hlt⟩,Pv (i + 1),fun σ' H' p' => ⟨kvs.length - (i + 1),by omega,rfl,hlt,p'⟩,fun x H' y => ?_⟩
  obtain ⟨e,k,v,hk,rfl⟩ := y
  subst e
  exact hs i k v σ _ hk p
 ·have e : i = kvs.length := by omega
  subst e
  exact .inl ⟨⟨hz _ σ H hi p,rfl⟩,hd σ H p⟩
def iD (js : List Nat) (tc : TT) (te : TE) (σ : St) (Q : VK) : It -> Hp -> Prop := fun J H1 => ∀ p,H1 p = none -> ∃ W : Nat -> Nat -> List V -> Hp -> Prop,(∃ m,W 0 m [] (ar H1 p (.lst []))) /\
 ∀ i m ys H2,W i m ys H2 -> H2 p = some (.lst ys) /\ ((J.stop i H2 /\ Q (.ref p) H2) ∨ (J.go i H2 /\ ys.length < sizeLine /\ ∀ x H3,J.yld i H2 x H3 -> tc (some x :: a8 js σ) H3 fun b H4 =>
  if b = true then te (some x :: a8 js σ) H4 fun y H5 => H5 p = some (.lst ys) /\ ∃ m',m' < m /\ W (i + 1) m' (ys ++ [y]) (ar H5 p (.lst (ys ++ [y]))) else ∃ m',m' < m /\ W (i + 1) m' ys H4))
def pc (wi : TI) (js : List Nat) (tc : TT) (te : TE) : TE := fun σ H Q => wi σ H (iD js tc te σ Q)
section
variable {prog : Program} {w : World} {A : Around} {R : Result -> Shared -> Prop} {s : Shared}
theorem gC {elt target iter cond : Expr} {scope : Scope} {pos : Pos} {it acc : Value} {env : Env} (I : Nat -> Shared -> Prop)
  (turn : ∀ n s,I n s -> wpAny (model prog w) A (pyNext it) (fun r s1 => match r with
   | none => R (.ok .next) s1
   | some v => wpAny (model prog w) A (letOwnedTupleGo target it v) (fun _ s2 => wpAny (model prog w) A (assign target env v) (fun _ s3 => wpAny (model prog w) A (isTrue cond env (eval cond env)) (fun ok s4 =>
     if ok = true then wpAny (model prog w) A (eval elt env) (fun x s5 => wpAny (model prog w) A (call (.builtin "list.append") [acc,x]) (fun _ s6 => ∃ m,m < n /\ I m s6) (fun _ _ => False) s5) (fun _ _ => False) s4
     else ∃ m,m < n /\ I m s4) (fun _ _ => False) s3) (fun _ _ => False) s2) (fun _ _ => False) s1) (fun _ _ => False) s)
  (n : Nat) (h : I n s) : codeAny (model prog w) A (.compLoop (.ListComp elt [⟨target,iter,[cond],0⟩] scope pos) 0 it acc env) R s := by
 apply codeAny_loop rfl I ?_ n h
 intro n s hI
 show wpAny _ _ ((compTurn (.ListComp elt [⟨target,iter,[cond],0⟩] scope pos) 0 it acc env).onRaise _) _ _ s
 apply wpAny_noted
 rw [compTurn_list]
 apply wpAny_bind
 apply wpAny_standAt
 apply wpAny_bind
 refine wpAny_mono (turn n s hI) (fun r s1 h1 => ?_) fun _ _ z => z.elim
 cases r with
 | none => exact wpAny_pure h1
 | some v =>
  apply wpAny_bind
  refine wpAny_mono h1 (fun _ s2 h2 => ?_) fun _ _ z => z.elim
  apply wpAny_bind
  refine wpAny_mono h2 (fun _ s3 h3 => ?_) fun _ _ z => z.elim
  apply wpAny_bind
  refine wpAny_mono (wpAny_tests_one h3) (fun ok s4 h4 => ?_) fun _ _ z => z.elim
  cases ok with
  | true =>
   apply wpAny_bind
   apply wpAny_bind
   refine wpAny_mono h4 (fun x s5 h5 => ?_) fun _ _ z => z.elim
   apply wpAny_bind
   refine wpAny_mono h5 (fun _ s6 h6 => ?_) fun _ _ z => z.elim
   exact wpAny_pure (wpAny_pure ⟨rfl,h6⟩)
  | false =>
   have h4' : ∃ m,m < n /\ I m s4 := h4
   exact wpAny_pure ⟨rfl,h4'⟩
end
section
variable {X : Cx} {scope : Scope} {cl : List (Str × Addr)} {own : Str} {ys : List Str} {js : List Nat} {elt iter cond : Expr} {px pos : Pos} {wi : TI} {te : TE} {tc : TT}
theorem gh (hc : X.calm = true) (ok : ir X scope cl own ys js) (hi : PI X (.Name own px) iter wi)
  (hq : ∀ (C : Addr) (fp : List Addr) (s : Shared) (H : Hp),PT (X.block scope cl C (own :: ys) own fp s H) cond tc)
  (he : ∀ (C : Addr) (fp : List Addr) (s : Shared) (H : Hp),PE (X.block scope cl C (own :: ys) own fp s H) elt te)
  (hs : ∀ x,foldedSetIterable iter X.env x = pure x := by intro _; rfl) : PE X (.ListComp elt [⟨.Name own px,iter,[cond],0⟩] scope pos) (pc wi js tc te) := by
 intro pins s σ H Q I h
 rw [eval_ListComp]
 have ncell : ∀ y ∈ scope.names,y.2 ≠ .cell := fun y hy z => by
  have q := BH.mp ok.nocell y hy
  rw [z] at q
  simp at q
 have nloc : ∀ y ∈ scope.names,y.2 = .local -> scope.names.lookup y.1 = some .local := fun y hy z => by
  have q := BH.mp ok.loc y hy
  rw [z] at q
  simpa using q
 refine wpAny_comprehension_free (use := none) rfl hs ok.clos ok.kind nloc (aZ (hi pins s σ H _ I h) fun v s1 h1 => aZ h1 fun itv s2 h2 => ?_)
 obtain ⟨it,fp,tn,J,H2,rfl,I2,T,st2,f2,q2⟩ := h2
 obtain ⟨W,⟨m0,w0⟩,turn⟩ := q2 s2.heap.objs.size (I2.hok.fresh (A5 _))
 refine wpAny_newObj_type (wpAny_newFunctionEnv ncell (by intro y hy; simp at hy) (fun h1 hns hsb => ?_) ok.kind)
 have I3 := I2.laid (a := s2.heap.objs.size) (o := .lst []) (h' := s2.heap.push { cls := .type "list",dict := none,data := .seq ([] : List Value).toArray }) (t' := s2.toks) (fun b u q => Heap.get?_push_of_some _ q) (A5 _)
  ⟨Al _,[],0,.nil,Heap.get?_push_size _ rfl⟩
 have fpo : ∀ b ∈ fp,b < s2.heap.objs.size := fun b hb => by
  obtain ⟨o,e,_⟩ := T.obj 0 _ st2 b hb
  exact Heap.lt_size e
 have f3 : ∀ b ∈ fp,dR X pins (ar H2 s2.heap.objs.size (.lst [])) b := fun b hb => ⟨by rw [af (AE (fpo b hb))]; exact (f2 b hb).1,(f2 b hb).2⟩
 generalize hs3 : ({ s2 with heap := s2.heap.push { cls := .type "list",dict := none,data := .seq ([] : List Value).toArray },toks := s2.toks } : Shared) = s3 at I3
 have e3 : s3.heap = s2.heap.push { cls := .type "list",dict := none,data := .seq ([] : List Value).toArray } := by rw [<- hs3]
 have lt3 : ∀ b ∈ fp,b < s3.heap.objs.size := fun b hb => by rw [e3,Heap.size_push]; exact B3 (fpo b hb)
 dsimp only at hns hsb ⊢
 rw [<- e3] at hns hsb
 have hk : ∀ b o,s3.heap.get? b = some o -> h1.get? b = some o := fun b o e => hsb.extBut b o (AE (Heap.lt_size e)) (Heap.get?_push_of_some _ e)
 have J0 := d7 (h1 := h1) ok I3 f3 lt3 hns hk (s2.toks + 0)
 have t0 : tn 0 h1 := T.keep 0 _ _ st2 fun b hb o e => hk b o (by rw [e3]; exact Heap.get?_push_of_some _ e)
 have fpB : ∀ {H' : Hp},(∀ b ∈ fp,H' b = none) -> ∀ b ∈ fp,dR (X.block scope cl s3.heap.objs.size (own :: ys) own fp s3 (ar H2 s2.heap.objs.size (.lst []))) [] H' b := fun {H'} hn b hb =>
  ⟨hn b hb,AE (lt3 b hb),fun z => (A3.mp (I3.stkSub b z)).elim (f3 b hb).2.1 (f3 b hb).2.2.1,.inl hb,fun x c e => (f3 b hb).2.2.2.2.1 x c (ok.sub (x,c) (Au e)),fun p hp => absurd (show p ∈ ([] : List (Addr × Obj)) from hp) (by simp)⟩
 have loop : codeAny (model X.prog X.w) X.A (.compLoop (.ListComp elt [⟨.Name own px,iter,[cond],0⟩] scope pos) 0 (.ref it) (.ref s2.heap.objs.size) (compEnvC scope cl s3.heap.objs.size X.env))
   (compPost (model X.prog X.w) X.A X.xe none (EP X pins σ Q) (.ref s2.heap.objs.size) s3.heap.objs.size) { s3 with heap := h1,toks := s2.toks + 0 } := by
  refine gC (fun n s' => ∃ i zs o0 H',aq (X.block scope cl s3.heap.objs.size (own :: ys) own fp s3 (ar H2 s2.heap.objs.size (.lst []))) [] (o0 :: a8 js σ) H' s' /\ tn i s'.heap /\ (∀ b ∈ fp,H' b = none) /\ W i n zs H') ?_ m0
   ⟨0,[],none,_,J0,t0,fun b hb => (f3 b hb).1,w0⟩
  rintro n s5 ⟨i,zs,o0,H5,I5,t5,n5,w5⟩
  obtain ⟨hD,hw⟩ := turn i n zs H5 w5
  rcases hw with ⟨stop,qn⟩ | ⟨go,hz,step⟩
  ·refine aZ (T.done (X.block scope cl s3.heap.objs.size (own :: ys) own fp s3 (ar H2 s2.heap.objs.size (.lst []))) rfl rfl rfl hc i [] s5 _ H5 (fun _ _ => False) I5 (fpB n5) t5 stop) fun r s6 ⟨hr,I6⟩ => ?_
   subst hr
   obtain ⟨m,hn,_⟩ := id I6.loc
   exact ⟨m,hn,fun h' hs' => ⟨V.ref s2.heap.objs.size,H5,f8 I3 f3 I6 hs',rfl,qn⟩⟩
  ·refine aZ (T.item (X.block scope cl s3.heap.objs.size (own :: ys) own fp s3 (ar H2 s2.heap.objs.size (.lst []))) rfl rfl rfl hc i [] s5 _ H5 (fun _ _ => False) I5 (fpB n5) t5 go) fun r s6 ⟨u,hr,h6⟩ => ?_
   subst hr
   refine aZ h6 fun _ s7 ⟨x,H7,I7,r7,y7,t7,n7⟩ => ?_
   have I7' := I7.pinned (fpB n7) (T.obj _ _ t7)
   have hst := step x H7 y7
   have own' : (relabel scope X.env).names.lookup own = some .local := lookup_relabel_local ok.ownL
   refine aZ (ce (X := X.block scope cl s3.heap.objs.size (own :: ys) own fp s3 (ar H2 s2.heap.objs.size (.lst []))) (i := 0) (x := own) (pos := px) ok.nd rfl (.inl own') (.inr own') _ s7 _ H7 x u (fun σ' H' => σ' = some x :: a8 js σ /\ H' = H7) I7' r7 ⟨rfl,rfl⟩) fun _ s8 ⟨σ8,H8,I8,e8,eH8⟩ => ?_
   subst e8 eH8
   refine aZ (hq _ _ _ _ _ s8 _ H8 _ I8 hst) fun ok s9 ⟨H9,I9,h9⟩ => ?_
   have frame : ∀ {s' : Shared} {H' : Hp},aq (X.block scope cl s3.heap.objs.size (own :: ys) own fp s3 (ar H2 s2.heap.objs.size (.lst []))) ([] ++ fT fp s7.heap) (some x :: a8 js σ) H' s' -> tn (i + 1) s'.heap /\ ∀ b ∈ fp,H' b = none := fun {s' H'} I' =>
    ⟨T.keep _ _ _ t7 fun b hb o e => (I'.pin (b,o) (AD _ (AD _ (bN hb e)))).1,fun b hb => by
     obtain ⟨o,e,d⟩ := T.obj _ _ t7 b hb
     exact (I'.pin (b,o) (AD _ (AD _ (bN hb e)))).2.1⟩
   cases ok with
   | true =>
    refine aZ (he _ _ _ _ _ s9 _ H9 _ I9 h9) fun yv s10 ⟨y,H10,I10,r10,hD10,m',hm,w10⟩ => ?_
    refine aZ (df _ s10 _ H10 (.ref s2.heap.objs.size) [y] (.ref s2.heap.objs.size) [yv] (fun _ H' => H' = ar H10 s2.heap.objs.size (.lst (zs ++ [y]))) I10 rfl (.cons r10 .nil) ⟨_,zs,y,rfl,rfl,hD10,hz,rfl⟩) fun _ s11 ⟨_,H11,I11,_,e11⟩ => ?_
    subst e11
    exact ⟨m',hm,i + 1,zs ++ [y],some x,_,I11.unpinned,(frame I11).1,(frame I11).2,w10⟩
   | false =>
    obtain ⟨m',hm,w10⟩ := h9
    exact ⟨m',hm,i + 1,zs,some x,_,I9.unpinned,(frame I9).1,(frame I9).2,w10⟩
 subst hs3
 exact codeAny_compStart_list loop (T.self _ 0 _ _ _ t0 loop)
end
section
variable {X : Cx}
theorem jv : yi X "dict.setdefault" (fun x vs H Q => ∃ a kvs k v,x = .ref a /\ vs = [kV k,v] /\ H a = some (.dK kvs) /\ kvs.length < sizeLine /\ (∀ w,aN kvs k = some w -> Q w H) /\ (aN kvs k = none -> Q v (ar H a (.dK (putK kvs k v))))) := by
 intro pins s σ H x vs v us Q I rx rv h
 obtain ⟨a,kvs,k,y,rfl,rfl,hk,hz,q1,q2⟩ := h
 cases rx
 obtain ⟨u,w',rfl,ru,rw'⟩ := vals2 rv
 obtain ⟨z,hS,ws,rel,D⟩ := ie I.hok hk
 refine call_meetsIn F.slot_dict_setdefault D.typeIs F.entry_dict_setdefault (F.args_dict_setdefault_3 _ _ _) (kt_meets_setdefault (aA X.prog X.w) a (dX ru) hS w') ⟨ws,D,by rw [<- rel.length]; exact z,fun v' hv => ?_,fun hn h' D' hs' => ?_⟩
 ·have r := rel.val k
  rw [hv] at r
  cases e : aN kvs k with
  | none => rw [e] at r; exact r.elim
  | some y' =>
   rw [e] at r
   exact ⟨y',H,I.tok _,r,q1 y' e⟩
 ·have r := rel.val k
  rw [hn] at r
  have e : aN kvs k = none := by
   cases e : aN kvs k with
   | none => rfl
   | some y' => rw [e] at r; exact r.elim
  obtain ⟨od,_,_,ho,_⟩ := id D'
  refine ⟨y,_,fB I (by rw [hk]; trivial) hs' ⟨od,ho⟩ (jR (by have := cq kvs k y; omega) hS (rel.put k rw') D'),rw',q2 e⟩
end
section
variable {prog : Program} {w : World} {κ : Type} [DecidableEq κ] {knd : KeyKind prog w κ} {A : Around} {E : Value -> Shared -> Prop} {s : Shared}
end
theorem uj : typeLookup (.type "list_reverseiterator") "__len__" = pure none := by
 rw [typeLookup_type,builtinLookup_eq_fast]
 kernel_rfl
theorem sq : typeLookup (.type "list_reverseiterator") "__length_hint__" = pure (some (.builtin "list_reverseiterator.__length_hint__")) := by
 rw [typeLookup_type,builtinLookup_eq_fast]
 kernel_rfl
section
variable {prog : Program} {w : World} {A : Around} {R : Result -> Shared -> Prop} {s : Shared} {I l S : Addr} {items : Array Value}
abbrev v9 (items : Array Value) : Nat -> Value -> Prop := fun i v => items[items.size - 1 - i]? = some v
theorem nM (hh : A.in1.handled = none) (hlI : l ≠ I) (hSI : S ≠ I) (hSl : S ≠ l) (res : Value) (c : Nat) (hit : s.heap.IsRevIter I l ((items.size : Int) - 1)) (hl : s.heap.IsList l items)
  (hS : s.heap.get? S = some { cls := .type "list",data := .seq #[] c }) (hn : items.size <= sizeLine)
  (fin : ∀ s' acc c',Moved [S,I] (fun a b => b = a) s s' -> s'.heap.get? S = some { cls := .type "list",dict := none,data := .seq acc c',slots := #[] } -> ItemsOf (v9 items) acc items.size -> R (.ok (.ret res)) s') :
  wpAny (model prog w) A.in1 (Builtin.List.listExtendWith (.ref S) (.ref I) res)
   (fun fin s' => match fin with | .done f => R (.ok f) s' | .again c' => c'.quiet = true /\ codeAny (model prog w) A c' R s') (fun e s' => R (.error e) s') s := by
 have ty : s.TypeIs (.ref I) "list_reverseiterator" := hit.typeIs
 have ns : Builtin.List.listSameRef (.ref S) (.ref I) = false := by
  simp [Builtin.List.listSameRef,hSI]
 unfold Builtin.List.listExtendWith
 apply wpAny_bind
 apply wpAny_typeOf ty
 rw [if_neg (by rw [ns]; decide)]
 apply wpAny_bind
 apply wpAny_pyIter_revIter hit
 apply wpAny_bind
 apply wpAny_holding
 unfold Builtin.List.listLengthHint
 apply wpAny_bind
 apply wpAny_specialOf ty uj
 show wpAny _ _ (specialOf (Value.ref I) (Str.ofString "__length_hint__") >>= _) _ _ s
 apply wpAny_bind
 apply wpAny_specialOf ty sq
 generalize hid : ("list_reverseiterator.__length_hint__" : String) = id0
 wp_delta
 rw [show splitId id0 = some ("list_reverseiterator","__length_hint__") from by subst hid; decide +kernel]
 subst hid
 apply wpAny_bind
 refine wpAny_isInstance (b := true) ty (by rw [isSubtype_type]; kernel_rfl) ?_
 apply wpAny_pure
 rw [if_neg (by decide)]
 have W := (Walks.listRev (prog := prog) (w := w) hh I l hlI items).toS
 have out : S ∉ [I,l] := by
  simp only [A3,AQ,or_false,not_or]
  exact ⟨hSI,hSl⟩
 have st : (0 : Nat) <= items.size /\ s.heap.IsRevIter I l ((items.size : Int) - 1 - ((0 : Nat) : Int)) /\ s.heap.IsList l items := ⟨Al _,by simpa using hit,hl⟩
 apply wpAny_pure
 refine ⟨plainId_quiet PySem.F.plain_extend_loop _,?_⟩
 exact codeAny_extend_loopS W hn S out res items.size 0 s #[] c rfl (Al _) st hS (ItemsOf.nil _) fin
theorem ss {E : Value -> Shared -> Prop} {Q : Value -> Shared -> Prop} (hh : A.handled = none) (hlI : l ≠ I) (hit : s.heap.IsRevIter I l ((items.size : Int) - 1)) (hl : s.heap.IsList l items) (hn : items.size <= sizeLine)
  (fin : ∀ h' tk acc c',(∀ b o,b ≠ I -> s.heap.get? b = some o -> h'.get? b = some o) -> h'.get? s.heap.objs.size = some { cls := .type "list",dict := none,data := .seq acc c',slots := #[] } -> ItemsOf (v9 items) acc items.size -> Q (.ref s.heap.objs.size) { s with heap := h',toks := tk }) :
  wpAny (model prog w) A (call (.type "list") [.ref I]) Q E s := by
 have lI : I < s.heap.objs.size := by
  obtain ⟨o,e,_⟩ := hit
  exact Heap.lt_size e
 have ll : l < s.heap.objs.size := by
  obtain ⟨o,e,_⟩ := hl
  exact Heap.lt_size e
 refine callType_codes (Q₁ := fun v s1 => v = .ref s.heap.objs.size /\ s1 = { s with heap := s.heap.push { cls := .type "list",data := .seq #[] } }) PySem.F.called_list (PySem.F.typeCall_list_1 _) PySem.F.entry_list_init (code_list_new _ ⟨rfl,rfl⟩) ?_
 rintro v s1 ⟨rfl,rfl⟩
 have e0 : (s.heap.push { cls := .type "list",data := .seq #[] }).get? s.heap.objs.size = some { cls := .type "list",data := .seq #[] } := Heap.get?_push_size _ rfl
 refine ⟨⟨_,e0,rfl⟩,PySem.F.args_list_init_2 _ _,?_⟩
 show wpAny _ _ (Builtin.List.listItems (.ref s.heap.objs.size) >>= fun old => Builtin.List.listUpdate (.ref s.heap.objs.size) (fun _ => #[]) >>= fun _ => letGo old.toList.reverse >>= fun _ => Builtin.List.listExtendWith (.ref s.heap.objs.size) (.ref I) .none) _ _ _
 apply wpAny_bind
 unfold Builtin.List.listItems
 apply wpAny_bind
 apply wpAny_seqItems e0 rfl
 apply wpAny_pure
 show wpAny _ _ (updateSeq s.heap.objs.size (fun _ => #[]) >>= fun _ => letGo (#[] : Array Value).toList.reverse >>= fun _ => Builtin.List.listExtendWith (.ref s.heap.objs.size) (.ref I) .none) _ _ _
 apply wpAny_bind
 apply wpAny_updateSeq e0 rfl
 have e1 := Heap.get?_update_self (Obj.mapSeq (fun _ => (#[] : Array Value))) e0 rfl
 have old : ∀ b o,b ≠ s.heap.objs.size -> s.heap.get? b = some o -> ((s.heap.push { cls := .type "list",data := .seq #[] }).update s.heap.objs.size (Obj.mapSeq (fun _ => (#[] : Array Value)))).get? b = some o := fun b o hb e =>
  (Heap.get?_update_other _ _ (Ne.symm hb)).trans (Heap.get?_push_of_some _ e)
 apply wpAny_bind
 apply wpAny_letGo
 refine nM (A := A.in1) (by simpa using hh) hlI (Bl lI) (Bl ll) .none _ ?_ ?_ e1 hn fun s' acc c' mv eS it => ?_
 ·obtain ⟨o,e,z⟩ := hit
  exact ⟨o,old _ _ (AE lI) e,z⟩
 ·obtain ⟨o,e,z⟩ := hl
  exact ⟨o,old _ _ (AE ll) e,z⟩
 ·obtain ⟨h',g',d',tk',os'⟩ := s'
  have eg : g' = s.gens := mv.gens
  have ed : d' = s.drawn := mv.drawn
  have eo : os' = s.os := mv.os
  subst eg ed eo
  refine ⟨rfl,fin h' tk' acc c' (fun b o hb e => ?_) eS it⟩
  refine mv.heap b o ?_ (old b o (AE (Heap.lt_size e)) e)
  simp only [A3,AQ,or_false,not_or]
  exact ⟨AE (Heap.lt_size e),hb⟩
end
theorem me : ∀ {xs : List V} {us : List Value},aM xs us -> aM xs.reverse us.reverse
 | _,_,.nil => .nil
 | _,_,.cons r t => by
  rw [List.reverse_cons,List.reverse_cons]
  exact (me t).append (.cons r .nil)
theorem qm {us : List Value} {acc : Array Value} (h : ItemsOf (v9 us.toArray) acc us.toArray.size) : acc.toList = us.reverse := by
 obtain ⟨h1,h2⟩ := h
 refine List.ext_getElem? fun i => ?_
 by_cases hi : i < acc.size
 ·have e := h2 i acc[i] (AN hi)
  rw [AT,AN hi,List.getElem?_reverse (by simpa [h1] using hi)]
  simpa using e.symm
 ·rw [BJ (by simpa using hi),BJ (by rw [Aw]; simp [h1] at hi; omega)]
def zj (K : A0) (te : TE) : TE := fun σ H Q => te σ H fun x H1 => ∃ a xs,x = .ref a /\ bu K H1 a xs /\ ∀ l,H1 l = none -> Q (.ref l) (ar H1 l (.lst xs.reverse))
section
variable {X : Cx} {e : Expr} {te : TE} {p1 p2 pos pos2 : Pos}
theorem nN (hc : X.calm = true) (g1 : Gl X "list") (m1 : X.mg "list" = none) (g2 : Gl X "reversed") (m2 : X.mg "reversed" = none) (b1 : bootBuiltins "list" = some (.type "list")) (b2 : bootBuiltins "reversed" = some (.type "reversed")) (he : PE X e te)
  (hs : starEach [e] X.env = [(false,eval e X.env)] := by rfl) :
  PE X (.Call (.Name "list" p1) [.Call (.Name "reversed" p2) [e] [] pos2] [] pos) (zj X.K te) := by
 intro pins s σ H Q I h
 apply wpAny_Call_Name_kw
 refine dy I g1 m1 b1 ?_ (by decide) (by decide)
 refine B1 ?_ rfl rfl
 refine Calls.spliced_cons (x := eval (.Call (.Name "reversed" p2) [e] [] pos2) X.env) (rest := []) ?_
 apply wpAny_Call_Name_kw
 refine dy I g2 m2 b2 ?_ (by decide) (by decide)
 refine B1 ?_ hs rfl
 rw [hs]
 refine Calls.spliced_cons (x := eval e X.env) (rest := []) (aZ (he pins s σ H _ I h) fun v s1 ⟨x,H1,I1,r1,a,xs,ex,hq,q⟩ => ?_)
 subst ex
 cases r1
 apply Calls.spliced_nil
 obtain ⟨its,rv,pl,hz⟩ := I1.list hq
 have hli : s1.heap.IsList a its.toArray := pl.isList
 have alt : a < s1.heap.objs.size := by
  obtain ⟨o,eo,_⟩ := id hli
  exact Heap.lt_size eo
 apply call_reversed_list hli
 apply Calls.spliced_nil
 have I2 : aq X pins σ H1 { s1 with heap := s1.heap.push (revObj a ((its.toArray.size : Int) - 1)),toks := s1.toks } := I1.kept fun b o e => Heap.get?_push_of_some _ e
 have sz : its.toArray.size = xs.length := by rw [AV,rv.length]
 refine ss (l := a) (items := its.toArray) (I.ok.hd hc) (AE alt) ⟨_,Heap.get?_push_size _ rfl,rfl,rfl⟩ (hli.push _) (by rw [sz]; exact hz) fun h' tk acc c' kp eL itm => ?_
 have er := qm itm
 have sl : s1.heap.objs.size <= (s1.heap.push (revObj a ((its.toArray.size : Int) - 1))).objs.size := by
  rw [Heap.size_push]
  exact Nat.le_succ _
 refine ⟨.ref _,_,I1.laid (a := (s1.heap.push (revObj a ((its.toArray.size : Int) - 1))).objs.size) (o := .lst xs.reverse) (h' := h') (t' := tk) (fun b o eo => kp b o (AE (Heap.lt_size eo)) (Heap.get?_push_of_some _ eo)) sl ?_,rfl,q _ (I1.hok.fresh sl)⟩
 refine ⟨by rw [Aw]; exact hz,acc.toList,c',by rw [er]; exact me rv,?_⟩
 rw [Array.toArray_toList]
 exact eL
end
section
variable {prog : Program} {w : World} {A : Around} {R : Result -> Shared -> Prop} {I : Addr} {fp wr : List Addr} {G : Array GenState -> Array GenState -> Prop} {n : Nat} {P : Nat -> Value -> Prop} {St : Nat -> Shared -> Prop}
end
section
variable {prog : Program} {w : World} {A : Around} {E : Value -> Shared -> Prop} {s : Shared}
end
section
variable {X : Cx} {e : Expr} {te : TE} {p1 p2 pos pos2 : Pos}
end
theorem jw {X : Cx} : cn X (.builtin "len") (fun xs H Q => ∃ a kvs,xs = [.ref a] /\ Rd H a (.dK kvs) /\ Q (.int kvs.length) H) := by
 intro pins s σ H xs us Q I r h
 obtain ⟨a,kvs,rfl,e,q⟩ := h
 obtain ⟨u,rfl,r1⟩ := vals1 r
 cases r1
 exact wO I e fun t s' I' => ⟨.int kvs.length,H,I',⟨t,rfl⟩,q⟩
end L2
namespace Sw
open PySem L2
inductive Led (ps : List (Str × Str)) (x : Str) : Str -> Prop where
 | self : Led ps x x
 | step {y z : Str} : Led ps x y -> (y,z) ∈ ps -> Led ps x z
theorem Led.closed {ps : List (Str × Str)} {x y : Str} {S : Str -> Prop} (hx : S x) (hc : ∀ a b,S a -> (a,b) ∈ ps -> S b) (l : Led ps x y) : S y := by
 induction l with
 | self => exact hx
 | step _ m ih => exact hc _ _ ih m
def bj (ks : List Str) (v : V) : List (Key × V) := ks.map fun y => (.inr y,v)
def bJ (ks : List Str) (y : Str) : List Str := if y ∈ ks then ks else ks ++ [y]
theorem b6 (ks : List Str) (v : V) : (bj ks v).length = ks.length := A8 _
theorem su (ks : List Str) (v : V) (y : Str) : ((bj ks v).any fun kv => decide (kv.1 = (.inr y : Key))) = decide (y ∈ ks) := by
 unfold bj
 rw [Bt]
 simp
theorem iE (ks : List Str) (v : V) (y : Str) : aN (bj ks v) (.inr y) = if y ∈ ks then some v else none := by
 induction ks with
 | nil => rfl
 | cons k ks ih =>
  by_cases e : k = y
  ·subst e
   rw [if_pos (by simp)]
   exact a9 rfl
  ·have n : ¬ ((.inr k : Key) = .inr y) := fun z => e (Sum.inr.inj z)
   have h : aN (bj (k :: ks) v) (.inr y) = aN (bj ks v) (.inr y) := bf n
   rw [h,ih]
   simp [Ne.symm e,show ¬ y = k from fun z => e z.symm]
theorem d9 (ks : List Str) (v : V) (y : Str) : putK (bj ks v) (.inr y) v = bj (bJ ks y) v := by
 unfold putK bJ
 rw [su]
 by_cases h : y ∈ ks
 ·rw [if_pos (decide_eq_true h),if_pos h]
  unfold bj
  rw [BY]
  refine List.map_congr_left fun z hz => ?_
  show (if (.inr z : Key) = .inr y then ((.inr z : Key),v) else (.inr z,v)) = _
  split <;> rfl
 ·rw [if_neg (by simpa using h),if_neg h]
  unfold bj
  simp
theorem cL {ks : List Str} {y z : Str} : z ∈ bJ ks y ↔ z ∈ ks ∨ z = y := by
 unfold bJ
 split
 ·rename_i h
  constructor
  ·exact .inl
  ·rintro (k | rfl)
   ·exact k
   ·exact h
 ·simp
theorem cM {ks : List Str} {y : Str} (h : ks.Nodup) : (bJ ks y).Nodup := by
 unfold bJ
 split
 ·exact h
 ·rename_i n
  rw [BC]
  refine ⟨h,by simp,?_⟩
  intro a ha b hb
  simp at hb
  subst hb
  exact fun e => n (e ▸ ha)
theorem fL (ks : List Str) (y : Str) : ks.length <= (bJ ks y).length /\ ((bJ ks y).length = ks.length -> y ∈ ks) /\ (bJ ks y).length <= ks.length + 1 := by
 unfold bJ
 split
 ·rename_i h
  exact ⟨A5 _,fun _ => h,Nat.le_succ _⟩
 ·simp
def iF (l ks : List Str) : Nat := (l.filter fun y => !decide (y ∈ ks)).length
theorem uk (l : List Str) {ks ks' : List Str} (h : ∀ y ∈ ks,y ∈ ks') : iF l ks' <= iF l ks := by
 unfold iF
 induction l with
 | nil => exact A5 _
 | cons a l ih =>
  by_cases h1 : a ∈ ks
  ·simp [h1,h a h1,ih]
  ·by_cases h2 : a ∈ ks'
   ·simp [h1,h2]; omega
   ·simp [h1,h2]; omega
theorem mi (l ks : List Str) : iF l ks <= l.length := B5 _ _
theorem ul {l ks ks' : List Str} {y : Str} (h : ∀ z ∈ ks,z ∈ ks') (yl : y ∈ l) (n : y ∉ ks) (y' : y ∈ ks') : iF l ks' < iF l ks := by
 unfold iF
 induction l with
 | nil => simp at yl
 | cons a l ih =>
  have le := uk l h
  unfold iF at le
  by_cases e : a = y
  ·subst e
   simp [n,y']
   omega
  ·have yl' : y ∈ l := by
    rcases A3.mp yl with z | z
    ·exact absurd z.symm e
    ·exact z
   have ih := ih yl'
   by_cases h1 : a ∈ ks
   ·simp [h1,h a h1]; exact ih
   ·by_cases h2 : a ∈ ks'
    ·simp [h1,h2]; omega
    ·simp [h1,h2]; exact ih
theorem qo {l ks : List Str} {y : Str} (yl : y ∈ l) : (bJ ks y).length + iF l (bJ ks y) <= ks.length + iF l ks := by
 by_cases h : y ∈ ks
 ·unfold bJ
  rw [if_pos h]
  exact A5 _
 ·have lt := ul (ks' := bJ ks y) (fun z hz => cL.mpr (.inl hz)) yl h (cL.mpr (.inr rfl))
  have := (fL ks y).2.2
  omega
def iG : Str := "abcdefghijklmnopqrstuvwxyz"
def aO : List (Str × List Str) -> Str -> Str -> List (Str × List Str)
 | [],x,y => [(x,[y])]
 | (a,ys) :: r,x,y => if a = x then (a,bJ ys y) :: r else (a,ys) :: aO r x y
def iH (rows : List (Str × List Str)) (x y : Str) : Prop := ∃ ys,(x,ys) ∈ rows /\ y ∈ ys
theorem bP {a : Str} {ys : List Str} {r : List (Str × List Str)} {x y : Str} : iH ((a,ys) :: r) x y ↔ (a = x /\ y ∈ ys) ∨ iH r x y := by
 constructor
 ·rintro ⟨zs,h,k⟩
  rcases A3.mp h with e | e
  ·cases e; exact .inl ⟨rfl,k⟩
  ·exact .inr ⟨zs,e,k⟩
 ·rintro (⟨rfl,k⟩ | ⟨zs,h,k⟩)
  ·exact ⟨ys,by simp,k⟩
  ·exact ⟨zs,by simp [h],k⟩
theorem iI : ∀ (rows : List (Str × List Str)) (x y a b : Str),iH (aO rows x y) a b ↔ iH rows a b ∨ (a = x /\ b = y)
 | [],x,y,a,b => by
  simp only [aO,bP]
  constructor
  ·rintro (⟨rfl,k⟩ | ⟨_,h,_⟩)
   ·exact .inr ⟨rfl,by simpa using k⟩
   ·simp at h
  ·rintro (⟨_,h,_⟩ | ⟨rfl,rfl⟩)
   ·simp at h
   ·exact .inl ⟨rfl,by simp⟩
 | (c,ys) :: r,x,y,a,b => by
  have ih := iI r x y a b
  unfold aO
  by_cases e : c = x
  ·subst e
   rw [if_pos rfl,bP,bP,cL]
   constructor
   ·rintro (⟨rfl,k | rfl⟩ | h)
    ·exact .inl (.inl ⟨rfl,k⟩)
    ·exact .inr ⟨rfl,rfl⟩
    ·exact .inl (.inr h)
   ·rintro ((⟨rfl,k⟩ | h) | ⟨rfl,rfl⟩)
    ·exact .inl ⟨rfl,.inl k⟩
    ·exact .inr h
    ·exact .inl ⟨rfl,.inr rfl⟩
  ·rw [if_neg e,bP,bP,ih]
   constructor
   ·rintro (h | h | h)
    ·exact .inl (.inl h)
    ·exact .inl (.inr h)
    ·exact .inr h
   ·rintro ((h | h) | h)
    ·exact .inl h
    ·exact .inr (.inl h)
    ·exact .inr (.inr h)
theorem dG : ∀ (rows : List (Str × List Str)) (x y : Str),(aO rows x y).map (·.1) = bJ (rows.map (·.1)) x
 | [],x,y => by simp [aO,bJ]
 | (c,ys) :: r,x,y => by
  have ih := dG r x y
  unfold aO
  by_cases e : c = x
  ·subst e
   rw [if_pos rfl]
   simp [bJ]
  ·rw [if_neg e]
   simp only [An,ih]
   unfold bJ
   have e' : ¬ x = c := fun z => e z.symm
   simp only [A3,e',false_or]
   split <;> rfl
theorem i7 {n : Nat} : ∀ {rows : List (Str × List Str)} (x y : Str),rows.length <= n -> (∀ p ∈ rows,p.2.length <= n /\ p.2.Nodup) -> (aO rows x y).length <= n + 1 /\ ∀ p ∈ aO rows x y,p.2.length <= n + 1 /\ p.2.Nodup := by
 intro rows x y h1 h2
 have hl : (aO rows x y).length <= rows.length + 1 := by
  have := congrArg BX (dG rows x y)
  rw [A8] at this
  have k := (fL (rows.map (·.1)) x).2.2
  rw [A8] at k
  omega
 refine ⟨by omega,?_⟩
 clear hl h1
 induction rows with
 | nil =>
  intro p hp
  simp [aO] at hp
  subst hp
  simp
 | cons a r ih =>
  obtain ⟨c,ys⟩ := a
  have ih := ih fun p hp => h2 p (by simp [hp])
  have hc := h2 (c,ys) (by simp)
  intro p hp
  unfold aO at hp
  split at hp
  ·rcases A3.mp hp with rfl | k
   ·have := (fL ys y).2.2
    exact ⟨Ae this (by have := hc.1; simp at this ⊢; omega),cM hc.2⟩
   ·have := h2 p (by simp [k])
    exact ⟨by omega,this.2⟩
  ·rcases A3.mp hp with rfl | k
   ·exact ⟨by have := hc.1; simp at this ⊢; omega,hc.2⟩
   ·exact ih p k
structure bI (rows : List (Str × List Str)) (ps : List (Str × Str)) : Prop where
 mem : ∀ a b,iH rows a b ↔ (a,b) ∈ ps
 keys : (rows.map (·.1)).Nodup
 few : rows.length <= ps.length
 small : ∀ p ∈ rows,p.2.length <= ps.length /\ p.2.Nodup
theorem bI.nil : bI [] [] := ⟨fun a b => ⟨fun ⟨_,h,_⟩ => by simp at h,fun h => by simp at h⟩,by simp,by simp,fun p hp => by simp at hp⟩
theorem bI.add {rows : List (Str × List Str)} {ps : List (Str × Str)} (h : bI rows ps) (p : Str × Str) : bI (aO rows p.1 p.2) (ps ++ [p]) := by
 obtain ⟨k1,k2⟩ := i7 p.1 p.2 h.few h.small
 refine ⟨fun a b => ?_,by rw [dG]; exact cM h.keys,by simpa using k1,fun q hq => by simpa using k2 q hq⟩
 rw [iI,h.mem]
 obtain ⟨p1,p2⟩ := p
 simp
def a7 (H : Hp) : List (Str × List Str) -> List Addr -> Prop
 | [],[] => True
 | (_,ys) :: rows,r :: rs => H r = some (.dK (bj ys (.bl true))) /\ a7 H rows rs
 | _,_ => False
def cy : List (Str × List Str) -> List Addr -> List (Key × V)
 | (x,_) :: rows,r :: rs => (.inr x,.ref r) :: cy rows rs
 | _,_ => []
theorem a7.len {H : Hp} : ∀ {rows : List (Str × List Str)} {rs : List Addr},a7 H rows rs -> rs.length = rows.length /\ (cy rows rs).length = rows.length
 | [],[],_ => ⟨rfl,rfl⟩
 | _ :: _,_ :: _,h => by
  have := a7.len h.2
  exact ⟨by simp [this.1],by simp [cy,this.2]⟩
 | [],_ :: _,h => h.elim
 | _ :: _,[],h => h.elim
theorem a7.same {H H' : Hp} (g : au H H') : ∀ {rows : List (Str × List Str)} {rs : List Addr},a7 H rows rs -> a7 H' rows rs
 | [],[],_ => trivial
 | _ :: _,_ :: _,h => ⟨g _ _ h.1,a7.same g h.2⟩
 | [],_ :: _,h => h.elim
 | _ :: _,[],h => h.elim
theorem a7.other {H : Hp} {a : Addr} {o : HO} : ∀ {rows : List (Str × List Str)} {rs : List Addr},a7 H rows rs -> a ∉ rs -> a7 (ar H a o) rows rs
 | [],[],_,_ => trivial
 | _ :: _,r :: _,h,n => ⟨by rw [af (fun e => n (by simp [e]))]; exact h.1,a7.other h.2 fun k => n (by simp [k])⟩
 | [],_ :: _,h,_ => h.elim
 | _ :: _,[],h,_ => h.elim
theorem a7.at_some {H : Hp} {x y : Str} {w : V} : ∀ {rows : List (Str × List Str)} {rs : List Addr},a7 H rows rs -> rs.Nodup -> aN (cy rows rs) (.inr x) = some w ->
  ∃ r ys,w = .ref r /\ r ∈ rs /\ (x,ys) ∈ rows /\ H r = some (.dK (bj ys (.bl true))) /\ a7 (ar H r (.dK (bj (bJ ys y) (.bl true)))) (aO rows x y) rs /\ cy (aO rows x y) rs = cy rows rs
 | [],[],_,_,e => by cases e
 | (c,ys) :: rows,r :: rs,h,nd,e => by
  by_cases z : c = x
  ·subst z
   have e' : aN (cy ((c,ys) :: rows) (r :: rs)) (.inr c) = some (.ref r) := a9 rfl
   rw [e'] at e
   cases e
   refine ⟨r,ys,rfl,by simp,by simp,h.1,?_,?_⟩
   ·unfold aO
    rw [if_pos rfl]
    exact ⟨ae,h.2.other (AS.mp nd).1⟩
   ·unfold aO
    rw [if_pos rfl]
    rfl
  ·have n : ¬ ((.inr c : Key) = .inr x) := fun q => z (Sum.inr.inj q)
   have e' : aN (cy ((c,ys) :: rows) (r :: rs)) (.inr x) = aN (cy rows rs) (.inr x) := bf n
   rw [e'] at e
   obtain ⟨r',ys',rfl,hr,hm,hH,hD,hT⟩ := a7.at_some (y := y) h.2 (AS.mp nd).2 e
   refine ⟨r',ys',rfl,by simp [hr],by simp [hm],hH,?_,?_⟩
   ·unfold aO
    rw [if_neg z]
    refine ⟨?_,hD⟩
    rw [af]
    ·exact h.1
    ·intro q
     exact (AS.mp nd).1 (q ▸ hr)
   ·unfold aO
    rw [if_neg z]
    show _ :: _ = _ :: _
    rw [hT]
 | [],_ :: _,h,_,_ => h.elim
 | _ :: _,[],h,_,_ => h.elim
theorem a7.at_none {H : Hp} {x y : Str} {p : Addr} : ∀ {rows : List (Str × List Str)} {rs : List Addr},a7 H rows rs -> aN (cy rows rs) (.inr x) = none ->
  aO rows x y = rows ++ [(x,[y])] /\ cy (rows ++ [(x,[y])]) (rs ++ [p]) = cy rows rs ++ [(.inr x,.ref p)] /\ ∀ b,¬ iH rows x b
 | [],[],_,_ => ⟨rfl,rfl,fun b ⟨_,h,_⟩ => by simp at h⟩
 | (c,ys) :: rows,r :: rs,h,e => by
  have z : ¬ c = x := fun z => by
   subst z
   have e' : aN (cy ((c,ys) :: rows) (r :: rs)) (.inr c) = some (.ref r) := a9 rfl
   rw [e'] at e
   cases e
  have n : ¬ ((.inr c : Key) = .inr x) := fun q => z (Sum.inr.inj q)
  have e' : aN (cy ((c,ys) :: rows) (r :: rs)) (.inr x) = aN (cy rows rs) (.inr x) := bf n
  rw [e'] at e
  obtain ⟨h1,h2,h3⟩ := a7.at_none (y := y) (p := p) h.2 e
  refine ⟨?_,?_,fun b hb => ?_⟩
  ·unfold aO
   rw [if_neg z,h1]
   rfl
  ·exact congrArg (((.inr c : Key),V.ref r) :: ·) h2
  ·rcases bP.mp hb with ⟨q,_⟩ | k
   ·exact z q
   ·exact h3 b k
 | [],_ :: _,h,_ => h.elim
 | _ :: _,[],h,_ => h.elim
theorem a7.snoc {H : Hp} {x : Str} {ys : List Str} {p : Addr} (e : H p = some (.dK (bj ys (.bl true)))) : ∀ {rows : List (Str × List Str)} {rs : List Addr},a7 H rows rs -> a7 H (rows ++ [(x,ys)]) (rs ++ [p])
 | [],[],_ => ⟨e,trivial⟩
 | _ :: _,_ :: _,h => ⟨h.1,a7.snoc e h.2⟩
 | [],_ :: _,h => h.elim
 | _ :: _,[],h => h.elim
structure DD (H : Hp) (d : Addr) (rows : List (Str × List Str)) : Prop where
 ex : ∃ rs : List Addr,a7 H rows rs /\ H d = some (.dK (cy rows rs)) /\ rs.Nodup /\ d ∉ rs
theorem DD.same {H H' : Hp} {d : Addr} {rows : List (Str × List Str)} (h : DD H d rows) (g : au H H') : DD H' d rows := by
 obtain ⟨rs,h1,h2,h3,h4⟩ := h.ex
 exact ⟨rs,h1.same g,g _ _ h2,h3,h4⟩
def nO : Option Str -> V
 | none => .non
 | some p => .str p
def aP (es : List (Str × Option Str)) : List (Key × V) := es.map fun e => (.inr e.1,nO e.2)
def aE (es : List (Str × Option Str)) : List Str := es.map (·.1)
theorem dH (es : List (Str × Option Str)) : (aP es).length = (aE es).length := by simp [aP,aE]
theorem gi : ∀ (es : List (Str × Option Str)) (b : Str),(aN (aP es) (.inr b)).isSome = decide (b ∈ aE es)
 | [],b => by simp [aP,aE,aN]
 | (c,o) :: es,b => by
  by_cases e : c = b
  ·subst e
   have : aN (aP ((c,o) :: es)) (.inr c) = some (nO o) := a9 rfl
   rw [this]
   simp [aE]
  ·have n : ¬ ((.inr c : Key) = .inr b) := fun z => e (Sum.inr.inj z)
   have h : aN (aP ((c,o) :: es)) (.inr b) = aN (aP es) (.inr b) := bf n
   rw [h,gi es b]
   have e' : ¬ b = c := fun z => e z.symm
   show decide (b ∈ aE es) = decide (b ∈ c :: aE es)
   rw [decide_eq_decide]
   simp [e']
theorem nP {es : List (Str × Option Str)} {b : Str} (h : b ∉ aE es) : aN (aP es) (.inr b) = none := by
 have := gi es b
 rw [decide_eq_false h] at this
 cases e : aN (aP es) (.inr b) with
 | none => rfl
 | some => rw [e] at this; cases this
theorem qp {es : List (Str × Option Str)} {b nm : Str} (h : b ∉ aE es) : putK (aP es) (.inr b) (.str nm) = aP (es ++ [(b,some nm)]) := by
 rw [ic _ (nP h)]
 simp [aP,nO]
theorem sw {es : List (Str × Option Str)} (nd : (aE es).Nodup) {i : Nat} {y : Str} {o : Option Str} (h : es[i]? = some (y,o)) : aN (aP es) (.inr y) = some (nO o) := by
 induction es generalizing i with
 | nil => simp at h
 | cons e es ih =>
  obtain ⟨c,oc⟩ := e
  cases i with
  | zero =>
   simp at h
   obtain ⟨rfl,rfl⟩ := h
   exact a9 rfl
  | succ i =>
   have hm : y ∈ aE es := AZ.mpr ⟨(y,o),AL (by simpa using h),rfl⟩
   have nd' := AS.mp nd
   have n : ¬ ((.inr c : Key) = .inr y) := fun z => nd'.1 (by rw [Sum.inr.inj z]; exact hm)
   have hv : aN (aP ((c,oc) :: es)) (.inr y) = aN (aP es) (.inr y) := bf n
   rw [hv]
   exact ih nd'.2 (by simpa using h)
structure cr (ps : List (Str × Str)) (good : Str) (es : List (Str × Option Str)) : Prop where
 first : es[0]? = some (good,none)
 nd : (aE es).Nodup
 led : ∀ y ∈ aE es,Led ps good y
 par : ∀ (i : Nat) (y : Str) (o : Option Str),es[i]? = some (y,o) -> (o = none -> i = 0) /\ ∀ p,o = some p -> (p,y) ∈ ps /\ ∃ j o',j < i /\ es[j]? = some (p,o')
 room : (aE es).length + iF (ps.map (·.2)) (aE es) <= 1001
theorem cr.start (ps : List (Str × Str)) (good : Str) (few : ps.length <= 1000) : cr ps good [(good,none)] where
 first := rfl
 nd := by simp [aE]
 led := fun y hy => by simp [aE] at hy; subst hy; exact .self
 par := fun i y o h => by
  cases i with
  | zero => simp at h; exact ⟨fun _ => rfl,fun p hp => by rw [<- h.2] at hp; cases hp⟩
  | succ i => simp at h
 room := by
  have := mi (ps.map (·.2)) (aE [(good,none)])
  rw [A8] at this
  show 1 + _ <= _
  omega
theorem dI (es : List (Str × Option Str)) (b : Str) (o : Option Str) : aE (es ++ [(b,o)]) = aE es ++ [b] := by simp [aE]
theorem cr.add {ps : List (Str × Str)} {good : Str} {es : List (Str × Option Str)} (h : cr ps good es) {nm b : Str} (hn : nm ∈ aE es) (hb : b ∉ aE es) (hp : (nm,b) ∈ ps) : cr ps good (es ++ [(b,some nm)]) where
 first := by
  rw [AC]
  ·exact h.first
  ·exact (A1.mp h.first).1
 nd := by
  rw [dI,BC]
  refine ⟨h.nd,by simp,?_⟩
  intro u hu v hv
  simp at hv
  subst hv
  exact fun z => hb (z ▸ hu)
 led := fun y hy => by
  rw [dI] at hy
  rcases A9.mp hy with k | k
  ·exact h.led y k
  ·simp at k
   subst k
   exact .step (h.led nm hn) hp
 par := fun i y o hi => by
  by_cases c : i < es.length
  ·rw [AC c] at hi
   obtain ⟨h1,h2⟩ := h.par i y o hi
   refine ⟨h1,fun p e => ?_⟩
   obtain ⟨k1,j,o',jl,ej⟩ := h2 p e
   exact ⟨k1,j,o',jl,by rw [AC (by omega)]; exact ej⟩
  ·rw [A4 (by omega)] at hi
   have e0 : i - es.length = 0 := by
    rcases Nat.eq_zero_or_pos (i - es.length) with z | z
    ·exact z
    ·rw [BJ (by simp; omega)] at hi; cases hi
   rw [e0] at hi
   simp at hi
   obtain ⟨rfl,rfl⟩ := hi
   refine ⟨(fun z => nomatch z),fun p e => ?_⟩
   cases e
   obtain ⟨q,hq,rfl⟩ := AZ.mp hn
   obtain ⟨j,hj⟩ := AW.mp hq
   have jl := (A1.mp hj).1
   exact ⟨hp,j,q.2,by omega,by rw [AC jl]; exact hj⟩
 room := by
  have := qo (ks := aE es) (show b ∈ ps.map (·.2) from AZ.mpr ⟨_,hp,rfl⟩)
  have e : bJ (aE es) b = aE es ++ [b] := if_neg hb
  rw [e] at this
  rw [dI]
  exact Ae this h.room
theorem cr.good {ps : List (Str × Str)} {good : Str} {es : List (Str × Option Str)} (h : cr ps good es) : good ∈ aE es := AZ.mpr ⟨(good,none),AL h.first,rfl⟩
theorem sA {H H' : Hp} (g : au H H') (a : Addr) (o : HO) : au (ar H a o) (ar H' a o) := fun b u e => by
 by_cases z : b = a
 ·subst z
  rw [ae] at e ⊢
  exact e
 ·rw [af z] at e ⊢
  exact g b u e
theorem um {ys : List Str} {v x : V} {i : Nat} {k : Key} (h : (bj ys v)[i]? = some (k,x)) : ∃ b,ys[i]? = some b /\ k = .inr b := by
 unfold bj at h
 rw [Ac] at h
 cases e : ys[i]? with
 | none => rw [e] at h; cases h
 | some b => rw [e] at h; cases h; exact ⟨b,rfl,rfl⟩
structure uo (ps : List (Str × Str)) (good : Str) (es : List (Str × Option Str)) : Prop where
 base : cr ps good es
 all : ∀ y,y ∈ aE es ↔ Led ps good y
def gQ : Sp := fun vs H Q _ => ∃ (d : Addr) (good : Str) (rows : List (Str × List Str)) (ps : List (Str × Str)),vs = [.ref d,.str good] /\ DD H d rows /\ bI rows ps /\ ps.length <= 1000 /\
 ∀ (ah : Addr) (H' : Hp) (es : List (Str × Option Str)),au H H' -> H' ah = some (.dK (aP es)) -> uo ps good es -> Q (.ref ah) H'
theorem wa {H : Hp} {rows : List (Str × List Str)} {rs : List Addr} {ps : List (Str × Str)} {x : Str} (dr : a7 H rows rs) (nd : rs.Nodup) (ok : bI rows ps) :
  (aN (cy rows rs) (.inr x) = none /\ ∀ b,(x,b) ∉ ps) ∨ ∃ r ys,aN (cy rows rs) (.inr x) = some (.ref r) /\ r ∈ rs /\ H r = some (.dK (bj ys (.bl true))) /\ ys.length <= ps.length /\ ys.Nodup /\ ∀ b,b ∈ ys ↔ (x,b) ∈ ps := by
 cases e : aN (cy rows rs) (.inr x) with
 | none =>
  refine .inl ⟨rfl,fun b hb => ?_⟩
  exact (dr.at_none (y := x) (p := 0) e).2.2 b ((ok.mem x b).mpr hb)
 | some w =>
  obtain ⟨r,ys,rfl,hr,hm,hH,_,_⟩ := dr.at_some (y := x) nd e
  refine .inr ⟨r,ys,rfl,hr,hH,(ok.small _ hm).1,(ok.small _ hm).2,fun b => ?_⟩
  rw [<- ok.mem]
  constructor
  ·exact fun h => ⟨ys,hm,h⟩
  ·rintro ⟨zs,hz,hb⟩
   have : zs = ys := by
    have inj : ∀ {l : List (Str × List Str)},(l.map (·.1)).Nodup -> ∀ {a b c},(a,b) ∈ l -> (a,c) ∈ l -> b = c := by
     intro l
     induction l with
     | nil => intro _ a b c h; simp at h
     | cons p l ih =>
      intro nd a b c h1 h2
      have nd' := AS.mp nd
      rcases A3.mp h1 with e1 | e1
      ·rcases A3.mp h2 with e2 | e2
       ·rw [<- e1] at e2; cases e2; rfl
       ·exact absurd (AZ.mpr ⟨(a,c),e2,by rw [<- e1]⟩) nd'.1
      ·rcases A3.mp h2 with e2 | e2
       ·exact absurd (AZ.mpr ⟨(a,b),e1,by rw [<- e2]⟩) nd'.1
       ·exact ih nd'.2 e1 e2
    exact inj ok.keys hz hm
   rw [<- this]
   exact hb
structure Way (ps : List (Str × Str)) (good goal : Str) (c : List Str) : Prop where
 first : c[0]? = some good
 last : c.getLast? = some goal
 nd : c.Nodup
 pair : ∀ (i : Nat) (a b : Str),c[i]? = some a -> c[i + 1]? = some b -> (a,b) ∈ ps
 alone : goal = good -> c = [good]
 few : c.length <= 1001
structure Back (ps : List (Str × Str)) (good goal : Str) (es : List (Str × Option Str)) (rc : List Str) (o : Option Str) : Prop where
 nd : rc.Nodup
 pair : ∀ (i : Nat) (a b : Str),rc[i]? = some a -> rc[i + 1]? = some b -> (b,a) ∈ ps
 first : rc.head? = some goal ∨ (rc = [] /\ o = some goal)
 nxt : ∀ y,o = some y -> ∃ (i : Nat) (oy : Option Str),es[i]? = some (y,oy) /\ (∀ x ∈ rc,∃ (j : Nat) (ox : Option Str),i < j /\ es[j]? = some (x,ox)) /\ (∀ a,rc.getLast? = some a -> (y,a) ∈ ps) /\ rc.length + i < es.length
 fin : o = none -> rc.getLast? = some good
 alone : goal = good -> rc = [] ∨ (rc = [good] /\ o = none)
 few : rc.length <= es.length
theorem fM {es : List (Str × Option Str)} {i : Nat} {y : Str} {o : Option Str} (h : es[i]? = some (y,o)) : (aE es)[i]? = some y := by
 unfold aE
 rw [Ac,h]
 rfl
theorem xj {xs : List Str} (nd : xs.Nodup) {i j : Nat} {y : Str} (h1 : xs[i]? = some y) (h2 : xs[j]? = some y) : i = j := by
 obtain ⟨l1,e1⟩ := A1.mp h1
 obtain ⟨l2,e2⟩ := A1.mp h2
 exact (List.getElem_inj nd).mp (e1.trans e2.symm)
theorem cr.at {ps : List (Str × Str)} {good : Str} {es : List (Str × Option Str)} (h : cr ps good es) {i j : Nat} {y : Str} {o o' : Option Str} (h1 : es[i]? = some (y,o)) (h2 : es[j]? = some (y,o')) : i = j :=
 xj h.nd (fM h1) (fM h2)
theorem Back.start {ps : List (Str × Str)} {good goal : Str} {es : List (Str × Option Str)} (hg : goal ∈ aE es) : Back ps good goal es [] (some goal) where
 nd := List.nodup_nil
 pair := fun i a b h => by simp at h
 first := .inr ⟨rfl,rfl⟩
 nxt := fun y e => by
  cases e
  obtain ⟨p,hp,rfl⟩ := AZ.mp hg
  obtain ⟨i,hi⟩ := AW.mp hp
  refine ⟨i,p.2,hi,by simp,by simp,?_⟩
  have := (A1.mp hi).1
  simpa using this
 fin := fun e => nomatch e
 alone := fun _ => .inl rfl
 few := by simp
theorem Back.step {ps : List (Str × Str)} {good goal : Str} {es : List (Str × Option Str)} (ab : cr ps good es) {rc : List Str} {y : Str} {oy : Option Str} {i : Nat} (h : Back ps good goal es rc (some y)) (hi : es[i]? = some (y,oy)) : Back ps good goal es (rc ++ [y]) oy := by
 obtain ⟨i',oy',h1,h2,h3,h4⟩ := h.nxt y rfl
 obtain rfl := ab.at hi h1
 have par := ab.par i y oy hi
 have ny : y ∉ rc := fun m => by
  obtain ⟨j,ox,lt,e⟩ := h2 y m
  have := ab.at hi e
  omega
 refine ⟨?_,?_,?_,?_,?_,?_,?_⟩
 ·rw [BC]
  refine ⟨h.nd,by simp,?_⟩
  intro u hu v hv
  simp at hv
  subst hv
  exact fun z => ny (z ▸ hu)
 ·intro k a b ha hb
  by_cases c : k + 1 < rc.length
  ·rw [AC (by omega)] at ha
   rw [AC c] at hb
   exact h.pair k a b ha hb
  ·have kl : k + 1 < (rc ++ [y]).length := (A1.mp hb).1
   simp at kl
   have ke : k + 1 = rc.length := by omega
   rw [A4 (by omega),ke] at hb
   simp at hb
   subst hb
   rw [AC (by omega)] at ha
   refine h3 a ?_
   rw [List.getLast?_eq_getElem?,<- ha]
   congr 1
   omega
 ·rcases h.first with k | ⟨rfl,k⟩
  ·left
   cases rc with
   | nil => simp at k
   | cons z zs => simpa using k
  ·cases k
   left
   rfl
 ·intro p e
  obtain ⟨hp,j,o',jl,ej⟩ := par.2 p e
  refine ⟨j,o',ej,?_,?_,?_⟩
  ·intro x hx
   rcases A9.mp hx with k | k
   ·obtain ⟨j2,ox,lt,e2⟩ := h2 x k
    exact ⟨j2,ox,by omega,e2⟩
   ·simp at k
    subst k
    exact ⟨i,oy,jl,hi⟩
  ·intro a ha
   simp at ha
   subst ha
   exact hp
  ·simp
   omega
 ·intro e
  have i0 := par.1 e
  subst i0
  rw [ab.first] at hi
  cases hi
  simp
 ·intro e
  subst e
  rcases h.alone rfl with rfl | ⟨_,k⟩
  ·rcases h.first with k | ⟨_,k⟩
   ·simp at k
   ·cases k
    right
    have := ab.at hi ab.first
    subst this
    rw [ab.first] at hi
    cases hi
    exact ⟨rfl,rfl⟩
  ·cases k
 ·simp
  omega
theorem Back.way {ps : List (Str × Str)} {good goal : Str} {es : List (Str × Option Str)} (ab : cr ps good es) {rc : List Str} (h : Back ps good goal es rc none) : Way ps good goal rc.reverse where
 first := by
  have := h.fin rfl
  rw [<- List.head?_eq_getElem?,List.head?_reverse]
  exact this
 last := by
  rw [List.getLast?_reverse]
  rcases h.first with k | ⟨_,k⟩
  ·exact k
  ·cases k
 nd := by
  unfold List.Nodup
  rw [List.pairwise_reverse]
  exact h.nd.imp fun n => Ne.symm n
 pair := fun i a b ha hb => by
  have l : i + 1 < rc.reverse.length := (A1.mp hb).1
  rw [Aw] at l
  rw [List.getElem?_reverse (by omega)] at ha hb
  refine h.pair (rc.length - 1 - (i + 1)) b a hb ?_
  rw [<- ha]
  congr 1
  omega
 alone := fun e => by
  rcases h.alone e with k | ⟨k,_⟩
  ·subst k
   have := h.fin rfl
   simp at this
  ·rw [k]
   rfl
 few := by
  rw [Aw]
  have := h.few
  have r := ab.room
  have l : (aE es).length = es.length := by simp [aE]
  omega
def mj (es : List (Str × Option Str)) : Option (Option V) -> Nat
 | some (some (.str y)) => (aE es).idxOf y + 1
 | _ => 0
theorem mn {ps : List (Str × Str)} {good : Str} {es : List (Str × Option Str)} (ab : cr ps good es) {i : Nat} {y : Str} {o : Option Str} (h : es[i]? = some (y,o)) : mj es (some (some (.str y))) = i + 1 := by
 show (aE es).idxOf y + 1 = i + 1
 have hk := fM h
 obtain ⟨l,e⟩ := A1.mp hk
 rw [<- e,ab.nd.idxOf_getElem]
theorem sB {ps : List (Str × Str)} {good : Str} {es : List (Str × Option Str)} (ab : cr ps good es) {i : Nat} {y : Str} {o : Option Str} (h : es[i]? = some (y,o)) : mj es (some (some (nO o))) < mj es (some (some (.str y))) := by
 rw [mn ab h]
 cases o with
 | none => exact Nat.succ_pos _
 | some p =>
  obtain ⟨_,j,o',jl,ej⟩ := (ab.par i y _ h).2 p rfl
  show mj es (some (some (.str p))) < _
  rw [mn ab ej]
  omega
end Sw
namespace L2
open PySem PySem.Spec PyProof.Rows XH
section
variable {X : Cx} {scope : Scope} {cl : List (Str × Addr)} {own : Str} {ys : List Str} {js : List Nat} {elt iter cond : Expr} {px pos : Pos} {wi : TI} {te : TE} {tc : TT}
theorem jx {i : Nat} {y : Str} {py spos : Pos} (hN : X.N.Nodup) (hi' : X.N[i]? = some y) (hy : X.env.scope.names.lookup y = some .local) (hc : X.calm = true) (ok : ir X scope cl own ys js) (hi : PI X (.Name own px) iter wi)
  (hq : ∀ (C : Addr) (fp : List Addr) (s : Shared) (H : Hp),PT (X.block scope cl C (own :: ys) own fp s H) cond tc)
  (he : ∀ (C : Addr) (fp : List Addr) (s : Shared) (H : Hp),PE (X.block scope cl C (own :: ys) own fp s H) elt te)
  (hsw : swapsWith (.ListComp elt [⟨.Name own px,iter,[cond],0⟩] scope pos) (some (.Name y py)) spos.line X.env = pure true := by rfl) (hs : ∀ x,foldedSetIterable iter X.env x = pure x := by intro _; rfl) :
  PS X (.Assign [.Name y py] (.ListComp elt [⟨.Name own px,iter,[cond],0⟩] scope pos) spos) (wC (pc wi js tc te) (bv i)) := by
 intro pins s σ H D I h
 have ncell : ∀ y ∈ scope.names,y.2 ≠ .cell := fun y hy z => by
  have q := BH.mp ok.nocell y hy
  rw [z] at q
  simp at q
 have nloc : ∀ y ∈ scope.names,y.2 = .local -> scope.names.lookup y.1 = some .local := fun y hy z => by
  have q := BH.mp ok.loc y hy
  rw [z] at q
  simpa using q
 show wpAny _ _ (exec _ X.env) _ _ _
 rw [exec_Assign_Name_used _ _ _ _ hsw]
 refine wpAny_bind (wpAny_standAt (wpAny_bind ?_))
 show wpAny _ X.A (do let _ <- comprehension (.ListComp elt [⟨.Name own px,iter,[cond],0⟩] scope pos) scope X.env _ (newList []) false (eval iter X.env) (some (assign (.Name y py) X.env))) _ _ s
 refine wpAny_bind (wpAny_mono (wpAny_comprehension_free (use := some (assign (.Name y py) X.env)) (Q := fun _ s' => SP X pins D .next s') rfl hs ok.clos ok.kind nloc (aZ (hi pins s σ H _ I h) fun v s1 h1 => aZ h1 fun itv s2 h2 => ?_)) (fun _ s' hq => wpAny_pure (wpAny_pure hq)) fun _ _ e => e)
 obtain ⟨it,fp,tn,J,H2,rfl,I2,T,st2,f2,q2⟩ := h2
 obtain ⟨W,⟨m0,w0⟩,turn⟩ := q2 s2.heap.objs.size (I2.hok.fresh (A5 _))
 refine wpAny_newObj_type (wpAny_newFunctionEnv ncell (by intro y hy; simp at hy) (fun h1 hns hsb => ?_) ok.kind)
 have I3 := I2.laid (a := s2.heap.objs.size) (o := .lst []) (h' := s2.heap.push { cls := .type "list",dict := none,data := .seq ([] : List Value).toArray }) (t' := s2.toks) (fun b u q => Heap.get?_push_of_some _ q) (A5 _)
  ⟨Al _,[],0,.nil,Heap.get?_push_size _ rfl⟩
 have fpo : ∀ b ∈ fp,b < s2.heap.objs.size := fun b hb => by
  obtain ⟨o,e,_⟩ := T.obj 0 _ st2 b hb
  exact Heap.lt_size e
 have f3 : ∀ b ∈ fp,dR X pins (ar H2 s2.heap.objs.size (.lst [])) b := fun b hb => ⟨by rw [af (AE (fpo b hb))]; exact (f2 b hb).1,(f2 b hb).2⟩
 generalize hs3 : ({ s2 with heap := s2.heap.push { cls := .type "list",dict := none,data := .seq ([] : List Value).toArray },toks := s2.toks } : Shared) = s3 at I3
 have e3 : s3.heap = s2.heap.push { cls := .type "list",dict := none,data := .seq ([] : List Value).toArray } := by rw [<- hs3]
 have lt3 : ∀ b ∈ fp,b < s3.heap.objs.size := fun b hb => by rw [e3,Heap.size_push]; exact B3 (fpo b hb)
 dsimp only at hns hsb ⊢
 rw [<- e3] at hns hsb
 have hk : ∀ b o,s3.heap.get? b = some o -> h1.get? b = some o := fun b o e => hsb.extBut b o (AE (Heap.lt_size e)) (Heap.get?_push_of_some _ e)
 have J0 := d7 (h1 := h1) ok I3 f3 lt3 hns hk (s2.toks + 0)
 have t0 : tn 0 h1 := T.keep 0 _ _ st2 fun b hb o e => hk b o (by rw [e3]; exact Heap.get?_push_of_some _ e)
 have fpB : ∀ {H' : Hp},(∀ b ∈ fp,H' b = none) -> ∀ b ∈ fp,dR (X.block scope cl s3.heap.objs.size (own :: ys) own fp s3 (ar H2 s2.heap.objs.size (.lst []))) [] H' b := fun {H'} hn b hb =>
  ⟨hn b hb,AE (lt3 b hb),fun z => (A3.mp (I3.stkSub b z)).elim (f3 b hb).2.1 (f3 b hb).2.2.1,.inl hb,fun x c e => (f3 b hb).2.2.2.2.1 x c (ok.sub (x,c) (Au e)),fun p hp => absurd (show p ∈ ([] : List (Addr × Obj)) from hp) (by simp)⟩
 have loop : codeAny (model X.prog X.w) X.A (.compLoop (.ListComp elt [⟨.Name own px,iter,[cond],0⟩] scope pos) 0 (.ref it) (.ref s2.heap.objs.size) (compEnvC scope cl s3.heap.objs.size X.env))
   (compPost (model X.prog X.w) X.A X.xe (some (assign (.Name y py) X.env)) (fun _ s' => SP X pins D .next s') (.ref s2.heap.objs.size) s3.heap.objs.size) { s3 with heap := h1,toks := s2.toks + 0 } := by
  refine gC (fun n s' => ∃ i zs o0 H',aq (X.block scope cl s3.heap.objs.size (own :: ys) own fp s3 (ar H2 s2.heap.objs.size (.lst []))) [] (o0 :: a8 js σ) H' s' /\ tn i s'.heap /\ (∀ b ∈ fp,H' b = none) /\ W i n zs H') ?_ m0
   ⟨0,[],none,_,J0,t0,fun b hb => (f3 b hb).1,w0⟩
  rintro n s5 ⟨i,zs,o0,H5,I5,t5,n5,w5⟩
  obtain ⟨hD,hw⟩ := turn i n zs H5 w5
  rcases hw with ⟨stop,qn⟩ | ⟨go,hz,step⟩
  ·refine aZ (T.done (X.block scope cl s3.heap.objs.size (own :: ys) own fp s3 (ar H2 s2.heap.objs.size (.lst []))) rfl rfl rfl hc i [] s5 _ H5 (fun _ _ => False) I5 (fpB n5) t5 stop) fun r s6 ⟨hr,I6⟩ => ?_
   subst hr
   obtain ⟨m,hn,_⟩ := id I6.loc
   have J : aq X pins σ H5 s6 := f8 (h' := s6.heap) I3 f3 I6 (Heap.SameBut.refl _ _)
   have fC := I3.fpOk (A5 _) (show H5 s3.heap.objs.size = none from I6.free)
   obtain ⟨k0,k1,k2,k3,k4,k5⟩ := fC
   show wpAny _ X.A (assign (.Name y py) X.env (.ref s2.heap.objs.size)) _ _ _
   refine wpAny_assign_Name (je (v := .ref s2.heap.objs.size) J hN hi' (.inl hy) rfl (fun s7 I7 hsb => ?_) (.inr hy))
   obtain ⟨a',sb,ha⟩ := hsb
   have ne : s3.heap.objs.size ≠ a' := by
    rcases ha with z | z
    ·rw [z]; exact k1
    ·exact fun w => k4 _ _ z w.symm
   exact ⟨m,hn.sameBut sb ne,fun h' hs' => ⟨_,H5,I7.turned (t' := s7.toks) (fun b o hb e => (hs'.2 b hb).trans e) k0 k1 k3 k4 k5,qn⟩⟩
  ·refine aZ (T.item (X.block scope cl s3.heap.objs.size (own :: ys) own fp s3 (ar H2 s2.heap.objs.size (.lst []))) rfl rfl rfl hc i [] s5 _ H5 (fun _ _ => False) I5 (fpB n5) t5 go) fun r s6 ⟨u,hr,h6⟩ => ?_
   subst hr
   refine aZ h6 fun _ s7 ⟨x,H7,I7,r7,y7,t7,n7⟩ => ?_
   have I7' := I7.pinned (fpB n7) (T.obj _ _ t7)
   have hst := step x H7 y7
   have own' : (relabel scope X.env).names.lookup own = some .local := lookup_relabel_local ok.ownL
   refine aZ (ce (X := X.block scope cl s3.heap.objs.size (own :: ys) own fp s3 (ar H2 s2.heap.objs.size (.lst []))) (i := 0) (x := own) (pos := px) ok.nd rfl (.inl own') (.inr own') _ s7 _ H7 x u (fun σ' H' => σ' = some x :: a8 js σ /\ H' = H7) I7' r7 ⟨rfl,rfl⟩) fun _ s8 ⟨σ8,H8,I8,e8,eH8⟩ => ?_
   subst e8 eH8
   refine aZ (hq _ _ _ _ _ s8 _ H8 _ I8 hst) fun ok s9 ⟨H9,I9,h9⟩ => ?_
   have frame : ∀ {s' : Shared} {H' : Hp},aq (X.block scope cl s3.heap.objs.size (own :: ys) own fp s3 (ar H2 s2.heap.objs.size (.lst []))) ([] ++ fT fp s7.heap) (some x :: a8 js σ) H' s' -> tn (i + 1) s'.heap /\ ∀ b ∈ fp,H' b = none := fun {s' H'} I' =>
    ⟨T.keep _ _ _ t7 fun b hb o e => (I'.pin (b,o) (AD _ (AD _ (bN hb e)))).1,fun b hb => by
     obtain ⟨o,e,d⟩ := T.obj _ _ t7 b hb
     exact (I'.pin (b,o) (AD _ (AD _ (bN hb e)))).2.1⟩
   cases ok with
   | true =>
    refine aZ (he _ _ _ _ _ s9 _ H9 _ I9 h9) fun yv s10 ⟨y,H10,I10,r10,hD10,m',hm,w10⟩ => ?_
    refine aZ (df _ s10 _ H10 (.ref s2.heap.objs.size) [y] (.ref s2.heap.objs.size) [yv] (fun _ H' => H' = ar H10 s2.heap.objs.size (.lst (zs ++ [y]))) I10 rfl (.cons r10 .nil) ⟨_,zs,y,rfl,rfl,hD10,hz,rfl⟩) fun _ s11 ⟨_,H11,I11,_,e11⟩ => ?_
    subst e11
    exact ⟨m',hm,i + 1,zs ++ [y],some x,_,I11.unpinned,(frame I11).1,(frame I11).2,w10⟩
   | false =>
    obtain ⟨m',hm,w10⟩ := h9
    exact ⟨m',hm,i + 1,zs,some x,_,I9.unpinned,(frame I9).1,(frame I9).2,w10⟩
 subst hs3
 exact codeAny_compStart_list loop (T.self _ 0 _ _ _ t0 loop)
end
theorem wb {X : Cx} {K : A0} (h : X.K = K) : eM X (compareOp .In) (yj K false) := by
 subst h
 exact fX
theorem iJ {X : Cx} (hu : X.A.units < cLine) : eM X (compareOp .Eq) (fun x y H Q => ∃ a b zs,x = .ref a /\ y = .ref b /\ bu X.K H a zs /\ bu X.K H b [] /\ Q (.bl zs.isEmpty) H) := by
 intro pins s σ H x y v u Q I rx ry h
 obtain ⟨a,b,zs,rfl,rfl,h1,h2,hq⟩ := h
 cases rx
 cases ry
 obtain ⟨i1,r1,p1,_⟩ := I.list h1
 obtain ⟨i2,r2,p2,_⟩ := I.list h2
 cases r2
 cases zs with
 | nil =>
  cases r1
  refine SeqAt.eq_listAt (e := fun _ => true) p1.isList p2.isList rfl hu (fun j g1 g2 => absurd g1 (by simp)) ?_
  exact ⟨.bl true,H,I,by show Value.bool _ = Value.bool _; simp,hq⟩
 | cons z zs =>
  cases r1 with
  | cons r rr =>
   refine SeqAt.eq_list_lengthsAt p1.isList p2.isList (by simp) hu ?_
   exact ⟨.bl false,H,I,rfl,hq⟩
theorem mq {a : Addr} {o : Obj} {kvs : List (Key × V)} {js : List Nat} {tc : TT} {σ : L2.St} {H1 : Hp} {Q : VK} (pr : Key -> Bool) (hf : H1 a = some (.frz o (.dK kvs))) (hz : kvs.length <= sizeLine)
  (step : ∀ (i : Nat) (k : Key) (x : V),kvs[i]? = some (k,x) -> ∀ H3,au H1 H3 -> ∀ R : Bool -> Hp -> Prop,R (pr k) H3 -> tc (some (kV k) :: a8 js σ) H3 R)
  (fin : ∀ p H',au H1 H' -> H' p = some (.lst ((kvs.filter fun e => pr e.1).map fun e => kV e.1)) -> Q (.ref p) H') : iD js tc (sZ 0) σ Q (wu a o kvs) H1 := by
 intro p hp
 refine ⟨fun i m ys H2 => i <= kvs.length /\ m = kvs.length - i /\ ys = ((kvs.take i).filter fun e => pr e.1).map (fun e => kV e.1) /\ au H1 H2 /\ H2 p = some (.lst ys),⟨kvs.length,Al _,rfl,rfl,Sw.ai hp _,ae⟩,?_⟩
 rintro i m ys H2 ⟨hi,rfl,rfl,g,e⟩
 refine ⟨e,?_⟩
 have f2 := g _ _ hf
 by_cases hin : i < kvs.length
 ·refine .inr ⟨⟨f2,hin⟩,?_,fun x H3 hy => ?_⟩
  ·have := B5 (fun e : Key × V => pr e.1) (kvs.take i)
   rw [A8]
   rw [AH] at this
   omega
  obtain ⟨rfl,k,v,hk,rfl⟩ := hy
  have tk : ((kvs.take (i + 1)).filter fun e => pr e.1) = ((kvs.take i).filter fun e => pr e.1) ++ (if pr k = true then [(k,v)] else []) := by
   rw [BR,hk,List.filter_append]
   congr 1
   simp [B8]
  refine step i k v hk H3 g _ ?_
  cases hpr : pr k with
  | true =>
   rw [hpr,if_pos rfl] at tk
   rw [if_pos rfl]
   exact ⟨_,rfl,e,kvs.length - (i + 1),by omega,hin,rfl,by rw [tk,BL]; rfl,Sw.iz g hp _,ae⟩
  | false =>
   rw [hpr,if_neg (by decide),Bs] at tk
   rw [if_neg (by decide)]
   exact ⟨kvs.length - (i + 1),by omega,hin,rfl,by rw [tk],g,e⟩
 ·have e2 : i = kvs.length := by omega
  subst e2
  refine .inl ⟨⟨f2,rfl⟩,fin p H2 g ?_⟩
  rw [e,Ak (A5 _)]
theorem gD {K : A0} {a : Addr} {xs : List V} {js : List Nat} {tc : TT} {σ : L2.St} {H1 : Hp} {Q : VK} (pr : V -> Bool) (hS : bu K H1 a xs) (hz : xs.length <= sizeLine)
  (step : ∀ x ∈ xs,∀ H3,au H1 H3 -> ∀ R : Bool -> Hp -> Prop,R (pr x) H3 -> tc (some x :: a8 js σ) H3 R)
  (fin : ∀ p H',au H1 H' -> H' p = some (.lst (xs.filter pr)) -> Q (.ref p) H') : iD js tc (sZ 0) σ Q (vq K a) H1 := by
 intro p hp
 refine ⟨fun i m ys H2 => i <= xs.length /\ m = xs.length - i /\ ys = (xs.take i).filter pr /\ au H1 H2 /\ H2 p = some (.lst ys),⟨xs.length,Al _,rfl,rfl,Sw.ai hp _,ae⟩,?_⟩
 rintro i m ys H2 ⟨hi,rfl,rfl,g,e⟩
 refine ⟨e,?_⟩
 have S2 := g.seq hS
 by_cases hin : i < xs.length
 ·refine .inr ⟨⟨xs,xs[i],S2,AK hin⟩,?_,fun x H3 hy => ?_⟩
  ·have := B5 pr (xs.take i)
   rw [AH] at this
   omega
  obtain ⟨rfl,hx⟩ := hy
  have ex := hx xs S2
  have tk : (xs.take (i + 1)).filter pr = (xs.take i).filter pr ++ (if pr x = true then [x] else []) := by
   rw [BR,ex,List.filter_append]
   congr 1
   simp [B8]
  refine step x (AL ex) H3 g _ ?_
  cases hpr : pr x with
  | true =>
   rw [hpr,if_pos rfl] at tk
   rw [if_pos rfl]
   exact ⟨_,rfl,e,xs.length - (i + 1),by omega,hin,rfl,by rw [tk],Sw.iz g hp _,ae⟩
  | false =>
   rw [hpr,if_neg (by decide),Bs] at tk
   rw [if_neg (by decide)]
   exact ⟨xs.length - (i + 1),by omega,hin,rfl,by rw [tk],g,e⟩
 ·have e2 : i = xs.length := by omega
  subst e2
  refine .inl ⟨⟨xs,S2,A5 _⟩,fin p H2 g ?_⟩
  rw [e,Ak (A5 _)]
end L2
namespace Sw
open PySem L2 PyProof.Rows
theorem jy {α β : Type} {F : α -> β -> Prop} : ∀ {l : List α} {m : List β},Paired F l m -> ∀ {i : Nat} {b : β},m[i]? = some b -> ∃ a,l[i]? = some a /\ F a b
 | _,_,.nil,i,b,h => by simp at h
 | _,_,.cons r t,0,b,h => by simp at h; subst h; exact ⟨_,rfl,r⟩
 | _,_,.cons r t,i + 1,b,h => by
  obtain ⟨a,h1,h2⟩ := jy t (i := i) (by simpa using h)
  exact ⟨a,by simpa using h1,h2⟩
def zk (gs : List Str) : Key -> Bool
 | .inr y => decide (y ∈ gs)
 | _ => false
theorem mw (gs : List Str) : ∀ es : List (Str × Option Str),(((aP es).filter fun e => zk gs e.1).map fun e => kV e.1) = ((aE es).filter fun y => decide (y ∈ gs)).map V.str
 | [] => rfl
 | (c,o) :: es => by
  have ih := mw gs es
  show ((((.inr c,nO o) :: aP es).filter fun e => zk gs e.1).map fun e => kV e.1) = (((c :: aE es).filter fun y => decide (y ∈ gs)).map V.str)
  by_cases h : c ∈ gs
  ·rw [List.filter_cons_of_pos (by show decide (c ∈ gs) = true; exact decide_eq_true h),List.filter_cons_of_pos (by exact decide_eq_true h),An,An,ih]
   rfl
  ·rw [List.filter_cons_of_neg (by show ¬ decide (c ∈ gs) = true; simp [h]),List.filter_cons_of_neg (by simp [h]),ih]
theorem fN (x : Str) (gs : List Str) : tF (.str x) (gs.map V.str) = decide (x ∈ gs) := by
 unfold tF
 rw [Bt]
 simp [tE]
theorem dj (gs : List Str) : (gs.map V.str).all fq = true := by
 rw [BH]
 intro x hx
 obtain ⟨y,_,rfl⟩ := AZ.mp hx
 rfl
end Sw
namespace L2
open PySem PySem.Spec PyProof.Rows XH Sw So
theorem eG : ∀ {acc : List Value} {ks : List Str},acc.length = ks.length -> (∀ (j : Nat) (v : Value),acc[j]? = some v -> ∃ y t,ks[j]? = some y /\ v = .str y t) -> StrsAre acc ks
 | [],[],_,_ => .nil
 | v :: acc,k :: ks,hl,h => by
  obtain ⟨y,t,e,rfl⟩ := h 0 v rfl
  simp at e
  subst e
  exact .cons _ _ (eG (by simpa using hl) fun j u hu => h (j + 1) u (by simpa using hu))
 | [],_ :: _,hl,_ => by simp at hl
 | _ :: _,[],hl,_ => by simp at hl
theorem dJ : ∀ {us : List Value} {ks : List Str},StrsAre us ks -> aM (ks.map V.str) us
 | _,_,.nil => .nil
 | _,_,.cons y t h => .cons ⟨t,rfl⟩ (dJ h)
theorem qr : ∀ {vs : List Value} {ks : List Str},StrsAre vs ks -> ks.Nodup -> (pairsOf vs).toList.Pairwise (fun p q => kk strKind p ≠ kk strKind q) := by
 intro vs ks h nd
 rw [pairsOf_toList]
 have key : ∀ {vs : List Value} {ks : List Str},StrsAre vs ks -> ks.Nodup -> (vs.zip vs).Pairwise (fun p q => kk strKind p ≠ kk strKind q) /\ ∀ p ∈ vs.zip vs,∃ y ∈ ks,kk strKind p = y.cps.toList := by
  intro vs ks h
  induction h with
  | nil => exact fun _ => ⟨by simp,by simp⟩
  | cons y t h ih =>
   intro nd
   have nd' := AS.mp nd
   obtain ⟨i1,i2⟩ := ih nd'.2
   refine ⟨BI.mpr ⟨fun q hq e => ?_,i1⟩,fun p hp => ?_⟩
   ·obtain ⟨z,hz,ez⟩ := i2 q hq
    have e' : y.cps.toList = z.cps.toList := e.trans ez
    have : y = z := by
     cases y; cases z
     congr 1
     exact BQ.mp e'
    exact nd'.1 (this ▸ hz)
   ·rcases A3.mp hp with e | e
    ·subst e
     exact ⟨y,by simp,rfl⟩
    ·obtain ⟨z,hz,ez⟩ := i2 p e
     exact ⟨z,by simp [hz],ez⟩
 exact (key h nd).1
theorem mB {prog : Program} {w : World} {A : Around} {E : Value -> Shared -> Prop} {s : Shared} {T : String} {r d : Addr} {n : Nat} {P : Nat -> Value -> Prop} {OK : Heap -> Prop} {R : List Value -> Shared -> Prop} (K : PySem.W.KdlSrc prog w T r d n P OK) (hh : A.handled = none) (hok : OK s.heap) (hn : n <= sizeLine)
  (h : ∀ (h' : Heap) (tk : Nat) (acc : Array Value),s.heap.objs.size < h'.objs.size -> (∀ b o,s.heap.get? b = some o -> h'.get? b = some o) -> PySem.ItemsOf P acc n -> R acc.toList { s with heap := h',toks := tk }) :
  wpAny (model prog w) A (collect (.ref r)) R E s := by
 have hlt := K.there _ hok
 unfold collect
 refine wpAny_bind (wpAny_runValue (codeAny_builtin entry_proto_collect' ?_))
 rw [Around.under_plainId PySem.F.plain_proto_collect _]
 show wpAny _ A.in1 (newList [] >>= fun l => again (.builtin "list.__iadd__" ⟨[l,.ref r],[]⟩)) _ _ s
 refine wpAny_bind (wpAny_newObj_type (wpAny_pure ⟨plainId_quiet Bp _,codeAny_builtin entry_list_iadd' ?_⟩))
 rw [Around.under_plainId Bp _]
 have fresh : (s.heap.push { cls := .type "list",data := .seq ([] : List Value).toArray }).get? s.heap.objs.size = some { cls := .type "list",data := .seq #[] } := Heap.get?_push_size _ rfl
 show wpAny _ A.in1 (Builtin.List.listExtendWith (.ref s.heap.objs.size) (.ref r) (.ref s.heap.objs.size)) _ _ _
 have key := PySem.W.kdl_extend (A := A) (s := { s with heap := s.heap.push { cls := .type "list",data := .seq ([] : List Value).toArray } })
  (R := fun (q : Result) (s' : Shared) => ∃ (h' : Heap) (tk : Nat) (acc : Array Value) (c : Nat),q = .ok (.ret (.ref s.heap.objs.size)) /\ s' = { s with heap := h',toks := tk } /\ (∀ b o,s.heap.get? b = some o -> h'.get? b = some o) /\ h'.get? s.heap.objs.size = some { cls := .type "list",dict := none,data := .seq acc c,slots := #[] } /\ PySem.ItemsOf P acc n)
  K hh (K.keep _ _ hok fun b _ o e => Heap.get?_push_of_some _ e) s.heap.objs.size (Bl hlt.1) (Bl hlt.2) (.ref s.heap.objs.size) 0 fresh
  (fun h' tk acc c hk hS ha => ⟨h',tk,acc,c,rfl,rfl,fun b o e => hk b o (AE (Heap.lt_size e)) (Heap.get?_push_of_some _ e),hS,ha⟩) hn
 have fin : ∀ {h' : Heap} {tk c : Nat} {acc : Array Value},(∀ b o,s.heap.get? b = some o -> h'.get? b = some o) -> h'.get? s.heap.objs.size = some { cls := .type "list",dict := none,data := .seq acc c,slots := #[] } -> PySem.ItemsOf P acc n -> R acc.toList { s with heap := h',toks := tk } :=
  fun {h' tk c acc} hk hS ha => h h' tk acc (Heap.lt_size hS) hk ha
 refine wpAny_mono key (fun f s' x => ?_) fun e s' x => ?_
 ·cases f with
  | done f =>
   obtain ⟨h',tk,acc,c,e,rfl,hk,hS,ha⟩ := x
   cases e
   show wpAny _ A (load s.heap.objs.size >>= _) _ _ _
   exact wpAny_bind (wpAny_load hS (wpAny_pure (fin hk hS ha)))
  | again c₁ =>
   refine ⟨x.1,codeAny_mono x.2 fun q s₂ y => ?_⟩
   obtain ⟨h',tk,acc,c,rfl,rfl,hk,hS,ha⟩ := y
   show wpAny _ A (load s.heap.objs.size >>= _) _ _ _
   exact wpAny_bind (wpAny_load hS (wpAny_pure (fin hk hS ha)))
 ·obtain ⟨_,_,_,_,e',_⟩ := x
  cases e'
theorem dL {X : Cx} (hc : X.calm = true) : cn X (.builtin "sorted") (fun xs H Q => ∃ d ks kvs,xs = [.ref d] /\ H d = some (.dK kvs) /\ kvs.map (·.1) = ks.map (fun y => (.inr y : Key)) /\ ks.Nodup /\
  ∀ p ys,H p = none -> ys.Perm ks -> sortedS ys = true -> Q (.ref p) (ar H p (.lst (ys.map V.str)))) := by
 intro pins s σ H xs us Q I r h
 obtain ⟨d,ks,kvs,rfl,hk,ek,nd,q⟩ := h
 obtain ⟨u,rfl,ru⟩ := vals1 r
 cases ru
 obtain ⟨z,hS,ws,rel,D⟩ := ie I.hok hk
 obtain ⟨ep,hat⟩ := D.dictAt
 have lw : ws.length = ks.length := by
  rw [<- rel.length]
  have := congrArg BX ek
  simpa using this
 refine Calls.call_function_entry kind_sorted plain_sorted entry_sorted (args_sorted1 _) ?_
 unfold Builtin.«sorted»
 refine wpAny_bind (m := checkCount "sorted" 1 1 _) (wpAny_pure ?_)
 refine wpAny_bind (mB (A := X.A.in1) (PySem.W.kdl_dict (knd := aA X.prog X.w) (kvs := ws) (ep := ep) hS) (I.ok.hd hc) hat (by rw [<- rel.length]; exact z) fun h' tk acc hlt hkp hacc => ?_)
 have la : acc.toList.length = ks.length := by rw [AJ,hacc.1,lw]
 have SA : StrsAre acc.toList ks := eG la fun j v hv => by
  obtain ⟨k,x,e1,e2⟩ := hacc.2 j v (by rw [<- AT]; exact hv)
  obtain ⟨⟨k',v'⟩,e3,rfl,_⟩ := jy rel e1
  have e4 : (kvs.map (·.1))[j]? = some k' := by rw [Ac,e3]; rfl
  rw [ek,Ac] at e4
  cases e5 : ks[j]? with
  | none => rw [e5] at e4; cases e4
  | some y =>
   rw [e5] at e4
   cases e4
   obtain ⟨t,ht⟩ := oZ e2
   exact ⟨y,t,rfl,ht⟩
 refine wpAny_bind (wpAny_newList ?_ (by rw [la,<- lw,<- rel.length]; exact z))
 have hoL : (h'.push (seqObj "list" acc.toList.toArray 0)).get? h'.objs.size = some (seqObj "list" acc.toList.toArray 0) := Heap.get?_push_size _ rfl
 refine wpAny_bind (wpAny_holding (wpAny_call_entry slot_list_sort ⟨_,hoL,rfl⟩ entry_list_sort (sh strKind_oneLt hoL SA.keysOf (qr SA nd) (fun v₁ v₂ rest e => keyKind_strs (by rw [<- e]; exact SA)) (by rw [la,<- lw,<- rel.length]; exact z) fun st' hp hs => ⟨_,rfl,?_⟩) (args_list_sort _)))
 obtain ⟨ys,h1,h2,h3⟩ := sorted_out_str SA hp hs
 have sl : s.heap.objs.size <= h'.objs.size := Nat.le_of_lt hlt
 refine wpAny_pure ⟨_,rfl,.ref h'.objs.size,_,I.laid (a := h'.objs.size) (o := .lst (ys.map V.str)) (h' := sortedHeap (h'.push (seqObj "list" acc.toList.toArray 0)) h'.objs.size acc.toList ((arrOf st').map (·.2))) (t' := tk) (fun b o eo => ?_) sl ?_,rfl,q _ ys (I.hok.fresh sl) h2 h3⟩
 ·have eo' := hkp b o eo
  have bl := Heap.lt_size eo'
  rw [sortedHeap_old (AE bl) (by rw [size_push']; exact B3 bl)]
  exact Heap.get?_push_of_some _ eo'
 ·obtain ⟨e,he⟩ := sortedHeap_at (out := (arrOf st').map (·.2)) hoL
  refine ⟨by rw [A8,h2.length_eq,<- lw,<- rel.length]; exact z,((arrOf st').map (·.2)).toList,e,dJ h1,?_⟩
  rw [Array.toArray_toList]
  exact he
end L2
namespace So
open PySem PySem.Spec PyProof.Rows
def uq (x y : Str) : Prop := ¬ (y.cps.toList < x.cps.toList)
theorem qt {x y z : Str} (h1 : uq x y) (h2 : uq y z) : uq x z := fun h => by
 unfold uq at h1 h2
 exact h1 (List.lt_of_le_of_lt (List.not_lt.mp h2) h)
theorem sC {x y : Str} (h1 : uq x y) (h2 : uq y x) : x = y := by
 have e := List.le_antisymm (List.not_lt.mp h1) (List.not_lt.mp h2)
 cases x; cases y
 congr 1
 exact BQ.mp e
theorem jz : ∀ (r : List Str) (x : Str),risingS x r = true -> (x :: r).Pairwise uq
 | [],x,_ => by simp
 | y :: r,x,h => by
  unfold risingS at h
  have h' : ltCps y.cps.toList x.cps.toList = false /\ risingS y r = true := by
   simpa [BU] using h
  have ih := jz r y h'.2
  have xy : uq x y := by
   have := h'.1
   rw [ltCps_eq] at this
   exact of_decide_eq_false this
  refine BI.mpr ⟨fun z hz => ?_,ih⟩
  rcases A3.mp hz with e | e
  ·rw [e]; exact xy
  ·exact qt xy ((BI.mp ih).1 z e)
theorem jA {l : List Str} (h : sortedS l = true) : l.Pairwise uq := by
 cases l with
 | nil => simp
 | cons x r => exact jz r x h
theorem mC {l m : List Str} (h1 : sortedS l = true) (h2 : sortedS m = true) (p : l.Perm m) : l = m :=
 List.Perm.eq_of_pairwise (fun a b _ _ ha hb => sC ha hb) (jA h1) (jA h2) p
end So
namespace Sw
open PySem L2 PyProof.Rows So
theorem qu (ks : List Str) (v : V) : (bj ks v).map (·.1) = ks.map (fun y => (.inr y : Key)) := by
 unfold bj
 rw [BY]
 rfl
theorem mD (es : List (Str × Option Str)) : (aP es).map (·.1) = (aE es).map (fun y => (.inr y : Key)) := by
 unfold aP aE
 rw [BY,BY]
 rfl
def iK : Sp := fun vs H Q _ => ∃ (d : Addr) (good : Str) (rows : List (Str × List Str)) (ps : List (Str × Str)),vs = [.ref d,.str good] /\ DD H d rows /\ bI rows ps /\ ps.length <= 1000 /\
 ∀ (l : Addr) (H' : Hp) (ys : List Str),au H H' -> H l = none -> H' l = some (.lst (ys.map V.str)) -> sortedS ys = true -> ys.Nodup -> (∀ y,y ∈ ys ↔ Led ps good y) -> Q (.ref l) H'
theorem a7.free {H : Hp} {p : Addr} (hn : H p = none) : ∀ {rows : List (Str × List Str)} {rs : List Addr},a7 H rows rs -> p ∉ rs
 | [],[],_ => by simp
 | _ :: _,r :: _,h => fun m => by
  rcases A3.mp m with e | e
  ·have := h.1
   rw [<- e,hn] at this
   cases this
  ·exact a7.free hn h.2 e
 | [],_ :: _,h => h.elim
 | _ :: _,[],h => h.elim
theorem DD.put_none {H : Hp} {d pn : Addr} {rows : List (Str × List Str)} {rs : List Addr} {x y : Str} (hn : H pn = none) (dr : a7 H rows rs) (e : H d = some (.dK (cy rows rs))) (nd : rs.Nodup) (dn : d ∉ rs) (hw : aN (cy rows rs) (.inr x) = none) :
  DD (ar (ar (ar H pn (.dK [])) d (.dK (putK (cy rows rs) (.inr x) (.ref pn)))) pn (.dK (putK [] (.inr y) (.bl true)))) d (aO rows x y) := by
 have g3 := ai hn (.dK [])
 obtain ⟨h1,h2,_⟩ := (dr.same g3).at_none (y := y) (p := pn) hw
 have pd : pn ≠ d := fun z => by rw [z,e] at hn; cases hn
 have pr : pn ∉ rs := a7.free hn dr
 refine ⟨rs ++ [pn],?_,?_,?_,?_⟩
 ·rw [h1]
  have eN : (ar (ar (ar H pn (.dK [])) d (.dK (putK (cy rows rs) (.inr x) (.ref pn)))) pn (.dK (putK [] (.inr y) (.bl true)))) pn = some (.dK (bj [y] (.bl true))) := ae
  refine a7.snoc eN ?_
  exact (((dr.same g3).other dn).other pr)
 ·rw [h1,h2,af (Ne.symm pd),ae,ic _ hw]
 ·rw [BC]
  refine ⟨nd,by simp,?_⟩
  intro u hu v hv
  simp at hv
  subst hv
  exact fun z => pr (z ▸ hu)
 ·simp
  exact ⟨dn,Ne.symm pd⟩
open XH
def KF (F : List Addr) (H H' : Hp) : Prop := ∀ a o,a ∉ F -> H a = some o -> H' a = some o
theorem KF.refl {F : List Addr} {H : Hp} : KF F H H := fun _ _ _ e => e
theorem KF.trans {F : List Addr} {H H' H'' : Hp} (h : KF F H H') (k : KF F H' H'') : KF F H H'' := fun a o n e => k a o n (h a o n e)
theorem KF.of {F : List Addr} {H H' : Hp} (h : au H H') : KF F H H' := fun a o _ e => h a o e
theorem KF.put {F : List Addr} {H : Hp} {a : Addr} (o : HO) (h : a ∈ F) : KF F H (ar H a o) := fun b ob n e => by
 have q : b ≠ a := fun z => n (by rw [z]; exact h)
 rw [af q]; exact e
def FG (F F' : List Addr) (H : Hp) : Prop := ∀ a ∈ F',a ∈ F ∨ H a = none
theorem FG.refl {F : List Addr} {H : Hp} : FG F F H := fun _ h => .inl h
structure LA (C : Addr) (F : List Addr) (H : Hp) (x : Addr) (rows : List (Str × List Str)) (ns : List Str) : Prop where
 ex : ∃ (dx p n : Addr) (fs : List (Str × V)) (rs : List Addr),H x = some (.ins C dx fs) /\ fs.lookup ("parts" : Str) = some (.ref p) /\ fs.lookup ("names" : Str) = some (.ref n) /\ a7 H rows rs /\ H p = some (.dK (cy rows rs)) /\ H n = some (.dK (bj ns (.bl true))) /\
  F = p :: n :: rs /\ F.Nodup /\ ∀ m : Str,m ∈ [("part" : Str),"learn","known","held"] -> fs.lookup m = none
theorem LA.same {C : Addr} {F : List Addr} {H H' : Hp} {x : Addr} {rows : List (Str × List Str)} {ns : List Str} (h : LA C F H x rows ns) (g : au H H') : LA C F H' x rows ns := by
 obtain ⟨dx,p,n,fs,rs,a,b,c,d,e,f,i,j,k⟩ := h.ex
 exact ⟨dx,p,n,fs,rs,g _ _ a,b,c,d.same g,g _ _ e,g _ _ f,i,j,k⟩
theorem a7.dict {H : Hp} {a : Addr} : ∀ {rows : List (Str × List Str)} {rs : List Addr},a7 H rows rs -> a ∈ rs -> ∃ kv,H a = some (.dK kv)
 | [],[],_,h => by simp at h
 | _ :: _,r :: _,h,m => by
  rcases A3.mp m with e | e
  ·subst e; exact ⟨_,h.1⟩
  ·exact a7.dict h.2 e
 | [],_ :: _,h,_ => h.elim
 | _ :: _,[],h,_ => h.elim
theorem LA.dict {C : Addr} {F : List Addr} {H : Hp} {x : Addr} {rows : List (Str × List Str)} {ns : List Str} (h : LA C F H x rows ns) {a : Addr} (m : a ∈ F) : ∃ kv,H a = some (.dK kv) := by
 obtain ⟨dx,p,n,fs,rs,_,_,_,d,e,f,i,_,_⟩ := h.ex
 subst i
 rcases A3.mp m with e' | m
 ·subst e'; exact ⟨_,e⟩
 rcases A3.mp m with e' | m
 ·subst e'; exact ⟨_,f⟩
 exact d.dict m
theorem LA.not {C : Addr} {F : List Addr} {H : Hp} {x : Addr} {rows : List (Str × List Str)} {ns : List Str} (h : LA C F H x rows ns) {a : Addr} {o : HO} (e : H a = some o) (k : ∀ kv,o ≠ .dK kv) : a ∉ F := fun m => by
 obtain ⟨kv,e'⟩ := h.dict m
 rw [e] at e'
 exact k kv (Ao e')
theorem LA.free {C : Addr} {F : List Addr} {H : Hp} {x : Addr} {rows : List (Str × List Str)} {ns : List Str} (h : LA C F H x rows ns) {a : Addr} (e : H a = none) : a ∉ F := fun m => by
 obtain ⟨kv,e'⟩ := h.dict m
 rw [e] at e'; cases e'
theorem LA.dd {C : Addr} {F : List Addr} {H : Hp} {x : Addr} {rows : List (Str × List Str)} {ns : List Str} (h : LA C F H x rows ns) : ∃ (dx p n : Addr) (fs : List (Str × V)),H x = some (.ins C dx fs) /\ fs.lookup ("parts" : Str) = some (.ref p) /\ fs.lookup ("names" : Str) = some (.ref n) /\ DD H p rows /\ H n = some (.dK (bj ns (.bl true))) /\ p ∈ F /\ n ∈ F /\ ∀ m : Str,m ∈ [("part" : Str),"learn","known","held"] -> fs.lookup m = none := by
 obtain ⟨dx,p,n,fs,rs,a,b,c,d,e,f,i,j,k⟩ := h.ex
 subst i
 have j1 := AS.mp j
 have j2 := AS.mp j1.2
 exact ⟨dx,p,n,fs,a,b,c,⟨rs,d,e,j2.2,fun z => j1.1 (Ab _ z)⟩,f,by simp,by simp,k⟩
theorem LA.learn {C : Addr} {F : List Addr} {H : Hp} {x n dx : Addr} {fs : List (Str × V)} {rows : List (Str × List Str)} {ns ms : List Str} (h : LA C F H x rows ns) (ex : H x = some (.ins C dx fs)) (en : fs.lookup ("names" : Str) = some (.ref n)) : LA C F (ar H n (.dK (bj ms (.bl true)))) x rows ms /\ KF F H (ar H n (.dK (bj ms (.bl true)))) /\ n ∈ F := by
 obtain ⟨dx',p,n',fs',rs,a,b,c,d,e,f,i,j,k⟩ := h.ex
 rw [a] at ex; cases ex
 rw [c] at en; cases en
 subst i
 have j1 := AS.mp j
 have j2 := AS.mp j1.2
 have pn : p ≠ n := fun z => j1.1 (by simp [z])
 have xn : x ≠ n := fun z => by rw [z,f] at a; cases a
 exact ⟨⟨dx,p,n,fs,rs,by rw [af xn]; exact a,b,c,d.other j2.1,by rw [af pn]; exact e,ae,rfl,j,k⟩,KF.put _ (by simp),by simp⟩
theorem LA.put_some {C : Addr} {F : List Addr} {H : Hp} {x p dx : Addr} {fs : List (Str × V)} {rows : List (Str × List Str)} {ns : List Str} {g y : Str} {kvs : List (Key × V)} (h : LA C F H x rows ns) (ex : H x = some (.ins C dx fs)) (ep : fs.lookup ("parts" : Str) = some (.ref p)) (e1 : H p = some (.dK kvs)) {w : V} (hw : aN kvs (.inr g) = some w) :
  ∃ r ys,w = .ref r /\ (g,ys) ∈ rows /\ H r = some (.dK (bj ys (.bl true))) /\ LA C F (ar H r (.dK (bj (bJ ys y) (.bl true)))) x (aO rows g y) ns /\ KF F H (ar H r (.dK (bj (bJ ys y) (.bl true)))) := by
 obtain ⟨dx',p',n,fs',rs,a,b,c,d,e,f,i,j,k⟩ := h.ex
 rw [a] at ex; cases ex
 rw [b] at ep; cases ep
 rw [e] at e1; cases e1
 subst i
 have j1 := AS.mp j
 have j2 := AS.mp j1.2
 obtain ⟨r,ys,rfl,hr,hm,hH,hD,hT⟩ := d.at_some (y := y) j2.2 hw
 have pr : p ≠ r := fun z => j1.1 (by rw [z]; exact Ab _ hr)
 have nr : n ≠ r := fun z => j2.1 (by rw [z]; exact hr)
 have xr : x ≠ r := fun z => by rw [z,hH] at a; cases a
 exact ⟨r,ys,rfl,hm,hH,⟨dx,p,n,fs,rs,by rw [af xr]; exact a,b,c,hD,by rw [af pr,hT]; exact e,by rw [af nr]; exact f,rfl,j,k⟩,KF.put _ (by simp [hr])⟩
theorem LA.put_none {C : Addr} {F : List Addr} {H : Hp} {x p dx pn : Addr} {fs : List (Str × V)} {rows : List (Str × List Str)} {ns : List Str} {g y : Str} {kvs : List (Key × V)} (h : LA C F H x rows ns) (ex : H x = some (.ins C dx fs)) (ep : fs.lookup ("parts" : Str) = some (.ref p)) (e1 : H p = some (.dK kvs)) (hn : H pn = none) (hw : aN kvs (.inr g) = none) :
  LA C (F ++ [pn]) (ar (ar (ar H pn (.dK [])) p (.dK (putK kvs (.inr g) (.ref pn)))) pn (.dK (putK [] (.inr y) (.bl true)))) x (aO rows g y) ns /\ KF F H (ar (ar (ar H pn (.dK [])) p (.dK (putK kvs (.inr g) (.ref pn)))) pn (.dK (putK [] (.inr y) (.bl true)))) := by
 have hf := h.free hn
 obtain ⟨dx',p',n,fs',rs,a,b,c,d,e,f,i,j,k⟩ := h.ex
 rw [a] at ex; cases ex
 rw [b] at ep; cases ep
 rw [e] at e1; cases e1
 subst i
 have j1 := AS.mp j
 have j2 := AS.mp j1.2
 have pr : p ∉ rs := fun z => j1.1 (Ab _ z)
 obtain ⟨rs',hD,hP,hN,hd⟩ := (DD.put_none (y := y) hn d e j2.2 pr hw).ex
 have g3 := ai hn (.dK [])
 obtain ⟨h1,h2,_⟩ := (d.same g3).at_none (y := y) (p := pn) hw
 have pp : pn ≠ p := fun z => hf (by simp [z])
 have np : pn ≠ n := fun z => hf (by simp [z])
 have xp : pn ≠ x := fun z => by rw [z,a] at hn; cases hn
 have nr : pn ∉ rs := fun z => hf (by simp [z])
 have nn : n ≠ p := fun z => j1.1 (by simp [z])
 have xx : x ≠ p := fun z => by rw [z,e] at a; cases a
 refine ⟨⟨dx,p,n,fs,rs ++ [pn],?_,b,c,?_,?_,?_,rfl,?_,k⟩,?_⟩
 ·rw [af (Ne.symm xp),af xx,af (Ne.symm xp)]; exact a
 ·rw [h1]
  exact a7.snoc (ys := [y]) ae (((d.same g3).other pr).other nr)
 ·rw [h1,h2,af (Ne.symm pp),ae,ic _ hw]
 ·rw [af (Ne.symm np),af nn,af (Ne.symm np)]; exact f
 ·show (_ :: _ :: _ ++ [pn]).Nodup
  rw [BC]
  refine ⟨j,by simp,?_⟩
  intro u hu v hv
  simp only [A2] at hv
  subst hv
  exact fun z => hf (z ▸ hu)
 ·exact fun q ob nq eq => by
   have q1 : q ≠ pn := fun z => by rw [z,hn] at eq; cases eq
   rw [af q1,af (fun z => nq (by simp [z])),af q1]; exact eq
def fO (p st b n : V) : List (Str × V) := aB "names" n (aB "bars" b (aB "stands" st (aB "parts" p [])))
theorem ko {p st b n : V} : (fO p st b n).lookup ("parts" : Str) = some p /\ (fO p st b n).lookup ("names" : Str) = some n /\ ∀ m : Str,m ∈ [("part" : Str),"learn","known","held"] -> (fO p st b n).lookup m = none := by
 refine ⟨?_,?_,fun m hm => ?_⟩
 ·unfold fO
  rw [aH,if_neg (by decide),aH,if_neg (by decide),aH,if_neg (by decide),aH,if_pos rfl]
 ·unfold fO
  rw [aH,if_pos rfl]
 ·simp only [A3,AQ,or_false] at hm
  unfold fO
  rcases hm with rfl | rfl | rfl | rfl <;> (rw [aH,if_neg (by decide),aH,if_neg (by decide),aH,if_neg (by decide),aH,if_neg (by decide)]; rfl)
def i9 (x : Addr) (H H' : Hp) : Prop := ∀ a o,a ≠ x -> H a = some o -> H' a = some o
theorem i9.trans {x : Addr} {H H' H'' : Hp} (h : i9 x H H') (k : i9 x H' H'') : i9 x H H'' := fun a o n e => k a o n (h a o n e)
theorem i9.step {x d : Addr} {H : Hp} {o : HO} (o0 : HO) (nd : H d = none) : i9 x H (ar (ar H d o0) x o) := fun a ob n e => by
 rw [af n,af (fun z => by rw [z,nd] at e; cases e)]
 exact e
def gR (C : Addr) : Sp := fun vs H Q _ => ∃ (x : Addr) (F : List Addr) (rows : List (Str × List Str)) (ns : List Str),vs = [.ref x] /\ LA C F H x rows ns /\ ns.Nodup /\
 ∀ (l : Addr) (H' : Hp) (ys : List Str),au H H' -> H' l = some (.lst (ys.map V.str)) -> sortedS ys = true -> ys.Perm ns -> Q (.ref l) H'
def dm (ns xs : List Str) : List Str := xs.foldl bJ ns
theorem eI {z : Str} : ∀ {xs ns : List Str},z ∈ dm ns xs ↔ z ∈ ns ∨ z ∈ xs
 | [],_ => by simp [dm]
 | x :: xs,ns => by
  show z ∈ dm (bJ ns x) xs ↔ _
  rw [eI,cL,A3]
  exact or_assoc
theorem gE : ∀ {xs ns : List Str},ns.Nodup -> (dm ns xs).Nodup
 | [],_,h => h
 | _ :: xs,_,h => gE (xs := xs) (cM h)
theorem iL (ns xs : List Str) (y : Str) : dm ns (xs ++ [y]) = bJ (dm ns xs) y := by
 unfold dm
 rw [List.foldl_append]
 rfl
theorem jB : ∀ (xs ns : List Str),(dm ns xs).length <= ns.length + xs.length
 | [],_ => A5 _
 | x :: xs,ns => by
  have h := jB xs (bJ ns x)
  have := (fL ns x).2.2
  show (dm (bJ ns x) xs).length <= _
  simp only [Ad]
  omega
end Sw
namespace L2
open PySem PySem.Spec PyProof.Rows
end L2
namespace Sw
open PySem L2 XH
theorem sD {p q n : Int} (f : Fr p q n 1) : p = n /\ q = 1 := by
 have h2 := f.bb
 have h3 := f.pos
 have h4 := f.same
 simp only [Int.natAbs_one] at h2
 have e : q = 1 := by omega
 subst e
 rw [Int.mul_one,Int.mul_one] at h4
 exact ⟨h4,rfl⟩
end Sw
namespace L2
open PySem PySem.Spec PyProof.Rows
end L2
namespace Sw
open PySem L2 XH
end Sw
namespace So
open PySem PyProof.Rows
section
variable {prog : Program} {w : World} {A : Around} {E : Value -> Shared -> Prop} {s : Shared} {κ : KeyKind} {kd : SortKind}
end
end So
namespace L2
open PySem PySem.Spec PyProof.Rows XH Sw So
section
variable {prog : Program} {w : World} {A : Around} {E : Value -> Shared -> Prop} {s : Shared}
end
end L2
namespace Sw
open PySem L2 XH PyProof.Rows
end Sw
namespace L2
open PySem PySem.Spec PyProof.Rows XH Sw
end L2
namespace Sw
open PySem L2 XH PyProof.Rows
end Sw
namespace L2
open PySem PySem.Spec PyProof.Rows XH Sw
theorem nQ {cs : List Addr} {its : List Value} (h : aM (cs.map V.ref) its) : its = cs.map Value.ref := by
 induction cs generalizing its with
 | nil => cases h; rfl
 | cons c cs ih =>
  cases h with
  | cons r rr => cases r; rw [ih rr]; rfl
theorem iM {X : Cx} {K : A0} (hK : X.K = K) : cn X (.builtin "isinstance") (fun xs H Q => ∃ (a C : Addr) (dx : Option Addr) (t : Addr) (cs : List Addr) (b : Bool),xs = [.ref a,.ref t] /\ (∃ n,H a = some (b7 n a (.ref C) dx)) /\ oU H dx /\ XI K C /\ H t = some (.tup (cs.map V.ref)) /\ PySem.W.kitAny K (.ref C) (cs.map Value.ref) = some b /\ Q (.bl b) H) := by
 subst hK
 intro pins s σ H xs us Q I r h
 obtain ⟨a,C,dx,t,cs,b,rfl,⟨n,e⟩,d,xi,et,ka,q⟩ := h
 obtain ⟨u,w',rfl,e1,e2⟩ := vals2 r
 cases e1
 cases e2
 obtain ⟨_,its,hv,ht⟩ := (show aX X.prog X.w H s.heap t (.tup (cs.map V.ref)) from I.hok t _ et)
 rw [nQ hv] at ht
 obtain ⟨⟨oc,od,odt,osl⟩,hg,h1,m,h2⟩ := ht
 cases h1
 cases h2
 exact PySem.W.kia_tup (iq xi) I.kIn (jV I e d) hg ka (fun z => nomatch z) fun tk => ⟨.bl b,H,I.tok tk,rfl,q⟩
theorem ur {X : Cx} {e : Expr} {ta : TE} {f : Str} {pos : Pos} {K : A0} (hK : X.K = K) (he : PE X e ta) (hb : attributeBase e f X.env (eval e X.env) = eval e X.env) : PE X (.Attribute e f pos) (wI K ta f) := by
 subst hK
 exact b8 he hb
section
variable {X : Cx} {es es' : List Expr} {t t' : TA} {p : Pos} 
theorem ut {i : Int} {j} (h : kQ X es t) : kQ X (.Constant (.int i) j p :: es) (b3 (tC (.int i)) t) := ⟨aa am h.h⟩
theorem wc {b : Bool} {j} (h : kQ X es t) : kQ X (.Constant (.bool b) j p :: es) (b3 (tC (.bl b)) t) := ⟨aa bL h.h⟩
theorem uu {j} (h : kQ X es t) : kQ X (.Constant .none j p :: es) (b3 (tC .non) t) := ⟨aa dQ h.h⟩
theorem uv (h' : kQ X es' t') (h : kQ X es t) : kQ X (.List es' p :: es) (b3 (m3 t') t) := ⟨aa (bg h'.h) h.h⟩
theorem uw {x1} (h' : kQ X es' t') (h : kQ X es t) : kQ X (.Tuple es' x1 p :: es) (b3 (tq t') t) := ⟨aa (hV h'.h) h.h⟩
end
section
variable {X : Cx} {k j : Nat} {f C : Addr} {ps : List Str} {sp : Sp} {dvs : List V} {x m : Str} {p pos apos : Pos} {e o : Expr} {es : List Expr} {ta tb : TE} {t : TA} {E : L2.St -> XK}
theorem kr {pl : Sem Bool} {K : A0} (hK : X.K = K) (D : dv X.prog X.w X.K X.mg X.base (b9 X.prog X.w) k f ps dvs sp) (hr : bx j X.A) (hk : k <= j) (he : PE (X.wish (XS X E)) o ta) (ha : PA (X.wish (XS X E)) (e :: es) t)
  (hst : starEach (e :: es) X.env = (false,eval e X.env) :: starEach es X.env := by rfl) (hpl : (backTo pos (starEach es X.env)).any (·.1) = false := by rfl)
  (ht : eval (.Call (.Attribute o m apos) (e :: es) [] pos) X.env = (do
   let ov <- eval o X.env
   standAt apos.atName
   let (f,first) <- holding [ov] (getMethod ov m pl)
   callWith pos f first (backTo pos (starEach (e :: es) X.env)) (backToKw pos (keywordEach [] X.env))) := by rfl) :
  PE (X.wish (XS X E)) (.Call (.Attribute o m apos) (e :: es) [] pos) (j0 K m f sp [] E ta t) := by
 subst hK
 exact j9 (X := X.wish (XS X E)) D hr hk bZ he ha hst hpl ht
end
section
variable {X : Cx} {pins : List (Addr × Obj)} {σ : St} {H : Hp} {s : Shared}
end
theorem ja (t : SetTable) (n : Nat) : (t.orStandIn n).led = t.led := by
 unfold SetTable.orStandIn
 by_cases h : t.fits n = true
 ·rw [if_pos h]
 ·rw [if_neg h]; rfl
theorem nR (t : SetTable) (es : Array (Int × Value)) (h : Int) (x : Value) : (layNew t es h x).2.1.led = t.led := by
 cases e : t.freeSlot h with
 | none => simp only [layNew,e]; rfl
 | some r =>
  obtain ⟨slot,d⟩ := r
  simp only [layNew,e]
  rw [ja]
  rfl
theorem gF {t t' : SetTable} {hs : Array Int} {n : Nat} {order : Array Nat} (e : t.relaid hs n = some (t',order)) : t'.led = t.led /\ t'.plain = t.plain := by
 unfold SetTable.relaid SetTable.laid at e
 obtain ⟨o,_,e2⟩ := BA.mp e
 simp only [pure,Option.some.injEq,Prod.mk.injEq] at e2
 rw [<- e2.1]
 exact ⟨rfl,rfl⟩
theorem ku (t : SetTable) (es : Array (Int × Value)) (n : Nat) : (relayAll t es n).2.1.led = t.led := by
 cases e : t.relaid (es.map (·.1)) n with
 | none => simp only [relayAll,e]; rfl
 | some r =>
  obtain ⟨t',order⟩ := r
  simp only [relayAll,e]
  by_cases c : (coversAll order es.size && t'.fits (order.filterMap (es[·]?)).size) = true
  ·rw [if_pos c]; exact (gF e).1
  ·rw [if_neg c]; rfl
theorem iN (t : SetTable) (es : Array (Int × Value)) (n : Nat) (h : t.plain = false) : (relayAll t es n).2.1.plain = false := by
 cases e : t.relaid (es.map (·.1)) n with
 | none => simp only [relayAll,e]; rfl
 | some r =>
  obtain ⟨t',order⟩ := r
  simp only [relayAll,e]
  by_cases c : (coversAll order es.size && t'.fits (order.filterMap (es[·]?)).size) = true
  ·rw [if_pos c]; exact (gF e).2.trans h
  ·rw [if_neg c]; rfl
def strOf : Value -> Str
 | .str y _ => y
 | _ => default
def we (prog : Program) (w : World) (e : Int × Value) : Prop := ∃ y t,e = ((aA prog w).hash (.inr y),.str y t)
def mP (prog : Program) (w : World) (h : Heap) (a : Addr) (ys : List Str) : Prop :=
 ∃ o es ep t,h.get? a = some o /\ o.ExactSet /\ o.data = .set es ep t /\ (∀ e ∈ es.toList,we prog w e) /\ (es.toList.map fun e => strOf e.2).Perm ys /\ es.size < scanBound /\ t.fits es.size = true /\
  (w.params.followText "set-order" = false -> t.led = true) /\ (es.size ≠ 0 -> t.plain = false)
theorem pe {prog : Program} {w : World} {y : Str} {t : Tok} : (aA prog w).is (.inr y) (.str y t) = true := dX (k := .inr y) ⟨t,rfl⟩
theorem iO {prog : Program} {w : World} {l : List (Int × Value)} (h : ∀ e ∈ l,we prog w e) : ElemsOf (aA prog w) l := fun e he => by
 obtain ⟨y,t,rfl⟩ := h e he
 exact ⟨⟨.inr y,pe,rfl⟩,rfl⟩
def fc (ys : List Str) (y : Str) : List Str := if y ∈ ys then ys else ys ++ [y]
section
variable {prog : Program} {w : World} {A : Around} {E : Value -> Shared -> Prop} {s : Shared}
theorem sE {h : Heap} {a : Addr} {ys : List Str} {es : Array (Int × Value)} (te : ∀ e ∈ es.toList,we prog w e) (pm : (es.toList.map fun e => strOf e.2).Perm ys) (y : Str) :
  (∃ e ∈ es.toList,(aA prog w).is (.inr y) e.2 = true) ↔ y ∈ ys := by
 rw [<- pm.mem_iff,AZ]
 constructor
 ·rintro ⟨e,he,q⟩
  obtain ⟨z,t,rfl⟩ := te e he
  obtain ⟨t',e'⟩ := oZ q
  cases e'
  exact ⟨_,he,rfl⟩
 ·rintro ⟨e,he,q⟩
  obtain ⟨z,t,rfl⟩ := te e he
  cases q
  exact ⟨_,he,pe⟩
theorem pf {g : Bool -> Sem Unit} (hg : ∀ (b : Bool) (s₁ : Shared) (Q' : Unit -> Shared -> Prop),Q' () s₁ -> wpAny (model prog w) A (g b) Q' E s₁)
  {a : Addr} {o : Obj} {es : Array (Int × Value)} {ep : Nat} {t : SetTable} (ho : s.heap.get? a = some o) (hex : o.ExactSet) (hd : o.data = .set es ep t)
  {es1 : Array (Int × Value)} {t2 : SetTable} {ys : List Str} (te : ∀ e ∈ es1.toList,we prog w e) (pm : (es1.toList.map fun e => strOf e.2).Perm ys)
  (hb1 : es1.size < scanBound) (hf2 : t2.fits es1.size = true) (ld : w.params.followText "set-order" = false -> t2.led = true) (pl : t2.plain = false) {wasDummy : Bool} {R : Option Bool -> Shared -> Prop}
  (h : ∀ h',Heap.SameBut a s.heap h' -> mP prog w h' a ys -> R (some true) { s with heap := h' }) :
  wpAny (model prog w) A (do
    storeSet a es1 t2
    if (!wasDummy && t2.tooFull) = true then do
      g (relayAll t2 es1 (SetTable.grown es1.size)).2.2
      storeSet a (relayAll t2 es1 (SetTable.grown es1.size)).1 (relayAll t2 es1 (SetTable.grown es1.size)).2.1
      pure (some true)
     else pure (some true)) R E s := by
 refine wpAny_bind (wpAny_storeSet_of ho hd ?_ (fits_of_scanBound hb1))
 obtain ⟨ho1,_⟩ := SetOf_store (knd := aA prog w) (S' := fun k => decide (∃ e ∈ es1.toList,(aA prog w).is k e.2 = true)) ho hex hd (iO te) (fun k => by simp) hb1 hf2
 have hsb1 := Heap.SameBut.update s.heap a (Obj.putSet es1 t2)
 split
 ·have hp := relayAll_perm t2 es1 (SetTable.grown es1.size)
  have hfr := relayAll_fits t2 es1 (SetTable.grown es1.size)
  have hl := ku t2 es1 (SetTable.grown es1.size)
  have hpl := iN t2 es1 (SetTable.grown es1.size) pl
  generalize hRl : relayAll t2 es1 (SetTable.grown es1.size) = Rl at hp hfr hl hpl ⊢
  obtain ⟨es2,t3,gave2⟩ := Rl
  dsimp only at hp hfr hl hpl ⊢
  have te2 : ∀ e ∈ es2.toList,we prog w e := fun e he => te e (hp.mem_iff.mp he)
  have hsz : es2.size = es1.size := by rw [<- AJ,hp.length_eq,AJ]
  have hb2 : es2.size < scanBound := by rw [hsz]; exact hb1
  refine wpAny_bind (hg _ _ _ ?_)
  refine wpAny_bind (wpAny_storeSet_of ho1 rfl ?_ (fits_of_scanBound hb2))
  obtain ⟨ho2,_⟩ := SetOf_store (knd := aA prog w) (S' := fun k => decide (∃ e ∈ es2.toList,(aA prog w).is k e.2 = true)) ho1 hex rfl (iO te2) (fun k => by simp) hb2 hfr
  exact wpAny_pure (h _ (hsb1.trans (Heap.SameBut.update _ a _)) ⟨_,es2,_,t3,ho2,hex,rfl,te2,(hp.map _).trans pm,hb2,hfr,fun b => hl.trans (ld b),fun _ => hpl⟩)
 ·exact wpAny_pure (h _ hsb1 ⟨_,es1,_,t2,ho1,hex,rfl,te,pm,hb1,hf2,ld,fun _ => pl⟩)
theorem wf {a : Addr} {ys : List Str} {y : Str} {tk : Tok} {Q : Bool -> Shared -> Prop} (hS : mP prog w s.heap a ys) (room : ys.length + 1 < scanBound)
  (h : ∀ h',Heap.SameBut a s.heap h' -> mP prog w h' a (fc ys y) -> ∀ b,Q b { s with heap := h' }) :
  wpAny (model prog w) A (setAddHashed a (.str y tk) ((aA prog w).hash (.inr y))) Q E s := by
 obtain ⟨o,es,ep,t,ho,hex,hd,te,pm,hb,hf,ld,pl⟩ := hS
 have hel := iO te
 have hsz : es.size = ys.length := by rw [<- AJ,<- A8 (fun e : Int × Value => strOf e.2),pm.length_eq]
 unfold setAddHashed setAddHashedIn
 refine wpAny_holding (wpAny_bind (wpAny_setState_of ho hd hf ?_))
 dsimp only
 rw [byScan_of (knd := aA prog w) (x := .str y tk) rfl hb hel]
 simp only [↓reduceIte]
 unfold setAddByScan
 refine wpAny_bind ?_
 refine wpAny_bind (wpAny_rule ?_)
 refine wpAny_bind (wpAny_setScan_of (knd := aA prog w) (k := .inr y) pe ho hd hf hel ?_)
 cases hr : List.findIdx? (fun e => (aA prog w).is (.inr y) e.2) es.toList with
 | some j =>
  dsimp only
  obtain ⟨hj,hpj,_⟩ := List.findIdx?_eq_some_iff_getElem.mp hr
  have hm : y ∈ ys := (sE (h := s.heap) (a := a) te pm y).mp ⟨es.toList[j],List.getElem_mem hj,hpj⟩
  refine wpAny_pure (wpAny_pure ?_)
  have e : s = { s with heap := s.heap } := by cases s; rfl
  rw [e]
  refine h s.heap (Heap.SameBut.refl a s.heap) ?_ _
  rw [fc,if_pos hm]
  exact ⟨o,es,ep,t,ho,hex,hd,te,pm,hb,hf,ld,pl⟩
 | none =>
  dsimp only
  have hm : y ∉ ys := fun hm => by
   obtain ⟨e,he,q⟩ := (sE (h := s.heap) (a := a) te pm y).mpr hm
   have := List.findIdx?_eq_none_iff.mp hr e he
   rw [q] at this
   cases this
  have hgw : ∀ (b : Bool) {s₁ : Shared} {Q' : Unit -> Shared -> Prop},Q' () s₁ -> wpAny (model prog w) A (match b with | true => rule "set.scan.the-table-gave-way" | false => pure ()) Q' E s₁ :=
   fun b s₁ Q' hq => by cases b <;> first | exact wpAny_pure hq | exact wpAny_rule hq
  have hperm := layNew_perm t es ((aA prog w).hash (.inr y)) (.str y tk)
  have hfits := layNew_fits t es ((aA prog w).hash (.inr y)) (.str y tk)
  have hled := nR t es ((aA prog w).hash (.inr y)) (.str y tk)
  generalize hL : layNew t es ((aA prog w).hash (.inr y)) (.str y tk) = L at hperm hfits hled ⊢
  obtain ⟨es1,t1,wasDummy,gave⟩ := L
  dsimp only at hperm hfits hled ⊢
  rw [BB] at hperm
  have te1 : ∀ e ∈ es1.toList,we prog w e := fun e he => by
   rcases A9.mp (hperm.mem_iff.mp he) with q | q
   ·exact te e q
   ·rw [A2.mp q]; exact ⟨y,tk,rfl⟩
  have pm1 : (es1.toList.map fun e => strOf e.2).Perm (fc ys y) := by
   rw [fc,if_neg hm]
   refine (hperm.map _).trans ?_
   rw [BL]
   exact pm.append_right _
  have hb1' : es1.size < scanBound := by
   rw [<- AJ,hperm.length_eq,AA,AJ,hsz]
   exact room
  refine wpAny_bind (hgw _ ?_)
  split
  ·refine wpAny_bind ?_
   rw [hashByValue_scannable 8 (x := .str y tk) rfl]
   refine wpAny_pure ?_
   refine pf ?_ ho hex hd te1 pm1 hb1' ?_ ?_ ?_ ?_
   ·intro b s₁ Q' hq; cases b <;> first | exact wpAny_pure hq | exact wpAny_rule hq
   ·exact SetTable.fits_plain_off hfits
   ·exact fun b => hled.trans (ld b)
   ·rfl
   ·intro h' hsb hS'; dsimp only; exact wpAny_pure (h h' hsb hS' _)
  ·rename_i np
   refine wpAny_bind (wpAny_pure ?_)
   simp only [↓reduceIte]
   refine pf ?_ ho hex hd te1 pm1 hb1' hfits ?_ ?_ ?_
   ·intro b s₁ Q' hq; cases b <;> first | exact wpAny_pure hq | exact wpAny_rule hq
   ·exact fun b => hled.trans (ld b)
   ·simpa using np
   ·intro h' hsb hS'; dsimp only; exact wpAny_pure (h h' hsb hS' _)
end
def mE (xs : List Str) (i : Nat) : List Str := (xs.take i).foldl fc []
theorem mF {xs : List Str} {i : Nat} {y : Str} (h : xs[i]? = some y) : mE xs (i + 1) = fc (mE xs i) y := by
 unfold mE
 rw [List.take_add_one,h,Option.toList_some,List.foldl_append]
 rfl
theorem sG (ys : List Str) (y : Str) : (fc ys y).length <= ys.length + 1 := by
 unfold fc
 split
 ·omega
 ·simp
theorem ky (xs : List Str) : ∀ i,(mE xs i).length <= i
 | 0 => by simp [mE]
 | i + 1 => by
  have ih := ky xs i
  cases h : xs[i]? with
  | none =>
   have : xs.take (i + 1) = xs.take i := by rw [List.take_add_one,h]; simp
   unfold mE at ih ⊢
   rw [this]
   omega
  | some y =>
   rw [mF h]
   have := sG (mE xs i) y
   omega
theorem nS {ys : List Str} (y : Str) (h : ys.Nodup) : (fc ys y).Nodup := by
 unfold fc
 split
 ·exact h
 ·rename_i n
  exact BC.mpr ⟨h,by simp,fun a ha b hb e => n (by rw [A2] at hb; rw [<- hb,<- e]; exact ha)⟩
theorem sH {ys : List Str} {y z : Str} : z ∈ fc ys y ↔ z ∈ ys ∨ z = y := by
 unfold fc
 split
 ·rename_i h
  exact ⟨.inl,fun h' => h'.elim id fun e => e ▸ h⟩
 ·simp
theorem dq : ∀ (xs ys : List Str),ys.Nodup -> (xs.foldl fc ys).Nodup
 | [],_,h => h
 | x :: xs,ys,h => dq xs _ (nS x h)
theorem ee {z : Str} : ∀ (xs ys : List Str),z ∈ xs.foldl fc ys ↔ z ∈ ys ∨ z ∈ xs
 | [],ys => by simp
 | x :: xs,ys => by
  rw [List.foldl_cons,ee xs,sH,A3,or_assoc]
section
variable {prog : Program} {w : World} {A : Around} {R : Result -> Shared -> Prop} {I : Addr} {fp wr : List Addr} {G : Array GenState -> Array GenState -> Prop} {n : Nat} {P : Nat -> Value -> Prop} {St : Nat -> Shared -> Prop}
theorem qw (W : WalksS prog w A.in1 I fp wr G n P St) (S : Addr) (out : S ∉ fp) (xs : List Str) (hv : ∀ i v,P i v -> ∃ y t,xs[i]? = some y /\ v = .str y t)
  (hn : n <= xs.length) (hb : n + 1 < scanBound) : ∀ (m i : Nat) (s : Shared),n - i = m -> i <= n -> St i s -> mP prog w s.heap S (mE xs i) ->
   (∀ s',Moved (S :: wr) G s s' -> mP prog w s'.heap S (mE xs n) -> R (.ok (.ret .none)) s') -> codeAny (model prog w) A (.builtin "set.update.loop" ⟨[.ref S,.ref I],[]⟩) R s := by
 have nw : S ∉ wr := fun h => out (W.sub _ h)
 have up : ∀ b ∈ wr,b ∈ S :: wr := fun b hb => .tail _ hb
 have stay : ∀ {s1 s2 : Shared} {ys : List Str},mP prog w s1.heap S ys -> Moved wr G s1 s2 -> mP prog w s2.heap S ys := by
  rintro s1 s2 ys ⟨o,es,ep,t,ho,z⟩ mv
  exact ⟨o,es,ep,t,mv.heap S _ nw ho,z⟩
 intro m
 induction m with
 | zero =>
  intro i s hm hi st hS fin
  have e : i = n := by omega
  subst e
  apply codeAny_builtin F.entry_set_update_loop
  rw [Around.under_plainId F.plain_set_update_loop _]
  show wpAny _ _ (pyNext (.ref I) >>= _) _ _ s
  apply wpAny_bind
  refine W.done s _ _ st fun s' mv => ?_
  exact wpAny_pure (fin s' (mv.mono up) (stay hS mv))
 | succ m ih =>
  intro i s hm hi st hS fin
  have lt : i < n := by omega
  apply codeAny_builtin F.entry_set_update_loop
  rw [Around.under_plainId F.plain_set_update_loop _]
  show wpAny _ _ (pyNext (.ref I) >>= _) _ _ s
  apply wpAny_bind
  refine W.item i s _ _ lt st fun v s' pv st' mv => ?_
  obtain ⟨y,tk,ey,rfl⟩ := hv i v pv
  show wpAny _ _ (holding [.str y tk] (setAdd S (.str y tk)) >>= _) _ _ s'
  apply wpAny_bind
  apply wpAny_holding
  unfold setAdd
  apply wpAny_holding
  apply wpAny_bind
  refine (aA prog w).pyHash (k := .inr y) pe ?_
  have rm : (mE xs i).length + 1 < scanBound := by
   have := ky xs i
   omega
  refine wf (s := { s' with toks := s'.toks + 1 }) (show mP prog w s'.heap S (mE xs i) from stay hS mv) rm fun h' same S2 b => ?_
  rw [<- mF ey] at S2
  apply wpAny_pure
  refine ⟨plainId_quiet F.plain_set_update_loop _,ih (i + 1) _ (by omega) lt (W.frame _ s' _ _ st' (Nat.le_succ _) fun b hb o e => ?_) S2 fun s'' mv2 S4 => ?_⟩
  ·exact (same.2 b fun z => out (z ▸ hb)).trans e
  ·exact fin s'' (Moved.trans W.gtrans ((mv.mono up).then_heap (Nat.le_succ _) fun b o hb e => (same.2 b fun z => hb (z ▸ B2)).trans e) mv2) S4
end
section
variable {prog : Program} {w : World} {A : Around} {E : Value -> Shared -> Prop} {s : Shared}
theorem jb (a : Value) {Q₁ : Value -> Shared -> Prop}
  (h : ∀ led : Bool,(w.params.followText "set-order" = false -> led = true) -> Q₁ (.ref s.heap.objs.size) { s with heap := s.heap.push { cls := .type "set",dict := none,data := .set #[] 0 (.fresh 0 0 led) } }) :
  codeAny (model prog w) A (.call (.builtin "set.__new__") ⟨[.type "set",a],[]⟩) (wants Q₁ E) s := by
 refine codeAny_of_tree ?_
 show wpAny _ A.in1 (do checkBuiltinCall "set.__new__" ⟨[.type "set",a],[]⟩; again (.builtin "set.__new__" ⟨[.type "set",a],[]⟩)) _ _ s
 refine wpAny_bind (wpAny_of_eq (F.newCall_set_1 a) (wpAny_pure ⟨plainId_quiet F.plain_set_new _,codeAny_builtin F.entry_set_new ?_⟩))
 rw [Around.under_plainId F.plain_set_new _]
 unfold Builtin.«set.__new__» Builtin.Frozenset.newClass
 have hsub := sub_set_self
 obtain ⟨hp,g,d,tk,os⟩ := s
 dsimp only
 wp_walk
 refine wpAny_askSetting (wpAny_pure ?_)
 dsimp only
 simp only [newObj]
 refine wpAny_bind (wpAny_alloc (wpAny_pure ?_))
 refine wpAny_pure (h _ fun e => ?_)
 show (!(model prog w).w.params.followText "set-order") = true
 rw [show (model prog w).w = w from rfl,e]
 rfl
set_option maxHeartbeats 3200000 in
theorem qx {l : Addr} {items : Array Value} {xs : List Str} {Q : Value -> Shared -> Prop} (hh : A.handled = none) (hl : s.heap.IsList l items) (hv : ∀ (i : Nat) (v : Value),items[i]? = some v -> ∃ (y : Str) (t : Tok),xs[i]? = some y /\ v = Value.str y t)
  (hn : items.size = xs.length) (hb : items.size + 1 < scanBound)
  (fin : ∀ (h' : Heap) (tk : Nat),mP prog w h' s.heap.objs.size (mE xs items.size) -> (∀ b o,b < s.heap.objs.size -> s.heap.get? b = some o -> h'.get? b = some o) -> Q (.ref s.heap.objs.size) { s with heap := h',toks := tk }) :
  wpAny (model prog w) A (call (.type "set") [.ref l]) Q E s := by
 obtain ⟨c0,tl0,mro⟩ := F.called_set.mro
 have made := F.called_set.made
 have subt := F.called_set.sub
 apply wpAny_call
 apply codeAny_of_tree
 show wpAny _ _ (callAny (.type "set") _) _ _ _
 apply wpAny_pure
 refine ⟨Code.quiet_builtin _ (by decide +kernel),codeAny_builtin F.entry_type_call ?_⟩
 rw [Around.under_plain (weight_type_call_type "set" [.ref l] []) rfl]
 have nt := F.called_set.notType
 have cc := F.called_set.canCreate
 have tc := F.typeCall_set_1 (.ref l)
 repeat any_goals first | assumption | wp_step
 refine codeAny_mono (jb (.ref l) (E := E) (Q₁ := fun v s1 => ∃ led : Bool,(w.params.followText "set-order" = false -> led = true) /\ v = .ref s.heap.objs.size /\ s1 = { s with heap := s.heap.push { cls := .type "set",dict := none,data := .set #[] 0 (.fresh 0 0 led) } }) fun led eld => ⟨led,eld,rfl,rfl⟩) fun r s1 hr => ?_
 cases r with
 | error e => exact hr
 | ok fl =>
  cases fl with
  | ret v =>
   obtain ⟨led,eld,rfl,rfl⟩ := hr
   have e0 : (s.heap.push { cls := .type "set",dict := none,data := .set #[] 0 (.fresh 0 0 led) }).get? s.heap.objs.size = some { cls := .type "set",dict := none,data := .set #[] 0 (.fresh 0 0 led) } := Heap.get?_push_size _ rfl
   have tS : Shared.TypeIs { s with heap := s.heap.push { cls := .type "set",dict := none,data := .set #[] 0 (.fresh 0 0 led) } } (.ref s.heap.objs.size) "set" := ⟨_,e0,rfl⟩
   have lk := F.called_set.init.lookup
   have bd := F.called_set.init.bind (.ref s.heap.objs.size)
   repeat any_goals first | assumption | wp_step
   refine codeAny_mono (codeAny_call_builtin (R := wants (fun r s2 => r = .none /\ ∃ h' tk,s2 = { s with heap := h',toks := tk } /\ mP prog w h' s.heap.objs.size (mE xs items.size) /\ ∀ b o,b < s.heap.objs.size -> s.heap.get? b = some o -> h'.get? b = some o) E) F.called_set.init.plain F.entry_set_init (check_set_init_1 tS ?_)) fun r2 s2 hr2 => ?_
   ·obtain ⟨⟨lc,ld,lx,ls⟩,hol,hcl,nl,hdl⟩ := hl
    simp only at hcl hdl
    subst hcl hdl
    have el : (s.heap.push { cls := .type "set",dict := none,data := .set #[] 0 (.fresh 0 0 led) }).get? l = some { cls := .type "list",dict := ld,data := .seq items nl,slots := ls } := Heap.get?_push_of_some _ hol
    have n1 := F.sub_list_set
    have n2 := F.sub_list_frozenset
    have n3 : (Value.type "list" == Value.type "dict") = false := by decide
    have il : (s.heap.push { cls := .type "set",dict := none,data := .set #[] 0 (.fresh 0 0 led) }).IsList l items := ⟨_,el,rfl,nl,rfl⟩
    unfold Builtin.«set.__init__» noKeywords Builtin.Frozenset.updateFrom
    generalize hit : pyIter = PI
    wp_walk
    subst hit
    apply wpAny_pyIter_list il
    apply wpAny_bind
    apply wpAny_runValue
    have ll : l < s.heap.objs.size := Heap.lt_size hol
    have h3 : A.in1.in1.in1.handled = none := by simpa using hh
    have nI : l ≠ (s.heap.push { cls := .type "set",dict := none,data := .set #[] 0 (.fresh 0 0 led) }).objs.size := by
     rw [Heap.size_push]
     exact AE (B3 ll)
    have out : s.heap.objs.size ∉ [(s.heap.push { cls := .type "set",dict := none,data := .set #[] 0 (.fresh 0 0 led) }).objs.size,l] := by
     rw [Heap.size_push]
     simp only [A3,not_or]
     exact ⟨AE (Nat.lt_succ_self _),Bl ll,AQ⟩
    refine qw ((Walks.list h3 _ l nI items).toS) s.heap.objs.size out xs hv (Nat.le_of_eq hn) hb items.size 0 _ rfl (Al _) ⟨⟨_,Heap.get?_push_size _ rfl,rfl,rfl⟩,il.push _⟩ ?_ ?_
    ·have e1 : ((s.heap.push { cls := .type "set",dict := none,data := .set #[] 0 (.fresh 0 0 led) }).push { cls := .type "list_iterator",data := .fields #[.ref l,.int 0 0] }).get? s.heap.objs.size = some { cls := .type "set",dict := none,data := .set #[] 0 (.fresh 0 0 led) } :=
      Heap.get?_push_of_some _ e0
     exact ⟨_,#[],0,_,e1,⟨rfl,rfl,rfl⟩,rfl,(fun e he => by simp at he),(by simp [mE]),by decide,rfl,eld,fun z => absurd rfl z⟩
    ·intro s' mv S2
     obtain ⟨h',g',d',tk',os'⟩ := s'
     have eg : g' = s.gens := mv.gens
     have ed : d' = s.drawn := mv.drawn
     have eo : os' = s.os := mv.os
     subst eg ed eo
     show wpAny _ _ _ _ _ _
     apply wpAny_pure
     show wpAny _ _ (ret Value.none) _ _ _
     apply wpAny_pure
     refine ⟨rfl,h',tk',rfl,S2,fun b o hb' e => ?_⟩
     refine mv.heap b o ?_ (Heap.get?_push_of_some _ (Heap.get?_push_of_some _ e))
     rw [Heap.size_push]
     simp only [A3,not_or]
     exact ⟨AE hb',AE (B3 hb'),AQ⟩
   ·cases r2 with
    | error e => exact hr2
    | ok fl2 =>
     cases fl2 with
     | ret r =>
      obtain ⟨rfl,h',tk,rfl,S2,kp⟩ := hr2
      repeat any_goals first | assumption | wp_step
      exact fin _ _ S2 kp
     | _ => exact hr2.elim
  | _ => exact hr.elim
end
theorem mG : Manifest.owners.lookup (String.ofList ['r','o','t','a','r','e','t','i','_','t','e','s'].reverse) = some Manifest.sig_set_iterator := by kernel_rfl
theorem aU : Slot "set_iterator" "__next__" "set_iterator.__next__" :=
 .of (owner := "set_iterator") (n := "__next__") (by rw [typeLookup_type,builtinLookup_eq_fast]; kernel_rfl) (by decide +kernel) (by decide +kernel) (by decide +kernel)
  (by first | exact .inl (by decide +kernel) | exact .inr (by decide +kernel)) (by rw [isSubtype_type]; kernel_rfl)
theorem cf : entryFor table "set_iterator.__next__" = some Builtin.«set_iterator.__next__» := entryFor_of_tree (by kernel_rfl)
theorem cF (a : Value) : argsOk "set_iterator.__next__" ⟨[a],[]⟩ := by
 unfold argsOk; rw [signature?_of (id := "set_iterator.__next__") (n := ['_','_','t','x','e','n','_','_']) (o := ['r','o','t','a','r','e','t','i','_','t','e','s']) (by kernel_rfl) mG]; kernel_rfl
theorem bT : Slot "set_iterator" "__iter__" "set_iterator.__iter__" :=
 .of (owner := "set_iterator") (n := "__iter__") (by rw [typeLookup_type,builtinLookup_eq_fast]; kernel_rfl) (by decide +kernel) (by decide +kernel) (by decide +kernel)
  (by first | exact .inl (by decide +kernel) | exact .inr (by decide +kernel)) (by rw [isSubtype_type]; kernel_rfl)
theorem dM (a : Value) : argsOk "set_iterator.__iter__" ⟨[a],[]⟩ := by
 unfold argsOk; rw [signature?_of (id := "set_iterator.__iter__") (n := ['_','_','r','e','t','i','_','_']) (o := ['r','o','t','a','r','e','t','i','_','t','e','s']) (by kernel_rfl) mG]; kernel_rfl
theorem iP : entryFor table "set.__iter__" = some Builtin.«frozenset.__iter__» :=
 entryFor_alias (id' := "frozenset.__iter__") (by kernel_rfl) rfl (by decide +kernel) (by kernel_rfl)
theorem cZ : entryFor table "set_iterator.__iter__" = some Builtin.«dict_keyiterator.__iter__» :=
 entryFor_alias (id' := "dict_keyiterator.__iter__") (by kernel_rfl) rfl (by decide +kernel) (by kernel_rfl)
section
variable {prog : Program} {w : World} {A : Around} {E : Value -> Shared -> Prop} {s : Shared}
theorem jc {M : Model} {src : Source} {n : Nat} {Q : Nat -> Shared -> Prop} (hn : n ≠ 0) (h : ∀ i d,i < n -> Q i { s with drawn := d }) : wpAny M A (choose src n) Q E s := fun _ _ _ => by
 unfold choose
 rw [Sem.wp_choose]
 exact ⟨hn,by simpa using h _ _ (Nat.mod_lt _ (Nat.pos_of_ne_zero hn))⟩
theorem gj {α : Type} : ∀ (l : List α) (i : Nat) (h : i < l.length),(l[i] :: l.eraseIdx i).Perm l
 | [],i,h => by simp at h
 | x :: xs,0,_ => .refl _
 | x :: xs,i + 1,h => by
  have h' : i < xs.length := by simpa using h
  show (xs[i] :: x :: xs.eraseIdx i).Perm (x :: xs)
  exact (List.Perm.swap _ _ _).trans ((gj xs i h').cons x)
theorem eh {M : Model} {α : Type} : ∀ (n : Nat) (xs : List α) (s : Shared) (Q : List α -> Shared -> Prop),xs.length = n -> (∀ ys d,ys.Perm xs -> Q ys { s with drawn := d }) -> wpAny M A (drawOrder n xs) Q E s
 | 0,xs,s,Q,hl,h => by
  have : xs = [] := List.length_eq_zero_iff.mp hl
  subst this
  unfold drawOrder
  exact wpAny_pure (h [] s.drawn .nil)
 | n + 1,[],s,Q,hl,h => by cases hl
 | n + 1,x :: xs,s,Q,hl,h => by
  unfold drawOrder
  refine wpAny_bind (jc (by simp) fun i d hi => ?_)
  have e : (x :: xs)[i]? = some ((x :: xs)[i]) := AK hi
  rw [e]
  dsimp only
  refine wpAny_bind (eh n ((x :: xs).eraseIdx i) { s with drawn := d } _ (by rw [List.length_eraseIdx_of_lt hi,hl]; rfl) fun ys d' hp => wpAny_pure (h _ d' ?_))
  exact (hp.cons _).trans (gj _ i hi)
def cu (h : Heap) (a : Addr) (es : Array (Int × Value)) (ep : Nat) (t : SetTable) : Prop := ∃ o,h.get? a = some o /\ o.ExactSet /\ o.data = .set es ep t /\ t.fits es.size = true
def nU (first : Value) (i : Nat) (S : Addr) (n ep : Nat) : Obj := { cls := .type "set_iterator",data := .fields #[first,.int i 0,.ref S,.int n 0,.int ep 0] }
theorem kA {a : Addr} {es : Array (Int × Value)} {ep : Nat} {t : SetTable} (h : cu s.heap a es ep t) : s.TypeIs (.ref a) "set" := let ⟨o,ho,hx,_⟩ := h; ⟨o,ho,hx.1⟩
theorem sI {a : Addr} {es : Array (Int × Value)} {ep : Nat} {t : SetTable} {Q : Value -> Shared -> Prop} (hS : cu s.heap a es ep t) (hz : es.size <= sizeLine)
  (h1 : (!w.params.followText "set-order" && (!t.plain && decide (es.size > 1))) = false -> Q (.ref s.heap.objs.size) { s with heap := s.heap.push (nU (.int 0 0) 0 a es.size ep) })
  (h2 : (!w.params.followText "set-order" && (!t.plain && decide (es.size > 1))) = true -> ∀ (ys : List Nat) d,ys.Perm (Bh es.size) ->
   Q (.ref (s.heap.objs.size + 1)) { s with heap := (s.heap.push { cls := .type "tuple",data := .seq (ys.map fun (i : Nat) => rawInt i).toArray }).push (nU (.ref s.heap.objs.size) 0 a es.size ep),drawn := d }) :
  wpAny (model prog w) A (pyIter (.ref a)) Q E s := by
 have hT := kA hS
 obtain ⟨o,ho,hx,hd,hf⟩ := hS
 refine wpAny_pyIter_slot hT F.slot_set_iter (wpAny_call_entry F.slot_set_iter hT iP ?_ (F.args_set_iter_1 _))
 unfold Builtin.«frozenset.__iter__»
 refine wpAny_bind (m := Builtin.Frozenset.slot0 _ _) ?_
 show wpAny _ _ (pure a) _ _ s
 refine wpAny_pure ?_
 unfold Builtin.Frozenset.sizeOf setEntries
 refine wpAny_bind (wpAny_bind (wpAny_bind (wpAny_setState_of ho hd hf (wpAny_pure ?_))))
 refine wpAny_pure ?_
 unfold setDrawn setsByText
 refine wpAny_bind (wpAny_bind (wpAny_setState_of ho hd hf ?_))
 dsimp only
 refine wpAny_bind (wpAny_bind (wpAny_askSetting (wpAny_pure ?_)))
 show wpAny _ _ (pure (!w.params.followText "set-order" && (!t.plain && decide (es.size > 1)))) _ _ s
 refine wpAny_pure ?_
 cases c : (!w.params.followText "set-order" && (!t.plain && decide (es.size > 1))) with
 | false =>
  simp only [B9,if_false]
  refine wpAny_bind (wpAny_pure ?_)
  unfold setEpoch
  refine wpAny_bind (wpAny_bind (wpAny_setState_of ho hd hf (wpAny_pure ?_)))
  refine wpAny_bind (wpAny_newObj_type (wpAny_pure ⟨_,rfl,"set_iterator",_,⟨_,Heap.get?_push_size _ rfl,rfl⟩,aU.lookup,?_⟩))
  exact h1 c
 | true =>
  simp only [if_true]
  refine wpAny_bind (eh es.size (Bh es.size) s _ (by simp) fun ys d hp => ?_)
  refine wpAny_bind (wpAny_newTuple ?_ (by rw [A8,hp.length_eq,BN]; exact hz))
  unfold setEpoch
  have ho' : (s.heap.push { cls := .type "tuple",data := .seq (ys.map fun (i : Nat) => rawInt i).toArray }).get? a = some o := Heap.get?_push_of_some _ ho
  refine wpAny_bind (wpAny_bind (wpAny_setState_of (s := { s with heap := _,drawn := d }) ho' hd hf (wpAny_pure ?_)))
  refine wpAny_bind (wpAny_newObj_type (wpAny_pure ⟨_,rfl,"set_iterator",_,⟨_,Heap.get?_push_size _ rfl,rfl⟩,aU.lookup,?_⟩))
  have := h2 c ys d hp
  rw [<- Heap.size_push s.heap { cls := .type "tuple",data := .seq (ys.map fun (i : Nat) => rawInt i).toArray }] at this
  exact this
end
section
variable {prog : Program} {w : World} {A : Around} {E : Value -> Shared -> Prop} {s : Shared}
theorem cu.at {h h' : Heap} {a : Addr} {es : Array (Int × Value)} {ep : Nat} {t : SetTable} (x : cu h a es ep t) (k : ∀ o,h.get? a = some o -> h'.get? a = some o) : cu h' a es ep t := let ⟨o,ho,r⟩ := x; ⟨o,k o ho,r⟩
theorem cj {a : Addr} {es : Array (Int × Value)} {ep : Nat} {t : SetTable} {Q : Array (Int × Value) -> Shared -> Prop} (hS : cu s.heap a es ep t) (h : Q es s) : wpAny (model prog w) A (setEntries a) Q E s := by
 obtain ⟨o,ho,_,hd,hf⟩ := hS
 unfold setEntries
 exact wpAny_bind (wpAny_setState_of ho hd hf (wpAny_pure h))
theorem cU {a : Addr} {es : Array (Int × Value)} {ep : Nat} {t : SetTable} {Q : (Array (Int × Value) × Nat × SetTable) -> Shared -> Prop} (hS : cu s.heap a es ep t) (h : Q (es,ep,t) s) : wpAny (model prog w) A (setState a) Q E s := by
 obtain ⟨o,ho,_,hd,hf⟩ := hS
 exact wpAny_setState_of ho hd hf h
theorem jC {I S : Addr} {es : Array (Int × Value)} {ep i slot nx : Nat} {t : SetTable} {x : Value} {Q : Option Value -> Shared -> Prop} (hI : s.heap.get? I = some (nU (.int slot 0) i S es.size ep)) (hS : cu s.heap S es ep t)
  (hn : ∀ (A : Around) (E : Value -> Shared -> Prop) (Q : Option (Value × Nat) -> Shared -> Prop),Q (some (x,nx)) s -> wpAny (model prog w) A (setNext S slot i ep) Q E s)
  (h : ∀ h',h'.get? I = some (nU (.int nx 0) (i + 1) S es.size ep) -> Heap.SameBut I s.heap h' -> Q (some x) { s with heap := h' }) : wpAny (model prog w) A (pyNext (.ref I)) Q E s := by
 have hT : s.TypeIs (.ref I) "set_iterator" := ⟨_,hI,rfl⟩
 unfold pyNext
 refine wpAny_bind (wpAny_attempt (wpAny_callSpecial?_slot (name := Str.ofString "__next__") hT aU (wpAny_call_entry aU hT cf ?_ (cF _))))
 unfold Builtin.«set_iterator.__next__»
 refine wpAny_bind (m := slotArgs _ _ _) ?_
 show wpAny _ _ (pure (Value.ref I,[])) _ _ s
 refine wpAny_pure ?_
 refine wpAny_bind (wpAny_fieldsOf hI rfl ?_)
 show wpAny _ _ (setEntries S >>= _) _ _ s
 refine wpAny_bind (cj hS ?_)
 rw [if_neg (by simp)]
 show wpAny _ _ (setNext S (Int.toNat slot) (Int.toNat i) (Int.toNat ep) >>= _) _ _ s
 simp only [Int.toNat_natCast]
 refine wpAny_bind (hn _ _ _ ?_)
 dsimp only
 refine wpAny_bind (wpAny_setField_rec (vs := #[.int slot 0,.int i 0,.ref S,.int es.size 0,.int ep 0]) hI (by simp) fun h1 e1 s1 => ?_)
 refine wpAny_bind (wpAny_setField_rec (s := { s with heap := h1 }) e1 (by simp) fun h2 e2 s2 => ?_)
 exact wpAny_pure ⟨_,rfl,wpAny_pure (h h2 (by simpa [nU,rawInt] using e2) (s1.trans s2))⟩
theorem jD {I S : Addr} {es : Array (Int × Value)} {ep i slot : Nat} {t : SetTable} {Q : Option Value -> Shared -> Prop} (hh : A.handled = none) (hI : s.heap.get? I = some (nU (.int slot 0) i S es.size ep)) (hS : cu s.heap S es ep t)
  (hn : ∀ (A : Around) (E : Value -> Shared -> Prop) (Q : Option (Value × Nat) -> Shared -> Prop),Q none s -> wpAny (model prog w) A (setNext S slot i ep) Q E s)
  (h : ∀ h',Heap.ExtBut I s.heap h' -> Q none { s with heap := h' }) : wpAny (model prog w) A (pyNext (.ref I)) Q E s := by
 have hT : s.TypeIs (.ref I) "set_iterator" := ⟨_,hI,rfl⟩
 unfold pyNext
 refine wpAny_bind (wpAny_attempt (wpAny_callSpecial?_slot (name := Str.ofString "__next__") hT aU (wpAny_call_entry aU hT cf ?_ (cF _))))
 unfold Builtin.«set_iterator.__next__»
 refine wpAny_bind (m := slotArgs _ _ _) ?_
 show wpAny _ _ (pure (Value.ref I,[])) _ _ s
 refine wpAny_pure ?_
 refine wpAny_bind (wpAny_fieldsOf hI rfl ?_)
 show wpAny _ _ (setEntries S >>= _) _ _ s
 refine wpAny_bind (cj hS ?_)
 rw [if_neg (by simp)]
 show wpAny _ _ (setNext S (Int.toNat slot) (Int.toNat i) (Int.toNat ep) >>= _) _ _ s
 simp only [Int.toNat_natCast]
 refine wpAny_bind (hn _ _ _ ?_)
 dsimp only
 refine wpAny_bind (wpAny_setField_rec (vs := #[.int slot 0,.int i 0,.ref S,.int es.size 0,.int ep 0]) hI (by simp) fun h1 e1 s1 => ?_)
 show wpAny _ _ (newExc (.type "StopIteration") [] >>= _) _ _ _
 refine wpAny_bind ?_
 simp only [newExc,newTuple]
 refine wpAny_bind (wpAny_newObj_type ?_ (by size_fits))
 refine wpAny_bind (m := firstArgMember _ _) (wpAny_of_eq (a := Value.none) (by first | rfl | (simp only [firstArgMember]; rfl)) ?_)
 refine wpAny_newObj_type ?_ (by size_fits)
 simp only [raiseNew]
 refine wpAny_bind (wpAny_handled ?_)
 rw [show A.in1.handled = none from hh]
 refine wpAny_bind (wpAny_pure (wpAny_throw ?_))
 refine wpAny_bind (wpAny_isInstance (T := "StopIteration") (b := true) ⟨_,Heap.get?_push_size _ rfl,rfl⟩ isSubtype_stop ?_)
 exact wpAny_pure (h _ ((s1.extBut.push _).push _))
end
theorem gG {α : Type} (nx : Nat -> Nat) : ∀ (f k : Nat) (l : List α) (out : Array α),l.length = f -> (pickOrder.go nx f k l out).toList.Perm (out.toList ++ l)
 | 0,k,l,out,h => by
  have : l = [] := List.length_eq_zero_iff.mp h
  subst this
  simp [pickOrder.go]
 | f + 1,k,l,out,h => by
  have hp : 0 < l.length := by omega
  have hi : nx k % l.length < l.length := Nat.mod_lt _ hp
  have e : l[nx k % l.length]? = some (l[nx k % l.length]) := AK hi
  rw [pickOrder.go,e]
  dsimp only
  refine (gG nx f (k + 1) _ _ (by rw [List.length_eraseIdx_of_lt hi,h]; rfl)).trans ?_
  rw [BB,AI]
  exact Ai _ (gj l _ hi)
theorem iQ {α : Type} (nx : Nat -> Nat) (xs : Array α) : (pickOrder nx xs).toList.Perm xs.toList := by
 unfold pickOrder
 simpa using gG nx xs.size 0 xs.toList #[] (by simp)
section
variable {prog : Program} {w : World} {A : Around} {E : Value -> Shared -> Prop} {s : Shared}
theorem fP {S : Addr} {es : Array (Int × Value)} {ep i slot : Nat} {t : SetTable} {Q : Option (Value × Nat) -> Shared -> Prop} (hS : cu s.heap S es ep t) (hb : w.params.followText "set-order" = true)
  (h : Q (((pickOrder (w.params.setOrder S ep) es)[i]?).map fun e => (e.2,slot)) s) : wpAny (model prog w) A (setNext S slot i ep) Q E s := by
 unfold setNext setsByText
 refine wpAny_bind (cU hS ?_)
 dsimp only
 refine wpAny_bind (wpAny_bind (wpAny_askSetting (wpAny_pure ?_)))
 rw [show ((model prog w).w.params.followText "set-order") = true from hb]
 simp only [if_true]
 rw [if_neg (by simp)]
 unfold setWalk setsByText
 refine wpAny_bind (wpAny_bind (cU hS ?_))
 dsimp only
 refine wpAny_bind (wpAny_bind (wpAny_askSetting (wpAny_pure ?_)))
 rw [show ((model prog w).w.params.followText "set-order") = true from hb]
 simp only [if_true]
 refine wpAny_bind (wpAny_askSetting (wpAny_pure ?_))
 exact wpAny_pure h
theorem gH {S : Addr} {es : Array (Int × Value)} {ep i slot : Nat} {t : SetTable} {Q : Option (Value × Nat) -> Shared -> Prop} (hS : cu s.heap S es ep t) (hb : w.params.followText "set-order" = false) (few : es.size <= 1) (ld : t.led = true)
  (h : Q (match es[SetTable.below t.place slot]?,t.place[SetTable.below t.place slot]? with | some (_,x),some j => some (x,j + 1) | _,_ => none) s) : wpAny (model prog w) A (setNext S slot i ep) Q E s := by
 unfold setNext setsByText
 refine wpAny_bind (cU hS ?_)
 dsimp only
 refine wpAny_bind (wpAny_bind (wpAny_askSetting (wpAny_pure ?_)))
 rw [show ((model prog w).w.params.followText "set-order") = false from hb]
 simp only [B9,if_false]
 have d1 : (!t.plain && decide (es.size > 1)) = false := by
  rw [decide_eq_false (by omega),Bool.and_false]
 have d2 : (!t.led && !es.isEmpty) = false := by rw [ld]; rfl
 show wpAny _ _ (if (!t.plain && decide (es.size > 1)) = true then _ else _) _ _ s
 rw [d1]
 simp only [B9,if_false]
 refine wpAny_bind ?_
 show wpAny _ _ (if (!t.led && !es.isEmpty) = true then _ else _) _ _ s
 rw [d2]
 simp only [B9,if_false]
 refine wpAny_pure ?_
 exact wpAny_pure h
theorem qy (hh : A.handled = none) (hb : w.params.followText "set-order" = true) (I S : Addr) (ne : S ≠ I) (es : Array (Int × Value)) (ep : Nat) (t : SetTable) :
  Walks prog w A I [I,S] [I] es.size (fun i v => ∃ e,(pickOrder (w.params.setOrder S ep) es).toList[i]? = some e /\ v = e.2) (fun i h => h.get? I = some (nU (.int 0 0) i S es.size ep) /\ cu h S es ep t) where
 sub := fun b hb => by simp at hb; simp [hb]
 frame := fun _ _ _ st hk => ⟨hk I (by simp) _ st.1,st.2.at fun o e => hk S (by simp) o e⟩
 item := fun i s Q E hi st hQ => by
  have hz : (pickOrder (w.params.setOrder S ep) es).size = es.size := by rw [<- AJ,(iQ _ es).length_eq,AJ]
  obtain ⟨x,hx⟩ : ∃ x,(pickOrder (w.params.setOrder S ep) es)[i]? = some x := ⟨_,AN (by rw [hz]; exact hi)⟩
  refine jC (slot := 0) (nx := 0) (x := x.2) st.1 st.2 (fun A E Q q => fP st.2 hb ?_) fun h' e' sb => ?_
  ·rw [hx]; exact q
  ·refine hQ _ h' s.toks ⟨_,by rw [AT]; exact hx,rfl⟩ ⟨e',st.2.at fun o e => (sb.2 S ne).trans e⟩ fun b o hb e => (sb.2 b fun z => hb (by simp [z])).trans e
 done := fun s Q E st hQ => by
  have hz : (pickOrder (w.params.setOrder S ep) es).size = es.size := by rw [<- AJ,(iQ _ es).length_eq,AJ]
  have hx : (pickOrder (w.params.setOrder S ep) es)[es.size]? = none := Array.getElem?_eq_none (by omega)
  refine jD (slot := 0) hh st.1 st.2 (fun A E Q q => fP st.2 hb ?_) fun h' xb => hQ h' s.toks fun b o hb e => xb b o (fun z => hb (by simp [z])) e
  rw [hx]; exact q
 self := fun i s Q E st hQ => by
  have hT : s.TypeIs (.ref I) "set_iterator" := ⟨_,st.1,rfl⟩
  refine wpAny_pyIter_slot hT bT (wpAny_call_entry bT hT cZ ?_ (dM _))
  show wpAny _ _ (ret (.ref I)) _ _ s
  exact wpAny_pure ⟨_,rfl,"set_iterator",_,hT,aU.lookup,hQ⟩
theorem ph {α : Type} : ∀ {a : Array α},a.size = 1 -> ∃ j,a = #[j]
 | ⟨[j]⟩,_ => ⟨j,rfl⟩
 | ⟨[]⟩,h => by simp at h
 | ⟨_ :: _ :: _⟩,h => by simp at h
theorem jE (j k : Nat) : SetTable.below #[j] k = if j < k then 1 else 0 := by
 unfold SetTable.below
 simp only [AV,Ad,BE,SetTable.below.go]
 by_cases h : j < k <;> simp [h,SetTable.below.go]
theorem sJ (hh : A.handled = none) (hb : w.params.followText "set-order" = false) (I S : Addr) (ne : S ≠ I) (es : Array (Int × Value)) (ep : Nat) (t : SetTable) (few : es.size <= 1) (ld : t.led = true) (ft : t.fits es.size = true) :
  Walks prog w A I [I,S] [I] es.size (fun i v => ∃ e,es.toList[i]? = some e /\ v = e.2) (fun i h => (∃ slot : Nat,(i = 0 -> slot = 0) /\ (i ≠ 0 -> ∃ j,t.place[0]? = some j /\ slot = j + 1) /\ h.get? I = some (nU (.int slot 0) i S es.size ep)) /\ cu h S es ep t) where
 sub := fun b hb => by simp at hb; simp [hb]
 frame := fun _ _ _ st hk => ⟨let ⟨sl,a,b,c⟩ := st.1; ⟨sl,a,b,hk I (by simp) _ c⟩,st.2.at fun o e => hk S (by simp) o e⟩
 item := fun i s Q E hi st hQ => by
  obtain ⟨⟨slot,z1,z2,hI⟩,hS⟩ := st
  have i0 : i = 0 := by omega
  subst i0
  cases z1 rfl
  have pz : t.place.size = 1 := by
   simp only [SetTable.fits,BU,beq_iff_eq] at ft
   omega
  obtain ⟨j,ej⟩ := ph pz
  obtain ⟨x,hx⟩ : ∃ x,es[0]? = some x := ⟨_,AN hi⟩
  refine jC (slot := 0) (nx := j + 1) (x := x.2) hI hS (fun A E Q q => gH hS hb few ld ?_) fun h' e' sb => ?_
  ·rw [ej,jE]
   simp only [Nat.not_lt_zero,if_false,hx]
   exact q
  ·exact hQ _ h' s.toks ⟨_,by rw [AT]; exact hx,rfl⟩ ⟨⟨j + 1,fun z => (by omega),fun _ => ⟨j,by rw [ej]; rfl,rfl⟩,e'⟩,hS.at fun o e => (sb.2 S ne).trans e⟩ fun b o hb e => (sb.2 b fun z => hb (by simp [z])).trans e
 done := fun s Q E st hQ => by
  obtain ⟨⟨slot,z1,z2,hI⟩,hS⟩ := st
  refine jD (slot := slot) hh hI hS (fun A E Q q => gH hS hb few ld ?_) fun h' xb => hQ h' s.toks fun b o hb e => xb b o (fun z => hb (by simp [z])) e
  have hn : es[SetTable.below t.place slot]? = none := by
   by_cases e0 : es.size = 0
   ·exact Array.getElem?_eq_none (by omega)
   ·obtain ⟨j,e1,e2⟩ := z2 e0
    have pz : t.place.size = 1 := by
     simp only [SetTable.fits,BU,beq_iff_eq] at ft
     omega
    have ej : t.place = #[j] := by
     obtain ⟨j',ej'⟩ := ph pz
     rw [ej'] at e1
     simp at e1
     rw [ej',e1]
    rw [ej,jE,e2,if_pos (by omega)]
    exact Array.getElem?_eq_none (by omega)
  rw [hn]
  exact q
 self := fun i s Q E st hQ => by
  obtain ⟨⟨slot,z1,z2,hI⟩,hS⟩ := st
  have hT : s.TypeIs (.ref I) "set_iterator" := ⟨_,hI,rfl⟩
  refine wpAny_pyIter_slot hT bT (wpAny_call_entry bT hT cZ ?_ (dM _))
  show wpAny _ _ (ret (.ref I)) _ _ s
  exact wpAny_pure ⟨_,rfl,"set_iterator",_,hT,aU.lookup,hQ⟩
end
section
variable {prog : Program} {w : World} {A : Around} {E : Value -> Shared -> Prop} {s : Shared}
theorem nV {I S T : Addr} {es : Array (Int × Value)} {ep i j : Nat} {t : SetTable} {e : Int × Value} {ys : List Nat} {Q : Option Value -> Shared -> Prop} (hI : s.heap.get? I = some (nU (.ref T) i S es.size ep)) (hS : cu s.heap S es ep t)
  (hT : s.heap.get? T = some { cls := .type "tuple",data := .seq (ys.map fun (i : Nat) => rawInt i).toArray }) (hj : ys[i]? = some j) (he : es[j]? = some e)
  (h : ∀ h',h'.get? I = some (nU (.ref T) (i + 1) S es.size ep) -> Heap.SameBut I s.heap h' -> Q (some e.2) { s with heap := h' }) : wpAny (model prog w) A (pyNext (.ref I)) Q E s := by
 have hT' : s.TypeIs (.ref I) "set_iterator" := ⟨_,hI,rfl⟩
 unfold pyNext
 refine wpAny_bind (wpAny_attempt (wpAny_callSpecial?_slot (name := Str.ofString "__next__") hT' aU (wpAny_call_entry aU hT' cf ?_ (cF _))))
 unfold Builtin.«set_iterator.__next__»
 refine wpAny_bind (m := slotArgs _ _ _) ?_
 show wpAny _ _ (pure (Value.ref I,[])) _ _ s
 refine wpAny_pure ?_
 refine wpAny_bind (wpAny_fieldsOf hI rfl ?_)
 show wpAny _ _ (setEntries S >>= _) _ _ s
 refine wpAny_bind (cj hS ?_)
 rw [if_neg (by simp)]
 show wpAny _ _ (seqItems? (.ref T) >>= _) _ _ s
 refine wpAny_bind (wpAny_seqItems hT rfl ?_)
 have hp : ((ys.map fun (i : Nat) => rawInt i).toArray)[(i : Int).toNat]? = some (.int (j : Int) 0) := by
  simp [hj,rawInt]
 dsimp only
 rw [hp]
 dsimp only
 unfold setNextDrawn
 refine wpAny_bind (wpAny_bind (cU hS ?_))
 dsimp only
 rw [if_neg (by simp)]
 simp only [Int.toNat_natCast,he]
 refine wpAny_pure ?_
 refine wpAny_bind (wpAny_setField_rec (vs := #[.ref T,.int i 0,.ref S,.int es.size 0,.int ep 0]) hI (by simp) fun h1 e1 s1 => ?_)
 exact wpAny_pure ⟨_,rfl,wpAny_pure (h h1 (by simpa [nU,rawInt] using e1) s1)⟩
theorem nW {I S T : Addr} {es : Array (Int × Value)} {ep i : Nat} {t : SetTable} {ys : List Nat} {Q : Option Value -> Shared -> Prop} (hh : A.handled = none) (hI : s.heap.get? I = some (nU (.ref T) i S es.size ep)) (hS : cu s.heap S es ep t)
  (hT : s.heap.get? T = some { cls := .type "tuple",data := .seq (ys.map fun (i : Nat) => rawInt i).toArray }) (hj : ys[i]? = none)
  (h : ∀ h',Heap.ExtBut I s.heap h' -> Q none { s with heap := h' }) : wpAny (model prog w) A (pyNext (.ref I)) Q E s := by
 have hT' : s.TypeIs (.ref I) "set_iterator" := ⟨_,hI,rfl⟩
 unfold pyNext
 refine wpAny_bind (wpAny_attempt (wpAny_callSpecial?_slot (name := Str.ofString "__next__") hT' aU (wpAny_call_entry aU hT' cf ?_ (cF _))))
 unfold Builtin.«set_iterator.__next__»
 refine wpAny_bind (m := slotArgs _ _ _) ?_
 show wpAny _ _ (pure (Value.ref I,[])) _ _ s
 refine wpAny_pure ?_
 refine wpAny_bind (wpAny_fieldsOf hI rfl ?_)
 show wpAny _ _ (setEntries S >>= _) _ _ s
 refine wpAny_bind (cj hS ?_)
 rw [if_neg (by simp)]
 show wpAny _ _ (seqItems? (.ref T) >>= _) _ _ s
 refine wpAny_bind (wpAny_seqItems hT rfl ?_)
 have hp : ((ys.map fun (i : Nat) => rawInt i).toArray)[(i : Int).toNat]? = none := by
  have := List.getElem?_eq_none_iff.mp hj
  simpa using this
 dsimp only
 rw [hp]
 dsimp only
 refine wpAny_bind (wpAny_setField_rec (vs := #[.ref T,.int i 0,.ref S,.int es.size 0,.int ep 0]) hI (by simp) fun h1 e1 s1 => ?_)
 refine wpAny_bind (wpAny_setField_rec (s := { s with heap := h1 }) e1 (by simp) fun h2 e2 s2 => ?_)
 show wpAny _ _ (newExc (.type "StopIteration") [] >>= _) _ _ _
 refine wpAny_bind ?_
 simp only [newExc,newTuple]
 refine wpAny_bind (wpAny_newObj_type ?_ (by size_fits))
 refine wpAny_bind (m := firstArgMember _ _) (wpAny_of_eq (a := Value.none) (by first | rfl | (simp only [firstArgMember]; rfl)) ?_)
 refine wpAny_newObj_type ?_ (by size_fits)
 simp only [raiseNew]
 refine wpAny_bind (wpAny_handled ?_)
 rw [show A.in1.handled = none from hh]
 refine wpAny_bind (wpAny_pure (wpAny_throw ?_))
 refine wpAny_bind (wpAny_isInstance (T := "StopIteration") (b := true) ⟨_,Heap.get?_push_size _ rfl,rfl⟩ isSubtype_stop ?_)
 exact wpAny_pure (h _ (((s1.trans s2).extBut.push _).push _))
theorem qA (hh : A.handled = none) (I S T : Addr) (ne : S ≠ I) (nT : T ≠ I) (es : Array (Int × Value)) (ep : Nat) (t : SetTable) (ys : List Nat) (hy : ys.Perm (Bh es.size)) :
  Walks prog w A I [I,S,T] [I] es.size (fun i v => ∃ j e,ys[i]? = some j /\ es[j]? = some e /\ v = e.2)
   (fun i h => h.get? I = some (nU (.ref T) i S es.size ep) /\ cu h S es ep t /\ h.get? T = some { cls := .type "tuple",data := .seq (ys.map fun (i : Nat) => rawInt i).toArray }) where
 sub := fun b hb => by simp at hb; simp [hb]
 frame := fun _ _ _ st hk => ⟨hk I (by simp) _ st.1,st.2.1.at fun o e => hk S (by simp) o e,hk T (by simp) _ st.2.2⟩
 item := fun i s Q E hi st hQ => by
  have hl : ys.length = es.size := by rw [hy.length_eq,BN]
  obtain ⟨j,hj⟩ : ∃ j,ys[i]? = some j := ⟨_,AK (by rw [hl]; exact hi)⟩
  have jl : j < es.size := BS.mp (hy.mem_iff.mp (AL hj))
  obtain ⟨e,he⟩ : ∃ e,es[j]? = some e := ⟨_,AN jl⟩
  refine nV st.1 st.2.1 st.2.2 hj he fun h' e' sb => ?_
  exact hQ _ h' s.toks ⟨j,e,hj,he,rfl⟩ ⟨e',st.2.1.at fun o e => (sb.2 S ne).trans e,(sb.2 T nT).trans st.2.2⟩ fun b o hb e => (sb.2 b fun z => hb (by simp [z])).trans e
 done := fun s Q E st hQ => by
  have hl : ys.length = es.size := by rw [hy.length_eq,BN]
  exact nW hh st.1 st.2.1 st.2.2 (BJ (by omega)) fun h' xb => hQ h' s.toks fun b o hb e => xb b o (fun z => hb (by simp [z])) e
 self := fun i s Q E st hQ => by
  have hT : s.TypeIs (.ref I) "set_iterator" := ⟨_,st.1,rfl⟩
  refine wpAny_pyIter_slot hT bT (wpAny_call_entry bT hT cZ ?_ (dM _))
  show wpAny _ _ (ret (.ref I)) _ _ s
  exact wpAny_pure ⟨_,rfl,"set_iterator",_,hT,aU.lookup,hQ⟩
end
open So
theorem aq.drew {X : Cx} {pins : List (Addr × Obj)} {σ : List (Option V)} {H : Hp} {s : Shared} {d : Drawn} (I : aq X pins σ H s) : aq X pins σ H { s with drawn := d } :=
 ⟨I.ok,I.os,I.bare,I.base,I.loc,I.cell,I.free,I.freeC,I.pin,I.hok,I.len⟩
theorem iR {prog : Program} {w : World} {es : List (Int × Value)} (te : ∀ e ∈ es,we prog w e) {acc : List Value} (hl : acc.length = es.length) (h : ∀ (j : Nat) (v : Value),acc[j]? = some v -> ∃ e,es[j]? = some e /\ v = e.2) : StrsAre acc (es.map fun e => strOf e.2) :=
 eG (by rw [hl,A8]) fun j v hv => by
  obtain ⟨e,he,rfl⟩ := h j v hv
  obtain ⟨y,t,rfl⟩ := te e (AL he)
  exact ⟨y,t,by rw [Ac,he]; rfl,rfl⟩
section
variable {prog : Program} {w : World} {A : Around} {E : Value -> Shared -> Prop} {s : Shared}
theorem sK {r : Addr} {Q : Bool -> Shared -> Prop} (hT : s.TypeIs (.ref r) "set") (h : Q false s) : wpAny (model prog w) A (Builtin.List.listLengthHint (.ref r)) Q E s := by
 unfold Builtin.List.listLengthHint
 refine wpAny_bind (wpAny_specialOf hT PySem.F.slot_set_len.lookup ?_)
 generalize hid : ("set.__len__" : String) = id0
 wp_delta
 rw [show splitId id0 = some ("set","__len__") from by subst hid; decide +kernel]
 subst hid
 refine wpAny_bind (wpAny_isInstance (T := "set") (b := true) hT (by rw [isSubtype_type]; kernel_rfl) ?_)
 refine wpAny_ite_split (fun hab => absurd hab (by decide)) (fun _ => ?_)
 refine wpAny_ite_split (fun _ => ?_) (fun hab => absurd (by decide +kernel) hab)
 refine wpAny_bind (wpAny_typeOf hT ?_)
 exact wpAny_pure h
theorem ux {a : Addr} {ys : List Str} {Q : Value -> Shared -> Prop} (hh : A.handled = none) (hS : mP prog w s.heap a ys)
  (h : ∀ (s1 : Shared) (I : Addr) (fp : List Addr) (n : Nat) (P : Nat -> Value -> Prop) (St : Nat -> Heap -> Prop),Walks prog w A I fp [I] n P St -> St 0 s1.heap -> s.heap.objs.size <= I -> I ∈ fp -> (∀ b ∈ fp,b = a ∨ s.heap.objs.size <= b) -> n <= sizeLine ->
   (∀ b o,s.heap.get? b = some o -> s1.heap.get? b = some o) -> (∃ d,s1 = { s with heap := s1.heap,drawn := d }) -> (∀ acc : Array Value,PySem.ItemsOf P acc n -> ∃ zs : List Str,zs.Perm ys /\ StrsAre acc.toList zs) -> Q (.ref I) s1) :
  wpAny (model prog w) A (pyIter (.ref a)) Q E s := by
 obtain ⟨o,es,ep,t,ho,hex,hd,te,pm,hb,hf,ld,pl⟩ := hS
 have SA : cu s.heap a es ep t := ⟨o,ho,hex,hd,hf⟩
 have al := Heap.lt_size ho
 have nz : es.size <= sizeLine := fits_of_scanBound hb
 refine sI SA nz (fun c => ?_) fun c zs d hz => ?_
 ·cases hb' : w.params.followText "set-order" with
  | true =>
   refine h _ s.heap.objs.size _ _ _ _ (qy hh hb' s.heap.objs.size a (AE al) es ep t) ⟨Heap.get?_push_size _ rfl,SA.at fun o e => Heap.get?_push_of_some _ e⟩ (A5 _) (by simp) (by simp) nz (fun b o e => Heap.get?_push_of_some _ e) ⟨s.drawn,rfl⟩ fun acc ha => ?_
   have pp := iQ (w.params.setOrder a ep) es
   refine ⟨_,(pp.map fun e => strOf e.2).trans pm,iR (fun e he => te e (pp.mem_iff.mp he)) (by rw [AJ,ha.1,pp.length_eq,AJ]) fun j v hv => ha.2 j v (by rw [<- AT]; exact hv)⟩
  | false =>
   have few : es.size <= 1 := by
    rcases Nat.lt_or_ge 1 es.size with q | q
    ·rw [hb',pl (by omega)] at c
     simp at c
     omega
    ·exact q
   refine h _ s.heap.objs.size _ _ _ _ (sJ hh hb' s.heap.objs.size a (AE al) es ep t few (ld hb') hf) ⟨⟨0,fun _ => rfl,fun z => absurd rfl z,Heap.get?_push_size _ rfl⟩,SA.at fun o e => Heap.get?_push_of_some _ e⟩ (A5 _) (by simp) (by simp) nz (fun b o e => Heap.get?_push_of_some _ e) ⟨s.drawn,rfl⟩ fun acc ha => ?_
   exact ⟨_,pm,iR te (by rw [AJ,ha.1,AJ]) fun j v hv => ha.2 j v (by rw [<- AT]; exact hv)⟩
 ·have e1 : (s.heap.push { cls := .type "tuple",data := .seq (zs.map fun (i : Nat) => rawInt i).toArray }).objs.size = s.heap.objs.size + 1 := Heap.size_push ..
  refine h _ (s.heap.objs.size + 1) _ _ _ _ (qA hh (s.heap.objs.size + 1) a s.heap.objs.size (AE (B3 al)) (AE (Nat.lt_succ_self _)) es ep t zs hz)
   ⟨(show ((s.heap.push _).push (nU (.ref s.heap.objs.size) 0 a es.size ep)).get? (s.heap.objs.size + 1) = _ from e1 ▸ Heap.get?_push_size (s.heap.push { cls := .type "tuple",data := .seq (zs.map fun (i : Nat) => rawInt i).toArray }) (o := nU (.ref s.heap.objs.size) 0 a es.size ep) rfl),SA.at fun o e => Heap.get?_push_of_some _ (Heap.get?_push_of_some _ e),Heap.get?_push_of_some _ (Heap.get?_push_size _ rfl)⟩ (Nat.le_succ _) (by simp) (fun b hb => by
    simp only [A3,AQ,or_false] at hb
    rcases hb with rfl | rfl | rfl
    ·exact .inr (Nat.le_succ _)
    ·exact .inl rfl
    ·exact .inr (A5 _)) nz (fun b o e => Heap.get?_push_of_some _ (Heap.get?_push_of_some _ e)) ⟨d,rfl⟩ fun acc ha => ?_
  have hl : zs.length = es.size := by rw [hz.length_eq,BN]
  let es' : List (Int × Value) := zs.map fun j => es.getD j (0,.none)
  have pp : es'.Perm es.toList := by
   refine (hz.map _).trans ?_
   have : (Bh es.size).map (fun j => es.getD j (0,Value.none)) = es.toList := by
    apply List.ext_getElem?
    intro i
    rw [Ac,AT (xs := es)]
    rcases Nat.lt_or_ge i es.size with q | q
    ·rw [List.getElem?_range q,AN q]
     simp [Array.getD,q]
    ·rw [BJ (by simpa using q),Array.getElem?_eq_none q]
     rfl
   rw [this]
  refine ⟨_,(pp.map fun e => strOf e.2).trans pm,iR (fun e he => te e (pp.mem_iff.mp he)) (by rw [AJ,ha.1,pp.length_eq,AJ]) fun j v hv => ?_⟩
  obtain ⟨k,e,e2,e3,e4⟩ := ha.2 j v (by rw [<- AT]; exact hv)
  refine ⟨e,?_,e4⟩
  show (zs.map _)[j]? = _
  rw [Ac,e2]
  simp [Array.getD_eq_getD_getElem?,e3]
theorem qB {a L : Addr} {c : Nat} {ys : List Str} (hh : A.handled = none) (hS : mP prog w s.heap a ys) (hL : s.heap.get? L = some { cls := .type "list",data := .seq #[] c }) (ne : L ≠ a) {RR : Result -> Shared -> Prop}
  (hR : ∀ (h' : Heap) (tk : Nat) (d : Drawn) (acc : Array Value) (c : Nat) (zs : List Str),(∀ b o,b ≠ L -> s.heap.get? b = some o -> h'.get? b = some o) -> h'.get? L = some { cls := .type "list",dict := none,data := .seq acc c,slots := #[] } -> zs.Perm ys -> StrsAre acc.toList zs -> RR (.ok (.ret (.ref L))) { s with heap := h',drawn := d,toks := tk }) :
  wpAny (model prog w) A.in1 (Builtin.List.listExtendWith (.ref L) (.ref a) (.ref L))
   (fun fin s' => match fin with | .done f => RR (.ok f) s' | .again c' => c'.quiet = true /\ codeAny (model prog w) A c' RR s') (fun e s' => RR (.error e) s') s := by
 have Ll : L < s.heap.objs.size := Heap.lt_size hL
 have tyS : ∀ {s' : Shared},mP prog w s'.heap a ys -> s'.TypeIs (.ref a) "set" := fun ⟨o,_,_,_,ho,hex,_⟩ => ⟨o,ho,hex.1⟩
 unfold Builtin.List.listExtendWith
 refine wpAny_bind (wpAny_typeOf (T := "set") (tyS hS) ?_)
 have h1 : Builtin.List.listSameRef (.ref L) (.ref a) = false := by simp [Builtin.List.listSameRef,ne]
 simp only [h1,show (Value.type "set" == Value.type "list") = false by decide,show (Value.type "set" == Value.type "tuple") = false by decide,Bool.or_false,B9,if_false]
 refine wpAny_bind (ux (A := A.in1) hh hS fun s1 I fp n P St W st hI hIf hfp hn kp hd out => ?_)
 have Lf : L ∉ fp := fun z => (hfp _ z).elim ne fun q => absurd Ll (Nat.not_lt.mpr q)
 obtain ⟨d,es1⟩ := hd
 have hL1 := kp _ _ hL
 have hS2 : mP prog w s1.heap a ys := let ⟨o,es,ep,t,ho,r⟩ := hS; ⟨o,es,ep,t,kp _ _ ho,r⟩
 refine wpAny_bind (wpAny_holding (sK (tyS hS2) ?_))
 have key : ∀ (hp : Heap) (c₁ tk : Nat),St 0 hp -> (∀ b o,b ≠ L -> s1.heap.get? b = some o -> hp.get? b = some o) -> hp.get? L = some { cls := .type "list",data := .seq #[] c₁ } ->
   codeAny (model prog w) A (.builtin "list.extend.loop" ⟨[.ref L,.ref I,.ref L],[]⟩) RR { s1 with heap := hp,toks := tk } := by
  intro hp c₁ tk hst hk hLp
  refine codeAny_extend_loopS W.toS hn L Lf (.ref L) n 0 _ #[] c₁ rfl (Al _) hst hLp (ItemsOf.nil _) fun s' acc' c' hm hS' hacc => ?_
  obtain ⟨zs,z1,z2⟩ := out acc' hacc
  have e' := Moved.eq_with hm
  rw [es1] at e'
  rw [e']
  refine hR s'.heap s'.toks d acc' c' zs (fun b o nb e => hm.heap b o (fun hmem => ?_) (hk b o nb (kp b o e))) hS' z1 z2
  rcases A3.mp hmem with q | q
  ·exact nb q
  ·have bl := Heap.lt_size e
   rw [A2.mp q] at bl
   exact absurd bl (Nat.not_lt.mpr hI)
 refine wpAny_ite_split (fun _ => ?_) (fun _ => wpAny_pure ⟨plainId_quiet PySem.F.plain_extend_loop _,key s1.heap c s1.toks st (fun b o _ e => e) hL1⟩)
 refine wpAny_bind (wpAny_rule ?_)
 refine wpAny_bind ?_
 show wpAny _ _ (updateSeq L (·.push .none) >>= fun _ => updateSeq L (·.pop)) _ _ _
 refine wpAny_bind (wpAny_updateSeq hL1 rfl ?_)
 have hS₂ := Heap.get?_update_self (Obj.mapSeq (·.push Value.none)) hL1 rfl
 refine wpAny_updateSeq (hz := by seq_fits) hS₂ rfl ?_
 have hS₃ := Heap.get?_update_self (Obj.mapSeq (·.pop)) hS₂ rfl
 refine wpAny_pure ⟨plainId_quiet PySem.F.plain_extend_loop _,key _ _ _ (W.frame _ _ _ st fun b hb o e => ?_) (fun b o nb e => ?_) hS₃⟩
 ·have nb : b ≠ L := fun z => Lf (z ▸ hb)
  exact (Heap.get?_update_other _ _ (Ne.symm nb)).trans ((Heap.get?_update_other _ _ (Ne.symm nb)).trans e)
 ·exact (Heap.get?_update_other _ _ (Ne.symm nb)).trans ((Heap.get?_update_other _ _ (Ne.symm nb)).trans e)
theorem nX {a : Addr} {ys : List Str} {R : List Value -> Shared -> Prop} (hh : A.handled = none) (hS : mP prog w s.heap a ys)
  (h : ∀ (h' : Heap) (tk : Nat) (d : Drawn) (acc : List Value) (zs : List Str),s.heap.objs.size < h'.objs.size -> (∀ b o,s.heap.get? b = some o -> h'.get? b = some o) -> zs.Perm ys -> StrsAre acc zs -> R acc { s with heap := h',drawn := d,toks := tk }) :
  wpAny (model prog w) A (collect (.ref a)) R E s := by
 have al : a < s.heap.objs.size := let ⟨o,_,_,_,ho,_⟩ := hS; Heap.lt_size ho
 unfold collect
 refine wpAny_bind (wpAny_runValue (codeAny_builtin entry_proto_collect' ?_))
 rw [Around.under_plainId PySem.F.plain_proto_collect _]
 show wpAny _ A.in1 (newList [] >>= fun l => again (.builtin "list.__iadd__" ⟨[l,.ref a],[]⟩)) _ _ s
 refine wpAny_bind (wpAny_newObj_type (wpAny_pure ⟨plainId_quiet Bp _,codeAny_builtin entry_list_iadd' ?_⟩))
 rw [Around.under_plainId Bp _]
 have fresh : (s.heap.push { cls := .type "list",data := .seq ([] : List Value).toArray }).get? s.heap.objs.size = some { cls := .type "list",data := .seq #[] } := Heap.get?_push_size _ rfl
 have hS1 : mP prog w (s.heap.push { cls := .type "list",data := .seq ([] : List Value).toArray }) a ys := let ⟨o,es,ep,t,ho,r⟩ := hS; ⟨o,es,ep,t,Heap.get?_push_of_some _ ho,r⟩
 show wpAny _ A.in1 (Builtin.List.listExtendWith (.ref s.heap.objs.size) (.ref a) (.ref s.heap.objs.size)) _ _ _
 have key := qB (A := A) (s := { s with heap := s.heap.push { cls := .type "list",data := .seq ([] : List Value).toArray } })
  (RR := fun (q : Result) (s' : Shared) => ∃ (h' : Heap) (tk : Nat) (d : Drawn) (acc : Array Value) (c : Nat) (zs : List Str),q = .ok (.ret (.ref s.heap.objs.size)) /\ s' = { s with heap := h',drawn := d,toks := tk } /\ (∀ b o,s.heap.get? b = some o -> h'.get? b = some o) /\ h'.get? s.heap.objs.size = some { cls := .type "list",dict := none,data := .seq acc c,slots := #[] } /\ zs.Perm ys /\ StrsAre acc.toList zs)
  hh hS1 fresh (Bl al) (fun h' tk d acc c zs hk hS' z1 z2 => ⟨h',tk,d,acc,c,zs,rfl,rfl,fun b o e => hk b o (AE (Heap.lt_size e)) (Heap.get?_push_of_some _ e),hS',z1,z2⟩)
 refine wpAny_mono key (fun f s' x => ?_) fun e s' x => ?_
 ·cases f with
  | done f =>
   obtain ⟨h',tk,d,acc,c,zs,e,rfl,hk,hS',z1,z2⟩ := x
   cases e
   show wpAny _ A (load s.heap.objs.size >>= _) _ _ _
   exact wpAny_bind (wpAny_load hS' (wpAny_pure (h h' tk d acc.toList zs (Heap.lt_size hS') hk z1 z2)))
  | again c₁ =>
   refine ⟨x.1,codeAny_mono x.2 fun q s₂ y => ?_⟩
   obtain ⟨h',tk,d,acc,c,zs,rfl,rfl,hk,hS',z1,z2⟩ := y
   show wpAny _ A (load s.heap.objs.size >>= _) _ _ _
   exact wpAny_bind (wpAny_load hS' (wpAny_pure (h h' tk d acc.toList zs (Heap.lt_size hS') hk z1 z2)))
 ·obtain ⟨_,_,_,_,_,_,e',_⟩ := x
  cases e'
end
theorem mH : ∀ {xs : List Str} {us : List Value},aM (xs.map V.str) us -> ∀ (i : Nat) (v : Value),us[i]? = some v -> ∃ (y : Str) (t : Tok),xs[i]? = some y /\ v = Value.str y t
 | [],_,.nil,i,v,h => by simp at h
 | x :: xs,_,.cons r t,0,v,h => by
  simp at h
  subst h
  obtain ⟨k,rfl⟩ := r
  exact ⟨x,k,rfl,rfl⟩
 | x :: xs,_,.cons r t,i + 1,v,h => mH t i v (by simpa using h)
section
variable {X : Cx} {e : Expr} {te : TE} {p1 p2 pos pos2 : Pos}
end
end L2
namespace Sw
open PySem L2 XH PyProof.Rows
def Lt (z : Str) : Prop := ∀ c ∈ sL z,97 <= c /\ c <= 122
theorem Lt.app {x y : Str} (h : Lt x) (k : Lt y) : Lt (x ++ y) := fun c hc => by
 rw [v1] at hc
 rcases A9.mp hc with q | q
 ·exact h c q
 ·exact k c q
theorem Lt.nil : Lt "" := fun c hc => by
 have : c ∈ ([] : List Nat) := hc
 simp at this
theorem Lt.one {c : Nat} (h : 97 <= c /\ c <= 122) : Lt ⟨#[c]⟩ := fun d hd => by
 have : d ∈ [c] := hd
 rw [A2.mp this]
 exact h
theorem Lt.nm {z : Str} (h : Lt z) (h1 : 1 <= z.length) (h2 : z.length <= 12) : Nm z := ⟨by rw [iA]; exact h1,by rw [iA]; exact h2,h⟩
theorem fQ : ∀ {rows : List (Str × List Str)} {x y : Str},(rows.map (·.1)).Nodup -> iH rows x y -> aO rows x y = rows
 | [],x,y,_,⟨_,h,_⟩ => by simp at h
 | (c,ys) :: r,x,y,nd,h => by
  have nd' := AS.mp (show (c :: r.map (·.1)).Nodup from nd)
  unfold aO
  by_cases z : c = x
  ·rw [if_pos z]
   rcases bP.mp h with ⟨_,q⟩ | ⟨zs,q,_⟩
   ·have : bJ ys y = ys := by unfold bJ; rw [if_pos q]
    rw [this]
   ·exact absurd (AZ.mpr ⟨_,q,z.symm⟩) nd'.1
  ·rw [if_neg z]
   rcases bP.mp h with ⟨e,_⟩ | q
   ·exact absurd e z
   ·rw [fQ nd'.2 q]
end Sw
namespace Hm
open PySem PySem.SeqAt PySem.MeetsSeq
section
variable {prog : Program} {w : World} {A : Around} {E : Value -> Shared -> Prop} {s : Shared}
end
open PySem.MeetsSeq3
section
variable {prog : Program} {w : World} {A : Around} {E : Value -> Shared -> Prop} {s : Shared}
end
end Hm
namespace Wo
open PySem Hm So
theorem bV : ∀ {l m : List Str},l.Nodup -> (∀ x ∈ l,x ∈ m) -> l.length <= m.length
 | [],m,_,_ => Al _
 | x :: l,m,nd,sub => by
  have hx := sub x B2
  have nd' := AS.mp nd
  have := bV (m := m.erase x) nd'.2 fun y hy => (List.mem_erase_of_ne (a := y) (b := x) (fun e => nd'.1 (by rw [<- e]; exact hy))).mpr (sub y (Ab _ hy))
  rw [List.length_erase_of_mem hx] at this
  have p := List.length_pos_of_mem hx
  rw [Ad]
  omega
end Wo
namespace L2
open PySem PySem.Spec PyProof.Rows XH
section
variable {prog : Program} {w : World} {A : Around} {E : Value -> Shared -> Prop} {s : Shared}
end
section
variable {X : Cx} {tg : Expr}
end
open Hm
end L2
namespace Sw
open PySem L2 XH Hm Wo So PyProof.Rows
def c7 (row : List (Str × Addr)) : List (Key × V) := row.map fun p => ((.inr p.1 : Key),V.ref p.2)
theorem mI : ∀ {row : List (Str × Addr)},(row.map (·.1)).Nodup -> ∀ {y : Str} {t : Addr},(y,t) ∈ row -> aN (c7 row) (.inr y) = some (.ref t)
 | [],_,_,_,h => nomatch h
 | p :: row,nd,y,t,h => by
  rw [An,AS] at nd
  show aN (((.inr p.1 : Key),V.ref p.2) :: c7 row) _ = _
  rcases A3.mp h with e | e
  ·subst e
   exact a9 rfl
  ·rw [bf (by
    show ¬ (Sum.inr p.1 : Key) = Sum.inr y
    intro z
    injection z with z
    exact nd.1 (z ▸ AZ.mpr ⟨_,e,rfl⟩))]
   exact mI nd.2 e
def kS (g : Str -> Str -> Option Addr) (x y : Str) : Prop := ∃ t,g x y = some t
theorem pi {κ : Type} [DecidableEq κ] : ∀ {kvs : List (κ × V)} {k : κ} {v : V},aN kvs k = some v -> (k,v) ∈ kvs
 | [],_,_,h => by cases h
 | p :: r,k,v,h => by
  by_cases e : p.1 = k
  ·rw [a9 e] at h
   cases h
   subst e
   exact B2
  ·rw [bf e] at h
   exact Ab _ (pi h)
def ff (row : List (Str × Addr)) (y : Str) (t : Addr) : List (Str × Addr) := if (row.any fun p => decide (p.1 = y)) = true then row.map (fun p => if p.1 = y then (p.1,t) else p) else row ++ [(y,t)]
theorem sM (row : List (Str × Addr)) (y : Str) (t : Addr) : putK (c7 row) (.inr y) (.ref t) = c7 (ff row y t) := by
 have e : ((c7 row).any fun kv => decide (kv.1 = (.inr y : Key))) = row.any fun p => decide (p.1 = y) := by
  unfold c7
  rw [List.any_map]
  congr 1
  funext p
  simp
 unfold putK ff
 rw [e]
 split
 ·unfold c7
  rw [BY,BY]
  congr 1
  funext p
  show (if (Sum.inr p.1 : Key) = Sum.inr y then ((Sum.inr p.1 : Key),V.ref t) else (Sum.inr p.1,V.ref p.2)) = ((Sum.inr (if p.1 = y then (p.1,t) else p).1 : Key),V.ref (if p.1 = y then (p.1,t) else p).2)
  by_cases c : p.1 = y
  ·rw [if_pos c,if_pos (by rw [c])]
  ·rw [if_neg c,if_neg (fun z => c (by injection z))]
 ·unfold c7
  rw [BL]
  rfl
theorem kB (row : List (Str × Addr)) (y : Str) (t : Addr) (nd : (row.map (·.1)).Nodup) : ((ff row y t).map (·.1)).Nodup /\ (ff row y t).length <= row.length + 1 /\ ∀ z s,(z,s) ∈ ff row y t ↔ if z = y then s = t else (z,s) ∈ row := by
 unfold ff
 by_cases c : (row.any fun p => decide (p.1 = y)) = true
 ·rw [if_pos c]
  obtain ⟨p,hp,hy⟩ := List.any_eq_true.mp c
  have hy := of_decide_eq_true hy
  have e : (row.map fun p => if p.1 = y then (p.1,t) else p).map (·.1) = row.map (·.1) := by
   rw [BY]
   congr 1
   funext p
   show (if p.1 = y then (p.1,t) else p).1 = p.1
   split <;> rfl
  refine ⟨by rw [e]; exact nd,by rw [A8]; omega,fun z s => ⟨fun h => ?_,fun h => ?_⟩⟩
  ·obtain ⟨q,hq,e⟩ := AZ.mp h
   by_cases d : q.1 = y
   ·rw [if_pos d] at e
    cases e
    rw [if_pos d]
   ·rw [if_neg d] at e
    subst e
    rw [if_neg d]
    exact hq
  ·by_cases d : z = y
   ·rw [if_pos d] at h
    subst h d
    exact AZ.mpr ⟨p,hp,by rw [if_pos hy,hy]⟩
   ·rw [if_neg d] at h
    exact AZ.mpr ⟨_,h,by rw [if_neg d]⟩
 ·rw [if_neg c]
  have no : ∀ q ∈ row,q.1 ≠ y := fun q hq e => c (List.any_eq_true.mpr ⟨q,hq,decide_eq_true e⟩)
  refine ⟨?_,by rw [AA]; exact A5 _,fun z s => ⟨fun h => ?_,fun h => ?_⟩⟩
  ·rw [BL,BC]
   refine ⟨nd,by simp,fun a ha b hb => ?_⟩
   obtain ⟨q,hq,rfl⟩ := AZ.mp ha
   cases A2.mp hb
   exact no q hq
  ·rcases A9.mp h with h | h
   ·rw [if_neg (no _ h)]
    exact h
   ·cases A2.mp h
    rw [if_pos rfl]
  ·by_cases d : z = y
   ·rw [if_pos d] at h
    subst h d
    exact AD _ (A2.mpr rfl)
   ·rw [if_neg d] at h
    exact Aj _ h
structure BD (H H' : Hp) (d : Addr) (n : Nat) (dk : List (Key × V)) (g : Str -> Str -> Option Addr) : Prop where
 at_ : H' d = some (.dK dk)
 few : dk.length <= n
 inj : ∀ x x' a,aN dk (.inr x) = some (.ref a) -> aN dk (.inr x') = some (.ref a) -> x = x'
 ex : ∀ x : Str,(aN dk (.inr x) = none /\ ∀ y,g x y = none) ∨
  ∃ (a : Addr) (row : List (Str × Addr)),aN dk (.inr x) = some (.ref a) /\ H' a = some (.dK (c7 row)) /\ H a = none /\ a ≠ d /\ (row.map (·.1)).Nodup /\ row.length <= n /\ ∀ y t,g x y = some t ↔ (y,t) ∈ row
theorem BD.same {H H1 H2 : Hp} {d : Addr} {n : Nat} {dk : List (Key × V)} {g : Str -> Str -> Option Addr} (h : BD H H1 d n dk g) (e : au H1 H2) : BD H H2 d n dk g := by
 refine ⟨e _ _ h.at_,h.few,h.inj,fun x => ?_⟩
 rcases h.ex x with z | ⟨a,row,q1,q2,q3⟩
 ·exact .inl z
 ·exact .inr ⟨a,row,q1,e _ _ q2,q3⟩
theorem BD.open {H H1 : Hp} {d pn : Addr} {n : Nat} {dk : List (Key × V)} {g : Str -> Str -> Option Addr} {x0 : Str} (h : BD H H1 d n dk g) (hv : aN dk (.inr x0) = none) (hp : H1 pn = some (.dK (c7 []))) (hn : H pn = none) (nd : pn ≠ d) (new : ∀ x,aN dk (.inr x) ≠ some (.ref pn)) : BD H (ar H1 d (.dK (putK dk (.inr x0) (.ref pn)))) d (n + 1) (putK dk (.inr x0) (.ref pn)) g := by
 refine ⟨ae,Ae (cq _ _ _) (by have := h.few; omega),fun x x' a e1 e2 => ?_,fun x => ?_⟩
 ·rw [fA] at e1 e2
  split at e1
  ·rename_i c1
   injection c1 with c1
   cases e1
   split at e2
   ·rename_i c2
    injection c2 with c2
    rw [c1,c2]
   ·exact absurd e2 (new _)
  ·split at e2
   ·cases e2
    exact absurd e1 (new _)
   ·exact h.inj x x' a e1 e2
 ·rw [fA]
  by_cases c : x = x0
  ·subst c
   rw [if_pos rfl]
   rcases h.ex x with ⟨z1,z2⟩ | ⟨a,row,q1,_⟩
   ·refine .inr ⟨pn,[],rfl,by rw [af nd]; exact hp,hn,nd,by simp,Al _,fun y t => ?_⟩
    rw [z2]
    simp
   ·rw [hv] at q1
    cases q1
  ·rw [if_neg (fun z => c (by injection z))]
   rcases h.ex x with z | ⟨a,row,q1,q2,q3,q4,q5,q6,q7⟩
   ·exact .inl z
   ·exact .inr ⟨a,row,q1,by rw [af q4]; exact q2,q3,q4,q5,by omega,q7⟩
theorem BD.put {H H1 : Hp} {d a : Addr} {n : Nat} {dk : List (Key × V)} {g g' : Str -> Str -> Option Addr} {x0 y0 : Str} {t0 : Addr} {row : List (Str × Addr)} (h : BD H H1 d n dk g) (hv : aN dk (.inr x0) = some (.ref a)) (hr : H1 a = some (.dK (c7 row)))
  (hg : ∀ x y,g' x y = if x = x0 /\ y = y0 then some t0 else g x y) : BD H (ar H1 a (.dK (putK (c7 row) (.inr y0) (.ref t0)))) d (n + 1) dk g' := by
 obtain ⟨na,hx⟩ : a ≠ d /\ H a = none /\ (row.map (·.1)).Nodup /\ row.length <= n /\ ∀ y t,g x0 y = some t ↔ (y,t) ∈ row := by
  rcases h.ex x0 with ⟨z,_⟩ | ⟨a',row',q1,q2,q3,q4,q5,q6,q7⟩
  ·rw [hv] at z
   cases z
  ·rw [hv] at q1
   cases q1
   rw [hr] at q2
   have e : c7 row = c7 row' := by injection q2 with q2; injection q2
   have e' : row = row' := by
    unfold c7 at e
    refine (List.map_inj_right ?_).mp e
    rintro ⟨u1,u2⟩ ⟨w1,w2⟩ z
    injection z with z1 z2
    injection z1 with z1
    injection z2 with z2
    exact Prod.ext z1 z2
   subst e'
   exact ⟨q4,q3,q5,q6,q7⟩
 obtain ⟨hn,nd,ln,mem⟩ := hx
 obtain ⟨p1,p2,p3⟩ := kB row y0 t0 nd
 refine ⟨by rw [af (Ne.symm na)]; exact h.at_,by have := h.few; omega,h.inj,fun x => ?_⟩
 by_cases c : x = x0
 ·subst c
  refine .inr ⟨a,ff row y0 t0,hv,by rw [ae,sM],hn,na,p1,by omega,fun y t => ?_⟩
  rw [hg,p3]
  by_cases e : y = y0
  ·rw [if_pos ⟨rfl,e⟩,if_pos e]
   exact ⟨fun z => by injection z with z; exact z.symm,fun z => by rw [z]⟩
  ·rw [if_neg (fun z => e z.2),if_neg e]
   exact mem y t
 ·rcases h.ex x with ⟨z1,z2⟩ | ⟨b,row',q1,q2,q3,q4,q5,q6,q7⟩
  ·refine .inl ⟨z1,fun y => ?_⟩
   rw [hg,if_neg (fun z => c z.1)]
   exact z2 y
  ·have ba : b ≠ a := fun e => c (h.inj x x0 a (e ▸ q1) hv)
   refine .inr ⟨b,row',q1,by rw [af ba]; exact q2,q3,q4,q5,by omega,fun y t => ?_⟩
   rw [hg,if_neg (fun z => c z.1)]
   exact q7 y t
end Sw
namespace L2
open PySem PySem.Spec PyProof.Rows
section
variable {X : Cx} {pins : List (Addr × Obj)} {σ : St} {H : Hp} {s : Shared} {h' : Heap}
end
open XH
section
variable {X : Cx} {a b c d : Expr} {ta tb tc td : TE} {pos : Pos}
end
open Sw So Hm
section
variable {prog : Program} {w : World} {A : Around} {E : Value -> Shared -> Prop} {s : Shared}
end
section
variable {X : Cx} {scope : Scope} {cl : List (Str × Addr)} {own : Str} {ys : List Str} {js : List Nat} {elt iter : Expr} {px pos : Pos} {wi : TI} {te : TE}
end
theorem sN {X : Cx} (hu : X.A.units < cLine) : eM X (compareOp .NotEq) (fun x y H Q => ∃ a b zs,x = .ref a /\ y = .ref b /\ bu X.K H a zs /\ bu X.K H b [] /\ Q (.bl (!zs.isEmpty)) H) := by
 intro pins s σ H x y v u Q I rx ry h
 obtain ⟨a,b,zs,rfl,rfl,h1,h2,hq⟩ := h
 cases rx
 cases ry
 obtain ⟨i1,r1,p1,_⟩ := I.list h1
 obtain ⟨i2,r2,p2,_⟩ := I.list h2
 cases r2
 cases zs with
 | nil =>
  cases r1
  refine SeqAt.RcNeAt.lists (e := fun _ => true) p1.isList p2.isList rfl hu (fun j g1 g2 => absurd g1 (by simp)) _ _ _ _ ?_
  exact ⟨.bl false,H,I,by show Value.bool _ = Value.bool _; simp,hq⟩
 | cons z zs =>
  cases r1 with
  | cons r rr =>
   refine SeqAt.RcNeAt.lists_lengths p1.isList p2.isList (by simp) hu _ _ _ _ ?_
   exact ⟨.bl true,H,I,rfl,hq⟩
end L2
namespace Sw
open PySem L2 XH Hm
section
variable {X : Cx} {k j : Nat} {f C : Addr} {ps : List Str} {sp : Sp} {dvs : List V} {x m : Str} {p pos apos : Pos} {e o : Expr} {es : List Expr} {ta tb : TE} {t : TA} {E : L2.St -> XK}
end
end Sw
namespace L2
open PySem PySem.Spec PyProof.Rows XH Sw Hm
end L2
namespace Sw
open PySem L2 XH Hm
end Sw
namespace L2
open PySem PySem.Spec PyProof.Rows XH
theorem sO {X : Cx} {K : A0} (h : X.K = K) : wK X (wL K) := by
 subst h
 exact bQ
end L2
namespace Sw
open PySem L2 XH Hm
end Sw
namespace L2
open PySem PySem.Spec PyProof.Rows XH
section
variable {X : Cx} {scope : Scope} {cl : List (Str × Addr)} {os : List Str} {ys : List Str} {js : List Nat} {fp : List Addr} {pins : List (Addr × Obj)} {σ : St} {H : Hp} {s s4 : Shared}
end
section
variable {X : Cx} {scope : Scope} {cl : List (Str × Addr)} {os : List Str} {ys : List Str} {js : List Nat} {elt iter tg : Expr} {px pos : Pos} {wi : TI} {te : TE} {g : TG}
end
end L2
namespace Sw
open PySem L2 XH
end Sw
namespace L2
open PySem PySem.Spec PyProof.Rows XH
section
variable {X : Cx} {scope : Scope} {cl : List (Str × Addr)} {os : List Str} {ys : List Str} {js : List Nat} {elt iter tg : Expr} {px pos : Pos} {wi : TI} {te : TE} {g : TG}
end
section
variable {X : Cx}
theorem mJ : cn X (.type "int") (fun xs H Q => ∃ b,xs = [.bl b] /\ Q (.int (if b = true then 1 else 0)) H) := by
 intro pins s σ H xs us Q I r h
 obtain ⟨b,rfl,q⟩ := h
 obtain ⟨u,rfl,hu⟩ := vals1 r
 obtain rfl : u = Value.bool b := hu
 exact call_int_bool ⟨.int _,H,I.tok _,⟨_,rfl⟩,q⟩
theorem qC {K : A0} (h : X.K = K) : eM X (compareOp .NotIn) (yj K true) := by
 subst h
 exact jQ
end
def dP (n : Nat) (pr : Nat -> Bool) (f : Nat -> V) : List V := ((Bh n).filter pr).map f
theorem nY (n : Nat) (pr : Nat -> Bool) (f : Nat -> V) : dP (n + 1) pr f = dP n pr f ++ (if pr n = true then [f n] else []) := by
 unfold dP
 rw [List.range_succ,List.filter_append,BL]
 congr 1
 cases h : pr n <;> simp [B8,h]
theorem qE (n : Nat) (pr : Nat -> Bool) (f : Nat -> V) : (dP n pr f).length <= n := by
 unfold dP
 rw [A8]
 have := B5 pr (Bh n)
 rwa [BN] at this
theorem nZ {J : It} {n : Nat} {js : List Nat} {tc : TT} {te : TE} {σ : L2.St} {H1 : Hp} {Q : VK} (pr : Nat -> Bool) (f : Nat -> V) (hz : n <= sizeLine)
  (hgo : ∀ i H2,au H1 H2 -> i < n -> J.go i H2) (hst : ∀ H2,au H1 H2 -> J.stop n H2)
  (step : ∀ i,i < n -> ∀ H2 x H3,au H1 H2 -> J.yld i H2 x H3 -> H3 = H2 /\ (∀ R : Bool -> Hp -> Prop,R (pr i) H2 -> tc (some x :: a8 js σ) H2 R) /\ (pr i = true -> ∀ Q' : VK,Q' (f i) H2 -> te (some x :: a8 js σ) H2 Q'))
  (fin : ∀ p H',H1 p = none -> au H1 H' -> H' p = some (.lst (dP n pr f)) -> Q (.ref p) H') : iD js tc te σ Q J H1 := by
 intro p hp
 refine ⟨fun i m ys H2 => i <= n /\ m = n - i /\ ys = dP i pr f /\ au H1 H2 /\ H2 p = some (.lst ys),⟨n,Al _,rfl,rfl,Sw.ai hp _,ae⟩,?_⟩
 rintro i m ys H2 ⟨hi,rfl,rfl,g,e⟩
 refine ⟨e,?_⟩
 by_cases hin : i < n
 ·refine .inr ⟨hgo i H2 g hin,?_,fun x H3 hy => ?_⟩
  ·have := qE i pr f
   omega
  obtain ⟨rfl,h1,h2⟩ := step i hin H2 x H3 g hy
  refine h1 _ ?_
  have tk := nY i pr f
  cases hpr : pr i with
  | true =>
   rw [hpr,if_pos rfl] at tk
   rw [if_pos rfl]
   exact h2 hpr _ ⟨e,n - (i + 1),by omega,hin,rfl,tk.symm,Sw.iz g hp _,ae⟩
  | false =>
   rw [hpr,if_neg (by decide),Bs] at tk
   rw [if_neg (by decide)]
   exact ⟨n - (i + 1),by omega,hin,rfl,tk.symm,g,e⟩
 ·have e2 : i = n := by omega
  subst e2
  exact .inl ⟨hst H2 g,fin p H2 hp g e⟩
end L2
namespace Sw
open PySem L2 XH
end Sw
namespace L2
open PySem PySem.Spec PyProof.Rows XH Sw So
end L2
namespace Sw
open PySem L2 XH Hm
end Sw
namespace L2
open PySem PySem.Spec PyProof.Rows XH Sw Hm
end L2
namespace Sw
open PySem L2 XH Hm
theorem n2 {p A B : Prop} [Decidable p] (h1 : ¬ p -> A) (h2 : p -> B) : if (!decide p) = true then A else B := by
 by_cases h : p
 ·rw [if_neg (by simp [h])]; exact h2 h
 ·rw [if_pos (by simp [h])]; exact h1 h
end Sw
namespace L2
open PySem PySem.Spec PyProof.Rows XH Sw Hm
end L2
namespace Sw
open PySem L2 XH Hm
end Sw
namespace L2
open PySem PySem.Spec PyProof.Rows XH Sw Hm
section
variable {X : Cx} {pins : List (Addr × Obj)} {σ : St} {H : Hp} {s : Shared}
end
end L2
namespace Sw
open PySem L2 XH Hm
end Sw
namespace L2
open PySem PySem.Spec PyProof.Rows XH Sw Hm
end L2
namespace Sw
open PySem L2 XH Hm
end Sw
namespace Wo
open PySem Hm So
end Wo
namespace L2
open PySem PySem.Spec PyProof.Rows XH Hm Wo
end L2
namespace Sw
open PySem L2 XH Hm Wo So PyProof.Rows
theorem BD.mono {H H1 : Hp} {d : Addr} {n m : Nat} {dk : List (Key × V)} {g : Str -> Str -> Option Addr} (h : BD H H1 d n dk g) (l : n <= m) : BD H H1 d m dk g := ⟨h.at_,Ae h.few l,h.inj,fun x => by
 rcases h.ex x with z | ⟨a,row,q1,q2,q3,q4,q5,q6,q7⟩
 ·exact .inl z
 ·exact .inr ⟨a,row,q1,q2,q3,q4,q5,Ae q6 l,q7⟩⟩
theorem BD.new {H H1 : Hp} {d pn : Addr} {n : Nat} {dk : List (Key × V)} {g : Str -> Str -> Option Addr} (h : BD H H1 d n dk g) (hn : H1 pn = none) (x : Str) : aN dk (.inr x) ≠ some (.ref pn) := fun z => by
 rcases h.ex x with ⟨w,_⟩ | ⟨a,row,q1,q2,_⟩
 ·rw [w] at z; cases z
 ·rw [z] at q1; cases q1; rw [hn] at q2; cases q2
def hF (F : List Addr) : Hp := fun a => if a ∈ F then none else some (.lst [])
theorem dN {F : List Addr} {a : Addr} : hF F a = none ↔ a ∈ F := by
 unfold hF
 by_cases h : a ∈ F
 ·simp [h]
 ·simp [h]
theorem uy {F F' : List Addr} {H1 : Hp} {d : Addr} {n : Nat} {dk : List (Key × V)} {g : Str -> Str -> Option Addr} (h : BD (hF F) H1 d n dk g) (s : ∀ a ∈ F,a ∈ F') : BD (hF F') H1 d n dk g :=
 ⟨h.at_,h.few,h.inj,fun x => by
  rcases h.ex x with z | ⟨a,row,q1,q2,q3,q4⟩
  ·exact .inl z
  ·exact .inr ⟨a,row,q1,q2,dN.mpr (s a (dN.mp q3)),q4⟩⟩
theorem pj {H0 H1 : Hp} {d l : Addr} {n : Nat} {dk : List (Key × V)} {g : Str -> Str -> Option Addr} (h : BD H0 H1 d n dk g) (ld : l ≠ d) (li : ∀ y,aN dk (.inr y) ≠ some (.ref l)) (u : HO) : BD H0 (ar H1 l u) d n dk g :=
 ⟨by rw [af (fun z => ld z.symm)]; exact h.at_,h.few,h.inj,fun x => by
  rcases h.ex x with z | ⟨a,row,q1,q2,q3⟩
  ·exact .inl z
  ·exact .inr ⟨a,row,q1,by rw [af (fun z => li x (by rw [<- z]; exact q1))]; exact q2,q3⟩⟩
theorem uz {H0 H1 H2 : Hp} {d : Addr} {n : Nat} {dk : List (Key × V)} {g : Str -> Str -> Option Addr} {F0 : List Addr} (h : BD H0 H1 d n dk g) (k : KF F0 H1 H2) (hd : d ∉ F0) (hi : ∀ y a,aN dk (.inr y) = some (.ref a) -> a ∉ F0) : BD H0 H2 d n dk g :=
 ⟨k _ _ hd h.at_,h.few,h.inj,fun x => by
  rcases h.ex x with z | ⟨a,row,q1,q2,q3⟩
  ·exact .inl z
  ·exact .inr ⟨a,row,q1,k _ _ (hi x a q1) q2,q3⟩⟩
def yw : List Str := ["part","stand","bar","allow","known","held","barred","stand_in","learn"]
structure LB (C : Addr) (F : List Addr) (H : Hp) (x : Addr) (rows : List (Str × List Str)) (m : Nat) (g : Str -> Str -> Option Addr) (bs ns : List Str) : Prop where
 ex : ∃ (F0 : List Addr) (dx s b : Addr) (fs : List (Str × V)) (dk : List (Key × V)),LA C F0 H x rows ns /\ H x = some (.ins C dx fs) /\ fs.lookup ("stands" : Str) = some (.ref s) /\ fs.lookup ("bars" : Str) = some (.ref b) /\ BD (hF F) H s m dk g /\ H b = some (.dK (bj bs (.bl true))) /\
  s ≠ b /\ s ∉ F0 /\ b ∉ F0 /\ (∀ y a,aN dk (.inr y) = some (.ref a) -> a ∉ F0 /\ a ≠ b) /\ (∀ a ∈ F0,a ∈ F) /\ s ∈ F /\ b ∈ F /\ (∀ a ∈ F,∃ kv,H a = some (.dK kv)) /\ ∀ m ∈ yw,fs.lookup m = none
section
variable {C : Addr} {F : List Addr} {H H' : Hp} {x : Addr} {rows : List (Str × List Str)} {m : Nat} {g : Str -> Str -> Option Addr} {bs ns : List Str}
theorem LB.same (h : LB C F H x rows m g bs ns) (e : au H H') : LB C F H' x rows m g bs ns := by
 obtain ⟨F0,dx,s,b,fs,dk,la,ex,es,eb,bd,hb,q1,q2,q3,q4,q5,q6,q7,q8,q9⟩ := h.ex
 exact ⟨F0,dx,s,b,fs,dk,la.same e,e _ _ ex,es,eb,bd.same e,e _ _ hb,q1,q2,q3,q4,q5,q6,q7,fun a ha => by obtain ⟨kv,z⟩ := q8 a ha; exact ⟨kv,e _ _ z⟩,q9⟩
theorem LB.not (h : LB C F H x rows m g bs ns) {a : Addr} {o : HO} (e : H a = some o) (k : ∀ kv,o ≠ .dK kv) : a ∉ F := fun z => by
 obtain ⟨F0,dx,s,b,fs,dk,la,ex,es,eb,bd,hb,q1,q2,q3,q4,q5,q6,q7,q8,q9⟩ := h.ex
 obtain ⟨kv,e'⟩ := q8 a z
 rw [e] at e'
 exact k kv (Ao e')
theorem LB.free (h : LB C F H x rows m g bs ns) {a : Addr} (e : H a = none) : a ∉ F := fun z => by
 obtain ⟨F0,dx,s,b,fs,dk,la,ex,es,eb,bd,hb,q1,q2,q3,q4,q5,q6,q7,q8,q9⟩ := h.ex
 obtain ⟨kv,e'⟩ := q8 a z
 rw [e] at e'
 cases e'
theorem LB.la (h : LB C F H x rows m g bs ns) : ∃ F0,LA C F0 H x rows ns /\ (∀ a ∈ F0,a ∈ F) /\ ∀ H' rows' ms,LA C F0 H' x rows' ms -> KF F0 H H' -> LB C F H' x rows' m g bs ms := by
 obtain ⟨F0,dx,s,b,fs,dk,la,ex,es,eb,bd,hb,q1,q2,q3,q4,q5,q6,q7,q8,q9⟩ := h.ex
 refine ⟨F0,la,q5,fun H' rows' ms la' k => ?_⟩
 have xn : x ∉ F0 := la.not ex (fun _ z => nomatch z)
 refine ⟨F0,dx,s,b,fs,dk,la',k _ _ xn ex,es,eb,uz bd k q2 fun y a e => (q4 y a e).1,k _ _ q3 hb,q1,q2,q3,q4,q5,q6,q7,fun a ha => ?_,q9⟩
 by_cases c : a ∈ F0
 ·exact la'.dict c
 ·obtain ⟨kv,e⟩ := q8 a ha
  exact ⟨kv,k _ _ c e⟩
theorem LB.at_ (h : LB C F H x rows m g bs ns) : ∃ (dx s b : Addr) (fs : List (Str × V)) (dk : List (Key × V)),H x = some (.ins C dx fs) /\ fs.lookup ("stands" : Str) = some (.ref s) /\ fs.lookup ("bars" : Str) = some (.ref b) /\ BD (hF F) H s m dk g /\ H b = some (.dK (bj bs (.bl true))) /\ (∀ m ∈ yw,fs.lookup m = none) /\ s ∈ F /\ b ∈ F /\
  (∀ ms,LB C F (ar H b (.dK (bj ms (.bl true)))) x rows m g ms ns /\ KF F H (ar H b (.dK (bj ms (.bl true))))) := by
 obtain ⟨F0,dx,s,b,fs,dk,la,ex,es,eb,bd,hb,q1,q2,q3,q4,q5,q6,q7,q8,q9⟩ := h.ex
 refine ⟨dx,s,b,fs,dk,ex,es,eb,bd,hb,q9,q6,q7,fun ms => ⟨⟨F0,dx,s,b,fs,dk,?_,?_,es,eb,pj bd (fun z => q1 z.symm) (fun y e => (q4 y b e).2 rfl) _,ae,q1,q2,q3,q4,q5,q6,q7,fun a ha => ?_,q9⟩,KF.put _ q7⟩⟩
 ·obtain ⟨dx',p,n,fs',rs,a,b',c,d,e,f,i,j,k⟩ := la.ex
  subst i
  have bp : p ≠ b := fun z => q3 (by simp [z])
  have bn : n ≠ b := fun z => q3 (by simp [z])
  have br : b ∉ rs := fun z => q3 (by simp [z])
  have xb : x ≠ b := fun z => by rw [z,hb] at a; cases a
  exact ⟨dx',p,n,fs',rs,by rw [af xb]; exact a,b',c,d.other br,by rw [af bp]; exact e,by rw [af bn]; exact f,rfl,j,k⟩
 ·rw [af (fun z => by rw [z,hb] at ex; cases ex)]
  exact ex
 ·by_cases c : a = b
  ·exact ⟨_,by rw [c]; exact ae⟩
  ·obtain ⟨kv,e⟩ := q8 a ha
   exact ⟨kv,by rw [af c]; exact e⟩
theorem LB.stands (h : LB C F H x rows m g bs ns) {s r : Addr} {dx : Addr} {fs : List (Str × V)} {u : HO} {m' : Nat} {dk' : List (Key × V)} {g' : Str -> Str -> Option Addr} {F' : List Addr} (ex : H x = some (.ins C dx fs)) (es : fs.lookup ("stands" : Str) = some (.ref s)) (kF : ∀ a ∈ F,a ∈ F') (K2 : ∀ a o,a ∉ F' -> H a = some o -> H' a = some o)
  (keep : ∀ a o,H a = some o -> a ≠ s -> (∀ dk,H s = some (.dK dk) -> ∀ y,aN dk (.inr y) ≠ some (.ref a)) -> H' a = some o) (bd : BD (hF F') H' s m' dk' g') (inn : ∀ dk,H s = some (.dK dk) -> ∀ y a,aN dk' (.inr y) = some (.ref a) -> aN dk (.inr y) = some (.ref a) ∨ H a = none) (dd : ∀ a ∈ F',∃ kv,H' a = some (.dK kv)) : LB C F' H' x rows m' g' bs ns := by
 obtain ⟨F0,dx',s',b,fs',dk,la,ex',es',eb,bd0,hb,q1,q2,q3,q4,q5,q6,q7,q8,q9⟩ := h.ex
 rw [ex'] at ex
 cases ex
 rw [es'] at es
 cases es
 have out : ∀ a,a ∈ F0 -> a ≠ s /\ (∀ dk,H s = some (.dK dk) -> ∀ y,aN dk (.inr y) ≠ some (.ref a)) := fun a ha => ⟨fun z => q2 (by rw [<- z]; exact ha),fun dk2 e y z => by
  rw [bd0.at_] at e
  cases e
  exact (q4 y a z).1 ha⟩
 have bo : b ≠ s /\ (∀ dk,H s = some (.dK dk) -> ∀ y,aN dk (.inr y) ≠ some (.ref b)) := ⟨fun z => q1 z.symm,fun dk2 e y z => by
  rw [bd0.at_] at e
  cases e
  exact (q4 y b z).2 rfl⟩
 have kp : ∀ a ∈ F0,∀ o,H a = some o -> H' a = some o := fun a ha o e => keep a o e (out a ha).1 (out a ha).2
 have xk : H' x = some (.ins C dx fs) := keep x _ ex' (fun z => by rw [z,bd0.at_] at ex'; cases ex') fun dk2 e y z => by
  rw [bd0.at_] at e
  cases e
  rcases bd0.ex y with ⟨z1,_⟩ | ⟨a,row,z1,z2,_⟩
  ·rw [z] at z1; cases z1
  ·rw [z] at z1
   cases z1
   rw [ex'] at z2
   cases z2
 refine ⟨F0,dx,s,b,fs,dk',?_,xk,es',eb,bd,keep b _ hb bo.1 bo.2,q1,q2,q3,fun y a e => ?_,fun a ha => kF a (q5 a ha),kF s q6,kF b q7,dd,q9⟩
 ·obtain ⟨dx',p,n,fs',rs,a,b',c,d,e,f,i,j,k⟩ := la.ex
  subst i
  rw [ex'] at a
  cases a
  refine ⟨dx,p,n,fs,rs,xk,b',c,?_,kp p (by simp) _ e,kp n (by simp) _ f,rfl,j,k⟩
  clear f e c b' k
  have : ∀ {rows : List (Str × List Str)} {rs : List Addr},a7 H rows rs -> (∀ a ∈ rs,∀ o,H a = some o -> H' a = some o) -> a7 H' rows rs := fun {rows} => by
   induction rows with
   | nil => intro rs d _; cases rs with | nil => exact d | cons _ _ => exact d.elim
   | cons r1 rows ih =>
    intro rs d kk
    cases rs with
    | nil => exact d.elim
    | cons a rs => exact ⟨kk a (by simp) _ d.1,ih d.2 fun b hb => kk b (by simp [hb])⟩
  exact this d fun a ha => kp a (by simp [ha])
 ·rcases inn dk bd0.at_ y a e with z | z
  ·exact q4 y a z
  ·refine ⟨fun w => ?_,fun w => ?_⟩
   ·obtain ⟨kv,e'⟩ := la.dict w
    rw [z] at e'
    cases e'
   ·rw [w,hb] at z
    cases z
end
end Sw
namespace L2
open PySem PySem.Spec PyProof.Rows XH
section
variable {prog : Program} {w : World} {A : Around} {E : Value -> Shared -> Prop} {s : Shared}
end
section
variable {prog : Program} {w : World} {A : Around} {R : Result -> Shared -> Prop} {I : Addr} {fp wr : List Addr} {G : Array GenState -> Array GenState -> Prop} {n : Nat} {P : Nat -> Value -> Prop} {St : Nat -> Shared -> Prop}
end
section
variable {prog : Program} {w : World} {A : Around} {E : Value -> Shared -> Prop} {s : Shared}
end
open Sw So
section
variable {prog : Program} {w : World} {A : Around} {E : Value -> Shared -> Prop} {s : Shared}
end
section
variable {prog : Program} {w : World} {A : Around} {E : Value -> Shared -> Prop} {s : Shared}
end
section
variable {X : Cx} {e : Expr} {te : TE} {p1 p2 pos pos2 : Pos}
end
end L2
namespace Sw
open PySem L2 XH Hm
end Sw
namespace L2
open PySem PySem.Spec PyProof.Rows XH Sw Hm
section
variable {K : A0} {β : Type} {a : Addr} {xs : List V} {n : Nat} {js : List Nat} {tc : TT} {te : TE} {σ : L2.St} {H1 : Hp} {Q : VK}
end
end L2
namespace Sw
open PySem L2 XH Hm
section
variable (C : Addr)
end
end Sw
namespace L2
open PySem PySem.Spec PyProof.Rows XH Sw
end L2
namespace Sw
open PySem L2 XH Hm
end Sw
namespace L2
open PySem PySem.Spec PyProof.Rows XH Sw
end L2
namespace Sw
open PySem L2 XH Hm PySem.NumText
end Sw
namespace L2
open PySem PySem.Spec PyProof.Rows XH Sw
theorem pq : ∀ {xs : List V} {us : List Value},xs.length = us.length -> (∀ (j : Nat) (x : V) (u : Value),xs[j]? = some x -> us[j]? = some u -> RelV x u) -> aM xs us
 | [],[],_,_ => .nil
 | x :: xs,u :: us,h,f => .cons (f 0 x u rfl rfl) (pq (by simpa using h) fun j y w e1 e2 => f (j + 1) y w (by simpa using e1) (by simpa using e2))
 | [],_ :: _,h,_ => by simp at h
 | _ :: _,[],h,_ => by simp at h
theorem n8 {X : Cx} (hc : X.calm = true) : cn X (.type "list") (fun xs H Q => ∃ (d : Addr) (kvs : List (Key × V)),xs = [.ref d] /\ H d = some (.dK kvs) /\ ∀ l,H l = none -> Q (.ref l) (ar H l (.lst (kvs.map fun p => kV p.1)))) := by
 intro pins s σ H xs us Q I r h
 obtain ⟨d,kvs,rfl,hk,q⟩ := h
 obtain ⟨u,rfl,ru⟩ := vals1 r
 cases ru
 obtain ⟨z,hS,ws,rel,D⟩ := ie I.hok hk
 obtain ⟨ep,hat⟩ := D.dictAt
 refine PySem.W.kdl_call (PySem.W.kdl_dict (knd := aA X.prog X.w) (kvs := ws) (ep := ep) hS) (I.ok.hd hc) hat (by rw [<- rel.length]; exact z) fun h' tk acc' c' kp hS' hacc => ?_
 have hv : aM (kvs.map fun p => kV p.1) acc'.toList := pq (by
   have el : acc'.toList.length = acc'.size := by simp
   rw [A8,el,hacc.1,rel.length]) fun j x u e1 e2 => by
  rw [Ac] at e1
  obtain ⟨⟨k,v⟩,e3,rfl⟩ := BG.mp e1
  obtain ⟨k',x',e4,e5⟩ := hacc.2 j u (by rw [<- AT]; exact e2)
  obtain ⟨u',e6,_⟩ := si rel j e3
  rw [e6] at e4
  cases e4
  exact oZ e5
 exact ⟨.ref s.heap.objs.size,_,I.laid (t' := tk) kp (A5 _) (show aX X.prog X.w _ h' _ (.lst _) from ⟨by rw [A8]; exact z,acc'.toList,c',hv,by simpa using hS'⟩),rfl,q _ (I.hok.fresh (A5 _))⟩
end L2
namespace Sw
open PySem L2 XH PyProof.Rows Wo Hm
theorem iS {p st b n : V} : (fO p st b n).lookup ("stands" : Str) = some st /\ (fO p st b n).lookup ("bars" : Str) = some b /\ ∀ m ∈ yw,(fO p st b n).lookup m = none := by
 refine ⟨?_,?_,fun m hm => ?_⟩
 ·unfold fO
  rw [aH,if_neg (by decide),aH,if_neg (by decide),aH,if_pos rfl]
 ·unfold fO
  rw [aH,if_neg (by decide),aH,if_pos rfl]
 ·unfold yw at hm
  simp only [A3,AQ,or_false] at hm
  unfold fO
  rcases hm with rfl | rfl | rfl | rfl | rfl | rfl | rfl | rfl | rfl <;> (rw [aH,if_neg (by decide),aH,if_neg (by decide),aH,if_neg (by decide),aH,if_neg (by decide)]; rfl)
theorem wg {H0 H1 : Hp} {d : Addr} (e : H1 d = some (.dK [])) : BD H0 H1 d 0 [] (fun _ _ => none) := ⟨e,A5 _,fun x x' a h => (by cases h),fun x => .inl ⟨rfl,fun _ => rfl⟩⟩
def gL (bs : List Str) (z : Str) : List Str := bs.filter fun y => decide (y ≠ z)
theorem qG (bs : List Str) (v : V) (z : Str) : hZ (bj bs v) (.inr z) = bj (gL bs z) v := by
 unfold hZ bj gL
 rw [List.filter_map]
 congr 1
 apply List.filter_congr
 intro y _
 by_cases c : y = z
 ·simp [c]
 ·have : ¬ ((.inr y : Key) = .inr z) := fun e => c (by injection e)
  simp [c]
theorem qH {bs : List Str} {z : Str} (h : z ∉ bs) : gL bs z = bs := by
 unfold gL
 rw [List.filter_eq_self]
 intro y hy
 exact decide_eq_true fun e => h (by rw [<- e]; exact hy)
def qI (H : Hp) (r : V) (p q : Int) : Prop := (r = .non /\ p = 1 /\ q = 1) ∨ ∃ t,r = .ref t /\ H t = some (.tup [.int p,.int q]) /\ 0 < p /\ y9 p q /\ Bd 200 p /\ Bd 200 q
def fR (K : A0) (H : Hp) (r : V) : Prop := r ≠ .non /\ (qg K H r false ∨ ∃ (t : Addr) (p q : Int),r = .ref t /\ H t = some (.tup [.int p,.int q]) /\ qg K H r true /\ p <= 0)
theorem fR.same {K : A0} {H H' : Hp} {r : V} (h : fR K H r) (g : au H H') : fR K H' r := by
 obtain ⟨n,h | ⟨t,p,q,e,et,f,z⟩⟩ := h
 ·exact ⟨n,.inl (h.same g)⟩
 ·exact ⟨n,.inr ⟨t,p,q,e,g _ _ et,f.same g,z⟩⟩
def mK (g : Str -> Str -> Option Addr) (zg zo : Str) (t : Addr) : Str -> Str -> Option Addr := fun a b => if a = zg /\ b = zo then some t else g a b
section
variable (K : A0) (C cN cS cI : Addr)
def gn : Sp := fun vs H Q _ => ∃ (x dx : Addr),vs = [.ref x] /\ H x = some (.ins C dx []) /\ ∀ H' F,(∀ a o,a ≠ x -> H a = some o -> H' a = some o) -> (∀ a ∈ F,H a = none) -> LB C F H' x [] 0 (fun _ _ => none) [] [] -> Q .non H'
def iT : Sp := fun vs H Q E => ∃ (x : Addr) (v : V) (F : List Addr) (rows : List (Str × List Str)) (m : Nat) (g : Str -> Str -> Option Addr) (bs ns : List Str),vs = [.ref x,v] /\ LB C F H x rows m g bs ns /\ (iB v ∨ dg K H v) /\
 (¬ iB v -> ∀ H',au H H' -> E (.ref cN) none H') /\
 ∀ z,v = .str z -> Nm z -> ∀ H',KF F H H' -> LB C F H' x rows m g (gL bs z) ns -> Q .non H'
end
end Sw
namespace L2
open PySem PySem.Spec PyProof.Rows XH Sw So
section
variable {prog : Program} {w : World} {A : Around} {E : Value -> Shared -> Prop} {s : Shared}
end
end L2
namespace Sw
open PySem L2 XH PyProof.Rows
theorem kC {i : Int} (h0 : 0 <= i) (h : i < 26) : k9 iG.cps.toList i = some (97 + i.toNat) := by
 have key : ∀ n : Nat,n < 26 -> iG.cps.toList[n]? = some (97 + n) := by decide
 have := key i.toNat (by omega)
 have e := eE this
 rwa [Int.toNat_of_nonneg h0] at e
theorem kD (x y : Str) : (x ++ y).cps.toList = x.cps.toList ++ y.cps.toList := by
 show (x.cps ++ y.cps).toList = _
 simp
section
variable (K : A0) (cP : Addr)
end
open Wo Hm
end Sw
namespace L2
open PySem PySem.Spec PyProof.Rows XH Sw
section
variable {X : Cx} {k j : Nat} {f C : Addr} {ps : List Str} {sp : Sp} {dvs : List V} {x m : Str} {p pos apos : Pos} {e o : Expr} {es : List Expr} {ta tb : TE} {t : TA} {E : L2.St -> XK}
theorem sP {pl : Sem Bool} {K : A0} (hK : X.K = K) (D : dv X.prog X.w X.K X.mg X.base (b9 X.prog X.w) k f ps dvs sp) (hr : bx j X.A) (hk : k <= j) (he : PE (X.wish (XS X E)) o ta) (ha : PA (X.wish (XS X E)) (e :: es) t)
  (hst : starEach (e :: es) X.env = (false,eval e X.env) :: starEach es X.env := by rfl) (hpl : (backTo pos (starEach es X.env)).any (·.1) = false := by rfl)
  (ht : eval (.Call (.Attribute o m apos) (e :: es) [] pos) X.env = (do
   let ov <- eval o X.env
   standAt apos.atName
   let (f,first) <- holding [ov] (getMethod ov m pl)
   callWith pos f first (backTo pos (starEach (e :: es) X.env)) (backToKw pos (keywordEach [] X.env))) := by rfl) :
  PE (X.wish (XS X E)) (.Call (.Attribute o m apos) (e :: es) [] pos) (j0 K m f sp dvs E ta t) := by
 subst hK
 exact ub (X := X.wish (XS X E)) D hr hk bZ he ha hst hpl ht
end
end L2
namespace Sw
open PySem L2 XH PyProof.Rows Wo Hm
theorem xm {K : A0} {H : Hp} {x : V} {b : Bool} {i : Int} (h : Wh K H x b) (e : x = .int i) : b = true := by
 cases h with
 | mk ty h1 h2 =>
  subst e
  cases ty
  have k1 : Ah K (.type "int") (.type "int") = some true := by kernel_rfl
  have k2 : Ah K (.type "int") (.type "bool") = some false := by kernel_rfl
  rw [k1] at h1
  rw [k2] at h2
  cases h1
  cases h2
  rfl
theorem xq {K : A0} {H : Hp} {t : Addr} {v : V} {b : Bool} {p q : Int} (h : qg K H v b) (ev : v = .ref t) (e : H t = some (.tup [.int p,.int q])) (lo : y9 p q) : b = true := by
 cases h with
 | no ty h =>
  subst ev
  cases ty with
  | tup e' =>
   have k1 : Ah K (.type "tuple") (.type "tuple") = some true := by kernel_rfl
   rw [k1] at h
   cases h
  | lst e' => rw [e] at e'; cases e'
  | frz e' => rw [e] at e'; cases e'
  | dK e' => rw [e] at e'; cases e'
  | dT e' => rw [e] at e'; cases e'
  | ins e' => rw [e] at e'; cases e'
 | len e' h =>
  cases ev
  rw [e] at e'
  cases e'
  exact absurd rfl h
 | top e' h =>
  cases ev
  rw [e] at e'
  cases e'
  have := xm h rfl
  cases this
 | bot e' h h' =>
  cases ev
  rw [e] at e'
  cases e'
  have := xm h' rfl
  cases this
 | two e' =>
  cases ev
  rw [e] at e'
  cases e'
  rw [decide_eq_true (show 1 <= q from lo.pos),decide_eq_true lo.low]
  rfl
theorem n9 {K : A0} {H : Hp} {v : V} {p q : Int} (ok : qI H v p q) (bad : fR K H v) : False := by
 rcases ok with ⟨e,_⟩ | ⟨t,rfl,et,p0,lo,_⟩
 ·exact bad.1 e
 ·rcases bad.2 with h | ⟨t',p',q',e',et',_,z⟩
  ·have := xq h rfl et lo
   cases this
  ·cases e'
   rw [et] at et'
   cases et'
   omega
section
variable {K : A0} {C : Addr} {H H' : Hp} {x d : Addr} {nm : List Str} {n : Nat} {ex : List Str} {F : List Addr} {m : Nat} {g : Str -> Str -> Option Addr} {bs ns : List Str} {es : List (Str × Str × Addr)} {vw : Str -> Str -> Int × Int}
end
end Sw
namespace L2
open PySem PySem.Spec PyProof.Rows XH Sw
section
variable {prog : Program} {w : World} {A : Around} {E : Value -> Shared -> Prop} {s : Shared}
end
section
variable {X : Cx} {tg : Expr} {hd : Option Value}
end
section
variable {X : Cx} {k j : Nat} {f C : Addr} {ps : List Str} {sp : Sp} {m : Str} {p pos apos : Pos} {e o : Expr} {es : List Expr} {ta : TE} {t : TA} {hd : Option Value}
end
section
variable {X : Cx} {x n : Str} {np pos : Pos} {b0 : Stmt} {suite : List Stmt} {rest : List ExceptHandler} {C' : Addr} {tA : Addr -> TS} {th : TH}
end
open So
def qJ (K : A0) (te : TE) : TE := fun σ H Q => te σ H fun x H1 => ∃ (a : Addr) (xs : List Str),x = .ref a /\ bu K H1 a (xs.map V.str) /\ xs.length < 4000 /\ (∀ ks : List Str,ks.Nodup -> (∀ z,z ∈ ks ↔ z ∈ xs) -> ks.length < 64) /\
 ∀ p ys,H1 p = none -> ys.Nodup -> (∀ z,z ∈ ys ↔ z ∈ xs) -> sortedS ys = true -> Q (.ref p) (ar H1 p (.lst (ys.map V.str)))
section
variable {X : Cx} {e : Expr} {te : TE} {p1 p2 pos pos2 : Pos}
theorem mL (hc : X.calm = true) (g1 : Gl X "sorted") (m1 : X.mg "sorted" = none) (g2 : Gl X "set") (m2 : X.mg "set" = none) (b1 : bootBuiltins "sorted" = some (.builtin "sorted")) (b2 : bootBuiltins "set" = some (.type "set")) (he : PE X e te)
  (hs : starEach [e] X.env = [(false,eval e X.env)] := by rfl) :
  PE X (.Call (.Name "sorted" p1) [.Call (.Name "set" p2) [e] [] pos2] [] pos) (qJ X.K te) := by
 intro pins s σ H Q I h
 apply wpAny_Call_Name_kw
 refine dy I g1 m1 b1 ?_ (by decide) (by decide)
 refine Calls.callWith_builtin rfl (Calls.evalArgs_plain ?_)
 refine Calls.spliced_cons (x := eval (.Call (.Name "set" p2) [e] [] pos2) X.env) (rest := []) ?_
 apply wpAny_Call_Name_kw
 refine dy I g2 m2 b2 ?_ (by decide) (by decide)
 refine B1 ?_ hs rfl
 rw [hs]
 refine Calls.spliced_cons (x := eval e X.env) (rest := []) (aZ (he pins s σ H _ I h) fun v s1 ⟨x,H1,I1,r1,a,xs,ex,hq,few,fw,q⟩ => ?_)
 subst ex
 cases r1
 apply Calls.spliced_nil
 obtain ⟨its,rv,pl,hz⟩ := I1.list hq
 have sz : its.toArray.size = xs.length := by rw [AV,<- rv.length,A8]
 have hli : s1.heap.IsList a its.toArray := pl.isList
 refine qx (xs := xs) (I.ok.hd hc) hli (fun i v hv => mH rv i v (by simpa using hv)) sz (by rw [sz]; show xs.length + 1 < 4096; omega) fun h' tk S2 kp => ?_
 apply Calls.spliced_nil
 have dl : (mE xs its.toArray.size).length <= its.toArray.size := ky xs _
 have dz : mE xs its.toArray.size = xs.foldl fc [] := by unfold mE; rw [sz,List.take_length]
 have I2 := I1.kept (t' := tk) (h' := h') (fun b o e => kp b o (Heap.lt_size e) e)
 refine Calls.call_function_entry kind_sorted plain_sorted entry_sorted (args_sorted1 _) ?_
 unfold Builtin.«sorted»
 refine wpAny_bind (m := checkCount "sorted" 1 1 _) (wpAny_pure ?_)
 refine wpAny_bind (nX (A := X.A.in1) (s := { s1 with heap := h',toks := tk }) (I.ok.hd hc) S2 fun h2 tk2 d acc ks hlt hkp hp SA => ?_)
 have nd : ks.Nodup := hp.nodup_iff.mpr (dz ▸ dq xs [] (by simp))
 have mm : ∀ z,z ∈ ks ↔ z ∈ xs := fun z => by rw [hp.mem_iff,dz,ee]; simp
 have la : acc.length = ks.length := SA.length
 have lz : acc.length <= sizeLine := by
  rw [la,hp.length_eq]
  refine Ae dl ?_
  rw [sz]
  have := fits_of_scanBound (n := xs.length) (by show xs.length < 4096; omega)
  exact this
 refine wpAny_bind (wpAny_newList ?_ lz)
 have hoL : (h2.push (seqObj "list" acc.toArray 0)).get? h2.objs.size = some (seqObj "list" acc.toArray 0) := Heap.get?_push_size _ rfl
 refine wpAny_bind (wpAny_holding (wpAny_call_entry slot_list_sort ⟨_,hoL,rfl⟩ entry_list_sort (list_sort_treeK strKind_oneLt hoL SA.keysOf (fun v₁ v₂ rest e => keyKind_strs (by rw [<- e]; exact SA)) (by rw [la]; exact fw ks nd mm) fun st' hp' hs' => ⟨_,rfl,?_⟩) (args_list_sort _)))
 obtain ⟨ys,o1,o2,o3⟩ := sorted_out_str SA hp' hs'
 have I3 : aq X pins σ H1 { s1 with heap := h',drawn := d,toks := tk } := I2.drew (d := d)
 have sl : h'.objs.size <= h2.objs.size := Nat.le_of_lt hlt
 refine wpAny_pure ⟨_,rfl,.ref h2.objs.size,_,I3.laid (a := h2.objs.size) (o := .lst (ys.map V.str)) (h' := sortedHeap (h2.push (seqObj "list" acc.toArray 0)) h2.objs.size acc ((arrOf st').map (·.2))) (t' := tk2) (fun b o eo => ?_) sl ?_,rfl,q _ ys (I3.hok.fresh sl) (o2.nodup_iff.mpr nd) (fun z => (o2.mem_iff).trans (mm z)) o3⟩
 ·have eo' := hkp b o eo
  have bl := Heap.lt_size eo'
  rw [sortedHeap_old (AE bl) (by rw [size_push']; exact B3 bl)]
  exact Heap.get?_push_of_some _ eo'
 ·obtain ⟨e,he⟩ := sortedHeap_at (out := (arrOf st').map (·.2)) hoL
  refine ⟨by rw [A8,o2.length_eq,<- la]; exact lz,((arrOf st').map (·.2)).toList,e,dJ o1,?_⟩
  rw [Array.toArray_toList]
  exact he
end
end L2
namespace Sw
open PySem L2 XH PyProof.Rows Wo Hm
section
variable (K : A0) (C : Addr)
def iU : Sp := fun vs H Q _ => ∃ (x : Addr) (z : Str) (F : List Addr) (rows : List (Str × List Str)) (m : Nat) (g : Str -> Str -> Option Addr) (bs ns : List Str),vs = [.ref x,.str z] /\ LB C F H x rows m g bs ns /\ Nm z /\ ∀ H',KF F H H' -> LB C F H' x rows m g (gL bs z) ns -> Q .non H'
variable {K C} {cN cI : Addr}
theorem qK (vs : List V) (H : Hp) (Q : VK) (E : XK) (h : iU C vs H Q E) : iT K C cN vs H Q E0 := by
 obtain ⟨x,z,F,rows,m,g,bs,ns,rfl,lb,nz,q⟩ := h
 refine ⟨x,.str z,F,rows,m,g,bs,ns,rfl,lb,.inl ⟨z,rfl,nz⟩,fun n => absurd ⟨z,rfl,nz⟩ n,fun y e _ => ?_⟩
 cases e
 exact q
end
end Sw
namespace L2
open PySem PySem.Spec PyProof.Rows XH Sw Hm
end L2
namespace Sw
open PySem L2 XH PyProof.Rows Wo Hm
theorem jF {ys : List Str} {z : Str} (nd : ys.Nodup) (h : ∀ y,y ∈ ys ↔ y = z) : ys = [z] := by
 have p : ys.Perm [z] := (List.perm_ext_iff_of_nodup nd (by simp)).mpr fun y => by rw [h y,A2]
 exact List.perm_singleton.mp p
theorem eJ (zs : List Str) : ∀ v ∈ zs.map V.str,w8 v := fun v hv => by
 obtain ⟨y,_,rfl⟩ := AZ.mp hv
 trivial
end Sw
namespace Mn
open PySem
section
variable {prog : Program} {w : World} {A : Around} {R : Result -> Shared -> Prop} {it : Addr} {fp wr : List Addr} {n : Nat} {P : Nat -> Value -> Prop} {St : Nat -> Heap -> Prop}
end
end Mn
namespace Rm
open PySem PySem.SeqAt PySem.MeetsSeq
end Rm
namespace L2
open PySem PySem.Spec PyProof.Rows XH Sw So Hm
end L2
namespace Hm
open PySem PySem.SeqAt PySem.MeetsSeq
section
variable {prog : Program} {w : World} {A : Around} {E : Value -> Shared -> Prop} {s : Shared}
end
end Hm
namespace L2
open PySem PySem.Spec PyProof.Rows XH Sw So Hm Wo
end L2
namespace Sw
open PySem L2 XH PyProof.Rows Wo Hm
theorem LB.part {C : Addr} {F : List Addr} {H : Hp} {x : Addr} {rows : List (Str × List Str)} {m : Nat} {g : Str -> Str -> Option Addr} {bs ns : List Str} (h : LB C F H x rows m g bs ns) : ∃ F0,LA C F0 H x rows ns /\ ∀ H' F0' rows' ms,KF F0 H H' -> FG F0 F0' H -> LA C F0' H' x rows' ms -> ∃ F',LB C F' H' x rows' m g bs ms /\ KF F H H' /\ FG F F' H := by
 obtain ⟨F0,dx,s,b,fs,dk,la,ex,es,eb,bd,hb,q1,q2,q3,q4,q5,q6,q7,q8,q9⟩ := h.ex
 have inn : ∀ F0' (a : Addr),a ∈ F -> a ∉ F0 -> a ∈ F.filter (fun a => decide (a ∉ F0)) ++ F0' := fun F0' a h1 h2 => Aj _ (Ap.mpr ⟨h1,decide_eq_true h2⟩)
 refine ⟨F0,la,fun H' F0' rows' ms k fg la' => ⟨F.filter (fun a => decide (a ∉ F0)) ++ F0',?_,fun a o n e => k a o (fun z => n (q5 a z)) e,fun a ha => ?_⟩⟩
 ·have xn : x ∉ F0 := la.not ex (fun _ z => nomatch z)
  have out : ∀ a o,H a = some o -> a ∉ F0 -> a ∉ F0' := fun a o e n z => by
   rcases fg a z with w | w
   ·exact n w
   ·rw [e] at w; cases w
  refine ⟨F0',dx,s,b,fs,dk,la',k _ _ xn ex,es,eb,⟨k _ _ q2 bd.at_,bd.few,bd.inj,fun y => ?_⟩,k _ _ q3 hb,q1,out _ _ bd.at_ q2,out _ _ hb q3,fun y a e => ⟨?_,(q4 y a e).2⟩,fun a ha => AD _ ha,inn _ _ q6 q2,inn _ _ q7 q3,fun a ha => ?_,q9⟩
  ·rcases bd.ex y with z | ⟨a,row,z1,z2,z3,z4⟩
   ·exact .inl z
   ·have na := (q4 y a z1).1
    exact .inr ⟨a,row,z1,k _ _ na z2,dN.mpr (inn _ _ (dN.mp z3) na),z4⟩
  ·rcases bd.ex y with ⟨z1,_⟩ | ⟨a',row,z1,z2,_⟩
   ·rw [e] at z1; cases z1
   ·rw [e] at z1
    cases z1
    exact out _ _ z2 (q4 y a e).1
  ·rcases A9.mp ha with w | w
   ·obtain ⟨w1,w2⟩ := Ap.mp w
    obtain ⟨kv,e⟩ := q8 a w1
    exact ⟨kv,k _ _ (of_decide_eq_true w2) e⟩
   ·exact la'.dict w
 ·rcases A9.mp ha with w | w
  ·exact .inl (Ap.mp w).1
  ·rcases fg a w with z | z
   ·exact .inl (q5 a z)
   ·exact .inr z
def oa (ps : List (Str × Str)) (a b : Str) : List (Str × Str) := if (a,b) ∈ ps then ps else ps ++ [(a,b)]
theorem eu {ps : List (Str × Str)} {a b : Str} {p : Str × Str} : p ∈ oa ps a b ↔ p ∈ ps ∨ p = (a,b) := by
 unfold oa
 split
 ·rename_i h
  constructor
  ·exact .inl
  ·rintro (z | rfl)
   ·exact z
   ·exact h
 ·rw [A9,A2]
theorem sQ (ps : List (Str × Str)) (a b : Str) : (oa ps a b).length <= ps.length + 1 := by
 unfold oa
 split
 ·omega
 ·rw [AA,List.length_singleton]
  omega
theorem bI.addP {rows : List (Str × List Str)} {ps : List (Str × Str)} (h : bI rows ps) (a b : Str) : bI (aO rows a b) (Sw.oa ps a b) := by
 unfold Sw.oa
 split
 ·rename_i c
  rw [fQ h.keys ((h.mem a b).mpr c)]
  exact h
 ·exact h.add (a,b)
section
variable {R : Str -> Str -> Prop} {good : Str} {cs : List (List Str)}
end
end Sw
namespace L2
open PySem PySem.Spec PyProof.Rows XH
end L2
namespace Sw
open PySem L2 XH PyProof.Rows Wo Hm
section
variable {R : Str -> Str -> Prop} {good : Str} {H H' : Hp} {row row' : List (Str × Addr)} {n B : Nat} {T T' : Str -> Str -> Prop}
end
theorem LB.farN {C : Addr} {F : List Addr} {H : Hp} {x l : Addr} {rows : List (Str × List Str)} {m : Nat} {g : Str -> Str -> Option Addr} {bs ns : List Str} {o : HO} (h : LB C F H x rows m g bs ns) (e : H l = some o) (lF : l ∉ F) (k2 : ∀ C dx fs,o ≠ .ins C dx fs) (u : HO) : LB C F (ar H l u) x rows m g bs ns := by
 obtain ⟨F0,dx,s,b,fs,dk,la,ex,es,eb,bd,hb,q1,q2,q3,q4,q5,q6,q7,q8,q9⟩ := h.ex
 have xl : x ≠ l := fun z => by
  rw [z,e] at ex
  exact k2 _ _ _ (Ao ex)
 have sl : s ≠ l := fun z => lF (by rw [<- z]; exact q6)
 have bl : b ≠ l := fun z => lF (by rw [<- z]; exact q7)
 refine ⟨F0,dx,s,b,fs,dk,?_,by rw [af xl]; exact ex,es,eb,pj bd (fun z => sl z.symm) (fun y z => ?_) _,by rw [af bl]; exact hb,q1,q2,q3,q4,q5,q6,q7,fun a ha => ?_,q9⟩
 ·obtain ⟨dx',p,n,fs',rs,a,b',c,d,e',f,i,j,k⟩ := la.ex
  subst i
  have pl : p ≠ l := fun z => lF (q5 _ (by simp [z]))
  have nl : n ≠ l := fun z => lF (q5 _ (by simp [z]))
  have rl : l ∉ rs := fun z => lF (q5 _ (by simp [z]))
  exact ⟨dx',p,n,fs',rs,by rw [af xl]; exact a,b',c,d.other rl,by rw [af pl]; exact e',by rw [af nl]; exact f,rfl,j,k⟩
 ·rcases bd.ex y with ⟨z1,_⟩ | ⟨a,row,z1,z2,z3,_⟩
  ·rw [z] at z1; cases z1
  ·rw [z] at z1
   cases z1
   exact lF (dN.mp z3)
 ·obtain ⟨kv,w⟩ := q8 a ha
  exact ⟨kv,by rw [af (fun z => lF (by rw [<- z]; exact ha))]; exact w⟩
section
variable (K : A0) (C : Addr)
variable {K C} {cN cI cS : Addr}
end
def KD (H H' : Hp) : Prop := ∀ a o,(∀ kv,o ≠ .dK kv) -> (∀ kv,o ≠ .dT kv) -> H a = some o -> H' a = some o
theorem KD.trans {H H' H'' : Hp} (h : KD H H') (k : KD H' H'') : KD H H'' := fun a o n z e => k a o n z (h a o n z e)
theorem KD.of {H H' : Hp} (h : au H H') : KD H H' := fun a o _ _ e => h a o e
theorem KD.putK {H : Hp} {d : Addr} {kv : List (Key × V)} (e : H d = some (.dK kv)) (u : HO) : KD H (ar H d u) := fun a o n _ h => by
 rw [af (fun z => by rw [z,e] at h; exact n kv (Ao h).symm)]
 exact h
theorem KD.kf {C : Addr} {F : List Addr} {H H' : Hp} {x : Addr} {rows : List (Str × List Str)} {m : Nat} {g : Str -> Str -> Option Addr} {bs ns : List Str} (lb : LB C F H x rows m g bs ns) (k : KF F H H') : KD H H' := fun a o z _ e => k a o (lb.not e z) e
section
variable {K : A0} {C : Addr} {H H' : Hp} {x dp ds db : Addr} {nm : List Str} {n : Nat} {F : List Addr} {rows : List (Str × List Str)} {m : Nat} {g : Str -> Str -> Option Addr} {bs ns : List Str} {ps : List (Str × Str)} {es : List (Str × Str × Addr)} {vw : Str -> Str -> Int × Int}
end
section
variable {K : A0} {C : Addr} {H H1 H2 : Hp} {x dp ds db : Addr} {nm : List Str} {n : Nat} {F F' : List Addr} {rows : List (Str × List Str)} {m : Nat} {g : Str -> Str -> Option Addr} {bs ns ms : List Str} {ps : List (Str × Str)} {es : List (Str × Str × Addr)} {vw : Str -> Str -> Int × Int}
theorem FG.out {a : Addr} {o : HO} (fg : FG F F' H) (e : H a = some o) (n : a ∉ F) : a ∉ F' := fun z => by
 rcases fg a z with w | w
 ·exact n w
 ·rw [e] at w; cases w
theorem uA {d a : Addr} {o o' u : HO} (e : H d = some o) (h : H a = some o') (n : o ≠ o') : ar H d u a = some o' := by
 rw [af (fun z => by rw [z,e] at h; exact n (Ao h))]
 exact h
theorem sR {bs : List Str} {z y : Str} : y ∈ gL bs z ↔ y ∈ bs /\ y ≠ z := by
 unfold gL
 rw [Ap]
 exact ⟨fun h => ⟨h.1,of_decide_eq_true h.2⟩,fun h => ⟨h.1,decide_eq_true h.2⟩⟩
theorem og {bs : List Str} {z : Str} (h : bs.Nodup) : (gL bs z).Nodup := h.filter _
theorem KD.seq {H' : Hp} {a : Addr} {xs : List V} (e : KD H H') (h : bu K H a xs) : bu K H' a xs := by
 rcases h with (h | ⟨o,h⟩) | h
 ·exact .inl (.inl (e _ _ (fun _ z => nomatch z) (fun _ z => nomatch z) h))
 ·exact .inl (.inr ⟨o,e _ _ (fun _ z => nomatch z) (fun _ z => nomatch z) h⟩)
 ·exact .inr h
theorem pw (ks : List Str) (v : V) : (bj ks v).map (·.1) = ks.map fun y => (.inr y : Key) := by
 unfold bj
 rw [BY]
 rfl
end
def sS : Sp := fun vs H Q _ => ∃ (ah : Addr) (goal good : Str) (ps : List (Str × Str)) (es : List (Str × Option Str)),vs = [.ref ah,.str goal] /\ H ah = some (.dK (aP es)) /\ cr ps good es /\ goal ∈ aE es /\
 ∀ (l : Addr) (H' : Hp) (c : List Str),au H H' -> H l = none -> H' l = some (.lst (c.map V.str)) -> Way ps good goal c -> Q (.ref l) H'
def dO : Sp := fun vs H Q _ => ∃ (d lg : Addr) (good : Str) (rows : List (Str × List Str)) (ps : List (Str × Str)) (gs : List Str),vs = [.ref d,.str good,.ref lg] /\ DD H d rows /\ bI rows ps /\ ps.length <= 1000 /\ H lg = some (.lst (gs.map V.str)) /\
 (∀ (H' : Hp),au H H' -> (∀ b ∈ gs,¬ Led ps good b) -> Q .non H') /\ ∀ (l : Addr) (H' : Hp) (c : List Str) (goal : Str),au H H' -> H l = none -> H' l = some (.lst (c.map V.str)) -> Way ps good goal c -> goal ∈ gs -> Led ps good goal -> (good ∈ gs -> goal = good) -> Q (.ref l) H'
section
variable (K : A0) (C cN cI : Addr)
def gp : Sp := fun vs H Q E => ∃ (x : Addr) (v : V) (F : List Addr) (rows : List (Str × List Str)) (m : Nat) (g : Str -> Str -> Option Addr) (bs ns : List Str) (ps : List (Str × Str)),vs = [.ref x,v] /\ LB C F H x rows m g bs ns /\ bI rows ps /\ ps.length <= 1000 /\ (iB v ∨ dg K H v) /\
 (¬ iB v -> ∀ H',au H H' -> E (.ref cN) none H') /\
 ∀ z,v = .str z -> Nm z -> (∀ (H' : Hp),au H H' -> (∀ b ∈ bs,¬ Led ps z b) -> Q .non H') /\
  ∀ (l : Addr) (H' : Hp) (c : List Str) (goal : Str),au H H' -> H l = none -> H' l = some (.lst (c.map V.str)) -> Way ps z goal c -> goal ∈ bs -> Led ps z goal -> (z ∈ bs -> goal = z) -> Q (.ref l) H'
def fh : Sp := fun vs H Q _ => ∃ (x : Addr) (z : Str) (F : List Addr) (rows : List (Str × List Str)) (m : Nat) (g : Str -> Str -> Option Addr) (bs ns : List Str) (ps : List (Str × Str)),vs = [.ref x,.str z] /\ LB C F H x rows m g bs ns /\ bI rows ps /\ ps.length <= 1000 /\ Nm z /\
 (∀ (H' : Hp),au H H' -> (∀ b ∈ bs,¬ Led ps z b) -> Q .non H') /\
  ∀ (l : Addr) (H' : Hp) (c : List Str) (goal : Str),au H H' -> H l = none -> H' l = some (.lst (c.map V.str)) -> Way ps z goal c -> goal ∈ bs -> Led ps z goal -> Q (.ref l) H'
variable {K C cN cI}
theorem oh (vs : List V) (H : Hp) (Q : VK) (E : XK) (h : fh C vs H Q E) : gp K C cN vs H Q E0 := by
 obtain ⟨x,z,F,rows,m,g,bs,ns,ps,rfl,lb,a1,a2,nz,q1,q2⟩ := h
 refine ⟨x,.str z,F,rows,m,g,bs,ns,ps,rfl,lb,a1,a2,.inl ⟨z,rfl,nz⟩,fun n => absurd ⟨z,rfl,nz⟩ n,fun y e _ => ?_⟩
 cases e
 exact ⟨q1,fun l H' c goal g n e w b d _ => q2 l H' c goal g n e w b d⟩
end
section
variable {K : A0} {C : Addr} {H H' : Hp} {x dp ds db : Addr} {nm : List Str} {n : Nat} {F : List Addr} {rows : List (Str × List Str)} {m : Nat} {g : Str -> Str -> Option Addr} {bs ns : List Str} {ps : List (Str × Str)} {es : List (Str × Str × Addr)} {vw : Str -> Str -> Int × Int}
end
section
variable {K : A0} {C : Addr} {H H1 H2 : Hp} {x dp ds db : Addr} {nm : List Str} {n : Nat} {F F' : List Addr} {rows : List (Str × List Str)} {m : Nat} {g : Str -> Str -> Option Addr} {bs ns ms : List Str} {ps : List (Str × Str)} {es : List (Str × Str × Addr)} {vw : Str -> Str -> Int × Int}
end
section
variable {K : A0} {C : Addr} {H H' : Hp} {nm : List Str} {n : Nat} {A B L : Ld} {F F' FA FA' FB : List Addr}
end
section
variable (K : A0) (C : Addr)
end
def aW (ns xs : List Str) : List Str := xs.filter fun y => !decide (y ∈ ns)
section
variable (K : A0) (C cN cS cI cT : Addr)
def eA : Sp := fun vs H Q E => ∃ (x l : Addr) (F : List Addr) (rows : List (Str × List Str)) (ns xs : List Str),vs = [.ref x,.ref l] /\ LA C F H x rows ns /\ H l = some (.lst (xs.map V.str)) /\ xs.length <= 10 /\ ns.length <= 80 /\ ns.Nodup /\
 (80 < ns.length + (aW ns xs).length -> ∀ H',au H H' -> E (.ref cT) none H') /\
 (ns.length + (aW ns xs).length <= 80 -> ∀ H' ms,KF F H H' -> LA C F H' x rows ms -> ms.Nodup -> (∀ y,y ∈ ms ↔ y ∈ ns ∨ y ∈ xs) -> Q .non H')
def oj : Sp := fun vs H Q E => ∃ (x : Addr) (z : Str) (F : List Addr) (rows : List (Str × List Str)) (m : Nat) (g : Str -> Str -> Option Addr) (bs ns : List Str),vs = [.ref x,.str z] /\ LB C F H x rows m g bs ns /\ bs.length <= 200 /\ ns.Nodup /\ ns.length <= 80 /\ Nm z /\
 (80 < ns.length + (aW ns [z]).length -> ∀ H',au H H' -> E (.ref cT) none H') /\
 (ns.length + (aW ns [z]).length <= 80 -> ∀ H' ms,KF F H H' -> LB C F H' x rows m g (bJ bs z) ms -> ms.Nodup -> (∀ y,y ∈ ms ↔ y ∈ ns ∨ y ∈ [z]) -> Q .non H')
def kE : Sp := fun vs H Q E => ∃ (x : Addr) (zg zo : Str) (F : List Addr) (rows : List (Str × List Str)) (m : Nat) (g : Str -> Str -> Option Addr) (bs ns : List Str) (ps : List (Str × Str)),vs = [.ref x,.str zg,.str zo] /\ LB C F H x rows m g bs ns /\ bI rows ps /\ ps.length <= 900 /\ ns.Nodup /\ ns.length <= 80 /\ Nm zg /\ Nm zo /\
 (Led ps zo zg -> ∀ d l H',au H H' -> H' d = some (.xd [("ring",.ref l)]) -> E (.ref cI) (some d) H') /\
 (¬ Led ps zo zg -> 80 < ns.length + (aW ns [zg,zo]).length -> ∀ H',au H H' -> E (.ref cT) none H') /\
 (¬ Led ps zo zg -> ns.length + (aW ns [zg,zo]).length <= 80 -> ∀ F' H' ms,KF F H H' -> FG F F' H -> LB C F' H' x (aO rows zg zo) m g bs ms -> ms.Nodup -> (∀ y,y ∈ ms ↔ y ∈ ns ∨ y ∈ [zg,zo]) -> Q .non H')
def iV : Sp := fun vs H Q E => ∃ (x : Addr) (zg zo : Str) (r : V) (F : List Addr) (rows : List (Str × List Str)) (m : Nat) (g : Str -> Str -> Option Addr) (bs ns : List Str),vs = [.ref x,.str zg,.str zo,r] /\ LB C F H x rows m g bs ns /\ m <= 1000 /\ ns.Nodup /\ ns.length <= 80 /\ Nm zg /\ Nm zo /\ ((∃ p q,qI H r p q) ∨ fR K H r) /\
 ((zg = zo ∨ kS g zg zo ∨ fR K H r) -> ∀ H',au H H' -> E (.ref cS) none H') /\
 (zg ≠ zo -> ¬ kS g zg zo -> (∃ p q,qI H r p q) -> 80 < ns.length + (aW ns [zg,zo]).length -> ∀ H',au H H' -> E (.ref cT) none H') /\
 (zg ≠ zo -> ¬ kS g zg zo -> ns.length + (aW ns [zg,zo]).length <= 80 -> ∀ p q,qI H r p q -> ∀ (F' : List Addr) (H' : Hp) (ms : List Str) (t : Addr),KF F H H' -> FG F F' H -> LB C F' H' x rows (m + 2) (mK g zg zo t) bs ms -> ms.Nodup -> (∀ y,y ∈ ms ↔ y ∈ ns ∨ y ∈ [zg,zo]) -> Q .non H')
def kG : Sp := fun vs H Q E => ∃ (x : Addr) (v : V) (F : List Addr) (rows : List (Str × List Str)) (m : Nat) (g : Str -> Str -> Option Addr) (bs ns : List Str) (ps : List (Str × Str)),vs = [.ref x,v] /\ LB C F H x rows m g bs ns /\ bI rows ps /\ ps.length <= 900 /\ (iB v ∨ dg K H v) /\
 (¬ iB v -> ∀ H',au H H' -> E (.ref cN) none H') /\
 ∀ z,v = .str z -> Nm z -> ∀ (l : Addr) (H' : Hp) (ys : List Str),au H H' -> H' l = some (.lst (ys.map V.str)) -> sortedS ys = true -> ys.Nodup -> (∀ y,y ∈ ys ↔ Led ps z y) -> Q (.ref l) H'
def fS : Sp := fun vs H Q _ => ∃ (x : Addr) (z : Str) (F : List Addr) (rows : List (Str × List Str)) (m : Nat) (g : Str -> Str -> Option Addr) (bs ns : List Str) (ps : List (Str × Str)),vs = [.ref x,.str z] /\ LB C F H x rows m g bs ns /\ bI rows ps /\ ps.length <= 900 /\ Nm z /\
 ∀ (l : Addr) (H' : Hp) (ys : List Str),au H H' -> H' l = some (.lst (ys.map V.str)) -> ys.Nodup -> (∀ y,y ∈ ys ↔ Led ps z y) -> Q (.ref l) H'
variable {K C cN}
theorem sT (vs : List V) (H : Hp) (Q : VK) (E : XK) (h : fS C vs H Q E) : kG K C cN vs H Q E0 := by
 obtain ⟨x,z,F,rows,m,g,bs,ns,ps,rfl,lb,a1,a2,nz,q⟩ := h
 refine ⟨x,.str z,F,rows,m,g,bs,ns,ps,rfl,lb,a1,a2,.inl ⟨z,rfl,nz⟩,fun n => absurd ⟨z,rfl,nz⟩ n,fun y e _ => ?_⟩
 cases e
 exact fun l H' ys g e _ d w => q l H' ys g e d w
end
def kH : Sp := fun vs H Q _ => ∃ a b : Int,vs = [.int a,.int b] /\ 0 <= b /\ ∀ w H',au H H' -> w.length <= 40 -> Q (.str w) H'
def om : Sp := fun vs H Q _ => ∃ w : Str,vs = [.str w] /\ w.length <= 100 /\ (∀ H',au H H' -> Nm w -> Q (.bl true) H') /\ (∀ H',au H H' -> ¬ Nm w -> Q (.bl false) H')
def eB : Sp := fun vs H Q _ => ∃ c : Int,vs = [.int c] /\ ∀ H',au H H' -> Q (.bl true) H'
def mM (t : Int) : Str := if t.fmod 3 = 0 then "" else if t.fmod 3 = 1 then "a" else "stock"
def gJ (t : Int) : Str := if (t.fdiv 3).fmod 2 = 0 then "" else "z"
def l8 (i : Int) : Nat := 97 + (i.fmod 26).toNat
def bE (t k : Int) : Str := mM t ++ ((⟨#[l8 (k.fdiv 9 * 5 + t)]⟩ : Str) ++ ⟨#[l8 (k.fmod 9 * 3 + t)]⟩) ++ gJ t
theorem pC (t : Int) : Lt (mM t) /\ (mM t).length <= 5 := by
 unfold mM
 split
 ·exact ⟨Lt.nil,by decide⟩
 ·split
  ·exact ⟨by unfold Lt; decide,by decide⟩
  ·exact ⟨by unfold Lt; decide,by decide⟩
theorem mO (t : Int) : Lt (gJ t) /\ (gJ t).length <= 1 := by
 unfold gJ
 split
 ·exact ⟨Lt.nil,by decide⟩
 ·exact ⟨by unfold Lt; decide,by decide⟩
theorem vf (i : Int) : 97 <= l8 i /\ l8 i <= 122 := by
 have h0 := AG i (show (0 : Int) < 26 by decide)
 have h1 := Aa i (show (0 : Int) < 26 by decide)
 unfold l8
 omega
theorem kI (t k : Int) : Nm (bE t k) := by
 have a := pC t
 have b := mO t
 have one : ∀ c,(⟨#[c]⟩ : Str).length = 1 := fun _ => rfl
 refine (((a.1.app ((Lt.one (vf _)).app (Lt.one (vf _)))).app b.1)).nm ?_ ?_
 ·rw [Str.length_append,Str.length_append,Str.length_append,one,one]; omega
 ·rw [Str.length_append,Str.length_append,Str.length_append,one,one]; omega
theorem kJ (t k : Int) : (bE t k).cps.toList = (mM t).cps.toList ++ (l8 (k.fdiv 9 * 5 + t) :: l8 (k.fmod 9 * 3 + t) :: (gJ t).cps.toList) := by
 unfold bE
 rw [kD,kD,kD,AI]
 rfl
theorem uB {t k k' : Int} (h0 : 0 <= k) (h1 : k < 90) (h2 : 0 <= k') (h3 : k' < 90) (e : bE t k = bE t k') : k = k' := by
 have e1 : (bE t k).cps.toList = (bE t k').cps.toList := by rw [e]
 rw [kJ,kJ] at e1
 have e2 := List.append_cancel_left e1
 injection e2 with a b
 injection b with b _
 unfold l8 at a b
 have p1 := AG (k.fdiv 9 * 5 + t) (show (0 : Int) < 26 by decide)
 have p2 := AG (k'.fdiv 9 * 5 + t) (show (0 : Int) < 26 by decide)
 have p3 := AG (k.fmod 9 * 3 + t) (show (0 : Int) < 26 by decide)
 have p4 := AG (k'.fmod 9 * 3 + t) (show (0 : Int) < 26 by decide)
 have a' : (k.fdiv 9 * 5 + t).fmod 26 = (k'.fdiv 9 * 5 + t).fmod 26 := by omega
 have b' : (k.fmod 9 * 3 + t).fmod 26 = (k'.fmod 9 * 3 + t).fmod 26 := by omega
 clear p1 p2 p3 p4 a b e1 e
 rw [Bj _ (by decide),Bj _ (by decide)] at a' b'
 rw [Int.fdiv_eq_ediv_of_nonneg _ (by decide),Int.fdiv_eq_ediv_of_nonneg _ (by decide)] at a'
 rw [Bj _ (by decide),Bj _ (by decide)] at b'
 omega
theorem wj (t k : Int) : bE t k ≠ "unheard" := fun e => by
 have e1 : (bE t k).cps.toList = ("unheard" : Str).cps.toList := by rw [e]
 rw [kJ] at e1
 unfold mM gJ at e1
 by_cases c : t.fmod 3 = 0
 ·rw [if_pos c] at e1
  have := congrArg BX e1
  by_cases d : (t.fdiv 3).fmod 2 = 0
  ·rw [if_pos d] at this
   exact absurd this (by simp; decide)
  ·rw [if_neg d] at this
   exact absurd this (by simp; decide)
 ·rw [if_neg c] at e1
  by_cases c1 : t.fmod 3 = 1
  ·rw [if_pos c1] at e1
   have := congrArg BX e1
   by_cases d : (t.fdiv 3).fmod 2 = 0
   ·rw [if_pos d] at this
    exact absurd this (by simp; decide)
   ·rw [if_neg d] at this
    exact absurd this (by simp; decide)
  ·rw [if_neg c1] at e1
   have : (115 : Nat) = 117 := by
    have h := congrArg List.head? e1
    exact Ao h
   cases this
def gS : Sp := fun vs H Q _ => ∃ k t : Int,vs = [.int k,.int t] /\ ∀ H',au H H' -> Q (.str (bE t k)) H'
def eK (c1 : Addr) : Sp := fun vs H Q _ => ∃ a : Addr,vs = [.ref a] /\ z8 H a c1 none /\ ∀ H',au H H' -> Q (.bl true) H'
theorem uC {X : Cx} {z : Str} {b : Bool} {j1 j2} {p1 p2 p : Pos} {es : List Expr} {t : TA} (h : kQ X es t) : kQ X (.Dict [some (.Constant (.str z) j1 p1)] [.Constant (.bool b) j2 p2] p :: es) (b3 (rE [(tC (.str z),tC (.bl b))]) t) := ⟨aa (oJ (lA aS bL oH) rfl rfl (by simp) (by show 1 <= 15; decide)) h.h⟩
def yx : TA := (b3 (tC .non) (b3 (tC (.bl true)) (b3 (tC (.int 0)) (b3 (tC (.int 7)) (b3 (m3 (b3 (tC (.str "a")) iY)) (b3 (tq (b3 (tC (.str "a")) iY)) (b3 (rE [(tC (.str "a"),tC (.bl true))]) (b3 (m3 iY) (b3 (tq iY) iY)))))))))
theorem xt {X : Cx} {j1 j2 j3 j4 j5 j6 j7 j8 x1 x2} {p1 p2 p3 p4 p5 p6 p7 p8 p9 p10 p11 p12 p13 pos : Pos} : PE X (.List [.Constant .none j1 p1,.Constant (.bool true) j2 p2,.Constant (.int 0) j3 p3,.Constant (.int 7) j4 p4,.List [.Constant (.str "a") j5 p5] p6,.Tuple [.Constant (.str "a") j6 p7] x1 p8,.Dict [some (.Constant (.str "a") j7 p9)] [.Constant (.bool true) j8 p10] p11,.List [] p12,.Tuple [] x2 p13] pos) (m3 yx) := by
 refine ug ?_
 unfold yx
 repeat' first | exact ue | apply uf | apply uu | apply ut | apply wc | apply uv | apply uw | apply uC
def yz (l1 t1 d1 l2 t2 : Addr) : List V := [.non,.bl true,.int 0,.int 7,.ref l1,.ref t1,.ref d1,.ref l2,.ref t2]
theorem uD {K : A0} {H : Hp} {l1 t1 d1 l2 t2 : Addr} {kv : List (Key × V)} (e1 : H l1 = some (.lst [.str "a"])) (e2 : H t1 = some (.tup [.str "a"])) (e3 : H d1 = some (.dK kv)) (e4 : H l2 = some (.lst [])) (e5 : H t2 = some (.tup [])) : ∀ v ∈ yz l1 t1 d1 l2 t2,∃ ty,cY K H v ty /\ Ah K ty (.type "str") = some false := fun v hv => by
 unfold yz at hv
 simp only [A3,AQ,or_false] at hv
 rcases hv with rfl | rfl | rfl | rfl | rfl | rfl | rfl | rfl | rfl
 ·exact ⟨_,.non,by kernel_rfl⟩
 ·exact ⟨_,.bl true,by kernel_rfl⟩
 ·exact ⟨_,.int 0,by kernel_rfl⟩
 ·exact ⟨_,.int 7,by kernel_rfl⟩
 ·exact ⟨_,.lst e1,by kernel_rfl⟩
 ·exact ⟨_,.tup e2,by kernel_rfl⟩
 ·exact ⟨_,.dK e3,by kernel_rfl⟩
 ·exact ⟨_,.lst e4,by kernel_rfl⟩
 ·exact ⟨_,.tup e5,by kernel_rfl⟩
section
variable (K : A0) (C : Addr)
def gT : Sp := fun vs H Q _ => ∃ (x : Addr) (w : Int) (a b : Str) (F : List Addr) (rows : List (Str × List Str)) (m : Nat) (g : Str -> Str -> Option Addr) (bs ns : List Str) (ps : List (Str × Str)),vs = [.ref x,.int w,.str a,.str b] /\ LB C F H x rows m g bs ns /\ bI rows ps /\ ps.length <= 900 /\ m <= 1000 /\ bs.length <= 200 /\ ns.Nodup /\ ns.length <= 80 /\ Nm a /\ Nm b /\ 0 <= w /\ w <= 3 /\
 (w = 0 -> (Led ps b a -> ∀ H',au H H' -> Q (.str "ring") H') /\ (¬ Led ps b a -> 80 < ns.length + (aW ns [a,b]).length -> ∀ H',au H H' -> Q (.str "many") H') /\
  (¬ Led ps b a -> ns.length + (aW ns [a,b]).length <= 80 -> ∀ F' H' ms,KF F H H' -> FG F F' H -> LB C F' H' x (aO rows a b) m g bs ms -> ms.Nodup -> (∀ y,y ∈ ms ↔ y ∈ ns ∨ y ∈ [a,b]) -> Q (.str "done") H')) /\
 (w = 1 -> (a = b ∨ kS g a b -> ∀ H',au H H' -> Q (.str "stand") H') /\ (a ≠ b -> ¬ kS g a b -> 80 < ns.length + (aW ns [a,b]).length -> ∀ H',au H H' -> Q (.str "many") H') /\
  (a ≠ b -> ¬ kS g a b -> ns.length + (aW ns [a,b]).length <= 80 -> ∀ F' H' ms t,KF F H H' -> FG F F' H -> LB C F' H' x rows (m + 2) (mK g a b t) bs ms -> ms.Nodup -> (∀ y,y ∈ ms ↔ y ∈ ns ∨ y ∈ [a,b]) -> Q (.str "done") H')) /\
 (w = 2 -> (80 < ns.length + (aW ns [a]).length -> ∀ H',au H H' -> Q (.str "many") H') /\
  (ns.length + (aW ns [a]).length <= 80 -> ∀ H' ms,KF F H H' -> LB C F H' x rows m g (bJ bs a) ms -> ms.Nodup -> (∀ y,y ∈ ms ↔ y ∈ ns ∨ y ∈ [a]) -> Q (.str "done") H')) /\
 (w = 3 -> ∀ H',au H H' -> Q (.str "stand") H')
end
structure C8 (C : Addr) (H : Hp) (x dk : Addr) (t : Int) (n : Nat) (F : List Addr) (rows : List (Str × List Str)) (m : Nat) (g : Str -> Str -> Option Addr) (bs ns kn : List Str) (ps : List (Str × Str)) : Prop where
 lb : LB C F H x rows m g bs ns
 ok : bI rows ps
 ek : H dk = some (.dK (bj kn (.bl true)))
 dkF : dk ∉ F
 nn : ns.Nodup
 kd : kn.Nodup
 pool : ∀ y ∈ ns,∃ k : Nat,k < 90 /\ y = bE t k
 kin : ∀ y ∈ kn,y ∈ ns
 pin : ∀ a b,(a,b) ∈ ps -> a ∈ ns /\ b ∈ ns
 gin : ∀ a b,kS g a b -> a ∈ ns /\ b ∈ ns
 bin : ∀ b ∈ bs,b ∈ ns
 bnd : bs.Nodup
 n80 : ns.length <= 80
 cnt : ps.length <= n /\ m <= 2 * n
section
variable {C : Addr} {H H1 : Hp} {x dk : Addr} {t : Int} {n : Nat} {F F' : List Addr} {rows : List (Str × List Str)} {m : Nat} {g : Str -> Str -> Option Addr} {bs ns kn ms : List Str} {ps : List (Str × Str)}
theorem C8.same (h : C8 C H x dk t n F rows m g bs ns kn ps) (e : au H H1) : C8 C H1 x dk t n F rows m g bs ns kn ps := ⟨h.lb.same e,h.ok,e _ _ h.ek,h.dkF,h.nn,h.kd,h.pool,h.kin,h.pin,h.gin,h.bin,h.bnd,h.n80,h.cnt⟩
theorem C8.more (h : C8 C H x dk t n F rows m g bs ns kn ps) : C8 C H x dk t (n + 1) F rows m g bs ns kn ps := ⟨h.lb,h.ok,h.ek,h.dkF,h.nn,h.kd,h.pool,h.kin,h.pin,h.gin,h.bin,h.bnd,h.n80,by have := h.cnt; omega⟩
theorem C8.bars (h : C8 C H x dk t n F rows m g bs ns kn ps) : bs.length <= 80 := Ae (Wo.bV h.bnd h.bin) h.n80
theorem C8.knl (h : C8 C H x dk t n F rows m g bs ns kn ps) : kn.length <= 80 := Ae (Wo.bV h.kd h.kin) h.n80
theorem oo {xs : List Str} (nd : ms.Nodup) (hs : ∀ y,y ∈ ms ↔ y ∈ ns ∨ y ∈ xs) (r : ns.length + (aW ns xs).length <= 80) : ms.length <= 80 := by
 have := Wo.bV (m := ns ++ aW ns xs) nd fun y hy => by
  rw [A9]
  by_cases c : y ∈ ns
  ·exact .inl c
  ·rcases (hs y).mp hy with z | z
   ·exact .inl z
   ·exact .inr (Ap.mpr ⟨z,by rw [decide_eq_false c]; rfl⟩)
 rw [AA] at this
 omega
theorem C8.part (h : C8 C H x dk t n F rows m g bs ns kn ps) {a b : Str} (k : KF F H H1) (fg : FG F F' H) (lb : LB C F' H1 x (aO rows a b) m g bs ms) (nd : ms.Nodup) (hs : ∀ y,y ∈ ms ↔ y ∈ ns ∨ y ∈ [a,b]) (pa : ∃ k : Nat,k < 90 /\ a = bE t k) (pb : ∃ k : Nat,k < 90 /\ b = bE t k) (r : ns.length + (aW ns [a,b]).length <= 80) : C8 C H1 x dk t (n + 1) F' (aO rows a b) m g bs ms kn (oa ps a b) := by
 have up : ∀ y,y ∈ ns -> y ∈ ms := fun y hy => (hs y).mpr (.inl hy)
 have al := sQ ps a b
 have cnt := h.cnt
 refine ⟨lb,h.ok.addP a b,k _ _ h.dkF h.ek,fg.out h.ek h.dkF,nd,h.kd,fun y hy => ?_,fun y hy => up y (h.kin y hy),fun u v z => ?_,fun u v z => ⟨up _ (h.gin u v z).1,up _ (h.gin u v z).2⟩,fun y hy => up y (h.bin y hy),h.bnd,oo nd hs r,by omega⟩
 ·rcases (hs y).mp hy with z | z
  ·exact h.pool y z
  ·simp only [A3,AQ,or_false] at z
   rcases z with rfl | rfl
   ·exact pa
   ·exact pb
 ·rcases eu.mp z with z | z
  ·exact ⟨up _ (h.pin u v z).1,up _ (h.pin u v z).2⟩
  ·cases z
   exact ⟨(hs a).mpr (.inr (by simp)),(hs b).mpr (.inr (by simp))⟩
theorem C8.stand (h : C8 C H x dk t n F rows m g bs ns kn ps) {a b : Str} {r0 : Addr} (k : KF F H H1) (fg : FG F F' H) (lb : LB C F' H1 x rows (m + 2) (mK g a b r0) bs ms) (nd : ms.Nodup) (hs : ∀ y,y ∈ ms ↔ y ∈ ns ∨ y ∈ [a,b]) (pa : ∃ k : Nat,k < 90 /\ a = bE t k) (pb : ∃ k : Nat,k < 90 /\ b = bE t k) (r : ns.length + (aW ns [a,b]).length <= 80) : C8 C H1 x dk t (n + 1) F' rows (m + 2) (mK g a b r0) bs ms kn ps := by
 have up : ∀ y,y ∈ ns -> y ∈ ms := fun y hy => (hs y).mpr (.inl hy)
 have cnt := h.cnt
 refine ⟨lb,h.ok,k _ _ h.dkF h.ek,fg.out h.ek h.dkF,nd,h.kd,fun y hy => ?_,fun y hy => up y (h.kin y hy),fun u v z => ⟨up _ (h.pin u v z).1,up _ (h.pin u v z).2⟩,fun u v z => ?_,fun y hy => up y (h.bin y hy),h.bnd,oo nd hs r,by omega⟩
 ·rcases (hs y).mp hy with z | z
  ·exact h.pool y z
  ·simp only [A3,AQ,or_false] at z
   rcases z with rfl | rfl
   ·exact pa
   ·exact pb
 ·unfold kS mK at z
  obtain ⟨w,z⟩ := z
  by_cases c : u = a /\ v = b
  ·rw [c.1,c.2]
   exact ⟨(hs a).mpr (.inr (by simp)),(hs b).mpr (.inr (by simp))⟩
  ·rw [if_neg c] at z
   exact ⟨up _ (h.gin u v ⟨w,z⟩).1,up _ (h.gin u v ⟨w,z⟩).2⟩
theorem C8.bar (h : C8 C H x dk t n F rows m g bs ns kn ps) {a : Str} (k : KF F H H1) (lb : LB C F H1 x rows m g (bJ bs a) ms) (nd : ms.Nodup) (hs : ∀ y,y ∈ ms ↔ y ∈ ns ∨ y ∈ [a]) (pa : ∃ k : Nat,k < 90 /\ a = bE t k) (r : ns.length + (aW ns [a]).length <= 80) : C8 C H1 x dk t (n + 1) F rows m g (bJ bs a) ms kn ps := by
 have up : ∀ y,y ∈ ns -> y ∈ ms := fun y hy => (hs y).mpr (.inl hy)
 have cnt := h.cnt
 refine ⟨lb,h.ok,k _ _ h.dkF h.ek,h.dkF,nd,h.kd,fun y hy => ?_,fun y hy => up y (h.kin y hy),fun u v z => ⟨up _ (h.pin u v z).1,up _ (h.pin u v z).2⟩,fun u v z => ⟨up _ (h.gin u v z).1,up _ (h.gin u v z).2⟩,fun y hy => ?_,cM h.bnd,oo nd hs r,by omega⟩
 ·rcases (hs y).mp hy with z | z
  ·exact h.pool y z
  ·rw [A2.mp z]
   exact pa
 ·rcases cL.mp hy with z | rfl
  ·exact up y (h.bin y z)
  ·exact (hs y).mpr (.inr (by simp))
theorem C8.allow (h : C8 C H x dk t n F rows m g bs ns kn ps) {z : Str} (k : KF F H H1) (lb : LB C F H1 x rows m g (gL bs z) ns) : C8 C H1 x dk t n F rows m g (gL bs z) ns kn ps :=
 ⟨lb,h.ok,k _ _ h.dkF h.ek,h.dkF,h.nn,h.kd,h.pool,h.kin,h.pin,h.gin,fun y hy => h.bin y (sR.mp hy).1,og h.bnd,h.n80,h.cnt⟩
theorem C8.know (h : C8 C H x dk t n F rows m g bs ns kn ps) {z : Str} (hz : z ∈ ns) : C8 C (ar H dk (.dK (bj (bJ kn z) (.bl true)))) x dk t n F rows m g bs ns (bJ kn z) ps :=
 ⟨h.lb.farN h.ek h.dkF (fun _ _ _ z => nomatch z) _,h.ok,ae,h.dkF,h.nn,cM h.kd,h.pool,fun y hy => by
  rcases cL.mp hy with w | rfl
  ·exact h.kin y w
  ·exact hz,h.pin,h.gin,h.bin,h.bnd,h.n80,h.cnt⟩
theorem C8.alone (h : C8 C H x dk t n F rows m g bs ns kn ps) {z : Str} (hz : z ∉ ns) : (∀ y,Led ps z y ↔ y = z) /\ (∀ y,y ≠ z -> ¬ Led ps y z) /\ z ∉ bs := by
 refine ⟨fun y => ⟨fun l => ?_,fun e => by rw [e]; exact .self⟩,fun y ne l => ?_,fun w => hz (h.bin z w)⟩
 ·exact l.closed (S := fun y => y = z) rfl fun a b e hab => by
   subst e
   exact absurd (h.pin a b hab).1 hz
 ·cases l with
  | self => exact ne rfl
  | step _ m => exact hz (h.pin _ _ m).2
end
theorem qL {ns kn xs ys : List Str} (hx : xs.Nodup) (hy : ys.Nodup) (same : ∀ y,y ∈ ns ↔ y ∈ kn) (my : ∀ y,y ∈ ys ↔ y ∈ xs /\ y ∉ kn) : (aW ns xs).length = ys.length := by
 have m : ∀ y,y ∈ aW ns xs ↔ y ∈ ys := fun y => by
  unfold aW
  rw [Ap,my y,<- same y]
  constructor
  ·rintro ⟨h1,h2⟩
   refine ⟨h1,fun z => ?_⟩
   rw [decide_eq_true z] at h2
   cases h2
  ·rintro ⟨h1,h2⟩
   exact ⟨h1,by rw [decide_eq_false h2]; rfl⟩
 have n1 : (aW ns xs).Nodup := hx.filter _
 exact Nat.le_antisymm (Wo.bV n1 fun y h => (m y).mp h) (Wo.bV hy fun y h => (m y).mpr h)
def S8 (C : Addr) (H : Hp) (x dk : Addr) (t : Int) (n : Nat) : Prop := ∃ F rows m g bs ns kn ps,C8 C H x dk t n F rows m g bs ns kn ps /\ (∀ y,y ∈ ns ↔ y ∈ kn) /\ (bE t 0,bE t 1) ∈ ps
def kK (C : Addr) : Sp := fun vs H Q _ => ∃ (x dk : Addr) (c t : Int) (n : Nat),vs = [.ref x,.ref dk,.int c,.int t] /\ S8 C H x dk t n /\ n <= 300 /\ ∀ H',KD H H' -> S8 C H' x dk t (n + 1) -> Q (.bl true) H'
def iW (w : Int) (a b : Str) : List Str := if w = 2 then [a] else [a,b]
def P8 (t : Int) (a : Str) : Prop := ∃ k : Nat,k < 90 /\ a = bE t k
theorem P8.nm {t : Int} {a : Str} (h : P8 t a) : Nm a := by
 obtain ⟨k,_,rfl⟩ := h
 exact kI _ _
def zm (C : Addr) (H : Hp) (x dk : Addr) (t : Int) (n : Nat) (ns kn : List Str) (ps : List (Str × Str)) (g : Str -> Str -> Option Addr) (w : Int) (a b fd : Str) (H' : Hp) : Prop :=
 (fd = "ring" /\ w = 0 /\ Led ps b a /\ au H H') ∨ (fd = "stand" /\ w = 1 /\ (a = b ∨ kS g a b) /\ au H H') ∨
 (fd = "many" /\ au H H' /\ (w = 0 -> ¬ Led ps b a) /\ (w = 1 -> a ≠ b /\ ¬ kS g a b) /\ 80 < ns.length + (aW ns (iW w a b)).length) ∨
 (fd = "done" /\ (w ≠ 2 -> a ≠ b) /\ KD H H' /\ ns.length + (aW ns (iW w a b)).length <= 80 /\ ∃ F' rows' m' g' bs' ms ps',C8 C H' x dk t (n + 1) F' rows' m' g' bs' ms kn ps' /\ (∀ y,y ∈ ms ↔ y ∈ ns ∨ y ∈ iW w a b) /\ ∀ p,p ∈ ps -> p ∈ ps')
theorem xu : Nm "unheardof" /\ Nm "unheard" := by unfold Nm; decide
structure I8 (C : Addr) (H : Hp) (x dk : Addr) (t : Int) (k many : Nat) (F : List Addr) (rows : List (Str × List Str)) (m : Nat) (g : Str -> Str -> Option Addr) (bs ns kn : List Str) (ps : List (Str × Str)) : Prop where
 c : C8 C H x dk t k F rows m g bs ns kn ps
 kk : ∀ y,y ∈ kn ↔ ∃ j : Nat,j < k /\ y = bE t j
 nk : ∀ y ∈ ns,∃ j : Nat,j <= k /\ j < many /\ y = bE t j
 pk : ∀ a b,(a,b) ∈ ps -> ∃ j : Nat,j < k /\ a = bE t j
 gk : ∀ a b,kS g a b -> ∃ j : Nat,j < k /\ a = bE t j
 top : 1 <= k -> (bE t 0,bE t 1) ∈ ps
def zn (C : Addr) (H : Hp) (x dk : Addr) (t : Int) (k many : Nat) : Prop := ∃ F rows m g bs ns kn ps,I8 C H x dk t k many F rows m g bs ns kn ps
section
variable {C : Addr} {H H1 : Hp} {x dk : Addr} {t : Int} {k many : Nat} {F F' : List Addr} {rows rows' : List (Str × List Str)} {m m' : Nat} {g g' : Str -> Str -> Option Addr} {bs bs' ns kn ms : List Str} {ps ps' : List (Str × Str)}
theorem kN {i j : Nat} (hi : i < 90) (hj : j < 90) (e : bE t i = bE t j) : i = j := by
 have := uB (by omega) (by omega) (by omega) (by omega) e
 omega
theorem I8.start (lb : LB C F H x [] 0 (fun _ _ => none) [] []) (ek : H dk = some (.dK [])) (dF : dk ∉ F) : I8 C H x dk t 0 many F [] 0 (fun _ _ => none) [] [] [] [] :=
 ⟨⟨lb,bI.nil,ek,dF,List.nodup_nil,List.nodup_nil,fun y h => (by cases h),fun y h => (by cases h),fun a b h => (by cases h),fun a b h => (by obtain ⟨_,h⟩ := h; cases h),fun b h => (by cases h),List.nodup_nil,by simp,by simp⟩,fun y => ⟨fun h => (by cases h),fun ⟨j,h,_⟩ => absurd h (Nat.not_lt_zero _)⟩,fun y h => (by cases h),fun a b h => (by cases h),fun a b h => (by obtain ⟨_,h⟩ := h; cases h),fun h => absurd h (by omega)⟩
theorem I8.ne (h : I8 C H x dk t k many F rows m g bs ns kn ps) (km : k < many) (m80 : many <= 80) : bE t (k : Nat) ≠ bE t ((k + 1 : Nat) : Int) := fun e => by
 have := kN (by omega) (by omega) e
 omega
theorem I8.noled (h : I8 C H x dk t k many F rows m g bs ns kn ps) (km : k < many) (m80 : many <= 80) : ¬ Led ps (bE t ((k + 1 : Nat) : Int)) (bE t (k : Nat)) := fun l => by
 have : bE t (k : Nat) = bE t ((k + 1 : Nat) : Int) := l.closed (S := fun y => y = bE t ((k + 1 : Nat) : Int)) rfl fun a b e hab => by
  obtain ⟨j,hj,ej⟩ := h.pk a b hab
  rw [e] at ej
  have := kN (t := t) (i := k + 1) (j := j) (by omega) (by omega) ej
  omega
 exact h.ne km m80 this
theorem I8.nost (h : I8 C H x dk t k many F rows m g bs ns kn ps) (km : k < many) (m80 : many <= 80) (b : Str) : ¬ kS g (bE t (k : Nat)) b := fun z => by
 obtain ⟨j,hj,ej⟩ := h.gk _ _ z
 have := kN (t := t) (i := k) (j := j) (by omega) (by omega) ej
 omega
theorem I8.room (h : I8 C H x dk t k many F rows m g bs ns kn ps) (m80 : many <= 80) {xs : List Str} (nx : xs.Nodup) (hx : ∀ y ∈ xs,∃ j : Nat,j < many /\ y = bE t j) : ns.length + (aW ns xs).length <= 80 := by
 have nd : (ns ++ aW ns xs).Nodup := by
  rw [BC]
  refine ⟨h.c.nn,nx.filter _,fun a ha b hb e => ?_⟩
  have := (Ap.mp hb).2
  rw [<- e,decide_eq_true ha] at this
  cases this
 have := Wo.bV (m := (Bh many).map fun j : Nat => bE t (j : Int)) nd fun y hy => by
  rcases A9.mp hy with z | z
  ·obtain ⟨j,_,hj,rfl⟩ := h.nk y z
   exact AZ.mpr ⟨j,BS.mpr hj,rfl⟩
  ·obtain ⟨j,hj,rfl⟩ := hx y (Ap.mp z).1
   exact AZ.mpr ⟨j,BS.mpr hj,rfl⟩
 rw [AA,A8,BN] at this
 omega
theorem I8.next (h : I8 C H x dk t k many F rows m g bs ns kn ps) (km : k < many) {xs : List Str} (c' : C8 C H1 x dk t (k + 1) F' rows' m' g' bs' ms kn ps') (hs : ∀ y,y ∈ ms ↔ y ∈ ns ∨ y ∈ xs) (ax : bE t (k : Nat) ∈ xs) (hx : ∀ y ∈ xs,∃ j : Nat,j <= k + 1 /\ j < many /\ y = bE t j) (hp : ∀ a b,(a,b) ∈ ps' -> (a,b) ∈ ps ∨ a = bE t (k : Nat)) (hg : ∀ a b,kS g' a b -> kS g a b ∨ a = bE t (k : Nat)) (pp : ∀ p,p ∈ ps -> p ∈ ps') (tp : k = 0 -> (bE t 0,bE t 1) ∈ ps') : zn C (ar H1 dk (.dK (bj (bJ kn (bE t (k : Nat))) (.bl true)))) x dk t (k + 1) many := by
 refine ⟨F',rows',m',g',bs',ms,bJ kn (bE t (k : Nat)),ps',c'.know ((hs _).mpr (.inr ax)),fun y => ?_,fun y hy => ?_,fun a b z => ?_,fun a b z => ?_,fun _ => ?_⟩
 ·rw [cL,h.kk y]
  constructor
  ·rintro (⟨j,hj,e⟩ | e)
   ·exact ⟨j,by omega,e⟩
   ·exact ⟨k,by omega,e⟩
  ·rintro ⟨j,hj,e⟩
   rcases BP.mp hj with w | w
   ·exact .inl ⟨j,w,e⟩
   ·rw [w] at e; exact .inr e
 ·rcases (hs y).mp hy with w | w
  ·obtain ⟨j,h1,h2,e⟩ := h.nk y w
   exact ⟨j,by omega,h2,e⟩
  ·exact hx y w
 ·rcases hp a b z with w | w
  ·obtain ⟨j,hj,e⟩ := h.pk a b w
   exact ⟨j,by omega,e⟩
  ·exact ⟨k,by omega,w⟩
 ·rcases hg a b z with w | w
  ·obtain ⟨j,hj,e⟩ := h.gk a b w
   exact ⟨j,by omega,e⟩
  ·exact ⟨k,by omega,w⟩
 ·by_cases k0 : k = 0
  ·exact tp k0
  ·exact pp _ (h.top (by omega))
theorem I8.done (h : I8 C H x dk t many many F rows m g bs ns kn ps) (m1 : 1 <= many) : S8 C H x dk t many := ⟨F,rows,m,g,bs,ns,kn,ps,h.c,fun y => ⟨fun z => by
 obtain ⟨j,_,hj,e⟩ := h.nk y z
 exact (h.kk y).mpr ⟨j,hj,e⟩,fun z => h.c.kin y z⟩,h.top m1⟩
end
end Sw
namespace L2
open PySem PySem.Spec PyProof.Rows XH Sw
section
variable {X : Cx} {k j : Nat} {f : Addr} {ps : List Str} {sp : Sp} {dvs : List V} {m : Str} {pos apos : Pos} {e o : Expr} {es : List Expr} {ta : TE} {t : TA}
theorem uE {pl : Sem Bool} {K : A0} (hK : X.K = K) (he : PE X o ta) (D : dv X.prog X.w X.K X.mg X.base bw k f ps dvs sp) (hr : bx j X.A) (hk : k <= j) (ha : PA X (e :: es) t)
  (hst : starEach (e :: es) X.env = (false,eval e X.env) :: starEach es X.env := by rfl) (hpl : (backTo pos (starEach es X.env)).any (·.1) = false := by rfl)
  (ht : eval (.Call (.Attribute o m apos) (e :: es) [] pos) X.env = (do
   let ov <- eval o X.env
   standAt apos.atName
   let (f,first) <- holding [ov] (getMethod ov m pl)
   callWith pos f first (backTo pos (starEach (e :: es) X.env)) (backToKw pos (keywordEach [] X.env))) := by rfl) :
  PE X (.Call (.Attribute o m apos) (e :: es) [] pos) (nE K m f sp [] ta t) := by
 subst hK
 exact eW he D hr hk ha hst hpl ht
end
theorem qN {K : A0} {a : Addr} {xs : List V} {js : List Nat} {tc : TT} {te : TE} {σ : L2.St} {H1 : Hp} {Q : VK} (hS : bu K H1 a xs) (hz : xs.length <= sizeLine)
  (step : ∀ x ∈ xs,∀ H3,au H1 H3 -> ∀ R : Bool -> Hp -> Prop,(∀ H4,au H3 H4 -> R false H4) -> tc (some x :: a8 js σ) H3 R)
  (fin : ∀ p H',au H1 H' -> H' p = some (.lst []) -> Q (.ref p) H') : iD js tc te σ Q (vq K a) H1 := by
 intro p hp
 refine ⟨fun i m ys H2 => i <= xs.length /\ m = xs.length - i /\ ys = [] /\ au H1 H2 /\ H2 p = some (.lst []),⟨xs.length,Al _,rfl,rfl,Sw.ai hp _,ae⟩,?_⟩
 rintro i m ys H2 ⟨hi,rfl,rfl,g,e⟩
 refine ⟨e,?_⟩
 have S2 := g.seq hS
 by_cases hin : i < xs.length
 ·refine .inr ⟨⟨xs,xs[i],S2,AK hin⟩,by show 0 < sizeLine; omega,fun x H3 hy => ?_⟩
  obtain ⟨rfl,hx⟩ := hy
  have hx' := hx xs S2
  refine step x (AL hx') H3 g _ fun H4 g4 => ?_
  rw [if_neg (by decide)]
  exact ⟨xs.length - (i + 1),by omega,hin,rfl,rfl,g.trans g4,g4 _ _ e⟩
 ·have e2 : i = xs.length := by omega
  subst e2
  exact .inl ⟨⟨xs,S2,A5 _⟩,fin p H2 g e⟩
end L2
namespace Lk28
open PySem L2 Sw XH PyProof.Rows Hm Wo
def top (i : Nat) : Stmt := PySem.Challenge.pw_stovework_k28_names_and_room.main.body.getD i (.Pass ⟨0,0,0,0⟩)
def clsAt (s : Stmt) (i : Nat) : Stmt := match s with | .ClassDef _ _ _ body _ _ _ _ _ _ _ => body.getD i (.Pass ⟨0,0,0,0⟩) | _ => s
abbrev yA : Stmt := top 29
abbrev zp : Stmt := top 29
abbrev yB : Stmt := top 30
abbrev yC : Stmt := top 32
abbrev kO : Stmt := top 33
abbrev yD : Stmt := top 4
abbrev yE : Stmt := top 36
abbrev yF : Stmt := top 26
abbrev yG : Stmt := top 27
abbrev yH : Stmt := top 25
abbrev uF : Stmt := top 24
abbrev uG : Stmt := clsAt (top 37) 0
abbrev uH : Stmt := clsAt (top 37) 9
abbrev uI : Stmt := clsAt (top 37) 5
abbrev uJ : Stmt := clsAt (top 37) 1
abbrev uK : Stmt := clsAt (top 37) 6
abbrev uL : Stmt := clsAt (top 37) 7
abbrev uM : Stmt := clsAt (top 37) 3
abbrev uN : Stmt := clsAt (top 37) 4
abbrev uO : Stmt := clsAt (top 37) 2
abbrev uP : Stmt := top 39
abbrev uQ : Stmt := top 40
abbrev uR : Stmt := top 41
abbrev qO : Stmt := top 42
abbrev uS : Stmt := top 43
abbrev uT : Stmt := top 44
abbrev uU : Stmt := top 45
abbrev uV : Stmt := top 46
abbrev kP : Stmt := top 47
abbrev du : Stmt := clsAt (top 15) 0
structure Bn (K : A0) (mg : Str -> Option Value) (c_EmptyHeap c_InRing c_Larder c_NoAmount c_NoDish c_NoName c_NoNet c_NoNumber c_NoPack c_NoPlan c_NoRow c_NoStand c_NoStandIn c_NoStep c_StoveError c_TooFew c_TooMany c_Twice f_Z11 f_Z12 f_Z13 f_Z14 f_Z15 f_Z16 f_Z17 f_Z18 f_Z19 : Addr) : Prop where
 g_LETTERS : ∃ t,mg "LETTERS" = some (.str "abcdefghijklmnopqrstuvwxyz" t)
 g_MOST_LETTERS : ∃ t,mg "MOST_LETTERS" = some (.int 12 t)
 g_MOST_NAMES : ∃ t,mg "MOST_NAMES" = some (.int 80 t)
 b_abs : mg "abs" = none
 b_bool : mg "bool" = none
 b_int : mg "int" = none
 b_isinstance : mg "isinstance" = none
 b_len : mg "len" = none
 b_list : mg "list" = none
 b_range : mg "range" = none
 b_reversed : mg "reversed" = none
 b_set : mg "set" = none
 b_sorted : mg "sorted" = none
 b_str : mg "str" = none
 b_tuple : mg "tuple" = none
 m_EmptyHeap : mg "EmptyHeap" = some (.ref c_EmptyHeap)
 m_InRing : mg "InRing" = some (.ref c_InRing)
 m_Larder : mg "Larder" = some (.ref c_Larder)
 m_NoAmount : mg "NoAmount" = some (.ref c_NoAmount)
 m_NoDish : mg "NoDish" = some (.ref c_NoDish)
 m_NoName : mg "NoName" = some (.ref c_NoName)
 m_NoNet : mg "NoNet" = some (.ref c_NoNet)
 m_NoNumber : mg "NoNumber" = some (.ref c_NoNumber)
 m_NoPack : mg "NoPack" = some (.ref c_NoPack)
 m_NoPlan : mg "NoPlan" = some (.ref c_NoPlan)
 m_NoRow : mg "NoRow" = some (.ref c_NoRow)
 m_NoStand : mg "NoStand" = some (.ref c_NoStand)
 m_NoStandIn : mg "NoStandIn" = some (.ref c_NoStandIn)
 m_NoStep : mg "NoStep" = some (.ref c_NoStep)
 m_StoveError : mg "StoveError" = some (.ref c_StoveError)
 m_TooFew : mg "TooFew" = some (.ref c_TooFew)
 m_TooMany : mg "TooMany" = some (.ref c_TooMany)
 m_Twice : mg "Twice" = some (.ref c_Twice)
 x_NoName : B6 K c_NoName oR "ValueError.__new__" = true
 i_NoName : XI K c_NoName
 x_NoStand : B6 K c_NoStand oR "ValueError.__new__" = true
 i_NoStand : XI K c_NoStand
 x_NoNumber : B6 K c_NoNumber oR "ValueError.__new__" = true
 i_NoNumber : XI K c_NoNumber
 x_TooMany : B6 K c_TooMany oR "ValueError.__new__" = true
 i_TooMany : XI K c_TooMany
 t_InRing : XT K c_InRing
 t_NoStand : XT K c_NoStand
 t_TooMany : XT K c_TooMany
 s_TooMany_TooMany : Aq K (.ref c_TooMany) (.ref c_TooMany) = some true
 s_InRing_TooMany : Aq K (.ref c_InRing) (.ref c_TooMany) = some false
 s_InRing_InRing : Aq K (.ref c_InRing) (.ref c_InRing) = some true
 s_NoStand_TooMany : Aq K (.ref c_NoStand) (.ref c_TooMany) = some false
 s_NoStand_InRing : Aq K (.ref c_NoStand) (.ref c_InRing) = some false
 s_NoStand_NoStand : Aq K (.ref c_NoStand) (.ref c_NoStand) = some true
 k_TooMany_StoveError : Ah K (.ref c_TooMany) (.ref c_StoveError) = some true
 a_InRing : XA K c_InRing c_StoveError
 n_InRing : AO K (.ref c_InRing) "ring" = some none
 i_InRing : XI K c_InRing
 ka_TooMany_1 : PySem.W.kitAny K (.ref c_TooMany) [.ref c_EmptyHeap,.ref c_InRing,.ref c_NoAmount,.ref c_NoDish,.ref c_NoName,.ref c_NoNet,.ref c_NoNumber,.ref c_NoPack,.ref c_NoPlan,.ref c_NoRow] = some false
 ka_TooMany_2 : PySem.W.kitAny K (.ref c_TooMany) [.ref c_NoStand,.ref c_NoStandIn,.ref c_NoStep,.ref c_TooFew,.ref c_Twice] = some false
 cl_Larder : oE K c_Larder
 mk_Larder : Mk K c_Larder f_Z11
 me_Z14 : cX K c_Larder "part" f_Z14
 me_Z19 : cX K c_Larder "stand" f_Z19
 me_Z17 : cX K c_Larder "bar" f_Z17
 me_Z18 : cX K c_Larder "allow" f_Z18
 me_Z13 : cX K c_Larder "known" f_Z13
 me_Z15 : cX K c_Larder "held" f_Z15
 me_Z16 : cX K c_Larder "barred" f_Z16
 me_Z12 : cX K c_Larder "learn" f_Z12
 na_Larder_parts : bK K c_Larder "parts"
 na_Larder_stands : bK K c_Larder "stands"
 na_Larder_bars : bK K c_Larder "bars"
 na_Larder_names : bK K c_Larder "names"
section
variable {P : Program} {w : World} {K : A0} {mg : Str -> Option Value} {base : Heap} {f : Addr} {fd : FuncData} {c_EmptyHeap c_InRing c_Larder c_NoAmount c_NoDish c_NoName c_NoNet c_NoNumber c_NoPack c_NoPlan c_NoRow c_NoStand c_NoStandIn c_NoStep c_StoveError c_TooFew c_TooMany c_Twice f_Z11 f_Z12 f_Z13 f_Z14 f_Z15 f_Z16 f_Z17 f_Z18 f_Z19 : Addr}
theorem qP : aD ["self","ring"] ["self","ring"] (ap du) := ⟨rfl,rfl,rfl,by decide +kernel,rfl,by decide +kernel,by decide +kernel⟩
theorem qQ {dV : Value} (F : bH K "__init__" "InRing.__init__" du dV f fd) (B : Bn K mg c_EmptyHeap c_InRing c_Larder c_NoAmount c_NoDish c_NoName c_NoNet c_NoNumber c_NoPack c_NoPlan c_NoRow c_NoStand c_NoStandIn c_NoStep c_StoveError c_TooFew c_TooMany c_Twice f_Z11 f_Z12 f_Z13 f_Z14 f_Z15 f_Z16 f_Z17 f_Z18 f_Z19) : bh P w K mg base bw 1 f fd ["self","ring"] (jZ c_InRing "ring") := by
 have sc := qP
 refine F.ok sc (fun vs H Q E h => ?_) (fun cdv A outer s H vs Q E hr h => ?_)
 ·obtain ⟨a,y,n,rfl,_⟩ := h
  rfl
 obtain ⟨a,y,n,rfl,e,q⟩ := h
 exact ⟨_,(ak (tU (K := K) rfl (pv 0) (pv 1) rfl)),y,rfl,_,rfl,a,c_InRing,c_StoveError,n,rfl,e,B.a_InRing,B.n_InRing,q⟩
theorem zq : aD ["thing"] ["thing"] (ap yA) := ⟨rfl,rfl,rfl,by decide +kernel,rfl,by decide +kernel,by decide +kernel⟩
set_option maxHeartbeats 4000000 in
theorem zr {dV : Value} (F : bH K "is_whole" "is_whole" yA dV f fd) (B : Bn K mg c_EmptyHeap c_InRing c_Larder c_NoAmount c_NoDish c_NoName c_NoNet c_NoNumber c_NoPack c_NoPlan c_NoRow c_NoStand c_NoStandIn c_NoStep c_StoveError c_TooFew c_TooMany c_Twice f_Z11 f_Z12 f_Z13 f_Z14 f_Z15 f_Z16 f_Z17 f_Z18 f_Z19)  : bh P w K mg base bw 1 f fd ["thing"] jT := by
 have sc := zq
 refine F.ok sc (fun vs H Q E h => ?_) (fun cdv A outer s H vs Q E hr h => ?_)
 ·obtain ⟨v,rfl,_⟩ := h
  rfl
 obtain ⟨v,rfl,q⟩ := h
 refine ⟨_,(ak (aG (eR (aK lH rfl B.b_isinstance boot_isinstance (aa (pv 0) (aa (cO (v := .ty "int") rfl B.b_int boot_int rfl) aj))) (eQ (mR (aK lH rfl B.b_isinstance boot_isinstance (aa (pv 0) (aa (cO (v := .ty "bool") rfl B.b_bool boot_bool rfl) aj)))))))),?_⟩
 refine ⟨_,rfl,_,_,_,rfl,.ii v,_,rfl,cE ⟨_,rfl,_,_,_,rfl,.ib v,_,rfl,q⟩⟩
theorem zt : aD ["thing"] ["thing"] (ap zp) := ⟨rfl,rfl,rfl,by decide +kernel,rfl,by decide +kernel,by decide +kernel⟩
set_option maxHeartbeats 4000000 in
theorem zu {dV : Value} (F : bH K "is_whole" "is_whole" zp dV f fd) (B : Bn K mg c_EmptyHeap c_InRing c_Larder c_NoAmount c_NoDish c_NoName c_NoNet c_NoNumber c_NoPack c_NoPlan c_NoRow c_NoStand c_NoStandIn c_NoStep c_StoveError c_TooFew c_TooMany c_Twice f_Z11 f_Z12 f_Z13 f_Z14 f_Z15 f_Z16 f_Z17 f_Z18 f_Z19)  : bh P w K mg base bw 1 f fd ["thing"] (vV K) := by
 have sc := zt
 refine F.ok sc (fun vs H Q E h => ?_) (fun cdv A outer s H vs Q E hr h => ?_)
 ·obtain ⟨x,b,rfl,_⟩ := h
  rfl
 obtain ⟨x,b,rfl,wh,q⟩ := h
 refine ⟨_,(ak (aG (eR (aK (cG (K := K) rfl) rfl B.b_isinstance boot_isinstance (aa (pv 0) (aa (cO (v := .ty "int") rfl B.b_int boot_int rfl) aj))) (eQ (mR (aK (cG (K := K) rfl) rfl B.b_isinstance boot_isinstance (aa (pv 0) (aa (cO (v := .ty "bool") rfl B.b_bool boot_bool rfl) aj)))))))),?_⟩
 cases wh with
 | @mk t b1 b2 ty k1 k2 =>
  refine ⟨_,rfl,x,t,"int",b1,rfl,ty,k1,b1,rfl,?_⟩
  cases b1 with
  | false => exact bU q
  | true => exact cE ⟨_,rfl,x,t,"bool",b2,rfl,ty,k2,b2,rfl,q⟩
theorem zv : aD ["one","other","greater","lesser","rest"] ["one","other"] (ap yB) := ⟨rfl,rfl,rfl,by decide +kernel,rfl,by decide +kernel,by decide +kernel⟩
set_option maxHeartbeats 4000000 in
theorem zw {dV : Value} (F : bH K "divisor" "divisor" yB dV f fd) (B : Bn K mg c_EmptyHeap c_InRing c_Larder c_NoAmount c_NoDish c_NoName c_NoNet c_NoNumber c_NoPack c_NoPlan c_NoRow c_NoStand c_NoStandIn c_NoStep c_StoveError c_TooFew c_TooMany c_Twice f_Z11 f_Z12 f_Z13 f_Z14 f_Z15 f_Z16 f_Z17 f_Z18 f_Z19)  : bh P w K mg base bw 1 f fd ["one","other"] oN := by
 have sc := zv
 refine F.ok sc (fun vs H Q E h => ?_) (fun cdv A outer s H vs Q E hr h => ?_)
 ·obtain ⟨a,b,rfl,_⟩ := h
  rfl
 obtain ⟨a,b,rfl,q⟩ := h
 refine ⟨_,(ag (aL (i := 2) sc.nd rfl (Or.inl rfl) (aK kZ rfl B.b_abs boot_abs (aa (pv 0) aj))) (ag (aL (i := 3) sc.nd rfl (Or.inl rfl) (aK kZ rfl B.b_abs boot_abs (aa (pv 1) aj))) (ag (hG PassesOwn.never (av jf (pv 3) am (aC _)) (ag (aL (i := 4) sc.nd rfl (Or.inl rfl) (aJ aY (pv 2) (pv 3))) (ag (aL (i := 2) sc.nd rfl (Or.inl rfl) (pv 3)) (ak (aL (i := 3) sc.nd rfl (Or.inl rfl) (pv 4)))))) (ak (aG (pv 2)))))),?_⟩
 refine ⟨_,rfl,_,rfl,_,rfl,_,rfl,?_⟩
 refine hJ (fun σ H' => H' = H /\ ∃ (g l : Int) (r : Option V),σ = [some (.int a),some (.int b),some (.int g),some (.int l),r] /\ 0 <= g /\ 0 <= l /\ bD g l = bD a b)
  (fun (σ : L2.St) (_ : Hp) => match σ[3]? with | some (some (V.int l)) => l.toNat | _ => 0) ⟨rfl,_,_,_,rfl,oM a,oM b,rK a b⟩ ?_ (fun σ H Q Q' m ⟨v,e,s,k,hk,h2⟩ => ⟨v,e,s,k,hk,m _ _ h2⟩)
 rintro σ H' ⟨rfl,g,l,r,rfl,g0,l0,inv⟩
 refine ⟨_,rfl,rfl,_,rfl,z5 (fun c => ?_) (fun c => ?_)⟩
 ·have lp : 0 < l := by omega
  refine ⟨_,rfl,_,rfl,_,_,rfl,rfl,c,_,rfl,_,rfl,⟨rfl,l,g.fmod l,_,rfl,l0,AG g lp,?_⟩,?_⟩
  ·rw [pU lp]; exact inv
  ·have h1 := Aa g lp
   have h2 := AG g lp
   show (g.fmod l).toNat < l.toNat
   omega
 ·subst c
  rw [pV g0] at inv
  rw [<- inv] at q
  exact ⟨_,rfl,q⟩
theorem zz : aD ["top","bottom","common"] ["top","bottom"] (ap yC) := ⟨rfl,rfl,rfl,by decide +kernel,rfl,by decide +kernel,by decide +kernel⟩
set_option maxHeartbeats 4000000 in
theorem zA {dV : Value} (F : bH K "fraction" "fraction" yC dV f fd) (B : Bn K mg c_EmptyHeap c_InRing c_Larder c_NoAmount c_NoDish c_NoName c_NoNet c_NoNumber c_NoPack c_NoPlan c_NoRow c_NoStand c_NoStandIn c_NoStep c_StoveError c_TooFew c_TooMany c_Twice f_Z11 f_Z12 f_Z13 f_Z14 f_Z15 f_Z16 f_Z17 f_Z18 f_Z19) (DZ0 : Dx P w K mg base bw 1 "is_whole" ["thing"] [] jT) (DZ2 : Dx P w K mg base bw 1 "divisor" ["one","other"] [] oN) : bh P w K mg base (b9 P w) 2 f fd ["top","bottom"] (oW c_NoNumber) := by
 have sc := zz
 refine F.okX sc (fun vs H Q E h => ?_) (fun cdv A outer s H vs Q E hr h => ?_)
 ·obtain ⟨a,b,rfl,_⟩ := h
  rfl
 obtain ⟨a,b,rfl,hb,q,qe⟩ := h
 refine ⟨_,(ag (a6 (PW.pt (fj (cw (cv (aT DZ0 hr (by decide) rfl (aa (pv 0) aj)))) (eP (cw (cv (aT DZ0 hr (by decide) rfl (aa (pv 1) aj))))))) (ak (cJ B.x_NoNumber rfl B.m_NoNumber rfl bZ (aa aS aj))) aI) (ag (a6 (av bX (pv 1) am (aC _)) (ak (cJ B.x_NoNumber rfl B.m_NoNumber rfl bZ (aa aS aj))) aI) (ag (aL (i := 2) sc.nd rfl (Or.inl rfl) (aT DZ2 hr (by decide) rfl (aa (pv 0) (aa (pv 1) aj)))) (ag (a6 (av oB (pv 1) am (aC _)) (ak (aL (i := 2) sc.nd rfl (Or.inl rfl) (uX rh (pv 2)))) aI) (ak (aG (hV (aa (aJ bG (pv 0) (pv 2)) (aa (aJ bG (pv 1) (pv 2)) aj))))))))),?_⟩
 refine ⟨_,rfl,_,rfl,true,rfl,bU ⟨_,rfl,_,rfl,true,rfl,bU ?_⟩⟩
 refine ⟨_,rfl,rfl,_,rfl,sU (fun z => ⟨by show 1 <= sizeLine; decide,qe z⟩) (fun b0 => ?_)⟩
 have c0 := rL (a := a) b0
 have cb := vI (a := a) b0 hb
 have f := wS (a := a) b0
 have q := q b0
 refine ⟨_,rfl,_,rfl,_,_,rfl,?_⟩
 refine ⟨_,rfl,_,_,rfl,rfl,_,rfl,d2 (fun c => ?_) (fun c => ?_)⟩
 ·have e : jq a b = -bD a b := if_pos c
  rw [e] at c0 cb f
  exact ⟨_,rfl,_,rfl,_,rfl,_,rfl,_,_,rfl,rfl,⟨c0,cb.div c0⟩,_,rfl,_,rfl,_,_,rfl,rfl,⟨c0,cb.div c0⟩,(by show 2 <= sizeLine; decide),fun t ht => q _ _ f t _ (ai ht _) ae⟩
 ·have e : jq a b = bD a b := if_neg c
  rw [e] at c0 cb f
  exact ⟨_,rfl,_,rfl,_,_,rfl,rfl,⟨c0,cb.div c0⟩,_,rfl,_,rfl,_,_,rfl,rfl,⟨c0,cb.div c0⟩,(by show 2 <= sizeLine; decide),fun t ht => q _ _ f t _ (ai ht _) ae⟩
theorem zB : aD ["thing"] ["thing"] (ap kO) := ⟨rfl,rfl,rfl,by decide +kernel,rfl,by decide +kernel,by decide +kernel⟩
set_option maxHeartbeats 4000000 in
theorem zC {dV : Value} (F : bH K "is_fraction" "is_fraction" kO dV f fd) (B : Bn K mg c_EmptyHeap c_InRing c_Larder c_NoAmount c_NoDish c_NoName c_NoNet c_NoNumber c_NoPack c_NoPlan c_NoRow c_NoStand c_NoStandIn c_NoStep c_StoveError c_TooFew c_TooMany c_Twice f_Z11 f_Z12 f_Z13 f_Z14 f_Z15 f_Z16 f_Z17 f_Z18 f_Z19) (DZ1 : Dx P w K mg base bw 1 "is_whole" ["thing"] [] (vV K)) (DZ2 : Dx P w K mg base bw 1 "divisor" ["one","other"] [] oN) : bh P w K mg base bw 2 f fd ["thing"] (nC K) := by
 have sc := zB
 refine F.ok sc (fun vs H Q E h => ?_) (fun cdv A outer s H vs Q E hr h => ?_)
 ·obtain ⟨x,b,rfl,_⟩ := h
  rfl
 obtain ⟨x,b,rfl,fk,q⟩ := h
 refine ⟨_,(ag (a6 (PW.pt (fj (cw (cv (aK (cG (K := K) rfl) rfl B.b_isinstance boot_isinstance (aa (pv 0) (aa (cO (v := .ty "tuple") rfl B.b_tuple boot_tuple rfl) aj))))) (eP (av jf (aK bR rfl B.b_len boot_len (aa (pv 0) aj)) am (aC _))))) (ak (aG bL)) aI) (ag (a6 (PW.pt (fj (cw (cv (aT DZ1 hr (by decide) rfl (aa (bO fW (pv 0) am (fun _ _ => rfl)) aj)))) (eP (cw (cv (aT DZ1 hr (by decide) rfl (aa (bO fW (pv 0) am (fun _ _ => rfl)) aj))))))) (ak (aG bL)) aI) (ak (aG (eR (bW wH (bO fW (pv 0) am (fun _ _ => rfl)) am (aC _)) (eQ (bW bX (aT DZ2 hr (by decide) rfl (aa (bO fW (pv 0) am (fun _ _ => rfl)) (aa (bO fW (pv 0) am (fun _ _ => rfl)) aj))) am (aC _)))))))),?_⟩
 cases fk with
 | @no _ t ty k => exact ⟨_,rfl,x,t,"tuple",false,rfl,ty,k,false,rfl,cE q⟩
 | @len a ys e n =>
  refine ⟨_,rfl,_,_,"tuple",true,rfl,.tup e,gO K,true,rfl,bU ?_⟩
  exact ⟨_,rfl,a,ys,rfl,.inr (iX.of e),rfl,_,rfl,z7 n q⟩
 | @top a y z e k =>
  refine ⟨_,rfl,_,_,"tuple",true,rfl,.tup e,gO K,true,rfl,bU ?_⟩
  refine ⟨_,rfl,a,_,rfl,.inr (iX.of e),rfl,_,rfl,za rfl ?_⟩
  exact ⟨_,rfl,_,_,_,_,rfl,rfl,(iX.of e),rfl,y,false,rfl,k,false,rfl,cE q⟩
 | @bot a y z e k k' =>
  refine ⟨_,rfl,_,_,"tuple",true,rfl,.tup e,gO K,true,rfl,bU ?_⟩
  refine ⟨_,rfl,a,_,rfl,.inr (iX.of e),rfl,_,rfl,za rfl ?_⟩
  exact ⟨_,rfl,_,_,_,_,rfl,rfl,(iX.of e),rfl,y,true,rfl,k,true,rfl,bU ⟨_,rfl,_,_,_,_,rfl,rfl,(iX.of e),rfl,z,false,rfl,k',false,rfl,cE q⟩⟩
 | @two a p q' e =>
  refine ⟨_,rfl,_,_,"tuple",true,rfl,.tup e,gO K,true,rfl,bU ?_⟩
  refine ⟨_,rfl,a,_,rfl,.inr (iX.of e),rfl,_,rfl,za rfl ?_⟩
  refine ⟨_,rfl,_,_,_,_,rfl,rfl,(iX.of e),rfl,_,true,rfl,rT p,true,rfl,bU ⟨_,rfl,_,_,_,_,rfl,rfl,(iX.of e),rfl,_,true,rfl,rT q',true,rfl,bU ?_⟩⟩
  refine ⟨_,rfl,_,_,_,_,rfl,rfl,(iX.of e),rfl,_,_,rfl,rfl,_,rfl,d2 (fun c => ?_) (fun c => ?_)⟩
  ·refine ⟨_,rfl,_,_,_,_,rfl,rfl,(iX.of e),rfl,_,rfl,_,_,_,_,rfl,rfl,(iX.of e),rfl,_,_,rfl,rfl,?_⟩
   have d : Q (.bl (decide (V.int (bD p q') = V.int 1))) H := by
    have e2 : decide (V.int (bD p q') = V.int 1) = (decide (1 <= q') && decide (bD p q' = 1)) := by
     rw [decide_eq_true c,Bool.true_and]
     by_cases k : bD p q' = 1
     ·rw [decide_eq_true k,decide_eq_true (vi k)]
     ·rw [decide_eq_false k,decide_eq_false fun z => k (vj z)]
    rw [e2]
    exact q
   exact d
  ·have d : Q (.bl false) H := by
    have e2 : false = (decide (1 <= q') && decide (bD p q' = 1)) := by
     rw [decide_eq_false c,Bool.false_and]
    rw [e2]
    exact q
   exact d
theorem zD : aD ["thing","sign"] ["thing"] (ap yD) := ⟨rfl,rfl,rfl,by decide +kernel,rfl,by decide +kernel,by decide +kernel⟩
set_option maxHeartbeats 4000000 in
theorem zE {dV : Value} (F : bH K "is_name" "is_name" yD dV f fd) (B : Bn K mg c_EmptyHeap c_InRing c_Larder c_NoAmount c_NoDish c_NoName c_NoNet c_NoNumber c_NoPack c_NoPlan c_NoRow c_NoStand c_NoStandIn c_NoStep c_StoveError c_TooFew c_TooMany c_Twice f_Z11 f_Z12 f_Z13 f_Z14 f_Z15 f_Z16 f_Z17 f_Z18 f_Z19)  : bh P w K mg base bw 1 f fd ["thing"] (fG K) := by
 have sc := zD
 refine F.ok sc (fun vs H Q E h => ?_) (fun cdv A outer s H vs Q E hr h => ?_)
 ·obtain ⟨x,rfl,_⟩ := h
  rfl
 obtain ⟨x,rfl,h⟩ := h
 refine ⟨_,(ag (a6 (PW.pt (fj (cw (cv (aK (cG (K := K) rfl) rfl B.b_isinstance boot_isinstance (aa (pv 0) (aa (cO (v := .ty "str") rfl B.b_str boot_str rfl) aj))))) (fj (av oB (aK cC rfl B.b_len boot_len (aa (pv 0) aj)) am (aC _)) (eP (av oC (aK cC rfl B.b_len boot_len (aa (pv 0) aj)) (lO rfl B.g_MOST_LETTERS) (aC _)))))) (ak (aG bL)) aI) (ag (eT PassesOwn.never rfl (rZ (pv 0)) (ce (i := 1) sc.nd rfl (Or.inl rfl)) (ak (a6 (av fz (pv 1) (r8 rfl B.g_LETTERS) (by with_unfolding_all rfl)) (ak (aG bL)) aI))) (ak (aG bL)))),?_⟩
 rcases h with ⟨z,rfl,hz,q1,q0⟩ | ⟨ty,hty,hk,q⟩
 ·have hz' : z.length <= sizeLine := Ae hz (by decide)
  have hl := iA z
  try dsimp only [bv,bA]
  refine cut (fun σ H' => H = H' /\ σ = [some (.str z),none] /\ 1 <= z.length /\ z.length <= 12) (fun N hN => ?_) ?_
  ·refine ⟨_,rfl,_,_,_,true,rfl,.str _,rfl,_,rfl,bU ⟨_,rfl,z,rfl,hz',_,_,rfl,rfl,_,rfl,d2 (fun c => ?_) (fun c1 => ⟨_,rfl,z,rfl,hz',_,_,rfl,rfl,_,rfl,d2 (fun c => ?_) (fun c2 => ?_)⟩)⟩⟩
   ·exact q0 fun n => by have := n.1; omega
   ·exact q0 fun n => by have := n.2.1; omega
   ·exact hN _ _ ⟨rfl,rfl,by omega,by omega⟩
  rintro σ _ ⟨rfl,rfl,l1,l2⟩
  refine ⟨_,rfl,z,rfl,uc (fun i σ H2 => H = H2 /\ (∃ o,σ = [some (.str z),o]) /\ ∀ j c,j < i -> z.cps[j]? = some c -> 97 <= c /\ c <= 122) ⟨rfl,⟨_,rfl⟩,fun j c h => absurd h (by omega)⟩ (fun i c σ H2 hc hP => ?_) (fun σ H2 hP => ?_)⟩
  ·obtain ⟨rfl,⟨o,rfl⟩,hP⟩ := hP
   refine ⟨_,rfl,_,_,rfl,rfl,_,rfl,zS (fun e => ?_) (fun e => ?_)⟩
   ·have e' := (kc c).symm.trans e
    refine q0 fun n => ?_
    have := n.2.2 c (AL (show (sL z)[i]? = some c by rw [<- hc]; exact AT))
    rw [decide_eq_true this] at e'
    cases e'
   ·have e' := (kc c).symm.trans e
    refine ⟨rfl,⟨_,rfl⟩,fun j c' hj hc' => ?_⟩
    rcases BP.mp hj with k | k
    ·exact hP j c' k hc'
    ·subst k
     rw [hc] at hc'
     cases hc'
     exact of_decide_eq_true e'
  ·obtain ⟨rfl,⟨o,rfl⟩,hP⟩ := hP
   refine q1 ⟨by omega,by omega,fun c hc => ?_⟩
   obtain ⟨i,hi⟩ := AW.mp hc
   have hi' : z.cps[i]? = some c := by rw [<- hi]; exact AT.symm
   exact hP i c (by have := (Bg.mp hi').1; exact this) hi'
 ·exact ⟨_,rfl,_,_,_,false,rfl,hty,hk,_,rfl,cE q⟩
theorem zF : aD ["things","thing"] ["things"] (ap yE) := ⟨rfl,rfl,rfl,by decide +kernel,rfl,by decide +kernel,by decide +kernel⟩
set_option maxHeartbeats 4000000 in
theorem zG {dV : Value} (F : bH K "refuse_no_names" "refuse_no_names" yE dV f fd) (B : Bn K mg c_EmptyHeap c_InRing c_Larder c_NoAmount c_NoDish c_NoName c_NoNet c_NoNumber c_NoPack c_NoPlan c_NoRow c_NoStand c_NoStandIn c_NoStep c_StoveError c_TooFew c_TooMany c_Twice f_Z11 f_Z12 f_Z13 f_Z14 f_Z15 f_Z16 f_Z17 f_Z18 f_Z19) (DZ5 : Dx P w K mg base bw 1 "is_name" ["thing"] [] (fG K)) : bh P w K mg base (b9 P w) 2 f fd ["things"] (dE K c_NoName) := by
 have sc := zF
 refine F.okX sc (fun vs H Q E h => ?_) (fun cdv A outer s H vs Q E hr h => ?_)
 ·obtain ⟨l,xs,rfl,_⟩ := h
  rfl
 obtain ⟨l,xs,rfl,hl,ho,kt,kf⟩ := h
 refine ⟨_,(ak (eT (rO rfl rfl) rfl (dA (pv 0)) (ce (i := 1) sc.nd rfl (Or.inl rfl)) (ak (a6 (cw (cv (aT DZ5 hr (by decide) rfl (aa (pv 1) aj)))) (ak (cJ B.x_NoName rfl B.m_NoName rfl bZ (aa aS aj))) aI)))),?_⟩
 refine ⟨_,rfl,l,rfl,⟨_,bu.of hl⟩,fo (xs := xs) (fun i σ H' => H = H' /\ (∃ o,σ = [some (.ref l),o]) /\ ∀ (j : Nat) x,j < i -> xs[j]? = some x -> iB x) ⟨rfl,⟨_,rfl⟩,fun j x h => absurd h (Nat.not_lt_zero _)⟩ (fun i σ H' _ h => by rw [<- h.1]; exact bu.of hl) ?_ ?_⟩
 ·rintro i x σ H' hx ⟨rfl,⟨o,rfl⟩,hP⟩
  by_cases hn : iB x
  ·obtain ⟨z,rfl,nz⟩ := id hn
   refine ⟨_,rfl,_,rfl,.inl ⟨z,rfl,v5 nz,fun _ => ?_,fun n => absurd nz n⟩⟩
   refine ⟨_,rfl,?_⟩
   exact ⟨rfl,⟨_,rfl⟩,fun j y hj hy => by
    rcases BP.mp hj with q | q
    ·exact hP j y q hy
    ·subst q; rw [hx] at hy; cases hy; exact hn⟩
  ·have bad : ¬ ∀ x ∈ xs,iB x := fun a => hn (a x (AL hx))
   rcases (ho x (AL hx)).resolve_left hn with ⟨z,rfl,lz,nz⟩ | ⟨ty,h1,h2⟩
   ·refine ⟨_,rfl,_,rfl,.inl ⟨z,rfl,lz,fun n => absurd n nz,fun _ => ?_⟩⟩
    exact ⟨_,rfl,(by show 1 <= sizeLine; decide),kf bad _ fun _ _ e => e⟩
   ·refine ⟨_,rfl,_,rfl,.inr ⟨ty,h1,h2,?_⟩⟩
    exact ⟨_,rfl,(by show 1 <= sizeLine; decide),kf bad _ fun _ _ e => e⟩
 ·rintro σ H' ⟨rfl,⟨o,rfl⟩,hP⟩
  exact kt fun x hx => by
   obtain ⟨j,hj⟩ := AW.mp hx
   exact hP j x (A1.mp hj).1 hj
theorem zH : aD ["parts","good","ahead","waiting","name","part"] ["parts","good"] (ap yF) := ⟨rfl,rfl,rfl,by decide +kernel,rfl,by decide +kernel,by decide +kernel⟩
set_option maxHeartbeats 4000000 in
theorem zI {dV : Value} (F : bH K "names_ahead" "names_ahead" yF dV f fd) (B : Bn K mg c_EmptyHeap c_InRing c_Larder c_NoAmount c_NoDish c_NoName c_NoNet c_NoNumber c_NoPack c_NoPlan c_NoRow c_NoStand c_NoStandIn c_NoStep c_StoveError c_TooFew c_TooMany c_Twice f_Z11 f_Z12 f_Z13 f_Z14 f_Z15 f_Z16 f_Z17 f_Z18 f_Z19)  : bh P w K mg base bw 1 f fd ["parts","good"] gQ := by
 have sc := zH
 refine F.ok sc (fun vs H Q E h => ?_) (fun cdv A outer s H vs Q E hr h => ?_)
 ·obtain ⟨d,good,rows,ps,rfl,_⟩ := h
  rfl
 obtain ⟨d,good,rows,ps,rfl,dd,ok,few,q⟩ := h
 obtain ⟨rs,dr,ed,ndr,dnr⟩ := dd.ex
 refine ⟨_,(ag (aL (i := 2) sc.nd rfl (Or.inl rfl) (oJ (lA (pv 1) dQ oH) rfl rfl (by simp) (by decide))) (ag (aL (i := 3) sc.nd rfl (Or.inl rfl) (bg (aa (pv 1) aj))) (ag (hG PassesOwn.never (av oC (aK bR rfl B.b_len boot_len (aa (pv 3) aj)) am (aC _)) (ag (aL (i := 4) sc.nd rfl (Or.inl rfl) (vy PySem.F.plainAttrs_list PySem.F.slot_list_pop PySem.F.type_list_pop vz (pv 3))) (ak (sj (eT PassesOwn.never rfl (o9 (lB (cQ hr) (pv 0) (pv 4) b4 ⟨rfl,rfl,rfl,rfl⟩)) (ce (i := 5) sc.nd rfl (Or.inl rfl)) (ak (a6 (jI (f7 (cQ hr) (pv 5) (pv 2)) (by with_unfolding_all rfl)) (ag (dC (cQ hr) (pv 2) (pv 5) (pv 4) rfl) (ak (bC (lh PySem.F.plainAttrs_list PySem.F.slot_list_append PySem.F.type_list_append df (pv 3) (aa (pv 5) aj))))) aI))))))) (ak (aG (pv 2)))))),?_⟩
 have slt : (6000 : Nat) < sizeLine := by decide
 refine fun ah na => ⟨_,rfl,ae,[(.inr good,.non)],rfl,(by show 1 <= 15; decide),?_⟩
 have ga : au H (ar (ar H ah (.dK [])) ah (.dK (cx [] [((.inr good : Key),V.non)]))) := by
  rw [ou]
  exact ai na _
 have ea : (ar (ar H ah (.dK [])) ah (.dK (cx [] [((.inr good : Key),V.non)]))) ah = some (.dK (aP [(good,none)])) := ae
 generalize ar (ar H ah (.dK [])) ah (.dK (cx [] [((.inr good : Key),V.non)])) = H0 at ga ea ⊢
 refine ⟨_,rfl,(by show 1 <= sizeLine; decide),fun wt nw => ?_⟩
 have nwH : H wt = none := ga.free nw
 have g0 := ga.trans (ai nw (.lst [.str good]))
 have e0 : ar H0 wt (.lst [.str good]) ah = some (.dK (aP [(good,none)])) := ai nw _ _ _ ea
 have aw : ah ≠ wt := fun z => by rw [z,nw] at ea; cases ea
 try dsimp only [bv,bA]
 refine hJ (fun σ H' => au H H' /\ ∃ (es : List (Str × Option Str)) (ws : List Str) (o4 o5 : Option V),σ = [some (.ref d),some (.str good),some (.ref ah),some (.ref wt),o4,o5] /\ H' ah = some (.dK (aP es)) /\ H' wt = some (.lst (ws.map V.str)) /\ cr ps good es /\ (∀ y ∈ ws,y ∈ aE es) /\ (∀ y ∈ aE es,y ∉ ws -> ∀ b,(y,b) ∈ ps -> b ∈ aE es) /\ 2 * (1002 - (aE es).length) + ws.length <= 5000)
  (fun (σ : L2.St) (H' : Hp) => match H' ah,H' wt with | some (.dK kvs),some (.lst xs) => 2 * (1002 - kvs.length) + xs.length | _,_ => 0)
  ⟨g0,[(good,none)],[good],none,none,rfl,e0,ae,.start ps good few,fun y hy => by simpa [aE] using hy,fun y hy n => absurd (by simpa [aE] using hy) n,by show 2 * (1002 - 1) + 1 <= 5000; decide⟩ ?_
  (fun σ H Q Q' m ⟨v,e,a,ys,e1,e2,i,j,e3,e4,k,hk,h2⟩ => ⟨v,e,a,ys,e1,e2,i,j,e3,e4,k,hk,m _ _ h2⟩)
 rintro σ H1 ⟨g1,es,ws,o4,o5,rfl,e1,w1,ab,wsub,cl,mes⟩
 refine ⟨_,rfl,wt,_,rfl,.inl (bu.of w1),_,_,rfl,rfl,_,rfl,d2 (fun c => ?_) (fun c => ?_)⟩
 ·rcases List.eq_nil_or_concat ws with rfl | ⟨ws0,nm,rfl⟩
  ·simp at c
  rw [List.concat_eq_append] at *
  have nmk : nm ∈ aE es := wsub nm (by simp)
  have wl : (ws0 ++ [nm]).length = ws0.length + 1 := by simp
  refine ⟨_,rfl,.inl ⟨rfl,_,bu.of w1⟩,wt,_,.str nm,rfl,rfl,w1,(by simp),?_⟩
  have w2 : ((ws0 ++ [nm]).map V.str).dropLast = ws0.map V.str := by simp
  rw [w2]
  have g2 := iz (o := .lst (ws0.map V.str)) g1 nwH
  have e2 : ar H1 wt (.lst (ws0.map V.str)) ah = some (.dK (aP es)) := by rw [af aw]; exact e1
  have w2' : ar H1 wt (.lst (ws0.map V.str)) wt = some (.lst (ws0.map V.str)) := ae
  generalize ar H1 wt (.lst (ws0.map V.str)) = H2 at g2 e2 w2' ⊢
  refine ⟨_,rfl,d,rfl,.inl ⟨_,.inl (g2 _ _ ed)⟩,_,rfl,fun pn hn => ⟨_,dB.k (k := .inr nm) (ai hn _ _ _ (g2 _ _ ed)),?_⟩⟩
  have g3 := g2.trans (ai hn (.dK []))
  have e3 := ai hn (.dK []) _ _ e2
  have w3 := ai hn (.dK []) _ _ w2'
  have hnH : H pn = none := g2.free hn
  obtain ⟨rw_,ys,hx,hr,hH,ysl,ym,ra,rw1⟩ : ∃ (r : Addr) (ys : List Str),(aN (cy rows rs) (.inr nm)).getD (.ref pn) = .ref r /\ (ar H2 pn (.dK [])) r = some (.dK (bj ys (.bl true))) /\ (H r = none ∨ H r = some (.dK (bj ys (.bl true)))) /\ ys.length <= 1000 /\ (∀ b,b ∈ ys ↔ (nm,b) ∈ ps) /\ r ≠ ah /\ r ≠ wt := by
   rcases wa (x := nm) dr ndr ok with ⟨hv,no⟩ | ⟨r,ys,hv,_,hH,hl,_,hm⟩
   ·rw [hv]
    exact ⟨pn,[],rfl,ae,.inl hnH,by simp,fun b => ⟨fun h => by simp at h,fun h => absurd h (no b)⟩,(fun z => by rw [z,e2] at hn; cases hn),(fun z => by rw [z,w2'] at hn; cases hn)⟩
   ·rw [hv]
    exact ⟨r,ys,rfl,g3 _ _ hH,.inr hH,by omega,hm,(fun z => by rw [z,na] at hH; cases hH),(fun z => by rw [z,nwH] at hH; cases hH)⟩
  rw [hx]
  generalize ar H2 pn (.dK []) = H3 at g3 e3 w3 hr ⊢
  refine ⟨rw_,_,rfl,hr,fun o nf => ?_⟩
  have fah : ar H rw_ (.frz o (.dK (bj ys (.bl true)))) ah = none := by rw [af (Ne.symm ra)]; exact na
  have fwt : ar H rw_ (.frz o (.dK (bj ys (.bl true)))) wt = none := by rw [af (Ne.symm rw1)]; exact nwH
  refine sk (kvs := bj ys (.bl true)) (fun i σ H4 => au (ar H rw_ (.frz o (.dK (bj ys (.bl true))))) H4 /\ ∃ (es' : List (Str × Option Str)) (ws' : List Str) (o5 : Option V),σ = [some (.ref d),some (.str good),some (.ref ah),some (.ref wt),some (.str nm),o5] /\ H4 ah = some (.dK (aP es')) /\ H4 wt = some (.lst (ws'.map V.str)) /\ cr ps good es' /\ nm ∈ aE es' /\ (∀ y ∈ ws',y ∈ aE es') /\ (∀ y ∈ aE es',y ≠ nm -> y ∉ ws' -> ∀ b,(y,b) ∈ ps -> b ∈ aE es') /\ (∀ (j : Nat) (b : Str),j < i -> ys[j]? = some b -> b ∈ aE es') /\ 2 * (1002 - (aE es').length) + ws'.length <= 2 * (1002 - (aE es).length) + ws0.length)
   ⟨sA g3 _ _,es,ws0,o5,rfl,by rw [af (Ne.symm ra)]; exact e3,by rw [af (Ne.symm rw1)]; exact w3,ab,nmk,fun y hy => wsub y (by simp [hy]),fun y hy hn hw => cl y hy (by simp [hn,hw]),fun j b h => absurd h (by omega),A5 _⟩
   (fun i σ H4 _ h => h.1 _ _ ae) ?_ ?_
  ·rintro i k x σ H4 hk ⟨g4,es',ws',o5,rfl,e4,w4,ab',nm',wsub',cl',pr',mes'⟩
   obtain ⟨b,hb,rfl⟩ := um hk
   have hbp : (nm,b) ∈ ps := (ym b).mp (AL hb)
   have rm := ab'.room
   refine ⟨_,rfl,_,rfl,ah,_,rfl,dB.k (k := .inr b) e4,_,rfl,?_⟩
   rw [gi]
   refine zS (fun hf => ?_) (fun ht => ?_)
   ·have nb := of_decide_eq_false hf
    refine ⟨_,rfl,_,rfl,_,rfl,ah,_,rfl,fZ.k (k := .inr b) e4 (by rw [dH]; omega),?_⟩
    rw [qp nb]
    have w5 : ar H4 ah (.dK (aP (es' ++ [(b,some nm)]))) wt = some (.lst (ws'.map V.str)) := by rw [af (Ne.symm aw)]; exact w4
    have g5 := iz (o := .dK (aP (es' ++ [(b,some nm)]))) g4 fah
    have nk := dI es' b (some nm)
    refine ⟨_,rfl,.inl ⟨rfl,_,bu.of w5⟩,_,rfl,wt,_,_,rfl,rfl,w5,(by rw [A8]; omega),?_⟩
    refine ⟨iz g5 fwt _,es' ++ [(b,some nm)],ws' ++ [b],_,rfl,by rw [af aw]; exact ae,by rw [ae,BL]; rfl,ab'.add nm' nb hbp,by rw [nk]; simp [nm'],fun y hy => ?_,fun y hy hn hw c hc => ?_,fun j c hj hc => ?_,?_⟩
    ·rw [nk]
     rcases A9.mp hy with k | k
     ·simp [wsub' y k]
     ·simp at k
      simp [k]
    ·rw [nk] at hy ⊢
     simp at hw
     rcases A9.mp hy with k | k
     ·simp [cl' y k hn hw.1 c hc]
     ·simp at k
      exact absurd k hw.2
    ·rw [nk]
     rcases BP.mp hj with k | rfl
     ·simp [pr' j c k hc]
     ·rw [hb] at hc
      cases hc
      simp
    ·rw [nk]
     simp only [AA,Ad,BE]
     omega
   ·have ib := of_decide_eq_true ht
    refine ⟨g4,es',ws',_,rfl,e4,w4,ab',nm',wsub',cl',fun j c hj hc => ?_,mes'⟩
    rcases BP.mp hj with k | rfl
    ·exact pr' j c k hc
    ·rw [hb] at hc
     cases hc
     exact ib
  ·rintro σ H4 ⟨g4,es',ws',o5,rfl,e4,w4,ab',nm',wsub',cl',pr',mes'⟩
   rw [b6] at pr'
   have e5 : ar H4 rw_ (.dK (bj ys (.bl true))) ah = some (.dK (aP es')) := by rw [af (Ne.symm ra)]; exact e4
   have w5 : ar H4 rw_ (.dK (bj ys (.bl true))) wt = some (.lst (ws'.map V.str)) := by rw [af (Ne.symm rw1)]; exact w4
   refine ⟨rw_,o,bj ys (.bl true),g4 _ _ ae,nf,⟨fun b' u hb' => ?_,es',ws',_,o5,rfl,e5,w5,ab',wsub',fun y hy hw b hb => ?_,by simp only [AA,Ad,BE] at mes; omega⟩,?_⟩
   ·by_cases z : b' = rw_
    ·subst z
     rcases hH with k | k
     ·rw [k] at hb'; cases hb'
     ·rw [k] at hb'
      cases hb'
      exact ae
    ·rw [af z]
     exact g4 _ _ (by rw [af z]; exact hb')
   ·by_cases z : y = nm
    ·subst z
     obtain ⟨j,hj⟩ := AW.mp ((ym b).mpr hb)
     exact pr' j b (A1.mp hj).1 hj
    ·exact cl' y hy z hw b hb
   ·rw [e5,w5,e1,w1]
    show 2 * (1002 - (aP es').length) + (ws'.map V.str).length < 2 * (1002 - (aP es).length) + ((ws0 ++ [nm]).map V.str).length
    rw [dH,dH,A8,A8,AA]
    simp only [Ad,BE]
    omega
 ·have wz : ws = [] := by
   rw [A8] at c
   exact Ar (by omega)
  subst wz
  exact ⟨_,rfl,q ah H1 es g1 e1 ⟨ab,fun y => ⟨ab.led y,fun l => l.closed (S := fun y => y ∈ aE es) ab.good fun a b ha hab => cl a ha (by simp) b hab⟩⟩⟩
theorem zJ : aD ["ahead","goal","chain","name"] ["ahead","goal"] (ap yG) := ⟨rfl,rfl,rfl,by decide +kernel,rfl,by decide +kernel,by decide +kernel⟩
set_option maxHeartbeats 4000000 in
theorem zK {dV : Value} (F : bH K "chain_to" "chain_to" yG dV f fd) (B : Bn K mg c_EmptyHeap c_InRing c_Larder c_NoAmount c_NoDish c_NoName c_NoNet c_NoNumber c_NoPack c_NoPlan c_NoRow c_NoStand c_NoStandIn c_NoStep c_StoveError c_TooFew c_TooMany c_Twice f_Z11 f_Z12 f_Z13 f_Z14 f_Z15 f_Z16 f_Z17 f_Z18 f_Z19)  : bh P w K mg base bw 1 f fd ["ahead","goal"] sS := by
 have sc := zJ
 refine F.ok sc (fun vs H Q E h => ?_) (fun cdv A outer s H vs Q E hr h => ?_)
 ·obtain ⟨ah,goal,good,ps,es,rfl,_⟩ := h
  rfl
 obtain ⟨ah,goal,good,ps,es,rfl,ea,ab,hg,q⟩ := h
 refine ⟨_,(ag (aL (i := 2) sc.nd rfl (Or.inl rfl) (bg aj)) (ag (aL (i := 3) sc.nd rfl (Or.inl rfl) (pv 1)) (ag (hG PassesOwn.never (av jJ (pv 3) dQ (aC _)) (ag (bC (lh PySem.F.plainAttrs_list PySem.F.slot_list_append PySem.F.type_list_append df (pv 2) (aa (pv 3) aj))) (ak (aL (i := 3) sc.nd rfl (Or.inl rfl) (tK (cQ hr) (pv 0) (pv 3) (fun _ _ => rfl)))))) (ak (aG (nN rfl rfl B.b_list rfl B.b_reversed boot_list PyProof.Rows.Boot.«reversed» (pv 2))))))),?_⟩
 have slt : (3000 : Nat) < sizeLine := by decide
 have kl : (aE es).length = es.length := by simp [aE]
 have rm := ab.room
 refine ⟨(by show 0 <= sizeLine; omega),fun lc nl => ?_⟩
 have g0 := ai nl (.lst [])
 refine ⟨_,rfl,?_⟩
 try dsimp only [bv,bA]
 refine hJ (fun σ H' => au H H' /\ ∃ (rc : List Str) (o : Option Str),σ = [some (.ref ah),some (.str goal),some (.ref lc),some (nO o)] /\ H' lc = some (.lst (rc.map V.str)) /\ Back ps good goal es rc o)
  (fun (σ : L2.St) (H' : Hp) => mj es σ[3]?)
  ⟨g0,[],some goal,rfl,ae,.start hg⟩ ?_
  (fun σ H Q Q' m ⟨v,e,e2,b,hb,h2⟩ => ⟨v,e,e2,b,hb,m _ _ h2⟩)
 rintro σ H1 ⟨g1,rc,o,rfl,e1,bk⟩
 refine ⟨_,rfl,rfl,_,rfl,?_⟩
 cases o with
 | none =>
  refine bU ⟨_,rfl,lc,_,rfl,bu.of e1,fun p hp => q p _ rc.reverse (g1.trans (ai hp _)) (g1.free hp) (by rw [ae,List.map_reverse]) (bk.way ab)⟩
 | some y =>
  obtain ⟨i,oy,hi,_,_,hl⟩ := bk.nxt y rfl
  have al : ah ≠ lc := fun z => by rw [z,nl] at ea; cases ea
  refine cE ⟨_,rfl,.inl ⟨rfl,_,bu.of e1⟩,_,rfl,lc,_,_,rfl,rfl,e1,(by rw [A8]; omega),?_⟩
  refine ⟨_,rfl,_,rfl,ah,_,rfl,(by rw [<- sw ab.nd hi]; exact dB.k (k := .inr y) (by rw [af al]; exact g1 _ _ ea)),⟨iz g1 nl _,rc ++ [y],oy,rfl,by rw [ae,BL]; rfl,bk.step ab hi⟩,sB ab hi⟩
theorem zL : aD ["parts","good","goals","ahead","found"] ["parts","good","goals"] (ap yH) := ⟨rfl,rfl,rfl,by decide +kernel,rfl,by decide +kernel,by decide +kernel⟩
set_option maxHeartbeats 4000000 in
theorem zM {dV : Value} (F : bH K "chain_down" "chain_down" yH dV f fd) (B : Bn K mg c_EmptyHeap c_InRing c_Larder c_NoAmount c_NoDish c_NoName c_NoNet c_NoNumber c_NoPack c_NoPlan c_NoRow c_NoStand c_NoStandIn c_NoStep c_StoveError c_TooFew c_TooMany c_Twice f_Z11 f_Z12 f_Z13 f_Z14 f_Z15 f_Z16 f_Z17 f_Z18 f_Z19) (DZ7 : Dx P w K mg base bw 1 "names_ahead" ["parts","good"] [] gQ) (DZ8 : Dx P w K mg base bw 1 "chain_to" ["ahead","goal"] [] sS) : bh P w K mg base bw 2 f fd ["parts","good","goals"] dO := by
 have sc := zL
 refine F.ok sc (fun vs H Q E h => ?_) (fun cdv A outer s H vs Q E hr h => ?_)
 ·obtain ⟨d,lg,good,rows,ps,gs,rfl,_⟩ := h
  rfl
 obtain ⟨d,lg,good,rows,ps,gs,rfl,dd,ok,few,hg,q1,q2⟩ := h
 refine ⟨_,(ag (aL (i := 3) sc.nd rfl (Or.inl rfl) (aT DZ7 hr (by decide) rfl (aa (pv 0) (aa (pv 1) aj)))) (ag (sj (jx sc.nd (i := 4) rfl rfl (own := "name") (ys := ["goals"]) (js := [2]) rfl (wq (vZ wp) (.cons rfl .nil) (by decide) rfl rfl rfl rfl rfl rfl rfl rfl) (o9 (pv 3)) (fun C fp s H => (av (wb (K := K) rfl) (pv 0) (pv 1) (by with_unfolding_all rfl))) (fun C fp s H => (pv 0)))) (ag (a6 (av bX (aK bR rfl B.b_len boot_len (aa (pv 4) aj)) am (aC _)) (ak (aG dQ)) aI) (ak (aG (aT DZ8 hr (by decide) rfl (aa (pv 3) (aa (bO bQ (pv 4) am (fun _ _ => rfl)) aj)))))))),?_⟩
 have slt : (3000 : Nat) < sizeLine := by decide
 refine ⟨_,rfl,_,rfl,d,good,rows,ps,rfl,dd,ok,few,fun ah H1 es g1 e1 ao => ?_⟩
 have rm := ao.base.room
 have kl := dH es
 have l1 := g1 _ _ hg
 have la : lg ≠ ah := fun z => by rw [z,e1] at l1; cases l1
 refine ⟨_,rfl,ah,_,rfl,e1,fun o nf => ?_⟩
 refine mq (zk gs) ae (by omega) (fun i k x hk H3 g3 R hR => ?_) (fun p H' g' e' => ?_)
 ·have hk' := hk
  unfold aP at hk'
  rw [Ac] at hk'
  cases he : es[i]? with
  | none => rw [he] at hk'; cases hk'
  | some e =>
   rw [he] at hk'
   cases hk'
   refine ⟨_,rfl,_,rfl,lg,_,rfl,.inl (bu.of (g3 _ _ (by rw [af la]; exact l1))),rfl,dj gs,_,rfl,?_⟩
   show R (tF (.str e.1) (gs.map V.str)) H3
   rw [fN]
   exact hR
 ·have fa := g' _ _ ae
  have pa : p ≠ ah := fun z => by rw [z,fa] at e'; cases e'
  have g2 : au H (ar H' ah (.dK (aP es))) := fun b u hb => by
   by_cases z : b = ah
   ·subst z
    have := (g1 _ _ hb).symm.trans e1
    cases this
    exact ae
   ·rw [af z]
    exact g' _ _ (by rw [af z]; exact g1 _ _ hb)
  have e2 : ar H' ah (.dK (aP es)) ah = some (.dK (aP es)) := ae
  rw [mw] at e'
  have p2 : ar H' ah (.dK (aP es)) p = some (.lst (((aE es).filter fun y => decide (y ∈ gs)).map V.str)) := by rw [af pa]; exact e'
  refine ⟨ah,o,aP es,fa,nf,?_⟩
  generalize ar H' ah (.dK (aP es)) = H2 at g2 e2 p2 ⊢
  clear g' e' fa
  have mem : ∀ y,y ∈ ((aE es).filter fun y => decide (y ∈ gs)) ↔ y ∈ aE es /\ y ∈ gs := fun y => by simp [Ap]
  have hd : good ∈ gs -> ∃ r,((aE es).filter fun y => decide (y ∈ gs)) = good :: r := fun hin => by
   have k0 := fM ao.base.first
   cases ek : aE es with
   | nil => rw [ek] at k0; simp at k0
   | cons c r =>
    rw [ek] at k0
    simp at k0
    subst k0
    exact ⟨_,List.filter_cons_of_pos (by exact decide_eq_true hin)⟩
  generalize ((aE es).filter fun y => decide (y ∈ gs)) = fs at p2 mem hd
  refine ⟨_,rfl,p,_,rfl,.inl (bu.of p2),rfl,_,rfl,?_⟩
  cases fs with
  | nil => exact cE (q1 H2 g2 fun y hy l => by simpa using (mem y).mpr ⟨(ao.all y).mpr l,hy⟩)
  | cons c r =>
   have hc := (mem c).mp (B2)
   refine dF (p := V.int (((c :: r).map V.str).length : Int) = V.int 0) (fun z => by injection z with z; simp at z; omega) ?_
   refine ⟨_,rfl,_,rfl,p,_,0,.str c,rfl,rfl,bu.of p2,(show k9 ((c :: r).map V.str) ((0 : Nat) : Int) = some (.str c) from eE rfl),ah,c,good,ps,es,rfl,e2,ao.base,hc.1,fun l H3 cs g3 nl3 e3 wy => ?_⟩
   exact q2 l H3 cs c (g2.trans g3) (g2.free nl3) e3 wy hc.2 ((ao.all c).mp hc.1) fun hin => by
    obtain ⟨r',hr'⟩ := hd hin
    cases hr'
    rfl
theorem xv : aD ["parts","good"] ["parts","good"] (ap uF) := ⟨rfl,rfl,rfl,by decide +kernel,rfl,by decide +kernel,by decide +kernel⟩
set_option maxHeartbeats 4000000 in
theorem xw {dV : Value} (F : bH K "all_inside" "all_inside" uF dV f fd) (B : Bn K mg c_EmptyHeap c_InRing c_Larder c_NoAmount c_NoDish c_NoName c_NoNet c_NoNumber c_NoPack c_NoPlan c_NoRow c_NoStand c_NoStandIn c_NoStep c_StoveError c_TooFew c_TooMany c_Twice f_Z11 f_Z12 f_Z13 f_Z14 f_Z15 f_Z16 f_Z17 f_Z18 f_Z19) (DZ7 : Dx P w K mg base bw 1 "names_ahead" ["parts","good"] [] gQ) : bh P w K mg base bw 2 f fd ["parts","good"] iK := by
 have sc := xv
 refine F.ok sc (fun vs H Q E h => ?_) (fun cdv A outer s H vs Q E hr h => ?_)
 ·obtain ⟨d,good,rows,ps,rfl,_⟩ := h
  rfl
 obtain ⟨d,good,rows,ps,rfl,dd,ok,few,q⟩ := h
 refine ⟨_,(ak (aG (aK (dL rfl) rfl B.b_sorted PyProof.Rows.Boot.«sorted» (aa (aT DZ7 hr (by decide) rfl (aa (pv 0) (aa (pv 1) aj))) aj)))),?_⟩
 refine ⟨_,rfl,_,rfl,d,good,rows,ps,rfl,dd,ok,few,fun ah H1 es g1 e1 ao => ?_⟩
 refine ⟨ah,aE es,_,rfl,e1,mD es,ao.base.nd,fun p ys np pr sr => q p _ ys (g1.trans (ai np _)) (g1.free np) ae sr (pr.nodup_iff.mpr ao.base.nd) fun y => (pr.mem_iff).trans (ao.all y)⟩
theorem xz : aD ["self"] ["self"] (ap uG) := ⟨rfl,rfl,rfl,by decide +kernel,rfl,by decide +kernel,by decide +kernel⟩
set_option maxHeartbeats 4000000 in
theorem xA {dV : Value} (F : bH K "__init__" "Larder.__init__" uG dV f fd) (B : Bn K mg c_EmptyHeap c_InRing c_Larder c_NoAmount c_NoDish c_NoName c_NoNet c_NoNumber c_NoPack c_NoPlan c_NoRow c_NoStand c_NoStandIn c_NoStep c_StoveError c_TooFew c_TooMany c_Twice f_Z11 f_Z12 f_Z13 f_Z14 f_Z15 f_Z16 f_Z17 f_Z18 f_Z19)  : bh P w K mg base bw 1 f fd ["self"] (gn c_Larder) := by
 have sc := xz
 refine F.ok sc (fun vs H Q E h => ?_) (fun cdv A outer s H vs Q E hr h => ?_)
 ·obtain ⟨x,dx,rfl,_⟩ := h
  rfl
 obtain ⟨x,dx,rfl,e0,q⟩ := h
 refine ⟨_,(ag (jK (pv 0) b4 rfl) (ag (jK (pv 0) b4 rfl) (ag (jK (pv 0) b4 rfl) (ak (jK (pv 0) b4 rfl))))),?_⟩
 have k0 : i9 x H H := fun _ _ _ e => e
 have l0 : ([] : List (Str × V)).length <= 0 := A5 _
 intro p np
 have xp : x ≠ p := fun z => by rw [<- z,e0] at np; cases np
 refine ⟨_,rfl,x,_,dx,_,rfl,(by rw [af xp]; exact e0),B.cl_Larder,B.na_Larder_parts,(by omega),?_⟩
 have e1 : (ar (ar H p (.dK [])) x (.ins c_Larder dx (aB "parts" (.ref p) []))) x = some (.ins c_Larder dx (aB "parts" (.ref p) [])) := ae
 have k1 : i9 x H (ar (ar H p (.dK [])) x (.ins c_Larder dx (aB "parts" (.ref p) []))) := k0.trans (i9.step (.dK []) np)
 have vp : (ar (ar H p (.dK [])) x (.ins c_Larder dx (aB "parts" (.ref p) []))) p = some (.dK []) := by rw [af (Ne.symm xp)]; exact ae
 have l1 : ((aB "parts" (.ref p) []) : List (Str × V)).length <= 1 := by have := bY "parts" (.ref p) []; omega
 have fp : H p = none := by
  cases h : H p with
  | none => rfl
  | some ob => rw [k0 p ob (Ne.symm xp) h] at np; cases np
 generalize (ar (ar H p (.dK [])) x (.ins c_Larder dx (aB "parts" (.ref p) []))) = H1 at e1 k1 vp ⊢
 intro st nst
 have xst : x ≠ st := fun z => by rw [<- z,e1] at nst; cases nst
 refine ⟨_,rfl,x,_,dx,_,rfl,(by rw [af xst]; exact e1),B.cl_Larder,B.na_Larder_stands,(by omega),?_⟩
 have e2 : (ar (ar H1 st (.dK [])) x (.ins c_Larder dx (aB "stands" (.ref st) (aB "parts" (.ref p) [])))) x = some (.ins c_Larder dx (aB "stands" (.ref st) (aB "parts" (.ref p) []))) := ae
 have k2 : i9 x H (ar (ar H1 st (.dK [])) x (.ins c_Larder dx (aB "stands" (.ref st) (aB "parts" (.ref p) [])))) := k1.trans (i9.step (.dK []) nst)
 have vst : (ar (ar H1 st (.dK [])) x (.ins c_Larder dx (aB "stands" (.ref st) (aB "parts" (.ref p) [])))) st = some (.dK []) := by rw [af (Ne.symm xst)]; exact ae
 have l2 : ((aB "stands" (.ref st) (aB "parts" (.ref p) [])) : List (Str × V)).length <= 2 := by have := bY "stands" (.ref st) (aB "parts" (.ref p) []); omega
 have fst : H st = none := by
  cases h : H st with
  | none => rfl
  | some ob => rw [k1 st ob (Ne.symm xst) h] at nst; cases nst
 have wpst : p ≠ st := fun z => by rw [<- z,vp] at nst; cases nst
 replace vp : (ar (ar H1 st (.dK [])) x (.ins c_Larder dx (aB "stands" (.ref st) (aB "parts" (.ref p) [])))) p = some (.dK []) := i9.step (.dK []) nst p _ (Ne.symm xp) vp
 generalize (ar (ar H1 st (.dK [])) x (.ins c_Larder dx (aB "stands" (.ref st) (aB "parts" (.ref p) [])))) = H2 at e2 k2 vst vp ⊢
 intro b nb
 have xb : x ≠ b := fun z => by rw [<- z,e2] at nb; cases nb
 refine ⟨_,rfl,x,_,dx,_,rfl,(by rw [af xb]; exact e2),B.cl_Larder,B.na_Larder_bars,(by omega),?_⟩
 have e3 : (ar (ar H2 b (.dK [])) x (.ins c_Larder dx (aB "bars" (.ref b) (aB "stands" (.ref st) (aB "parts" (.ref p) []))))) x = some (.ins c_Larder dx (aB "bars" (.ref b) (aB "stands" (.ref st) (aB "parts" (.ref p) [])))) := ae
 have k3 : i9 x H (ar (ar H2 b (.dK [])) x (.ins c_Larder dx (aB "bars" (.ref b) (aB "stands" (.ref st) (aB "parts" (.ref p) []))))) := k2.trans (i9.step (.dK []) nb)
 have vb : (ar (ar H2 b (.dK [])) x (.ins c_Larder dx (aB "bars" (.ref b) (aB "stands" (.ref st) (aB "parts" (.ref p) []))))) b = some (.dK []) := by rw [af (Ne.symm xb)]; exact ae
 have l3 : ((aB "bars" (.ref b) (aB "stands" (.ref st) (aB "parts" (.ref p) []))) : List (Str × V)).length <= 3 := by have := bY "bars" (.ref b) (aB "stands" (.ref st) (aB "parts" (.ref p) [])); omega
 have fb : H b = none := by
  cases h : H b with
  | none => rfl
  | some ob => rw [k2 b ob (Ne.symm xb) h] at nb; cases nb
 have wpb : p ≠ b := fun z => by rw [<- z,vp] at nb; cases nb
 have wstb : st ≠ b := fun z => by rw [<- z,vst] at nb; cases nb
 replace vp : (ar (ar H2 b (.dK [])) x (.ins c_Larder dx (aB "bars" (.ref b) (aB "stands" (.ref st) (aB "parts" (.ref p) []))))) p = some (.dK []) := i9.step (.dK []) nb p _ (Ne.symm xp) vp
 replace vst : (ar (ar H2 b (.dK [])) x (.ins c_Larder dx (aB "bars" (.ref b) (aB "stands" (.ref st) (aB "parts" (.ref p) []))))) st = some (.dK []) := i9.step (.dK []) nb st _ (Ne.symm xst) vst
 generalize (ar (ar H2 b (.dK [])) x (.ins c_Larder dx (aB "bars" (.ref b) (aB "stands" (.ref st) (aB "parts" (.ref p) []))))) = H3 at e3 k3 vb vp vst ⊢
 intro n nn
 have xn : x ≠ n := fun z => by rw [<- z,e3] at nn; cases nn
 refine ⟨_,rfl,x,_,dx,_,rfl,(by rw [af xn]; exact e3),B.cl_Larder,B.na_Larder_names,(by omega),?_⟩
 have e4 : (ar (ar H3 n (.dK [])) x (.ins c_Larder dx (aB "names" (.ref n) (aB "bars" (.ref b) (aB "stands" (.ref st) (aB "parts" (.ref p) [])))))) x = some (.ins c_Larder dx (aB "names" (.ref n) (aB "bars" (.ref b) (aB "stands" (.ref st) (aB "parts" (.ref p) []))))) := ae
 have k4 : i9 x H (ar (ar H3 n (.dK [])) x (.ins c_Larder dx (aB "names" (.ref n) (aB "bars" (.ref b) (aB "stands" (.ref st) (aB "parts" (.ref p) [])))))) := k3.trans (i9.step (.dK []) nn)
 have vn : (ar (ar H3 n (.dK [])) x (.ins c_Larder dx (aB "names" (.ref n) (aB "bars" (.ref b) (aB "stands" (.ref st) (aB "parts" (.ref p) [])))))) n = some (.dK []) := by rw [af (Ne.symm xn)]; exact ae
 have l4 : ((aB "names" (.ref n) (aB "bars" (.ref b) (aB "stands" (.ref st) (aB "parts" (.ref p) [])))) : List (Str × V)).length <= 4 := by have := bY "names" (.ref n) (aB "bars" (.ref b) (aB "stands" (.ref st) (aB "parts" (.ref p) []))); omega
 have fn : H n = none := by
  cases h : H n with
  | none => rfl
  | some ob => rw [k3 n ob (Ne.symm xn) h] at nn; cases nn
 have wpn : p ≠ n := fun z => by rw [<- z,vp] at nn; cases nn
 have wstn : st ≠ n := fun z => by rw [<- z,vst] at nn; cases nn
 have wbn : b ≠ n := fun z => by rw [<- z,vb] at nn; cases nn
 replace vp : (ar (ar H3 n (.dK [])) x (.ins c_Larder dx (aB "names" (.ref n) (aB "bars" (.ref b) (aB "stands" (.ref st) (aB "parts" (.ref p) [])))))) p = some (.dK []) := i9.step (.dK []) nn p _ (Ne.symm xp) vp
 replace vst : (ar (ar H3 n (.dK [])) x (.ins c_Larder dx (aB "names" (.ref n) (aB "bars" (.ref b) (aB "stands" (.ref st) (aB "parts" (.ref p) [])))))) st = some (.dK []) := i9.step (.dK []) nn st _ (Ne.symm xst) vst
 replace vb : (ar (ar H3 n (.dK [])) x (.ins c_Larder dx (aB "names" (.ref n) (aB "bars" (.ref b) (aB "stands" (.ref st) (aB "parts" (.ref p) [])))))) b = some (.dK []) := i9.step (.dK []) nn b _ (Ne.symm xb) vb
 generalize (ar (ar H3 n (.dK [])) x (.ins c_Larder dx (aB "names" (.ref n) (aB "bars" (.ref b) (aB "stands" (.ref st) (aB "parts" (.ref p) [])))))) = H4 at e4 k4 vn vp vst vb ⊢
 have la : LA c_Larder [p,n] H4 x [] [] := ⟨dx,p,n,fO (.ref p) (.ref st) (.ref b) (.ref n),[],e4,ko.1,ko.2.1,trivial,vp,vn,rfl,by simp [wpn],ko.2.2⟩
 refine q H4 [p,n,st,b] k4 (fun a ha => ?_) ⟨[p,n],dx,st,b,fO (.ref p) (.ref st) (.ref b) (.ref n),[],la,e4,iS.1,iS.2.1,wg vst,vb,wstb,?_,?_,fun y a e => (by cases e),fun a ha => ?_,by simp,by simp,fun a ha => ?_,iS.2.2⟩
 ·simp only [A3,AQ,or_false] at ha
  rcases ha with rfl | rfl | rfl | rfl
  ·exact fp
  ·exact fn
  ·exact fst
  ·exact fb
 ·simp only [A3,AQ,or_false]
  exact fun z => z.elim (fun z => wpst z.symm) (fun z => wstn z)
 ·simp only [A3,AQ,or_false]
  exact fun z => z.elim (fun z => wpb z.symm) (fun z => wbn z)
 ·simp only [A3,AQ,or_false] at ha ⊢
  rcases ha with rfl | rfl
  ·exact .inl rfl
  ·exact .inr (.inl rfl)
 ·simp only [A3,AQ,or_false] at ha
  rcases ha with rfl | rfl | rfl | rfl
  ·exact ⟨_,vp⟩
  ·exact ⟨_,vn⟩
  ·exact ⟨_,vst⟩
  ·exact ⟨_,vb⟩
theorem xB : aD ["self","told","fresh","name"] ["self","told"] (ap uH) := ⟨rfl,rfl,rfl,by decide +kernel,rfl,by decide +kernel,by decide +kernel⟩
set_option maxHeartbeats 4000000 in
theorem xC {dV : Value} (F : bH K "learn" "Larder.learn" uH dV f fd) (B : Bn K mg c_EmptyHeap c_InRing c_Larder c_NoAmount c_NoDish c_NoName c_NoNet c_NoNumber c_NoPack c_NoPlan c_NoRow c_NoStand c_NoStandIn c_NoStep c_StoveError c_TooFew c_TooMany c_Twice f_Z11 f_Z12 f_Z13 f_Z14 f_Z15 f_Z16 f_Z17 f_Z18 f_Z19)  : bh P w K mg base (b9 P w) 3 f fd ["self","told"] (eA c_Larder c_TooMany) := by
 have sc := xB
 refine F.okX sc (fun vs H Q E h => ?_) (fun cdv A outer s H vs Q E hr h => ?_)
 ·obtain ⟨x,l,F0,rows,ns,xs,rfl,_⟩ := h
  rfl
 obtain ⟨x,l,F0,rows,ns,xs,rfl,la,el,x10,n80,nd,qM,q⟩ := h
 refine ⟨_,(ag (jx sc.nd (i := 2) rfl rfl (own := "name") (ys := ["self"]) (js := [0]) rfl (wq (vZ wp) (.cons rfl .nil) (by decide) rfl rfl rfl rfl rfl rfl rfl rfl) (dA (pv 1)) (fun C fp s H => (jI (f7 (by exact cQ hr) (pv 0) (ur (K := K) rfl (pv 1) rfl)) (by with_unfolding_all rfl))) (fun C fp s H => (pv 0))) (ag (a6 (av oC (aJ cW (aK jw rfl B.b_len boot_len (aa (b8 (pv 0) rfl) aj)) (aK bR rfl B.b_len boot_len (aa (pv 2) aj))) (lO rfl B.g_MOST_NAMES) (aC _)) (ak (cJ B.x_TooMany rfl B.m_TooMany rfl bZ (aa aS aj))) aI) (ak (eT (rO rfl rfl) rfl (dA (pv 2)) (ce (i := 3) sc.nd rfl (Or.inl rfl)) (ak (dC (cQ hr) (b8 (pv 0) rfl) (pv 3) bL rfl)))))),?_⟩
 obtain ⟨dx,p,n,fs,ex,fp,fn,dd,en,_,_,fm⟩ := la.dd
 have slt : (3000 : Nat) < sizeLine := by decide
 refine ⟨_,rfl,l,rfl,⟨_,bu.of el⟩,gD (xs := xs.map V.str) (fun v => match v with | .str y => !decide (y ∈ ns) | _ => false) (bu.of el) (by rw [A8]; omega) (fun v hv H3 g3 R hR => ?_) (fun p1 H1 g1 e1 => ?_)⟩
 ·obtain ⟨y,hy,rfl⟩ := AZ.mp hv
  refine ⟨_,rfl,_,rfl,x,_,dx,_,_,rfl,g3 _ _ ex,B.cl_Larder,B.na_Larder_names,fn,n,_,rfl,dB.k (k := .inr y) (g3 _ _ en),_,rfl,?_⟩
  rw [iE]
  by_cases h : y ∈ ns
  ·rw [if_pos h]
   have hR' : R (!decide (y ∈ ns)) H3 := hR
   rw [decide_eq_true h] at hR'
   exact hR'
  ·rw [if_neg h]
   have hR' : R (!decide (y ∈ ns)) H3 := hR
   rw [decide_eq_false h] at hR'
   exact hR'
 ·have fe : ∀ l : List Str,(l.map V.str).filter (fun v => match v with | .str y => !decide (y ∈ ns) | _ => false) = (l.filter fun y => !decide (y ∈ ns)).map V.str := by
   intro l
   induction l with
   | nil => rfl
   | cons c l ih =>
    rw [An,B8,B8,ih]
    by_cases h : c ∈ ns
    ·simp [h]
    ·simp [h]
  rw [fe] at e1
  have fl := B5 (fun y => !decide (y ∈ ns)) xs
  have fmem : ∀ y,y ∈ ns ∨ y ∈ (xs.filter fun y => !decide (y ∈ ns)) ↔ y ∈ ns ∨ y ∈ xs := by
   intro y
   rw [Ap]
   by_cases h : y ∈ ns <;> simp [h]
  rw [show aW ns xs = xs.filter (fun y => !decide (y ∈ ns)) from rfl] at qM q
  generalize (xs.filter fun y => !decide (y ∈ ns)) = fr at e1 fl fmem qM q
  try dsimp only [bv,bA]
  refine cut (fun σ H' => H1 = H' /\ σ = [some (.ref x),some (.ref l),some (.ref p1),none] /\ ns.length + fr.length <= 80) (fun N hN => ?_) ?_
  ·refine ⟨_,rfl,x,_,dx,_,_,rfl,g1 _ _ ex,B.cl_Larder,B.na_Larder_names,fn,n,_,rfl,.inl (g1 _ _ en),_,rfl,p1,_,rfl,.inl (bu.of e1),_,_,rfl,rfl,_,_,rfl,rfl,_,rfl,d2 (fun c => ?_) (fun c => hN _ _ ⟨rfl,rfl,by rw [b6,A8] at c; omega⟩)⟩
   rw [b6,A8] at c
   exact ⟨(by show 1 <= sizeLine; decide),qM (by omega) _ g1⟩
  rintro σ _ ⟨rfl,rfl,room⟩
  refine ⟨_,rfl,p1,rfl,⟨_,bu.of e1⟩,fo (xs := fr.map V.str) (fun i σ H' => KF F0 H1 H' /\ (∃ o,σ = [some (.ref x),some (.ref l),some (.ref p1),o]) /\ LA c_Larder F0 H' x rows (dm ns (fr.take i))) ⟨KF.refl,⟨_,rfl⟩,la.same g1⟩ (fun i σ H' _ h => bu.of (h.1 _ _ ((la.same g1).not e1 (fun _ z => nomatch z)) e1)) ?_ ?_⟩
  ·rintro i v σ H' hx ⟨k,⟨o,rfl⟩,la'⟩
   rw [Ac] at hx
   cases hc : fr[i]? with
   | none => rw [hc] at hx; cases hx
   | some y =>
    rw [hc] at hx
    cases hx
    obtain ⟨dx',p',n',fs',ex',fp',fn',dd',en',_,_,fm'⟩ := la'.dd
    have il := (A1.mp hc).1
    have tl := jB (fr.take i) ns
    rw [AH] at tl
    have tk : fr.take (i + 1) = fr.take i ++ [y] := by rw [BR,hc]; rfl
    refine ⟨_,rfl,x,_,dx',_,_,rfl,ex',B.cl_Larder,B.na_Larder_names,fn',_,rfl,n',_,rfl,fZ.k (k := .inr y) en' (by rw [b6]; omega),?_⟩
    rw [d9,<- iL,<- tk]
    obtain ⟨la2,k2,_⟩ := la'.learn (ms := dm ns (fr.take (i + 1))) ex' fn'
    exact ⟨k.trans k2,⟨_,rfl⟩,la2⟩
  ·rintro σ H' ⟨k,⟨o,rfl⟩,la'⟩
   rw [A8,List.take_length] at la'
   exact q room H' _ ((KF.of g1).trans k) la' (gE nd) fun y => eI.trans (fmem y)
theorem xD : aD ["self"] ["self"] (ap uI) := ⟨rfl,rfl,rfl,by decide +kernel,rfl,by decide +kernel,by decide +kernel⟩
set_option maxHeartbeats 4000000 in
theorem xE {dV : Value} (F : bH K "known" "Larder.known" uI dV f fd) (B : Bn K mg c_EmptyHeap c_InRing c_Larder c_NoAmount c_NoDish c_NoName c_NoNet c_NoNumber c_NoPack c_NoPlan c_NoRow c_NoStand c_NoStandIn c_NoStep c_StoveError c_TooFew c_TooMany c_Twice f_Z11 f_Z12 f_Z13 f_Z14 f_Z15 f_Z16 f_Z17 f_Z18 f_Z19)  : bh P w K mg base bw 1 f fd ["self"] (gR c_Larder) := by
 have sc := xD
 refine F.ok sc (fun vs H Q E h => ?_) (fun cdv A outer s H vs Q E hr h => ?_)
 ·obtain ⟨x,F0,rows,ns,rfl,_⟩ := h
  rfl
 obtain ⟨x,F0,rows,ns,rfl,la,nd,q⟩ := h
 refine ⟨_,(ak (aG (aK (dL rfl) rfl B.b_sorted PyProof.Rows.Boot.«sorted» (aa (b8 (pv 0) rfl) aj)))),?_⟩
 obtain ⟨dx,p,n,fs,ex,fp,fn,dd,en,_,_,fm⟩ := la.dd
 refine ⟨_,rfl,x,_,dx,_,_,rfl,ex,B.cl_Larder,B.na_Larder_names,fn,n,ns,_,rfl,en,qu ns _,nd,fun p ys np pr sr => q p _ ys (ai np _) ae sr pr⟩
theorem xF : aD ["self","good","other","back","inside"] ["self","good","other"] (ap uJ) := ⟨rfl,rfl,rfl,by decide +kernel,rfl,by decide +kernel,by decide +kernel⟩
set_option maxHeartbeats 4000000 in
theorem xG {dV : Value} (F : bH K "part" "Larder.part" uJ dV f fd) (B : Bn K mg c_EmptyHeap c_InRing c_Larder c_NoAmount c_NoDish c_NoName c_NoNet c_NoNumber c_NoPack c_NoPlan c_NoRow c_NoStand c_NoStandIn c_NoStep c_StoveError c_TooFew c_TooMany c_Twice f_Z11 f_Z12 f_Z13 f_Z14 f_Z15 f_Z16 f_Z17 f_Z18 f_Z19) (DZ9 : Dx P w K mg base bw 2 "chain_down" ["parts","good","goals"] [] dO) (XZ6 : Dx P w K mg base (b9 P w) 2 "refuse_no_names" ["things"] [] (dE K c_NoName)) (XZ12 : dv P w K mg base (b9 P w) 3 f_Z12 ["self","told"] [] (eA c_Larder c_TooMany)) (I_InRing : ze P w K mg base 1 c_InRing ["self","ring"] (jZ c_InRing "ring")) : bh P w K mg base (b9 P w) 4 f fd ["self","good","other"] (kE c_Larder c_InRing c_TooMany) := by
 have sc := xF
 refine F.okX sc (fun vs H Q E h => ?_) (fun cdv A outer s H vs Q E hr h => ?_)
 ·obtain ⟨x,zg,zo,F0,rows,m,g,bs,ns,ps,rfl,_⟩ := h
  rfl
 obtain ⟨x,zg,zo,F1,rows,m,g,bs,ns,ps,rfl,lb0,ok,few,nd,n80,mg',mo',qR,qM,qDD⟩ := h
 obtain ⟨F0,la,back⟩ := lb0.part
 have hg : iB (.str zg) ∨ dg K H (.str zg) := .inl ⟨zg,rfl,mg'⟩
 have ho : iB (.str zo) ∨ dg K H (.str zo) := .inl ⟨zo,rfl,mo'⟩
 have eN : ¬ (iB (.str zg) /\ iB (.str zo)) -> ∀ H',au H H' -> E (.ref c_NoName) none H' := fun n => absurd ⟨⟨zg,rfl,mg'⟩,⟨zo,rfl,mo'⟩⟩ n
 refine ⟨_,(ag (bC (f9 XZ6 hr (by decide) rfl bZ (aa (bg (aa (pv 1) (aa (pv 2) aj))) aj))) (ag (aL (i := 3) sc.nd rfl (Or.inl rfl) (aT DZ9 hr (by decide) rfl (aa (b8 (pv 0) rfl) (aa (pv 2) (aa (bg (aa (pv 1) aj)) aj))))) (ag (a6 (av jJ (pv 3) dQ (aC _)) (ak (t8 I_InRing hr (by decide) rfl B.m_InRing rfl bZ (aa (aJ vA (bg (aa (pv 1) aj)) (dS jP (pv 3) gN (eD (uX rh am)))) aj))) aI) (ag (bC (j9 XZ12 hr (by decide) bZ (pv 0) (aa (bg (aa (pv 1) (aa (pv 2) aj))) aj))) (ag (aL (i := 4) sc.nd rfl (Or.inl rfl) (lh Bq PySem.F.slot_dict_setdefault PySem.F.type_dict_setdefault jv (b8 (pv 0) rfl) (aa (pv 1) (aa b4 aj)))) (ak (dC (cQ hr) (pv 4) (pv 2) bL rfl))))))),?_⟩
 have slt : (3000 : Nat) < sizeLine := by decide
 refine ⟨_,rfl,_,rfl,(by show 2 <= sizeLine; decide),fun l0 n0 => ?_⟩
 have g1 := ai n0 (.lst [.str zg,.str zo])
 refine ⟨l0,_,rfl,ae,(fun y hy => ?_),fun nn => ?_,fun nn H' gg => eN (fun z => nn fun y hy => ?_) H' (g1.trans gg)⟩
 ·rcases A3.mp hy with rfl | hy
  ·exact hg.imp id (dg.same g1)
  ·rw [A2.mp hy]
   exact ho.imp id (dg.same g1)
 rotate_left
 ·rcases A3.mp hy with rfl | hy
  ·exact z.1
  ·rw [A2.mp hy]
   exact z.2
 have la1 := la.same g1
 generalize ar H l0 (.lst [.str zg,.str zo]) = H1 at g1 la1 ⊢
 obtain ⟨dx,p,n,fs,ex,fp,fn,dd,en,_,_,fm⟩ := la1.dd
 refine ⟨_,rfl,x,_,dx,_,_,rfl,ex,B.cl_Larder,B.na_Larder_parts,fp,_,rfl,_,rfl,(by show 1 <= sizeLine; decide),fun l2 n2 => ?_⟩
 have g2 := ai n2 (.lst [.str zg])
 refine ⟨p,l2,zo,rows,ps,[zg],rfl,dd.same g2,ok,by omega,ae,fun H3 g3 nl => ?_,fun lb H3 c goal g3 nlb eb wy gm gl ga => ?_⟩
 ·have g13 := g2.trans g3
  have la3 := la1.same g13
  try dsimp only [bv,bA]
  refine ⟨_,rfl,rfl,_,rfl,bU ?_⟩
  obtain ⟨dx,p,n,fs,ex,fp,fn,dd,en,_,_,fm⟩ := la3.dd
  refine ⟨_,rfl,x,_,dx,_,rfl,ex,B.cl_Larder,B.me_Z12,fm _ (by simp),_,rfl,_,rfl,(by show 2 <= sizeLine; decide),fun l4 n4 => ?_⟩
  have g4 := ai n4 (.lst [.str zg,.str zo])
  refine ⟨x,l4,F0,rows,ns,[zg,zo],rfl,la3.same g4,ae,(by simp),n80,nd,fun many H5 g5 => qM (nl zg (by simp)) many H5 (((g1.trans g13).trans g4).trans g5),fun room H5 ms k5 la5 nd5 m5 => ?_⟩
  have qD : ¬ Led ps zo zg -> ∀ F' H' ms,KF F0 H H' -> FG F0 F' H -> LA c_Larder F' H' x (aO rows zg zo) ms -> ms.Nodup -> (∀ y,y ∈ ms ↔ y ∈ ns ∨ y ∈ [zg,zo]) -> Q .non H' := fun n F' H' ms k fg la' nd' hs => by
   obtain ⟨F2,lb2,k2,fg2⟩ := back H' F' _ ms k fg la'
   exact qDD n room F2 H' ms k2 fg2 lb2 nd' hs
  have k05 : KF F0 H H5 := (KF.of ((g1.trans g13).trans g4)).trans k5
  obtain ⟨dx,p,n,fs,rs,ex,fp,fn,dr,ed,en,eF,ndF,fm⟩ := la5.ex
  have rf := ok.few
  have dl := dr.len
  have nl' : ¬ Led ps zo zg := nl zg (by simp)
  refine ⟨_,rfl,x,_,dx,_,_,rfl,ex,B.cl_Larder,B.na_Larder_parts,fp,.inr (.inr (.inl ⟨rfl,.inl ⟨_,ed⟩⟩)),_,rfl,fun pn hn => ?_⟩
  have g6 := ai hn (.dK [])
  refine ⟨p,_,.inr zg,.ref pn,rfl,rfl,g6 _ _ ed,by omega,fun w hw => ?_,fun hw => ?_⟩
  ·obtain ⟨r,ys,rfl,hm,hH,la6,k6⟩ := (la5.same g6).put_some (y := zo) (g6 _ _ ex) fp (g6 _ _ ed) hw
   have ysl := (ok.small _ hm).1
   refine ⟨_,rfl,_,rfl,r,_,rfl,fZ.k (k := .inr zo) hH (by rw [b6]; have : ys.length <= ps.length := ysl; omega),?_⟩
   rw [d9]
   exact qD nl' F0 _ ms ((k05.trans (KF.of g6)).trans k6) FG.refl la6 nd5 m5
  ·have pd : pn ≠ p := fun z => by rw [z,ed] at hn; cases hn
   obtain ⟨la6,k6⟩ := la5.put_none (y := zo) ex fp ed hn hw
   refine ⟨_,rfl,_,rfl,pn,_,rfl,fZ.k (k := .inr zo) (kvs := []) (by rw [af pd]; exact ae) (by show 0 < sizeLine; omega),?_⟩
   refine qD nl' (F0 ++ [pn]) _ ms (k05.trans k6) (fun a ha => ?_) la6 nd5 m5
   rcases A9.mp ha with ha | ha
   ·exact .inl ha
   ·rw [A2.mp ha]
    refine .inr ?_
    cases hp : H pn with
    | none => rfl
    | some ob => rw [k05 _ _ (la5.free hn) hp] at hn; cases hn
 ·obtain rfl := A2.mp gm
  try dsimp only [bv,bA]
  have c1 : 1 <= c.length := by
   have := wy.first
   cases c with
   | nil => cases this
   | cons _ _ => simp
  refine ⟨_,rfl,rfl,_,rfl,cE ?_⟩
  refine ⟨_,rfl,(by show 1 <= sizeLine; decide),fun l4 n4 => ?_⟩
  have g4 := ai n4 (.lst [.str goal])
  refine ⟨_,rfl,_,rfl,_,rfl,lb,_,rfl,bu.of (g4 _ _ eb),fun l5 n5 => ?_⟩
  rw [qi (by rw [A8]; exact c1),<- List.map_dropLast]
  have g5 := ai n5 (.lst (c.dropLast.map V.str))
  have lf := wy.few
  refine ⟨l4,l5,_,_,rfl,rfl,g5 _ _ ae,ae,(by rw [A8,List.length_dropLast]; show 1 + _ <= _; omega),fun l6 n6 => ?_⟩
  have g6 := ai n6 (.lst ([.str goal] ++ c.dropLast.map V.str))
  have gA := ((((g1.trans g2).trans g3).trans g4).trans g5).trans g6
  refine ⟨(by show 1 <= sizeLine; decide),fun xa na => ua na fun d H2 g ea ed ne gd edd => ⟨rfl,d,ea,?_⟩⟩
  exact qR gl d l6 _ (gA.trans gd) edd
theorem xH : aD ["self","good"] ["self","good"] (ap uK) := ⟨rfl,rfl,rfl,by decide +kernel,rfl,by decide +kernel,by decide +kernel⟩
set_option maxHeartbeats 4000000 in
theorem xI {dV : Value} (F : bH K "held" "Larder.held" uK dV f fd) (B : Bn K mg c_EmptyHeap c_InRing c_Larder c_NoAmount c_NoDish c_NoName c_NoNet c_NoNumber c_NoPack c_NoPlan c_NoRow c_NoStand c_NoStandIn c_NoStep c_StoveError c_TooFew c_TooMany c_Twice f_Z11 f_Z12 f_Z13 f_Z14 f_Z15 f_Z16 f_Z17 f_Z18 f_Z19) (DZ10 : Dx P w K mg base bw 2 "all_inside" ["parts","good"] [] iK) (XZ6 : Dx P w K mg base (b9 P w) 2 "refuse_no_names" ["things"] [] (dE K c_NoName)) : bh P w K mg base (b9 P w) 3 f fd ["self","good"] (kG K c_Larder c_NoName) := by
 have sc := xH
 refine F.okX sc (fun vs H Q E h => ?_) (fun cdv A outer s H vs Q E hr h => ?_)
 ·obtain ⟨x,v,F0,rows,m,g,bs,ns,ps,rfl,_⟩ := h
  rfl
 obtain ⟨x,v,F1,rows,m,g,bs,ns,ps,rfl,lb,ok,few,hv,eN,qq⟩ := h
 refine ⟨_,(ag (bC (f9 XZ6 hr (by decide) rfl bZ (aa (bg (aa (pv 1) aj)) aj))) (ak (aG (aT DZ10 hr (by decide) rfl (aa (b8 (pv 0) rfl) (aa (pv 1) aj)))))),?_⟩
 refine ⟨_,rfl,(by show 1 <= sizeLine; decide),fun l0 n0 => ?_⟩
 have g1 := ai n0 (.lst [v])
 refine ⟨l0,_,rfl,ae,(fun y hy => by rw [A2.mp hy]; exact hv.imp id (dg.same g1)),fun nn => ?_,fun nn H' gg => eN (fun z => nn fun y hy => by rw [A2.mp hy]; exact z) H' (g1.trans gg)⟩
 obtain ⟨z,rfl,mz⟩ := nn v (by simp)
 have qz := qq z rfl mz
 have lb1 := lb.same g1
 generalize ar H l0 (.lst [.str z]) = H1 at g1 lb1 ⊢
 obtain ⟨F0,la,sub,back⟩ := lb1.la
 obtain ⟨dx,p,n,fs,ex,fp,fn,dd,en,_,_,fm⟩ := la.dd
 exact ⟨_,rfl,x,_,dx,_,_,rfl,ex,B.cl_Larder,B.na_Larder_parts,fp,_,rfl,p,z,rows,ps,rfl,dd,ok,(by omega),fun l H2 ys g2 n2 e2 s2 d2 m2 => qz l H2 ys (g1.trans g2) e2 s2 d2 m2⟩
theorem xJ : aD ["self","good"] ["self","good"] (ap uL) := ⟨rfl,rfl,rfl,by decide +kernel,rfl,by decide +kernel,by decide +kernel⟩
set_option maxHeartbeats 4000000 in
theorem xK {dV : Value} (F : bH K "barred" "Larder.barred" uL dV f fd) (B : Bn K mg c_EmptyHeap c_InRing c_Larder c_NoAmount c_NoDish c_NoName c_NoNet c_NoNumber c_NoPack c_NoPlan c_NoRow c_NoStand c_NoStandIn c_NoStep c_StoveError c_TooFew c_TooMany c_Twice f_Z11 f_Z12 f_Z13 f_Z14 f_Z15 f_Z16 f_Z17 f_Z18 f_Z19) (DZ9 : Dx P w K mg base bw 2 "chain_down" ["parts","good","goals"] [] dO) (XZ6 : Dx P w K mg base (b9 P w) 2 "refuse_no_names" ["things"] [] (dE K c_NoName)) : bh P w K mg base (b9 P w) 3 f fd ["self","good"] (gp K c_Larder c_NoName) := by
 have sc := xJ
 refine F.okX sc (fun vs H Q E h => ?_) (fun cdv A outer s H vs Q E hr h => ?_)
 ·obtain ⟨x,v,F0,rows,m,g,bs,ns,ps,rfl,_⟩ := h
  rfl
 obtain ⟨x,v,F1,rows,m,g,bs,ns,ps,rfl,lb,ok,few,hv,eN,qq⟩ := h
 refine ⟨_,(ag (bC (f9 XZ6 hr (by decide) rfl bZ (aa (bg (aa (pv 1) aj)) aj))) (ak (aG (aT DZ9 hr (by decide) rfl (aa (b8 (pv 0) rfl) (aa (pv 1) (aa (jm (n8 rfl) rfl B.b_list boot_list (aa (b8 (pv 0) rfl) aj)) aj))))))),?_⟩
 refine ⟨_,rfl,(by show 1 <= sizeLine; decide),fun l0 n0 => ?_⟩
 have g1 := ai n0 (.lst [v])
 refine ⟨l0,_,rfl,ae,(fun y hy => by rw [A2.mp hy]; exact hv.imp id (dg.same g1)),fun nn => ?_,fun nn H' gg => eN (fun z => nn fun y hy => by rw [A2.mp hy]; exact z) H' (g1.trans gg)⟩
 obtain ⟨z,rfl,mz⟩ := nn v (by simp)
 have qz := qq z rfl mz
 have lb1 := lb.same g1
 generalize ar H l0 (.lst [.str z]) = H1 at g1 lb1 ⊢
 obtain ⟨F0,la,sub,back⟩ := lb1.la
 obtain ⟨dx',p,n,fs',ex',fp,fn,dd,en,_,_,fm'⟩ := la.dd
 obtain ⟨dx,s,b,fs,dk,ex,es,eb,bd,hb,fm,sF,bF,pb⟩ := lb1.at_
 refine ⟨_,rfl,x,_,dx',_,_,rfl,ex',B.cl_Larder,B.na_Larder_parts,fp,_,rfl,_,rfl,x,_,dx,_,_,rfl,ex,B.cl_Larder,B.na_Larder_bars,eb,b,_,rfl,hb,fun l2 n2 => ?_⟩
 have kk : (bj bs (.bl true)).map (fun p => kV p.1) = bs.map V.str := by
  unfold bj
  rw [BY]
  rfl
 rw [kk]
 have g2 := ai n2 (.lst (bs.map V.str))
 exact ⟨p,l2,z,rows,ps,bs,rfl,dd.same g2,ok,few,ae,fun H3 g3 nl => qz.1 H3 ((g1.trans g2).trans g3) nl,fun l H3 c goal g3 nl el wy gm gl ga => qz.2 l H3 c goal ((g1.trans g2).trans g3) ((g1.trans g2).free nl) el wy gm gl ga⟩
theorem xL : aD ["self","good"] ["self","good"] (ap uM) := ⟨rfl,rfl,rfl,by decide +kernel,rfl,by decide +kernel,by decide +kernel⟩
set_option maxHeartbeats 4000000 in
theorem xM {dV : Value} (F : bH K "bar" "Larder.bar" uM dV f fd) (B : Bn K mg c_EmptyHeap c_InRing c_Larder c_NoAmount c_NoDish c_NoName c_NoNet c_NoNumber c_NoPack c_NoPlan c_NoRow c_NoStand c_NoStandIn c_NoStep c_StoveError c_TooFew c_TooMany c_Twice f_Z11 f_Z12 f_Z13 f_Z14 f_Z15 f_Z16 f_Z17 f_Z18 f_Z19) (XZ6 : Dx P w K mg base (b9 P w) 2 "refuse_no_names" ["things"] [] (dE K c_NoName)) (XZ12 : dv P w K mg base (b9 P w) 3 f_Z12 ["self","told"] [] (eA c_Larder c_TooMany)) : bh P w K mg base (b9 P w) 4 f fd ["self","good"] (oj c_Larder c_TooMany) := by
 have sc := xL
 refine F.okX sc (fun vs H Q E h => ?_) (fun cdv A outer s H vs Q E hr h => ?_)
 ·obtain ⟨x,z,F0,rows,m,g,bs,ns,rfl,_⟩ := h
  rfl
 obtain ⟨x,z,F1,rows,m,g,bs,ns,rfl,lb,b200,nd,n80,mz,qM,qz⟩ := h
 have hv : iB (.str z) ∨ dg K H (.str z) := .inl ⟨z,rfl,mz⟩
 have eN : ¬ iB (.str z) -> ∀ H',au H H' -> E (.ref c_NoName) none H' := fun n => absurd ⟨z,rfl,mz⟩ n
 refine ⟨_,(ag (bC (f9 XZ6 hr (by decide) rfl bZ (aa (bg (aa (pv 1) aj)) aj))) (ag (bC (j9 XZ12 hr (by decide) bZ (pv 0) (aa (bg (aa (pv 1) aj)) aj))) (ak (dC (cQ hr) (b8 (pv 0) rfl) (pv 1) bL rfl)))),?_⟩
 have slt : (3000 : Nat) < sizeLine := by decide
 refine ⟨_,rfl,(by show 1 <= sizeLine; decide),fun l0 n0 => ?_⟩
 have g1 := ai n0 (.lst [.str z])
 refine ⟨l0,_,rfl,ae,(fun y hy => by rw [A2.mp hy]; exact hv.imp id (dg.same g1)),fun nn => ?_,fun nn H' gg => eN (fun z => nn fun y hy => by rw [A2.mp hy]; exact z) H' (g1.trans gg)⟩
 have lb1 := lb.same g1
 generalize ar H l0 (.lst [.str z]) = H1 at g1 lb1 ⊢
 obtain ⟨F0,la,sub,back⟩ := lb1.la
 obtain ⟨dx,s,b,fs,dk,ex,es,eb,bd,hb,fm,sF,bF,pb⟩ := lb1.at_
 refine ⟨_,rfl,x,_,dx,_,rfl,ex,B.cl_Larder,B.me_Z12,fm _ (by decide),_,rfl,(by show 1 <= sizeLine; decide),fun l4 n4 => ?_⟩
 have g4 := ai n4 (.lst [.str z])
 obtain ⟨F0,la,sub,back⟩ := (lb1.same g4).la
 refine ⟨x,l4,F0,rows,ns,[z],rfl,la,ae,(by simp),n80,nd,fun many H5 g5 => qM many H5 ((g1.trans g4).trans g5),fun room H5 ms k5 la5 nd5 m5 => ?_⟩
 have lb5 := back _ _ _ la5 k5
 have kF : KF F1 H H5 := (KF.of (g1.trans g4)).trans fun a o n e => k5 a o (fun z => n (sub a z)) e
 obtain ⟨dx,s,b,fs,dk,ex,es,eb,bd,hb,fm,sF,bF,pb⟩ := lb5.at_
 refine ⟨_,rfl,x,_,dx,_,_,rfl,ex,B.cl_Larder,B.na_Larder_bars,eb,_,rfl,b,_,rfl,fZ.k (k := .inr z) hb (by rw [b6]; omega),?_⟩
 rw [d9]
 obtain ⟨lb6,k6⟩ := pb (bJ bs z)
 exact qz room _ ms (kF.trans k6) lb6 nd5 m5
theorem xN : aD ["self","good"] ["self","good"] (ap uN) := ⟨rfl,rfl,rfl,by decide +kernel,rfl,by decide +kernel,by decide +kernel⟩
set_option maxHeartbeats 4000000 in
theorem xO {dV : Value} (F : bH K "allow" "Larder.allow" uN dV f fd) (B : Bn K mg c_EmptyHeap c_InRing c_Larder c_NoAmount c_NoDish c_NoName c_NoNet c_NoNumber c_NoPack c_NoPlan c_NoRow c_NoStand c_NoStandIn c_NoStep c_StoveError c_TooFew c_TooMany c_Twice f_Z11 f_Z12 f_Z13 f_Z14 f_Z15 f_Z16 f_Z17 f_Z18 f_Z19) (XZ6 : Dx P w K mg base (b9 P w) 2 "refuse_no_names" ["things"] [] (dE K c_NoName)) : bh P w K mg base (b9 P w) 3 f fd ["self","good"] (iT K c_Larder c_NoName) := by
 have sc := xN
 refine F.okX sc (fun vs H Q E h => ?_) (fun cdv A outer s H vs Q E hr h => ?_)
 ·obtain ⟨x,v,F0,rows,m,g,bs,ns,rfl,_⟩ := h
  rfl
 obtain ⟨x,v,F1,rows,m,g,bs,ns,rfl,lb,hv,eN,qq⟩ := h
 refine ⟨_,(ag (bC (f9 XZ6 hr (by decide) rfl bZ (aa (bg (aa (pv 1) aj)) aj))) (ak (bC (rG (b8 (pv 0) rfl) (pv 1) dQ ⟨rfl,rfl,rfl,rfl⟩)))),?_⟩
 refine ⟨_,rfl,(by show 1 <= sizeLine; decide),fun l0 n0 => ?_⟩
 have g1 := ai n0 (.lst [v])
 refine ⟨l0,_,rfl,ae,(fun y hy => by rw [A2.mp hy]; exact hv.imp id (dg.same g1)),fun nn => ?_,fun nn H' gg => eN (fun z => nn fun y hy => by rw [A2.mp hy]; exact z) H' (g1.trans gg)⟩
 obtain ⟨z,rfl,mz⟩ := nn v (by simp)
 have qz := qq z rfl mz
 have lb1 := lb.same g1
 generalize ar H l0 (.lst [.str z]) = H1 at g1 lb1 ⊢
 obtain ⟨dx,s,b,fs,dk,ex,es,eb,bd,hb,fm,sF,bF,pb⟩ := lb1.at_
 refine ⟨_,rfl,x,_,dx,_,_,rfl,ex,B.cl_Larder,B.na_Larder_bars,eb,b,rfl,.inl ⟨_,.inl hb⟩,_,rfl,_,.inr z,hb,rfl,fun w hw => ?_,fun hw => ?_⟩
 ·rw [qG]
  obtain ⟨lb6,k6⟩ := pb (gL bs z)
  exact qz _ ((KF.of g1).trans k6) lb6
 ·rw [iE] at hw
  have nz : z ∉ bs := fun h => by rw [if_pos h] at hw; cases hw
  exact qz _ (KF.of g1) (by rw [qH nz]; exact lb1)
theorem xP : aD ["self","good","other","ratio","others"] ["self","good","other","ratio"] (ap uO) := ⟨rfl,rfl,rfl,by decide +kernel,rfl,by decide +kernel,by decide +kernel⟩
set_option maxHeartbeats 4000000 in
theorem xQ {dV : Value} (F : bH K "stand" "Larder.stand" uO dV f fd) (B : Bn K mg c_EmptyHeap c_InRing c_Larder c_NoAmount c_NoDish c_NoName c_NoNet c_NoNumber c_NoPack c_NoPlan c_NoRow c_NoStand c_NoStandIn c_NoStep c_StoveError c_TooFew c_TooMany c_Twice f_Z11 f_Z12 f_Z13 f_Z14 f_Z15 f_Z16 f_Z17 f_Z18 f_Z19) (Dis_Z3 : Dx P w K mg base bw 2 "is_fraction" ["thing"] [] (nC K)) (XZ3 : Dx P w K mg base (b9 P w) 2 "fraction" ["top","bottom"] [.int 1] (oW c_NoNumber)) (XZ6 : Dx P w K mg base (b9 P w) 2 "refuse_no_names" ["things"] [] (dE K c_NoName)) (XZ12 : dv P w K mg base (b9 P w) 3 f_Z12 ["self","told"] [] (eA c_Larder c_TooMany)) : bh P w K mg base (b9 P w) 4 f fd ["self","good","other","ratio"] (iV K c_Larder c_NoStand c_TooMany) := by
 have sc := xP
 refine F.okX sc (fun vs H Q E h => ?_) (fun cdv A outer s H vs Q E hr h => ?_)
 ·obtain ⟨x,zg,zo,r,F0,rows,m,g,bs,ns,rfl,_⟩ := h
  rfl
 obtain ⟨x,zg,zo,r,F1,rows,m,g,bs,ns,rfl,lb,m1000,nd,n80,mg',mo',hr0,qS,qM,qDD⟩ := h
 have hv : iB (.str zg) ∨ dg K H (.str zg) := .inl ⟨zg,rfl,mg'⟩
 have hw : iB (.str zo) ∨ dg K H (.str zo) := .inl ⟨zo,rfl,mo'⟩
 have eN : ¬ (iB (.str zg) /\ iB (.str zo)) -> ∀ H',au H H' -> E (.ref c_NoName) none H' := fun n => absurd ⟨⟨zg,rfl,mg'⟩,⟨zo,rfl,mo'⟩⟩ n
 refine ⟨_,(ag (bC (f9 XZ6 hr (by decide) rfl bZ (aa (bg (aa (pv 1) (aa (pv 2) aj))) aj))) (ag (a6 (av vt (pv 3) dQ (aC _)) (ak (aL (i := 3) sc.nd rfl (Or.inl rfl) (tZ XZ3 hr (by decide) rfl bZ (aa am aj)))) aI) (ag (a6 (av bX (pv 1) (pv 2) (aC _)) (ak (cJ B.x_NoStand rfl B.m_NoStand rfl bZ (aa aS aj))) aI) (ag (a6 (jI (vC (cQ hr) (pv 2) (lB (cQ hr) (b8 (pv 0) rfl) (pv 1) b4 ⟨rfl,rfl,rfl,rfl⟩)) (by with_unfolding_all rfl)) (ak (cJ B.x_NoStand rfl B.m_NoStand rfl bZ (aa aS aj))) aI) (ag (a6 (PW.pt (fj (cw (cv (aT Dis_Z3 hr (by decide) rfl (aa (pv 3) aj)))) (eP (av rj (bO fW (pv 3) am (fun _ _ => rfl)) am (aC _))))) (ak (cJ B.x_NoStand rfl B.m_NoStand rfl bZ (aa aS aj))) aI) (ag (bC (j9 XZ12 hr (by decide) bZ (pv 0) (aa (bg (aa (pv 1) (aa (pv 2) aj))) aj))) (ag (aL (i := 4) sc.nd rfl (Or.inl rfl) (lh Bq PySem.F.slot_dict_setdefault PySem.F.type_dict_setdefault jv (b8 (pv 0) rfl) (aa (pv 1) (aa b4 aj)))) (ak (dC (cQ hr) (pv 4) (pv 2) (pv 3) rfl))))))))),?_⟩
 have slt : (3000 : Nat) < sizeLine := by decide
 refine ⟨_,rfl,_,rfl,(by show 2 <= sizeLine; decide),fun l0 n0 => ?_⟩
 have g1 := ai n0 (.lst [.str zg,.str zo])
 refine ⟨l0,_,rfl,ae,(fun y hy => ?_),fun nn => ?_,fun nn H' gg => eN (fun z => nn fun y hy => ?_) H' (g1.trans gg)⟩
 ·rcases A3.mp hy with rfl | hy
  ·exact hv.imp id (dg.same g1)
  ·rw [A2.mp hy]
   exact hw.imp id (dg.same g1)
 rotate_left
 ·rcases A3.mp hy with rfl | hy
  ·exact z.1
  ·rw [A2.mp hy]
   exact z.2
 have lb1 := lb.same g1
 generalize ar H l0 (.lst [.str zg,.str zo]) = H1 at g1 lb1 ⊢
 try dsimp only [bv,bA]
 refine cut (fun σ H' => ∃ r' : V,σ = [some (.ref x),some (.str zg),some (.str zo),some r',none] /\ au H1 H' /\ ((∃ (p q : Int) (t : Addr),r' = .ref t /\ H' t = some (.tup [.int p,.int q]) /\ 0 < p /\ y9 p q /\ Bd 200 p /\ Bd 200 q /\ qI H r p q /\ ∀ r2,r = .ref r2 -> t = r2) ∨ (fR K H' r' /\ fR K H r))) (fun N hN => ?_) ?_
 ·rcases hr0 with ⟨p,q,⟨rfl,rfl,rfl⟩ | ⟨t,rfl,et,p0,lo,bp,bq⟩⟩ | bad
  ·refine ⟨_,rfl,rfl,_,rfl,dT rfl ⟨1,1,rfl,Bd.one.mono (by decide),fun _ p' q' f t H2 g2 e2 => ?_,fun z => absurd z (by decide)⟩⟩
   obtain ⟨rfl,rfl⟩ := sD f
   exact hN _ _ ⟨_,rfl,g2,.inl ⟨1,1,t,rfl,e2,by decide,⟨by decide,rfl⟩,Bd.one.mono (by decide),Bd.one.mono (by decide),.inl ⟨rfl,rfl,rfl⟩,fun r2 z => (by cases z)⟩⟩
  ·exact ⟨_,rfl,rfl,_,rfl,dF nofun (hN _ _ ⟨.ref t,rfl,.refl _,.inl ⟨p,q,t,rfl,g1 _ _ et,p0,lo,bp,bq,.inr ⟨t,rfl,et,p0,lo,bp,bq⟩,fun r2 z => (by cases z; rfl)⟩⟩)⟩
  ·exact ⟨_,rfl,rfl,_,rfl,dF bad.1 (hN _ _ ⟨r,rfl,.refl _,.inr ⟨bad.same g1,bad⟩⟩)⟩
 rintro σ H2 ⟨r',rfl,g2,hr2⟩
 have k2 := g1.trans g2
 have lb2 := lb1.same g2
 refine ⟨_,rfl,_,rfl,rfl,_,rfl,d2 (fun c => ⟨(by show 1 <= sizeLine; decide),qS (.inl (by injection c)) _ k2⟩) (fun c => ?_)⟩
 have zne : zg ≠ zo := fun z => c (by rw [z])
 obtain ⟨dx,s,b,fs,dk,ex,es,eb,bd,hb,fm,sF,bF,pb⟩ := lb2.at_
 try dsimp only [bv,bA]
 refine cut (fun σ H' => σ = [some (.ref x),some (.str zg),some (.str zo),some r',none] /\ au H2 H' /\ ¬ kS g zg zo) (fun N hN => ?_) ?_
 ·refine ⟨_,rfl,_,rfl,x,_,dx,_,_,rfl,ex,B.cl_Larder,B.na_Larder_stands,es,s,rfl,.inl ⟨_,.inl bd.at_⟩,_,rfl,fun pn hn => ?_⟩
  have g3 := ai hn (.dK [])
  refine ⟨_,dB.k (k := .inr zg) (g3 _ _ bd.at_),?_⟩
  rcases bd.ex zg with ⟨e1,e2⟩ | ⟨a,row,e1,e2,e3,e4,e5,e6,e7⟩
  ·rw [e1]
   exact ⟨pn,_,rfl,dB.k (k := .inr zo) ae,_,rfl,bU (hN _ _ ⟨rfl,g3,fun ⟨t,z⟩ => (by rw [e2] at z; cases z)⟩)⟩
  ·rw [e1]
   refine ⟨a,_,rfl,dB.k (k := .inr zo) (g3 _ _ e2),_,rfl,?_⟩
   cases hg : g zg zo with
   | none =>
    have : aN (c7 row) (.inr zo) = none := by
     cases hx : aN (c7 row) (.inr zo) with
     | none => rfl
     | some u =>
      obtain ⟨⟨y,t⟩,hm,e⟩ := AZ.mp (show (.inr zo,u) ∈ c7 row from pi hx)
      cases e
      have := (e7 _ _).mpr hm
      rw [hg] at this
      cases this
    rw [this]
    exact bU (hN _ _ ⟨rfl,g3,fun ⟨t,z⟩ => (by rw [hg] at z; cases z)⟩)
   | some t =>
    rw [mI e5 ((e7 zo t).mp hg)]
    exact cE ⟨(by show 1 <= sizeLine; decide),qS (.inr (.inl ⟨t,hg⟩)) _ (k2.trans g3)⟩
 rintro σ H3 ⟨rfl,g3,nst⟩
 have k3 := k2.trans g3
 have lb3 := lb2.same g3
 clear ex es eb bd hb fm sF bF pb
 rcases hr2 with ⟨p,q,t,rfl,et,p0,lo,bp,bq,rok,tr⟩ | ⟨bad,bad0⟩
 rotate_left
 ·have bad3 := bad.same g3
  obtain ⟨_,f | ⟨t,p,q,rfl,et,f,pz⟩⟩ := bad3
  ·exact ⟨_,rfl,r',false,rfl,f,_,rfl,cE ⟨(by show 1 <= sizeLine; decide),qS (.inr (.inr bad0)) _ k3⟩⟩
  ·exact ⟨_,rfl,_,true,rfl,f,_,rfl,bU ⟨_,rfl,t,_,_,_,rfl,rfl,iX.of et,rfl,_,_,rfl,rfl,_,rfl,dT pz ⟨(by show 1 <= sizeLine; decide),qS (.inr (.inr bad0)) _ k3⟩⟩⟩
 have et3 := g3 _ _ et
 refine ⟨_,rfl,_,true,rfl,rV et3 (by rw [decide_eq_true (show 1 <= q by have := lo.pos; omega),decide_eq_true lo.low]; rfl),_,rfl,bU ⟨_,rfl,t,_,_,_,rfl,rfl,iX.of et3,rfl,_,_,rfl,rfl,_,rfl,dF (by omega) ?_⟩⟩
 obtain ⟨dx,s,b,fs,dk,ex,es,eb,bd,hb,fm,sF,bF,pb⟩ := lb3.at_
 refine ⟨_,rfl,x,_,dx,_,rfl,ex,B.cl_Larder,B.me_Z12,fm _ (by decide),_,rfl,_,rfl,(by show 2 <= sizeLine; decide),fun l4 n4 => ?_⟩
 have g4 := ai n4 (.lst [.str zg,.str zo])
 obtain ⟨F0,la,sub,back⟩ := (lb3.same g4).la
 refine ⟨x,l4,F0,rows,ns,[zg,zo],rfl,la,ae,(by simp),n80,nd,fun many H5 g5 => qM zne nst ⟨p,q,rok⟩ many H5 ((k3.trans g4).trans g5),fun room H5 ms k5 la5 nd5 m5 => ?_⟩
 have qD := fun a b => qDD a b room
 have lb5 := back _ _ _ la5 k5
 have kF : KF F1 H H5 := (KF.of (k3.trans g4)).trans fun a o n e => k5 a o (fun z => n (sub a z)) e
 have et5 : H5 t = some (.tup [.int p,.int q]) := k5 _ _ (fun z => (lb3.same g4).not (g4 _ _ et3) (fun _ z => nomatch z) (sub t z)) (g4 _ _ et3)
 clear ex es eb bd hb fm sF bF pb
 obtain ⟨dx,s,b,fs,dk,ex,es,eb,bd,hb,fm,sF,bF,pb⟩ := lb5.at_
 have dF : ∀ a ∈ F1,∃ kv,H5 a = some (.dK kv) := fun a ha => by
  obtain ⟨_,_,_,_,_,_,_,_,_,_,_,_,_,_,_,_,_,_,_,q8,_⟩ := lb5.ex
  exact q8 a ha
 refine ⟨_,rfl,x,_,dx,_,_,rfl,ex,B.cl_Larder,B.na_Larder_stands,es,.inr (.inr (.inl ⟨rfl,.inl ⟨_,bd.at_⟩⟩)),_,rfl,fun pn hn => ?_⟩
 have g6 := ai hn (.dK [])
 have dkl := bd.few
 refine ⟨s,_,.inr zg,.ref pn,rfl,rfl,g6 _ _ bd.at_,by omega,fun w hw => ?_,fun hw => ?_⟩
 ·rcases bd.ex zg with ⟨e1,_⟩ | ⟨a,row,e1,e2,e3,e4,e5,e6,e7⟩
  ·rw [hw] at e1; cases e1
  rw [hw] at e1
  cases e1
  have aF := dN.mp e3
  have lb6 := lb5.same g6
  have bd6 := bd.same g6
  have bd7 := BD.put (g' := mK g zg zo t) bd6 hw (g6 _ _ e2) (fun _ _ => rfl)
  refine ⟨_,rfl,_,rfl,_,rfl,a,_,rfl,fZ.k (k := .inr zo) (g6 _ _ e2) (by unfold c7; rw [A8]; omega),?_⟩
  refine qD zne nst p q rok F1 _ ms t ((kF.trans (KF.of g6)).trans (KF.put _ aF)) FG.refl (LB.stands (r := a) (u := .dK []) lb6 (g6 _ _ ex) es (fun _ h => h) (fun b' o n e => KF.put _ aF b' o n e) (fun b' o e ns' ni => ?_) (bd7.mono (by omega)) (fun dk2 e y b' z => ?_) (fun b' hb' => ?_)) nd5 m5
  ·rw [af (fun z => ni dk bd6.at_ zg (by rw [z]; exact hw))]
   exact e
  ·rw [bd6.at_] at e
   cases e
   exact .inl z
  ·by_cases c : b' = a
   ·exact ⟨_,by rw [c]; exact ae⟩
   ·obtain ⟨kv,e⟩ := dF b' hb'
    exact ⟨kv,by rw [af c]; exact g6 _ _ e⟩
 ·have ps : pn ≠ s := fun z => by rw [z,bd.at_] at hn; cases hn
  have pF : pn ∉ F1 := lb5.free hn
  have new : ∀ y,aN dk (.inr y) ≠ some (.ref pn) := fun y => bd.new hn y
  have bd6 := uy (F' := F1 ++ [pn]) (bd.same g6) (fun a h => Aj _ h)
  have bd7 := BD.open (x0 := zg) bd6 hw (show ar H5 pn (.dK []) pn = some (.dK (c7 [])) from ae) (dN.mpr (by simp)) ps new
  have hv7 : aN (putK dk (.inr zg) (.ref pn)) (.inr zg) = some (V.ref pn) := by rw [fA,if_pos rfl]
  have ep7 : ar (ar H5 pn (.dK [])) s (.dK (putK dk (.inr zg) (.ref pn))) pn = some (.dK (c7 [])) := by rw [af ps]; exact ae
  have bd8 := BD.put (g' := mK g zg zo t) bd7 hv7 ep7 (fun _ _ => rfl)
  refine ⟨_,rfl,_,rfl,_,rfl,pn,_,rfl,fZ.k (k := .inr zo) (kvs := []) ep7 (by show 0 < sizeLine; omega),?_⟩
  have tp : t ≠ pn := fun z => by rw [z,hn] at et5; cases et5
  have ts : t ≠ s := fun z => by rw [z,bd.at_] at et5; cases et5
  refine qD zne nst p q rok (F1 ++ [pn]) _ ms t (kF.trans fun b' o n e => ?_) (fun a ha => ?_) (LB.stands (r := s) (u := .dK []) lb5 ex es (fun a h => Aj _ h) (fun b' o n e => ?_) (fun b' o e ns' ni => ?_) bd8 (fun dk2 e y b' z => ?_) (fun b' hb' => ?_)) nd5 m5
  ·rw [af (fun z => by rw [z,hn] at e; cases e),af (fun z => n (by rw [z]; exact sF)),af (fun z => by rw [z,hn] at e; cases e)]
   exact e
  ·rcases A9.mp ha with h | h
   ·exact .inl h
   ·rw [A2.mp h]
    refine .inr ?_
    cases hp : H pn with
    | none => rfl
    | some ob => rw [kF _ _ pF hp] at hn; cases hn
  ·rw [af (fun z => by rw [z,hn] at e; cases e),af (fun z => n (Aj _ (by rw [z]; exact sF))),af (fun z => by rw [z,hn] at e; cases e)]
   exact e
  ·rw [af (fun z => by rw [z,hn] at e; cases e),af ns',af (fun z => by rw [z,hn] at e; cases e)]
   exact e
  ·rw [bd.at_] at e
   cases e
   rw [fA] at z
   split at z
   ·cases z
    exact .inr hn
   ·exact .inl z
  ·by_cases c1 : b' = pn
   ·exact ⟨_,by rw [c1]; exact ae⟩
   ·by_cases c2 : b' = s
    ·exact ⟨_,by rw [af c1,c2]; exact ae⟩
    ·rcases A9.mp hb' with h | h
     ·obtain ⟨kv,e⟩ := dF b' h
      exact ⟨kv,by rw [af c1,af c2,af c1]; exact e⟩
     ·exact absurd (A2.mp h) c1
theorem xR : aD ["_law_script","_law_k"] ["_law_script","_law_k"] (ap uP) := ⟨rfl,rfl,rfl,by decide +kernel,rfl,by decide +kernel,by decide +kernel⟩
set_option maxHeartbeats 4000000 in
theorem xS {dV : Value} (F : bH K "_law_cell_at" "_law_cell_at" uP dV f fd) (B : Bn K mg c_EmptyHeap c_InRing c_Larder c_NoAmount c_NoDish c_NoName c_NoNet c_NoNumber c_NoPack c_NoPlan c_NoRow c_NoStand c_NoStandIn c_NoStep c_StoveError c_TooFew c_TooMany c_Twice f_Z11 f_Z12 f_Z13 f_Z14 f_Z15 f_Z16 f_Z17 f_Z18 f_Z19)  : bh P w K mg base bw 1 f fd ["_law_script","_law_k"] (nj K) := by
 have sc := xR
 refine F.ok sc (fun vs H Q E h => ?_) (fun cdv A outer s H vs Q E hr h => ?_)
 ·obtain ⟨a,ns,k,rfl,_⟩ := h
  rfl
 obtain ⟨a,ns,k,rfl,hS,h0,q⟩ := h
 refine ⟨_,(ag (a6 (av oB (pv 1) (aK bR rfl B.b_len boot_len (aa (pv 0) aj)) (aC _)) (ak (aG (bO bQ (pv 0) (pv 1) (fun _ _ => rfl)))) aI) (ak (aG am))),?_⟩
 refine ⟨_,rfl,_,rfl,a,_,rfl,.inl hS,_,_,rfl,rfl,_,rfl,d2 (fun c => ?_) (fun c => ?_)⟩
 ·obtain ⟨v,hv⟩ := tN h0 c
  exact ⟨_,rfl,_,rfl,a,_,_,_,rfl,rfl,hS,hv,q v⟩
 ·exact q 0
theorem xT : aD ["_law_cell","_law_other","_law_letters","_law_size","_law_word","_law_odd","_law_at"] ["_law_cell","_law_other"] (ap uQ) := ⟨rfl,rfl,rfl,by decide +kernel,rfl,by decide +kernel,by decide +kernel⟩
set_option maxHeartbeats 4000000 in
theorem xU {dV : Value} (F : bH K "_law_text" "_law_text" uQ dV f fd) (B : Bn K mg c_EmptyHeap c_InRing c_Larder c_NoAmount c_NoDish c_NoName c_NoNet c_NoNumber c_NoPack c_NoPlan c_NoRow c_NoStand c_NoStandIn c_NoStep c_StoveError c_TooFew c_TooMany c_Twice f_Z11 f_Z12 f_Z13 f_Z14 f_Z15 f_Z16 f_Z17 f_Z18 f_Z19)  : bh P w K mg base bw 1 f fd ["_law_cell","_law_other"] kH := by
 have sc := xT
 refine F.ok sc (fun vs H Q E h => ?_) (fun cdv A outer s H vs Q E hr h => ?_)
 ·obtain ⟨a,b,rfl,_⟩ := h
  rfl
 obtain ⟨a,b,rfl,b0,q⟩ := h
 refine ⟨_,(ag (aL (i := 2) sc.nd rfl (Or.inr rfl) aS) (ag (aL (i := 3) sc.nd rfl (Or.inl rfl) (aJ aY (pv 0) am)) (ag (aL (i := 4) sc.nd rfl (Or.inl rfl) (lh PySem.F.plainAttrs_str PySem.F.slot_str_join PySem.F.type_str_join ud aS (aa (rR (hd := none) (own := "_law_k") (ys := ["_law_letters","_law_cell"]) (js := [2,0]) hr.hd (wq (vZ (vZ wp)) (.cons rfl (.cons rfl .nil)) (by decide) rfl rfl rfl rfl rfl rfl rfl rfl) (qf rfl B.b_range (aa (pv 3) aj)) (fun C fp s H => (bO jN (pv 1) (aJ aY (aJ aY (aJ fD (aJ cW (aJ aY (aJ bG (pv 2) am) am) am) (aJ cW (aJ cW (aJ fD (pv 0) (pv 0)) (aJ fD am (pv 0))) am)) am) am) (fun _ _ => rfl)))) aj))) (ag (a6 (av bX (aJ aY (pv 1) am) am (aC _)) (ak (aG (pv 4))) aI) (ag (aL (i := 5) sc.nd rfl (Or.inl rfl) aS) (ag (aL (i := 6) sc.nd rfl (Or.inl rfl) (aJ aY (aJ bG (pv 1) am) (aJ cW (pv 3) am))) (ak (aG (aJ cH (aJ cH (dS r6 (pv 4) gN (eD (pv 6))) (bO jN (pv 5) (aJ aY (aJ bG (pv 1) am) (aK cC rfl B.b_len boot_len (aa (pv 5) aj))) (fun _ _ => rfl))) (dS r6 (pv 4) (eD (pv 6)) gN)))))))))),?_⟩
 have slt : (3000 : Nat) < sizeLine := by decide
 have s0 := AG a (show (0 : Int) < 15 by decide)
 have s1 := Aa a (show (0 : Int) < 15 by decide)
 refine ⟨_,rfl,_,_,rfl,rfl,(by show (15 : Int) ≠ 0; decide),?_⟩
 try dsimp only [bv,bA]
 refine cut (fun σ H' => ∃ wd : Str,σ = [some (.int a),some (.int b),some (.str iG),some (.int (a.fmod 15)),some (.str wd),none,none] /\ au H H' /\ wd.length <= 14) (fun N hN => ?_) ?_
 ·refine ⟨rfl,_,rfl,a.fmod 15,rfl,by omega,by omega,t9 (fun _ v => ∃ z : Str,v = .str z /\ z.length <= 1) nv.no (by omega) (fun i hi H3 g3 Q' hQ => ?_) (fun lw ys H1 nlw yl hy g1 e1 => ?_)⟩
  ·have c0 := AG (a.fdiv 15) (show (0 : Int) < 1009 by decide)
   have c1 := Aa (a.fdiv 15) (show (0 : Int) < 1009 by decide)
   have i14 : i <= 14 := by omega
   have bi : Bd 10 (0 + (i : Int)) := by unfold Bd; omega
   have b2 : Bd 20 ((0 + (i : Int)) * (0 + (i : Int))) := bi.mul bi
   have b5 : Bd 13 (5 * (0 + (i : Int))) := by unfold Bd; omega
   have bb : Bd 40 ((0 + (i : Int)) * (0 + (i : Int)) + 5 * (0 + (i : Int)) + 3) := by
    unfold Bd at b2 b5 ⊢
    omega
   have b1 : Bd 20 ((a.fdiv 15).fmod 1009 + 1) := by unfold Bd; omega
   refine ⟨_,rfl,_,rfl,_,_,rfl,rfl,⟨by decide,Af (by decide)⟩,_,_,rfl,rfl,(by show (1009 : Int) ≠ 0; decide),_,_,rfl,rfl,_,rfl,_,rfl,_,_,rfl,rfl,bi.ok bi,_,rfl,_,_,rfl,rfl,IntMulOk.of_left (by decide),_,_,rfl,rfl,_,_,rfl,rfl,_,_,rfl,rfl,b1.ok bb,_,_,rfl,rfl,(by show (1013 : Int) ≠ 0; decide),_,_,rfl,rfl,(by show (26 : Int) ≠ 0; decide),?_⟩
   dsimp only
   generalize (((a.fdiv 15).fmod 1009 + 1) * ((0 + (i : Int)) * (0 + (i : Int)) + 5 * (0 + (i : Int)) + 3)).fmod 1013 = u
   have u0 := AG u (show (0 : Int) < 26 by decide)
   have u1 := Aa u (show (0 : Int) < 26 by decide)
   exact ⟨iG,_,_,rfl,rfl,(by decide),kC u0 u1,hQ _ _ ⟨_,rfl,A5 _⟩ (.refl _)⟩
  ·obtain ⟨ws,rfl,sm⟩ := eG (n := 1) (ys := ys) (fun y hy' => by obtain ⟨i,hi⟩ := AW.mp hy'; exact hy i y hi)
   rw [A8] at yl
   refine ⟨_,lw,ws,rfl,rfl,bu.of e1,(by decide),by omega,hN _ _ ⟨_,rfl,g1,?_⟩⟩
   rw [sd]
   show _ + _ * 0 <= 14
   omega
 rintro σ H1 ⟨wd,rfl,g1,wl⟩
 have wz : wd.length <= sizeLine := by omega
 have cutl : ∀ lo hi,(lM wd lo hi).length <= wd.length := fun lo hi => gx wd lo hi
 refine ⟨_,rfl,_,_,rfl,rfl,(by show (2 : Int) ≠ 0; decide),rfl,_,rfl,sU (fun _ => ⟨_,rfl,q _ _ g1 (by omega)⟩) (fun _ => ?_)⟩
 try dsimp only [bv,bA]
 refine cut (fun σ H' => ∃ od : Str,σ = [some (.int a),some (.int b),some (.str iG),some (.int (a.fmod 15)),some (.str wd),some (.str od),none] /\ H1 = H' /\ od.length = 32) (fun N hN => hN _ _ ⟨_,rfl,rfl,by decide⟩) ?_
 rintro σ _ ⟨od,rfl,rfl,ol⟩
 refine ⟨_,rfl,_,_,rfl,rfl,⟨by decide,Af (by decide)⟩,_,rfl,_,_,rfl,rfl,_,_,rfl,rfl,(by omega),?_⟩
 have o0 := AG (b.fdiv 62) (show (0 : Int) < (od.length : Int) by omega)
 have o1 := Aa (b.fdiv 62) (show (0 : Int) < (od.length : Int) by omega)
 obtain ⟨ch,hch⟩ : ∃ ch,k9 od.cps.toList ((b.fdiv 62).fmod (od.length : Int)) = some ch := by
  obtain ⟨j,ej,jl⟩ : ∃ j : Nat,(b.fdiv 62).fmod (od.length : Int) = (j : Int) /\ j < od.length := ⟨((b.fdiv 62).fmod (od.length : Int)).toNat,by omega,by omega⟩
  rw [ej]
  exact ⟨_,eE (AK (show j < od.cps.toList.length by rw [AJ]; exact jl))⟩
 have k1 := cutl none (some ((b.fdiv 2).fmod (a.fmod 15 + 1)))
 have k2 := cutl (some ((b.fdiv 2).fmod (a.fmod 15 + 1))) none
 have one : ∀ c,(⟨#[c]⟩ : Str).length = 1 := fun _ => rfl
 try dsimp only [bv,bA]
 refine ⟨_,rfl,_,rfl,_,rfl,wd,rfl,wz,_,rfl,_,rfl,_,_,rfl,rfl,⟨by decide,Af (by decide)⟩,_,rfl,od,rfl,by omega,_,_,rfl,rfl,(by omega),od,_,ch,rfl,rfl,by omega,hch,_,_,rfl,rfl,(by rw [one]; omega),_,rfl,_,rfl,_,rfl,wd,rfl,wz,_,_,rfl,rfl,(by rw [Str.length_append,one]; omega),q _ _ g1 ?_⟩
 rw [Str.length_append,Str.length_append,one]
 omega
theorem xV : aD ["_law_word"] ["_law_word"] (ap uR) := ⟨rfl,rfl,rfl,by decide +kernel,rfl,by decide +kernel,by decide +kernel⟩
set_option maxHeartbeats 4000000 in
theorem xW {dV : Value} (F : bH K "_law_due" "_law_due" uR dV f fd) (B : Bn K mg c_EmptyHeap c_InRing c_Larder c_NoAmount c_NoDish c_NoName c_NoNet c_NoNumber c_NoPack c_NoPlan c_NoRow c_NoStand c_NoStandIn c_NoStep c_StoveError c_TooFew c_TooMany c_Twice f_Z11 f_Z12 f_Z13 f_Z14 f_Z15 f_Z16 f_Z17 f_Z18 f_Z19)  : bh P w K mg base bw 1 f fd ["_law_word"] om := by
 have sc := xV
 refine F.ok sc (fun vs H Q E h => ?_) (fun cdv A outer s H vs Q E hr h => ?_)
 ·obtain ⟨w,rfl,_⟩ := h
  rfl
 obtain ⟨w,rfl,wl,qT,qF⟩ := h
 refine ⟨_,(ag (a6 (cw (rn rj rj am (aK cC rfl B.b_len boot_len (aa (pv 0) aj)) am)) (ak (aG bL)) aI) (ak (aG (bW (iJ hr.units0) (gh (own := "_law_sign") (ys := []) (js := []) rfl (wq wp .nil (by decide) rfl rfl rfl rfl rfl rfl rfl rfl) (rZ (pv 0)) (fun C fp s H => (av fz (pv 0) aS (by with_unfolding_all rfl))) (fun C fp s H => (pv 0))) (bg aj) (aC _))))),?_⟩
 have slt : (3000 : Nat) < sizeLine := by decide
 have wz : w.length <= sizeLine := by omega
 have hl := iA w
 try dsimp only [bv,bA]
 refine cut (fun σ H' => H = H' /\ σ = [some (.str w)] /\ 1 <= w.length /\ w.length <= 12) (fun N hN => ?_) ?_
 ·refine ⟨_,rfl,w,rfl,wz,_,_,rfl,rfl,_,rfl,d2 (fun c1 => ⟨_,_,rfl,rfl,_,rfl,n2 (fun c2 => ?_) (fun c2 => hN _ _ ⟨rfl,rfl,by omega,by omega⟩)⟩) (fun c1 => ⟨_,rfl,cE ?_⟩)⟩
  ·exact qF _ (.refl _) fun n => by have := n.2.1; omega
  ·exact qF _ (.refl _) fun n => by have := n.1; omega
 rintro σ _ ⟨rfl,rfl,l1,l2⟩
 have cs : w.cps.size = w.length := rfl
 refine ⟨_,rfl,w,rfl,nZ (n := w.cps.size) (fun i => !decide (97 <= w.cps[i]?.getD 0 /\ w.cps[i]?.getD 0 <= 122)) (fun i => .str ⟨#[w.cps[i]?.getD 0]⟩) (by omega) (fun i H2 _ hi => hi) (fun H2 _ => rfl) (fun i hi H2 x H3 g2 hy => ?_) (fun p H1 np g1 e1 => ?_)⟩
 ·obtain ⟨rfl,c,hc,rfl⟩ := hy
  have ec : w.cps[i]?.getD 0 = c := by rw [hc]; rfl
  refine ⟨rfl,fun R hR => ?_,fun _ Q' hQ => ?_⟩
  ·try dsimp only at hR
   rw [ec,<- kc c] at hR
   exact ⟨_,rfl,_,_,rfl,rfl,_,rfl,hR⟩
  ·try dsimp only at hQ
   rw [ec] at hQ
   exact ⟨_,rfl,hQ⟩
 ·refine ⟨(by show 0 <= sizeLine; decide),fun l0 n0 => ⟨p,l0,_,rfl,rfl,bu.of (ai n0 _ _ _ e1),bu.of ae,?_⟩⟩
  have gA := g1.trans (ai n0 (.lst []))
  by_cases nw : Nm w
  ·have : dP w.cps.size (fun i => !decide (97 <= w.cps[i]?.getD 0 /\ w.cps[i]?.getD 0 <= 122)) (fun i => .str ⟨#[w.cps[i]?.getD 0]⟩) = [] := by
    unfold dP
    rw [List.map_eq_nil_iff,List.filter_eq_nil_iff]
    intro i hi
    have il := BS.mp hi
    have hc := AN il
    have m := nw.2.2 (w.cps[i]) (by show w.cps[i] ∈ w.cps.toList; exact Array.mem_toList_iff.mpr (Array.getElem_mem il))
    rw [hc]
    show ¬ (!decide (97 <= w.cps[i] /\ w.cps[i] <= 122)) = true
    rw [decide_eq_true m]
    decide
   rw [this]
   exact qT _ gA nw
  ·have : (dP w.cps.size (fun i => !decide (97 <= w.cps[i]?.getD 0 /\ w.cps[i]?.getD 0 <= 122)) (fun i => V.str ⟨#[w.cps[i]?.getD 0]⟩)).isEmpty = false := by
    cases he : (dP w.cps.size (fun i => !decide (97 <= w.cps[i]?.getD 0 /\ w.cps[i]?.getD 0 <= 122)) (fun i => V.str ⟨#[w.cps[i]?.getD 0]⟩)).isEmpty with
    | false => rfl
    | true =>
     exfalso
     have he' := List.isEmpty_iff.mp he
     unfold dP at he'
     rw [List.map_eq_nil_iff,List.filter_eq_nil_iff] at he'
     refine nw ⟨by omega,by omega,fun c hc => ?_⟩
     obtain ⟨i,hi⟩ := AW.mp hc
     have hi' : w.cps[i]? = some c := by rw [<- hi]; exact AT.symm
     have il := (Bg.mp hi').1
     have h9 := he' i (BS.mpr il)
     rw [hi'] at h9
     refine Classical.byContradiction fun nn => h9 ?_
     show (!decide (97 <= c /\ c <= 122)) = true
     rw [decide_eq_false nn]
     rfl
   rw [this]
   exact qF _ gA nw
theorem xX : aD ["_law_cell","_law_odd","_law_word","_law_found"] ["_law_cell"] (ap qO) := ⟨rfl,rfl,rfl,by decide +kernel,rfl,by decide +kernel,by decide +kernel⟩
set_option maxHeartbeats 4000000 in
theorem xY {dV : Value} (F : bH K "_law_names_told" "_law_names_told" qO dV f fd) (B : Bn K mg c_EmptyHeap c_InRing c_Larder c_NoAmount c_NoDish c_NoName c_NoNet c_NoNumber c_NoPack c_NoPlan c_NoRow c_NoStand c_NoStandIn c_NoStep c_StoveError c_TooFew c_TooMany c_Twice f_Z11 f_Z12 f_Z13 f_Z14 f_Z15 f_Z16 f_Z17 f_Z18 f_Z19) (DZ5 : Dx P w K mg base bw 1 "is_name" ["thing"] [] (fG K)) (DZ21 : Dx P w K mg base bw 1 "_law_text" ["_law_cell","_law_other"] [] kH) (DZ22 : Dx P w K mg base bw 1 "_law_due" ["_law_word"] [] om) : bh P w K mg base bw 2 f fd ["_law_cell"] eB := by
 have sc := xX
 refine F.ok sc (fun vs H Q E h => ?_) (fun cdv A outer s H vs Q E hr h => ?_)
 ·obtain ⟨c,rfl,_⟩ := h
  rfl
 obtain ⟨c,rfl,q⟩ := h
 obtain ⟨e1,p1,p2,he1,hs1,hb⟩ : ∃ (e1 : Expr) (p1 p2 : Pos),(∀ X : Cx,PE X e1 (m3 yx)) /\ (∀ t l env,swapsWith e1 t l env = pure false) /\ bM qO = .Assign [.Name "_law_odd" p1] e1 p2 :: (bM qO).tail := ⟨_,_,_,fun X => @xt X _ _ _ _ _ _ _ _ _ _ _ _ _ _ _ _ _ _ _ _ _ _ _ _,fun _ _ _ => rfl,rfl⟩
 rw [hb]
 refine ⟨_,(ag (aL (i := 1) sc.nd rfl (Or.inl rfl) (he1 _) (hs1 _ _ _)) (ag (a6 (av t6 (aT DZ5 hr (by decide) rfl (aa (bO bQ (pv 1) (aJ aY (pv 0) am) (fun _ _ => rfl)) aj)) bL (aC _)) (ak (aG bL)) aI) (ag (aL (i := 2) sc.nd rfl (Or.inl rfl) (aT DZ21 hr (by decide) rfl (aa (aJ aY (pv 0) am) (aa (aJ aY (aJ bG (pv 0) am) am) aj)))) (ag (aL (i := 3) sc.nd rfl (Or.inl rfl) (aT DZ5 hr (by decide) rfl (aa (pv 2) aj))) (ak (aG (eR (aK (cG (K := K) rfl) rfl B.b_isinstance boot_isinstance (aa (pv 3) (aa (cO (v := .ty "bool") rfl B.b_bool boot_bool rfl) aj))) (eQ (bW bX (pv 3) (aT DZ22 hr (by decide) rfl (aa (pv 2) aj)) (aC _)))))))))),?_⟩
 have slt : (3000 : Nat) < sizeLine := by decide
 have c0 := AG c (show (0 : Int) < 9 by decide)
 have c1 := Aa c (show (0 : Int) < 9 by decide)
 try dsimp only [bv,bA]
 unfold yx
 refine cut (fun σ H' => ∃ (lo : Addr) (L : List V),σ = [some (.int c),some (.ref lo),none,none] /\ au H H' /\ H' lo = some (.lst L) /\ L.length = 9 /\ ∀ v ∈ L,∃ ty,cY K H' v ty /\ Ah K ty (.type "str") = some false) (fun N hN => ?_) ?_
 ·refine ⟨(by show 1 <= sizeLine; decide),fun l1 n1 => ⟨(by show 1 <= sizeLine; decide),fun t1 n2 => fun d1 n3 => ⟨ae,[(.inr "a",.bl true)],rfl,(by show 1 <= 15; decide),?_⟩⟩⟩
  have g1 := ai n1 (.lst [.str "a"])
  have g2 := ai n2 (.tup [.str "a"])
  have e1' := g2 _ _ (show ar H l1 (.lst [.str "a"]) l1 = some (.lst [.str "a"]) from ae)
  have e2' : ar (ar H l1 (.lst [.str "a"])) t1 (.tup [.str "a"]) t1 = some (.tup [.str "a"]) := ae
  have gA := g1.trans g2
  generalize ar (ar H l1 (.lst [.str "a"])) t1 (.tup [.str "a"]) = H1 at n3 gA e1' e2' ⊢
  rw [ou]
  have g3 := ai n3 (.dK (cx [] [((.inr "a" : Key),V.bl true)]))
  have e3' : ar H1 d1 (.dK (cx [] [((.inr "a" : Key),V.bl true)])) d1 = some (.dK (cx [] [((.inr "a" : Key),V.bl true)])) := ae
  replace e1' := g3 _ _ e1'
  replace e2' := g3 _ _ e2'
  replace gA := gA.trans g3
  generalize ar H1 d1 (.dK (cx [] [((.inr "a" : Key),V.bl true)])) = H2 at gA e1' e2' e3' ⊢
  refine ⟨(by show 0 <= sizeLine; decide),fun l2 n4 => ⟨(by show 0 <= sizeLine; decide),fun t2 n5 => ⟨(by show 9 <= sizeLine; decide),fun lo n6 => hN _ _ ⟨lo,yz l1 t1 d1 l2 t2,rfl,?_,ae,rfl,?_⟩⟩⟩⟩
  ·exact ((gA.trans (ai n4 _)).trans (ai n5 _)).trans (ai n6 _)
  ·have k6 := ai n6 (.lst (yz l1 t1 d1 l2 t2))
   have k5 := ai n5 (.tup [])
   have k4 := ai n4 (.lst [])
   exact uD (k6 _ _ (k5 _ _ (k4 _ _ e1'))) (k6 _ _ (k5 _ _ (k4 _ _ e2'))) (k6 _ _ (k5 _ _ (k4 _ _ e3'))) (k6 _ _ (k5 l2 _ ae)) (k6 t2 _ ae)
 rintro σ H1 ⟨lo,L,rfl,g1,el,l9,od⟩
 obtain ⟨v,hv,ev⟩ := v3 (xs := L) (i := c.fmod 9) (AG c (by decide)) (by rw [l9]; exact Aa c (by decide))
 obtain ⟨ty,hty,hk⟩ := od v hv
 have d0 := AG (c.fdiv 7) (show (0 : Int) < 100003 by decide)
 refine ⟨_,rfl,_,rfl,_,_,rfl,rfl,(by show (9 : Int) ≠ 0; decide),lo,_,_,_,rfl,rfl,bu.of el,ev,v,rfl,.inr ⟨ty,hty,hk,false,false,rfl,rfl,_,rfl,bU ?_⟩⟩
 try dsimp only [bv,bA]
 refine ⟨_,rfl,_,_,rfl,rfl,(by show (100003 : Int) ≠ 0; decide),_,rfl,_,_,rfl,rfl,⟨by decide,Af (by decide)⟩,_,_,rfl,rfl,(by show (100003 : Int) ≠ 0; decide),_,_,rfl,d0,fun w H2 g2 wl => ?_⟩
 try dsimp only [bv,bA]
 refine ⟨_,rfl,_,rfl,.inl ⟨w,rfl,by omega,fun nw => ?_,fun nw => ?_⟩⟩
 ·refine ⟨_,rfl,_,_,_,true,rfl,.bl _,rfl,_,rfl,cE ⟨_,rfl,_,rfl,w,rfl,by omega,fun H3 g3 _ => ⟨rfl,?_⟩,fun H3 g3 nn => absurd nw nn⟩⟩
  rw [decide_eq_true rfl]
  exact q _ ((g1.trans g2).trans g3)
 ·refine ⟨_,rfl,_,_,_,true,rfl,.bl _,rfl,_,rfl,cE ⟨_,rfl,_,rfl,w,rfl,by omega,fun H3 g3 nn => absurd nn nw,fun H3 g3 _ => ⟨rfl,?_⟩⟩⟩
  rw [decide_eq_true rfl]
  exact q _ ((g1.trans g2).trans g3)
theorem xZ : aD ["_law_k","_law_turn","_law_letters","_law_word"] ["_law_k","_law_turn"] (ap uS) := ⟨rfl,rfl,rfl,by decide +kernel,rfl,by decide +kernel,by decide +kernel⟩
set_option maxHeartbeats 4000000 in
theorem x3 {dV : Value} (F : bH K "_law_name" "_law_name" uS dV f fd) (B : Bn K mg c_EmptyHeap c_InRing c_Larder c_NoAmount c_NoDish c_NoName c_NoNet c_NoNumber c_NoPack c_NoPlan c_NoRow c_NoStand c_NoStandIn c_NoStep c_StoveError c_TooFew c_TooMany c_Twice f_Z11 f_Z12 f_Z13 f_Z14 f_Z15 f_Z16 f_Z17 f_Z18 f_Z19)  : bh P w K mg base bw 1 f fd ["_law_k","_law_turn"] gS := by
 have sc := xZ
 refine F.ok sc (fun vs H Q E h => ?_) (fun cdv A outer s H vs Q E hr h => ?_)
 ·obtain ⟨k,t,rfl,_⟩ := h
  rfl
 obtain ⟨k,t,rfl,q⟩ := h
 refine ⟨_,(ag (aL (i := 2) sc.nd rfl (Or.inl rfl) aS) (ag (aL (i := 3) sc.nd rfl (Or.inl rfl) (aJ cH (bO jN (pv 2) (aJ aY (aJ cW (aJ fD (aJ bG (pv 0) am) am) (pv 1)) am) (fun _ _ => rfl)) (bO jN (pv 2) (aJ aY (aJ cW (aJ fD (aJ aY (pv 0) am) am) (pv 1)) am) (fun _ _ => rfl)))) (ak (aG (aJ cH (aJ cH (bO bQ (bg (aa aS (aa aS (aa aS aj)))) (aJ aY (pv 1) am) (fun _ _ => rfl)) (pv 3)) (bO bQ (bg (aa aS (aa aS aj))) (aJ aY (aJ bG (pv 1) am) am) (fun _ _ => rfl))))))),?_⟩
 have a0 := AG (k.fdiv 9 * 5 + t) (show (0 : Int) < 26 by decide)
 have a1 := Aa (k.fdiv 9 * 5 + t) (show (0 : Int) < 26 by decide)
 have b0 := AG (k.fmod 9 * 3 + t) (show (0 : Int) < 26 by decide)
 have b1 := Aa (k.fmod 9 * 3 + t) (show (0 : Int) < 26 by decide)
 have c0 := AG t (show (0 : Int) < 3 by decide)
 have c1 := Aa t (show (0 : Int) < 3 by decide)
 have d0 := AG (t.fdiv 3) (show (0 : Int) < 2 by decide)
 have d1 := Aa (t.fdiv 3) (show (0 : Int) < 2 by decide)
 have slt : (3000 : Nat) < sizeLine := by decide
 have p5 := (pC t).2
 have s1 := (mO t).2
 have at3 : k9 [V.str "",V.str "a",V.str "stock"] (t.fmod 3) = some (.str (mM t)) := by
  unfold mM
  rcases (by omega : t.fmod 3 = 0 ∨ t.fmod 3 = 1 ∨ t.fmod 3 = 2) with e | e | e
  ·rw [e,if_pos rfl]; rfl
  ·rw [e,if_neg (by decide),if_pos rfl]; rfl
  ·rw [e,if_neg (by decide),if_neg (by decide)]; rfl
 have at2 : k9 [V.str "",V.str "z"] ((t.fdiv 3).fmod 2) = some (.str (gJ t)) := by
  unfold gJ
  rcases (by omega : (t.fdiv 3).fmod 2 = 0 ∨ (t.fdiv 3).fmod 2 = 1) with e | e
  ·rw [e,if_pos rfl]; rfl
  ·rw [e,if_neg (by decide)]; rfl
 have one : ∀ c,(⟨#[c]⟩ : Str).length = 1 := fun _ => rfl
 refine ⟨_,rfl,_,rfl,_,_,rfl,rfl,⟨by decide,Af (by decide)⟩,_,_,rfl,rfl,IntMulOk.of_right (by decide),_,rfl,_,_,rfl,rfl,_,_,rfl,rfl,(by show (26 : Int) ≠ 0; decide),iG,_,_,rfl,rfl,(by decide),kC a0 a1,?_⟩
 refine ⟨_,rfl,_,rfl,_,_,rfl,rfl,(by show (9 : Int) ≠ 0; decide),_,_,rfl,rfl,IntMulOk.of_right (by decide),_,rfl,_,_,rfl,rfl,_,_,rfl,rfl,(by show (26 : Int) ≠ 0; decide),iG,_,_,rfl,rfl,(by decide),kC b0 b1,_,_,rfl,rfl,(by rw [one,one]; decide),?_⟩
 refine ⟨(by show 3 <= sizeLine; decide),fun l1 n1 => ⟨_,rfl,_,_,rfl,rfl,(by show (3 : Int) ≠ 0; decide),l1,_,_,_,rfl,rfl,bu.of ae,at3,_,rfl,_,_,rfl,rfl,(by rw [Str.length_append,one,one]; omega),(by show 2 <= sizeLine; decide),fun l2 n2 => ⟨_,rfl,_,_,rfl,rfl,⟨by decide,Af (by decide)⟩,_,_,rfl,rfl,(by show (2 : Int) ≠ 0; decide),l2,_,_,_,rfl,rfl,bu.of ae,at2,_,_,rfl,rfl,(by rw [Str.length_append,Str.length_append,one,one]; omega),q _ ((ai n1 _).trans (ai n2 _))⟩⟩⟩
theorem x4 : aD ["_law_e"] ["_law_e"] (ap uT) := ⟨rfl,rfl,rfl,by decide +kernel,rfl,by decide +kernel,by decide +kernel⟩
set_option maxHeartbeats 4000000 in
theorem x5 {dV : Value} {hd : Option Value} (F : bH K "_law_alone" "_law_alone" uT dV f fd) (B : Bn K mg c_EmptyHeap c_InRing c_Larder c_NoAmount c_NoDish c_NoName c_NoNet c_NoNumber c_NoPack c_NoPlan c_NoRow c_NoStand c_NoStandIn c_NoStep c_StoveError c_TooFew c_TooMany c_Twice f_Z11 f_Z12 f_Z13 f_Z14 f_Z15 f_Z16 f_Z17 f_Z18 f_Z19)  : va hd P w K mg base 1 f fd ["_law_e"] (eK c_TooMany) := by
 have sc := x4
 refine F.okH sc (fun vs H Q E h => ?_) (fun cdv A outer s H vs Q E hr h => ?_)
 ·obtain ⟨a,rfl,_⟩ := h
  rfl
 obtain ⟨a,rfl,⟨⟨n,e⟩,xd⟩,q⟩ := h
 refine ⟨_,(ag (a6 (cv (aK (iM (K := K) rfl) rfl B.b_isinstance boot_isinstance (aa (pv 0) (aa (hV (aa (bB (v := V.ref c_EmptyHeap) rfl B.m_EmptyHeap rfl) (aa (bB (v := V.ref c_InRing) rfl B.m_InRing rfl) (aa (bB (v := V.ref c_NoAmount) rfl B.m_NoAmount rfl) (aa (bB (v := V.ref c_NoDish) rfl B.m_NoDish rfl) (aa (bB (v := V.ref c_NoName) rfl B.m_NoName rfl) (aa (bB (v := V.ref c_NoNet) rfl B.m_NoNet rfl) (aa (bB (v := V.ref c_NoNumber) rfl B.m_NoNumber rfl) (aa (bB (v := V.ref c_NoPack) rfl B.m_NoPack rfl) (aa (bB (v := V.ref c_NoPlan) rfl B.m_NoPlan rfl) (aa (bB (v := V.ref c_NoRow) rfl B.m_NoRow rfl) aj))))))))))) aj)))) (ak (aG bL)) aI) (ak (aG (eR (aK (pZ (K := K) rfl) rfl B.b_isinstance boot_isinstance (aa (pv 0) (aa (bB (v := V.ref c_StoveError) rfl B.m_StoveError rfl) aj))) (eQ (mR (aK (iM (K := K) rfl) rfl B.b_isinstance boot_isinstance (aa (pv 0) (aa (hV (aa (bB (v := V.ref c_NoStand) rfl B.m_NoStand rfl) (aa (bB (v := V.ref c_NoStandIn) rfl B.m_NoStandIn rfl) (aa (bB (v := V.ref c_NoStep) rfl B.m_NoStep rfl) (aa (bB (v := V.ref c_TooFew) rfl B.m_TooFew rfl) (aa (bB (v := V.ref c_Twice) rfl B.m_Twice rfl) aj)))))) aj))))))))),?_⟩
 refine ⟨_,rfl,(by show 10 <= sizeLine; decide),fun t1 n1 => ?_⟩
 have g1 := ai n1 (.tup [.ref c_EmptyHeap,.ref c_InRing,.ref c_NoAmount,.ref c_NoDish,.ref c_NoName,.ref c_NoNet,.ref c_NoNumber,.ref c_NoPack,.ref c_NoPlan,.ref c_NoRow])
 refine ⟨a,_,none,t1,[c_EmptyHeap,c_InRing,c_NoAmount,c_NoDish,c_NoName,c_NoNet,c_NoNumber,c_NoPack,c_NoPlan,c_NoRow],false,rfl,⟨n,g1 _ _ e⟩,trivial,B.i_TooMany,ae,B.ka_TooMany_1,_,rfl,bU ?_⟩
 refine ⟨_,rfl,a,_,none,_,true,rfl,⟨n,g1 _ _ e⟩,trivial,B.i_TooMany,.own B.k_TooMany_StoveError,true,rfl,cE ?_⟩
 refine ⟨_,rfl,(by show 5 <= sizeLine; decide),fun t2 n2 => ?_⟩
 have g2 := g1.trans (ai n2 (.tup [.ref c_NoStand,.ref c_NoStandIn,.ref c_NoStep,.ref c_TooFew,.ref c_Twice]))
 refine ⟨a,_,none,t2,[c_NoStand,c_NoStandIn,c_NoStep,c_TooFew,c_Twice],false,rfl,⟨n,g2 _ _ e⟩,trivial,B.i_TooMany,ae,B.ka_TooMany_2,_,rfl,q _ g2⟩
theorem x6 : aD ["_law_larder","_law_way","_law_one","_law_other","_law_e"] ["_law_larder","_law_way","_law_one","_law_other"] (ap uU) := ⟨rfl,rfl,rfl,by decide +kernel,rfl,by decide +kernel,by decide +kernel⟩
set_option maxHeartbeats 4000000 in
theorem x8 {dV : Value} (F : bH K "_law_told" "_law_told" uU dV f fd) (B : Bn K mg c_EmptyHeap c_InRing c_Larder c_NoAmount c_NoDish c_NoName c_NoNet c_NoNumber c_NoPack c_NoPlan c_NoRow c_NoStand c_NoStandIn c_NoStep c_StoveError c_TooFew c_TooMany c_Twice f_Z11 f_Z12 f_Z13 f_Z14 f_Z15 f_Z16 f_Z17 f_Z18 f_Z19) (XZ14 : dv P w K mg base (b9 P w) 4 f_Z14 ["self","good","other"] [] (kE c_Larder c_InRing c_TooMany)) (XZ17 : dv P w K mg base (b9 P w) 4 f_Z17 ["self","good"] [] (oj c_Larder c_TooMany)) (XZ19 : dv P w K mg base (b9 P w) 4 f_Z19 ["self","good","other","ratio"] [.non] (iV K c_Larder c_NoStand c_TooMany)) (HZ25 : ∀ hd,xc hd P w K mg base 1 "_law_alone" ["_law_e"] (eK c_TooMany)) : bh P w K mg base bw 5 f fd ["_law_larder","_law_way","_law_one","_law_other"] (gT c_Larder) := by
 have sc := x6
 refine F.ok sc (fun vs H Q E h => ?_) (fun cdv A outer s H vs Q E hr h => ?_)
 ·obtain ⟨x,w,a,b,F0,rows,m,g,bs,ns,ps,rfl,_⟩ := h
  rfl
 obtain ⟨x,w,a,b,F1,rows,m,g,bs,ns,ps,rfl,lb,ok,few,m1000,b200,nd,n80,na,nb,w0,w3,q0,q1,q2,q3⟩ := h
 refine ⟨_,(ag (vL rfl rfl (fun pins E => (ak (a6 (av bX (pv 1) am (aC _)) (ak (bC (kr (K := K) rfl XZ14 hr (by decide) (pv 0) (aa (pv 2) (aa (pv 3) aj))))) (ak (a6 (av bX (pv 1) am (aC _)) (ak (bC (sP (K := K) rfl XZ19 hr (by decide) (pv 0) (aa (pv 2) (aa (pv 3) aj))))) (ak (a6 (av bX (pv 1) am (aC _)) (ak (bC (kr (K := K) rfl XZ19 hr (by decide) (pv 0) (aa (pv 2) (aa (pv 3) (aa (hV (aa am (aa am aj))) aj)))))) (ak (bC (kr (K := K) rfl XZ17 hr (by decide) (pv 0) (aa (pv 2) aj))))))))))) (vR B.t_TooMany rfl B.m_TooMany sc.nd (i := 4) rfl rfl (fun pins a => (ak (aG (bO (sO (K := K) rfl) (bg (aa aS (aa aS aj))) (jm mJ rfl B.b_int boot_int (aa (vX (j := 4) (HZ25 (some (.ref a))) (hr.suite _) (by decide) rfl (aa (pv 4) aj)) aj)) (fun _ _ => rfl))))) (u7 B.t_InRing rfl B.m_InRing (fun pins a => (ak (aG aS))) (u7 B.t_NoStand rfl B.m_NoStand (fun pins a => (ak (aG aS))) vM)))) (ak (aG aS))),?_⟩
 obtain ⟨dx,s,b',fs,dk,ex,es,eb,bd,hb,fm,sF,bF,pb⟩ := lb.at_
 try dsimp only [bv,bA]
 refine ⟨_,rfl,rfl,_,rfl,sU (fun e => ?_) (fun e0 => ⟨_,rfl,rfl,_,rfl,sU (fun e => ?_) (fun e1 => ⟨_,rfl,rfl,_,rfl,sU (fun e => ?_) (fun e3 => ?_)⟩)⟩)⟩
 ·obtain ⟨r1,r2,r3⟩ := q0 e
  exact ⟨_,rfl,x,_,dx,_,rfl,ex,B.cl_Larder,B.me_Z14,fm _ (by decide),_,rfl,_,rfl,x,a,b,F1,rows,m,g,bs,ns,ps,rfl,lb,ok,few,nd,n80,na,nb,fun hl d l' H1 g1 ed xa nxa => ⟨c_InRing,false,rfl,B.s_InRing_TooMany,bU ⟨c_InRing,true,rfl,B.s_InRing_InRing,cE (r1 hl _ (g1.trans (ai nxa _)))⟩⟩,fun hl many H1 g1 xa nxa => ⟨c_TooMany,true,rfl,B.s_TooMany_TooMany,cE ⟨(by show 2 <= sizeLine; decide),fun l nl => ⟨_,rfl,xa,rfl,⟨⟨_,ai nl _ _ _ ae⟩,trivial⟩,fun H2 g2 => ⟨true,rfl,l,_,_,_,rfl,rfl,bu.of (g2 _ _ ae),rfl,r2 hl many _ (((g1.trans (ai nxa _)).trans (ai nl _)).trans g2)⟩⟩⟩⟩,fun hl room F' H' ms k fg lb' nd' hs => r3 hl room F' H' ms k fg lb' nd' hs⟩
 ·obtain ⟨r1,r2,r3⟩ := q1 e
  have ok1 : qI H .non 1 1 := .inl ⟨rfl,rfl,rfl⟩
  exact ⟨_,rfl,x,_,dx,_,rfl,ex,B.cl_Larder,B.me_Z19,fm _ (by decide),_,rfl,_,rfl,x,a,b,.non,F1,rows,m,g,bs,ns,rfl,lb,m1000,nd,n80,na,nb,.inl ⟨1,1,ok1⟩,fun hz H1 g1 xa nxa => ⟨c_NoStand,false,rfl,B.s_NoStand_TooMany,bU ⟨c_NoStand,false,rfl,B.s_NoStand_InRing,bU ⟨c_NoStand,true,rfl,B.s_NoStand_NoStand,cE (r1 (hz.imp id fun z => z.elim id fun w => (n9 ok1 w).elim) _ (g1.trans (ai nxa _)))⟩⟩⟩,fun ne nst _ many H1 g1 xa nxa => ⟨c_TooMany,true,rfl,B.s_TooMany_TooMany,cE ⟨(by show 2 <= sizeLine; decide),fun l nl => ⟨_,rfl,xa,rfl,⟨⟨_,ai nl _ _ _ ae⟩,trivial⟩,fun H2 g2 => ⟨true,rfl,l,_,_,_,rfl,rfl,bu.of (g2 _ _ ae),rfl,r2 ne nst many _ (((g1.trans (ai nxa _)).trans (ai nl _)).trans g2)⟩⟩⟩⟩,fun ne nst room p q' _ F' H' ms t k fg lb' nd' hs => r3 ne nst room F' H' ms t k fg lb' nd' hs⟩
 ·refine ⟨_,rfl,x,_,dx,_,rfl,ex,B.cl_Larder,B.me_Z19,fm _ (by decide),_,rfl,_,rfl,(by show 2 <= sizeLine; decide),fun t0 n0 => ?_⟩
  have k0 := ai n0 (.tup [.int 0,.int 1])
  have bad : fR K (ar H t0 (.tup [.int 0,.int 1])) (.ref t0) := ⟨nofun,.inr ⟨t0,0,1,rfl,ae,rV ae (by decide),by decide⟩⟩
  exact ⟨x,a,b,.ref t0,F1,rows,m,g,bs,ns,rfl,lb.same k0,m1000,nd,n80,na,nb,.inr bad,fun _ H1 g1 xa nxa => ⟨c_NoStand,false,rfl,B.s_NoStand_TooMany,bU ⟨c_NoStand,false,rfl,B.s_NoStand_InRing,bU ⟨c_NoStand,true,rfl,B.s_NoStand_NoStand,cE (q3 e _ ((k0.trans g1).trans (ai nxa _)))⟩⟩⟩,fun _ _ okk => (by obtain ⟨p,q',okk⟩ := okk; exact (n9 okk bad).elim),fun _ _ _ p q' okk => (n9 okk bad).elim⟩
 ·obtain ⟨r2,r3⟩ := q2 (by omega)
  exact ⟨_,rfl,x,_,dx,_,rfl,ex,B.cl_Larder,B.me_Z17,fm _ (by decide),_,rfl,x,a,F1,rows,m,g,bs,ns,rfl,lb,b200,nd,n80,na,fun many H1 g1 xa nxa => ⟨c_TooMany,true,rfl,B.s_TooMany_TooMany,cE ⟨(by show 2 <= sizeLine; decide),fun l nl => ⟨_,rfl,xa,rfl,⟨⟨_,ai nl _ _ _ ae⟩,trivial⟩,fun H2 g2 => ⟨true,rfl,l,_,_,_,rfl,rfl,bu.of (g2 _ _ ae),rfl,r2 many _ (((g1.trans (ai nxa _)).trans (ai nl _)).trans g2)⟩⟩⟩⟩,fun room H' ms k lb' nd' hs => r3 room H' ms k lb' nd' hs⟩
theorem x9 : aD ["_law_larder","_law_known","_law_cell","_law_turn","_law_way","_law_one","_law_other","_law_found","_law_told_here","_law_fresh","_law_name_here"] ["_law_larder","_law_known","_law_cell","_law_turn"] (ap uV) := ⟨rfl,rfl,rfl,by decide +kernel,rfl,by decide +kernel,by decide +kernel⟩
set_option maxHeartbeats 4000000 in
theorem yc {dV : Value} (F : bH K "_law_deed" "_law_deed" uV dV f fd) (B : Bn K mg c_EmptyHeap c_InRing c_Larder c_NoAmount c_NoDish c_NoName c_NoNet c_NoNumber c_NoPack c_NoPlan c_NoRow c_NoStand c_NoStandIn c_NoStep c_StoveError c_TooFew c_TooMany c_Twice f_Z11 f_Z12 f_Z13 f_Z14 f_Z15 f_Z16 f_Z17 f_Z18 f_Z19) (DZ13 : dv P w K mg base bw 1 f_Z13 ["self"] [] (gR c_Larder)) (DZ15 : dv P w K mg base bw 3 f_Z15 ["self","good"] [] (fS c_Larder)) (DZ16 : dv P w K mg base bw 3 f_Z16 ["self","good"] [] (fh c_Larder)) (DZ18 : dv P w K mg base bw 3 f_Z18 ["self","good"] [] (iU c_Larder)) (DZ24 : Dx P w K mg base bw 1 "_law_name" ["_law_k","_law_turn"] [] gS) (DZ26 : Dx P w K mg base bw 5 "_law_told" ["_law_larder","_law_way","_law_one","_law_other"] [] (gT c_Larder)) : bh P w K mg base bw 6 f fd ["_law_larder","_law_known","_law_cell","_law_turn"] (kK c_Larder) := by
 have sc := x9
 refine F.ok sc (fun vs H Q E h => ?_) (fun cdv A outer s H vs Q E hr h => ?_)
 ·obtain ⟨x,dk,c,t,n,rfl,_⟩ := h
  rfl
 obtain ⟨x,dk,c,t,n,rfl,⟨F1,rows,m,g,bs,ns,kn,ps,c8,same,top⟩,n300,q⟩ := h
 refine ⟨_,(ag (aL (i := 4) sc.nd rfl (Or.inl rfl) (aJ aY (pv 2) am)) (ag (aL (i := 5) sc.nd rfl (Or.inl rfl) (aT DZ24 hr (by decide) rfl (aa (aJ aY (aJ bG (pv 2) am) am) (aa (pv 3) aj)))) (ag (aL (i := 6) sc.nd rfl (Or.inl rfl) (aT DZ24 hr (by decide) rfl (aa (aJ aY (aJ bG (pv 2) am) am) (aa (pv 3) aj)))) (ag (a6 (av bX (aJ aY (aJ bG (pv 2) am) am) am (aC _)) (ak (aL (i := 6) sc.nd rfl (Or.inl rfl) (pv 5))) aI) (ag (aL (i := 7) sc.nd rfl (Or.inl rfl) (aT DZ26 hr (by decide) rfl (aa (pv 0) (aa (pv 4) (aa (pv 5) (aa (pv 6) aj)))))) (ag (a6 (PW.pt (gY (av oB (pv 4) am (aC _)) (fi (av bX (pv 5) (pv 6) (aC _))))) (ak (aG (bW bX (pv 7) (bO bQ (bg (aa aS (aa aS aj))) (pv 4) (fun _ _ => rfl)) (aC _)))) aI) (ag (aL (i := 8) sc.nd rfl (Or.inl rfl) (dS jP (bg (aa (pv 5) (aa (pv 6) aj))) gN (eD (aJ rg am (aJ bG (pv 4) am))))) (ag (aL (i := 9) sc.nd rfl (Or.inl rfl) (mL rfl rfl B.b_sorted rfl B.b_set PyProof.Rows.Boot.«sorted» PyProof.Rows.Boot.«set» (gh (own := "_law_name_here") (ys := ["_law_known"]) (js := [1]) rfl (wq (vZ wp) (.cons rfl .nil) (by decide) rfl rfl rfl rfl rfl rfl rfl rfl) (dA (pv 8)) (fun C fp s H => (jI (f7 (by exact cQ hr) (pv 0) (pv 1)) (by with_unfolding_all rfl))) (fun C fp s H => (pv 0))))) (ag (a6 (av oC (aJ cW (aK jw rfl B.b_len boot_len (aa (pv 1) aj)) (aK bR rfl B.b_len boot_len (aa (pv 9) aj))) am (aC _)) (ag (a6 (PW.pt (fj (av jf (pv 7) aS (aC _)) (fj (av fX (bO bQ (pv 9) am (fun _ _ => rfl)) (nG (pv 0) DZ13 hr (by decide)) (by with_unfolding_all rfl)) (eP (av jJ (eW (pv 0) DZ16 hr (by decide) (aa (bO bQ (pv 9) am (fun _ _ => rfl)) aj)) dQ (aC _)))))) (ak (aG bL)) aI) (ag (a6 (PW.pt (gY (av jf (bO bQ (pv 9) am (fun _ _ => rfl)) (pv 5) (aC _)) (fi (av fX (bO bQ (pv 9) am (fun _ _ => rfl)) (eW (pv 0) DZ15 hr (by decide) (aa (pv 5) aj)) (by with_unfolding_all rfl))))) (ak (aG bL)) aI) (ag (a6 (PW.pt (gY (av bX (pv 4) am (aC _)) (fi (av jf (aT DZ26 hr (by decide) rfl (aa (pv 0) (aa am (aa (pv 5) (aa (pv 6) aj))))) aS (aC _))))) (ak (aG bL)) aI) (ak (aG (eR (bW (nD hr.units0) (eW (pv 0) DZ15 hr (by decide) (aa (bO bQ (pv 9) am (fun _ _ => rfl)) aj)) (bg (aa (bO bQ (pv 9) am (fun _ _ => rfl)) aj)) (aC _)) (eQ (bW bX (aT DZ26 hr (by decide) rfl (aa (pv 0) (aa (pv 4) (aa (pv 5) (aa (pv 6) aj))))) aS (aC _))))))))) aI) (ag (eT PassesOwn.never rfl (dA (pv 9)) (ce (i := 10) sc.nd rfl (Or.inl rfl)) (ak (dC (cQ hr) (pv 1) (pv 10) bL rfl))) (ag (bC (eW (pv 0) DZ18 hr (by decide) (aa (pv 5) aj))) (ag (bC (eW (pv 0) DZ18 hr (by decide) (aa aS aj))) (ag (a6 (PW.pt (gY (av bX (pv 4) am (aC _)) (fi (av bX (pv 7) aS (aC _))))) (ak (aG (bW (iJ hr.units0) (pv 9) (bg aj) (aC _)))) aI) (ag (a6 (PW.pt (gY (av bX (pv 4) am (aC _)) (fi (av bX (pv 7) aS (aC _))))) (ak (aG (bW (iJ hr.units0) (pv 9) (bg aj) (aC _)))) aI) (ak (aG (bW bX (pv 7) aS (aC _)))))))))))))))))),?_⟩
 have slt : (3000 : Nat) < sizeLine := by decide
 have cnt := c8.cnt
 have b80 := c8.bars
 have n80 := c8.n80
 have k80 := c8.knl
 have lnk : ns.length = kn.length := Nat.le_antisymm (Wo.bV c8.nn fun y h => (same y).mp h) (Wo.bV c8.kd fun y h => (same y).mpr h)
 have w0 := AG c (show (0 : Int) < 3 by decide)
 have w1 := Aa c (show (0 : Int) < 3 by decide)
 have pool : ∀ e : Int,P8 t (bE t (e.fmod 90)) := fun e => ⟨(e.fmod 90).toNat,by have := Aa e (show (0 : Int) < 90 by decide); omega,by have := AG e (show (0 : Int) < 90 by decide); rw [Int.toNat_of_nonneg this]⟩
 refine ⟨_,rfl,_,_,rfl,rfl,(by show (3 : Int) ≠ 0; decide),?_⟩
 try dsimp only [bv,bA]
 generalize hw : c.fmod 3 = w at w0 w1 ⊢
 refine ⟨_,rfl,_,_,rfl,rfl,⟨by decide,Af (by decide)⟩,_,_,rfl,rfl,(by show (90 : Int) ≠ 0; decide),_,rfl,_,_,rfl,fun H1 g1 => ?_⟩
 try dsimp only [bv,bA]
 refine ⟨_,rfl,_,_,rfl,rfl,⟨by decide,Af (by decide)⟩,_,_,rfl,rfl,(by show (90 : Int) ≠ 0; decide),_,rfl,_,_,rfl,fun H2 g2 => ?_⟩
 try dsimp only [bv,bA]
 refine cut (fun σ H' => ∃ a b : Str,σ = [some (.ref x),some (.ref dk),some (.int c),some (.int t),some (.int w),some (.str a),some (.str b),none,none,none,none] /\ au H H' /\ P8 t a /\ P8 t b) (fun N hN => ?_) ?_
 ·exact ⟨_,rfl,_,_,rfl,rfl,⟨by decide,Af (by decide)⟩,_,_,rfl,rfl,(by show (3 : Int) ≠ 0; decide),rfl,_,rfl,sU (fun _ => ⟨_,rfl,hN _ _ ⟨_,_,rfl,g1.trans g2,pool _,pool _⟩⟩) (fun _ => hN _ _ ⟨_,_,rfl,g1.trans g2,pool _,pool _⟩)⟩
 clear g1 g2 H1 H2 hw
 rintro σ H1 ⟨a,b,rfl,g1,pa,pb⟩
 have na := pa.nm
 have nb := pb.nm
 have c81 := c8.same g1
 refine cut (fun σ H' => ∃ fd : Str,σ = [some (.ref x),some (.ref dk),some (.int c),some (.int t),some (.int w),some (.str a),some (.str b),some (.str fd),none,none,none] /\ zm c_Larder H x dk t n ns kn ps g w a b fd H') (fun N hN => ?_) ?_
 ·refine ⟨_,rfl,_,rfl,_,rfl,_,rfl,x,w,a,b,F1,rows,m,g,bs,ns,ps,rfl,c81.lb,c81.ok,by omega,by omega,by omega,c81.nn,c81.n80,na,nb,by omega,by omega,fun e => ?_,fun e => ?_,fun e => ?_,fun e => by omega⟩
  ·subst e
   refine ⟨fun hl H2 g2 => hN _ _ ⟨_,rfl,.inl ⟨rfl,rfl,hl,g1.trans g2⟩⟩,fun hl many H2 g2 => hN _ _ ⟨_,rfl,.inr (.inr (.inl ⟨rfl,g1.trans g2,fun _ => hl,fun z => by omega,many⟩))⟩,fun hl room F' H2 ms k fg lb' nd hs => hN _ _ ⟨_,rfl,.inr (.inr (.inr ⟨rfl,fun _ z => hl (by rw [z]; exact .self),(KD.of g1).trans (KD.kf c81.lb k),room,F',_,m,g,bs,ms,_,c81.part k fg lb' nd hs pa pb room,hs,fun p hp => eu.mpr (.inl hp)⟩))⟩⟩
  ·subst e
   refine ⟨fun hz H2 g2 => hN _ _ ⟨_,rfl,.inr (.inl ⟨rfl,rfl,hz,g1.trans g2⟩)⟩,fun ne nst many H2 g2 => hN _ _ ⟨_,rfl,.inr (.inr (.inl ⟨rfl,g1.trans g2,fun z => by omega,fun _ => ⟨ne,nst⟩,many⟩))⟩,fun ne nst room F' H2 ms t0 k fg lb' nd hs => hN _ _ ⟨_,rfl,.inr (.inr (.inr ⟨rfl,fun _ => ne,(KD.of g1).trans (KD.kf c81.lb k),room,F',rows,m + 2,_,bs,ms,ps,c81.stand k fg lb' nd hs pa pb room,hs,fun p hp => hp⟩))⟩⟩
  ·subst e
   refine ⟨fun many H2 g2 => hN _ _ ⟨_,rfl,.inr (.inr (.inl ⟨rfl,g1.trans g2,fun z => by omega,fun z => by omega,many⟩))⟩,fun room H2 ms k lb' nd hs => hN _ _ ⟨_,rfl,.inr (.inr (.inr ⟨rfl,fun z => absurd rfl z,(KD.of g1).trans (KD.kf c81.lb k),room,F1,rows,m,g,_,ms,ps,c81.bar k lb' nd hs pa room,hs,fun p hp => hp⟩))⟩⟩
 clear g1 c81 H1
 rintro σ H2 ⟨fd,rfl,out⟩
 have ek2 : H2 dk = some (.dK (bj kn (.bl true))) := by
  rcases out with ⟨_,_,_,z⟩ | ⟨_,_,_,z⟩ | ⟨_,z,_⟩ | ⟨_,_,_,_,F',rows',m',g',bs',ms,ps',z,_⟩
  ·exact z _ _ c8.ek
  ·exact z _ _ c8.ek
  ·exact z _ _ c8.ek
  ·exact z.ek
 try dsimp only [bv,bA]
 by_cases wab : w < 2 /\ a = b
 ·obtain ⟨w2,rfl⟩ := wab
  refine ⟨_,rfl,_,_,rfl,rfl,_,rfl,dT w2 ⟨_,rfl,_,rfl,rfl,_,rfl,dT rfl ⟨_,rfl,(by show 2 <= sizeLine; decide),fun l nl => ?_⟩⟩⟩
  rcases out with ⟨rfl,rfl,_,g2⟩ | ⟨rfl,rfl,_,g2⟩ | ⟨rfl,g2,h0,h1,_⟩ | ⟨rfl,h0,_⟩
  ·refine ⟨_,rfl,l,_,_,_,rfl,rfl,bu.of ae,rfl,rfl,?_⟩
   rw [decide_eq_true rfl]
   exact q _ (KD.of (g2.trans (ai nl _))) ⟨F1,rows,m,g,bs,ns,kn,ps,(c8.same (g2.trans (ai nl _))).more,same,top⟩
  ·refine ⟨_,rfl,l,_,_,_,rfl,rfl,bu.of ae,rfl,rfl,?_⟩
   rw [decide_eq_true rfl]
   exact q _ (KD.of (g2.trans (ai nl _))) ⟨F1,rows,m,g,bs,ns,kn,ps,(c8.same (g2.trans (ai nl _))).more,same,top⟩
  ·rcases (by omega : w = 0 ∨ w = 1) with e | e
   ·exact absurd .self (h0 e)
   ·exact absurd rfl (h1 e).1
  ·exact absurd rfl (h0 (by omega))
 refine cut (fun σ H' => σ = [some (.ref x),some (.ref dk),some (.int c),some (.int t),some (.int w),some (.str a),some (.str b),some (.str fd),none,none,none] /\ H2 = H') (fun N hN => ?_) ?_
 ·exact ⟨_,rfl,_,_,rfl,rfl,_,rfl,d2 (fun w2 => ⟨_,rfl,_,rfl,rfl,_,rfl,dF (fun z => wab ⟨w2,by injection z⟩) (hN _ _ ⟨rfl,rfl⟩)⟩) (fun _ => hN _ _ ⟨rfl,rfl⟩)⟩
 rintro σ _ ⟨rfl,rfl⟩
 have tnd : (iW w a b).Nodup := by
  unfold iW
  split
  ·simp
  ·rename_i h
   simp only [AS,A2,AQ,not_false_eq_true,List.nodup_nil,and_self,and_true]
   exact fun z => wab ⟨by omega,z⟩
 have cutl : jL [V.str a,V.str b] none (some (2 - w.fdiv 2)) = (iW w a b).map V.str := by
  rcases (by omega : w = 0 ∨ w = 1 ∨ w = 2) with rfl | rfl | rfl <;> rfl
 have tll : (iW w a b).length <= 2 := by
  unfold iW
  split
  ·simp
  ·simp
 refine cut (fun σ H' => ∃ lt : Addr,σ = [some (.ref x),some (.ref dk),some (.int c),some (.int t),some (.int w),some (.str a),some (.str b),some (.str fd),some (.ref lt),none,none] /\ au H2 H' /\ H' lt = some (.lst ((iW w a b).map V.str))) (fun N hN => ?_) ?_
 ·refine ⟨_,rfl,_,rfl,(by show 2 <= sizeLine; decide),fun l nl => ⟨_,rfl,_,_,rfl,rfl,⟨by decide,Af (by decide)⟩,_,_,rfl,rfl,_,rfl,l,_,rfl,bu.of ae,fun lt nlt => ?_⟩⟩
  rw [cutl]
  exact hN _ _ ⟨lt,rfl,(ai nl _).trans (ai nlt _),ae⟩
 rintro σ H3 ⟨lt0,rfl,g3,et⟩
 refine cut (fun σ H' => ∃ (lt lf : Addr) (ys : List Str),σ = [some (.ref x),some (.ref dk),some (.int c),some (.int t),some (.int w),some (.str a),some (.str b),some (.str fd),some (.ref lt),some (.ref lf),none] /\ au H2 H' /\ H' lf = some (.lst (ys.map V.str)) /\ ys.Nodup /\ ∀ y,y ∈ ys ↔ y ∈ iW w a b /\ y ∉ kn) (fun N hN => ?_) ?_
 ·refine ⟨_,rfl,lt0,rfl,⟨_,bu.of et⟩,gD (K := K) (fun v => match v with | .str y => !decide (y ∈ kn) | _ => false) (bu.of et) (by rw [A8]; omega) (fun v hv H4 g4 R hR => ?_) (fun p H4 g4 ep => ?_)⟩
  ·obtain ⟨y,hy,rfl⟩ := AZ.mp hv
   refine ⟨_,rfl,_,rfl,dk,_,rfl,dB.k (k := .inr y) (g4 _ _ (g3 _ _ ek2)),_,rfl,?_⟩
   rw [iE]
   have hR' : R (!decide (y ∈ kn)) H4 := hR
   by_cases h : y ∈ kn
   ·rw [if_pos h]
    rw [decide_eq_true h] at hR'
    exact hR'
   ·rw [if_neg h]
    rw [decide_eq_false h] at hR'
    exact hR'
  ·have fe : ∀ l : List Str,(l.map V.str).filter (fun v => match v with | .str y => !decide (y ∈ kn) | _ => false) = (l.filter fun y => !decide (y ∈ kn)).map V.str := by
    intro l
    induction l with
    | nil => rfl
    | cons c l ih =>
     rw [An,B8,B8,ih]
     by_cases h : c ∈ kn
     ·simp [h]
     ·simp [h]
   rw [fe] at ep
   have fl := B5 (fun y => !decide (y ∈ kn)) (iW w a b)
   refine ⟨p,_,rfl,bu.of ep,by omega,(fun ks nk mk => by have := Wo.bV nk (m := iW w a b) (fun y hy => (Ap.mp ((mk y).mp hy)).1); omega),fun lf ys nlf ndy my so => hN _ _ ⟨lt0,lf,ys,rfl,(g3.trans g4).trans (ai nlf _),ae,ndy,fun y => ?_⟩⟩
   rw [my y,Ap]
   by_cases h : y ∈ kn <;> simp [h]
 clear g3 et H3
 rintro σ H3 ⟨lt,lf,ys,rfl,g3,ef,ndy,my⟩
 have fl := qL tnd ndy same my
 have ek3 := g3 _ _ ek2
 have lm : (ys.map V.str).length = ys.length := A8 _
 have lk : (bj kn (.bl true)).length = kn.length := b6 kn _
 refine ⟨_,rfl,dk,_,rfl,.inl ek3,_,rfl,lf,_,rfl,.inl (bu.of ef),_,_,rfl,rfl,_,_,rfl,rfl,_,rfl,d2 (fun big => ?_) (fun small => ?_)⟩
 ·-- no room
  obtain ⟨rfl,g2,h0,h1,many⟩ : fd = "many" /\ au H H2 /\ (w = 0 -> ¬ Led ps b a) /\ (w = 1 -> a ≠ b /\ ¬ kS g a b) /\ 80 < ns.length + (aW ns (iW w a b)).length := by
   have none' : (∀ y ∈ iW w a b,y ∈ ns) -> False := fun hh => by
    have : ys = [] := List.eq_nil_iff_forall_not_mem.mpr fun y hy => ((my y).mp hy).2 ((same y).mp (hh y ((my y).mp hy).1))
    rw [this] at big
    simp only [List.map_nil,BE] at big
    omega
   rcases out with ⟨rfl,rfl,hl,_⟩ | ⟨rfl,rfl,hz,_⟩ | z | ⟨_,_,_,room,_⟩
   ·exfalso
    refine none' fun y hy => ?_
    have ab : a ≠ b := fun z => wab ⟨by decide,z⟩
    have hA : a ∈ ns := by
     cases hl with
     | self => exact absurd rfl ab
     | step _ m => exact (c8.pin _ _ m).2
    have hB : b ∈ ns := Classical.byContradiction fun nb' => ab (((c8.alone nb').1 a).mp hl)
    unfold iW at hy
    rw [if_neg (by decide)] at hy
    simp only [A3,AQ,or_false] at hy
    rcases hy with rfl | rfl
    ·exact hA
    ·exact hB
   ·exfalso
    refine none' fun y hy => ?_
    have ab : a ≠ b := fun z => wab ⟨by decide,z⟩
    have hg := c8.gin a b (hz.resolve_left ab)
    unfold iW at hy
    rw [if_neg (by decide)] at hy
    simp only [A3,AQ,or_false] at hy
    rcases hy with rfl | rfl
    ·exact hg.1
    ·exact hg.2
   ·exact z
   ·exfalso
    omega
  cases ys with
  | nil =>
   simp only [List.map_nil,BE] at big
   omega
  | cons y0 yr =>
  obtain ⟨yt,yk⟩ := (my y0).mp (by simp)
  have yn : y0 ∉ ns := fun z => yk ((same y0).mp z)
  obtain ⟨al1,al2,al3⟩ := c8.alone yn
  have ny0 : Nm y0 := by
   unfold iW at yt
   split at yt
   ·rw [A2.mp yt]; exact na
   ·simp only [A3,AQ,or_false] at yt
    rcases yt with rfl | rfl
    ·exact na
    ·exact nb
  have gA := g2.trans g3
  have c83 := c8.same gA
  have at0 : k9 ((y0 :: yr).map V.str) 0 = some (.str y0) := eE (j := 0) rfl
  clear big out
  try dsimp only [bv,bA]
  refine cut (fun σ H' => σ = [some (.ref x),some (.ref dk),some (.int c),some (.int t),some (.int w),some (.str a),some (.str b),some (.str "many"),some (.ref lt),some (.ref lf),none] /\ au H3 H') (fun N hN => ?_) ?_
  ·refine ⟨_,rfl,rfl,_,rfl,nF rfl ?_⟩
   obtain ⟨dx,s,b',fs,dkk,ex,es,eb,bd,hb,fm,sF,bF,pb'⟩ := c83.lb.at_
   obtain ⟨F0,la,_,_⟩ := c83.lb.la
   refine ⟨_,rfl,lf,_,_,_,rfl,rfl,bu.of ef,at0,_,rfl,x,_,dx,_,rfl,ex,B.cl_Larder,B.me_Z13,fm _ (by decide),x,F0,rows,ns,rfl,la,c8.nn,fun l' H5 zs g5 e5 so pm => ⟨l',_,rfl,.inl (bu.of e5),rfl,dj zs,_,rfl,?_⟩⟩
   rw [show tF (.str y0) (zs.map V.str) = false by rw [fN]; exact decide_eq_false fun z => yn (pm.mem_iff.mp z)]
   have c85 := c83.same g5
   obtain ⟨dx,s,b',fs,dkk,ex,es,eb,bd,hb,fm,sF,bF,pb'⟩ := c85.lb.at_
   refine bU ⟨_,rfl,x,_,dx,_,rfl,ex,B.cl_Larder,B.me_Z16,fm _ (by decide),_,rfl,lf,_,_,_,rfl,rfl,bu.of (g5 _ _ ef),at0,x,y0,F1,rows,m,g,bs,ns,ps,rfl,c85.lb,c85.ok,by omega,ny0,fun H6 g6 _ => ⟨rfl,_,rfl,nF rfl (hN _ _ ⟨rfl,g5.trans g6⟩)⟩,fun l2 H6 cc goal g6 _ e6 wy gm gl => absurd gm ?_⟩
   rw [(al1 goal).mp gl]
   exact al3
  rintro σ H4 ⟨rfl,g4⟩
  have c84 := c83.same g4
  have ef4 := g4 _ _ ef
  refine cut (fun σ H' => σ = [some (.ref x),some (.ref dk),some (.int c),some (.int t),some (.int w),some (.str a),some (.str b),some (.str "many"),some (.ref lt),some (.ref lf),none] /\ au H4 H') (fun N hN => ?_) ?_
  ·by_cases ya : y0 = a
   ·exact ⟨_,rfl,lf,_,_,_,rfl,rfl,bu.of ef4,at0,_,rfl,rfl,_,rfl,nF (by rw [ya]) (hN _ _ ⟨rfl,.refl _⟩)⟩
   ·refine ⟨_,rfl,lf,_,_,_,rfl,rfl,bu.of ef4,at0,_,rfl,rfl,_,rfl,nT (fun z => ya (by injection z)) ?_⟩
    obtain ⟨dx,s,b',fs,dkk,ex,es,eb,bd,hb,fm,sF,bF,pb'⟩ := c84.lb.at_
    refine ⟨_,rfl,lf,_,_,_,rfl,rfl,bu.of ef4,at0,_,rfl,x,_,dx,_,rfl,ex,B.cl_Larder,B.me_Z15,fm _ (by decide),_,rfl,x,a,F1,rows,m,g,bs,ns,ps,rfl,c84.lb,c84.ok,by omega,na,fun l' H5 zs g5 e5 nd' mz => ⟨l',_,rfl,.inl (bu.of e5),rfl,dj zs,_,rfl,?_⟩⟩
    rw [show tF (.str y0) (zs.map V.str) = false by rw [fN]; exact decide_eq_false fun z => al2 a (fun w' => ya w'.symm) ((mz y0).mp z)]
    exact bU (hN _ _ ⟨rfl,g5⟩)
  rintro σ H5 ⟨rfl,g5⟩
  have c85 := c84.same g5
  have ef5 := g5 _ _ ef4
  refine cut (fun σ H' => σ = [some (.ref x),some (.ref dk),some (.int c),some (.int t),some (.int w),some (.str a),some (.str b),some (.str "many"),some (.ref lt),some (.ref lf),none] /\ au H5 H') (fun N hN => ?_) ?_
  ·have c86 := c85
   refine ⟨_,rfl,rfl,_,rfl,sU (fun e1 => ?_) (fun _ => hN _ _ ⟨rfl,.refl _⟩)⟩
   exact ⟨_,rfl,_,rfl,_,rfl,x,3,a,b,F1,rows,m,g,bs,ns,ps,rfl,c86.lb,c86.ok,by omega,by omega,by omega,c86.nn,c86.n80,na,nb,by omega,by omega,fun e => by omega,fun e => by omega,fun e => by omega,fun e H6 g6 => ⟨rfl,_,rfl,nF rfl (hN _ _ ⟨rfl,g6⟩)⟩⟩
  rintro σ H6 ⟨rfl,g6⟩
  have c86 := c85.same g6
  have ef6 := g6 _ _ ef5
  obtain ⟨dx,s,b',fs,dkk,ex,es,eb,bd,hb,fm,sF,bF,pb'⟩ := c86.lb.at_
  refine ⟨_,rfl,x,_,dx,_,rfl,ex,B.cl_Larder,B.me_Z15,fm _ (by decide),_,rfl,lf,_,_,_,rfl,rfl,bu.of ef6,at0,x,y0,F1,rows,m,g,bs,ns,ps,rfl,c86.lb,c86.ok,by omega,ny0,fun l' H7 zs g7 e7 nd' mz => ⟨_,rfl,lf,_,_,_,rfl,rfl,bu.of (g7 _ _ ef6),at0,(by show 1 <= sizeLine; decide),fun l1 n1 => ⟨l',l1,_,rfl,rfl,bu.of ?_,bu.of ae,eJ [y0],_,rfl,cE ?_⟩⟩⟩
  ·have : zs = [y0] := jF nd' fun y => (mz y).trans (al1 y)
   rw [this] at e7
   exact ai n1 _ _ _ e7
  have g8 := g7.trans (ai n1 (.lst [.str y0]))
  generalize ar H7 l1 (.lst [.str y0]) = H8 at g8 ⊢
  have c88 := c86.same g8
  have fin : ∀ H9,au H8 H9 -> Q (.bl (decide (V.str "many" = V.str "many"))) H9 := fun H9 g9 => by
   rw [decide_eq_true rfl]
   have gZ := (((gA.trans g4).trans g5).trans g6).trans (g8.trans g9)
   exact q _ (KD.of gZ) ⟨F1,rows,m,g,bs,ns,kn,ps,(c8.same gZ).more,same,top⟩
  refine ⟨_,rfl,_,rfl,_,rfl,_,rfl,x,w,a,b,F1,rows,m,g,bs,ns,ps,rfl,c88.lb,c88.ok,by omega,by omega,by omega,c88.nn,c88.n80,na,nb,by omega,by omega,fun e => ?_,fun e => ?_,fun e => ?_,fun e => by omega⟩
  ·subst e
   exact ⟨fun hl => absurd hl (h0 rfl),fun _ _ H9 g9 => ⟨rfl,fin H9 g9⟩,fun _ room => absurd many (by have : iW 0 a b = [a,b] := rfl; rw [this]; omega)⟩
  ·subst e
   exact ⟨fun hz => absurd hz (fun z => z.elim (h1 rfl).1 (h1 rfl).2),fun _ _ _ H9 g9 => ⟨rfl,fin H9 g9⟩,fun _ _ room => absurd many (by have : iW 1 a b = [a,b] := rfl; rw [this]; omega)⟩
  ·subst e
   exact ⟨fun _ H9 g9 => ⟨rfl,fin H9 g9⟩,fun room => absurd many (by have : iW 2 a b = [a] := rfl; rw [this]; omega)⟩
 ·-- there is room
  have ycase : (fd = "ring" /\ w = 0 /\ ys = []) ∨ (fd = "stand" /\ w = 1 /\ ys = []) ∨ fd = "done" := by
   have none' : (∀ y ∈ iW w a b,y ∈ ns) -> ys = [] := fun hh => List.eq_nil_iff_forall_not_mem.mpr fun y hy => ((my y).mp hy).2 ((same y).mp (hh y ((my y).mp hy).1))
   rcases out with ⟨rfl,rfl,hl,_⟩ | ⟨rfl,rfl,hz,_⟩ | ⟨_,_,_,_,many⟩ | ⟨rfl,_⟩
   ·refine .inl ⟨rfl,rfl,none' fun y hy => ?_⟩
    have ab : a ≠ b := fun z => wab ⟨by decide,z⟩
    have hA : a ∈ ns := by
     cases hl with
     | self => exact absurd rfl ab
     | step _ m => exact (c8.pin _ _ m).2
    have hB : b ∈ ns := Classical.byContradiction fun nb' => ab (((c8.alone nb').1 a).mp hl)
    unfold iW at hy
    rw [if_neg (by decide)] at hy
    simp only [A3,AQ,or_false] at hy
    rcases hy with rfl | rfl
    ·exact hA
    ·exact hB
   ·refine .inr (.inl ⟨rfl,rfl,none' fun y hy => ?_⟩)
    have ab : a ≠ b := fun z => wab ⟨by decide,z⟩
    have hg := c8.gin a b (hz.resolve_left ab)
    unfold iW at hy
    rw [if_neg (by decide)] at hy
    simp only [A3,AQ,or_false] at hy
    rcases hy with rfl | rfl
    ·exact hg.1
    ·exact hg.2
   ·exfalso
    omega
   ·exact .inr (.inr rfl)
  obtain ⟨F',rows',m',g',bs',ms,ps',cz,mm,pp,kd⟩ : ∃ F' rows' m' g' bs' ms ps',C8 c_Larder H3 x dk t (n + 1) F' rows' m' g' bs' ms kn ps' /\ (∀ y,y ∈ ms ↔ y ∈ ns ∨ y ∈ ys) /\ (∀ p,p ∈ ps -> p ∈ ps') /\ KD H H3 := by
   rcases out with ⟨hr',hw',_,z⟩ | ⟨hr',hw',_,z⟩ | ⟨_,_,_,_,many⟩ | ⟨_,_,kd,_,F',rows',m',g',bs',ms,ps',cc,hs,hp⟩
   ·rcases ycase with ⟨_,_,e⟩ | ⟨e,_⟩ | e
    ·exact ⟨F1,rows,m,g,bs,ns,ps,(c8.same (z.trans g3)).more,fun y => by rw [e]; simp,fun p hp => hp,KD.of (z.trans g3)⟩
    ·rw [hr'] at e; exact absurd e (by decide)
    ·rw [hr'] at e; exact absurd e (by decide)
   ·rcases ycase with ⟨e,_⟩ | ⟨_,_,e⟩ | e
    ·rw [hr'] at e; exact absurd e (by decide)
    ·exact ⟨F1,rows,m,g,bs,ns,ps,(c8.same (z.trans g3)).more,fun y => by rw [e]; simp,fun p hp => hp,KD.of (z.trans g3)⟩
    ·rw [hr'] at e; exact absurd e (by decide)
   ·exfalso
    omega
   ·refine ⟨F',rows',m',g',bs',ms,ps',cc.same g3,fun y => ?_,hp,kd.trans (KD.of g3)⟩
    rw [hs y,my y]
    constructor
    ·rintro (z | z)
     ·exact .inl z
     ·by_cases h : y ∈ kn
      ·exact .inl ((same y).mpr h)
      ·exact .inr ⟨z,h⟩
    ·rintro (z | z)
     ·exact .inl z
     ·exact .inr z.1
  clear out ek3 ek2 c8 g3
  try dsimp only [bv,bA]
  refine cut (fun σ H' => ∃ o10 : Option V,σ = [some (.ref x),some (.ref dk),some (.int c),some (.int t),some (.int w),some (.str a),some (.str b),some (.str fd),some (.ref lt),some (.ref lf),o10] /\ KD H H' /\ H' lf = some (.lst (ys.map V.str)) /\ C8 c_Larder H' x dk t (n + 1) F' rows' m' g' bs' ms (dm kn ys) ps') (fun N hN => ?_) ?_
  ·refine ⟨_,rfl,lf,rfl,⟨_,bu.of ef⟩,fo (xs := ys.map V.str) (fun i σ H' => H' lf = some (.lst (ys.map V.str)) /\ KD H H' /\ C8 c_Larder H' x dk t (n + 1) F' rows' m' g' bs' ms (dm kn (ys.take i)) ps' /\ ∃ o10 : Option V,σ = [some (.ref x),some (.ref dk),some (.int c),some (.int t),some (.int w),some (.str a),some (.str b),some (.str fd),some (.ref lt),some (.ref lf),o10]) ⟨ef,kd,cz,none,rfl⟩ (fun i σ H' _ h => bu.of h.1) ?_ ?_⟩
   ·rintro i v σ H4 hv ⟨ef4,kd4,c4,o10,rfl⟩
    rw [Ac] at hv
    cases hc : ys[i]? with
    | none => rw [hc] at hv; cases hv
    | some y =>
     rw [hc] at hv
     cases hv
     have tk : ys.take (i + 1) = ys.take i ++ [y] := by rw [BR,hc]; rfl
     have kl4 := c4.knl
     refine ⟨_,rfl,_,rfl,dk,_,rfl,fZ.k (k := .inr y) c4.ek (by rw [b6]; omega),?_⟩
     rw [d9]
     refine ⟨uA c4.ek ef4 (fun z => nomatch z),kd4.trans (KD.putK c4.ek _),?_,_,rfl⟩
     rw [tk,iL]
     exact c4.know ((mm y).mpr (.inr (AL hc)))
   ·rintro σ H4 ⟨ef4,kd4,c4,o10,rfl⟩
    rw [A8,List.take_length] at c4
    exact hN _ _ ⟨o10,rfl,kd4,ef4,c4⟩
  rintro σ H4 ⟨o10,rfl,kd4,ef4,c4⟩
  obtain ⟨dx,s,b',fs,dkk,ex,es,eb,bd,hb,fm,sF,bF,pb'⟩ := c4.lb.at_
  refine ⟨_,rfl,x,_,dx,_,rfl,ex,B.cl_Larder,B.me_Z18,fm _ (by decide),_,rfl,x,a,F',rows',m',g',bs',ms,rfl,c4.lb,na,fun H5 k5 lb5 => ?_⟩
  have c5 := c4.allow k5 lb5
  have ef5 := k5 _ _ (c4.lb.not ef4 (fun _ z => nomatch z)) ef4
  have kd5 := kd4.trans (KD.kf c4.lb k5)
  obtain ⟨dx,s,b',fs,dkk,ex,es,eb,bd,hb,fm,sF,bF,pb'⟩ := c5.lb.at_
  refine ⟨_,rfl,x,_,dx,_,rfl,ex,B.cl_Larder,B.me_Z18,fm _ (by decide),x,"unheardof",F',rows',m',g',_,ms,rfl,c5.lb,xu.1,fun H6 k6 lb6 => ?_⟩
  have c6 := c5.allow k6 lb6
  have ef6 := k6 _ _ (c5.lb.not ef5 (fun _ z => nomatch z)) ef5
  have kd6 := kd5.trans (KD.kf c5.lb k6)
  have s6 : S8 c_Larder H6 x dk t (n + 1) := ⟨F',rows',m',g',_,ms,_,ps',c6,fun y => (mm y).trans ((or_congr_left (same y)).trans eI.symm),pp _ top⟩
  have s6' : ∀ l,H6 l = none -> S8 c_Larder (ar H6 l (.lst [])) x dk t (n + 1) := fun l nl => ⟨F',rows',m',g',_,ms,_,ps',c6.same (ai nl _),fun y => (mm y).trans ((or_congr_left (same y)).trans eI.symm),pp _ top⟩
  try dsimp only [bv,bA]
  rcases ycase with ⟨rfl,rfl,rfl⟩ | ⟨rfl,rfl,rfl⟩ | rfl
  ·refine ⟨_,rfl,rfl,_,rfl,z6 (by decide) ⟨_,rfl,rfl,_,rfl,zP rfl ⟨_,rfl,rfl,_,rfl,dT rfl ⟨_,rfl,(by show 0 <= sizeLine; decide),fun l nl => ⟨lf,l,_,rfl,rfl,bu.of (ai nl _ _ _ ef6),bu.of ae,q _ (kd6.trans (KD.of (ai nl _))) (s6' l nl)⟩⟩⟩⟩⟩
  ·refine ⟨_,rfl,rfl,_,rfl,zP rfl ⟨_,rfl,rfl,_,rfl,dT rfl ⟨_,rfl,(by show 0 <= sizeLine; decide),fun l nl => ⟨lf,l,_,rfl,rfl,bu.of (ai nl _ _ _ ef6),bu.of ae,q _ (kd6.trans (KD.of (ai nl _))) (s6' l nl)⟩⟩⟩⟩
  ·have dn : ∀ z : Str,"done" ≠ z -> ¬ (V.str "done" = V.str z) := fun z h e => h (by injection e)
   have fin : Q (.bl (decide (V.str "done" = V.str "done"))) H6 := by rw [decide_eq_true rfl]; exact q _ kd6 s6
   refine cut (fun σ H' => σ = [some (.ref x),some (.ref dk),some (.int c),some (.int t),some (.int w),some (.str a),some (.str b),some (.str "done"),some (.ref lt),some (.ref lf),o10] /\ H6 = H') (fun N hN => ⟨_,rfl,rfl,_,rfl,sU (fun _ => ⟨_,rfl,rfl,_,rfl,dF (dn _ (by decide)) (hN _ _ ⟨rfl,rfl⟩)⟩) (fun _ => hN _ _ ⟨rfl,rfl⟩)⟩) ?_
   rintro σ _ ⟨rfl,rfl⟩
   refine cut (fun σ H' => σ = [some (.ref x),some (.ref dk),some (.int c),some (.int t),some (.int w),some (.str a),some (.str b),some (.str "done"),some (.ref lt),some (.ref lf),o10] /\ H6 = H') (fun N hN => ⟨_,rfl,rfl,_,rfl,sU (fun _ => ⟨_,rfl,rfl,_,rfl,dF (dn _ (by decide)) (hN _ _ ⟨rfl,rfl⟩)⟩) (fun _ => hN _ _ ⟨rfl,rfl⟩)⟩) ?_
   rintro σ _ ⟨rfl,rfl⟩
   exact ⟨_,rfl,rfl,fin⟩
theorem yd : aD ["_law_script","_law_larder","_law_known","_law_turn","_law_many","_law_k","_law_way","_law_cell","_law_found","_law_top"] ["_law_script"] (ap kP) := ⟨rfl,rfl,rfl,by decide +kernel,rfl,by decide +kernel,by decide +kernel⟩
set_option maxHeartbeats 4000000 in
theorem ye {dV : Value} (F : bH K "law" "law" kP dV f fd) (B : Bn K mg c_EmptyHeap c_InRing c_Larder c_NoAmount c_NoDish c_NoName c_NoNet c_NoNumber c_NoPack c_NoPlan c_NoRow c_NoStand c_NoStandIn c_NoStep c_StoveError c_TooFew c_TooMany c_Twice f_Z11 f_Z12 f_Z13 f_Z14 f_Z15 f_Z16 f_Z17 f_Z18 f_Z19) (DZ11 : dv P w K mg base bw 1 f_Z11 ["self"] [] (gn c_Larder)) (DZ13 : dv P w K mg base bw 1 f_Z13 ["self"] [] (gR c_Larder)) (DZ15 : dv P w K mg base bw 3 f_Z15 ["self","good"] [] (fS c_Larder)) (DZ20 : Dx P w K mg base bw 1 "_law_cell_at" ["_law_script","_law_k"] [] (nj K)) (DZ23 : Dx P w K mg base bw 2 "_law_names_told" ["_law_cell"] [] eB) (DZ24 : Dx P w K mg base bw 1 "_law_name" ["_law_k","_law_turn"] [] gS) (DZ26 : Dx P w K mg base bw 5 "_law_told" ["_law_larder","_law_way","_law_one","_law_other"] [] (gT c_Larder)) (DZ27 : Dx P w K mg base bw 6 "_law_deed" ["_law_larder","_law_known","_law_cell","_law_turn"] [] (kK c_Larder)) : bh P w K mg base bw 7 f fd ["_law_script"] (oO K) := by
 have sc := yd
 refine F.ok sc (fun vs H Q E h => ?_) (fun cdv A outer s H vs Q E hr h => ?_)
 ·obtain ⟨a,ns0,rfl,_⟩ := h
  rfl
 obtain ⟨a,ns0,rfl,hS,h63,q⟩ := h
 refine ⟨_,(ag (a6 (cw (cv (aT DZ23 hr (by decide) rfl (aa (aT DZ20 hr (by decide) rfl (aa (pv 0) (aa am aj))) aj)))) (ak (aG bL)) aI) (ag (aL (i := 1) sc.nd rfl (Or.inr rfl) (v0 B.mk_Larder DZ11 hr (by decide) rfl B.m_Larder)) (ag (aL (i := 2) sc.nd rfl (Or.inl rfl) b4) (ag (aL (i := 3) sc.nd rfl (Or.inl rfl) (aJ aY (aT DZ20 hr (by decide) rfl (aa (pv 0) (aa am aj))) am)) (ag (aL (i := 4) sc.nd rfl (Or.inl rfl) (aJ cW am (aJ aY (aJ bG (aT DZ20 hr (by decide) rfl (aa (pv 0) (aa am aj))) am) am))) (ag (eT PassesOwn.never rfl (pJ rfl B.b_range (aa (pv 4) aj)) (ce (i := 5) sc.nd rfl (Or.inl rfl)) (ag (aL (i := 6) sc.nd rfl (Or.inl rfl) (aJ aY (pv 5) am)) (ag (a6 (av bX (pv 5) (aJ rg (pv 4) am) (aC _)) (ak (aL (i := 6) sc.nd rfl (Or.inl rfl) am)) aI) (ag (a6 (av jf (aT DZ26 hr (by decide) rfl (aa (pv 1) (aa (pv 6) (aa (aT DZ24 hr (by decide) rfl (aa (pv 5) (aa (pv 3) aj))) (aa (aT DZ24 hr (by decide) rfl (aa (aJ cW (pv 5) am) (aa (pv 3) aj))) aj))))) aS (aC _)) (ak (aG bL)) aI) (ak (dC (cQ hr) (pv 2) (aT DZ24 hr (by decide) rfl (aa (pv 5) (aa (pv 3) aj))) bL rfl)))))) (ag (eT PassesOwn.never rfl (dA (dS jP (pv 0) (eD am) (eD am))) (ce (i := 7) sc.nd rfl (Or.inl rfl)) (ag (a6 (cw (cv (aT DZ27 hr (by decide) rfl (aa (pv 1) (aa (pv 2) (aa (pv 7) (aa (pv 3) aj))))))) (ak (aG bL)) aI) (ag (aL (i := 8) sc.nd rfl (Or.inl rfl) (nG (pv 1) DZ13 hr (by decide))) (ak (a6 (PW.pt (fj (cw (cv (aK (cG (K := K) rfl) rfl B.b_isinstance boot_isinstance (aa (pv 8) (aa (cO (v := .ty "list") rfl B.b_list boot_list rfl) aj))))) (eP (av (vW hr.units0) (pv 8) (aK (dL rfl) rfl B.b_sorted PyProof.Rows.Boot.«sorted» (aa (pv 2) aj)) (aC _))))) (ak (aG bL)) aI))))) (ag (aL (i := 9) sc.nd rfl (Or.inr rfl) (aT DZ24 hr (by decide) rfl (aa am (aa (pv 3) aj)))) (ag (a6 (av (sN hr.units0) (gh (own := "_law_name_here") (ys := ["_law_top","_law_larder"]) (js := [9,1]) rfl (wq (vZ (vZ wp)) (.cons rfl (.cons rfl .nil)) (by decide) rfl rfl rfl rfl rfl rfl rfl rfl) (dA (bg (aa (pv 9) (aa (aT DZ24 hr (by decide) rfl (aa am (aa (pv 3) aj))) aj)))) (fun C fp s H => (av (qC (K := K) rfl) (pv 0) (uE (K := K) rfl (pv 2) DZ15 hr (by decide) (aa (pv 1) aj)) (by with_unfolding_all rfl))) (fun C fp s H => (pv 0))) (bg aj) (aC _)) (ak (aG bL)) aI) (ak (aG (eR (bW (nD hr.units0) (nG (pv 1) DZ13 hr (by decide)) (aK (dL rfl) rfl B.b_sorted PyProof.Rows.Boot.«sorted» (aa (pv 2) aj)) (aC _)) (eQ (bW (nD hr.units0) (eW (pv 1) DZ15 hr (by decide) (aa aS aj)) (bg (aa aS aj)) (aC _))))))))))))))),?_⟩
 have slt : (3000 : Nat) < sizeLine := by decide
 refine ⟨_,rfl,a,ns0,0,rfl,hS,(by decide),fun hd => ⟨_,rfl,fun H1 g1 => ⟨true,rfl,bU ?_⟩⟩⟩
 clear hd
 replace hS := g1.seq hS
 try dsimp only [bv,bA]
 intro x dx nx ndx ne
 refine ⟨x,dx,rfl,ae,fun H2 F0 k2 f0 lb => ⟨rfl,?_⟩⟩
 have g2 : au H1 H2 := fun b o e => k2 b o (fun z => by rw [z,nx] at e; cases e) (by rw [af (fun z => by rw [z,nx] at e; cases e),af (fun z => by rw [z,ndx] at e; cases e)]; exact e)
 try dsimp only [bv,bA]
 refine fun dk nd => ?_
 have dF : dk ∉ F0 := lb.free nd
 have g3 := ai nd (.dK [])
 have e3 : ar H2 dk (.dK []) dk = some (.dK []) := ae
 replace lb := lb.same g3
 replace hS := (g2.trans g3).seq hS
 generalize ar H2 dk (.dK []) = H3 at g3 e3 lb hS ⊢
 clear g3 g2 k2 f0 g1 ne ndx nx dx nd H2 H1
 try dsimp only [bv,bA]
 refine cut (fun σ H' => ∃ t : Int,σ = [some (.ref a),some (.ref x),some (.ref dk),some (.int t),none,none,none,none,none,none] /\ H3 = H') (fun N hN => ⟨_,rfl,a,ns0,1,rfl,hS,(by decide),fun c1 => ⟨_,_,rfl,rfl,(by show (26 : Int) ≠ 0; decide),hN _ _ ⟨_,rfl,rfl⟩⟩⟩) ?_
 rintro σ _ ⟨t,rfl,rfl⟩
 try dsimp only [bv,bA]
 refine cut (fun σ H' => ∃ many : Nat,σ = [some (.ref a),some (.ref x),some (.ref dk),some (.int t),some (.int (many : Int)),none,none,none,none,none] /\ H3 = H' /\ 74 <= many /\ many <= 80) (fun N hN => ?_) ?_
 ·refine ⟨_,rfl,a,ns0,1,rfl,hS,(by decide),fun c1 => ⟨_,_,rfl,rfl,⟨by decide,Af (by decide)⟩,_,_,rfl,rfl,(by show (7 : Int) ≠ 0; decide),_,_,rfl,rfl,?_⟩⟩
  have m0 := AG (c1.fdiv 26) (show (0 : Int) < 7 by decide)
  have m1 := Aa (c1.fdiv 26) (show (0 : Int) < 7 by decide)
  refine hN _ _ ⟨(74 + (c1.fdiv 26).fmod 7).toNat,?_,rfl,by omega,by omega⟩
  rw [Int.toNat_of_nonneg (by omega)]
  rfl
 rintro σ _ ⟨many,rfl,rfl,m74,m80⟩
 have iw : zn c_Larder H3 x dk t 0 many := ⟨F0,_,_,_,_,_,_,_,I8.start lb e3 dF⟩
 clear lb e3 dF F0
 refine cut (fun σ H' => ∃ o5 o6 : Option V,σ = [some (.ref a),some (.ref x),some (.ref dk),some (.int t),some (.int (many : Int)),o5,o6,none,none,none] /\ S8 c_Larder H' x dk t many /\ bu K H' a (ns0.map V.int)) (fun N hN => ?_) ?_
 ·refine ⟨_,rfl,(many : Int),rfl,by omega,by omega,pM (fun k σ H' => ∃ o5 o6 : Option V,σ = [some (.ref a),some (.ref x),some (.ref dk),some (.int t),some (.int (many : Int)),o5,o6,none,none,none] /\ zn c_Larder H' x dk t k many /\ bu K H' a (ns0.map V.int)) ⟨none,none,rfl,iw,hS⟩ ?_ ?_⟩
  ·rintro k σ H4 hk ⟨o5,o6,rfl,⟨F,rows,m,g,bs,ns,kn,ps,i8⟩,hS4⟩
   have km : k < many := by omega
   have kz : (0 : Int) + (k : Int) = (k : Int) := by omega
   have kz1 : (k : Int) + 1 = ((k + 1 : Nat) : Int) := by omega
   have na := kI t (k : Int)
   have nb := kI t ((k + 1 : Nat) : Int)
   have c8 := i8.c
   have cnt := c8.cnt
   have b80 := c8.bars
   have pA : ∃ j : Nat,j < 90 /\ bE t (k : Int) = bE t j := ⟨k,by omega,rfl⟩
   have pB : ∃ j : Nat,j < 90 /\ bE t ((k + 1 : Nat) : Int) = bE t j := ⟨k + 1,by omega,rfl⟩
   have ea : bE t (0 + (k : Int)) = bE t (k : Int) := by rw [kz]
   have eb : bE t (0 + (k : Int) + 1) = bE t ((k + 1 : Nat) : Int) := by rw [kz,kz1]
   refine cut (fun σ H' => σ = [some (.ref a),some (.ref x),some (.ref dk),some (.int t),some (.int (many : Int)),some (.int (0 + (k : Int))),some (.int ((0 + (k : Int)).fmod 3)),none,none,none] /\ H4 = H') (fun N hN => ⟨_,rfl,_,_,rfl,rfl,(by show (3 : Int) ≠ 0; decide),hN _ _ ⟨rfl,rfl⟩⟩) ?_
   rintro σ _ ⟨rfl,rfl⟩
   refine cut (fun σ H' => ∃ w : Int,σ = [some (.ref a),some (.ref x),some (.ref dk),some (.int t),some (.int (many : Int)),some (.int (0 + (k : Int))),some (.int w),none,none,none] /\ H4 = H' /\ 0 <= w /\ w <= 2 /\ (w ≠ 2 -> k + 1 < many) /\ (k = 0 -> w = 0)) (fun N hN => ?_) ?_
   ·have w0 := AG (0 + (k : Int)) (show (0 : Int) < 3 by decide)
    have w1 := Aa (0 + (k : Int)) (show (0 : Int) < 3 by decide)
    exact ⟨_,rfl,_,rfl,_,_,rfl,rfl,rfl,_,rfl,sU (fun e => hN _ _ ⟨2,rfl,rfl,by decide,by decide,fun z => absurd rfl z,fun z => by omega⟩) (fun e => hN _ _ ⟨_,rfl,rfl,w0,by omega,fun _ => by omega,fun z => by rw [z]; rfl⟩)⟩
   rintro σ _ ⟨w,rfl,rfl,w0,w2,wm,wz⟩
   refine cut (fun σ H' => σ = [some (.ref a),some (.ref x),some (.ref dk),some (.int t),some (.int (many : Int)),some (.int (0 + (k : Int))),some (.int w),none,none,none] /\ KD H4 H' /\ ∃ (F' : List Addr) (rows' : List (Str × List Str)) (m' : Nat) (g' : Str -> Str -> Option Addr) (bs' ms : List Str) (ps' : List (Str × Str)) (xs : List Str),C8 c_Larder H' x dk t (k + 1) F' rows' m' g' bs' ms kn ps' /\ (∀ y,y ∈ ms ↔ y ∈ ns ∨ y ∈ xs) /\ bE t (k : Int) ∈ xs /\ (∀ y ∈ xs,∃ j : Nat,j <= k + 1 /\ j < many /\ y = bE t j) /\ (∀ a b,(a,b) ∈ ps' -> (a,b) ∈ ps ∨ a = bE t (k : Int)) /\ (∀ a b,kS g' a b -> kS g a b ∨ a = bE t (k : Int)) /\ (∀ p,p ∈ ps -> p ∈ ps') /\ (k = 0 -> (bE t 0,bE t 1) ∈ ps')) (fun N hN => ?_) ?_
   ·refine ⟨_,rfl,_,rfl,_,rfl,_,rfl,_,_,rfl,fun H5 g5 => ⟨_,rfl,_,_,rfl,rfl,_,rfl,_,_,rfl,fun H6 g6 => ?_⟩⟩
    have gA := g5.trans g6
    have c86 := c8.same gA
    have two : (w ≠ 2) -> ∀ y ∈ [bE t (k : Int),bE t ((k + 1 : Nat) : Int)],∃ j : Nat,j <= k + 1 /\ j < many /\ y = bE t j := fun h y hy => by
     simp only [A3,AQ,or_false] at hy
     rcases hy with rfl | rfl
     ·exact ⟨k,by omega,km,rfl⟩
     ·exact ⟨k + 1,by omega,wm h,rfl⟩
    have nd2 : [bE t (k : Int),bE t ((k + 1 : Nat) : Int)].Nodup := by
     simp only [AS,A2,AQ,not_false_eq_true,List.nodup_nil,and_self,and_true]
     exact i8.ne km m80
    have rm2 : w ≠ 2 -> ns.length + (aW ns [bE t (k : Int),bE t ((k + 1 : Nat) : Int)]).length <= 80 := fun h => i8.room m80 nd2 fun y hy => by
     obtain ⟨j,_,h2,e⟩ := two h y hy
     exact ⟨j,h2,e⟩
    have rm1 : ns.length + (aW ns [bE t (k : Int)]).length <= 80 := i8.room m80 (by simp) fun y hy => by
     rw [A2.mp hy]
     exact ⟨k,km,rfl⟩
    refine ⟨x,w,bE t (k : Int),bE t ((k + 1 : Nat) : Int),F,rows,m,g,bs,ns,ps,(by show [V.ref x,V.int w,V.str (bE t (0 + (k : Int))),V.str (bE t (0 + (k : Int) + 1))] = _; rw [ea,eb]),c86.lb,c86.ok,by omega,by omega,by omega,c86.nn,c86.n80,na,nb,w0,by omega,fun e => ?_,fun e => ?_,fun e => ?_,fun e => by omega⟩
    ·have r := rm2 (by omega)
     exact ⟨fun hl => absurd hl (i8.noled km m80),fun _ mm => absurd mm (by omega),fun _ _ F' H7 ms k7 fg lb7 nd hs => ⟨rfl,_,rfl,nF rfl (hN _ _ ⟨rfl,(KD.of gA).trans (KD.kf c86.lb k7),F',_,m,g,bs,ms,_,_,c86.part k7 fg lb7 nd hs pA pB r,hs,by simp,two (by omega),fun u v z => (eu.mp z).imp id (fun z => by cases z; rfl),fun u v z => .inl z,fun p hp => eu.mpr (.inl hp),fun k0 => eu.mpr (.inr (by subst k0; rfl))⟩)⟩⟩
    ·have r := rm2 (by omega)
     exact ⟨fun hz => absurd hz (fun z => z.elim (i8.ne km m80) (i8.nost km m80 _)),fun _ _ mm => absurd mm (by omega),fun _ _ _ F' H7 ms t0 k7 fg lb7 nd hs => ⟨rfl,_,rfl,nF rfl (hN _ _ ⟨rfl,(KD.of gA).trans (KD.kf c86.lb k7),F',rows,m + 2,_,bs,ms,ps,_,c86.stand k7 fg lb7 nd hs pA pB r,hs,by simp,two (by omega),fun u v z => .inl z,fun u v z => (by
      obtain ⟨w',z⟩ := z
      unfold mK at z
      by_cases c : u = bE t (k : Int) /\ v = bE t ((k + 1 : Nat) : Int)
      ·exact .inr c.1
      ·rw [if_neg c] at z
       exact .inl ⟨w',z⟩),fun p hp => hp,fun k0 => by have := wz k0; omega⟩)⟩⟩
    ·exact ⟨fun mm => absurd mm (by omega),fun _ H7 ms k7 lb7 nd hs => ⟨rfl,_,rfl,nF rfl (hN _ _ ⟨rfl,(KD.of gA).trans (KD.kf c86.lb k7),F,rows,m,g,_,ms,ps,_,c86.bar k7 lb7 nd hs pA rm1,hs,by simp,fun y hy => by rw [A2.mp hy]; exact ⟨k,by omega,km,rfl⟩,fun u v z => .inl z,fun u v z => .inl z,fun p hp => hp,fun k0 => by have := wz k0; omega⟩)⟩⟩
   rintro σ H5 ⟨rfl,kd5,F',rows',m',g',bs',ms,ps',xs,c85,hs,ax,hx,hp,hg,pp,tp⟩
   have kl := c85.knl
   refine ⟨_,rfl,_,rfl,_,rfl,_,_,rfl,fun H6 g6 => ⟨dk,_,rfl,fZ.k (k := .inr (bE t (0 + (k : Int)))) (g6 _ _ c85.ek) (by rw [b6]; omega),?_⟩⟩
   rw [d9,ea]
   refine ⟨_,_,rfl,i8.next km (c85.same g6) hs ax hx hp hg pp tp,?_⟩
   exact (KD.putK (g6 _ _ c85.ek) _).seq (g6.seq (kd5.seq hS4))
  ·rintro σ H4 ⟨o5,o6,rfl,⟨F,rows,m,g,bs,ns,kn,ps,i8⟩,hS4⟩
   rw [Int.toNat_natCast] at i8
   exact hN _ _ ⟨o5,o6,rfl,i8.done (by omega),hS4⟩
 clear iw hS H3
 rintro σ H3 ⟨o5,o6,rfl,s8,hS⟩
 have uniq : ∀ (ns kn zs ys : List Str),ns.Nodup -> kn.Nodup -> (∀ y,y ∈ ns ↔ y ∈ kn) -> sortedS zs = true -> zs.Perm ns -> sortedS ys = true -> ys.Perm kn -> zs = ys := fun ns kn zs ys n1 n2 sm s1 p1 s2 p2 => So.mC s1 s2 (p1.trans (((List.perm_ext_iff_of_nodup n1 n2).mpr sm).trans p2.symm))
 refine cut (fun σ H' => ∃ (n : Nat) (o7 o8 : Option V),σ = [some (.ref a),some (.ref x),some (.ref dk),some (.int t),some (.int (many : Int)),o5,o6,o7,o8,none] /\ S8 c_Larder H' x dk t n /\ n <= 200) (fun N hN => ?_) ?_
 ·refine ⟨_,rfl,_,rfl,_,rfl,a,_,rfl,hS,fun ls nls => ⟨ls,rfl,⟨_,bu.of ae⟩,?_⟩⟩
  have cl := gu (ns0.map V.int) (some 2) (some 40)
  rw [A8] at cl
  have ci : ∀ v ∈ jL (ns0.map V.int) (some 2) (some 40),∃ c : Int,v = .int c := fun v hv => by
   obtain ⟨c,_,e⟩ := AZ.mp (List.mem_of_mem_drop (List.mem_of_mem_take hv))
   exact ⟨c,e.symm⟩
  generalize jL (ns0.map V.int) (some 2) (some 40) = cells at cl ci
  have g4 := ai nls (.lst cells)
  have s84 : S8 c_Larder (ar H3 ls (.lst cells)) x dk t (many + 0) := by
   obtain ⟨F,rows,m,g,bs,ns,kn,ps,c8,sm,tp⟩ := s8
   exact ⟨F,rows,m,g,bs,ns,kn,ps,c8.same g4,sm,tp⟩
  refine fo (xs := cells) (fun i σ H' => H' ls = some (.lst cells) /\ S8 c_Larder H' x dk t (many + i) /\ ∃ (o7 o8 : Option V),σ = [some (.ref a),some (.ref x),some (.ref dk),some (.int t),some (.int (many : Int)),o5,o6,o7,o8,none]) ⟨ae,s84,none,none,rfl⟩ (fun i σ H' _ h => bu.of h.1) ?_ ?_
  ·rintro i v σ H4 hv ⟨el,s4,o7,o8,rfl⟩
   have il := (A1.mp hv).1
   obtain ⟨c,rfl⟩ := ci v (AL hv)
   refine ⟨_,rfl,_,rfl,_,rfl,_,rfl,x,dk,c,t,many + i,rfl,s4,by omega,fun H5 kd5 s5 => ⟨true,rfl,bU ?_⟩⟩
   have el5 := kd5 _ _ (fun _ z => by cases z) (fun _ z => by cases z) el
   obtain ⟨F,rows,m,g,bs,ns,kn,ps,c8,sm,tp⟩ := id s5
   obtain ⟨dx,s,b',fs,dkk,ex,es,eb,bd,hb,fm,sF,bF,pb'⟩ := c8.lb.at_
   obtain ⟨F0,la,_,_⟩ := c8.lb.la
   try dsimp only [bv,bA]
   refine ⟨_,rfl,x,_,dx,_,rfl,ex,B.cl_Larder,B.me_Z13,fm _ (by decide),x,F0,rows,ns,rfl,la,c8.nn,fun l' H6 zs g6 e6 so pm => ?_⟩
   try dsimp only [bv,bA]
   refine ⟨_,rfl,_,_,_,true,rfl,.lst e6,rfl,_,rfl,bU ⟨_,rfl,_,rfl,dk,kn,_,rfl,g6 _ _ c8.ek,pw kn _,c8.kd,fun p ys np pm2 so2 => ?_⟩⟩
   have ez := uniq _ _ _ _ c8.nn c8.kd sm so pm so2 pm2
   subst ez
   have g7 := g6.trans (ai np (.lst (zs.map V.str)))
   exact ⟨l',p,_,rfl,rfl,bu.of (ai np _ _ _ e6),bu.of ae,eJ zs,_,rfl,bU ⟨g7 _ _ el5,⟨F,rows,m,g,bs,ns,kn,ps,c8.same g7,sm,tp⟩,_,_,rfl⟩⟩
  ·rintro σ H4 ⟨el,s4,o7,o8,rfl⟩
   exact hN _ _ ⟨_,o7,o8,rfl,s4,by omega⟩
 clear s8 hS H3
 rintro σ H3 ⟨n,o7,o8,rfl,⟨F,rows,m,g,bs,ns,kn,ps,c8,sm,tp⟩,n200⟩
 have cnt := c8.cnt
 refine ⟨_,rfl,_,_,rfl,fun H4 g4 => ?_⟩
 try dsimp only [bv,bA]
 have c84 := c8.same g4
 have nt := kI t 0
 refine cut (fun σ H' => σ = [some (.ref a),some (.ref x),some (.ref dk),some (.int t),some (.int (many : Int)),o5,o6,o7,o8,some (.str (bE t 0))] /\ au H4 H') (fun N hN => ?_) ?_
 ·refine ⟨_,rfl,_,rfl,_,_,rfl,fun H5 g5 => ⟨(by show 2 <= sizeLine; decide),fun li nli => ⟨li,rfl,⟨_,bu.of ae⟩,qN (K := K) (xs := [.str (bE t 0),.str (bE t 1)]) (bu.of ae) (by show 2 <= sizeLine; decide) (fun v hv H6 g6 R hR => ?_) (fun p H6 g6 ep => ?_)⟩⟩⟩
  ·have c86 := (c84.same (g5.trans (ai nli _))).same g6
   obtain ⟨dx,s,b',fs,dkk,ex,es,eb,bd,hb,fm,sF,bF,pb'⟩ := c86.lb.at_
   have hv' : v = .str (bE t 0) ∨ v = .str (bE t 1) := by simpa using hv
   rcases hv' with rfl | rfl
   ·refine ⟨_,rfl,_,rfl,x,_,dx,_,rfl,ex,B.cl_Larder,B.me_Z15,fm _ (by decide),_,rfl,x,bE t 0,F,rows,m,g,bs,ns,ps,rfl,c86.lb,c86.ok,by omega,nt,fun l' H7 zs g7 e7 nd mz => ⟨l',_,rfl,.inl (bu.of e7),rfl,dj zs,_,rfl,?_⟩⟩
    rw [show tF (.str (bE t 0)) (zs.map V.str) = true by rw [fN]; exact decide_eq_true ((mz _).mpr .self)]
    exact hR H7 g7
   ·refine ⟨_,rfl,_,rfl,x,_,dx,_,rfl,ex,B.cl_Larder,B.me_Z15,fm _ (by decide),_,rfl,x,bE t 0,F,rows,m,g,bs,ns,ps,rfl,c86.lb,c86.ok,by omega,nt,fun l' H7 zs g7 e7 nd mz => ⟨l',_,rfl,.inl (bu.of e7),rfl,dj zs,_,rfl,?_⟩⟩
    rw [show tF (.str (bE t 1)) (zs.map V.str) = true by rw [fN]; exact decide_eq_true ((mz _).mpr (.step .self tp))]
    exact hR H7 g7
  ·exact ⟨(by show 0 <= sizeLine; decide),fun le nle => ⟨p,le,[],rfl,rfl,bu.of (ai nle _ _ _ ep),bu.of ae,_,rfl,bU (hN _ _ ⟨rfl,((g5.trans (ai nli _)).trans g6).trans (ai nle _)⟩)⟩⟩
 rintro σ H5 ⟨rfl,g5⟩
 have c85 := c84.same g5
 obtain ⟨dx,s,b',fs,dkk,ex,es,eb,bd,hb,fm,sF,bF,pb'⟩ := c85.lb.at_
 obtain ⟨F0,la,_,_⟩ := c85.lb.la
 refine ⟨_,rfl,x,_,dx,_,rfl,ex,B.cl_Larder,B.me_Z13,fm _ (by decide),x,F0,rows,ns,rfl,la,c85.nn,fun l' H6 zs g6 e6 so pm => ⟨_,rfl,dk,kn,_,rfl,g6 _ _ c85.ek,pw kn _,c85.kd,fun p ys np pm2 so2 => ?_⟩⟩
 have ez := uniq _ _ _ _ c85.nn c85.kd sm so pm so2 pm2
 subst ez
 have c87 := (c85.same g6).same (ai np (.lst (zs.map V.str)))
 refine ⟨l',p,_,rfl,rfl,bu.of (ai np _ _ _ e6),bu.of ae,eJ zs,_,rfl,cE ?_⟩
 generalize ar H6 p (.lst (zs.map V.str)) = H7 at c87 ⊢
 have un : ("unheard" : Str) ∉ ns := fun z => by
  obtain ⟨k,_,e⟩ := c8.pool _ z
  exact wj t k e.symm
 obtain ⟨al1,_,_⟩ := c87.alone un
 obtain ⟨dx,s,b',fs,dkk,ex,es,eb,bd,hb,fm,sF,bF,pb'⟩ := c87.lb.at_
 refine ⟨_,rfl,x,_,dx,_,rfl,ex,B.cl_Larder,B.me_Z15,fm _ (by decide),x,"unheard",F,rows,m,g,bs,ns,ps,rfl,c87.lb,c87.ok,by omega,xu.2,fun l2 H8 zs2 g8 e8 nd2 mz2 => ⟨(by show 1 <= sizeLine; decide),fun l3 n3 => ⟨l2,l3,_,rfl,rfl,bu.of ?_,bu.of ae,eJ ["unheard"],q _⟩⟩⟩
 have : zs2 = [("unheard" : Str)] := jF nd2 fun y => (mz2 y).trans (al1 y)
 rw [this] at e8
 exact ai n3 _ _ _ e8
end
abbrev FnAt (K : A0) (f : Addr) (n q : Str) (st : Stmt) (dV : Value) : Prop := ∃ (oc : Value) (od : Option Addr) (kV dc pm : Value) (an : Option Addr) (cd ct : Value) (sl : Array (Option Value)),K.lookup f = some ⟨oc,od,.func (Az n q (cD st) (bM st) (ap st) dV kV dc pm an cd ct),sl⟩ /\ BO K cd q = true /\ Ax K (.ref f) = true
set_option maxHeartbeats 4000000 in
theorem wk {l : PySem.W.OpenLaw} {w : World} {K : A0} {h : Heap} {mg : Str -> Option Value} {fa fZ0 fZ2 fZ3 fis_Z3 fZ5 fZ6 fZ7 fZ8 fZ9 fZ10 fZ20 fZ21 fZ22 fZ23 fZ24 fZ25 fZ26 fZ27 flaw c_EmptyHeap c_InRing c_Larder c_NoAmount c_NoDish c_NoName c_NoNet c_NoNumber c_NoPack c_NoPlan c_NoRow c_NoStand c_NoStandIn c_NoStep c_StoveError c_TooFew c_TooMany c_Twice f_Z11 f_Z12 f_Z13 f_Z14 f_Z15 f_Z16 f_Z17 f_Z18 f_Z19 f_InRing : Addr} (X : K.In h) (G : h.Ns mainGlobals mg) (hfa : mg "law" = some (.ref fa))
  {od_InRing an_InRing odlaw anlaw : Option Addr} {sl_InRing sllaw : Array (Option Value)} {oc_InRing kV_InRing dc_InRing pm_InRing cd_InRing ct_InRing oclaw kVlaw dclaw pmlaw cdlaw ctlaw : Value}
  {tk_LETTERS : Tok}
  {tk_MOST_LETTERS : Tok}
  {tk_MOST_NAMES : Tok}
  {TZ3 : Addr} {ToZ3 : Value} {TdZ3 : Option Addr} {TnZ3 : Nat} {TsZ3 : Array (Option Value)} {TtZ3 : Tok}
  {TZ19 : Addr} {ToZ19 : Value} {TdZ19 : Option Addr} {TnZ19 : Nat} {TsZ19 : Array (Option Value)}
  (aZ0 : A7 K mainGlobals "is_whole" = some (some (.ref fZ0)))
  (qZ0 : FnAt K fZ0 "is_whole" "is_whole" yA .none)
  (aZ2 : A7 K mainGlobals "divisor" = some (some (.ref fZ2)))
  (qZ2 : FnAt K fZ2 "divisor" "divisor" yB .none)
  (aZ3 : A7 K mainGlobals "fraction" = some (some (.ref fZ3)))
  (qZ3 : FnAt K fZ3 "fraction" "fraction" yC (.ref TZ3))
  (ais_Z3 : A7 K mainGlobals "is_fraction" = some (some (.ref fis_Z3)))
  (qis_Z3 : FnAt K fis_Z3 "is_fraction" "is_fraction" kO .none)
  (aZ5 : A7 K mainGlobals "is_name" = some (some (.ref fZ5)))
  (qZ5 : FnAt K fZ5 "is_name" "is_name" yD .none)
  (aZ6 : A7 K mainGlobals "refuse_no_names" = some (some (.ref fZ6)))
  (qZ6 : FnAt K fZ6 "refuse_no_names" "refuse_no_names" yE .none)
  (aZ7 : A7 K mainGlobals "names_ahead" = some (some (.ref fZ7)))
  (qZ7 : FnAt K fZ7 "names_ahead" "names_ahead" yF .none)
  (aZ8 : A7 K mainGlobals "chain_to" = some (some (.ref fZ8)))
  (qZ8 : FnAt K fZ8 "chain_to" "chain_to" yG .none)
  (aZ9 : A7 K mainGlobals "chain_down" = some (some (.ref fZ9)))
  (qZ9 : FnAt K fZ9 "chain_down" "chain_down" yH .none)
  (aZ10 : A7 K mainGlobals "all_inside" = some (some (.ref fZ10)))
  (qZ10 : FnAt K fZ10 "all_inside" "all_inside" uF .none)
  (aZ20 : A7 K mainGlobals "_law_cell_at" = some (some (.ref fZ20)))
  (qZ20 : FnAt K fZ20 "_law_cell_at" "_law_cell_at" uP .none)
  (aZ21 : A7 K mainGlobals "_law_text" = some (some (.ref fZ21)))
  (qZ21 : FnAt K fZ21 "_law_text" "_law_text" uQ .none)
  (aZ22 : A7 K mainGlobals "_law_due" = some (some (.ref fZ22)))
  (qZ22 : FnAt K fZ22 "_law_due" "_law_due" uR .none)
  (aZ23 : A7 K mainGlobals "_law_names_told" = some (some (.ref fZ23)))
  (qZ23 : FnAt K fZ23 "_law_names_told" "_law_names_told" qO .none)
  (aZ24 : A7 K mainGlobals "_law_name" = some (some (.ref fZ24)))
  (qZ24 : FnAt K fZ24 "_law_name" "_law_name" uS .none)
  (aZ25 : A7 K mainGlobals "_law_alone" = some (some (.ref fZ25)))
  (qZ25 : FnAt K fZ25 "_law_alone" "_law_alone" uT .none)
  (aZ26 : A7 K mainGlobals "_law_told" = some (some (.ref fZ26)))
  (qZ26 : FnAt K fZ26 "_law_told" "_law_told" uU .none)
  (aZ27 : A7 K mainGlobals "_law_deed" = some (some (.ref fZ27)))
  (qZ27 : FnAt K fZ27 "_law_deed" "_law_deed" uV .none)
  (alaw : A7 K mainGlobals "law" = some (some (.ref flaw)))
  (llaw : K.lookup flaw = some ⟨oclaw,odlaw,.func (Az "law" "law" (cD kP) (bM kP) (ap kP) .none kVlaw dclaw pmlaw anlaw cdlaw ctlaw),sllaw⟩) (claw : BO K cdlaw "law" = true) (klaw : Ax K (.ref flaw) = true)
  (zg_LETTERS : A7 K mainGlobals "LETTERS" = some (some (.str "abcdefghijklmnopqrstuvwxyz" tk_LETTERS)))
  (zg_MOST_LETTERS : A7 K mainGlobals "MOST_LETTERS" = some (some (.int 12 tk_MOST_LETTERS)))
  (zg_MOST_NAMES : A7 K mainGlobals "MOST_NAMES" = some (some (.int 80 tk_MOST_NAMES)))
  (zb_abs : A7 K mainGlobals "abs" = some none)
  (zb_bool : A7 K mainGlobals "bool" = some none)
  (zb_int : A7 K mainGlobals "int" = some none)
  (zb_isinstance : A7 K mainGlobals "isinstance" = some none)
  (zb_len : A7 K mainGlobals "len" = some none)
  (zb_list : A7 K mainGlobals "list" = some none)
  (zb_range : A7 K mainGlobals "range" = some none)
  (zb_reversed : A7 K mainGlobals "reversed" = some none)
  (zb_set : A7 K mainGlobals "set" = some none)
  (zb_sorted : A7 K mainGlobals "sorted" = some none)
  (zb_str : A7 K mainGlobals "str" = some none)
  (zb_tuple : A7 K mainGlobals "tuple" = some none)
  (zm_EmptyHeap : A7 K mainGlobals "EmptyHeap" = some (some (.ref c_EmptyHeap)))
  (zm_InRing : A7 K mainGlobals "InRing" = some (some (.ref c_InRing)))
  (zm_Larder : A7 K mainGlobals "Larder" = some (some (.ref c_Larder)))
  (zm_NoAmount : A7 K mainGlobals "NoAmount" = some (some (.ref c_NoAmount)))
  (zm_NoDish : A7 K mainGlobals "NoDish" = some (some (.ref c_NoDish)))
  (zm_NoName : A7 K mainGlobals "NoName" = some (some (.ref c_NoName)))
  (zm_NoNet : A7 K mainGlobals "NoNet" = some (some (.ref c_NoNet)))
  (zm_NoNumber : A7 K mainGlobals "NoNumber" = some (some (.ref c_NoNumber)))
  (zm_NoPack : A7 K mainGlobals "NoPack" = some (some (.ref c_NoPack)))
  (zm_NoPlan : A7 K mainGlobals "NoPlan" = some (some (.ref c_NoPlan)))
  (zm_NoRow : A7 K mainGlobals "NoRow" = some (some (.ref c_NoRow)))
  (zm_NoStand : A7 K mainGlobals "NoStand" = some (some (.ref c_NoStand)))
  (zm_NoStandIn : A7 K mainGlobals "NoStandIn" = some (some (.ref c_NoStandIn)))
  (zm_NoStep : A7 K mainGlobals "NoStep" = some (some (.ref c_NoStep)))
  (zm_StoveError : A7 K mainGlobals "StoveError" = some (some (.ref c_StoveError)))
  (zm_TooFew : A7 K mainGlobals "TooFew" = some (some (.ref c_TooFew)))
  (zm_TooMany : A7 K mainGlobals "TooMany" = some (some (.ref c_TooMany)))
  (zm_Twice : A7 K mainGlobals "Twice" = some (some (.ref c_Twice)))
  (atZ11 : AO K (.ref c_Larder) "__init__" = some (some (.ref f_Z11)))
  (qZ11 : FnAt K f_Z11 "__init__" "Larder.__init__" uG .none)
  (atZ12 : AO K (.ref c_Larder) "learn" = some (some (.ref f_Z12)))
  (qZ12 : FnAt K f_Z12 "learn" "Larder.learn" uH .none)
  (atZ13 : AO K (.ref c_Larder) "known" = some (some (.ref f_Z13)))
  (qZ13 : FnAt K f_Z13 "known" "Larder.known" uI .none)
  (atZ14 : AO K (.ref c_Larder) "part" = some (some (.ref f_Z14)))
  (qZ14 : FnAt K f_Z14 "part" "Larder.part" uJ .none)
  (atZ15 : AO K (.ref c_Larder) "held" = some (some (.ref f_Z15)))
  (qZ15 : FnAt K f_Z15 "held" "Larder.held" uK .none)
  (atZ16 : AO K (.ref c_Larder) "barred" = some (some (.ref f_Z16)))
  (qZ16 : FnAt K f_Z16 "barred" "Larder.barred" uL .none)
  (atZ17 : AO K (.ref c_Larder) "bar" = some (some (.ref f_Z17)))
  (qZ17 : FnAt K f_Z17 "bar" "Larder.bar" uM .none)
  (atZ18 : AO K (.ref c_Larder) "allow" = some (some (.ref f_Z18)))
  (qZ18 : FnAt K f_Z18 "allow" "Larder.allow" uN .none)
  (atZ19 : AO K (.ref c_Larder) "stand" = some (some (.ref f_Z19)))
  (qZ19 : FnAt K f_Z19 "stand" "Larder.stand" uO (.ref TZ19))
  (dZ3 : K.lookup TZ3 = some ⟨ToZ3,TdZ3,.seq #[.int 1 TtZ3] TnZ3,TsZ3⟩)
  (dZ19 : K.lookup TZ19 = some ⟨ToZ19,TdZ19,.seq #[.none] TnZ19,TsZ19⟩)
  (zx_NoName : B6 K c_NoName oR "ValueError.__new__" = true)
  (zi_NoName : XI K c_NoName)
  (zx_NoStand : B6 K c_NoStand oR "ValueError.__new__" = true)
  (zi_NoStand : XI K c_NoStand)
  (zx_NoNumber : B6 K c_NoNumber oR "ValueError.__new__" = true)
  (zi_NoNumber : XI K c_NoNumber)
  (zx_TooMany : B6 K c_TooMany oR "ValueError.__new__" = true)
  (zi_TooMany : XI K c_TooMany)
  (zt_InRing : XT K c_InRing)
  (zt_NoStand : XT K c_NoStand)
  (zt_TooMany : XT K c_TooMany)
  (zs_TooMany_TooMany : Aq K (.ref c_TooMany) (.ref c_TooMany) = some true)
  (zs_InRing_TooMany : Aq K (.ref c_InRing) (.ref c_TooMany) = some false)
  (zs_InRing_InRing : Aq K (.ref c_InRing) (.ref c_InRing) = some true)
  (zs_NoStand_TooMany : Aq K (.ref c_NoStand) (.ref c_TooMany) = some false)
  (zs_NoStand_InRing : Aq K (.ref c_NoStand) (.ref c_InRing) = some false)
  (zs_NoStand_NoStand : Aq K (.ref c_NoStand) (.ref c_NoStand) = some true)
  (zk_TooMany_StoveError : Ah K (.ref c_TooMany) (.ref c_StoveError) = some true)
  (za_InRing : XA K c_InRing c_StoveError)
  (zn_InRing : AO K (.ref c_InRing) "ring" = some none)
  (zi_InRing : XI K c_InRing)
  (zka_TooMany_1 : PySem.W.kitAny K (.ref c_TooMany) [.ref c_EmptyHeap,.ref c_InRing,.ref c_NoAmount,.ref c_NoDish,.ref c_NoName,.ref c_NoNet,.ref c_NoNumber,.ref c_NoPack,.ref c_NoPlan,.ref c_NoRow] = some false)
  (zka_TooMany_2 : PySem.W.kitAny K (.ref c_TooMany) [.ref c_NoStand,.ref c_NoStandIn,.ref c_NoStep,.ref c_TooFew,.ref c_Twice] = some false)
  (zcl_Larder : oE K c_Larder)
  (zmk_Larder : Mk K c_Larder f_Z11)
  (zme_Z14 : cX K c_Larder "part" f_Z14)
  (zme_Z19 : cX K c_Larder "stand" f_Z19)
  (zme_Z17 : cX K c_Larder "bar" f_Z17)
  (zme_Z18 : cX K c_Larder "allow" f_Z18)
  (zme_Z13 : cX K c_Larder "known" f_Z13)
  (zme_Z15 : cX K c_Larder "held" f_Z15)
  (zme_Z16 : cX K c_Larder "barred" f_Z16)
  (zme_Z12 : cX K c_Larder "learn" f_Z12)
  (zna_Larder_parts : bK K c_Larder "parts")
  (zna_Larder_stands : bK K c_Larder "stands")
  (zna_Larder_bars : bK K c_Larder "bars")
  (zna_Larder_names : bK K c_Larder "names")
  (ci_InRing : yq K c_InRing f_InRing)
  (l_InRing : K.lookup f_InRing = some ⟨oc_InRing,od_InRing,.func (Az "__init__" "InRing.__init__" (cD du) (bM du) (ap du) .none kV_InRing dc_InRing pm_InRing an_InRing cd_InRing ct_InRing),sl_InRing⟩) (cc_InRing : BO K cd_InRing "InRing.__init__" = true) (k_InRing : Ax K (.ref f_InRing) = true)
  : ∃ fd : FuncData,(∀ (s : Shared) (v : Value),BindsTo s fd ⟨[v],[]⟩ [("_law_script",v)]) /\ ∀ base : Heap,K.In base -> base.Ns mainGlobals mg -> bh l.prog w K mg base bw 7 fa fd ["_law_script"] (oO K) := by
 have e := hfa.symm.trans (AF X G alaw)
 cases e
 have B : Bn K mg c_EmptyHeap c_InRing c_Larder c_NoAmount c_NoDish c_NoName c_NoNet c_NoNumber c_NoPack c_NoPlan c_NoRow c_NoStand c_NoStandIn c_NoStep c_StoveError c_TooFew c_TooMany c_Twice f_Z11 f_Z12 f_Z13 f_Z14 f_Z15 f_Z16 f_Z17 f_Z18 f_Z19 := ⟨Exists.intro _ <| AF X G zg_LETTERS,Exists.intro _ <| AF X G zg_MOST_LETTERS,Exists.intro _ <| AF X G zg_MOST_NAMES,Am X G zb_abs,Am X G zb_bool,Am X G zb_int,Am X G zb_isinstance,Am X G zb_len,Am X G zb_list,Am X G zb_range,Am X G zb_reversed,Am X G zb_set,Am X G zb_sorted,Am X G zb_str,Am X G zb_tuple,AF X G zm_EmptyHeap,AF X G zm_InRing,AF X G zm_Larder,AF X G zm_NoAmount,AF X G zm_NoDish,AF X G zm_NoName,AF X G zm_NoNet,AF X G zm_NoNumber,AF X G zm_NoPack,AF X G zm_NoPlan,AF X G zm_NoRow,AF X G zm_NoStand,AF X G zm_NoStandIn,AF X G zm_NoStep,AF X G zm_StoveError,AF X G zm_TooFew,AF X G zm_TooMany,AF X G zm_Twice,zx_NoName,zi_NoName,zx_NoStand,zi_NoStand,zx_NoNumber,zi_NoNumber,zx_TooMany,zi_TooMany,zt_InRing,zt_NoStand,zt_TooMany,zs_TooMany_TooMany,zs_InRing_TooMany,zs_InRing_InRing,zs_NoStand_TooMany,zs_NoStand_InRing,zs_NoStand_NoStand,zk_TooMany_StoveError,za_InRing,zn_InRing,zi_InRing,zka_TooMany_1,zka_TooMany_2,zcl_Larder,zmk_Larder,zme_Z14,zme_Z19,zme_Z17,zme_Z18,zme_Z13,zme_Z15,zme_Z16,zme_Z12,zna_Larder_parts,zna_Larder_stands,zna_Larder_bars,zna_Larder_names⟩
 obtain ⟨_,_,_,_,_,_,_,_,_,lZ0,cZ0,kZ0⟩ := qZ0
 obtain ⟨_,_,_,_,_,_,_,_,_,lZ2,cZ2,kZ2⟩ := qZ2
 obtain ⟨_,_,_,_,_,_,_,_,_,lZ3,cZ3,kZ3⟩ := qZ3
 obtain ⟨_,_,_,_,_,_,_,_,_,lis_Z3,cis_Z3,kis_Z3⟩ := qis_Z3
 obtain ⟨_,_,_,_,_,_,_,_,_,lZ5,cZ5,kZ5⟩ := qZ5
 obtain ⟨_,_,_,_,_,_,_,_,_,lZ6,cZ6,kZ6⟩ := qZ6
 obtain ⟨_,_,_,_,_,_,_,_,_,lZ7,cZ7,kZ7⟩ := qZ7
 obtain ⟨_,_,_,_,_,_,_,_,_,lZ8,cZ8,kZ8⟩ := qZ8
 obtain ⟨_,_,_,_,_,_,_,_,_,lZ9,cZ9,kZ9⟩ := qZ9
 obtain ⟨_,_,_,_,_,_,_,_,_,lZ10,cZ10,kZ10⟩ := qZ10
 obtain ⟨_,_,_,_,_,_,_,_,_,lZ20,cZ20,kZ20⟩ := qZ20
 obtain ⟨_,_,_,_,_,_,_,_,_,lZ21,cZ21,kZ21⟩ := qZ21
 obtain ⟨_,_,_,_,_,_,_,_,_,lZ22,cZ22,kZ22⟩ := qZ22
 obtain ⟨_,_,_,_,_,_,_,_,_,lZ23,cZ23,kZ23⟩ := qZ23
 obtain ⟨_,_,_,_,_,_,_,_,_,lZ24,cZ24,kZ24⟩ := qZ24
 obtain ⟨_,_,_,_,_,_,_,_,_,lZ25,cZ25,kZ25⟩ := qZ25
 obtain ⟨_,_,_,_,_,_,_,_,_,lZ26,cZ26,kZ26⟩ := qZ26
 obtain ⟨_,_,_,_,_,_,_,_,_,lZ27,cZ27,kZ27⟩ := qZ27
 obtain ⟨_,_,_,_,_,_,_,_,_,lZ11,cZ11,kZ11⟩ := qZ11
 obtain ⟨_,_,_,_,_,_,_,_,_,lZ12,cZ12,kZ12⟩ := qZ12
 obtain ⟨_,_,_,_,_,_,_,_,_,lZ13,cZ13,kZ13⟩ := qZ13
 obtain ⟨_,_,_,_,_,_,_,_,_,lZ14,cZ14,kZ14⟩ := qZ14
 obtain ⟨_,_,_,_,_,_,_,_,_,lZ15,cZ15,kZ15⟩ := qZ15
 obtain ⟨_,_,_,_,_,_,_,_,_,lZ16,cZ16,kZ16⟩ := qZ16
 obtain ⟨_,_,_,_,_,_,_,_,_,lZ17,cZ17,kZ17⟩ := qZ17
 obtain ⟨_,_,_,_,_,_,_,_,_,lZ18,cZ18,kZ18⟩ := qZ18
 obtain ⟨_,_,_,_,_,_,_,_,_,lZ19,cZ19,kZ19⟩ := qZ19
 have FZ0 := aQ (st := yA) lZ0 cZ0 kZ0
 have FZ1 := aQ (st := zp) lZ0 cZ0 kZ0
 have FZ2 := aQ (st := yB) lZ2 cZ2 kZ2
 have FZ3 := aQ (st := yC) lZ3 cZ3 kZ3
 have Fis_Z3 := aQ (st := kO) lis_Z3 cis_Z3 kis_Z3
 have FZ5 := aQ (st := yD) lZ5 cZ5 kZ5
 have FZ6 := aQ (st := yE) lZ6 cZ6 kZ6
 have FZ7 := aQ (st := yF) lZ7 cZ7 kZ7
 have FZ8 := aQ (st := yG) lZ8 cZ8 kZ8
 have FZ9 := aQ (st := yH) lZ9 cZ9 kZ9
 have FZ10 := aQ (st := uF) lZ10 cZ10 kZ10
 have FZ11 := aQ (st := uG) lZ11 cZ11 kZ11
 have FZ12 := aQ (st := uH) lZ12 cZ12 kZ12
 have FZ13 := aQ (st := uI) lZ13 cZ13 kZ13
 have FZ14 := aQ (st := uJ) lZ14 cZ14 kZ14
 have FZ15 := aQ (st := uK) lZ15 cZ15 kZ15
 have FZ16 := aQ (st := uL) lZ16 cZ16 kZ16
 have FZ17 := aQ (st := uM) lZ17 cZ17 kZ17
 have FZ18 := aQ (st := uN) lZ18 cZ18 kZ18
 have FZ19 := aQ (st := uO) lZ19 cZ19 kZ19
 have FZ20 := aQ (st := uP) lZ20 cZ20 kZ20
 have FZ21 := aQ (st := uQ) lZ21 cZ21 kZ21
 have FZ22 := aQ (st := uR) lZ22 cZ22 kZ22
 have FZ23 := aQ (st := qO) lZ23 cZ23 kZ23
 have FZ24 := aQ (st := uS) lZ24 cZ24 kZ24
 have FZ25 := aQ (st := uT) lZ25 cZ25 kZ25
 have FZ26 := aQ (st := uU) lZ26 cZ26 kZ26
 have FZ27 := aQ (st := uV) lZ27 cZ27 kZ27
 have Flaw := aQ (st := kP) llaw claw klaw
 have F_InRing := aQ (st := du) l_InRing cc_InRing k_InRing
 refine ⟨Az "law" "law" (cD kP) (bM kP) (ap kP) .none kVlaw dclaw pmlaw anlaw cdlaw ctlaw,?bind,fun base _ _ => ?ok⟩
 case bind => exact fun s v => .of_eq rfl
 case ok =>
  have I_InRing : ze l.prog w K mg base 1 c_InRing ["self","ring"] (jZ c_InRing "ring") := ⟨f_InRing,_,qQ F_InRing B,ci_InRing,F_InRing.binds0 (ps := ["self","ring"]) fun _ _ _ _ _ _ us hl => match us,hl with | [_,_],_ => rfl⟩
  have bZ0 := FZ0.binds0 (ps := ["thing"]) fun _ _ _ _ _ _ us hl => match us,hl with | [_],_ => rfl
  have DZ0 : Dx l.prog w K mg base bw 1 "is_whole" ["thing"] [] jT := ⟨fZ0,_,zr FZ0 B ,AF X G aZ0,kZ0,bZ0,⟨[],bZ0,.nil⟩⟩
  have bZ1 := FZ1.binds0 (ps := ["thing"]) fun _ _ _ _ _ _ us hl => match us,hl with | [_],_ => rfl
  have DZ1 : Dx l.prog w K mg base bw 1 "is_whole" ["thing"] [] (vV K) := ⟨fZ0,_,zu FZ1 B ,AF X G aZ0,kZ0,bZ1,⟨[],bZ1,.nil⟩⟩
  have bZ2 := FZ2.binds0 (ps := ["one","other"]) fun _ _ _ _ _ _ us hl => match us,hl with | [_,_],_ => rfl
  have DZ2 : Dx l.prog w K mg base bw 1 "divisor" ["one","other"] [] oN := ⟨fZ2,_,zw FZ2 B ,AF X G aZ2,kZ2,bZ2,⟨[],bZ2,.nil⟩⟩
  have XZ3 : Dx l.prog w K mg base (b9 l.prog w) 2 "fraction" ["top","bottom"] [.int 1] (oW c_NoNumber) := ⟨fZ3,_,zA FZ3 B DZ0 DZ2,AF X G aZ3,kZ3,FZ3.binds (ps := ["top","bottom"]) (ds := []) dZ3 rfl fun _ _ _ _ _ _ us hl => match us,hl with | [_,_],_ => ⟨_,rfl,rfl⟩,⟨[.int 1 TtZ3],FZ3.binds (ps := ["top","bottom"]) (ds := [.int 1 TtZ3]) dZ3 rfl fun _ _ _ _ _ _ us hl => match us,hl with | [_],_ => ⟨_,rfl,rfl⟩ | [],h => absurd h (by simp) | _ :: _ :: _,h => absurd h (by simp),.cons ⟨_,rfl⟩ .nil⟩⟩
  have DZ3 : Dx l.prog w K mg base bw 2 "fraction" ["top","bottom"] [.int 1] wU := XZ3.calm vU
  have bis_Z3 := Fis_Z3.binds0 (ps := ["thing"]) fun _ _ _ _ _ _ us hl => match us,hl with | [_],_ => rfl
  have Dis_Z3 : Dx l.prog w K mg base bw 2 "is_fraction" ["thing"] [] (nC K) := ⟨fis_Z3,_,zC Fis_Z3 B DZ1 DZ2,AF X G ais_Z3,kis_Z3,bis_Z3,⟨[],bis_Z3,.nil⟩⟩
  have bZ5 := FZ5.binds0 (ps := ["thing"]) fun _ _ _ _ _ _ us hl => match us,hl with | [_],_ => rfl
  have DZ5 : Dx l.prog w K mg base bw 1 "is_name" ["thing"] [] (fG K) := ⟨fZ5,_,zE FZ5 B ,AF X G aZ5,kZ5,bZ5,⟨[],bZ5,.nil⟩⟩
  have bZ6 := FZ6.binds0 (ps := ["things"]) fun _ _ _ _ _ _ us hl => match us,hl with | [_],_ => rfl
  have XZ6 : Dx l.prog w K mg base (b9 l.prog w) 2 "refuse_no_names" ["things"] [] (dE K c_NoName) := ⟨fZ6,_,zG FZ6 B DZ5,AF X G aZ6,kZ6,bZ6,⟨[],bZ6,.nil⟩⟩
  have DZ6 : Dx l.prog w K mg base bw 2 "refuse_no_names" ["things"] [] vc := XZ6.calm (fun _ _ _ _ => v6)
  have bZ7 := FZ7.binds0 (ps := ["parts","good"]) fun _ _ _ _ _ _ us hl => match us,hl with | [_,_],_ => rfl
  have DZ7 : Dx l.prog w K mg base bw 1 "names_ahead" ["parts","good"] [] gQ := ⟨fZ7,_,zI FZ7 B ,AF X G aZ7,kZ7,bZ7,⟨[],bZ7,.nil⟩⟩
  have bZ8 := FZ8.binds0 (ps := ["ahead","goal"]) fun _ _ _ _ _ _ us hl => match us,hl with | [_,_],_ => rfl
  have DZ8 : Dx l.prog w K mg base bw 1 "chain_to" ["ahead","goal"] [] sS := ⟨fZ8,_,zK FZ8 B ,AF X G aZ8,kZ8,bZ8,⟨[],bZ8,.nil⟩⟩
  have bZ9 := FZ9.binds0 (ps := ["parts","good","goals"]) fun _ _ _ _ _ _ us hl => match us,hl with | [_,_,_],_ => rfl
  have DZ9 : Dx l.prog w K mg base bw 2 "chain_down" ["parts","good","goals"] [] dO := ⟨fZ9,_,zM FZ9 B DZ7 DZ8,AF X G aZ9,kZ9,bZ9,⟨[],bZ9,.nil⟩⟩
  have bZ10 := FZ10.binds0 (ps := ["parts","good"]) fun _ _ _ _ _ _ us hl => match us,hl with | [_,_],_ => rfl
  have DZ10 : Dx l.prog w K mg base bw 2 "all_inside" ["parts","good"] [] iK := ⟨fZ10,_,xw FZ10 B DZ7,AF X G aZ10,kZ10,bZ10,⟨[],bZ10,.nil⟩⟩
  have bZ11 := FZ11.binds0 (ps := ["self"]) fun _ _ _ _ _ _ us hl => match us,hl with | [_],_ => rfl
  have DZ11 : dv l.prog w K mg base bw 1 f_Z11 ["self"] [] (gn c_Larder) := ⟨_,xA FZ11 B ,bZ11,⟨[],bZ11,.nil⟩⟩
  have bZ12 := FZ12.binds0 (ps := ["self","told"]) fun _ _ _ _ _ _ us hl => match us,hl with | [_,_],_ => rfl
  have XZ12 : dv l.prog w K mg base (b9 l.prog w) 3 f_Z12 ["self","told"] [] (eA c_Larder c_TooMany) := ⟨_,xC FZ12 B ,bZ12,⟨[],bZ12,.nil⟩⟩
  have DZ12 : dv l.prog w K mg base bw 3 f_Z12 ["self","told"] [] oX := XZ12.calm (fun _ _ _ _ h => h.elim)
  have bZ13 := FZ13.binds0 (ps := ["self"]) fun _ _ _ _ _ _ us hl => match us,hl with | [_],_ => rfl
  have DZ13 : dv l.prog w K mg base bw 1 f_Z13 ["self"] [] (gR c_Larder) := ⟨_,xE FZ13 B ,bZ13,⟨[],bZ13,.nil⟩⟩
  have bZ14 := FZ14.binds0 (ps := ["self","good","other"]) fun _ _ _ _ _ _ us hl => match us,hl with | [_,_,_],_ => rfl
  have XZ14 : dv l.prog w K mg base (b9 l.prog w) 4 f_Z14 ["self","good","other"] [] (kE c_Larder c_InRing c_TooMany) := ⟨_,xG FZ14 B DZ9 XZ6 XZ12 I_InRing,bZ14,⟨[],bZ14,.nil⟩⟩
  have DZ14 : dv l.prog w K mg base bw 4 f_Z14 ["self","good","other"] [] oX := XZ14.calm (fun _ _ _ _ h => h.elim)
  have bZ15 := FZ15.binds0 (ps := ["self","good"]) fun _ _ _ _ _ _ us hl => match us,hl with | [_,_],_ => rfl
  have XZ15 : dv l.prog w K mg base (b9 l.prog w) 3 f_Z15 ["self","good"] [] (kG K c_Larder c_NoName) := ⟨_,xI FZ15 B DZ10 XZ6,bZ15,⟨[],bZ15,.nil⟩⟩
  have DZ15 : dv l.prog w K mg base bw 3 f_Z15 ["self","good"] [] (fS c_Larder) := XZ15.calm sT
  have bZ16 := FZ16.binds0 (ps := ["self","good"]) fun _ _ _ _ _ _ us hl => match us,hl with | [_,_],_ => rfl
  have XZ16 : dv l.prog w K mg base (b9 l.prog w) 3 f_Z16 ["self","good"] [] (gp K c_Larder c_NoName) := ⟨_,xK FZ16 B DZ9 XZ6,bZ16,⟨[],bZ16,.nil⟩⟩
  have DZ16 : dv l.prog w K mg base bw 3 f_Z16 ["self","good"] [] (fh c_Larder) := XZ16.calm oh
  have bZ17 := FZ17.binds0 (ps := ["self","good"]) fun _ _ _ _ _ _ us hl => match us,hl with | [_,_],_ => rfl
  have XZ17 : dv l.prog w K mg base (b9 l.prog w) 4 f_Z17 ["self","good"] [] (oj c_Larder c_TooMany) := ⟨_,xM FZ17 B XZ6 XZ12,bZ17,⟨[],bZ17,.nil⟩⟩
  have DZ17 : dv l.prog w K mg base bw 4 f_Z17 ["self","good"] [] oX := XZ17.calm (fun _ _ _ _ h => h.elim)
  have bZ18 := FZ18.binds0 (ps := ["self","good"]) fun _ _ _ _ _ _ us hl => match us,hl with | [_,_],_ => rfl
  have XZ18 : dv l.prog w K mg base (b9 l.prog w) 3 f_Z18 ["self","good"] [] (iT K c_Larder c_NoName) := ⟨_,xO FZ18 B XZ6,bZ18,⟨[],bZ18,.nil⟩⟩
  have DZ18 : dv l.prog w K mg base bw 3 f_Z18 ["self","good"] [] (iU c_Larder) := XZ18.calm qK
  have XZ19 : dv l.prog w K mg base (b9 l.prog w) 4 f_Z19 ["self","good","other","ratio"] [.non] (iV K c_Larder c_NoStand c_TooMany) := ⟨_,xQ FZ19 B Dis_Z3 XZ3 XZ6 XZ12,FZ19.binds (ps := ["self","good","other","ratio"]) (ds := []) dZ19 rfl fun _ _ _ _ _ _ us hl => match us,hl with | [_,_,_,_],_ => ⟨_,rfl,rfl⟩,⟨[.none],FZ19.binds (ps := ["self","good","other","ratio"]) (ds := [.none]) dZ19 rfl fun _ _ _ _ _ _ us hl => match us,hl with | [_,_,_],_ => ⟨_,rfl,rfl⟩ | [],h => absurd h (by simp) | [_],h => absurd h (by simp) | [_,_],h => absurd h (by simp) | _ :: _ :: _ :: _ :: _,h => absurd h (by simp),.cons rfl .nil⟩⟩
  have DZ19 : dv l.prog w K mg base bw 4 f_Z19 ["self","good","other","ratio"] [.non] oX := XZ19.calm (fun _ _ _ _ h => h.elim)
  have bZ20 := FZ20.binds0 (ps := ["_law_script","_law_k"]) fun _ _ _ _ _ _ us hl => match us,hl with | [_,_],_ => rfl
  have DZ20 : Dx l.prog w K mg base bw 1 "_law_cell_at" ["_law_script","_law_k"] [] (nj K) := ⟨fZ20,_,xS FZ20 B ,AF X G aZ20,kZ20,bZ20,⟨[],bZ20,.nil⟩⟩
  have bZ21 := FZ21.binds0 (ps := ["_law_cell","_law_other"]) fun _ _ _ _ _ _ us hl => match us,hl with | [_,_],_ => rfl
  have DZ21 : Dx l.prog w K mg base bw 1 "_law_text" ["_law_cell","_law_other"] [] kH := ⟨fZ21,_,xU FZ21 B ,AF X G aZ21,kZ21,bZ21,⟨[],bZ21,.nil⟩⟩
  have bZ22 := FZ22.binds0 (ps := ["_law_word"]) fun _ _ _ _ _ _ us hl => match us,hl with | [_],_ => rfl
  have DZ22 : Dx l.prog w K mg base bw 1 "_law_due" ["_law_word"] [] om := ⟨fZ22,_,xW FZ22 B ,AF X G aZ22,kZ22,bZ22,⟨[],bZ22,.nil⟩⟩
  have bZ23 := FZ23.binds0 (ps := ["_law_cell"]) fun _ _ _ _ _ _ us hl => match us,hl with | [_],_ => rfl
  have DZ23 : Dx l.prog w K mg base bw 2 "_law_names_told" ["_law_cell"] [] eB := ⟨fZ23,_,xY FZ23 B DZ5 DZ21 DZ22,AF X G aZ23,kZ23,bZ23,⟨[],bZ23,.nil⟩⟩
  have bZ24 := FZ24.binds0 (ps := ["_law_k","_law_turn"]) fun _ _ _ _ _ _ us hl => match us,hl with | [_,_],_ => rfl
  have DZ24 : Dx l.prog w K mg base bw 1 "_law_name" ["_law_k","_law_turn"] [] gS := ⟨fZ24,_,x3 FZ24 B ,AF X G aZ24,kZ24,bZ24,⟨[],bZ24,.nil⟩⟩
  have bZ25 := FZ25.binds0 (ps := ["_law_e"]) fun _ _ _ _ _ _ us hl => match us,hl with | [_],_ => rfl
  have HZ25 : ∀ hd,xc hd l.prog w K mg base 1 "_law_alone" ["_law_e"] (eK c_TooMany) := fun hd => ⟨fZ25,_,x5 FZ25 B ,AF X G aZ25,kZ25,bZ25⟩
  have DZ25 : Dx l.prog w K mg base bw 1 "_law_alone" ["_law_e"] [] (eK c_TooMany) := (HZ25 none).calm
  have bZ26 := FZ26.binds0 (ps := ["_law_larder","_law_way","_law_one","_law_other"]) fun _ _ _ _ _ _ us hl => match us,hl with | [_,_,_,_],_ => rfl
  have DZ26 : Dx l.prog w K mg base bw 5 "_law_told" ["_law_larder","_law_way","_law_one","_law_other"] [] (gT c_Larder) := ⟨fZ26,_,x8 FZ26 B XZ14 XZ17 XZ19 HZ25,AF X G aZ26,kZ26,bZ26,⟨[],bZ26,.nil⟩⟩
  have bZ27 := FZ27.binds0 (ps := ["_law_larder","_law_known","_law_cell","_law_turn"]) fun _ _ _ _ _ _ us hl => match us,hl with | [_,_,_,_],_ => rfl
  have DZ27 : Dx l.prog w K mg base bw 6 "_law_deed" ["_law_larder","_law_known","_law_cell","_law_turn"] [] (kK c_Larder) := ⟨fZ27,_,yc FZ27 B DZ13 DZ15 DZ16 DZ18 DZ24 DZ26,AF X G aZ27,kZ27,bZ27,⟨[],bZ27,.nil⟩⟩
  exact ye Flaw B DZ11 DZ13 DZ15 DZ20 DZ23 DZ24 DZ26 DZ27
theorem walk {l : PySem.W.OpenLaw} {q : Program} {loose : List Str} {XP : (Str -> Option Value) -> Heap -> Prop} {YP : World -> Heap -> Prop} {d : DefRec} {K : Params -> A0} (hn : l.most = some 63) (hdf : d.params.defaults = [])
  (hY : ∀ (w : World) (h : Heap),YP w h -> (K w.params).In h)
  (F : ∀ (w : World) (mg : Str -> Option Value) (fa : Addr) (h : Heap),(K w.params).In h -> h.Ns mainGlobals mg -> mg d.name = some (.ref fa) ->
   ∃ fd : FuncData,(∀ (s : Shared) (u : Value),BindsTo s fd ⟨[u],[]⟩ [("_law_script",u)]) /\ ∀ base : Heap,(K w.params).In base -> base.Ns mainGlobals mg -> bh l.prog w (K w.params) mg base bw 7 fa fd ["_law_script"] (oO (K w.params))) :
  PySem.W.WalkO q loose XP YP l.row.toRowW d [] (fun f vs => PySem.call f vs) :=
 L2.tL (n := 63) (k := 7) (x := "_law_script") (CX := fun _ => bw) (sp := fun w => oO (K w.params)) hn (by decide) hdf ⟨rfl,by decide,by decide⟩ hY F (fun _ _ a ns hl _ hS => ⟨a,ns,rfl,hS,hl,fun _ => rfl⟩) fun _ _ _ _ _ z => z
end Lk28
open PySem PySem.W PyProof.Rows
set_option maxRecDepth 100000 in
set_option maxHeartbeats 0 in
theorem PySem.Challenge.cw_stovework_k28_names_and_room_holds : PySem.Challenge.rw_stovework_k28_names_and_room.Holds := by
 refine Lk28.hd ?_
 k_fill
 refine Lk28.walk (l := PySem.Challenge.rw_stovework_k28_names_and_room) rfl rfl (fun w h Y => PySem.W.kIn_of Y) ?F
 case F =>
  intro w mg fa h KX G hmg
  refine' Lk28.wk KX G hmg ?h0 ?h1 ?h2 ?h3 ?h4 ?h5 ?h6 ?h7 ?h8 ?h9 ?h10 ?h11 ?h12 ?h13 ?h14 ?h15 ?h16 ?h17 ?h18 ?h19 ?h20 ?h21 ?h22 ?h23 ?h24 ?h25 ?h26 ?h27 ?h28 ?h29 ?h30 ?h31 ?h32 ?h33 ?h34 ?h35 ?h36 ?h37 ?h38 ?h39 ?h40 ?h41 ?h42 ?h43 ?h44 ?h45 ?h46 ?h47 ?h48 ?h49 ?h50 ?h51 ?h52 ?h53 ?h54 ?h55 ?h56 ?h57 ?h58 ?h59 ?h60 ?h61 ?h62 ?h63 ?h64 ?h65 ?h66 ?h67 ?h68 ?h69 ?h70 ?h71 ?h72 ?h73 ?h74 ?h75 ?h76 ?h77 ?h78 ?h79 ?h80 ?h81 ?h82 ?h83 ?h84 ?h85 ?h86 ?h87 ?h88 ?h89 ?h90 ?h91 ?h92 ?h93 ?h94 ?h95 ?h96 ?h97 ?h98 ?h99 ?h100 ?h101 ?h102 ?h103 ?h104 ?h105 ?h106 ?h107 ?h108 ?h109 ?h110 ?h111 ?h112 ?h113 ?h114 ?h115 ?h116 ?h117 ?h118 ?h119 ?h120 ?h121 ?h122 ?h123 ?h124 ?h125 ?h126 ?h127 ?h128 ?h129 ?h130 ?h131 ?h132 ?h133
  case h0 => k_is
  (case h1 => exact ⟨_,_,_,_,_,_,_,_,_,by k_is,by k_is,by k_is⟩)
  (case h2 => k_is)
  (case h3 => exact ⟨_,_,_,_,_,_,_,_,_,by k_is,by k_is,by k_is⟩)
  (case h4 => k_is)
  (case h5 => exact ⟨_,_,_,_,_,_,_,_,_,by k_is,by k_is,by k_is⟩)
  (case h6 => k_is)
  (case h7 => exact ⟨_,_,_,_,_,_,_,_,_,by k_is,by k_is,by k_is⟩)
  (case h8 => k_is)
  (case h9 => exact ⟨_,_,_,_,_,_,_,_,_,by k_is,by k_is,by k_is⟩)
  (case h10 => k_is)
  (case h11 => exact ⟨_,_,_,_,_,_,_,_,_,by k_is,by k_is,by k_is⟩)
  (case h12 => k_is)
  (case h13 => exact ⟨_,_,_,_,_,_,_,_,_,by k_is,by k_is,by k_is⟩)
  (case h14 => k_is)
  (case h15 => exact ⟨_,_,_,_,_,_,_,_,_,by k_is,by k_is,by k_is⟩)
  (case h16 => k_is)
  (case h17 => exact ⟨_,_,_,_,_,_,_,_,_,by k_is,by k_is,by k_is⟩)
  (case h18 => k_is)
  (case h19 => exact ⟨_,_,_,_,_,_,_,_,_,by k_is,by k_is,by k_is⟩)
  (case h20 => k_is)
  (case h21 => exact ⟨_,_,_,_,_,_,_,_,_,by k_is,by k_is,by k_is⟩)
  (case h22 => k_is)
  (case h23 => exact ⟨_,_,_,_,_,_,_,_,_,by k_is,by k_is,by k_is⟩)
  (case h24 => k_is)
  (case h25 => exact ⟨_,_,_,_,_,_,_,_,_,by k_is,by k_is,by k_is⟩)
  (case h26 => k_is)
  (case h27 => exact ⟨_,_,_,_,_,_,_,_,_,by k_is,by k_is,by k_is⟩)
  (case h28 => k_is)
  (case h29 => exact ⟨_,_,_,_,_,_,_,_,_,by k_is,by k_is,by k_is⟩)
  (case h30 => k_is)
  (case h31 => exact ⟨_,_,_,_,_,_,_,_,_,by k_is,by k_is,by k_is⟩)
  (case h32 => k_is)
  (case h33 => exact ⟨_,_,_,_,_,_,_,_,_,by k_is,by k_is,by k_is⟩)
  (case h34 => k_is)
  (case h35 => exact ⟨_,_,_,_,_,_,_,_,_,by k_is,by k_is,by k_is⟩)
  (case h36 => k_is)
  (case h37 => k_is)
  (case h38 => k_is)
  (case h39 => k_is)
  (case h40 => k_is)
  (case h41 => k_is)
  (case h42 => k_is)
  (case h43 => k_is)
  (case h44 => k_is)
  (case h45 => k_is)
  (case h46 => k_is)
  (case h47 => k_is)
  (case h48 => k_is)
  (case h49 => k_is)
  (case h50 => k_is)
  (case h51 => k_is)
  (case h52 => k_is)
  (case h53 => k_is)
  (case h54 => k_is)
  (case h55 => k_is)
  (case h56 => k_is)
  (case h57 => k_is)
  (case h58 => k_is)
  (case h59 => k_is)
  (case h60 => k_is)
  (case h61 => k_is)
  (case h62 => k_is)
  (case h63 => k_is)
  (case h64 => k_is)
  (case h65 => k_is)
  (case h66 => k_is)
  (case h67 => k_is)
  (case h68 => k_is)
  (case h69 => k_is)
  (case h70 => k_is)
  (case h71 => k_is)
  (case h72 => k_is)
  (case h73 => k_is)
  (case h74 => exact ⟨_,_,_,_,_,_,_,_,_,by k_is,by k_is,by k_is⟩)
  (case h75 => k_is)
  (case h76 => exact ⟨_,_,_,_,_,_,_,_,_,by k_is,by k_is,by k_is⟩)
  (case h77 => k_is)
  (case h78 => exact ⟨_,_,_,_,_,_,_,_,_,by k_is,by k_is,by k_is⟩)
  (case h79 => k_is)
  (case h80 => exact ⟨_,_,_,_,_,_,_,_,_,by k_is,by k_is,by k_is⟩)
  (case h81 => k_is)
  (case h82 => exact ⟨_,_,_,_,_,_,_,_,_,by k_is,by k_is,by k_is⟩)
  (case h83 => k_is)
  (case h84 => exact ⟨_,_,_,_,_,_,_,_,_,by k_is,by k_is,by k_is⟩)
  (case h85 => k_is)
  (case h86 => exact ⟨_,_,_,_,_,_,_,_,_,by k_is,by k_is,by k_is⟩)
  (case h87 => k_is)
  (case h88 => exact ⟨_,_,_,_,_,_,_,_,_,by k_is,by k_is,by k_is⟩)
  (case h89 => k_is)
  (case h90 => exact ⟨_,_,_,_,_,_,_,_,_,by k_is,by k_is,by k_is⟩)
  (case h91 => k_is)
  (case h92 => k_is)
  (case h93 => kernel_rfl)
  (case h94 => exact ⟨⟨by k_is,by k_is,by k_is⟩,by kernel_rfl,by k_is,by k_is,by k_is,by k_is⟩)
  (case h95 => kernel_rfl)
  (case h96 => exact ⟨⟨by k_is,by k_is,by k_is⟩,by kernel_rfl,by k_is,by k_is,by k_is,by k_is⟩)
  (case h97 => kernel_rfl)
  (case h98 => exact ⟨⟨by k_is,by k_is,by k_is⟩,by kernel_rfl,by k_is,by k_is,by k_is,by k_is⟩)
  (case h99 => kernel_rfl)
  (case h100 => exact ⟨⟨by k_is,by k_is,by k_is⟩,by kernel_rfl,by k_is,by k_is,by k_is,by k_is⟩)
  (case h101 => exact ⟨by k_is,by kernel_rfl,by k_is⟩)
  (case h102 => exact ⟨by k_is,by kernel_rfl,by k_is⟩)
  (case h103 => exact ⟨by k_is,by kernel_rfl,by k_is⟩)
  (case h104 => k_is)
  (case h105 => k_is)
  (case h106 => k_is)
  (case h107 => k_is)
  (case h108 => k_is)
  (case h109 => k_is)
  (case h110 => kernel_rfl)
  (case h111 => exact ⟨by k_is,by kernel_rfl,by kernel_rfl,by k_is⟩)
  (case h112 => k_is)
  (case h113 => exact ⟨⟨by k_is,by k_is,by k_is⟩,by kernel_rfl,by k_is,by k_is,by k_is,by k_is⟩)
  (case h114 => kernel_rfl)
  (case h115 => kernel_rfl)
  (case h116 => exact ⟨by k_is,by k_is,by k_is,by k_is⟩)
  (case h117 => exact ⟨by k_is,by k_is,by k_is,by k_is⟩)
  (case h118 => exact ⟨by k_is,by k_is,by k_is⟩)
  (case h119 => exact ⟨by k_is,by k_is,by k_is⟩)
  (case h120 => exact ⟨by k_is,by k_is,by k_is⟩)
  (case h121 => exact ⟨by k_is,by k_is,by k_is⟩)
  (case h122 => exact ⟨by k_is,by k_is,by k_is⟩)
  (case h123 => exact ⟨by k_is,by k_is,by k_is⟩)
  (case h124 => exact ⟨by k_is,by k_is,by k_is⟩)
  (case h125 => exact ⟨by k_is,by k_is,by k_is⟩)
  (case h126 => unfold L2.bK; k_is)
  (case h127 => unfold L2.bK; k_is)
  (case h128 => unfold L2.bK; k_is)
  (case h129 => unfold L2.bK; k_is)
  (case h130 => exact ⟨⟨_,_,_,_,_,_,_,_,_,_,_,_,_,_,_,_,by k_is,by kernel_rfl,by k_is,by kernel_rfl⟩,by k_is,by k_is⟩)
  (case h131 => k_is)
  (case h132 => k_is)
  (case h133 => k_is)
