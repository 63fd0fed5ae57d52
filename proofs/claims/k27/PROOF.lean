import PyProof.Rows.All
import Wide.All
import OpenK.AllK
import Wide.FinOn
import Lean
import PyProof.EqAt
import PyProof.EqKinds
import PyProof.TupleCall
import PyProof.NeKinds
import PyProof.StationsW
import PyProof.RulesAs
import PyProof.ExcArgsOwn
import PyProof.CompFree
import PyProof.ExcInit
import PyProof.ConsumeWalk
import PyProof.Rows.SeqGen
import PyProof.StrWalks
import PyProof.SliceStr2
import PyProof.MeetsStr
import KE.KIntText
import PyProof.Rows.FStr
import PyProof.StrCalls6
import PyProof.StrBlockL
import PyProof.ToksMono
import PyProof.WalkInts
import PyProof.Rows.MinMaxN
import PyProof.StrLawsReplace
import PyProof.StrLawsTight
import PyProof.Rows.StrLawsPart
import PyProof.DictWalks
import KE.KEqDict
import KE.KDictLaws
import KE.KRevIter
import PyProof.ListCopy
import PyProof.CollectIter
import PyProof.Rows.SetFrom
import PyProof.Rows.SortShellK
import PyProof.Rows.SortStr
import PyProof.Rows.SortWalk
import KE.KDictSum
import KE.KSortTup
import PyProof.TupleOfSeq
import PyProof.Rows.SortRuns
import PyProof.FactsAll.tuple_2
import PyProof.WalksEnum
import PyProof.EnumMake
import PyProof.EnumFor
import PyProof.ZipIter
import KE.KDictOf
import PyProof.DictItems
import PyProof.FactsAll.dict_itemiterator_1
import PyProof.MeetsSeq3
import PyProof.FactsAll.list_2
import PyProof.Rows.StrRules
import PyProof.Rows.StrMul
import KE.KDictList
import PySem.Challenge.RW_stovework_k27_whole_larders
open Array renaming length_toList → Ar, getElem?_toList → As, getElem?_eq_getElem → BK
open Bool renaming false_ne_true → AC, eq_iff_iff → BR
open Int renaming fmod_nonneg_of_pos → AG, fmod_lt_of_pos → AU
open List renaming getElem?_eq_some_iff → A1, length_map → A2, mem_singleton → A3, getElem?_append_left → A5, length_append → A6, mem_cons → A8, mem_of_getElem? → AB, getElem?_eq_getElem → AD, mem_map → AF, getElem?_map → AI, mem_append_right → AJ, size_toArray → AK, length_singleton → AL, nodup_cons → AN, mem_cons_of_mem → AR, getElem?_append_right → AS, mem_append → AY, mem_iff_getElem? → Aa, map_append → Ab, length_cons → Ac, getD_eq_getElem?_getD → Ad, map_cons → Ag, mem_append_left → Ao, map_map → Aq, not_mem_nil → Au, length_take → Av, mem_cons_self → Aw, mem_filter → B3, nodup_append → B4, lookup → B7, length_filter_le → B8, getElem?_eq_none → BA, filter_cons → BI, all_eq_true → BJ, length_pos_iff → BL, filterMap_cons → BM, find?_cons → BQ
open Nat renaming le_refl → A4, ne_of_lt → AH, lt_of_lt_of_le → AQ, le_trans → AT, zero_le → Af, lt_succ_iff_lt_or_eq → An, eq_zero_or_pos → Ay
open Option renaming map_eq_some_iff → Ah, isSome_iff_exists → Ak, bind_eq_some_iff → Ax, map_some → BN
open Option.some renaming inj → AZ
open PyProof renaming noPylong_small → AM
open PyProof.Rows renaming callWith_type1 → B6
open PySem renaming mem_of_lookup → Ai
open PySem.F renaming plainAttrs_list → AV, type_list_append → AW, slot_list_append → AX, plainAttrs_dict → BP
open PySem.W renaming Frag → A0, nsIn → A7, mg_of → AA, findIn → AE, emptyDict → AO, mg_none_of → Ae, keepIn → Aj, fnOf → Al, kia_one → Am, kitOne → Ap, instObj → Az, subIn → B1, excIn → B2, codeIn → B5, callWith_K → BO
open PySem.W.Fast renaming te14364793385576792824 → BB, te14289696077712309145 → BC, te11892475500146522536 → BE, te10274390034422433532 → BF, te10156331382660048174 → BG, te6613529449190102663 → BH
namespace Ht
open PySem PySem.W PyProof.Rows
noncomputable def oE (ok : Thread -> Bool) (st : SharedT -> Thread -> Option (SharedT × Thread)) (n : Nat) : SharedT -> Thread -> Option SharedT :=
 Nat.rec (motive := fun _ => SharedT -> Thread -> Option SharedT) (fun _ _ => none) (fun _ ih s t =>
  Bool.rec (motive := fun _ => Option SharedT)
   (Bool.rec (motive := fun _ => Option SharedT) none (Option.rec (motive := fun _ => Option SharedT) none (fun r => Prod.rec (motive := fun _ => Option SharedT) (fun s' t' => ih s' t') r) (st s t)) (ok t))
   (some s) (through t)) n
theorem mq {tb : String -> Option Builtin} {p : Program} {w : World} {m : Nat} {ann : Option Value} : ∀ {n : Nat} {s s' : SharedT} {t : Thread},oE (stepOk m ann) (stepT (denote tb) p w) n s t = some s' -> topRun tb p w m ann n s.abs t = some s'.abs
 | 0,_,_,_,h => by cases h
 | n + 1,s,s',t,h => by
  unfold topRun
  have h' : Bool.rec (motive := fun _ => Option SharedT)
   (Bool.rec (motive := fun _ => Option SharedT) none (Option.rec (motive := fun _ => Option SharedT) none (fun r => Prod.rec (motive := fun _ => Option SharedT) (fun s' t' => oE (stepOk m ann) (stepT (denote tb) p w) n s' t') r) (stepT (denote tb) p w s t)) (stepOk m ann t))
   (some s) (through t) = some s' := h
  cases ht : through t with
  | true => rw [ht] at h'; cases h'; rfl
  | false =>
   rw [ht] at h'
   cases hk : stepOk m ann t with
   | false => rw [hk] at h'; cases h'
   | true =>
    rw [hk] at h'
    cases hs : stepT (denote tb) p w s t with
    | none => rw [hs] at h'; cases h'
    | some r =>
     obtain ⟨s₂,t₂⟩ := r
     rw [hs] at h'
     dsimp only
     rw [stepT_spec hs]
     exact mq h'
noncomputable def grow (l : List Obj) : Nat -> BT -> Option BT :=
 List.rec (motive := fun _ => Nat -> BT -> Option BT) (fun _ t => some t) (fun o _ ih n t =>
  Bool.rec (motive := fun _ => Option BT) none (ih (n + 1) (t.ins n o)) ((t.ins n o).get n).isSome) l
theorem mr {life : Life} : ∀ {l : List Obj} {n : Nat} {t t' : BT},grow l n t = some t' -> absHeap t' (n + l.length) life = ⟨(absHeap t n life).objs ++ l.toArray,life⟩
 | [],n,t,t',h => by
  cases h
  simp [absHeap]
 | o :: l,n,t,t',h => by
  have h' : Bool.rec (motive := fun _ => Option BT) none (grow l (n + 1) (t.ins n o)) ((t.ins n o).get n).isSome = some t' := h
  cases e : ((t.ins n o).get n).isSome with
  | false => rw [e] at h'; cases h'
  | true =>
   rw [e] at h'
   have z := mr (life := life) h'
   rw [absHeap_ins e] at z
   rw [show n + (o :: l).length = n + 1 + l.length by rw [Ac]; omega,z]
   simp [Heap.push]
noncomputable def treeOf (s : Shared) : Option SharedT :=
 Option.rec (motive := fun _ => Option SharedT) none (fun t => some ⟨t,s.heap.objs.size,s.heap.life,s.gens,s.drawn,s.toks,s.os⟩) (grow s.heap.objs.toList 0 .nil)
theorem kY {s : Shared} {s' : SharedT} (h : treeOf s = some s') : s'.abs = s := by
 have h' : Option.rec (motive := fun _ => Option SharedT) none (fun t => some ⟨t,s.heap.objs.size,s.heap.life,s.gens,s.drawn,s.toks,s.os⟩) (grow s.heap.objs.toList 0 .nil) = some s' := h
 cases e : grow s.heap.objs.toList 0 .nil with
 | none => rw [e] at h'; cases h'
 | some t =>
  rw [e] at h'
  cases h'
  have z := mr (life := s.heap.life) e
  obtain ⟨⟨objs,life⟩,gens,drawn,toks,os⟩ := s
  simp only [SharedT.abs]
  have z' : absHeap t objs.size life = ⟨objs,life⟩ := by
   simpa [absHeap,BT.list] using z
  rw [z']
noncomputable def oF (ok : Nat -> Option Value -> Thread -> Bool) (st : SharedT -> Thread -> Option (SharedT × Thread)) (p : Program) (N : Nat) (s₀ : Shared) : Option Shared :=
 Bool.rec (motive := fun _ => Option Shared) none
  ((treeOf s₀).bind fun t₀ => (oE (ok s₀.heap.objs.size (s₀.heap.nsMap mainGlobals "__annotations__")) st N t₀ (topStub p)).bind fun t₁ =>
   (fun s₁ => Bool.rec (motive := fun _ => Option Shared) none (some s₁) (staticsOk (importedModules p.main.body) s₀.heap s₁.heap && namesBound p s₁.heap && gensDone s₁ && laidKept s₀.heap s₁.heap)) t₁.abs)
  (s₀.heap.isNs mainGlobals && s₀.gens.size == 0)
theorem oG {tb : String -> Option Builtin} {p : Program} {w : World} {N : Nat} {s₀ s : Shared} (h : oF stepOk (stepT (denote tb) p w) p N s₀ = some s) : topFrom tb p w N s₀ = some s := by
 unfold oF at h
 unfold topFrom
 cases e : s₀.heap.isNs mainGlobals && s₀.gens.size == 0 with
 | false => rw [e] at h; cases h
 | true =>
  rw [e] at h
  obtain ⟨t₀,e0,h⟩ := Ax.mp h
  obtain ⟨t₁,e1,h⟩ := Ax.mp h
  have r := mq e1
  rw [kY e0] at r
  dsimp only
  rw [r]
  dsimp only at h
  show (match staticsOk (importedModules p.main.body) s₀.heap t₁.abs.heap && namesBound p t₁.abs.heap && gensDone t₁.abs && laidKept s₀.heap t₁.abs.heap with | true => some t₁.abs | false => none) = some s
  cases q : staticsOk (importedModules p.main.body) s₀.heap t₁.abs.heap && namesBound p t₁.abs.heap && gensDone t₁.abs && laidKept s₀.heap t₁.abs.heap with
  | false => rw [q] at h; cases h
  | true => rw [q] at h; exact h
noncomputable def nu (ok : Nat -> Option Value -> Thread -> Bool) (st : SharedT -> Thread -> Option (SharedT × Thread)) (p : Program) (N : Nat) (s₀ : Shared) : Option Shared :=
 (treeOf s₀).bind fun t₀ => (oE (ok s₀.heap.objs.size (s₀.heap.nsMap mainGlobals "__annotations__")) st N t₀ (topStub p)).map fun t₁ => t₁.abs
def qw (p : Program) (s₀ s₁ : Shared) : Bool := (s₀.heap.isNs mainGlobals && s₀.gens.size == 0) && (staticsOk (importedModules p.main.body) s₀.heap s₁.heap && namesBound p s₁.heap && gensDone s₁ && laidKept s₀.heap s₁.heap)
theorem oH {tb : String -> Option Builtin} {p : Program} {w : World} {N : Nat} {s₀ s : Shared} (h : nu stepOk (stepT (denote tb) p w) p N s₀ = some s) (c : qw p s₀ s = true) : topFrom tb p w N s₀ = some s := by
 apply oG
 unfold nu at h
 obtain ⟨t₀,e0,h⟩ := Ax.mp h
 obtain ⟨t₁,e1,rfl⟩ := Ah.mp h
 unfold qw at c
 rw [Bool.and_eq_true] at c
 unfold oF
 rw [c.1]
 show ((treeOf s₀).bind fun t₀ => _) = _
 rw [e0]
 show ((oE _ _ N t₀ (topStub p)).bind fun t₁ => _) = _
 rw [e1]
 show (Bool.rec (motive := fun _ => Option Shared) none (some t₁.abs) (staticsOk (importedModules p.main.body) s₀.heap t₁.abs.heap && namesBound p t₁.abs.heap && gensDone t₁.abs && laidKept s₀.heap t₁.abs.heap) : Option Shared) = _
 rw [c.2]
abbrev Look (p : Program) (N : Nat) {α : Type} (f : Shared -> Shared -> α) (v : World -> α) : Prop := ∀ w : World,((importEnds treeTable (opening p) w N (start (opening p)).1 (start (opening p)).2).bind fun s => (fenceModules? p s).bind fun s₀ => (nu stepOk (stepT (denote treeTable) p w) p N s₀).map fun s₁ => f s₀ s₁) = some (v w)
theorem Look.at_ {p : Program} {N : Nat} {α : Type} {f : Shared -> Shared -> α} {v : World -> α} (h : Look p N f v) (w : World) {s s₀ s₁ : Shared} (a : importEnds treeTable (opening p) w N (start (opening p)).1 (start (opening p)).2 = some s) (b : fenceModules? p s = some s₀) (c : nu stepOk (stepT (denote treeTable) p w) p N s₀ = some s₁) : f s₀ s₁ = v w := by
 have := h w
 rw [a] at this
 replace this : ((fenceModules? p s).bind fun s₀ => (nu stepOk (stepT (denote treeTable) p w) p N s₀).map fun s₁ => f s₀ s₁) = some (v w) := this
 rw [b] at this
 replace this : ((nu stepOk (stepT (denote treeTable) p w) p N s₀).map fun s₁ => f s₀ s₁) = some (v w) := this
 rw [c] at this
 injection this
theorem oJ {p q : Program} {loose : List Str} {Xt : Shared -> Bool} {α : Type} {Yf : Shared -> α} {Ya : World -> α} {N : Nat} {g0 : Bool} (hc : Look p N (fun s₀ s₁ => qw p s₀ s₁) fun _ => true)
  (h1 : Look p N (fun _ s => openSeen q loose (importedModules p.main.body) Xt g0 s) fun _ => openGood q loose) (h2 : Look p N (fun _ s => Yf s) Ya) : LeftO p q loose Xt Yf Ya N g0 := fun w => by
 obtain ⟨s,a,e⟩ := Ax.mp (hc w)
 obtain ⟨s₀,b,e⟩ := Ax.mp e
 obtain ⟨s₁,c,e⟩ := Ah.mp e
 have z : openEnds treeTable p w N = some s₁ := by
  unfold openEnds fencedOpening
  rw [a]
  show (fenceModules? p s).bind _ = _
  rw [b]
  exact oH c e
 rw [z]
 show some (_,_) = some (_,_)
 rw [h1.at_ w a b c,h2.at_ w a b c]
end Ht
set_option Elab.async false
set_option linter.all false
set_option maxRecDepth 100000
namespace Lk27
open PySem PySem.W PyProof.Rows
def qv : Program := { PySem.Challenge.pw_stovework_k27_whole_larders with main := { PySem.Challenge.pw_stovework_k27_whole_larders.main with body := ([1,2,3,4,5,6,7,9,10,11,13,14,15,16,18,19,22,23,25,27,28,29,31,32,33,34,35,36,37,38,39,40,41,42,43,44] : List Nat).filterMap fun i => PySem.Challenge.pw_stovework_k27_whole_larders.main.body[i]? } }
def lo : List Str := ["fraction"]
theorem head {α : Type} {Yf : Shared -> α} {Ya : World -> α} {YP : World -> Heap -> Prop} {d : DefRec} {kwd : List (Str × Expr)} (left : LeftO PySem.Challenge.pw_stovework_k27_whole_larders qv lo (fun s => xlAt qv [] s && recOk [] s) Yf Ya 6080)
  (hY : ∀ w s,Yf s = Ya w -> YP w s.heap) (hYk : ∀ w h h',YP w h -> (∀ b o,h.get? b = some o -> h'.get? b = some o) -> YP w h') (hd : defOf qv PySem.Challenge.rw_stovework_k27_whole_larders.row.name = some (d,kwd))
  (hp : PySem.Challenge.rw_stovework_k27_whole_larders.row.prog.theDef PySem.Challenge.rw_stovework_k27_whole_larders.row.name = some (d.params,d.body,d.scope)) (hk : kwWritten? d.params.kwonlyargs d.params.kw_defaults = some kwd)
  (said : PySem.Challenge.rw_stovework_k27_whole_larders.row.wellSaid = true) (hw : PySem.Challenge.rw_stovework_k27_whole_larders.row.toRowW.promised) (call : WalkO qv lo (XL qv []) YP PySem.Challenge.rw_stovework_k27_whole_larders.row.toRowW d kwd fun f vs => PySem.call f vs) : PySem.Challenge.rw_stovework_k27_whole_larders.row.Holds :=
 holds_open left hY hYk (fun s e => xl_of s (Bool.and_eq_true_iff.mp e).1) XL.keeps hd hp hk (fun s e => recFacts_of (Bool.and_eq_true_iff.mp e).2) rfl said (by decide +kernel) ⟨rfl,rfl,rfl,rfl,rfl,by decide +kernel⟩ hw call
set_option maxHeartbeats 0 in
theorem la : Ht.Look PySem.Challenge.pw_stovework_k27_whole_larders 6080 (fun s₀ s₁ => Ht.qw PySem.Challenge.pw_stovework_k27_whole_larders s₀ s₁) (fun _ => true) := by
 intro w
 rw [BF,BC,BH,BG,BE,BB]
 kernel_rfl
set_option maxHeartbeats 0 in
theorem lb : Ht.Look PySem.Challenge.pw_stovework_k27_whole_larders 6080 (fun _ s => openSeen qv lo (importedModules PySem.Challenge.pw_stovework_k27_whole_larders.main.body) (fun s => xlAt qv [] s && recOk [] s) true s) (fun _ => openGood qv lo) := by
 intro w
 rw [BF,BC,BH,BG,BE,BB,PySem.W.Fast.te4187177175401517315]
 kernel_rfl
end Lk27
local macro_rules | `(tactic| o_head $H) => `(tactic| (refine Lk27.head (Yf := PySem.W.Hook.obs $H) (Ya := PySem.W.Hook.val $H) (YP := PySem.W.Hook.says $H) ?hl (PySem.W.Hook.of $H) (PySem.W.Hook.keeps $H) (by rfl) (by rfl) (by rfl) (by assumption) ?hw ?hc; (case hl => (refine Ht.oJ Lk27.la Lk27.lb ?c; (case c => (intro w; rw [BF,BC,BH,BG,BE,BB]; kernel_rfl))))))
namespace PySem.W.Fast
def dZ : PySem.Program := PySem.Challenge.pw_stovework_k27_whole_larders
theorem jW : PySem.Challenge.pw_stovework_k27_whole_larders = dZ := rfl
end PySem.W.Fast
set_option maxHeartbeats 0 in
open_top Lk27.hd for PySem.Challenge.rw_stovework_k27_whole_larders
namespace L2
open PySem PySem.Spec PyProof.Rows
abbrev Key := Sum Int Str
def iC : Key -> Value -> Bool
 | .inl k,v => Value.isInt k v
 | .inr x,v => Value.isStrOf x v
def wN (w : World) : Key -> Int
 | .inl k => hashInt k
 | .inr x => hashStr w x
theorem bC : ∀ {k : Key} {v : Value},iC k v = true -> (∃ i t,k = Sum.inl i /\ v = Value.int i t) ∨ (∃ x t,k = Sum.inr x /\ v = Value.str x t)
 | .inl i,v,h => by
  obtain ⟨t,e⟩ := Value.isInt_shape (k := i) (v := v) h
  exact .inl ⟨i,t,rfl,e⟩
 | .inr x,v,h => by
  obtain ⟨t,e⟩ := Value.isStrOf_shape (x := x) (v := v) h
  exact .inr ⟨x,t,rfl,e⟩
theorem nv (i : Int) (t : Tok) : iC (.inl i) (.int i t) = true := by simp [iC,Value.isInt]
theorem nA (x : Str) (t : Tok) : iC (.inr x) (.str x t) = true := by simp [iC,Value.isStrOf]
theorem tq (a b : Int) : decide ((Sum.inl a : Key) = Sum.inl b) = (a == b) := by
 by_cases e : a = b
 ·subst e; simp
 ·have h : ¬ (Sum.inl a : Key) = Sum.inl b := fun q => e (Sum.inl.inj q)
  rw [decide_eq_false h]
  exact (beq_eq_false_iff_ne.mpr e).symm
theorem tu (a b : Str) : decide ((Sum.inr a : Key) = Sum.inr b) = decide (a = b) := by
 by_cases e : a = b
 ·subst e; simp
 ·have h : ¬ (Sum.inr a : Key) = Sum.inr b := fun q => e (Sum.inr.inj q)
  rw [decide_eq_false h,decide_eq_false e]
theorem tw (a : Int) (b : Str) : decide ((Sum.inl a : Key) = Sum.inr b) = false := decide_eq_false (fun q => nomatch q)
theorem tz (a : Str) (b : Int) : decide ((Sum.inr a : Key) = Sum.inl b) = false := decide_eq_false (fun q => nomatch q)
def aX (prog : Program) (w : World) : PySem.KeyKind prog w Key where
 is := iC
 hash := wN w
 inj := fun v a b ha hb => by
  rcases bC ha with ⟨i,t,rfl,rfl⟩ | ⟨x,t,rfl,rfl⟩
  ·rcases bC hb with ⟨j,u,rfl,e⟩ | ⟨y,u,rfl,e⟩
   ·injection e with e1 _; rw [e1]
   ·exact nomatch e
  ·rcases bC hb with ⟨j,u,rfl,e⟩ | ⟨y,u,rfl,e⟩
   ·exact nomatch e
   ·injection e with e1 _; rw [e1]
 byValue := fun k v h => by
  rcases bC h with ⟨i,t,rfl,rfl⟩ | ⟨x,t,rfl,rfl⟩ <;> rfl
 pyHash := fun hv h => by
  rcases bC hv with ⟨i,t,rfl,rfl⟩ | ⟨x,t,rfl,rfl⟩
  ·exact wpAny_pyHash_int h
  ·exact wpAny_pyHash_str h
 eqBool := fun hu hv h => by
  rcases bC hu with ⟨i,t,rfl,rfl⟩ | ⟨x,t,rfl,rfl⟩
  ·rcases bC hv with ⟨j,u,rfl,rfl⟩ | ⟨y,u,rfl,rfl⟩
   ·rw [tq] at h; exact wpAny_eqBool_int h
   ·rw [tw] at h; exact SeqAt.EqAt.int_str i t y u _ _ _ _ h
  ·rcases bC hv with ⟨j,u,rfl,rfl⟩ | ⟨y,u,rfl,rfl⟩
   ·rw [tz] at h; exact SeqAt.EqAt.str_int x t j u _ _ _ _ h
   ·rw [tu] at h; exact wpAny_eqBool_str h
 «strs» := fun k x t v h => by
  rcases bC h with ⟨i,u,rfl,e⟩ | ⟨y,u,rfl,e⟩
  ·exact nomatch e
  ·injection e with e1 _
   subst e1
   cases v <;> rfl
theorem jY (prog : Program) (w : World) (i : Int) (t : Tok) : (aX prog w).is (.inl i) (.int i t) = true := nv i t
theorem jZ (prog : Program) (w : World) (x : Str) (t : Tok) : (aX prog w).is (.inr x) (.str x t) = true := nA x t
inductive V where
 | non | bl (b : Bool) | int (i : Int) | str (x : Str) | byt (b : Array UInt8) | flt (b : UInt64) | ref (a : Addr) | ty (n : String)
 deriving DecidableEq
def RelV : V -> Value -> Prop
 | .non,u => u = Value.none
 | .bl b,u => u = Value.bool b
 | .int i,u => ∃ t,u = Value.int i t
 | .str x,u => ∃ t,u = Value.str x t
 | .byt b,u => ∃ t,u = Value.bytes b t
 | .flt b,u => ∃ t,u = Value.float b t
 | .ref a,u => u = Value.ref a
 | .ty n,u => u = Value.type n
abbrev aR : List V -> List Value -> Prop := Paired RelV
theorem aR.length {xs : List V} {us : List Value} (r : aR xs us) : xs.length = us.length := Paired.length r
theorem aR.get : ∀ {xs : List V} {us : List Value} {i : Nat} {x : V},aR xs us -> xs[i]? = some x -> ∃ u,us[i]? = some u /\ RelV x u
 | _,_,_,_,.nil,e => by simp at e
 | _,_,0,_,.cons r _,e => by simp at e; subst e; exact ⟨_,rfl,r⟩
 | _,_,i + 1,x,.cons _ t,e => by
  obtain ⟨u,h1,h2⟩ := aR.get (i := i) (x := x) t (by simpa using e)
  exact ⟨u,by simpa using h1,h2⟩
theorem aR.append : ∀ {xs ys : List V} {us ws : List Value},aR xs us -> aR ys ws -> aR (xs ++ ys) (us ++ ws)
 | _,_,_,_,.nil,s => s
 | _,_,_,_,.cons r t,s => .cons r (aR.append t s)
theorem aR.take : ∀ {xs : List V} {us : List Value} (n : Nat),aR xs us -> aR (xs.take n) (us.take n)
 | _,_,0,_ => .nil
 | _,_,_ + 1,.nil => .nil
 | _,_,n + 1,.cons r t => .cons r (aR.take n t)
theorem aR.drop : ∀ {xs : List V} {us : List Value} (n : Nat),aR xs us -> aR (xs.drop n) (us.drop n)
 | _,_,0,r => r
 | _,_,_ + 1,.nil => .nil
 | _,_,n + 1,.cons _ t => aR.drop n t
def dm : Option V -> Option Value -> Prop
 | some v,some u => RelV v u
 | none,none => True
 | _,_ => False
def KV {κ : Type} : List (κ × V) -> List (κ × Value) -> Prop := Paired fun (p : κ × V) (q : κ × Value) => p.1 = q.1 /\ RelV p.2 q.2
def kV : Key -> V
 | .inl i => .int i
 | .inr x => .str x
inductive HO where
  | lst (xs : List V)
  | tup (xs : List V)
  | dK (kvs : List (Key × V)) | dT (kvs : List (List Key × V))
  | set (S : Int -> Bool) (n : Nat)
  | ins (C dx : Addr) (fs : List (Str × V))
  | own (x : Addr)
  | xd (fs : List (Str × V))
  | met (f x : Addr)
  | rng (lo hi : Int)
  | frz (o : Obj) (u : HO)
  | tbl (ps : Array Value)
  | ext (φ : Heap -> Prop)
abbrev Hp := Addr -> Option HO
def aq (H : Hp) (a : Addr) (o : HO) : Hp := fun b => if b = a then some o else H b
theorem ac {H : Hp} {a : Addr} {o : HO} : aq H a o a = some o := by unfold aq; rw [if_pos rfl]
theorem af {H : Hp} {a b : Addr} {o : HO} (h : b ≠ a) : aq H a o b = H b := by unfold aq; rw [if_neg h]
theorem jd {H : Hp} {a : Addr} {o u : HO} : aq (aq H a o) a u = aq H a u := by
 funext b; unfold aq; split <;> rfl
theorem bU {H : Hp} {a b : Addr} {o u : HO} (h : H a = some o) (h' : H b = some u) (d : o ≠ u) : a ≠ b := by
 intro e; subst e; rw [h] at h'; exact d (AZ h')
theorem aQ {H : Hp} {a b : Addr} {o : HO} (h : H a = some o) (h' : H b = none) : a ≠ b := by
 intro e; subst e; rw [h] at h'; cases h'
section
variable (P : Program) (w : World)
def a8 (H : Hp) (h : Heap) (a : Addr) : HO -> Prop
 | .lst xs => xs.length <= sizeLine /\ ∃ (its : List Value) (n : Nat),aR xs its /\ h.get? a = some { cls := .type "list",data := .seq its.toArray n }
 | .tup xs => xs.length <= sizeLine /\ ∃ its : List Value,aR xs its /\ IsTup h a its.toArray
 | .dK kvs => kvs.length <= sizeLine /\ (a == sysModules) = false /\ ∃ vs,KV kvs vs /\ h.DictOf (aX P w) a vs
 | .dT kvs => kvs.length <= sizeLine /\ (a == sysModules) = false /\ ∃ xs : List (List Key × Addr × Value),
   Paired (fun (p : List Key × V) (q : List Key × Addr × Value) => p.1 = q.1 /\ H q.2.1 = some (.tup (p.1.map kV)) /\ RelV p.2 q.2.2) kvs xs /\
   ∃ o es ep,h.get? a = some o /\ o.ExactDict /\ o.data = .dict es ep /\ es.toList = xs.map (entryOfKey (tupleKind (aX P w))) /\ (xs.map (·.1)).Nodup
 | .set S n => h.SetOf (intKind P w) a S n
 | .ins C dx fs => H dx = some (.own a) /\ fs.length <= 1000 /\ dx ≠ a /\ h.get? a = some (Az C dx) /\
   ∃ mA,h.Ns1 dx mA /\ (∀ f,dm (fs.lookup f) (mA f)) /\ PySem.Within mA (fs.map (·.1))
 | .own _ => ∃ o,h.get? a = some o
 | .xd fs => ∃ mA,h.Ns1 a mA /\ ∀ f,dm (fs.lookup f) (mA f)
 | .rng lo hi => ∃ t u v,h.get? a = some { cls := .type "range",data := .fields #[.int lo t,.int hi u,.int 1 v] }
 | .frz o u => h.get? a = some o /\ a8 H h a u
 | .tbl ps => h.get? a = some { cls := .none,data := .fields ps }
 | .met f x => h.get? a = some (PySem.W.methodObj (.ref f) (.ref x))
 | .ext φ => φ h /\ (∃ o,h.get? a = some o) /\ ∀ h1 h2 : Heap,φ h1 -> (∀ o,h1.get? a = some o -> h2.get? a = some o) -> φ h2
def dy (H : Hp) (h : Heap) : Prop := ∀ a o,H a = some o -> a8 P w H h a o
end
section
variable {P : Program} {w : World} {H H' : Hp} {h h' : Heap} {a : Addr} {o : HO}
theorem a8.lt (x : a8 P w H h a o) : a < h.objs.size := by
 cases o with
 | lst xs => obtain ⟨_,_,_,_,e⟩ := x; exact Heap.lt_size e
 | tup xs => obtain ⟨_,_,_,p⟩ := x; exact p.lt
 | dK kvs => obtain ⟨_,_,_,_,o,_,_,e,_⟩ := x; exact Heap.lt_size e
 | dT kvs => obtain ⟨_,_,_,_,o,_,_,e,_⟩ := x; exact Heap.lt_size e
 | set S n => obtain ⟨o,_,_,_,e,_⟩ := x; exact Heap.lt_size e
 | ins C dx fs => obtain ⟨_,_,_,e,_⟩ := x; exact Heap.lt_size e
 | own y => obtain ⟨_,e⟩ := x; exact Heap.lt_size e
 | xd fs => obtain ⟨_,⟨_,_,_,e,_⟩,_⟩ := x; exact Heap.lt_size e
 | rng lo hi => obtain ⟨_,_,_,e⟩ := x; exact Heap.lt_size e
 | frz ob u => obtain ⟨e,_⟩ := x; exact Heap.lt_size e
 | tbl ps => exact Heap.lt_size (show h.get? a = some _ from x)
 | met f y => exact Heap.lt_size (show h.get? a = some _ from x)
 | ext φ => obtain ⟨_,⟨_,e⟩,_⟩ := x; exact Heap.lt_size e
theorem Paired.mapP {α β : Type} {F G : α -> β -> Prop} : ∀ {l₁ : List α} {l₂ : List β},Paired F l₁ l₂ -> (∀ a b,F a b -> G a b) -> Paired G l₁ l₂
 | _,_,.nil,_ => .nil
 | _,_,.cons r t,f => .cons (f _ _ r) (Paired.mapP t f)
theorem a8.stay (x : a8 P w H h a o) (k : ∀ b u,(b = a ∨ H b = some (.own a)) -> h.get? b = some u -> h'.get? b = some u)
  (ho : ∀ b,H b = some (.own a) -> H' b = some (.own a)) (ht : ∀ b xs,H b = some (.tup xs) -> H' b = some (.tup xs)) : a8 P w H' h' a o := by
 induction o with
 | lst xs => obtain ⟨z,its,n,r,e⟩ := x; exact ⟨z,its,n,r,k _ _ (.inl rfl) e⟩
 | tup xs => obtain ⟨z,its,r,ob,e,c⟩ := x; exact ⟨z,its,r,ob,k _ _ (.inl rfl) e,c⟩
 | dK kvs => obtain ⟨z,y,vs,r,ob,es,ep,e,c⟩ := x; exact ⟨z,y,vs,r,ob,es,ep,k _ _ (.inl rfl) e,c⟩
 | dT kvs =>
  obtain ⟨z,y,xs,r,ob,es,ep,e,c⟩ := x
  exact ⟨z,y,xs,Paired.mapP r fun p q z => ⟨z.1,ht _ _ z.2.1,z.2.2⟩,ob,es,ep,k _ _ (.inl rfl) e,c⟩
 | set S n => obtain ⟨ob,es,ep,t,e,c⟩ := x; exact ⟨ob,es,ep,t,k _ _ (.inl rfl) e,c⟩
 | ins C dx fs =>
  obtain ⟨d,z,ne,e,mA,⟨od,es,ep,e2,c⟩,r⟩ := x
  exact ⟨ho _ d,z,ne,k _ _ (.inl rfl) e,mA,⟨od,es,ep,k _ _ (.inr d) e2,c⟩,r⟩
 | own y => obtain ⟨ob,e⟩ := x; exact ⟨ob,k _ _ (.inl rfl) e⟩
 | xd fs => obtain ⟨mA,⟨od,es,ep,e,c⟩,r⟩ := x; exact ⟨mA,⟨od,es,ep,k _ _ (.inl rfl) e,c⟩,r⟩
 | rng lo hi => obtain ⟨t,u,v,e⟩ := x; exact ⟨t,u,v,k _ _ (.inl rfl) e⟩
 | frz ob u ih => obtain ⟨e,q⟩ := x; exact ⟨k _ _ (.inl rfl) e,ih q⟩
 | tbl ps =>
  have e : h.get? a = some { cls := .none,data := .fields ps } := x
  show h'.get? a = some { cls := .none,data := .fields ps }
  exact k a _ (.inl rfl) e
 | met f y =>
  have e : h.get? a = some (PySem.W.methodObj (.ref f) (.ref y)) := x
  show h'.get? a = some (PySem.W.methodObj (.ref f) (.ref y))
  exact k a _ (.inl rfl) e
 | ext φ => obtain ⟨p,⟨o,e⟩,st⟩ := x; exact ⟨st _ _ p fun o q => k _ _ (.inl rfl) q,⟨o,k _ _ (.inl rfl) e⟩,st⟩
theorem dy.lt (x : dy P w H h) (e : H a = some o) : a < h.objs.size := (x a o e).lt
theorem dy.fresh (x : dy P w H h) (e : h.objs.size <= a) : H a = none := by
 cases q : H a with
 | none => rfl
 | some u => exact absurd (AQ (x.lt q) e) (Nat.lt_irrefl _)
theorem dy.kept (x : dy P w H h) (k : ∀ b u,h.get? b = some u -> h'.get? b = some u) : dy P w H h' := fun a o e =>
 (x a o e).stay (fun b u _ q => k b u q) (fun _ q => q) fun _ _ q => q
theorem dy.laid (x : dy P w H h) (k : ∀ b u,h.get? b = some u -> h'.get? b = some u) (hp : h.objs.size <= a) (new : a8 P w (aq H a o) h' a o) : dy P w (aq H a o) h' := fun b u e => by
 have hn := x.fresh hp
 by_cases hb : b = a
 ·subst hb; rw [ac] at e; cases e; exact new
 ·rw [af hb] at e
  exact (x b u e).stay (fun c v _ q => k c v q) (fun c q => by rw [af (aQ q hn)]; exact q) fun c xs q => by rw [af (aQ q hn)]; exact q
end
def Rd (H : Hp) (a : Addr) (u : HO) : Prop := H a = some u ∨ ∃ o,H a = some (.frz o u)
theorem Rd.ok {P : Program} {w : World} {H : Hp} {h : Heap} {a : Addr} {u : HO} (r : Rd H a u) (x : dy P w H h) : a8 P w H h a u := by
 rcases r with r | ⟨o,r⟩
 ·exact x a u r
 ·obtain ⟨_,q⟩ := x a _ r
  exact q
def uC : Option HO -> Prop
 | some (.lst _) => True
 | some (.dK _) => True
 | some (.dT _) => True
 | some (.set _ _) => True
 | some (.ins _ _ _) => True
 | some (.ext _) => True
 | _ => False
section
variable {P : Program} {w : World} {H : Hp} {h h' : Heap} {x e : Addr} {o' : HO}
theorem dy.write (ok : dy P w H h) (mu : uC (H x)) (he : e = x ∨ H e = some (.own x)) (k : ∀ b u,b ≠ e -> h.get? b = some u -> h'.get? b = some u) (heo : ∃ u,h'.get? e = some u)
  (new : a8 P w (aq H x o') h' x o') : dy P w (aq H x o') h' := fun b u q => by
 have nown : ∀ c y,H c = some (.own y) -> c ≠ x := fun c y r z => by subst z; rw [r] at mu; exact mu
 have ntup : ∀ c xs,H c = some (.tup xs) -> c ≠ x := fun c xs r z => by subst z; rw [r] at mu; exact mu
 by_cases hb : b = x
 ·subst hb; rw [ac] at q; cases q; exact new
 ·rw [af hb] at q
  by_cases hbe : b = e
  ·have q' : H b = some (.own x) := by
    rcases he with z | z
    ·exact absurd (hbe.trans z) hb
    ·rw [hbe]; exact z
   rw [q] at q'; cases q'
   obtain ⟨v,hv⟩ := heo
   exact ⟨v,by rw [hbe]; exact hv⟩
  ·refine (ok b u q).stay (fun c v hc r => k c v ?_ r) (fun c r => by rw [af (nown c b r)]; exact r) fun c xs r => by rw [af (ntup c xs r)]; exact r
   rcases hc with rfl | hc
   ·exact hbe
   ·rintro rfl
    rcases he with z | z
    ·exact nown c b hc z
    ·rw [hc] at z; cases z; exact hb rfl
end
structure Un (fs ex : List Addr) (H H' : Hp) (h h' : Heap) : Prop where
 keep : ∀ b o,h.get? b = some o -> H b = none -> b ∉ fs -> b ∉ ex -> h'.get? b = some o
 slot : ∀ b o,h.get? b = some o -> H b = none -> b ∈ fs -> b ∉ ex -> ∃ sl,h'.get? b = some { o with slots := sl }
 free : ∀ b o,h.get? b = some o -> H b = none -> b ∉ ex -> H' b = none
 there : ∀ b o,h.get? b = some o -> b ∉ ex -> ∃ o',h'.get? b = some o'
 tups : ∀ b xs,H b = some (.tup xs) -> H' b = some (.tup xs)
 frzs : ∀ b o u,H b = some (.frz o u) -> H' b = some (.frz o u)
 tbls : ∀ b ps,H b = some (.tbl ps) -> ∃ more,H' b = some (.tbl (ps ++ more))
section
variable {fs fs' ex ex' : List Addr} {H H1 H2 : Hp} {h h1 h2 h' : Heap} {a x e : Addr} {o : HO}
theorem Un.any (u : Un fs ex H H1 h h1) {b : Addr} {ob : Obj} (q : h.get? b = some ob) (n : H b = none) (hx : b ∉ ex) : ∃ sl,h1.get? b = some { ob with slots := sl } := by
 by_cases hb : b ∈ fs
 ·exact u.slot b ob q n hb hx
 ·exact ⟨ob.slots,u.keep b ob q n hb hx⟩
theorem Un.trans (a : Un fs ex H H1 h h1) (b : Un fs ex H1 H2 h1 h2) : Un fs ex H H2 h h2 where
 keep := fun c ob q n hc hx => b.keep c ob (a.keep c ob q n hc hx) (a.free c ob q n hx) hc hx
 slot := fun c ob q n hc hx => by
  obtain ⟨sl,e1⟩ := a.slot c ob q n hc hx
  obtain ⟨sl',e2⟩ := b.slot c _ e1 (a.free c ob q n hx) hc hx
  exact ⟨sl',e2⟩
 free := fun c ob q n hx => by
  obtain ⟨o',e1⟩ := a.there c ob q hx
  exact b.free c o' e1 (a.free c ob q n hx) hx
 there := fun c ob q hx => by
  obtain ⟨o',e1⟩ := a.there c ob q hx
  exact b.there c o' e1 hx
 tups := fun c xs q => b.tups c xs (a.tups c xs q)
 frzs := fun c ob xs q => b.frzs c ob xs (a.frzs c ob xs q)
 tbls := fun c ps q => by
  obtain ⟨m1,e1⟩ := a.tbls c ps q
  obtain ⟨m2,e2⟩ := b.tbls c _ e1
  exact ⟨m1 ++ m2,by rw [e2,Array.append_assoc]⟩
theorem Un.kept (k : ∀ b u,h.get? b = some u -> h'.get? b = some u) : Un fs ex H H h h' :=
 ⟨fun b ob q _ _ _ => k b ob q,fun b ob q _ _ _ => ⟨ob.slots,k b ob q⟩,fun _ _ _ n _ => n,fun b ob q _ => ⟨ob,k b ob q⟩,fun _ _ q => q,fun _ _ _ q => q,fun _ ps q => ⟨#[],by rw [q]; simp⟩⟩
theorem Un.refl : Un fs ex H H h h := Un.kept fun _ _ q => q
theorem Un.laid (k : ∀ b u,h.get? b = some u -> h'.get? b = some u) (hp : h.objs.size <= a) (hn : H a = none) : Un fs ex H (aq H a o) h h' where
 keep := fun b u q _ _ _ => k b u q
 slot := fun b u q _ _ _ => ⟨u.slots,k b u q⟩
 free := fun b u q n _ => by rw [af (AH (AQ (Heap.lt_size q) hp))]; exact n
 there := fun b u q _ => ⟨u,k b u q⟩
 tups := fun b xs q => by rw [af (aQ q hn)]; exact q
 frzs := fun b u xs q => by rw [af (aQ q hn)]; exact q
 tbls := fun b ps q => ⟨#[],by rw [af (aQ q hn),q]; simp⟩
theorem Un.write (mu : uC (H x)) (he : e = x ∨ H e = some (.own x)) (k : ∀ b u,b ≠ e -> h.get? b = some u -> h'.get? b = some u) (heo : ∃ u,h'.get? e = some u) : Un fs ex H (aq H x o) h h' := by
 have hx : ∀ b,H b = none -> b ≠ x := fun b n z => by subst z; rw [n] at mu; exact mu
 have hb : ∀ b,H b = none -> b ≠ e := fun b n z => by
  subst z
  rcases he with r | r
  ·exact hx b n r
  ·rw [n] at r; cases r
 have hm : ∀ b u,H b = some u -> ¬ uC (some u) -> b ≠ x := fun b u q nm z => by subst z; rw [q] at mu; exact nm mu
 refine ⟨fun b u q n _ _ => k b u (hb b n) q,fun b u q n _ _ => ⟨u.slots,k b u (hb b n) q⟩,fun b u q n _ => by rw [af (hx b n)]; exact n,fun b u q _ => ?_,
  fun b xs q => by rw [af (hm b _ q fun z => z)]; exact q,fun b u xs q => by rw [af (hm b _ q fun z => z)]; exact q,fun b ps q => ⟨#[],by rw [af (hm b _ q fun z => z),q]; simp⟩⟩
 by_cases hbe : b = e
 ·subst hbe; exact heo
 ·exact ⟨u,k b u hbe q⟩
end
def wq (h : Heap) (H : Hp) : List Addr := (List.range h.objs.size).filter fun a => (H a).isSome
def je (h : Heap) (H : Hp) : Heap := PySem.W.hideAll h (wq h H)
theorem nB (h : Heap) (H : Hp) : (je h H).objs.size = h.objs.size := PySem.W.hideAll_size _ _
theorem oK {h : Heap} {H : Hp} {b : Addr} {o : Obj} (e : h.get? b = some o) (n : H b = none) : (je h H).get? b = some o :=
 PySem.W.hideAll_get _ e fun hm => by
  have q : (H b).isSome = true := (B3.mp hm).2
  rw [n] at q; simp at q
theorem qx {h : Heap} {H : Hp} {b : Addr} {o : Obj} (e : (je h H).get? b = some o) : h.get? b = some o /\ H b = none := by
 have e' : h.get? b = some o := PySem.W.of_hideAll (wq h H) e
 refine ⟨e',?_⟩
 cases q : H b with
 | none => rfl
 | some x =>
  have hm : b ∈ wq h H := B3.mpr ⟨List.mem_range.mpr (Heap.lt_size e'),by simp [q]⟩
  have z : (je h H).get? b = none := PySem.W.hideAll_none (wq h H) hm
  rw [z] at e; cases e
structure Mod (K : A0) (mg : Str -> Option Value) (base : Heap) : Prop where
 kin : K.In base
 glob : base.Ns mainGlobals mg
 blt : ∃ mb,base.Ns builtinsNs mb /\ ∀ x : Str,x ≠ "__name__" -> mb x = bootBuiltins x
 nolimit : base.NoLimit
structure Cx where
 prog : Program
 w : World
 K : A0
 mg : Str -> Option Value
 base : Heap
 A : Around
 N : List Str
 s₀ : Shared
 H₀ : Hp
 env : Env
 outer : List Env
 stack : List Env
 ex : List Addr
 fn : Str -> Bool
 calm : Bool
 pn : List (Addr × Obj)
 xe : Value -> Shared -> Prop
def fX (l : List Env) : List Addr := l.filterMap (·.frame)
abbrev Cx.fs (X : Cx) : List Addr := fX X.outer
def wu (sc : Scope) (x : Str) : Prop := sc.names.lookup x = some .local ∨ sc.names.lookup x = some .cell ∨ sc.names.lookup x = some .free
def Loc (sc : Scope) (x : Str) : Prop := sc.names.lookup x = some .local ∨ sc.names.lookup x = some .cell
def Look (env : Env) (h : Heap) (m : Str -> Option Value) (x : Str) (u : Value) : Prop :=
 (env.kindOf x = some .local /\ m x = some u) ∨ ((env.kindOf x = some .cell ∨ env.kindOf x = some .free) /\ ∃ c,env.cells.lookup x = some c /\ h.IsCell c (some u))
structure Cx.Ok (X : Cx) : Prop where
 mod : Mod X.K X.mg X.base
 kind : X.env.scope.kind = .function
 glob : X.env.globals = mainGlobals
 blt : X.env.builtins = builtinsNs
 above : X.s₀.heap.objs.size <= X.env.locals
 inj : ∀ x y c,X.env.cells.lookup x = some c -> X.env.cells.lookup y = some c -> x = y
 has : ∀ x,(X.env.kindOf x = some .cell ∨ X.env.kindOf x = some .free) -> ∃ c,X.env.cells.lookup x = some c
 cab : ∀ x c,X.fn x = true -> X.env.cells.lookup x = some c -> X.s₀.heap.objs.size <= c
 hd : X.calm = true -> X.A.handled = none
 frames : X.A.frames = some X.stack
 stk : X.stack = X.outer ∨ (X.stack = X.env :: X.outer /\ X.env.frame = some X.env.locals)
 exf : ∀ b ∈ X.ex,b ≠ X.env.locals /\ ∀ x c,X.env.cells.lookup x = some c -> c ≠ b
 bs : ∀ b o,X.base.get? b = some o -> X.s₀.heap.get? b = some o /\ X.H₀ b = none
 bsz : X.base.objs.size <= X.s₀.heap.objs.size
 noex : ∀ b o,X.base.get? b = some o -> b ∉ X.ex
 exfs : ∀ b ∈ X.ex,b ∉ X.fs
 funs : X.s₀.heap.FunFrames X.base X.outer
 frf : ∀ b ∈ X.fs,X.H₀ b = none
structure au (X : Cx) (pins : List (Addr × Obj)) (σ : List (Option V)) (H : Hp) (s : Shared) : Prop where
 ok : X.Ok
 os : s.os = X.s₀.os
 bare : AllBare s.gens
 base : Un X.fs X.ex X.H₀ H X.s₀.heap s.heap
 loc : ∃ m,s.heap.Ns X.env.locals m /\ ∀ (i : Nat) (x : Str) (v : V),X.N[i]? = some x -> σ[i]? = some (some v) -> wu X.env.scope x -> ∃ u,RelV v u /\ Look X.env s.heap m x u
 cell : ∀ x c,X.env.cells.lookup x = some c -> ∃ v,s.heap.IsCell c v
 free : H X.env.locals = none
 freeC : ∀ x c,X.env.cells.lookup x = some c -> H c = none
 pin : ∀ p ∈ X.pn ++ pins,s.heap.get? p.1 = some p.2 /\ H p.1 = none /\ p.1 ≠ X.env.locals /\ p.1 ∉ X.fs /\ ∀ v,p.2.data ≠ .cell v
 hok : dy X.prog X.w H s.heap
 len : σ.length = X.N.length
section
variable {X : Cx} {pins : List (Addr × Obj)} {σ : List (Option V)} {H H' : Hp} {s : Shared} {h' : Heap}
theorem Cx.Ok.nofr (ok : X.Ok) {b : Addr} {o : Obj} (e : X.base.get? b = some o) : b ∉ X.fs := fun hb => by
 have := (ok.funs.mem hb).1
 rw [e] at this; cases this
theorem au.bs (I : au X pins σ H s) : ∀ b o,X.base.get? b = some o -> s.heap.get? b = some o /\ H b = none := fun b o e =>
 ⟨I.base.keep b o (I.ok.bs b o e).1 (I.ok.bs b o e).2 (I.ok.nofr e) (I.ok.noex b o e),I.base.free b o (I.ok.bs b o e).1 (I.ok.bs b o e).2 (I.ok.noex b o e)⟩
theorem au.bk (I : au X pins σ H s) : ∀ b o,X.base.get? b = some o -> s.heap.get? b = some o := fun b o e => (I.bs b o e).1
theorem au.mod (I : au X pins σ H s) : Mod X.K X.mg X.base := I.ok.mod
theorem au.kIn (I : au X pins σ H s) : X.K.In s.heap := I.ok.mod.kin.keeps I.bk
theorem au.lt (I : au X pins σ H s) : X.env.locals < s.heap.objs.size := let ⟨_,hn,_⟩ := I.loc; hn.lt
theorem au.sz (I : au X pins σ H s) : X.s₀.heap.objs.size <= s.heap.objs.size := AT I.ok.above (Nat.le_of_lt I.lt)
theorem au.nofs (I : au X pins σ H s) {a : Addr} (h : s.heap.objs.size <= a) : a ∉ X.fs := fun hb => by
 obtain ⟨_,o,ho,_⟩ := I.ok.funs.mem hb
 exact absurd (AQ (Heap.lt_size ho) (AT I.sz h)) (Nat.lt_irrefl _)
theorem au.cne (I : au X pins σ H s) : ∀ x c,X.env.cells.lookup x = some c -> c ≠ X.env.locals := fun x c e z => by
 obtain ⟨v,o,ho,hd⟩ := I.cell x c e
 obtain ⟨m,⟨o',es,ep,ho',hd',_⟩,_⟩ := I.loc
 rw [z,ho'] at ho; cases ho; rw [hd'] at hd; cases hd
theorem au.funs (I : au X pins σ H s) : s.heap.FunFrames X.base X.outer := by
 have all : ∀ (l : List Env),(∀ b ∈ fX l,b ∈ X.fs) -> X.s₀.heap.FunFrames X.base l -> s.heap.FunFrames X.base l := by
  intro l
  induction l with
  | nil => intro _ _; trivial
  | cons env r ih =>
   intro hs hl
   obtain ⟨hk,⟨L,o,hf,hn,ho,hd⟩,hr⟩ := hl
   have hL : L ∈ X.fs := hs L (by unfold fX; rw [BM,hf]; exact Aw)
   obtain ⟨sl,e⟩ := I.base.slot L o ho (I.ok.frf L hL) hL fun z => I.ok.exfs L z hL
   exact ⟨hk,⟨L,_,hf,hn,e,hd⟩,ih (fun b hb => hs b (by unfold fX; rw [BM,hf]; exact AR _ hb)) hr⟩
 exact all X.outer (fun _ hb => hb) I.ok.funs
theorem au.stack (I : au X pins σ H s) : s.heap.FunFrames X.base X.stack := by
 rcases I.ok.stk with e | ⟨e,hf⟩
 ·rw [e]; exact I.funs
 ·rw [e]
  obtain ⟨m,hn,_⟩ := I.loc
  refine .cons (by rw [I.ok.kind]; decide) hf hn ?_ I.funs
  exact Heap.get?_none_of_le (AT I.ok.bsz I.ok.above)
theorem au.stkSub (I : au X pins σ H s) : ∀ b ∈ fX X.stack,b ∈ X.env.locals :: X.fs := fun b hb => by
 rcases I.ok.stk with e | ⟨e,hf⟩
 ·rw [e] at hb; exact AR _ hb
 ·rw [e] at hb
  unfold fX at hb
  rw [BM,hf] at hb
  exact hb
theorem au.stkFree (I : au X pins σ H s) : ∀ b ∈ fX X.stack,H b = none := fun b hb => by
 rcases A8.mp (I.stkSub b hb) with e | hb
 ·rw [e]; exact I.free
 ·obtain ⟨_,o,ho,_⟩ := I.ok.funs.mem hb
  exact I.base.free b o ho (I.ok.frf b hb) fun z => I.ok.exfs b z hb
theorem au.step {g' : Array GenState} {t' : Nat} {d' : Drawn} {ch : List Addr} (I : au X pins σ H s)
  (hch : ∀ b ∈ ch,(b ∈ X.ex ∨ X.s₀.heap.objs.size <= b) /\ b ≠ X.env.locals /\ (∀ x c,X.env.cells.lookup x = some c -> c ≠ b) /\ ∀ p ∈ X.pn ++ pins,p.1 ≠ b)
  (keep : ∀ b o,b ≠ X.env.locals -> b ∉ X.fs -> b ∉ ch -> s.heap.get? b = some o -> H b = none -> h'.get? b = some o)
  (slot : ∀ b o,b ≠ X.env.locals -> b ∈ X.fs -> b ∉ ch -> s.heap.get? b = some o -> H b = none -> ∃ sl,h'.get? b = some { o with slots := sl }) (free : ∀ b o,b ∉ ch -> s.heap.get? b = some o -> H b = none -> H' b = none)
  (there : ∀ b o,b ∉ ch -> s.heap.get? b = some o -> ∃ o',h'.get? b = some o')
  (tups : ∀ b xs,H b = some (.tup xs) -> H' b = some (.tup xs)) (frzs : ∀ b o u,H b = some (.frz o u) -> H' b = some (.frz o u)) (tbls : ∀ b ps,H b = some (.tbl ps) -> ∃ more,H' b = some (.tbl (ps ++ more)))
  (ns : ∀ m,s.heap.Ns X.env.locals m -> h'.Ns X.env.locals m) (hok : dy X.prog X.w H' h') (hg : AllBare g') :
  au X pins σ H' { s with heap := h',gens := g',drawn := d',toks := t' } := by
 have neL : ∀ b o,X.s₀.heap.get? b = some o -> b ≠ X.env.locals := fun b o e => AH (AQ (Heap.lt_size e) I.ok.above)
 have neC : ∀ b o,X.s₀.heap.get? b = some o -> b ∉ X.ex -> b ∉ ch := fun b o e hx hb => by
  rcases (hch b hb).1 with z | z
  ·exact hx z
  ·exact absurd (AQ (Heap.lt_size e) z) (Nat.lt_irrefl _)
 have cellK : ∀ x c,X.env.cells.lookup x = some c -> ∀ v,s.heap.IsCell c v -> h'.IsCell c v := fun x c e v ⟨o,ho,hd⟩ => by
  have nch : c ∉ ch := fun z => (hch c z).2.2.1 x c e rfl
  by_cases hc : c ∈ X.fs
  ·obtain ⟨sl,q⟩ := slot c o (I.cne x c e) hc nch ho (I.freeC x c e)
   exact ⟨_,q,hd⟩
  ·exact ⟨o,keep c o (I.cne x c e) hc nch ho (I.freeC x c e),hd⟩
 refine ⟨I.ok,I.os,hg,⟨fun b o e n hb hx => ?_,fun b o e n hb hx => ?_,fun b o e n hx => ?_,fun b o e hx => ?_,fun b xs e => tups b xs (I.base.tups b xs e),fun b o xs e => frzs b o xs (I.base.frzs b o xs e),fun b ps e => ?_⟩,?_,fun x c e => ?_,?_,fun x c e => ?_,fun p hp => ?_,hok,I.len⟩
 ·exact keep b o (neL b o e) hb (neC b o e hx) (I.base.keep b o e n hb hx) (I.base.free b o e n hx)
 ·obtain ⟨sl,e1⟩ := I.base.slot b o e n hb hx
  obtain ⟨sl',e2⟩ := slot b _ (neL b o e) hb (neC b o e hx) e1 (I.base.free b o e n hx)
  exact ⟨sl',e2⟩
 ·obtain ⟨o',e1⟩ := I.base.there b o e hx
  exact free b o' (neC b o e hx) e1 (I.base.free b o e n hx)
 ·obtain ⟨o',e1⟩ := I.base.there b o e hx
  exact there b o' (neC b o e hx) e1
 ·obtain ⟨m1,e1⟩ := I.base.tbls b ps e
  obtain ⟨m2,e2⟩ := tbls b _ e1
  exact ⟨m1 ++ m2,by rw [e2,Array.append_assoc]⟩
 ·obtain ⟨m,hn,hl⟩ := I.loc
  refine ⟨m,ns m hn,fun i x v e1 e2 e3 => ?_⟩
  obtain ⟨u,r,l⟩ := hl i x v e1 e2 e3
  refine ⟨u,r,?_⟩
  rcases l with l | ⟨k,c,e,z⟩
  ·exact .inl l
  ·exact .inr ⟨k,c,e,cellK x c e _ z⟩
 ·obtain ⟨v,z⟩ := I.cell x c e
  exact ⟨v,cellK x c e v z⟩
 ·obtain ⟨m,⟨o,_,_,ho,_⟩,_⟩ := I.loc
  exact free _ o (fun z => (hch _ z).2.1 rfl) ho I.free
 ·obtain ⟨v,o,ho,hd⟩ := I.cell x c e
  exact free c o (fun z => (hch c z).2.2.1 x c e rfl) ho (I.freeC x c e)
 ·obtain ⟨e,n,ne,nf,d⟩ := I.pin p hp
  have nch : p.1 ∉ ch := fun z => (hch p.1 z).2.2.2 p hp rfl
  exact ⟨keep p.1 p.2 ne nf nch e n,free p.1 p.2 nch e n,ne,nf,d⟩
theorem au.un {t' : Nat} (I : au X pins σ H s) (u : Un X.fs [] H H' s.heap h') (hok : dy X.prog X.w H' h') : au X pins σ H' { s with heap := h',toks := t' } := by
 obtain ⟨m,⟨o,es,ep,ho,r⟩,_⟩ := id I.loc
 obtain ⟨sl,hL⟩ := u.any ho I.free (by simp)
 exact I.step (g' := s.gens) (d' := s.drawn) (ch := []) (fun _ z => nomatch z) (fun b o _ hb _ e n => u.keep b o e n hb (by simp)) (fun b o _ hb _ e n => u.slot b o e n hb (by simp)) (fun b o _ e n => u.free b o e n (by simp)) (fun b o _ e => u.there b o e (by simp)) u.tups u.frzs u.tbls (fun m' hm => by
  obtain ⟨o',es',ep',ho',r'⟩ := hm
  rw [ho] at ho'; cases ho'
  exact ⟨_,es',ep',hL,r'⟩) hok I.bare
theorem au.call {g' : Array GenState} {t' : Nat} {d' : Drawn} {ch : List Addr} (I : au X pins σ H s) (u : Un (fX X.stack) ch H H' s.heap h') (hok : dy X.prog X.w H' h') (hg : AllBare g')
  (hch : ∀ b ∈ ch,(b ∈ X.ex ∨ X.s₀.heap.objs.size <= b) /\ b ≠ X.env.locals /\ (∀ x c,X.env.cells.lookup x = some c -> c ≠ b) /\ ∀ p ∈ X.pn ++ pins,p.1 ≠ b) :
  au X pins σ H' { s with heap := h',gens := g',drawn := d',toks := t' } := by
 obtain ⟨m,⟨o,es,ep,ho,r⟩,_⟩ := id I.loc
 obtain ⟨sl,hL⟩ := u.any ho I.free fun z => (hch _ z).2.1 rfl
 exact I.step (ch := ch) hch (fun b o hL hb hc e n => u.keep b o e n (fun z => (A8.mp (I.stkSub b z)).elim hL hb) hc) (fun b o _ _ hc e n => u.any e n hc) (fun b o hc e n => u.free b o e n hc) (fun b o hc e => u.there b o e hc) u.tups u.frzs u.tbls (fun m' hm => by
  obtain ⟨o',es',ep',ho',r'⟩ := hm
  rw [ho] at ho'; cases ho'
  exact ⟨_,es',ep',hL,r'⟩) hok hg
theorem au.turned {t' : Nat} {it : Addr} (I : au X pins σ H s) (k : ∀ b o,b ≠ it -> s.heap.get? b = some o -> h'.get? b = some o) (hn : H it = none) (hL : it ≠ X.env.locals)
  (h1 : it ∈ X.ex ∨ X.s₀.heap.objs.size <= it) (h2 : ∀ x c,X.env.cells.lookup x = some c -> c ≠ it) (h3 : ∀ p ∈ X.pn ++ pins,p.1 ≠ it) : au X pins σ H { s with heap := h',toks := t' } := by
 have nit : ∀ b u,H b = some u -> b ≠ it := fun b u e z => by rw [z,hn] at e; cases e
 refine I.step (g' := s.gens) (d' := s.drawn) (ch := [it]) (fun b hb => ?_) (fun b o _ _ hc e _ => k b o (fun z => hc (by simp [z])) e) (fun b o _ _ hc e _ => ⟨o.slots,k b o (fun z => hc (by simp [z])) e⟩) (fun _ _ _ _ n => n)
  (fun b o hc e => ⟨o,k b o (fun z => hc (by simp [z])) e⟩) (fun _ _ e => e) (fun _ _ _ e => e) (fun b ps e => ⟨#[],by rw [e]; simp⟩) (fun m hm => ?_) (fun b u e => ?_) I.bare
 ·have e : b = it := by simpa using hb
  subst e
  exact ⟨h1,hL,h2,h3⟩
 ·obtain ⟨o,es,ep,ho,r⟩ := hm
  exact ⟨o,es,ep,k _ o (Ne.symm hL) ho,r⟩
 ·refine (I.hok b u e).stay (fun c v hc q => k c v ?_ q) (fun _ q => q) fun _ _ q => q
  rcases hc with z | z
  ·rw [z]; exact nit b u e
  ·exact nit c _ z
theorem au.tok (I : au X pins σ H s) (t : Nat) : au X pins σ H { s with toks := t } := I.un (h' := s.heap) (t' := t) Un.refl I.hok
theorem au.kept {t' : Nat} (I : au X pins σ H s) (k : ∀ b u,s.heap.get? b = some u -> h'.get? b = some u) : au X pins σ H { s with heap := h',toks := t' } := I.un (Un.kept k) (I.hok.kept k)
theorem au.laid {a : Addr} {o : HO} {t' : Nat} (I : au X pins σ H s) (k : ∀ b u,s.heap.get? b = some u -> h'.get? b = some u) (hp : s.heap.objs.size <= a) (new : a8 X.prog X.w (aq H a o) h' a o) :
  au X pins σ (aq H a o) { s with heap := h',toks := t' } := I.un (Un.laid k hp (I.hok.fresh hp)) (I.hok.laid k hp new)
theorem au.write {x e : Addr} {o : HO} {t' : Nat} (I : au X pins σ H s) (mu : uC (H x)) (he : e = x ∨ H e = some (.own x)) (k : ∀ b u,b ≠ e -> s.heap.get? b = some u -> h'.get? b = some u) (heo : ∃ u,h'.get? e = some u)
  (new : a8 X.prog X.w (aq H x o) h' x o) : au X pins σ (aq H x o) { s with heap := h',toks := t' } := I.un (Un.write mu he k heo) (I.hok.write mu he k heo new)
theorem au.pins_of {pins' : List (Addr × Obj)} (I : au X pins σ H s) (h : ∀ p ∈ pins',s.heap.get? p.1 = some p.2 /\ H p.1 = none /\ p.1 ≠ X.env.locals /\ p.1 ∉ X.fs /\ ∀ v,p.2.data ≠ .cell v) : au X pins' σ H s :=
 ⟨I.ok,I.os,I.bare,I.base,I.loc,I.cell,I.free,I.freeC,fun p hp => (AY.mp hp).elim (fun z => I.pin p (Ao _ z)) (h p),I.hok,I.len⟩
theorem j3 {N : List Str} (hN : N.Nodup) {i j : Nat} {x : Str} (a : N[i]? = some x) (b : N[j]? = some x) : i = j := by
 obtain ⟨h1,e1⟩ := A1.mp a
 obtain ⟨h2,e2⟩ := A1.mp b
 exact (List.getElem_inj hN).mp (e1.trans e2.symm)
theorem iD {M : Model} {A : Around} {E : Value -> Shared -> Prop} {i : Nat} {x : Str} {v : V} {u : Value} {Q : Unit -> Shared -> Prop} (I : au X pins σ H s) (hN : X.N.Nodup) (hi : X.N[i]? = some x) (hx : Loc X.env.scope x) (r : RelV v u)
  (h : ∀ s',au X pins (σ.set i (some v)) H s' -> (∃ a,Heap.SameBut a s.heap s'.heap /\ (a = X.env.locals ∨ X.env.cells.lookup x = some a)) -> Q () s') (hf : X.fn x = true ∨ X.env.scope.names.lookup x = some .local := by first | exact .inl rfl | exact .inr rfl | assumption) : wpAny M A (storeName X.env x u) Q E s := by
 obtain ⟨m,hn,hl⟩ := id I.loc
 have hcls : (X.env.scope.kind == .class || (X.env.scope.kind == .module && X.env.locals != X.env.globals)) = false := by rw [I.ok.kind]; rfl
 have hiσ : i < σ.length := by rw [I.len]; exact (A1.mp hi).1
 have cne := I.cne
 have tracked : ∀ {a : Addr} {h' : Heap},(∃ o,s.heap.get? a = some o /\ H a = none) -> Heap.SameBut a s.heap h' -> dy X.prog X.w H h' := fun {a h'} ha hs b ob e => by
  obtain ⟨_,_,hfree⟩ := ha
  refine (I.hok b ob e).stay (fun c w' hc q => (hs.2 c ?_).trans q) (fun _ q => q) fun _ _ q => q
  rintro rfl
  rcases hc with rfl | hc
  ·rw [hfree] at e; cases e
  ·rw [hfree] at hc; cases hc
 rcases hx with hk | hk
 ·refine wpAny_storeName_local hk hn (fun h' hn' hs => ?_) hcls
  obtain ⟨oL,_,_,hoL,_⟩ := id hn
  refine h _ ⟨I.ok,I.os,I.bare,⟨fun b o e n hb hx => ?_,fun b o e n hb hx => ?_,I.base.free,fun b o e hx => ?_,I.base.tups,I.base.frzs,I.base.tbls⟩,⟨_,hn',fun j y v' e1 e2 e3 => ?_⟩,fun y c e => ?_,I.free,I.freeC,fun p hp => ?_,tracked ⟨oL,hoL,I.free⟩ hs,by simpa using I.len⟩ ⟨_,hs,.inl rfl⟩
  ·exact (hs.2 b (AH (AQ (Heap.lt_size e) I.ok.above))).trans (I.base.keep b o e n hb hx)
  ·obtain ⟨sl,e1⟩ := I.base.slot b o e n hb hx
   exact ⟨sl,(hs.2 b (AH (AQ (Heap.lt_size e) I.ok.above))).trans e1⟩
  ·obtain ⟨o',e1⟩ := I.base.there b o e hx
   exact ⟨o',(hs.2 b (AH (AQ (Heap.lt_size e) I.ok.above))).trans e1⟩
  ·by_cases hj : j = i
   ·subst hj
    rw [hi] at e1; cases e1
    rw [List.getElem?_set_self hiσ] at e2
    cases e2
    exact ⟨u,r,.inl ⟨hk,by simp⟩⟩
   ·rw [List.getElem?_set_ne (Ne.symm hj)] at e2
    obtain ⟨u',r',q⟩ := hl j y v' e1 e2 e3
    refine ⟨u',r',?_⟩
    rcases q with ⟨k,e⟩ | ⟨k,c,e,z⟩
    ·refine .inl ⟨k,?_⟩
     have : y ≠ x := fun e => hj (j3 hN e1 (e ▸ hi))
     simp [this,e]
    ·exact .inr ⟨k,c,e,z.sameBut hs (cne y c e)⟩
  ·obtain ⟨w',z⟩ := I.cell y c e
   exact ⟨w',z.sameBut hs (cne y c e)⟩
  ·obtain ⟨e,n,ne,nf,d⟩ := I.pin p hp
   exact ⟨(hs.2 p.1 ne).trans e,n,ne,nf,d⟩
 ·have hfn : X.fn x = true := by
   rcases hf with z | z
   ·exact z
   ·rw [z] at hk; cases hk
  obtain ⟨c,hc⟩ := I.ok.has x (.inl hk)
  obtain ⟨w',z⟩ := I.cell x c hc
  refine wpAny_storeName_cell I.ok.kind hk hc z (fun h' hc' hs => ?_)
  obtain ⟨oc,hoc,hocd⟩ := id z
  refine h { s with heap := h' } ⟨I.ok,I.os,I.bare,⟨fun b o e n hb hx => ?_,fun b o e n hb hx => ?_,I.base.free,fun b o e hx => ?_,I.base.tups,I.base.frzs,I.base.tbls⟩,⟨m,hn.sameBut hs (Ne.symm (cne x c hc)),fun j y v' e1 e2 e3 => ?_⟩,fun y c' e => ?_,I.free,I.freeC,fun p hp => ?_,tracked ⟨oc,hoc,I.freeC x c hc⟩ hs,by simpa using I.len⟩ ⟨c,hs,.inr hc⟩
  ·exact (hs.2 b (AH (AQ (Heap.lt_size e) (I.ok.cab x c hfn hc)))).trans (I.base.keep b o e n hb hx)
  ·obtain ⟨sl,e1⟩ := I.base.slot b o e n hb hx
   exact ⟨sl,(hs.2 b (AH (AQ (Heap.lt_size e) (I.ok.cab x c hfn hc)))).trans e1⟩
  ·obtain ⟨o',e1⟩ := I.base.there b o e hx
   exact ⟨o',(hs.2 b (AH (AQ (Heap.lt_size e) (I.ok.cab x c hfn hc)))).trans e1⟩
  ·by_cases hj : j = i
   ·subst hj
    rw [hi] at e1; cases e1
    rw [List.getElem?_set_self hiσ] at e2
    cases e2
    exact ⟨u,r,.inr ⟨.inl hk,c,hc,hc'⟩⟩
   ·rw [List.getElem?_set_ne (Ne.symm hj)] at e2
    obtain ⟨u',r',q⟩ := hl j y v' e1 e2 e3
    refine ⟨u',r',?_⟩
    rcases q with q | ⟨k,c',e,z'⟩
    ·exact .inl q
    ·refine .inr ⟨k,c',e,z'.sameBut hs ?_⟩
     rintro rfl
     exact hj (j3 hN e1 (I.ok.inj _ _ _ e hc ▸ hi))
  ·by_cases hcc : c' = c
   ·subst hcc; exact ⟨_,hc'⟩
   ·obtain ⟨w2,z2⟩ := I.cell y c' e
    exact ⟨w2,z2.sameBut hs hcc⟩
  ·obtain ⟨e,n,ne,nf,d⟩ := I.pin p hp
   refine ⟨(hs.2 p.1 ?_).trans e,n,ne,nf,d⟩
   intro q
   rw [q,hoc] at e
   have q' : oc = p.2 := AZ e
   exact d w' (by rw [<- q']; exact hocd)
theorem d5 {M : Model} {A : Around} {E : Value -> Shared -> Prop} {i : Nat} {x : Str} {v : V} {u : Value} {Q : Unit -> Shared -> Prop} (I : au X pins σ H s) (hN : X.N.Nodup) (hi : X.N[i]? = some x) (hx : Loc X.env.scope x) (r : RelV v u)
  (h : ∀ s',au X pins (σ.set i (some v)) H s' -> Q () s') (hf : X.fn x = true ∨ X.env.scope.names.lookup x = some .local := by first | exact .inl rfl | exact .inr rfl | assumption) : wpAny M A (storeName X.env x u) Q E s :=
 iD I hN hi hx r (fun s' I' _ => h s' I') hf
theorem au.call' {s' : Shared} {ch : List Addr} (I : au X pins σ H s) (ho : s'.os = s.os) (u : Un (fX X.stack) ch H H' s.heap s'.heap) (hok : dy X.prog X.w H' s'.heap) (hg : AllBare s'.gens)
  (hch : ∀ b ∈ ch,(b ∈ X.ex ∨ X.s₀.heap.objs.size <= b) /\ b ≠ X.env.locals /\ (∀ x c,X.env.cells.lookup x = some c -> c ≠ b) /\ ∀ p ∈ X.pn ++ pins,p.1 ≠ b) : au X pins σ H' s' := by
 obtain ⟨h',g',d',t',o'⟩ := s'
 have e : o' = s.os := ho
 subst e
 exact I.call (g' := g') (t' := t') (d' := d') u hok hg hch
end
abbrev XK := Value -> Option Addr -> Hp -> Prop
abbrev St := List (Option V)
abbrev VK := V -> Hp -> Prop
abbrev TE := St -> Hp -> VK -> Prop
abbrev TT := St -> Hp -> (Bool -> Hp -> Prop) -> Prop
abbrev TA := St -> Hp -> (List V -> Hp -> Prop) -> Prop
structure Ends where
 nx : St -> Hp -> Prop
 rt : VK
 bk : St -> Hp -> Prop := fun _ _ => False
 ct : St -> Hp -> Prop := fun _ _ => False
abbrev TS := Ends -> St -> Hp -> Prop
def EP (X : Cx) (pins : List (Addr × Obj)) (σ : St) (Q : VK) (u : Value) (s' : Shared) : Prop := ∃ v H',au X pins σ H' s' /\ RelV v u /\ Q v H'
def TP (X : Cx) (pins : List (Addr × Obj)) (σ : St) (Q : Bool -> Hp -> Prop) (b : Bool) (s' : Shared) : Prop := ∃ H',au X pins σ H' s' /\ Q b H'
def AP (X : Cx) (pins : List (Addr × Obj)) (σ : St) (Q : List V -> Hp -> Prop) (us : List Value) (s' : Shared) : Prop := ∃ vs H',au X pins σ H' s' /\ aR vs us /\ Q vs H'
def SP (X : Cx) (pins : List (Addr × Obj)) (D : Ends) (f : Flow) (s' : Shared) : Prop :=
 match f with
 | .next => ∃ σ' H',au X pins σ' H' s' /\ D.nx σ' H'
 | .brk => ∃ σ' H',au X pins σ' H' s' /\ D.bk σ' H'
 | .cont => ∃ σ' H',au X pins σ' H' s' /\ D.ct σ' H'
 | .ret u => ∃ v σ' H',au X pins σ' H' s' /\ RelV v u /\ D.rt v H'
def PE (X : Cx) (e : Expr) (t : TE) : Prop :=
 ∀ (pins : List (Addr × Obj)) (s : Shared) (σ : St) (H : Hp) (Q : VK),au X pins σ H s -> t σ H Q -> wpAny (model X.prog X.w) X.A (eval e X.env) (EP X pins σ Q) X.xe s
def PT (X : Cx) (e : Expr) (t : TT) : Prop :=
 ∀ (pins : List (Addr × Obj)) (s : Shared) (σ : St) (H : Hp) (Q : Bool -> Hp -> Prop),au X pins σ H s -> t σ H Q -> wpAny (model X.prog X.w) X.A (isTrue e X.env (eval e X.env)) (TP X pins σ Q) X.xe s
def PW (X : Cx) (e : Expr) (t : TT) : Prop :=
 ∀ (whole : Sem Value) (pins : List (Addr × Obj)) (s : Shared) (σ : St) (H : Hp) (Q : Bool -> Hp -> Prop),au X pins σ H s -> t σ H Q -> wpAny (model X.prog X.w) X.A (isTrue e X.env whole) (TP X pins σ Q) X.xe s
theorem PW.pt {X : Cx} {e : Expr} {t : TT} (h : PW X e t) : PT X e t := h _
def PA (X : Cx) (es : List Expr) (t : TA) : Prop :=
 ∀ (pos : Pos) (pins : List (Addr × Obj)) (s : Shared) (σ : St) (H : Hp) (Q : List V -> Hp -> Prop),au X pins σ H s -> t σ H Q -> wpAny (model X.prog X.w) X.A (spliced (backTo pos (starEach es X.env))) (AP X pins σ Q) X.xe s
def PS (X : Cx) (st : Stmt) (t : TS) : Prop :=
 ∀ (pins : List (Addr × Obj)) (s : Shared) (σ : St) (H : Hp) (D : Ends),au X pins σ H s -> t D σ H -> wpAny (model X.prog X.w) X.A (exec st X.env) (SP X pins D) X.xe s
def iE (X : Cx) (st : List Stmt) (t : TS) : Prop :=
 ∀ (pins : List (Addr × Obj)) (s : Shared) (σ : St) (H : Hp) (D : Ends),au X pins σ H s -> t D σ H -> wpAny (model X.prog X.w) X.A (execs st X.env) (SP X pins D) X.xe s
theorem bv {α : Type} {t : Sem α} {Q Q' : α -> Shared -> Prop} {M : Model} {A : Around} {E : Value -> Shared -> Prop} {s : Shared} (h : wpAny M A t Q E s) (hQ : ∀ a s,Q a s -> Q' a s) : wpAny M A t Q' E s := wpAny_mono h hQ fun _ _ x => x
section
variable {X : Cx}
def qy (i : Nat) : TE := fun σ H Q => ∃ v,σ[i]? = some (some v) /\ Q v H
def tC (v : V) : TE := fun _ H Q => Q v H
theorem tD {i : Nat} {x : Str} {pos : Pos} (hN : X.N[i]? = some x) (hv : wu X.env.scope x) (hd : (x == ("__debug__" : Str)) = false := by decide) (hcd : (x == ("__classdict__" : Str)) = false := by decide) : PE X (.Name x pos) (qy i) := by
 intro pins s σ H Q I h
 obtain ⟨v,e,h⟩ := h
 obtain ⟨m,hn,hl⟩ := I.loc
 obtain ⟨u,r,l⟩ := hl i x v hN e hv
 have fin : EP X pins σ Q u s := ⟨v,H,I,r,h⟩
 rcases l with ⟨hk,hm⟩ | ⟨hk,c,hc,hcell⟩
 ·exact wpAny_Name (wpAny_loadName_local I.ok.kind hk hn hm fin) hd
 ·rcases hk with hk | hk
  ·exact wpAny_Name (wpAny_loadName_cell I.ok.kind hk hc hcell fin) hd
  ·exact wpAny_Name (wpAny_loadName_free I.ok.kind hk hc hcell fin hcd) hd
theorem am {i j pos} : PE X (.Constant (.int i) j pos) (tC (.int i)) := fun _ _ _ H _ I h => wpAny_Constant_int ⟨.int i,H,I.tok _,⟨_,rfl⟩,h⟩
theorem bD {b j pos} : PE X (.Constant (.bool b) j pos) (tC (.bl b)) := fun _ _ _ H _ I h => Constant_bool ⟨.bl b,H,I,rfl,h⟩
theorem bR {j pos} : PE X (.Constant .none j pos) (tC .non) := fun _ _ _ H _ I h => Constant_none ⟨.non,H,I,rfl,h⟩
theorem cJ {x j pos} : PE X (.Constant (.str x) j pos) (tC (.str x)) := fun _ _ _ H _ I h => Calls.Constant_str ⟨.str x,H,I.tok _,⟨_,rfl⟩,h⟩
def Gl (X : Cx) (x : Str) : Prop := X.env.kindOf x = some .globalImplicit
theorem dM {E : Value -> Shared -> Prop} {pins : List (Addr × Obj)} {s : Shared} {σ : St} {H : Hp} {x : Str} {u : Value} {pos : Pos} {Q : Value -> Shared -> Prop} (I : au X pins σ H s) (hg : Gl X x) (hm : X.mg x = some u) (h : Q u s)
  (hd : (x == ("__debug__" : Str)) = false := by decide) : wpAny (model X.prog X.w) X.A (eval (.Name x pos) X.env) Q E s :=
 Calls.Name_function_global I.ok.kind hg (Calls.loadGlobal_global (by rw [I.ok.glob]; exact I.mod.glob.keeps I.bk) hm h) hd
theorem fL {E : Value -> Shared -> Prop} {pins : List (Addr × Obj)} {s : Shared} {σ : St} {H : Hp} {x : Str} {u : Value} {pos : Pos} {Q : Value -> Shared -> Prop} (I : au X pins σ H s) (hg : Gl X x) (hm : X.mg x = none) (hv : bootBuiltins x = some u) (h : Q u s)
  (hn : x ≠ "__name__" := by decide) (hd : (x == ("__debug__" : Str)) = false := by decide) : wpAny (model X.prog X.w) X.A (eval (.Name x pos) X.env) Q E s := by
 obtain ⟨mb,h1,h2⟩ := I.mod.blt
 exact Calls.Name_function_global I.ok.kind hg (Calls.loadGlobal_builtin (by rw [I.ok.glob]; exact I.mod.glob.keeps I.bk) hm (by rw [I.ok.blt]; exact h1.keeps I.bk) ((h2 x hn).trans hv) h) hd
theorem mt {x : Str} {v : V} {u : Value} {pos : Pos} (hg : Gl X x) (hm : X.mg x = some u) (r : RelV v u) (hd : (x == ("__debug__" : Str)) = false := by decide) : PE X (.Name x pos) (tC v) :=
 fun _ _ _ H _ I h => dM I hg hm ⟨v,H,I,r,h⟩ hd
theorem cM {x : Str} {v : V} {u : Value} {pos : Pos} (hg : Gl X x) (hm : X.mg x = none) (hv : bootBuiltins x = some u) (r : RelV v u) (hn : x ≠ "__name__" := by decide) (hd : (x == ("__debug__" : Str)) = false := by decide) : PE X (.Name x pos) (tC v) :=
 fun _ _ _ H _ I h => fL I hg hm hv ⟨v,H,I,r,h⟩ hn hd
variable {a b : Expr} {ta tb : TE} {pos : Pos}
def PC (X : Cx) (op : CmpOp) (a b : Expr) (t : TE) : Prop :=
 ∀ (pins : List (Addr × Obj)) (s : Shared) (σ : St) (H : Hp) (Q : VK),au X pins σ H s -> t σ H Q ->
  wpAny (model X.prog X.w) X.A (eval a X.env) (fun v s₁ => wpAny (model X.prog X.w) X.A (eval b X.env) (fun u s₂ => wpAny (model X.prog X.w) X.A (compareOp op v u) (EP X pins σ Q) X.xe s₂) X.xe s₁) X.xe s
def tB (t : TE) : TT := fun σ H Q => t σ H fun x H1 => ∃ c,x = .bl c /\ Q c H1
theorem oM {op : CmpOp} {t : TE} (h : PC X op a b t) (h1 : behindInMarks op b = false := by first | exact nobehind _ (by decide) (by decide) | rfl) : PE X (.Compare a [op] [b] pos) t := fun pins s σ H Q I hw => wpAny_Compare1 (h pins s σ H Q I hw) h1
theorem dN {op : CmpOp} {t : TE} (h : PC X op a b t) (h1 : behindInMarks op b = false := by first | exact nobehind _ (by decide) (by decide) | rfl) : PT X (.Compare a [op] [b] pos) (tB t) := by
 intro pins s σ H Q I hw
 refine wpAny_isTrue_Compare1 (bv (h pins s σ H _ I hw) fun v s1 h1 => bv h1 fun u s2 h2 => bv h2 fun c s3 ⟨x,H1,I1,r1,q1⟩ => ?_) h1
 obtain ⟨d,rfl,q⟩ := q1
 cases r1
 exact wpAny_truthy_bool ⟨H1,I1,q⟩
theorem bZ {e : Expr} {t : TE} (h : PE X e t) (he : ∀ whole,isTrue e X.env whole = (do let v <- whole; standAt e.pos; holding [v] (truthy v)) := by intro _; rfl) : PT X e (tB t) := by
 intro pins s σ H Q I hw
 refine isTrue_plain (bv (h pins s σ H _ I hw) fun v s1 ⟨x,H1,I1,r1,q1⟩ => ?_) (he _)
 obtain ⟨d,rfl,q⟩ := q1
 cases r1
 exact wpAny_truthy_bool ⟨H1,I1,q⟩
variable {tA tB' : TT} {rest : List Expr}
def wO (t u : TT) : TT := fun σ H Q => t σ H fun c H1 => if c = true then u σ H1 Q else Q false H1
def yf (t u : TT) : TT := fun σ H Q => t σ H fun c H1 => if c = true then Q true H1 else u σ H1 Q
def wP (t : TT) : TT := fun σ H Q => t σ H fun c H1 => Q (!c) H1
theorem mw (ha : PT X a tA) : PW X (.BoolOp .And [a] pos) tA := by
 intro wh pins s σ H Q I h
 refine isTrue_and (bv (ha pins s σ H Q I h) fun c s1 e => ?_)
 cases c with
 | true => exact isTrue_and_nil e
 | false => exact e
theorem dq (ha : PT X a tA) : PW X (.BoolOp .Or [a] pos) tA := by
 intro wh pins s σ H Q I h
 refine isTrue_or (bv (ha pins s σ H Q I h) fun c s1 e => ?_)
 cases c with
 | false => exact isTrue_or_nil e
 | true => exact e
theorem oN (ha : PT X a tA) (hb : PW X (.BoolOp .And (b :: rest) pos) tB') : PW X (.BoolOp .And (a :: b :: rest) pos) (wO tA tB') := by
 intro wh pins s σ H Q I h
 refine isTrue_and (bv (ha pins s σ H _ I h) fun c s1 ⟨H1,I1,q1⟩ => ?_)
 cases c with
 | true => exact hb wh pins s1 σ H1 Q I1 q1
 | false => exact ⟨H1,I1,q1⟩
theorem cU (ha : PT X a tA) (hb : PW X (.BoolOp .Or (b :: rest) pos) tB') : PW X (.BoolOp .Or (a :: b :: rest) pos) (yf tA tB') := by
 intro wh pins s σ H Q I h
 refine isTrue_or (bv (ha pins s σ H _ I h) fun c s1 ⟨H1,I1,q1⟩ => ?_)
 cases c with
 | true => exact ⟨H1,I1,q1⟩
 | false => exact hb wh pins s1 σ H1 Q I1 q1
theorem b7 (ha : PT X a tA) : PT X (.UnaryOp .Not a pos) (wP tA) := by
 intro pins s σ H Q I h
 exact isTrue_not (ha pins s σ H (fun c H1 => Q (!c) H1) I h)
def uD (ta tb : TE) : TE := fun σ H Q => ta σ H fun x H1 => ∃ c,x = .bl c /\ if c = true then tb σ H1 Q else Q (.bl false) H1
def wQ (ta tb : TE) : TE := fun σ H Q => ta σ H fun x H1 => ∃ c,x = .bl c /\ if c = true then Q (.bl true) H1 else tb σ H1 Q
def uE (ta : TE) : TE := fun σ H Q => ta σ H fun x H1 => ∃ c,x = .bl c /\ Q (.bl (!c)) H1
theorem jf {op} {t : TE} (h : PE X a t) : PE X (.BoolOp op [a] pos) t := fun pins s σ H Q I hw => BoolOp_one (h pins s σ H Q I hw)
theorem kZ (ha : PE X a ta) (hb : PE X (.BoolOp .And (b :: rest) pos) tb) : PE X (.BoolOp .And (a :: b :: rest) pos) (uD ta tb) := by
 intro pins s σ H Q I h
 refine BoolOp_and (bv (ha pins s σ H _ I h) fun v s1 ⟨x,H1,I1,r1,q1⟩ => ?_)
 obtain ⟨c,rfl,q1⟩ := q1
 cases r1
 refine wpAny_truthy_bool ?_
 cases c with
 | true => exact hb pins s1 σ H1 Q I1 q1
 | false => exact ⟨.bl false,H1,I1,rfl,q1⟩
theorem uF (ha : PE X a ta) (hb : PE X (.BoolOp .Or (b :: rest) pos) tb) : PE X (.BoolOp .Or (a :: b :: rest) pos) (wQ ta tb) := by
 intro pins s σ H Q I h
 refine BoolOp_or (bv (ha pins s σ H _ I h) fun v s1 ⟨x,H1,I1,r1,q1⟩ => ?_)
 obtain ⟨c,rfl,q1⟩ := q1
 cases r1
 refine wpAny_truthy_bool ?_
 cases c with
 | false => exact hb pins s1 σ H1 Q I1 q1
 | true => exact ⟨.bl true,H1,I1,rfl,q1⟩
theorem oO (ha : PE X a ta) : PE X (.UnaryOp .Not a pos) (uE ta) := by
 intro pins s σ H Q I h
 refine UnaryOp_ (bv (ha pins s σ H _ I h) fun v s1 ⟨x,H1,I1,r1,q1⟩ => ?_)
 obtain ⟨c,rfl,q1⟩ := q1
 cases r1
 exact not_of (wpAny_truthy_bool ⟨.bl (!c),H1,I1,rfl,q1⟩)
end
def bc (K : A0) (H : Hp) (a : Addr) (xs : List V) : Prop :=
 Rd H a (.lst xs) ∨
  ∃ (o : Obj) (its : Array Value) (n : Nat),K.lookup a = some o /\ o.cls = .type "list" /\ o.dict = none /\ o.data = .seq its n /\ its.size <= sizeLine /\ aR xs its.toList
def cQ (K : A0) (H : Hp) (a : Addr) (xs : List V) : Prop :=
 Rd H a (.tup xs) ∨
  ∃ (o : Obj) (its : Array Value) (n : Nat),K.lookup a = some o /\ o.cls = .type "tuple" /\ o.data = .seq its n /\ its.size <= sizeLine /\ aR xs its.toList
def wR : Value -> Option V
 | .none => some .non
 | .bool b => some (.bl b)
 | .int i _ => some (.int i)
 | .str x _ => some (.str x)
 | .bytes b _ => some (.byt b)
 | .float b _ => some (.flt b)
 | .ref a => some (.ref a)
 | .type n => some (.ty n)
 | _ => none
theorem RelV.abs {x : V} {u : Value} (r : RelV x u) : wR u = some x := by
 cases x with
 | non => cases r; rfl
 | bl _ => cases r; rfl
 | int _ => obtain ⟨t,rfl⟩ := r; rfl
 | str _ => obtain ⟨t,rfl⟩ := r; rfl
 | byt _ => obtain ⟨t,rfl⟩ := r; rfl
 | flt _ => obtain ⟨t,rfl⟩ := r; rfl
 | ref _ => cases r; rfl
 | ty _ => cases r; rfl
theorem RelV.inj {x y : V} {u : Value} (r : RelV x u) (q : RelV y u) : x = y := AZ (r.abs.symm.trans q.abs)
theorem aR.inj : ∀ {xs ys : List V} {us : List Value},aR xs us -> aR ys us -> xs = ys
 | _,_,_,.nil,.nil => rfl
 | _,_,_,.cons r t,.cons r' t' => by rw [r.inj r',aR.inj t t']
section
variable {X : Cx} {pins : List (Addr × Obj)} {σ : St} {H : Hp} {s : Shared} {a : Addr} {xs ys : List V}
theorem bc.of {K : A0} (h : H a = some (.lst xs)) : bc K H a xs := .inl (.inl h)
theorem cQ.of {K : A0} (h : H a = some (.tup xs)) : cQ K H a xs := .inl (.inl h)
theorem au.list (I : au X pins σ H s) (h : bc X.K H a xs) : ∃ its : List Value,aR xs its /\ PlainL s.heap a its.toArray /\ xs.length <= sizeLine := by
 rcases h with h | ⟨o,its,n,hk,hc,hd,hs,hz,r⟩
 ·obtain ⟨z,its,n,r,e⟩ := h.ok I.hok
  exact ⟨its,r,⟨_,n,e,rfl,rfl,rfl⟩,z⟩
 ·refine ⟨its.toList,r,⟨o,n,I.kIn a o hk,hc,hd,by simpa using hs⟩,?_⟩
  have e := r.length
  simp only [Ar] at e
  omega
theorem au.tuple (I : au X pins σ H s) (h : cQ X.K H a xs) : ∃ its : List Value,aR xs its /\ IsTup s.heap a its.toArray /\ xs.length <= sizeLine := by
 rcases h with h | ⟨o,its,n,hk,hc,hs,hz,r⟩
 ·obtain ⟨z,its,r,p⟩ := h.ok I.hok
  exact ⟨its,r,p,z⟩
 ·refine ⟨its.toList,r,⟨o,I.kIn a o hk,hc,n,by simpa using hs⟩,?_⟩
  have e := r.length
  simp only [Ar] at e
  omega
theorem au.list_inj (I : au X pins σ H s) (h : bc X.K H a xs) (h' : bc X.K H a ys) : xs = ys := by
 obtain ⟨its,r,⟨o,n,e,_,_,d⟩,_⟩ := I.list h
 obtain ⟨its',r',⟨o',n',e',_,_,d'⟩,_⟩ := I.list h'
 rw [e] at e'; cases e'
 rw [d] at d'
 injection d' with d1 _
 have : its = its' := by simpa using congrArg Array.toList d1
 subst this
 exact r.inj r'
end
abbrev Cx.wish (X : Cx) (E : Value -> Shared -> Prop) : Cx := { X with xe := E }
abbrev Cx.nox (X : Cx) : Cx := X.wish fun _ _ => False
theorem Cx.Ok.wish {X : Cx} (ok : X.Ok) (E : Value -> Shared -> Prop) : (X.wish E).Ok :=
 ⟨ok.mod,ok.kind,ok.glob,ok.blt,ok.above,ok.inj,ok.has,ok.cab,ok.hd,ok.frames,ok.stk,ok.exf,ok.bs,ok.bsz,ok.noex,ok.exfs,ok.funs,ok.frf⟩
theorem Cx.Ok.unwish {X : Cx} {E : Value -> Shared -> Prop} (ok : (X.wish E).Ok) : X.Ok :=
 ⟨ok.mod,ok.kind,ok.glob,ok.blt,ok.above,ok.inj,ok.has,ok.cab,ok.hd,ok.frames,ok.stk,ok.exf,ok.bs,ok.bsz,ok.noex,ok.exfs,ok.funs,ok.frf⟩
section
variable {X : Cx} {pins : List (Addr × Obj)} {σ : St} {H : Hp} {s : Shared} {E : Value -> Shared -> Prop}
theorem au.wish (I : au X pins σ H s) (E : Value -> Shared -> Prop) : au (X.wish E) pins σ H s := ⟨I.ok.wish E,I.os,I.bare,I.base,I.loc,I.cell,I.free,I.freeC,I.pin,I.hok,I.len⟩
theorem au.unwish (I : au (X.wish E) pins σ H s) : au X pins σ H s := ⟨I.ok.unwish,I.os,I.bare,I.base,I.loc,I.cell,I.free,I.freeC,I.pin,I.hok,I.len⟩
theorem SP.unwish {D : Ends} {f : Flow} {s' : Shared} (h : SP (X.wish E) pins D f s') : SP X pins D f s' := by
 cases f with
 | next => obtain ⟨σ',H',I,q⟩ := h; exact ⟨σ',H',I.unwish,q⟩
 | brk => obtain ⟨σ',H',I,q⟩ := h; exact ⟨σ',H',I.unwish,q⟩
 | cont => obtain ⟨σ',H',I,q⟩ := h; exact ⟨σ',H',I.unwish,q⟩
 | ret u => obtain ⟨v,σ',H',I,r,q⟩ := h; exact ⟨v,σ',H',I.unwish,r,q⟩
theorem iE.nox {st : List Stmt} {t : TS} (h : iE X.nox st t) : iE X st t := fun pins s σ H D I hw =>
 wpAny_mono (h pins s σ H D (I.wish _) hw) (fun _ _ q => q.unwish) fun _ _ z => False.elim z
end
section
variable {X : Cx} {st : Stmt} {rest : List Stmt} {t u : TS} {e : Expr} {te : TE} {pos : Pos}
def bx : TS := fun D σ H => D.nx σ H
def uG (t u : TS) : TS := fun D σ H => t { D with nx := u D } σ H
theorem aH : iE X [] bx := fun _ _ σ H _ I h => wpAny_execs_nil ⟨σ,H,I,h⟩
theorem ae (h1 : PS X st t) (h2 : iE X rest u) : iE X (st :: rest) (uG t u) := by
 intro pins s σ H D I h
 refine wpAny_execs_cons (bv (h1 pins s σ H { D with nx := u D } I h) fun f s1 q => ?_)
 cases f with
 | next =>
  obtain ⟨σ',H',I',q⟩ := q
  exact h2 pins s1 σ' H' D I' q
 | ret v => exact q
 | brk => exact q
 | cont => exact q
theorem aj (h1 : PS X st t) : iE X [st] t := by
 intro pins s σ H D I h
 refine wpAny_execs_cons (bv (h1 pins s σ H D I h) fun f s1 q => ?_)
 cases f with
 | next => exact wpAny_execs_nil q
 | ret v => exact q
 | brk => exact q
 | cont => exact q
theorem au.quiet {pins : List (Addr × Obj)} {σ : St} {H : Hp} {s : Shared} (I : au X pins σ H s) : interactive X.env = false := by simp [interactive,I.ok.kind]
def uH (te : TE) : TS := fun D σ H => te σ H fun _ H1 => D.nx σ H1
theorem aS (he : PE X e te) (hs : swapsWith e none pos.line X.env = pure false := by rfl) : PS X (.Expr e pos) (uH te) := by
 intro pins s σ H D I h
 exact wpAny_Expr_any (bv (he pins s σ H _ I h) fun v s1 ⟨x,H1,I1,r1,q1⟩ => ⟨σ,H1,I1,q1⟩) I.quiet hs
def wS (te : TE) : TS := fun D σ H => te σ H D.rt
theorem aC (he : PE X e te) : PS X (.Return (some e) pos) (wS te) := by
 intro pins s σ H D I h
 exact wpAny_Return_some (bv (he pins s σ H _ I h) fun v s1 ⟨x,H1,I1,r1,q1⟩ => ⟨x,σ,H1,I1,r1,q1⟩)
def wT (c : TT) (t u : TS) : TS := fun D σ H => c σ H fun b H1 => if b = true then t D σ H1 else u D σ H1
theorem aU {c : Expr} {a b : List Stmt} {tc : TT} (hc : PT X c tc) (ha : iE X a t) (hb : iE X b u) : PS X (.If c a b pos) (wT tc t u) := by
 intro pins s σ H D I h
 refine wpAny_If (bv (hc pins s σ H _ I h) fun d s1 ⟨H1,I1,q1⟩ => ?_)
 cases d with
 | true => exact ha pins s1 σ H1 D I1 q1
 | false => exact hb pins s1 σ H1 D I1 q1
def tE : TS := fun _ _ _ => False
theorem oP : PS X st tE := fun _ _ _ _ _ _ h => h.elim
end
abbrev TG := V -> St -> Hp -> (St -> Hp -> Prop) -> Prop
abbrev tF := List V -> St -> Hp -> (St -> Hp -> Prop) -> Prop
def PG (X : Cx) (target : Expr) (t : TG) : Prop :=
 ∀ (pins : List (Addr × Obj)) (s : Shared) (σ : St) (H : Hp) (v : V) (u : Value) (Q : St -> Hp -> Prop),au X pins σ H s -> RelV v u -> t v σ H Q ->
  wpAny (model X.prog X.w) X.A (assign target X.env u) (fun _ s' => ∃ σ' H',au X pins σ' H' s' /\ Q σ' H') X.xe s
def wv (X : Cx) (ts : List Expr) (t : tF) : Prop :=
 ∀ (pins : List (Addr × Obj)) (s : Shared) (σ : St) (H : Hp) (vs : List V) (us : List Value) (Q : St -> Hp -> Prop),au X pins σ H s -> aR vs us -> t vs σ H Q ->
  wpAny (model X.prog X.w) X.A (assignInOrder ((assignEach ts X.env).map (·.2)) us) (fun _ s' => ∃ σ' H',au X pins σ' H' s' /\ Q σ' H') X.xe s
abbrev wx := V -> V -> Hp -> VK -> Prop
def x9 (X : Cx) (op : Operator) (t : wx) : Prop :=
 ∀ (pins : List (Addr × Obj)) (s : Shared) (σ : St) (H : Hp) (x y : V) (v u : Value) (Q : VK),au X pins σ H s -> RelV x v -> RelV y u -> t x y H Q ->
  wpAny (model X.prog X.w) X.A (inplaceOp op v u) (EP X pins σ Q) X.xe s
section
variable {X : Cx} {pos : Pos}
def bu (i : Nat) : TG := fun v σ H Q => Q (σ.set i (some v)) H
theorem bz {i : Nat} {x : Str} (hN : X.N.Nodup) (hi : X.N[i]? = some x) (hx : Loc X.env.scope x) (hf : X.fn x = true ∨ X.env.scope.names.lookup x = some .local := by first | exact .inl rfl | exact .inr rfl | assumption) : PG X (.Name x pos) (bu i) := by
 intro pins s σ H v u Q I r h
 exact wpAny_assign_Name (d5 I hN hi hx r (fun s' I' => ⟨_,H,I',h⟩) hf)
def wU : tF := fun vs σ H Q => vs = [] /\ Q σ H
def uI (t : TG) (u : tF) : tF := fun vs σ H Q => ∃ v r,vs = v :: r /\ t v σ H fun σ' H' => u r σ' H' Q
theorem mx : wv X [] wU := by
 intro pins s σ H vs us Q I r h
 obtain ⟨e,h⟩ := h
 subst e
 cases r
 exact assignInOrder_nil ⟨σ,H,I,h⟩
theorem eY {e : Expr} {es : List Expr} {t : TG} {u : tF} (h1 : PG X e t) (h2 : wv X es u)
  (hs : (assignEach (e :: es) X.env).map (·.2) = assign e X.env :: (assignEach es X.env).map (·.2) := by rfl) : wv X (e :: es) (uI t u) := by
 intro pins s σ H vs us Q I r h
 obtain ⟨v,vr,e1,h⟩ := h
 subst e1
 cases r with
 | cons r rr =>
  rw [hs]
  refine assignInOrder_cons (bv (h1 pins s σ H _ _ _ I r h) fun _ s1 ⟨σ1,H1,I1,q1⟩ => ?_)
  exact h2 pins s1 σ1 H1 _ _ Q I1 rr q1
def wV (K : A0) (n : Nat) (t : tF) : TG := fun v σ H Q => ∃ a xs,v = .ref a /\ cQ K H a xs /\ xs.length = n /\ t xs σ H Q
theorem oQ {es : List Expr} {k : Nat} {t : tF} {n : Nat} (hc : X.calm = true) (h : wv X es t)
  (hn : (assignEach es X.env).length = n := by rfl) (hst : (assignEach es X.env).findIdx? (·.1) = none := by rfl) : PG X (.Tuple es k pos) (wV X.K n t) := by
 intro pins s σ H v u Q I r hw
 obtain ⟨a,xs,e1,hq,hl,hw⟩ := hw
 subst e1
 cases r
 obtain ⟨its,rv,ht,hz⟩ := I.tuple hq
 refine assign_Tuple_tuple (I.ok.hd hc) ht (by simp [hn,<- hl,rv.length]) hst fun h' hx => ?_
 have I1 : au X pins σ H { s with heap := h' } := I.kept (t' := s.toks) fun b o e => hx b o (AH (Heap.lt_size e)) e
 exact h pins _ σ H xs _ Q I1 (by simpa using rv) hw
def uJ (te : TE) (g : TG) : TS := fun D σ H => te σ H fun x H1 => g x σ H1 D.nx
theorem ar {i : Nat} {x : Str} {e : Expr} {te : TE} {pos' : Pos} (hN : X.N.Nodup) (hi : X.N[i]? = some x) (hx : Loc X.env.scope x) (he : PE X e te) (hs : swapsWith e (some (.Name x pos')) pos.line X.env = pure false := by rfl) (hf : X.fn x = true ∨ X.env.scope.names.lookup x = some .local := by first | exact .inl rfl | exact .inr rfl | assumption) :
  PS X (.Assign [.Name x pos'] e pos) (uJ te (bu i)) := by
 intro pins s σ H D I h
 refine wpAny_Assign_Name (bv (he pins s σ H _ I h) fun v s1 ⟨y,H1,I1,r1,q1⟩ => ?_) hs
 exact d5 I1 hN hi hx r1 (fun s2 I2 => ⟨_,H1,I2,q1⟩) hf
def wW (i j : Nat) (ta : TA) : TS := fun D σ H => ta σ H fun vs H1 => ∃ v w,vs = [v,w] /\ D.nx ((σ.set i (some v)).set j (some w)) H1
theorem tG {i j : Nat} {x y : Str} {a b : Expr} {ta : TA} {px py pt : Pos} {kt k2 pt2} (hc : X.calm = true) (hN : X.N.Nodup) (hi : X.N[i]? = some x) (hj : X.N[j]? = some y) (hij : i ≠ j)
  (hx : X.env.scope.names.lookup x = some .local) (hy : X.env.scope.names.lookup y = some .local) (ha : PA X [a,b] ta)
  (hw : swappedStores [.Tuple [.Name x px,.Name y py] kt pt] (.Tuple [a,b] k2 pt2) X.env = pure (some [x,y]))
  (hs : swapsWithSole [.Tuple [.Name x px,.Name y py] kt pt] (.Tuple [a,b] k2 pt2) pos.line X.env = pure false := by rfl) :
  PS X (.Assign [.Tuple [.Name x px,.Name y py] kt pt] (.Tuple [a,b] k2 pt2) pos) (wW i j ta) := by
 intro pins s σ H D I h
 rw [exec_Assign_arm]
 refine wpAny_bind (wpAny_standAt ?_)
 rw [hs]
 refine wpAny_bind (wpAny_pure ?_)
 rw [if_neg (by decide)]
 refine wpAny_bind (Tuple_ (bv (ha _ pins s σ H _ I h) fun us s1 ⟨vs,H1,I1,r1,q1⟩ => ?_))
 obtain ⟨v,w,e1,q1⟩ := q1
 subst e1
 obtain ⟨u1,u2,rfl,rv,rw'⟩ : ∃ u1 u2,us = [u1,u2] /\ RelV v u1 /\ RelV w u2 := by
  cases r1 with
  | cons p q =>
   cases q with
   | cons p' q' =>
    cases q'
    exact ⟨_,_,rfl,p,p'⟩
 refine wpAny_newObj_type ?_ (by show 2 <= sizeLine; decide)
 have I2 : au X pins σ H1 { s1 with heap := s1.heap.push { cls := .type "tuple",data := .seq [u1,u2].toArray } } := I1.kept (t' := s1.toks) fun b o e => Heap.get?_push_of_some _ e
 rw [hw]
 refine wpAny_bind (wpAny_pure ?_)
 show wpAny (model X.prog X.w) X.A (do rule "assign.swapped-stores"; let items <- unpackItems (.ref s1.heap.objs.size) 2 none; assignInOrder [fun v => bindName X.env y v,fun v => bindName X.env x v] items.reverse; pure Flow.next) _ _ _
 refine wpAny_bind (wpAny_rule (wpAny_bind (unpackItems_tuple (items := #[u1,u2]) (I.ok.hd hc) (IsTup.new s1.heap _) fun h' hx' => ?_)))
 have I3 := I2.kept (h' := h') (t' := s1.toks) fun b o e => hx' b o (AH (Heap.lt_size e)) e
 show wpAny _ _ (assignInOrder [fun v => bindName X.env y v,fun v => bindName X.env x v] [u2,u1] >>= fun _ => pure Flow.next) _ _ _
 refine wpAny_bind (assignInOrder_cons (wpAny_bindName (d5 I3 hN hj (.inl hy) rw' (fun s2 I4 => ?_) (.inr hy))))
 refine assignInOrder_cons (wpAny_bindName (d5 I4 hN hi (.inl hx) rv (fun s3 I5 => assignInOrder_nil (wpAny_pure ?_)) (.inr hx)))
 rw [List.set_comm _ _ (Ne.symm hij)] at I5
 exact ⟨_,H1,I5,q1⟩
def wX (i : Nat) (te : TE) (ti : wx) : TS := fun D σ H => ∃ x,σ[i]? = some (some x) /\ te σ H fun y H1 => ti x y H1 fun z H2 => D.nx (σ.set i (some z)) H2
theorem tH {i : Nat} {x : Str} {e : Expr} {te : TE} {op : Operator} {ti : wx} {pos' : Pos} (hN : X.N.Nodup) (hi : X.N[i]? = some x) (hx : Loc X.env.scope x) (he : PE X e te) (ho : x9 X op ti) (hf : X.fn x = true ∨ X.env.scope.names.lookup x = some .local := by first | exact .inl rfl | exact .inr rfl | assumption) :
  PS X (.AugAssign (.Name x pos') op e pos) (wX i te ti) := by
 intro pins s σ H D I h
 obtain ⟨v,e1,h⟩ := h
 obtain ⟨m,hn,hl⟩ := I.loc
 have vis : wu X.env.scope x := by rcases hx with k | k; exact .inl k; exact .inr (.inl k)
 obtain ⟨u,r,l⟩ := hl i x v hi e1 vis
 refine wpAny_AugAssign_Name ?_
 have go : wpAny (model X.prog X.w) X.A (eval e X.env) (fun w s₂ => wpAny (model X.prog X.w) X.A (inplaceOp op u w) (fun r s₃ => wpAny (model X.prog X.w) X.A (storeName X.env x r) (fun _ => SP X pins D .next) X.xe s₃) X.xe s₂) X.xe s := by
  refine bv (he pins s σ H _ I h) fun w s1 ⟨y,H1,I1,r1,q1⟩ => ?_
  refine bv (ho pins s1 σ H1 v y u w _ I1 r r1 q1) fun z s2 ⟨zv,H2,I2,r2,q2⟩ => ?_
  exact d5 I2 hN hi hx r2 (fun s3 I3 => ⟨_,H2,I3,q2⟩) hf
 rcases l with ⟨hk,hm⟩ | ⟨hk,c,hc,hcell⟩
 ·exact wpAny_loadName_local I.ok.kind hk hn hm go
 ·rcases hk with hk | hk
  ·exact wpAny_loadName_cell I.ok.kind hk hc hcell go
  ·rcases hx with k | k
   ·have : X.env.scope.names.lookup x = some .free := hk
    rw [k] at this; cases this
   ·have : X.env.scope.names.lookup x = some .free := hk
    rw [k] at this; cases this
def yg (f : Int -> Int -> Int) : wx := fun x y H Q => ∃ i j,x = .int i /\ y = .int j /\ Q (.int (f i j)) H
theorem tI : x9 X .Add (yg fun i j => i + j) := by
 intro pins s σ H x y v u Q I r1 r2 h
 obtain ⟨i,j,e1,e2,q⟩ := h
 subst e1; subst e2
 obtain ⟨t,rfl⟩ := r1
 obtain ⟨t',rfl⟩ := r2
 exact iadd_int ⟨.int _,H,I.tok _,⟨_,rfl⟩,q⟩
end
section
variable {X : Cx} {pos : Pos}
def oR (c : TT) (tb : TS) : TS := fun D σ H => ∃ W : Nat -> St -> Hp -> Prop,(∃ m,W m σ H) /\ ∀ m σ H,W m σ H ->
 c σ H fun b H1 => if b = true then ∃ N : St -> Hp -> Prop,(∀ σ' H',N σ' H' -> ∃ m',m' < m /\ W m' σ' H') /\ tb { D with nx := N,ct := N,bk := D.nx } σ H1 else D.nx σ H1
theorem dz {c : Expr} {body : List Stmt} {tc : TT} {tb : TS} (hp : PassesOwn (model X.prog X.w) X.A X.env X.xe) (hc : PT X c tc) (hb : iE X body tb) : PS X (.While c body [] pos) (oR tc tb) := by
 intro pins s σ H D I h
 obtain ⟨W,⟨m0,w0⟩,turn⟩ := h
 refine wpAny_While (codeAny_whileLoop (fun n s' => ∃ σ' H',au X pins σ' H' s' /\ W n σ' H') ?_ m0 ⟨σ,H,I,w0⟩)
 rintro n s1 ⟨σ1,H1,I1,w1⟩
 refine wpAny_passesOwn hp (bv (hc pins s1 σ1 H1 _ I1 (turn n σ1 H1 w1)) fun b s2 ⟨H2,I2,q2⟩ => ?_)
 cases b with
 | true =>
  obtain ⟨N,hN,q2⟩ := q2
  rw [if_pos rfl]
  refine wpAny_passesOwn hp (bv (hb pins s2 σ1 H2 _ I2 q2) fun f s3 q3 => ?_)
  cases f with
  | next =>
   obtain ⟨σ3,H3,I3,n3⟩ := q3
   obtain ⟨m',hm,w3⟩ := hN σ3 H3 n3
   exact ⟨m',hm,σ3,H3,I3,w3⟩
  | cont =>
   obtain ⟨σ3,H3,I3,n3⟩ := q3
   obtain ⟨m',hm,w3⟩ := hN σ3 H3 n3
   exact ⟨m',hm,σ3,H3,I3,w3⟩
  | brk => exact q3
  | ret v => exact q3
 | false =>
  rw [if_neg AC]
  exact wpAny_execs_nil ⟨σ1,H2,I2,q2⟩
end
structure It where
 go : Nat -> Hp -> Prop
 yld : Nat -> Hp -> V -> Hp -> Prop
 stop : Nat -> Hp -> Prop
def gh (X : Cx) (pins : List (Addr × Obj)) (H : Hp) (b : Addr) : Prop :=
 H b = none /\ b ≠ X.env.locals /\ b ∉ X.fs /\ (b ∈ X.ex ∨ X.s₀.heap.objs.size <= b) /\ (∀ x c,X.env.cells.lookup x = some c -> c ≠ b) /\ ∀ p ∈ X.pn ++ pins,p.1 ≠ b
theorem au.fpOk {X : Cx} {pins : List (Addr × Obj)} {σ : St} {H H' : Hp} {s : Shared} {b : Addr} (I : au X pins σ H s) (hb : s.heap.objs.size <= b) (hn : H' b = none) : gh X pins H' b := by
 refine ⟨hn,Nat.ne_of_gt (AQ I.lt hb),I.nofs hb,.inr (AT I.sz hb),fun x c e z => ?_,fun p hp z => ?_⟩
 ·obtain ⟨v,q⟩ := I.cell x c e
  exact absurd (AQ q.lt (by rw [z]; exact hb)) (Nat.lt_irrefl _)
 ·exact absurd (AQ (Heap.lt_size (I.pin p hp).1) (by rw [z]; exact hb)) (Nat.lt_irrefl _)
structure Turn (P : Program) (w : World) (K : A0) (tg : Expr) (J : It) (fp : List Addr) (it : Addr) (tn : Nat -> Heap -> Prop) : Prop where
 mem : it ∈ fp
 obj : ∀ i h,tn i h -> ∀ b ∈ fp,∃ o,h.get? b = some o /\ ∀ v,o.data ≠ .cell v
 keep : ∀ i h h',tn i h -> (∀ b ∈ fp,∀ o,h.get? b = some o -> h'.get? b = some o) -> tn i h'
 item : ∀ (X : Cx),X.prog = P -> X.w = w -> X.K = K -> X.calm = true -> ∀ (i : Nat) (pins : List (Addr × Obj)) (s : Shared) (σ : St) (H : Hp) (E : Value -> Shared -> Prop),au X pins σ H s -> (∀ b ∈ fp,gh X pins H b) -> tn i s.heap -> J.go i H ->
  wpAny (model P w) X.A (pyNext (.ref it)) (fun r s1 => ∃ u,r = some u /\
   wpAny (model P w) X.A (letOwnedTupleGo tg (.ref it) u) (fun _ s2 => ∃ x H',au X pins σ H' s2 /\ RelV x u /\ J.yld i H x H' /\ tn (i + 1) s2.heap /\ ∀ b ∈ fp,H' b = none) E s1) E s
 done : ∀ (X : Cx),X.prog = P -> X.w = w -> X.K = K -> X.calm = true -> ∀ (i : Nat) (pins : List (Addr × Obj)) (s : Shared) (σ : St) (H : Hp) (E : Value -> Shared -> Prop),au X pins σ H s -> (∀ b ∈ fp,gh X pins H b) -> tn i s.heap -> J.stop i H ->
  wpAny (model P w) X.A (pyNext (.ref it)) (fun r s1 => r = none /\ au X pins σ H s1) E s
 self : ∀ (A : Around) (i : Nat) (s : Shared) (Q : Value -> Shared -> Prop) (E : Value -> Shared -> Prop),tn i s.heap -> Q (.ref it) s -> wpAny (model P w) A (pyIter (.ref it)) Q E s
abbrev TI := St -> Hp -> (It -> Hp -> Prop) -> Prop
def wY (X : Cx) (pins : List (Addr × Obj)) (σ : St) (tg : Expr) (R : It -> Hp -> Prop) (itv : Value) (s2 : Shared) : Prop :=
 ∃ (it : Addr) (fp : List Addr) (tn : Nat -> Heap -> Prop) (J : It) (H' : Hp),itv = .ref it /\ au X pins σ H' s2 /\ Turn X.prog X.w X.K tg J fp it tn /\ tn 0 s2.heap /\ (∀ b ∈ fp,gh X pins H' b) /\ R J H'
def PI (X : Cx) (tg iter : Expr) (wi : TI) : Prop :=
 ∀ (pins : List (Addr × Obj)) (s : Shared) (σ : St) (H : Hp) (R : It -> Hp -> Prop),au X pins σ H s -> wi σ H R ->
  wpAny (model X.prog X.w) X.A (eval iter X.env) (fun v s1 => wpAny (model X.prog X.w) X.A (pyIter v) (wY X pins σ tg R) X.xe s1) X.xe s
theorem j4 {M : Model} {A : Around} {E : Value -> Shared -> Prop} {s : Shared} {tg : Expr} {it : Addr} {u : Value} {o : Obj} {n : String} {vs : Array Value} {Q : Unit -> Shared -> Prop} (ho : s.heap.get? it = some o) (hc : o.cls = .type n) (hd : o.data = .fields vs)
    (hn : ["enumerate","zip","dict_itemiterator","dict_reverseitemiterator","odict_iterator","itertools.zip_longest","itertools.pairwise"].contains n = false) (hQ : Q () s) : wpAny M A (letOwnedTupleGo tg (.ref it) u) Q E s := by
  unfold letOwnedTupleGo
  cases tg <;> first
    | exact wpAny_pure hQ
    | (cases u <;> first
        | exact wpAny_pure hQ
        | (refine wpAny_bind (wpAny_load ho ?_)
           rw [hc,hd]
           show wpAny M A (if (["enumerate","zip","dict_itemiterator","dict_reverseitemiterator","odict_iterator","itertools.zip_longest","itertools.pairwise"].contains n && vs[0]? == some (rawInt _)) = true then _ else _) Q E s
           rw [if_neg (by intro h; rw [hn,Bool.false_and] at h; cases h)]
           exact wpAny_pure hQ))
def uy (K : A0) (a : Addr) : It :=
 ⟨fun i H => ∃ xs x,bc K H a xs /\ xs[i]? = some x,fun i H x H' => H' = H /\ ∀ xs,bc K H a xs -> xs[i]? = some x,fun i H => ∃ xs,bc K H a xs /\ xs.length <= i⟩
def uz (lo : Int) (n : Nat) : It := ⟨fun i _ => i < n,fun i H x H' => H' = H /\ x = .int (lo + i),fun i _ => n <= i⟩
theorem nC {P : Program} {w : World} {K : A0} {tg : Expr} (a it : Addr) : Turn P w K tg (uy K a) [it] it (fun i h => h.IsListIter it a i) where
 mem := by simp
 obj := fun i h st b hb => by
  have e : b = it := by simpa using hb
  subst e
  obtain ⟨o,e,c,d⟩ := st
  exact ⟨o,e,fun v z => by rw [d] at z; cases z⟩
 keep := fun i h h' st k => st.at fun o e => k it (by simp) o e
 item := by
  intro X hP hw hK hc i pins s σ H E I hf st hg
  subst hP hw hK
  obtain ⟨xs,x,hq,hx⟩ := hg
  obtain ⟨its,rv,p,hz⟩ := I.list hq
  obtain ⟨u,hu,ru⟩ := rv.get hx
  obtain ⟨f0,f1,f2,f3,f4,f5⟩ := hf it (by simp)
  refine wpAny_pyNext_list_item st p.isList (x := u) (by simpa using hu) fun h' st' sb => ?_
  have I1 : au X pins σ H { s with heap := h' } := I.turned (t' := s.toks) (fun b o hb e => (sb.2 b hb).trans e) f0 f1 f3 f4 f5
  obtain ⟨o,e,c,d⟩ := id st'
  exact ⟨u,rfl,j4 (s := { s with heap := h' }) e c d (by decide) ⟨x,H,I1,ru,⟨rfl,fun ys hy => by rw [I.list_inj hy hq]; exact hx⟩,st',fun b hb => (hf b hb).1⟩⟩
 done := by
  intro X hP hw hK hc i pins s σ H E I hf st hg
  subst hP hw hK
  obtain ⟨xs,hq,hx⟩ := hg
  obtain ⟨its,rv,p,hz⟩ := I.list hq
  obtain ⟨f0,f1,f2,f3,f4,f5⟩ := hf it (by simp)
  have hl := rv.length
  exact wpAny_pyNext_list_end (I.ok.hd hc) st p.isList (by simp; omega) fun h' eb => ⟨rfl,I.turned (t' := s.toks) (fun b o hb e => eb b o hb e) f0 f1 f3 f4 f5⟩
 self := fun _ _ _ _ _ st h => wpAny_pyIter_listiter st h
theorem k8 {P : Program} {w : World} {K : A0} {tg : Expr} (it : Addr) (lo : Int) (n : Nat) : Turn P w K tg (uz lo n) [it] it (fun i h => IsRangeIter h it (lo + (i : Nat) * 1) ((n : Int) - (i : Nat)) 1) where
 mem := by simp
 obj := fun i h st b hb => by
  have e : b = it := by simpa using hb
  subst e
  exact ⟨_,st,fun v z => by
   have z' : Data.fields _ = Data.cell v := z
   cases z'⟩
 keep := fun i h h' st k => k it (by simp) _ st
 item := by
  intro X hP hw hK hc i pins s σ H E I hf st hg
  subst hP hw hK
  obtain ⟨f0,f1,f2,f3,f4,f5⟩ := hf it (by simp)
  have W := Walks.range (prog := X.prog) (w := X.w) (I.ok.hd hc) it lo 1 n
  refine W.item i s _ _ hg st fun v h' tk hv st' kk => ?_
  obtain ⟨t,rfl⟩ := hv
  have I1 : au X pins σ H { s with heap := h',toks := tk } := I.turned (fun b o hb e => kk b o (by simpa using hb) e) f0 f1 f3 f4 f5
  refine ⟨_,rfl,j4 (s := { s with heap := h',toks := tk }) (n := "range_iterator") st' rfl rfl (by decide) ⟨.int (lo + i),H,I1,⟨t,?_⟩,⟨rfl,rfl⟩,st',fun b hb => (hf b hb).1⟩⟩
  rw [Int.mul_one]
 done := by
  intro X hP hw hK hc i pins s σ H E I hf st hg
  subst hP hw hK
  obtain ⟨f0,f1,f2,f3,f4,f5⟩ := hf it (by simp)
  exact wpAny_pyNext_range_end (I.ok.hd hc) st (by have : n <= i := hg; omega) fun h' eb => ⟨rfl,I.turned (t' := s.toks) (fun b o hb e => eb b o hb e) f0 f1 f3 f4 f5⟩
 self := fun _ _ _ _ _ st h => wpAny_pyIter_rangeiter st h
section
variable {X : Cx} {tg : Expr}
def uK (K : A0) (tl : TE) : TI := fun σ H R => tl σ H fun x H1 => ∃ a,x = .ref a /\ (∃ xs,bc K H1 a xs) /\ R (uy K a) H1
theorem c8 {l : Expr} {tl : TE} (hl : PE X l tl) : PI X tg l (uK X.K tl) := by
 intro pins s σ H R I h
 refine bv (hl pins s σ H _ I h) fun v s1 ⟨x,H1,I1,r1,q1⟩ => ?_
 obtain ⟨a,e,⟨xs,hq⟩,q⟩ := q1
 subst e
 cases r1
 obtain ⟨its,rv,p,hz⟩ := I1.list hq
 refine wpAny_pyIter_list p.isList ?_
 refine ⟨s1.heap.objs.size,[s1.heap.objs.size],_,_,H1,rfl,I1.kept (t' := s1.toks) fun b o e => Heap.get?_push_of_some _ e,nC a _,⟨_,Heap.get?_push_size _ rfl,rfl,rfl⟩,fun b hb => ?_,q⟩
 have e : b = s1.heap.objs.size := by simpa using hb
 subst e
 exact I1.fpOk (A4 _) (I1.hok.fresh (A4 _))
theorem oS {pins : List (Addr × Obj)} {σ : St} {H : Hp} {s : Shared} {R : It -> Hp -> Prop} {E : Value -> Shared -> Prop} {lo hi : Int} {t u v : Tok} {tk : Nat} (I : au X pins σ H s) (h1 : -(2 ^ 62) <= lo) (h2 : lo < 2 ^ 62) (h3 : -(2 ^ 62) <= hi) (h4 : hi < 2 ^ 62)
  (q : R (uz lo (hi - lo).toNat) H) : wpAny (model X.prog X.w) X.A (pyIter (.ref s.heap.objs.size)) (wY X pins σ tg R) E { s with heap := s.heap.push { cls := .type "range",data := .fields #[.int lo t,.int hi u,.int 1 v] },toks := tk } := by
 refine wpAny_pyIter_range (IsRange.new ..) (small_one h1 h2 h3 h4) ?_
 have I1 : au X pins σ H { s with heap := s.heap.push { cls := .type "range",data := .fields #[.int lo t,.int hi u,.int 1 v] },toks := tk } := I.kept fun b o e => Heap.get?_push_of_some _ e
 refine ⟨(s.heap.push { cls := .type "range",data := .fields #[.int lo t,.int hi u,.int 1 v] }).objs.size,[(s.heap.push { cls := .type "range",data := .fields #[.int lo t,.int hi u,.int 1 v] }).objs.size],_,_,H,rfl,
  I1.kept (t' := tk) fun b o e => Heap.get?_push_of_some _ e,k8 _ lo (hi - lo).toNat,?_,fun b hb => ?_,q⟩
 ·have e1 : lo + ((0 : Nat) : Int) * 1 = lo := by simp
  have e2 : (((hi - lo).toNat : Nat) : Int) - ((0 : Nat) : Int) = Builtin.Range.rangeSize lo hi 1 := by rw [rangeSize_one]; split <;> omega
  show IsRangeIter _ _ (lo + ((0 : Nat) : Int) * 1) ((((hi - lo).toNat : Nat) : Int) - ((0 : Nat) : Int)) 1
  rw [e1,e2]
  exact Heap.get?_push_size _ rfl
 ·have e : b = (s.heap.push { cls := .type "range",data := .fields #[.int lo t,.int hi u,.int 1 v] }).objs.size := by simpa using hb
  subst e
  exact I1.fpOk (A4 _) (I1.hok.fresh (A4 _))
def uL (ta : TA) : TI := fun σ H R => ta σ H fun vs H1 => ∃ j : Int,vs = [.int j] /\ -(2 ^ 62) <= j /\ j < 2 ^ 62 /\ R (uz 0 j.toNat) H1
theorem dA {a : Expr} {ta : TA} {p pos : Pos} (hg : Gl X "range") (hm : X.mg "range" = none) (ha : PA X [a] ta) (hs : starEach [a] X.env = [(false,eval a X.env)] := by rfl) : PI X tg (.Call (.Name "range" p) [a] [] pos) (uL ta) := by
 intro pins s σ H R I h
 refine Call_ (fL I hg hm boot_range (B6 (bv (ha pos pins s σ H _ I h) fun us s1 ⟨vs,H1,I1,r1,q1⟩ => ?_) hs rfl))
 obtain ⟨j,e,q1,q2,q⟩ := q1
 subst e
 cases r1 with
 | cons r rr =>
  cases rr
  obtain ⟨t,rfl⟩ := r
  exact call_range_1 (oS I1 (by omega) (by omega) q1 q2 (by simpa using q))
def wZ (wi : TI) (g : TG) (tb : TS) : TS := fun D σ H => wi σ H fun J H1 => ∃ W : Nat -> Nat -> St -> Hp -> Prop,(∃ m,W 0 m σ H1) /\ ∀ i m σ H,W i m σ H ->
 (J.stop i H /\ D.nx σ H) ∨ (J.go i H /\ ∃ N : St -> Hp -> Prop,(∀ σ' H',N σ' H' -> ∃ m',m' < m /\ W (i + 1) m' σ' H') /\ ∀ x H',J.yld i H x H' -> g x σ H' fun σ2 H2 => tb { D with nx := N,ct := N,bk := D.nx } σ2 H2)
def fM (fp : List Addr) (h : Heap) : List (Addr × Obj) := fp.filterMap fun b => (h.get? b).map fun o => (b,o)
theorem cq {fp : List Addr} {h : Heap} {b : Addr} {o : Obj} (hb : b ∈ fp) (e : h.get? b = some o) : (b,o) ∈ fM fp h := List.mem_filterMap.mpr ⟨b,hb,by rw [e]; rfl⟩
theorem nD {fp : List Addr} {h : Heap} {p : Addr × Obj} (hp : p ∈ fM fp h) : p.1 ∈ fp /\ h.get? p.1 = some p.2 := by
 obtain ⟨b,hb,e⟩ := List.mem_filterMap.mp hp
 cases q : h.get? b with
 | none => rw [q] at e; cases e
 | some o =>
  rw [q] at e
  have e' : (b,o) = p := AZ e
  subst e'
  exact ⟨hb,q⟩
theorem au.pinned {pins : List (Addr × Obj)} {σ : St} {H : Hp} {s : Shared} {fp : List Addr} (I : au X pins σ H s) (hf : ∀ b ∈ fp,gh X pins H b) (ho : ∀ b ∈ fp,∃ o,s.heap.get? b = some o /\ ∀ v,o.data ≠ .cell v) : au X (pins ++ fM fp s.heap) σ H s :=
 I.pins_of fun p hp => (AY.mp hp).elim (fun z => I.pin p (AJ _ z)) fun z => by
  obtain ⟨hb,e⟩ := nD z
  obtain ⟨f0,f1,f2,_⟩ := hf p.1 hb
  obtain ⟨o,e',d⟩ := ho p.1 hb
  rw [e] at e'; cases e'
  exact ⟨e,f0,f1,f2,d⟩
theorem au.unpinned {pins pl : List (Addr × Obj)} {σ : St} {H : Hp} {s : Shared} (I : au X (pins ++ pl) σ H s) : au X pins σ H s := I.pins_of fun p hp => I.pin p (AJ _ (Ao _ hp))
theorem b4 {iter : Expr} {body : List Stmt} {wi : TI} {g : TG} {tb : TS} {pos : Pos} (hp : PassesOwn (model X.prog X.w) X.A X.env X.xe) (hc : X.calm = true) (hi : PI X tg iter wi) (hg : PG X tg g) (hb : iE X body tb)
  (hs : ∀ x,foldedSetIterable iter X.env x = pure x := by intro _; rfl) : PS X (.For tg iter body [] pos) (wZ wi g tb) := by
 intro pins s σ H D I h
 refine wpAny_For (bv (hi pins s σ H _ I h) fun v s1 h1 => bv h1 fun itv s2 h2 => ?_) hs
 obtain ⟨it,fp,tn,J,H2,e,I2,T,st2,f2,W,⟨m0,w0⟩,turn⟩ := h2
 subst e
 have stat : ∀ {H' : Hp},(∀ b ∈ fp,H' b = none) -> ∀ b ∈ fp,gh X pins H' b := fun hn b hb => ⟨hn b hb,(f2 b hb).2⟩
 refine codeAny_forLoop_any (fun n s' => ∃ i σ' H',au X pins σ' H' s' /\ tn i s'.heap /\ (∀ b ∈ fp,H' b = none) /\ W i n σ' H') ?_ m0 ⟨0,σ,H2,I2,st2,fun b hb => (f2 b hb).1,w0⟩
 rintro n s3 ⟨i,σ3,H3,I3,st3,fr3,w3⟩
 rcases turn i n σ3 H3 w3 with ⟨stop,qn⟩ | ⟨go,N,hN,step⟩
 ·refine wpAny_passesOwn hp (bv (T.done X rfl rfl rfl hc i pins s3 σ3 H3 X.xe I3 (stat fr3) st3 stop) fun r s4 ⟨hr,I4⟩ => ?_)
  subst hr
  exact wpAny_execs_nil ⟨σ3,H3,I4,qn⟩
 ·refine wpAny_passesOwn hp (bv (T.item X rfl rfl rfl hc i pins s3 σ3 H3 X.xe I3 (stat fr3) st3 go) fun r s4 ⟨u,hr,h4⟩ => ?_)
  subst hr
  refine wpAny_passesOwn hp (bv h4 fun _ s5 ⟨x,H5,I5,r5,y5,st5,fr5⟩ => ?_)
  have I5' := I5.pinned (stat fr5) (T.obj _ _ st5)
  refine wpAny_passesOwn hp (bv (hg _ s5 σ3 H5 x u _ I5' r5 (step x H5 y5)) fun _ s6 ⟨σ6,H6,I6,q6⟩ => ?_)
  refine wpAny_passesOwn hp (bv (hb _ s6 σ6 H6 _ I6 q6) fun f s7 q7 => ?_)
  have again : ∀ {σ7 : St} {H7 : Hp},au X (pins ++ fM fp s5.heap) σ7 H7 s7 -> N σ7 H7 -> ∃ m,m < n /\ ∃ i σ' H',au X pins σ' H' s7 /\ tn i s7.heap /\ (∀ b ∈ fp,H' b = none) /\ W i m σ' H' := fun {σ7 H7} I7 n7 => by
   obtain ⟨m',hm,w7⟩ := hN σ7 H7 n7
   refine ⟨m',hm,i + 1,σ7,H7,I7.unpinned,T.keep _ _ _ st5 fun b hb o e => (I7.pin (b,o) (AJ _ (AJ _ (cq hb e)))).1,fun b hb => ?_,w7⟩
   obtain ⟨o,e,d⟩ := T.obj _ _ st5 b hb
   exact (I7.pin (b,o) (AJ _ (AJ _ (cq hb e)))).2.1
  cases f with
  | next => obtain ⟨σ7,H7,I7,n7⟩ := q7; exact again I7 n7
  | cont => obtain ⟨σ7,H7,I7,n7⟩ := q7; exact again I7 n7
  | brk => obtain ⟨σ7,H7,I7,q7⟩ := q7; exact ⟨σ7,H7,I7.unpinned,q7⟩
  | ret v => obtain ⟨x7,σ7,H7,I7,r7,q7⟩ := q7; exact ⟨x7,σ7,H7,I7.unpinned,r7,q7⟩
end
theorem dB {K : A0} {a : Addr} {xs : List V} {g : TG} {tb : TS} {D : Ends} {σ : St} {H : Hp} (Pv : Nat -> St -> Hp -> Prop) (h0 : Pv 0 σ H) (hl : ∀ i σ H,i <= xs.length -> Pv i σ H -> bc K H a xs)
  (hs : ∀ i x σ H,xs[i]? = some x -> Pv i σ H -> g x σ H fun σ2 H2 => tb { D with nx := Pv (i + 1),ct := Pv (i + 1),bk := D.nx } σ2 H2) (hd : ∀ σ H,Pv xs.length σ H -> D.nx σ H) :
  ∃ W : Nat -> Nat -> St -> Hp -> Prop,(∃ m,W 0 m σ H) /\ ∀ i m σ H,W i m σ H ->
   ((uy K a).stop i H /\ D.nx σ H) ∨ ((uy K a).go i H /\ ∃ N : St -> Hp -> Prop,(∀ σ' H',N σ' H' -> ∃ m',m' < m /\ W (i + 1) m' σ' H') /\ ∀ x H',(uy K a).yld i H x H' -> g x σ H' fun σ2 H2 => tb { D with nx := N,ct := N,bk := D.nx } σ2 H2) := by
 refine ⟨fun i m σ H => m = xs.length - i /\ i <= xs.length /\ Pv i σ H,⟨xs.length,by simp,Af _,h0⟩,?_⟩
 rintro i m σ H ⟨rfl,hi,p⟩
 have q := hl i σ H hi p
 by_cases hlt : i < xs.length
 ·refine .inr ⟨⟨xs,xs[i],q,by simp [hlt]⟩,Pv (i + 1),fun σ' H' p' => ⟨xs.length - (i + 1),by omega,rfl,hlt,p'⟩,fun x H' y => ?_⟩
  obtain ⟨e,y⟩ := y
  subst e
  exact hs i x σ _ (y xs q) p
 ·have e : i = xs.length := by omega
  subst e
  exact .inl ⟨⟨xs,q,A4 _⟩,hd σ H p⟩
theorem dC {lo : Int} {n : Nat} {g : TG} {tb : TS} {D : Ends} {σ : St} {H : Hp} (Pv : Nat -> St -> Hp -> Prop) (h0 : Pv 0 σ H)
  (hs : ∀ i σ H,i < n -> Pv i σ H -> g (.int (lo + i)) σ H fun σ2 H2 => tb { D with nx := Pv (i + 1),ct := Pv (i + 1),bk := D.nx } σ2 H2) (hd : ∀ σ H,Pv n σ H -> D.nx σ H) :
  ∃ W : Nat -> Nat -> St -> Hp -> Prop,(∃ m,W 0 m σ H) /\ ∀ i m σ H,W i m σ H ->
   ((uz lo n).stop i H /\ D.nx σ H) ∨ ((uz lo n).go i H /\ ∃ N : St -> Hp -> Prop,(∀ σ' H',N σ' H' -> ∃ m',m' < m /\ W (i + 1) m' σ' H') /\ ∀ x H',(uz lo n).yld i H x H' -> g x σ H' fun σ2 H2 => tb { D with nx := N,ct := N,bk := D.nx } σ2 H2) := by
 refine ⟨fun i m σ H => m = n - i /\ i <= n /\ Pv i σ H,⟨n,by simp,Af _,h0⟩,?_⟩
 rintro i m σ H ⟨rfl,hi,p⟩
 by_cases hlt : i < n
 ·refine .inr ⟨hlt,Pv (i + 1),fun σ' H' p' => ⟨n - (i + 1),by omega,rfl,hlt,p'⟩,fun x H' y => ?_⟩
  obtain ⟨e,y⟩ := y
  subst e y
  exact hs i σ _ hlt p
 ·have e : i = n := by omega
  subst e
  exact .inl ⟨A4 _,hd σ H p⟩
theorem dD {c : TT} {tb : TS} {D : Ends} {σ : St} {H : Hp} (Pv : St -> Hp -> Prop) (μ : St -> Hp -> Nat) (h0 : Pv σ H)
  (hs : ∀ σ H,Pv σ H -> c σ H fun b H1 => if b = true then tb { D with nx := fun σ' H' => Pv σ' H' /\ μ σ' H' < μ σ H,ct := fun σ' H' => Pv σ' H' /\ μ σ' H' < μ σ H,bk := D.nx } σ H1 else D.nx σ H1)
  (mono : ∀ σ H Q Q',(∀ b H1,Q b H1 -> Q' b H1) -> c σ H Q -> c σ H Q') : oR c tb D σ H := by
 refine ⟨fun m σ H => m = μ σ H /\ Pv σ H,⟨_,rfl,h0⟩,?_⟩
 rintro m σ H ⟨rfl,p⟩
 refine mono σ H _ _ (fun b H1 q => ?_) (hs σ H p)
 cases b with
 | true => exact ⟨_,fun σ' H' ⟨p',l⟩ => ⟨_,l,rfl,p'⟩,q⟩
 | false => exact q
abbrev R2 := V -> V -> Hp -> VK -> Prop
def eX (X : Cx) (f : Value -> Value -> Sem Value) (r : R2) : Prop :=
 ∀ (pins : List (Addr × Obj)) (s : Shared) (σ : St) (H : Hp) (x y : V) (v u : Value) (Q : VK),au X pins σ H s -> RelV x v -> RelV y u -> r x y H Q ->
  wpAny (model X.prog X.w) X.A (f v u) (EP X pins σ Q) X.xe s
def w6 (X : Cx) (f : Value -> Sem Value) (r : V -> Hp -> VK -> Prop) : Prop :=
 ∀ (pins : List (Addr × Obj)) (s : Shared) (σ : St) (H : Hp) (x : V) (v : Value) (Q : VK),au X pins σ H s -> RelV x v -> r x H Q ->
  wpAny (model X.prog X.w) X.A (f v) (EP X pins σ Q) X.xe s
def de (X : Cx) (f : Value) (r : List V -> Hp -> VK -> Prop) : Prop :=
 ∀ (pins : List (Addr × Obj)) (s : Shared) (σ : St) (H : Hp) (xs : List V) (us : List Value) (Q : VK),au X pins σ H s -> aR xs us -> r xs H Q ->
  wpAny (model X.prog X.w) X.A (call f us) (EP X pins σ Q) X.xe s
def wA (r : R2) (ta tb : TE) : TE := fun σ H Q => ta σ H fun x H1 => tb σ H1 fun y H2 => r x y H2 Q
def yh (r : V -> Hp -> VK -> Prop) (ta : TE) : TE := fun σ H Q => ta σ H fun x H1 => r x H1 Q
def rI (C : Int -> Int -> Prop) (g : Int -> Int -> V) : R2 := fun x y H Q => ∃ i j,x = .int i /\ y = .int j /\ C i j /\ Q (g i j) H
def sS (g : Int -> Int -> V) : R2 := fun x y H Q => ∃ i j,x = .int i /\ y = .int j /\ Q (g i j) H
def rU (g : Int -> V) : V -> Hp -> VK -> Prop := fun x H Q => ∃ i,x = .int i /\ Q (g i) H
section
variable {X : Cx} {a b c : Expr} {ta tb tc : TE} {pos : Pos}
theorem tJ (ha : PE X a ta) (hb : PE X b tb) {pins : List (Addr × Obj)} {s : Shared} {σ : St} {H : Hp} {R : V -> V -> Hp -> Prop} (I : au X pins σ H s)
  (h : ta σ H fun x H1 => tb σ H1 fun y H2 => R x y H2) {Q : Value -> Shared -> Prop} {f : Value -> Value -> Sem Value}
  (hf : ∀ v u s2 x y H2,au X pins σ H2 s2 -> RelV x v -> RelV y u -> R x y H2 -> wpAny (model X.prog X.w) X.A (f v u) Q X.xe s2) :
  wpAny (model X.prog X.w) X.A (eval a X.env) (fun v s₁ => wpAny (model X.prog X.w) X.A (eval b X.env) (fun u s₂ => wpAny (model X.prog X.w) X.A (f v u) Q X.xe s₂) X.xe s₁) X.xe s := by
 refine bv (ha pins s σ H _ I h) fun v s1 ⟨x,H1,I1,r1,q1⟩ => ?_
 refine bv (hb pins s1 σ H1 _ I1 q1) fun u s2 ⟨y,H2,I2,r2,q2⟩ => ?_
 exact hf v u s2 x y H2 I2 r1 r2 q2
theorem av {op : Operator} {r : R2} (ho : eX X (binaryOp op) r) (ha : PE X a ta) (hb : PE X b tb) : PE X (.BinOp a op b pos) (wA r ta tb) := by
 intro pins s σ H Q I h
 exact wpAny_BinOp (tJ ha hb I h fun v u s2 x y H2 I2 rx ry q => ho pins s2 σ H2 x y v u Q I2 rx ry q)
theorem iF {op : UnaryOp} {r : V -> Hp -> VK -> Prop} (ho : w6 X (unaryOp op) r) (ha : PE X a ta) : PE X (.UnaryOp op a pos) (yh r ta) := by
 intro pins s σ H Q I h
 exact UnaryOp_ (bv (ha pins s σ H _ I h) fun v s1 ⟨x,H1,I1,r1,q1⟩ => ho pins s1 σ H1 x v Q I1 r1 q1)
theorem w8 {f : Value -> Value -> Sem Value} {C : Int -> Int -> Prop} {g : Int -> Int -> Int}
  (rule : ∀ (i j : Int) (t u : Tok) (s : Shared) (Q : Value -> Shared -> Prop) (E : Value -> Shared -> Prop),C i j -> Q (.int (g i j) s.toks) { s with toks := s.toks + 1 } -> wpAny (model X.prog X.w) X.A (f (.int i t) (.int j u)) Q E s) :
  eX X f (rI C fun i j => .int (g i j)) := by
 intro pins s σ H x y v u Q I rx ry h
 obtain ⟨i,j,rfl,rfl,hc,q⟩ := h
 obtain ⟨t,rfl⟩ := rx
 obtain ⟨t',rfl⟩ := ry
 exact rule i j t t' s _ _ hc ⟨.int (g i j),H,I.tok _,⟨_,rfl⟩,q⟩
theorem uM {f : Value -> Value -> Sem Value} {g : Int -> Int -> Int}
  (rule : ∀ (i j : Int) (t u : Tok) (s : Shared) (Q : Value -> Shared -> Prop) (E : Value -> Shared -> Prop),Q (.int (g i j) s.toks) { s with toks := s.toks + 1 } -> wpAny (model X.prog X.w) X.A (f (.int i t) (.int j u)) Q E s) :
  eX X f (sS fun i j => .int (g i j)) := by
 intro pins s σ H x y v u Q I rx ry h
 obtain ⟨i,j,rfl,rfl,q⟩ := h
 obtain ⟨t,rfl⟩ := rx
 obtain ⟨t',rfl⟩ := ry
 exact rule i j t t' s _ _ ⟨.int (g i j),H,I.tok _,⟨_,rfl⟩,q⟩
theorem qA {f : Value -> Value -> Sem Value} {g : Int -> Int -> Bool}
  (rule : ∀ (i j : Int) (t u : Tok) (s : Shared) (Q : Value -> Shared -> Prop) (E : Value -> Shared -> Prop),Q (.bool (g i j)) s -> wpAny (model X.prog X.w) X.A (f (.int i t) (.int j u)) Q E s) :
  eX X f (sS fun i j => .bl (g i j)) := by
 intro pins s σ H x y v u Q I rx ry h
 obtain ⟨i,j,rfl,rfl,q⟩ := h
 obtain ⟨t,rfl⟩ := rx
 obtain ⟨t',rfl⟩ := ry
 exact rule i j t t' s _ _ ⟨.bl (g i j),H,I,rfl,q⟩
theorem cr : eX X (binaryOp .Add) (sS fun i j => .int (i + j)) := uM fun _ _ _ _ _ _ _ q => add_int q
theorem oU : eX X (binaryOp .Sub) (sS fun i j => .int (i - j)) := uM fun _ _ _ _ _ _ _ q => sub_int q
theorem aV : eX X (binaryOp .Mod) (rI (fun _ j => j ≠ 0) fun i j => .int (i.fmod j)) := w8 fun _ _ _ _ _ _ _ hc q => mod_int' hc q
theorem yi {f : Value -> Sem Value} {g : Int -> Int}
  (rule : ∀ (i : Int) (t : Tok) (s : Shared) (Q : Value -> Shared -> Prop) (E : Value -> Shared -> Prop),Q (.int (g i) s.toks) { s with toks := s.toks + 1 } -> wpAny (model X.prog X.w) X.A (f (.int i t)) Q E s) :
  w6 X f (rU fun i => .int (g i)) := by
 intro pins s σ H x v Q I rx h
 obtain ⟨i,rfl,q⟩ := h
 obtain ⟨t,rfl⟩ := rx
 exact rule i t s _ _ ⟨.int (g i),H,I.tok _,⟨_,rfl⟩,q⟩
theorem fN : w6 X (unaryOp .USub) (rU fun i => .int (-i)) := yi fun _ _ _ _ _ q => neg_int q
end
def uN : V -> V -> Bool
 | .non,.non => true | .non,.int _ => true | .int _,.non => true | .non,.bl _ => true | .bl _,.non => true | .non,.str _ => true | .str _,.non => true
 | .int _,.int _ => true | .bl _,.bl _ => true | .str _,.str _ => true | .byt _,.byt _ => true
 | .int _,.str _ => true | .str _,.int _ => true | .bl _,.str _ => true | .str _,.bl _ => true
 | _,_ => false
def yj : R2 := fun x y H Q => uN x y = true /\ Q (.bl (decide (x = y))) H
def yk : R2 := fun x y H Q => uN x y = true /\ Q (.bl (!decide (x = y))) H
theorem mB {i j : Int} : decide (V.int i = V.int j) = (i == j) := by
 rw [BR]
 simp
theorem oV {i j : Bool} : decide (V.bl i = V.bl j) = (i == j) := by
 rw [BR]
 simp
theorem mC {i j : Str} : decide (V.str i = V.str j) = (i == j) := by
 rw [BR]
 simp
theorem mD {i j : Array UInt8} : decide (V.byt i = V.byt j) = (i.toList == j.toList) := by
 rw [BR]
 cases i
 cases j
 simp
section
variable {X : Cx} {a b c : Expr} {ta tb tc : TE} {pos : Pos}
theorem aY {pins : List (Addr × Obj)} {σ : St} {H : Hp} {s : Shared} {Q : VK} {k k' : Bool} (I : au X pins σ H s) (q : Q (.bl k) H) (e : k = k') : EP X pins σ Q (.bool k') s := by
 subst e
 exact ⟨.bl k,H,I,rfl,q⟩
theorem dE : eX X (compareOp .Eq) yj := by
 intro pins s σ H x y v u Q I rx ry h
 obtain ⟨hs,q⟩ := h
 cases x with
 | non =>
  cases rx
  cases y with
  | non => cases ry; exact PySem.EqNone.eq_none_none (aY I q (by simp))
  | bl j => cases ry; exact PySem.EqNone.eq_none_bool (aY I q (by simp))
  | int j => obtain ⟨t',rfl⟩ := ry; exact PySem.EqNone.eq_none_int (aY I q (by simp))
  | str j => obtain ⟨t',rfl⟩ := ry; exact PySem.EqNone.eq_none_str (aY I q (by simp))
  | _ => exact absurd (show false = true from hs) AC
 | bl i =>
  cases rx
  cases y with
  | non => cases ry; exact PySem.EqNone.eq_bool_none (aY I q (by simp))
  | bl j => cases ry; exact eq_bool (aY I q oV)
  | str j => obtain ⟨t',rfl⟩ := ry; exact PySem.EqMixed.eq_bool_str (aY I q (by simp))
  | _ => exact absurd (show false = true from hs) AC
 | int i =>
  obtain ⟨t,rfl⟩ := rx
  cases y with
  | non => cases ry; exact PySem.EqNone.eq_int_none (aY I q (by simp))
  | int j => obtain ⟨t',rfl⟩ := ry; exact eq_int (aY I q mB)
  | str j => obtain ⟨t',rfl⟩ := ry; exact PySem.EqMixed.eq_int_str (aY I q (by simp))
  | _ => exact absurd (show false = true from hs) AC
 | str i =>
  obtain ⟨t,rfl⟩ := rx
  cases y with
  | non => cases ry; exact PySem.EqNone.eq_str_none (aY I q (by simp))
  | bl j => cases ry; exact PySem.EqMixed.eq_str_bool (aY I q (by simp))
  | int j => obtain ⟨t',rfl⟩ := ry; exact PySem.EqMixed.eq_str_int (aY I q (by simp))
  | str j => obtain ⟨t',rfl⟩ := ry; exact eq_str (aY I q mC)
  | _ => exact absurd (show false = true from hs) AC
 | byt i =>
  obtain ⟨t,rfl⟩ := rx
  cases y with
  | byt j => obtain ⟨t',rfl⟩ := ry; exact PySem.W.eq_bytes (aY I q mD)
  | _ => exact absurd (show false = true from hs) AC
 | _ => cases y <;> exact absurd (show false = true from hs) AC
theorem iG : eX X (compareOp .NotEq) yk := by
 intro pins s σ H x y v u Q I rx ry h
 obtain ⟨hs,q⟩ := h
 cases x with
 | non =>
  cases rx
  cases y with
  | non => cases ry; exact PySem.EqNone.ne_none_none (aY I q (by simp))
  | bl j => cases ry; exact PySem.EqNone.ne_none_bool (aY I q (by simp))
  | int j => obtain ⟨t',rfl⟩ := ry; exact PySem.EqNone.ne_none_int (aY I q (by simp))
  | str j => obtain ⟨t',rfl⟩ := ry; exact PySem.EqNone.ne_none_str (aY I q (by simp))
  | _ => exact absurd (show false = true from hs) AC
 | bl i =>
  cases rx
  cases y with
  | non => cases ry; exact PySem.EqNone.ne_bool_none (aY I q (by simp))
  | bl j => cases ry; exact ne_bool (aY I q (congrArg not oV))
  | str j => obtain ⟨t',rfl⟩ := ry; exact PySem.EqMixed.ne_bool_str (aY I q (by simp))
  | _ => exact absurd (show false = true from hs) AC
 | int i =>
  obtain ⟨t,rfl⟩ := rx
  cases y with
  | non => cases ry; exact PySem.EqNone.ne_int_none (aY I q (by simp))
  | int j => obtain ⟨t',rfl⟩ := ry; exact ne_int (aY I q (congrArg not mB))
  | str j => obtain ⟨t',rfl⟩ := ry; exact PySem.EqMixed.ne_int_str (aY I q (by simp))
  | _ => exact absurd (show false = true from hs) AC
 | str i =>
  obtain ⟨t,rfl⟩ := rx
  cases y with
  | non => cases ry; exact PySem.EqNone.ne_str_none (aY I q (by simp))
  | bl j => cases ry; exact PySem.EqMixed.ne_str_bool (aY I q (by simp))
  | int j => obtain ⟨t',rfl⟩ := ry; exact PySem.EqMixed.ne_str_int (aY I q (by simp))
  | str j => obtain ⟨t',rfl⟩ := ry; exact ne_str (aY I q (congrArg not mC))
  | _ => exact absurd (show false = true from hs) AC
 | byt i =>
  obtain ⟨t,rfl⟩ := rx
  cases y with
  | byt j => obtain ⟨t',rfl⟩ := ry; exact PySem.W.ne_bytes (aY I q (congrArg not mD))
  | _ => exact absurd (show false = true from hs) AC
 | _ => cases y <;> exact absurd (show false = true from hs) AC
theorem gG : eX X (compareOp .Lt) (sS fun i j => .bl (decide (i < j))) := qA fun _ _ _ _ _ _ _ q => lt_int q
theorem sT : eX X (compareOp .LtE) (sS fun i j => .bl (decide (i <= j))) := qA fun _ _ _ _ _ _ _ q => le_int q
theorem j5 : eX X (compareOp .Gt) (sS fun i j => .bl (decide (j < i))) := qA fun _ _ _ _ _ _ _ q => gt_int q
theorem uO : eX X (compareOp .GtE) (sS fun i j => .bl (decide (j <= i))) := qA fun _ _ _ _ _ _ _ q => ge_int q
theorem gH : eX X (compareOp .Is) (fun x y H Q => y = .non /\ Q (.bl (decide (x = .non))) H) := by
 intro pins s σ H x y v u Q I rx ry h
 obtain ⟨rfl,q⟩ := h
 cases ry
 refine is_none_gen (aY I q ?_)
 cases x <;> first
  | (cases rx; rfl)
  | (obtain ⟨t,rfl⟩ := rx; rfl)
theorem gn : eX X (compareOp .IsNot) (fun x y H Q => y = .non /\ Q (.bl (!decide (x = .non))) H) := by
 intro pins s σ H x y v u Q I rx ry h
 obtain ⟨rfl,q⟩ := h
 cases ry
 refine isnot_none_gen (aY I q ?_)
 cases x <;> first
  | (cases rx; rfl)
  | (obtain ⟨t,rfl⟩ := rx; rfl)
theorem aE (b : Expr) {op : CmpOp} (h : op ≠ .In := by decide) (h2 : op ≠ .NotIn := by decide) : behindInMarks op b = false := by
 have e1 : (op == CmpOp.In) = false := by cases op <;> first | rfl | exact absurd rfl h
 have e2 : (op == CmpOp.NotIn) = false := by cases op <;> first | rfl | exact absurd rfl h2
 cases b <;> simp [behindInMarks,e1,e2]
theorem dO {op : CmpOp} {r : R2} (ho : eX X (compareOp op) r) (ha : PE X a ta) (hb : PE X b tb) (hm : behindInMarks op b = false) : PE X (.Compare a [op] [b] pos) (wA r ta tb) := by
 intro pins s σ H Q I h
 exact wpAny_Compare1 (tJ ha hb I h fun v u s2 x y H2 I2 rx ry q => ho pins s2 σ H2 x y v u Q I2 rx ry q) hm
def uP (t : TE) : TT := fun σ H Q => t σ H fun x H' => ∃ k,x = .bl k /\ Q k H'
theorem ax {op : CmpOp} {r : R2} (ho : eX X (compareOp op) r) (ha : PE X a ta) (hb : PE X b tb) (hm : behindInMarks op b = false) : PT X (.Compare a [op] [b] pos) (uP (wA r ta tb)) := by
 intro pins s σ H Q I h
 refine wpAny_isTrue_Compare1 (bv (ha pins s σ H _ I h) fun v s1 ⟨x,H1,I1,r1,q1⟩ => bv (hb pins s1 σ H1 _ I1 q1) fun u s2 ⟨y,H2,I2,r2,q2⟩ =>
  bv (ho pins s2 σ H2 x y v u _ I2 r1 r2 q2) fun c s3 ⟨z,H3,I3,r3,k,e,q3⟩ => ?_) hm
 subst e
 cases r3
 exact wpAny_truthy_bool ⟨H3,I3,q3⟩
theorem gJ : (sizeLine : Nat) < 2 ^ 63 := by rw [sizeLine_eq]; decide
theorem b8 : eX X (binaryOp .Add) (fun x y H Q => ∃ i j,x = .str i /\ y = .str j /\ i.length + j.length <= sizeLine /\ Q (.str (i ++ j)) H) := by
 intro pins s σ H x y v u Q I rx ry h
 obtain ⟨i,j,rfl,rfl,hz,q⟩ := h
 obtain ⟨t,rfl⟩ := rx
 obtain ⟨t',rfl⟩ := ry
 exact add_str (fun t' tk => ⟨.str (i ++ j),H,I.tok _,⟨_,rfl⟩,q⟩) hz
theorem vals1 {x : V} {us : List Value} (r : aR [x] us) : ∃ u,us = [u] /\ RelV x u := by
 cases r with
 | cons r1 r2 => cases r2; exact ⟨_,rfl,r1⟩
theorem vals2 {x y : V} {us : List Value} (r : aR [x,y] us) : ∃ u w',us = [u,w'] /\ RelV x u /\ RelV y w' := by
 cases r with
 | cons r1 r2 =>
  cases r2 with
  | cons r3 r4 => cases r4; exact ⟨_,_,rfl,r1,r3⟩
theorem gK : de X (.builtin "abs") (fun xs H Q => ∃ i,xs = [.int i] /\ Q (.int (if i < 0 then -i else i)) H) := by
 intro pins s σ H xs us Q I r h
 obtain ⟨i,rfl,q⟩ := h
 obtain ⟨u,rfl,t,rfl⟩ := vals1 r
 exact call_abs_int fun u tk => ⟨.int (if i < 0 then -i else i),H,I.tok _,⟨_,rfl⟩,q⟩
end
structure k9 (h : Heap) (x dx C : Addr) (mA : Str -> Option Value) : Prop where
 obj : h.get? x = some (Az C dx)
 ns : h.Ns1 dx mA
 ne : dx ≠ x
theorem nE {h : Heap} {dx : Addr} {mA : Str -> Option Value} (n : h.Ns1 dx mA) : ∃ od,h.get? dx = some od /\ ∀ name,PySem.W.lookIn name od = some (mA name) := by
 obtain ⟨o,es,ep,ho,hd,hk,_,hm⟩ := n
 refine ⟨o,ho,fun name => ?_⟩
 have e := hm name
 unfold nsFind findBy at e
 rw [<- Array.find?_toList] at e
 unfold PySem.W.lookIn
 rw [hd]
 dsimp only
 split
 ·rename_i y q
  rw [q] at e
  exact congrArg some e
 ·rename_i q
  rw [q] at e
  have a : es.toList.any (·.refKey) = false := by
   rw [List.any_eq_false]
   intro y hy
   obtain ⟨z,t,hkey⟩ := hk y (Array.mem_toList_iff.mp hy)
   simp [DictEntry.refKey,hkey]
  have a' : ¬ es.toList.any (·.refKey) = true := by rw [a]; exact AC
  rw [if_neg a']
  exact congrArg some e
theorem k9.look {h : Heap} {x dx C : Addr} {mA : Str -> Option Value} (I : k9 h x dx C mA) : ∃ od,PySem.W.InstAt h x (Az C dx) C (some od) /\ ∀ name,PySem.W.lookIn name od = some (mA name) :=
 let ⟨od,ho,hl⟩ := nE I.ns
 ⟨od,⟨I.obj,rfl,rfl,ho⟩,hl⟩
section
variable {prog : Program} {w : World} {A : Around} {E : Value -> Shared -> Prop} {s : Shared} {K : A0} {x dx C f : Addr} {mA : Str -> Option Value} {name : Str} {v : Value}
theorem qB {expr : Bool} {Q : Value -> Shared -> Prop} (X : K.In s.heap) (I : k9 s.heap x dx C mA) (hg : PySem.W.plainGet K C name = true) (hh : PySem.W.hasDictIn K C = true)
  (ha : AE K (.ref C) name = some none) (hv : mA name = some v) (hv' : PySem.W.handedIn v = true) (h : Q v { s with toks := s.toks + 1 }) :
  wpAny (model prog w) A (getAttr (.ref x) name expr) Q E s := by
 obtain ⟨od,J,hl⟩ := I.look
 exact PySem.W.get_value X J (PySem.W.plainGet_of hg).1 (PySem.W.findObj_own hh ha rfl (by rw [hl,hv])) hv' h
theorem oW {pl : Sem Bool} {Q : Value × List Value -> Shared -> Prop} (X : K.In s.heap) (I : k9 s.heap x dx C mA) (hg : PySem.W.plainGet K C name = true)
  (hf : AE K (.ref C) name = some (some (.ref f))) (ht : PySem.W.isFn K (.ref f) = true) (hv : mA name = none) (h : Q (.ref f,[.ref x]) s) :
  wpAny (model prog w) A (getMethod (.ref x) name pl) Q E s := by
 obtain ⟨od,J,hl⟩ := I.look
 exact PySem.W.method_fn X J (PySem.W.plainGet_of hg).1 (PySem.W.plainGet_of hg).2 hf (beq_iff_eq.mp ht) (by show (PySem.W.lookIn name od).map (·.isSome) = some false; rw [hl,hv]; rfl) h
theorem qC {ns : List Str} {Q : Unit -> Shared -> Prop} (X : K.In s.heap) (I : k9 s.heap x dx C mA)
  (hs : AE K (.ref C) "__setattr__" = some (some (.builtin "object.__setattr__"))) (hp : PySem.W.plainOver K C = true) (ht : PySem.W.takerIn K C name = some none) (hh : PySem.W.hasDictIn K C = true)
  (hw : PySem.Within mA ns) (hsz : ns.length <= sizeLine)
  (h : ∀ h',k9 h' x dx C (fun y => if y = name then some v else mA y) -> Heap.SameBut dx s.heap h' -> Q () { s with heap := h',toks := s.toks + 2 }) :
  wpAny (model prog w) A (setAttr (.ref x) name v) Q E s := by
 obtain ⟨od,J,hl⟩ := I.look
 refine PySem.W.set_plain X J hs (PySem.W.osa_open (s := { s with toks := s.toks + 1 }) (r := none) X J hp ht fun b => ?_)
 obtain ⟨cd,hc,hd'⟩ := PySem.W.any_some hh
 have hx : s.heap.get? x = some ⟨.ref C,some dx,.plain,#[]⟩ := I.obj
 refine wpAny_bind (wpAny_pure (wpAny_bind (wpAny_bind (wpAny_loadPart hx (wpAny_bind (PySem.W.Looks.here (s := { s with toks := s.toks + 1 }) (PySem.W.looks_clsIn X hc) ?_))))))
 rw [hd']
 refine wpAny_pure (a := some dx) (wpAny_bind (wpAny_pure (wpAny_bind ?_)))
 refine wpAny_nsSet1 (s := { s with toks := s.toks + 1 }) I.ns fun h' hn2 hs2 => ?_
 obtain ⟨oD,esD,epD,hoD,hdD,hcD⟩ := hn2.count (PySem.Within.cons name v hw)
 refine wpAny_bind (wpAny_lookBehind hoD (by rw [hdD]; exact pastItsLine_dict (AT hcD (by rw [Ac]; omega))) ?_)
 exact wpAny_pure (h _ ⟨(hs2.2 _ (Ne.symm I.ne)).trans I.obj,hn2,I.ne⟩ hs2)
theorem oX {R : Result -> Shared -> Prop} {vs : List Value} {kw : List (Str × Value)} (X : K.In s.heap) (hm : PySem.W.makesIn K C = true)
  (hi : AE K (.ref C) "__init__" = some (some (.ref f))) (hf : PySem.W.typeIn K (.ref f) = some (.type "function"))
  (h : codeAny (model prog w) (A.under (.builtin "type.__call__" ⟨.ref C :: vs,kw⟩)) (.call (.ref f) ⟨.ref (s.heap.objs.size + 1) :: vs,kw⟩) (PySem.W.InitBack (s.heap.objs.size + 1) R)
   { s with heap := (s.heap.push AO).push (Az C s.heap.objs.size) }) :
  codeAny (model prog w) A (.call (.ref C) ⟨vs,kw⟩) R s := by
 obtain ⟨hh,g,d,t,os⟩ := s
 exact PySem.W.make_core (PySem.W.makes_of X hm) (PySem.W.looks_findIn X hi) (fun self => PySem.W.bind_fn X self hf) (.inl rfl) h
end
def aA (f : Str) (v : V) : List (Str × V) -> List (Str × V)
 | [] => [(f,v)]
 | (g,x) :: r => if g = f then (g,v) :: r else (g,x) :: aA f v r
theorem aL (f g : Str) (v : V) : ∀ fs : List (Str × V),(aA f v fs).lookup g = if g = f then some v else fs.lookup g
 | [] => by
  show B7 g [(f,v)] = _
  by_cases h : g = f
  ·have hb : (g == f) = true := beq_iff_eq.mpr h
   simp only [B7,hb,if_pos h]
  ·have hb : (g == f) = false := beq_eq_false_iff_ne.mpr h
   simp only [B7,hb,if_neg h]
 | (k,x) :: r => by
  have ih := aL f g v r
  rw [show aA f v ((k,x) :: r) = (if k = f then (k,v) :: r else (k,x) :: aA f v r) from rfl]
  by_cases hk : k = f
  ·rw [if_pos hk]
   by_cases h : g = k
   ·have hb : (g == k) = true := beq_iff_eq.mpr h
    simp only [B7,hb,if_pos (h.trans hk)]
   ·have hb : (g == k) = false := beq_eq_false_iff_ne.mpr h
    simp only [B7,hb,if_neg (fun e : g = f => h (e.trans hk.symm))]
  ·rw [if_neg hk]
   by_cases h : g = k
   ·have hb : (g == k) = true := beq_iff_eq.mpr h
    simp only [B7,hb,if_neg (fun e : g = f => hk (h.symm.trans e))]
   ·have hb : (g == k) = false := beq_eq_false_iff_ne.mpr h
    simp only [B7,hb]
    exact ih
theorem fO (f : Str) (v : V) : ∀ fs : List (Str × V),f ∈ (aA f v fs).map (·.1) /\ ∀ g,g ∈ fs.map (·.1) -> g ∈ (aA f v fs).map (·.1)
 | [] => ⟨by simp [aA],fun g h => by simp at h⟩
 | (k,x) :: r => by
  obtain ⟨i1,i2⟩ := fO f v r
  rw [show aA f v ((k,x) :: r) = (if k = f then (k,v) :: r else (k,x) :: aA f v r) from rfl]
  by_cases hk : k = f
  ·rw [if_pos hk]
   subst hk
   exact ⟨by simp,fun g h => by simpa using h⟩
  ·rw [if_neg hk]
   refine ⟨?_,fun g h => ?_⟩
   ·rw [Ag]
    exact AR _ i1
   ·rw [Ag] at h ⊢
    rcases A8.mp h with e | e
    ·exact A8.mpr (.inl e)
    ·exact AR _ (i2 g e)
theorem b9 (f : Str) (v : V) : ∀ fs : List (Str × V),(aA f v fs).length <= fs.length + 1
 | [] => by simp [aA]
 | (k,x) :: r => by
  have ih := b9 f v r
  rw [show aA f v ((k,x) :: r) = (if k = f then (k,v) :: r else (k,x) :: aA f v r) from rfl]
  by_cases hk : k = f
  ·rw [if_pos hk,Ac,Ac]; omega
  ·rw [if_neg hk,Ac,Ac]; omega
theorem dm.some_of {v : V} {o : Option Value} (r : dm (some v) o) : ∃ u,o = some u /\ RelV v u := by
 cases o with
 | none => exact (show False from r).elim
 | some u => exact ⟨u,rfl,r⟩
theorem dm.none_of {o : Option Value} (r : dm none o) : o = none := by
 cases o with
 | none => rfl
 | some u => exact (show False from r).elim
theorem nG {v : V} {u : Value} (r : RelV v u) : PySem.W.handedIn u = true := by
 cases v with
 | non => cases (show u = Value.none from r); rfl
 | bl b => cases (show u = Value.bool b from r); rfl
 | int i => obtain ⟨t,e⟩ := (show ∃ t,u = Value.int i t from r); cases e; rfl
 | str x => obtain ⟨t,e⟩ := (show ∃ t,u = Value.str x t from r); cases e; rfl
 | byt b => obtain ⟨t,e⟩ := (show ∃ t,u = Value.bytes b t from r); cases e; rfl
 | flt b => obtain ⟨t,e⟩ := (show ∃ t,u = Value.float b t from r); cases e; rfl
 | ref a => cases (show u = Value.ref a from r); rfl
 | ty n => cases (show u = Value.type n from r); rfl
section
variable {P : Program} {w : World} {H H' : Hp} {h h' : Heap} {a C dx : Addr} {fs fs' : List (Str × V)}
theorem gp (hok : dy P w H h) (e : H a = some (.ins C dx fs)) : ∃ mA,k9 h a dx C mA /\ (∀ f,dm (fs.lookup f) (mA f)) /\ PySem.Within mA (fs.map (·.1)) /\ fs.length <= 1000 /\ H dx = some (.own a) := by
 obtain ⟨d,z,ne,ob,mA,n,r,q⟩ := (show a8 P w H h a (.ins C dx fs) from hok a _ e)
 exact ⟨mA,⟨ob,n,ne⟩,r,q,z,d⟩
end
structure mE (K : A0) (C : Addr) : Prop where
 pg : PySem.W.plainGet K C Str.empty = true
 hd : PySem.W.hasDictIn K C = true
 po : PySem.W.plainOver K C = true
 sa : AE K (.ref C) "__setattr__" = some (some (.builtin "object.__setattr__"))
theorem mE.get {K : A0} {C : Addr} (c : mE K C) (f : Str) : PySem.W.plainGet K C f = true := c.pg
def bS (K : A0) (C : Addr) (f : Str) : Prop := AE K (.ref C) f = some none
theorem bS.taker {K : A0} {C : Addr} {f : Str} (n : bS K C f) : PySem.W.takerIn K C f = some none := by
 unfold PySem.W.takerIn
 rw [show AE K (.ref C) f = some none from n]
 rfl
structure cV (K : A0) (C : Addr) (m : Str) (f : Addr) : Prop where
 at_ : AE K (.ref C) m = some (some (.ref f))
 fn : PySem.W.isFn K (.ref f) = true
 kp : Aj K (.ref f) = true
section
variable {X : Cx} {pins : List (Addr × Obj)} {σ : St} {H : Hp} {s : Shared} {a C dx : Addr} {fs : List (Str × V)} {f : Str} {v : V} {A : Around} {E : Value -> Shared -> Prop}
theorem lj {b : Bool} {Q : Value -> Shared -> Prop} (I : au X pins σ H s) (e : H a = some (.ins C dx fs)) (c : mE X.K C) (n : bS X.K C f) (l : fs.lookup f = some v)
  (h : ∀ u s',au X pins σ H s' -> RelV v u -> Q u s') : wpAny (model X.prog X.w) A (getAttr (.ref a) f b) Q E s := by
 obtain ⟨mA,O,r,_,_,_⟩ := gp I.hok e
 obtain ⟨u,hu,ru⟩ := dm.some_of (v := v) (o := mA f) (by rw [<- l]; exact r f)
 exact qB I.kIn O (c.get f) c.hd n hu (nG ru) (h u _ (I.tok _) ru)
theorem eM {m : Str} {g : Addr} {pl : Sem Bool} {Q : Value × List Value -> Shared -> Prop} (I : au X pins σ H s) (e : H a = some (.ins C dx fs)) (c : mE X.K C) (k : cV X.K C m g) (l : fs.lookup m = none)
  (h : Q (.ref g,[.ref a]) s) : wpAny (model X.prog X.w) A (getMethod (.ref a) m pl) Q E s := by
 obtain ⟨mA,O,r,_,_,_⟩ := gp I.hok e
 have hn : mA m = none := dm.none_of (by rw [<- l]; exact r m)
 exact oW I.kIn O (c.get m) k.at_ k.fn hn h
theorem lq {y : V} {u : Value} {Q : Unit -> Shared -> Prop} (I : au X pins σ H s) (e : H a = some (.ins C dx fs)) (c : mE X.K C) (n : bS X.K C f) (hl : fs.length < 1000) (ry : RelV y u)
  (h : ∀ s',au X pins σ (aq H a (.ins C dx (aA f y fs))) s' -> Q () s') : wpAny (model X.prog X.w) A (setAttr (.ref a) f u) Q E s := by
 obtain ⟨mA,O,r,wi,_,ho⟩ := gp I.hok e
 have hz : (fs.map (·.1)).length <= sizeLine := by rw [A2,sizeLine_eq]; omega
 refine qC I.kIn O c.sa c.po n.taker c.hd wi hz fun h' O' sb => h _ ?_
 have hd : ∃ o,h'.get? dx = some o := let ⟨o,_,_,e',_⟩ := O'.ns; ⟨o,e'⟩
 refine I.write (x := a) (e := dx) (by rw [e]; exact True.intro) (.inr ho) (fun b q hb z => (sb.2 b hb).trans z) hd ?_
 refine ⟨by rw [af O.ne]; exact ho,?_,O.ne,O'.obj,_,O'.ns,fun g => ?_,fun g hg => ?_⟩
 ·have := b9 f y fs; omega
 ·show dm ((aA f y fs).lookup g) (if g = f then some u else mA g)
  rw [aL]
  by_cases q : g = f
  ·rw [if_pos q,if_pos q]; exact ry
  ·rw [if_neg q,if_neg q]; exact r g
 ·by_cases q : g = f
  ·rw [q]; exact (fO f y fs).1
  ·refine (fO f y fs).2 g (wi g fun z => hg ?_)
   show (if g = f then some u else mA g) = none
   rw [if_neg q]; exact z
theorem au.made (I : au X pins σ H s) : au X pins σ (aq (aq H s.heap.objs.size (.own (s.heap.objs.size + 1))) (s.heap.objs.size + 1) (.ins C s.heap.objs.size []))
  { s with heap := (s.heap.push AO).push (Az C s.heap.objs.size) } := by
 have e1 : (s.heap.push AO).get? s.heap.objs.size = some AO := Heap.get?_push_size s.heap rfl
 have e2 : ((s.heap.push AO).push (Az C s.heap.objs.size)).get? (s.heap.objs.size + 1) = some (Az C s.heap.objs.size) := by
  have := Heap.get?_push_size (s.heap.push AO) (o := Az C s.heap.objs.size) rfl
  rwa [Heap.size_push] at this
 have e3 : (s.heap.push AO).Ns s.heap.objs.size (fun _ => none) := ⟨AO,#[],_,e1,rfl,(fun e he => absurd he (by simp)),fun _ => rfl⟩
 have I1 := I.laid (a := s.heap.objs.size) (o := .own (s.heap.objs.size + 1)) (h' := s.heap.push AO) (t' := s.toks) (fun b u q => Heap.get?_push_of_some _ q) (A4 _) ⟨_,e1⟩
 refine I1.laid (a := s.heap.objs.size + 1) (o := .ins C s.heap.objs.size []) (t' := s.toks) (fun b u q => Heap.get?_push_of_some _ q) (Nat.le_of_eq (Heap.size_push _ _)) ?_
 have ne : s.heap.objs.size ≠ s.heap.objs.size + 1 := AH (Nat.lt_succ_self _)
 refine ⟨by rw [af ne,ac],Af _,ne,e2,fun _ => none,(Heap.Ns1.of_empty e3).at fun o q => Heap.get?_push_of_some _ q,fun _ => True.intro,fun y hy => absurd rfl hy⟩
theorem qE {prog : Program} {w : World} {env : Env} {e : Expr} {f : Str} {pos : Pos} {s : Shared} {Q : Value -> Shared -> Prop} (hb : attributeBase e f env (eval e env) = eval e env)
  (h : wpAny (model prog w) A (eval e env) (fun o s₁ => wpAny (model prog w) A (getAttr o f true) Q E s₁) E s) : wpAny (model prog w) A (eval (.Attribute e f pos) env) Q E s :=
 Attribute_any_ h (by rw [arm_eval_Attribute,hb])
end
def uQ (K : A0) (ta : TE) (f : Str) : TE := fun σ H Q => ta σ H fun x H1 => ∃ a C dx fs v,x = .ref a /\ H1 a = some (.ins C dx fs) /\ mE K C /\ bS K C f /\ fs.lookup f = some v /\ Q v H1
def w9 (K : A0) (ta tv : TE) (f : Str) : TS := fun D σ H => tv σ H fun y H1 => ta σ H1 fun x H2 => ∃ a C dx fs,x = .ref a /\ H2 a = some (.ins C dx fs) /\ mE K C /\ bS K C f /\ fs.length < 1000 /\
 D.nx σ (aq H2 a (.ins C dx (aA f y fs)))
section
variable {X : Cx} {o e value : Expr} {f : Str} {pos pos' tpos : Pos} {ta tv : TE}
theorem cf (he : PE X e ta) (hb : attributeBase e f X.env (eval e X.env) = eval e X.env) : PE X (.Attribute e f pos) (uQ X.K ta f) := by
 intro pins s σ H Q I h
 refine qE hb (bv (he pins s σ H _ I h) fun u s1 ⟨x,H1,I1,rx,a,C,dx,fs,v,ex,ea,c,n,l,q⟩ => ?_)
 subst ex
 obtain rfl : u = Value.ref a := rx
 exact lj I1 ea c n l fun u' s2 I2 ru => ⟨v,H1,I2,ru,q⟩
theorem jg (ha : PE X o ta) (hv : PE X value tv) (hs : swapsWith value (some (.Attribute o f pos')) pos.line X.env = pure false) : PS X (.Assign [.Attribute o f pos'] value pos) (w9 X.K ta tv f) := by
 intro pins s σ H D I h
 refine plainObj_wpAny_Assign_Attribute (bv (hv pins s σ H _ I h) fun u s1 ⟨y,H1,I1,ry,q⟩ => bv (ha pins s1 σ H1 _ I1 q) fun ov s2 ⟨x,H2,I2,rx,a,C,dx,fs,ex,ea,c,n,l,q2⟩ => ?_) hs
 subst ex
 obtain rfl : ov = Value.ref a := rx
 exact lq I2 ea c n l ry fun s3 I3 => ⟨σ,_,I3,q2⟩
end
section
variable {X : Cx} {pins : List (Addr × Obj)} {σ : St} {H : Hp} {s : Shared} {A : Around} {E : Value -> Shared -> Prop} {Q : Value -> Shared -> Prop} {c : Value} {b : Bool}
inductive dP (K : A0) (H : Hp) : V -> Value -> Prop where
 | non : dP K H .non (.type "NoneType")
 | bl (x : Bool) : dP K H (.bl x) (.type "bool")
 | int (i : Int) : dP K H (.int i) (.type "int")
 | str (x : Str) : dP K H (.str x) (.type "str")
 | flt (x : UInt64) : dP K H (.flt x) (.type "float")
 | lst {a : Addr} {xs : List V} (e : H a = some (.lst xs)) : dP K H (.ref a) (.type "list")
 | frz {a : Addr} {o : Obj} {xs : List V} (e : H a = some (.frz o (.lst xs))) : dP K H (.ref a) (.type "list")
 | tup {a : Addr} {xs : List V} (e : H a = some (.tup xs)) : dP K H (.ref a) (.type "tuple")
 | dK {a : Addr} {kvs : List (Key × V)} (e : H a = some (.dK kvs)) : dP K H (.ref a) (.type "dict")
 | dT {a : Addr} {kvs : List (List Key × V)} (e : H a = some (.dT kvs)) : dP K H (.ref a) (.type "dict")
 | ins {a C dx : Addr} {fs : List (Str × V)} (e : H a = some (.ins C dx fs)) (cl : mE K C) (ha : AE K (.ref C) "__class__" = some (some (.builtin "object.__class__")))
   (hn : PySem.W.specialIn K (.builtin "object.__class__") "__get__" = some (some (.builtin "getset_descriptor.__get__"))) (htk : PySem.W.takesIn K (.builtin "object.__class__") = some true)
   (hm : PySem.W.mroIn K C (.type "object") = some true) : dP K H (.ref a) (.ref C)
theorem nH {x : V} {u t : Value} (I : au X pins σ H s) (rx : RelV x u) (ty : dP X.K H x t) (e : Ap X.K t c = some b) (h : ∀ tk,Q (.bool b) { s with toks := tk }) :
  wpAny (model X.prog X.w) A (call (.builtin "isinstance") [u,c]) Q E s := by
 cases ty with
 | non => cases (show u = Value.none from rx); exact Am PySem.W.kitx_none I.kIn True.intro e (fun z => nomatch z) h
 | bl y => cases (show u = Value.bool y from rx); exact Am PySem.W.kitx_bool I.kIn True.intro e (fun z => nomatch z) h
 | int i => obtain ⟨t,q⟩ := (show ∃ t,u = Value.int i t from rx); cases q; exact Am PySem.W.kitx_int I.kIn True.intro e (fun z => nomatch z) h
 | str y => obtain ⟨t,q⟩ := (show ∃ t,u = Value.str y t from rx); cases q; exact Am PySem.W.kitx_str I.kIn True.intro e (fun z => nomatch z) h
 | flt y => obtain ⟨t,q⟩ := (show ∃ t,u = Value.float y t from rx); cases q; exact Am PySem.W.kitx_float I.kIn True.intro e (fun z => nomatch z) h
 | @lst a xs ea =>
  cases (show u = Value.ref a from rx)
  obtain ⟨_,_,n,_,h1⟩ := (show a8 X.prog X.w H s.heap a (.lst xs) from I.hok a _ ea)
  exact Am PySem.W.kitx_list I.kIn ⟨_,h1,rfl⟩ e (fun z => nomatch z) h
 | @frz a ob xs ea =>
  cases (show u = Value.ref a from rx)
  obtain ⟨_,_,_,n,_,h1⟩ := (show a8 X.prog X.w H s.heap a (.frz ob (.lst xs)) from I.hok a _ ea)
  exact Am PySem.W.kitx_list I.kIn ⟨_,h1,rfl⟩ e (fun z => nomatch z) h
 | @tup a xs ea =>
  cases (show u = Value.ref a from rx)
  obtain ⟨_,_,_,p⟩ := (show a8 X.prog X.w H s.heap a (.tup xs) from I.hok a _ ea)
  obtain ⟨o,h1,h2,_⟩ := p
  exact Am PySem.W.kitx_tuple I.kIn ⟨o,h1,h2⟩ e (fun z => nomatch z) h
 | @dK a kvs ea =>
  cases (show u = Value.ref a from rx)
  obtain ⟨_,_,vs,_,p⟩ := (show a8 X.prog X.w H s.heap a (.dK kvs) from I.hok a _ ea)
  obtain ⟨o,es,ep,h1,h2,_⟩ := p
  exact Am PySem.W.kitx_dict I.kIn ⟨o,h1,h2.1⟩ e (fun z => nomatch z) h
 | @dT a kvs ea =>
  cases (show u = Value.ref a from rx)
  obtain ⟨_,_,xs,_,o,es,ep,h1,h2,_⟩ := (show a8 X.prog X.w H s.heap a (.dT kvs) from I.hok a _ ea)
  exact Am PySem.W.kitx_dict I.kIn ⟨o,h1,h2.1⟩ e (fun z => nomatch z) h
 | @ins a C dx fs ea cl ha hn htk hm =>
  cases (show u = Value.ref a from rx)
  obtain ⟨mA,O,_⟩ := gp I.hok ea
  obtain ⟨od,J,_⟩ := O.look
  exact Am (PySem.W.kitx_own (cl.get _) cl.hd ha hn htk hm) I.kIn J e (fun z => nomatch z) h
end
structure bH (k : Nat) (A : Around) : Prop where
 hd : A.handled = none
 dp : A.depth + 3 * k + 5 < recursionLimit
 un : A.units + 16 * k + 200 < cLine
theorem bH.mono {j k : Nat} {A : Around} (r : bH k A) (h : j <= k) : bH j A := ⟨r.hd,by have := r.dp; omega,by have := r.un; omega⟩
theorem bH.deeper {k : Nat} {A : Around} (r : bH (k + 1) A) (env : Env) : bH k (A.deeper env) :=
 ⟨r.hd,by have := r.dp; show A.depth + 1 + 3 * k + 5 < _; omega,by have := r.un; show A.units + 3 + 16 * k + 200 < _; omega⟩
theorem lu {A : Around} {C : Addr} {us : List Value} {kw : List (Str × Value)} : (A.under (.builtin "type.__call__" ⟨.ref C :: us,kw⟩)).depth = A.depth + 1 := by
 first | rfl | simp [Around.under,Code.weight,Code.isCreation,Code.isGuard,Code.isCaller,Code.frames,Code.isFrame,guardIds]
theorem lv {A : Around} {C : Addr} {us : List Value} {kw : List (Str × Value)} : (A.under (.builtin "type.__call__" ⟨.ref C :: us,kw⟩)).units = A.units + 1 := by
 first | rfl | simp [Around.under,Code.cUnits,Code.frames,Code.isFrame]
theorem bH.make {k : Nat} {A : Around} (r : bH (k + 1) A) (C : Addr) (us : List Value) (kw : List (Str × Value)) : bH k (A.under (.builtin "type.__call__" ⟨.ref C :: us,kw⟩)) :=
 ⟨r.hd,by have := r.dp; rw [lu]; omega,by have := r.un; rw [lv]; omega⟩
theorem bH.depth {k : Nat} {A : Around} (r : bH k A) : A.depth < recursionLimit := by have := r.dp; omega
theorem bH.units {k : Nat} {A : Around} (r : bH k A) : A.units + 64 < cLine := by have := r.un; omega
theorem bH.units0 {k : Nat} {A : Around} (r : bH k A) : A.units < cLine := by have := r.un; omega
def qG : TA := fun _ H Q => Q [] H
def uR (ta : TE) (tr : TA) : TA := fun σ H Q => ta σ H fun x H1 => tr σ H1 fun xs H2 => Q (x :: xs) H2
section
variable {X : Cx} {e : Expr} {es : List Expr} {te : TE} {t : TA} {pos : Pos}
theorem ag : PA X [] qG := fun _ _ _ _ H Q I h => Calls.spliced_nil ⟨[],H,I,.nil,h⟩
theorem aa (ha : PE X e te) (hr : PA X es t) (hs : starEach (e :: es) X.env = (false,eval e X.env) :: starEach es X.env := by rfl) : PA X (e :: es) (uR te t) := by
 intro pos pins s σ H Q I h
 rw [hs]
 show wpAny _ _ (spliced ((false,eval e X.env) :: backTo pos (starEach es X.env))) _ _ s
 refine Calls.spliced_cons (bv (ha pins s σ H _ I h) fun u s1 ⟨x,H1,I1,r1,q1⟩ => ?_)
 exact bv (hr pos pins s1 σ H1 _ I1 q1) fun us s2 ⟨xs,H2,I2,r2,q2⟩ => ⟨x :: xs,H2,I2,.cons r1 r2,q2⟩
def xc (t : TA) : TE := fun σ H Q => t σ H fun xs H1 => xs.length <= sizeLine /\ ∀ p,H1 p = none -> Q (.ref p) (aq H1 p (.tup xs))
def xf (t : TA) : TE := fun σ H Q => t σ H fun xs H1 => xs.length <= sizeLine /\ ∀ p,H1 p = none -> Q (.ref p) (aq H1 p (.lst xs))
theorem cK {x1} (h : PA X es t) : PE X (.Tuple es x1 pos) (xc t) := by
 intro pins s σ H Q I hq
 refine wpAny_Tuple_spliced (bv (h pos pins s σ H _ I hq) fun us s1 ⟨xs,H1,I1,r,z,q⟩ => ⟨by rw [<- r.length]; exact z,?_⟩)
 have hf : H1 s1.heap.objs.size = none := I1.hok.fresh (A4 _)
 refine ⟨.ref s1.heap.objs.size,aq H1 s1.heap.objs.size (.tup xs),I1.laid (t' := s1.toks) (fun b u e => Heap.get?_push_of_some _ e) (A4 _) ?_,rfl,q _ hf⟩
 exact ⟨z,us,r,⟨_,Heap.get?_push_size _ rfl,rfl,_,rfl⟩⟩
theorem bw (h : PA X es t) : PE X (.List es pos) (xf t) := by
 intro pins s σ H Q I hq
 refine wpAny_List_spliced (bv (h pos pins s σ H _ I hq) fun us s1 ⟨xs,H1,I1,r,z,q⟩ => ⟨by rw [<- r.length]; exact z,?_⟩)
 have hf : H1 s1.heap.objs.size = none := I1.hok.fresh (A4 _)
 refine ⟨.ref s1.heap.objs.size,aq H1 s1.heap.objs.size (.lst xs),I1.laid (t' := s1.toks) (fun b u e => Heap.get?_push_of_some _ e) (A4 _) ?_,rfl,q _ hf⟩
 exact ⟨z,us,0,r,Heap.get?_push_size _ rfl⟩
end
abbrev Sp := List V -> Hp -> VK -> XK -> Prop
abbrev mF := List Env -> Hp -> Shared -> XK -> Value -> Shared -> Prop
structure lx (P : Program) (w : World) (K : A0) (mg : Str -> Option Value) (base : Heap) (A : Around) (outer : List Env) (s : Shared) (H : Hp) : Prop where
 frames : A.frames = some outer
 mod : Mod K mg base
 bs : ∀ b o,base.get? b = some o -> s.heap.get? b = some o /\ H b = none
 bsz : base.objs.size <= s.heap.objs.size
 funs : s.heap.FunFrames base outer
 frf : ∀ b ∈ fX outer,H b = none
 hok : dy P w H s.heap
 bare : AllBare s.gens
def CE (outer : List Env) (P : Program) (w : World) (H : Hp) (s : Shared) (Q : VK) (u : Value) (s' : Shared) : Prop :=
 ∃ v H',s'.os = s.os /\ AllBare s'.gens /\ Un (fX outer) [] H H' s.heap s'.heap /\ dy P w H' s'.heap /\ RelV v u /\ Q v H'
def CR (CX : mF) (outer : List Env) (P : Program) (w : World) (H : Hp) (s : Shared) (Q : VK) (E : XK) (r : Result) (s' : Shared) : Prop :=
 match r with
 | .ok (.ret u) => CE outer P w H s Q u s'
 | .ok _ => False
 | .error e => CX outer H s E e s'
structure a7 (P : Program) (w : World) (K : A0) (mg : Str -> Option Value) (base : Heap) (CX : mF) (k : Nat) (f : Addr) (fd : FuncData) (ps : List Str) (sp : Sp) : Prop where
 len : ∀ vs H Q E,sp vs H Q E -> vs.length = ps.length
 run : ∀ (A : Around) (outer : List Env) (s : Shared) (H : Hp) (args : Args) (us : List Value) (vs : List V) (Q : VK) (E : XK),bH k A -> lx P w K mg base A outer s H -> BindsTo s fd args (ps.zip us) -> aR vs us -> sp vs H Q E ->
  codeAny (model P w) A (.call (.ref f) args) (CR CX outer P w H s Q E) s
theorem lx.make {P : Program} {w : World} {K : A0} {mg : Str -> Option Value} {base : Heap} {A : Around} {outer : List Env} {s : Shared} {H : Hp} (e : lx P w K mg base A outer s H) (C : Addr) (us : List Value) (kw : List (Str × Value)) :
  lx P w K mg base (A.under (.builtin "type.__call__" ⟨.ref C :: us,kw⟩)) outer s H := ⟨by first | exact e.frames | (simpa [Around.under,Code.envs,Code.isFrame,pushEnvs] using e.frames),e.mod,e.bs,e.bsz,e.funs,e.frf,e.hok,e.bare⟩
section
variable {X : Cx} {pins : List (Addr × Obj)} {σ : St} {H : Hp} {s s' : Shared}
theorem au.env0 (I : au X pins σ H s) : lx X.prog X.w X.K X.mg X.base X.A X.stack s H :=
 ⟨I.ok.frames,I.ok.mod,I.bs,AT I.ok.bsz I.sz,I.stack,I.stkFree,I.hok,I.bare⟩
theorem au.after {Q : VK} {u : Value} (I : au X pins σ H s) (h : CE X.stack X.prog X.w H s Q u s') : EP X pins σ Q u s' := by
 obtain ⟨v,H',os,bare,un,hok,r,q⟩ := h
 obtain ⟨hh,g,d,t,os'⟩ := s'
 obtain rfl : os' = s.os := os
 exact ⟨v,H',I.call (h' := hh) (g' := g) (d' := d) (t' := t) (ch := []) un hok bare (fun b z => absurd z (by simp)),r,q⟩
end
def oY (sp : Sp) (dvs : List V) (E : XK) (t : TA) : TE := fun σ H Q => t σ H fun vs H1 => sp (vs ++ dvs) H1 Q E
def sU (C : Addr) (sp : Sp) (dvs : List V) (E : XK) (t : TA) : TE := fun σ H Q => t σ H fun vs H1 => ∀ x dx,H1 x = none -> H1 dx = none -> dx ≠ x ->
 sp (.ref x :: (vs ++ dvs)) (aq (aq H1 dx (.own x)) x (.ins C dx [])) (fun v H2 => v = .non /\ Q (.ref x) H2) E
def Binds (K : A0) (fd : FuncData) (ps : List Str) (ds : List Value) : Prop :=
 ∀ (s : Shared) (us : List Value),K.In s.heap -> (us ++ ds).length = ps.length -> BindsTo s fd ⟨us,[]⟩ (ps.zip (us ++ ds))
theorem Binds.all {K : A0} {fd : FuncData} {ps : List Str} (h : ∀ us : List Value,us.length = ps.length -> bindArgs fd ⟨us,[]⟩ = pure (ps.zip us)) : Binds K fd ps [] := fun s us _ hl => by
 rw [List.append_nil] at hl ⊢
 exact .of_eq (h us hl)
def gL (CX : mF) (X : Cx) (E : XK) : Prop := ∀ (pins : List (Addr × Obj)) (σ : St) (H : Hp) (s : Shared) (e : Value) (s' : Shared),au X pins σ H s -> CX X.stack H s E e s' -> X.xe e s'
section
variable {X : Cx} {CX : mF} {k : Nat} {f C : Addr} {fd : FuncData} {ps : List Str} {sp : Sp} {dvs : List V} {ds : List Value} {E : XK} {x m : Str} {p pos apos : Pos} {e o : Expr} {es : List Expr} {ta : TE} {t : TA}
theorem ly {pins : List (Addr × Obj)} {σ : St} {H : Hp} {s : Shared} {Q : VK} {us : List Value} {vs : List V} (F : a7 X.prog X.w X.K X.mg X.base CX k f fd ps sp) (hr : bH k X.A) (hb : Binds X.K fd ps ds) (hd : aR dvs ds) (hx : gL CX X E)
  (I : au X pins σ H s) (r : aR vs us) (h : sp (vs ++ dvs) H Q E) : wpAny (model X.prog X.w) X.A (call (.ref f) us) (EP X pins σ Q) X.xe s := by
 have r2 : aR (vs ++ dvs) (us ++ ds) := r.append hd
 have hl : (us ++ ds).length = ps.length := by rw [<- r2.length]; exact F.len _ _ _ _ h
 refine wpAny_call (codeAny_mono (F.run X.A X.stack s H ⟨us,[]⟩ (us ++ ds) (vs ++ dvs) Q E hr I.env0 (hb s us I.kIn hl) r2 h) fun r s' hq => ?_)
 cases r with
 | error e => exact hx pins σ H s e s' I hq
 | ok fl =>
  cases fl with
  | ret u => exact I.after hq
  | next => exact False.elim hq
  | brk => exact False.elim hq
  | cont => exact False.elim hq
theorem mG (F : a7 X.prog X.w X.K X.mg X.base CX k f fd ps sp) (hr : bH k X.A) (hg : Gl X x) (hm : X.mg x = some (.ref f)) (hk : Aj X.K (.ref f) = true) (hb : Binds X.K fd ps ds) (hd : aR dvs ds) (hx : gL CX X E)
  (ha : PA X (e :: es) t) (hdb : (x == ("__debug__" : Str)) = false := by decide) (he : starEach (e :: es) X.env = (false,eval e X.env) :: starEach es X.env := by rfl) (hpl : (backTo pos (starEach es X.env)).any (·.1) = false := by rfl) :
  PE X (.Call (.Name x p) (e :: es) [] pos) (oY sp dvs E t) := by
 intro pins s σ H Q I h
 refine wpAny_Call_Name_kw (dM I hg hm ?_ hdb)
 refine BO (h₀ := X.base) I.ok.mod.kin hk (bv (ha pos pins s σ H _ I h) fun us s1 ⟨vs,H1,I1,r,q⟩ => ⟨I1.kIn,?_⟩) he hpl
 exact ly F hr hb hd hx I1 r q
structure Mk (K : A0) (C f : Addr) : Prop where
 makes : PySem.W.makesIn K C = true
 init : AE K (.ref C) "__init__" = some (some (.ref f))
 fn : PySem.W.isFn K (.ref f) = true
 kp : Aj K (.ref C) = true
theorem oZ {pins : List (Addr × Obj)} {σ : St} {H : Hp} {s : Shared} {Q : VK} {us : List Value} {vs : List V} (M : Mk X.K C f) (F : a7 X.prog X.w X.K X.mg X.base CX k f fd ps sp) (hr : bH (k + 1) X.A) (hb : Binds X.K fd ps ds) (hd : aR dvs ds)
  (hx : gL CX X E) (I : au X pins σ H s) (r : aR vs us)
  (h : ∀ x dx,H x = none -> H dx = none -> dx ≠ x -> sp (.ref x :: (vs ++ dvs)) (aq (aq H dx (.own x)) x (.ins C dx [])) (fun v H2 => v = .non /\ Q (.ref x) H2) E) :
  wpAny (model X.prog X.w) X.A (call (.ref C) us) (EP X pins σ Q) X.xe s := by
 have hq := h (s.heap.objs.size + 1) s.heap.objs.size (I.hok.fresh (Nat.le_succ _)) (I.hok.fresh (A4 _)) (AH (Nat.lt_succ_self _))
 have I2 := au.made (C := C) I
 have r2 : aR (V.ref (s.heap.objs.size + 1) :: (vs ++ dvs)) (Value.ref (s.heap.objs.size + 1) :: (us ++ ds)) := .cons rfl (r.append hd)
 have hl : (Value.ref (s.heap.objs.size + 1) :: us ++ ds).length = ps.length := by
  have e := r2.length
  rw [F.len _ _ _ _ hq] at e
  exact e.symm
 refine wpAny_call (oX (f := f) I.kIn M.makes M.init (beq_iff_eq.mp M.fn) (codeAny_mono (F.run _ X.stack _ _ ⟨Value.ref (s.heap.objs.size + 1) :: us,[]⟩ (Value.ref (s.heap.objs.size + 1) :: (us ++ ds)) _ _ E (hr.make C us [])
  (I2.env0.make C us []) (hb _ (Value.ref (s.heap.objs.size + 1) :: us) I2.kIn hl) r2 hq) fun r s' hq' => ?_))
 cases r with
 | error e => exact hx pins σ _ _ e s' I2 hq'
 | ok fl =>
  cases fl with
  | ret u =>
   obtain ⟨v,H',I3,rv,ev,q3⟩ := I2.after hq'
   subst ev
   exact ⟨rv,⟨V.ref (s.heap.objs.size + 1),H',I3,rfl,q3⟩⟩
  | next => exact False.elim hq'
  | brk => exact False.elim hq'
  | cont => exact False.elim hq'
theorem o3 (M : Mk X.K C f) (F : a7 X.prog X.w X.K X.mg X.base CX k f fd ps sp) (hr : bH (k + 1) X.A) (hg : Gl X x) (hm : X.mg x = some (.ref C)) (hb : Binds X.K fd ps ds) (hd : aR dvs ds) (hx : gL CX X E)
  (hdb : (x == ("__debug__" : Str)) = false := by decide) : PE X (.Call (.Name x p) [] [] pos) (sU C sp dvs E qG) := by
 intro pins s σ H Q I h
 refine wpAny_Call_Name_kw (dM I hg hm ?_ hdb)
 exact PySem.W.callWith_K0 I.kIn M.kp (oZ (us := []) M F hr hb hd hx I .nil h)
end
section
variable {X : Cx} {CX : mF} {k : Nat} {f C : Addr} {fd : FuncData} {ps ks : List Str} {sp : Sp} {E : XK} {x m : Str} {p pos apos kpos : Pos} {e o : Expr} {es : List Expr} {kws : List Keyword} {te ta : TE} {t tk : TA} {nm : Option Str}
variable {g : List Value -> List Value -> List Value} {gV : List V -> List V -> List V}
end
structure az (N P : List Str) (sc : Scope) : Prop where
 kind : sc.kind = .function
 co : sc.isCoroutine = false
 gen : sc.isGenerator = false
 nd : N.Nodup
 pre : N.take P.length = P
 par : ∀ x ∈ P,sc.names.lookup x = some .local ∨ sc.names.lookup x = some .cell
 nofree : ∀ y ∈ sc.names,y.2 ≠ .free
theorem iH {kindOf : Str -> Option NameKind} {x : Str} : ∀ {binds : List (Str × Value)} {m : Str -> Option Value},(∀ v,(x,v) ∉ binds) -> bindL kindOf binds m x = m x
 | [],_,_ => rfl
 | (n,v) :: r,m,h => by
  unfold bindL
  rw [iH fun w hw => h w (AR _ hw)]
  split
  ·have : x ≠ n := by rintro rfl; exact h v Aw
   simp [this]
  ·rfl
theorem iI {kindOf : Str -> Option NameKind} {x : Str} : ∀ {binds : List (Str × Value)} {m : Str -> Option Value},(∀ v,(x,v) ∉ binds) -> bindC kindOf binds m x = m x
 | [],_,_ => rfl
 | (n,v) :: r,m,h => by
  unfold bindC
  rw [iI fun w hw => h w (AR _ hw)]
  split
  ·rfl
  ·have : x ≠ n := by rintro rfl; exact h v Aw
   simp [this]
theorem iJ {kindOf : Str -> Option NameKind} {x : Str} {v : Value} : ∀ {P : List Str} {vs : List Value} {i : Nat} {m : Str -> Option Value},P.Nodup -> P[i]? = some x -> vs[i]? = some v -> kindOf x = some .local ->
  bindL kindOf (P.zip vs) m x = some v
 | [],_,_,_,_,h,_,_ => by simp at h
 | _ :: _,[],_,_,_,_,h,_ => by simp at h
 | p :: P,w :: vs,0,m,nd,h1,h2,hk => by
  simp at h1 h2; subst h1; subst h2
  show bindL kindOf ((p,w) :: P.zip vs) m p = _
  unfold bindL
  rw [iH fun v hv => (AN.mp nd).1 (List.of_mem_zip hv).1,if_pos hk]
  simp
 | p :: P,w :: vs,i + 1,m,nd,h1,h2,hk => by
  show bindL kindOf ((p,w) :: P.zip vs) m x = _
  unfold bindL
  exact iJ (i := i) (AN.mp nd).2 (by simpa using h1) (by simpa using h2) hk
theorem iK {kindOf : Str -> Option NameKind} {x : Str} {v : Value} : ∀ {P : List Str} {vs : List Value} {i : Nat} {m : Str -> Option Value},P.Nodup -> P[i]? = some x -> vs[i]? = some v -> kindOf x ≠ some .local ->
  bindC kindOf (P.zip vs) m x = some v
 | [],_,_,_,_,h,_,_ => by simp at h
 | _ :: _,[],_,_,_,_,h,_ => by simp at h
 | p :: P,w :: vs,0,m,nd,h1,h2,hk => by
  simp at h1 h2; subst h1; subst h2
  show bindC kindOf ((p,w) :: P.zip vs) m p = _
  unfold bindC
  rw [iI fun v hv => (AN.mp nd).1 (List.of_mem_zip hv).1,if_neg hk]
  simp
 | p :: P,w :: vs,i + 1,m,nd,h1,h2,hk => by
  show bindC kindOf ((p,w) :: P.zip vs) m x = _
  unfold bindC
  exact iK (i := i) (AN.mp nd).2 (by simpa using h1) (by simpa using h2) hk
def start (N : List Str) (vs : List V) : St := vs.map some ++ List.replicate (N.length - vs.length) none
def gi (CX : mF) (P : Program) (w : World) (K : A0) (mg : Str -> Option Value) (base : Heap) (N : List Str) (qual : Str) (scope : Scope) (f : Addr) (cd : Value) (A : Around) (outer : List Env) (s : Shared) (H : Hp) (E : XK) : Cx where
 prog := P
 w := w
 K := K
 mg := mg
 base := base
 A := A.deeper (envOfC qual scope s.heap.objs.size f cd)
 N := N
 s₀ := s
 H₀ := H
 env := envOfC qual scope s.heap.objs.size f cd
 outer := outer
 stack := envOfC qual scope s.heap.objs.size f cd :: outer
 ex := []
 calm := true
 fn := fun _ => true
 pn := []
 xe := fun e s' => wpAny (model P w) (A.deeper (envOfC qual scope s.heap.objs.size f cd)) (leaving (envOfC qual scope s.heap.objs.size f cd) e) (fun _ s'' => CX outer H s E e s'') (fun e' s'' => CX outer H s E e' s'') s'
theorem j6 {sc : Scope} {n : Nat} {x : Str} (h : sc.names.lookup x = some .cell) : ∃ c,(cellsFrom n sc.names []).lookup x = some c := by
 have q := PySem.W.cellsFrom_some sc.names n [] (.inl h)
 exact Ak.mp q
theorem nI {CX : mF} {P : Program} {w : World} {K : A0} {mg : Str -> Option Value} {base : Heap} {N ps : List Str} {qual : Str} {scope : Scope} {f : Addr} {cd : Value} {A : Around} {outer : List Env} {s s1 : Shared} {H : Hp} {E : XK} {us : List Value} {vs : List V}
  (S : az N ps scope) (hd : A.handled = none) (e0 : lx P w K mg base A outer s H) (hl : vs.length = ps.length) (r : aR vs us)
  (x : InCallC s s.heap.objs.size (bindL (envOfC qual scope s.heap.objs.size f cd).kindOf (ps.zip us) fun _ => none) (cellsFrom (s.heap.objs.size + 1) scope.names []) (bindC (envOfC qual scope s.heap.objs.size f cd).kindOf (ps.zip us) fun _ => none) s1) :
  au (gi CX P w K mg base N qual scope f cd A outer s H E) [] (start N vs) H s1 := by
 have hpl : ps.length <= N.length := by have := congrArg List.length S.pre; rw [Av] at this; omega
 obtain ⟨h1,tk,rfl,hk⟩ := x.done
 have noA : ∀ b : Addr,b ∉ (gi CX P w K mg base N qual scope f cd A outer s H E).ex := fun b z => absurd (show b ∈ ([] : List Addr) from z) (by simp)
 refine ⟨⟨e0.mod,S.kind,rfl,rfl,A4 _,fun y z c h1 h2 => ?_,fun y hy => ?_,fun y c _ h => ?_,fun _ => hd,Around.frames_deeper e0.frames,.inr ⟨rfl,rfl⟩,fun b z => absurd z (noA b),e0.bs,e0.bsz,fun b _ _ => noA b,fun b z => absurd z (noA b),e0.funs,e0.frf⟩,
  rfl,e0.bare,Un.kept hk,⟨_,x.toInCall.ns,fun i y v h1 h2 h3 => ?_⟩,fun y c h => ⟨_,x.cell y c h⟩,e0.hok.fresh (A4 _),fun y c h => ?_,fun p hp => absurd (show p ∈ ([] : List (Addr × Obj)) from hp) (by simp),e0.hok.kept hk,?_⟩
 ·exact name_of_addr x.apart (Ai h1) (Ai h2)
 ·have hy : scope.names.lookup y = some .cell ∨ scope.names.lookup y = some .free := hy
  rcases hy with hy | hy
  ·exact j6 hy
  ·exact absurd rfl (S.nofree _ (Ai hy))
 ·exact Nat.le_of_lt (x.above y c (Ai h))
 ·have hi : i < vs.length := by
   unfold start at h2
   by_cases hi : i < vs.length
   ·exact hi
   ·rw [AS (by simpa using hi)] at h2
    rw [List.getElem?_replicate] at h2
    split at h2 <;> cases h2
  have ha : vs[i]? = some v := by
   unfold start at h2
   rw [A5 (by simpa using hi),AI] at h2
   cases e : vs[i]? with
   | none => rw [e] at h2; cases h2
   | some a => rw [e] at h2; cases h2; rfl
  obtain ⟨u,hu,rv⟩ := r.get ha
  have hp : ps[i]? = some y := by
   rw [<- S.pre,List.getElem?_take_of_lt (by omega)]; exact h1
  have ndP : ps.Nodup := by rw [<- S.pre]; exact S.nd.sublist (List.take_sublist _ _)
  refine ⟨u,rv,?_⟩
  rcases S.par y (AB hp) with k | k
  ·exact .inl ⟨k,iJ ndP hp hu k⟩
  ·obtain ⟨c,e⟩ := j6 (n := s.heap.objs.size + 1) k
   refine .inr ⟨.inl k,c,e,?_⟩
   have q := x.cell y c e
   rw [iK ndP hp hu (by show scope.names.lookup y ≠ _; rw [k]; decide)] at q
   exact q
 ·exact e0.hok.fresh (Nat.le_of_lt (x.above y c (Ai h)))
 ·unfold start
  show _ = N.length
  rw [A6,A2,List.length_replicate]
  omega
theorem sV {CX : mF} {P : Program} {w : World} {K : A0} {mg : Str -> Option Value} {base : Heap} {k : Nat} {f : Addr} {name qual : Str} {params : Arguments} {body : List Stmt} {scope : Scope} {dV kV doc pm cdv ct oc : Value} {an od : Option Addr}
  {osl : Array (Option Value)} {N ps : List Str} {sp : Sp} (lk : K.lookup f = some ⟨oc,od,.func (Al name qual params body scope dV kV doc pm an cdv ct),osl⟩) (hcd : B5 K cdv qual = true) (S : az N ps scope)
  (len : ∀ vs H Q E,sp vs H Q E -> vs.length = ps.length)
  (hbody : ∀ (A : Around) (outer : List Env) (s : Shared) (H : Hp) (vs : List V) (Q : VK) (E : XK),bH k (A.deeper (envOfC qual scope s.heap.objs.size f cdv)) -> sp vs H Q E ->
   ∃ t,iE (gi CX P w K mg base N qual scope f cdv A outer s H E) body t /\ t { nx := fun _ H' => Q .non H',rt := Q } (start N vs) H) :
  a7 P w K mg base CX (k + 1) f (Al name qual params body scope dV kV doc pm an cdv ct) ps sp := by
 refine ⟨len,fun A outer s H args us vs Q E hr e0 hb r hsp => ?_⟩
 have hl := len _ _ _ _ hsp
 have KX : K.In s.heap := e0.mod.kin.keeps fun b o e => (e0.bs b o e).1
 have lim : s.heap.NoLimit := e0.mod.nolimit.keeps fun b o e => (e0.bs b o e).1
 have hkind : ∀ y ∈ ps.zip us,scope.names.lookup y.1 = some .local ∨ (scope.names.lookup y.1 = some .cell /\ ((cellsFrom (s.heap.objs.size + 1) scope.names []).lookup y.1).isSome = true) := fun ⟨n,v⟩ hy => by
  rcases S.par n (List.of_mem_zip hy).1 with q | q
  ·exact .inl q
  ·exact .inr ⟨q,PySem.W.cellsFrom_some _ _ _ (.inl q)⟩
 refine codeAny_call_function hr.depth (KX _ _ lk) rfl S.co S.gen rfl (PySem.W.codeRec_of KX hcd) (hb _ _ _ _ ?_)
 refine wpAny_newFunctionEnv_cells S.kind hkind fun env he s1 x => ?_
 subst he
 refine ⟨lim.keeps x.toInCall.keep,codeAny_func ?_⟩
 obtain ⟨t,ht,hq⟩ := hbody A outer s H vs Q E (hr.deeper _) hsp
 have I : au (gi CX P w K mg base N qual scope f cdv A outer s H E) [] (start N vs) H s1 := nI S hr.hd e0 hl r x
 refine wpAny_mono (ht [] s1 (start N vs) H _ I hq) (fun fl s' hs => ?_) fun e s' hs => hs
 have fin : ∀ {σ' : St} {H' : Hp} {v : V} {u : Value},au (gi CX P w K mg base N qual scope f cdv A outer s H E) [] σ' H' s' -> RelV v u -> Q v H' -> CE outer P w H s Q u s' :=
  fun {σ' H' v u} J rv q => ⟨v,H',J.os,J.bare,J.base,J.hok,rv,q⟩
 cases fl with
 | ret u =>
  obtain ⟨v,σ',H',J,rv,q⟩ := hs
  exact fin J rv q
 | next =>
  obtain ⟨σ',H',J,q⟩ := hs
  exact fin (v := V.non) (u := Value.none) J rfl q
 | brk =>
  obtain ⟨_,_,_,q⟩ := hs
  exact False.elim q
 | cont =>
  obtain ⟨_,_,_,q⟩ := hs
  exact False.elim q
section
variable {X : Cx} {x : Str} {p pos : Pos} {e : Expr} {es : List Expr} {t : TA} {id T : String} {r : List V -> Hp -> VK -> Prop}
def ya (r : List V -> Hp -> VK -> Prop) (t : TA) : TE := fun σ H Q => t σ H fun vs H1 => r vs H1 Q
theorem aD (hc : de X (.builtin id) r) (hg : Gl X x) (hm : X.mg x = none) (hv : bootBuiltins x = some (.builtin id)) (ha : PA X (e :: es) t) (hn : x ≠ "__name__" := by decide) (hdb : (x == ("__debug__" : Str)) = false := by decide)
  (he : starEach (e :: es) X.env = (false,eval e X.env) :: starEach es X.env := by rfl) (hpl : (backTo pos (starEach es X.env)).any (·.1) = false := by rfl) : PE X (.Call (.Name x p) (e :: es) [] pos) (ya r t) := by
 intro pins s σ H Q I h
 refine wpAny_Call_Name_kw (fL I hg hm hv ?_ hn hdb)
 exact PyProof.Rows.callWith_builtin1 (bv (ha pos pins s σ H _ I h) fun us s1 ⟨vs,H1,I1,r1,q1⟩ => hc pins s1 σ H1 vs us Q I1 r1 q1) he hpl
theorem nJ (hc : de X (.type T) r) (hg : Gl X x) (hm : X.mg x = none) (hv : bootBuiltins x = some (.type T)) (ha : PA X (e :: es) t) (hn : x ≠ "__name__" := by decide) (hdb : (x == ("__debug__" : Str)) = false := by decide)
  (he : starEach (e :: es) X.env = (false,eval e X.env) :: starEach es X.env := by rfl) (hpl : (backTo pos (starEach es X.env)).any (·.1) = false := by rfl) : PE X (.Call (.Name x p) (e :: es) [] pos) (ya r t) := by
 intro pins s σ H Q I h
 refine wpAny_Call_Name_kw (fL I hg hm hv ?_ hn hdb)
 exact B6 (bv (ha pos pins s σ H _ I h) fun us s1 ⟨vs,H1,I1,r1,q1⟩ => hc pins s1 σ H1 vs us Q I1 r1 q1) he hpl
end
end L2
namespace HT
open PySem PyProof.Rows
section
open PySem.SeqAt
open PySem.AutoSeq1 (wpAny_loadPart')
open PySem.MeetsSeq PySem.MeetsSeq2 PySem.MeetsSeq3
end
section
variable {prog : Program} {w : World} {A : Around} {E : Value -> Shared -> Prop} {s : Shared}
def c6 (n d : Nat) : Option Int -> Nat
 | none => d
 | some v => if v < 0 then (v + (n : Int)).toNat else min v.toNat n
theorem mH (n d k : Nat) : c6 n d (some (k : Int)) = min k n := by
 show (if (k : Int) < 0 then ((k : Int) + (n : Int)).toNat else min (k : Int).toNat n) = min k n
 rw [if_neg (by omega),Int.toNat_natCast]
end
end HT
namespace L2
open PySem PySem.Spec PyProof.Rows
abbrev TO := St -> Hp -> (Option Int -> Hp -> Prop) -> Prop
def PO (X : Cx) (e : Option Expr) (t : TO) : Prop :=
 ∀ (pins : List (Addr × Obj)) (s : Shared) (σ : St) (H : Hp) (Q : Option Int -> Hp -> Prop),au X pins σ H s -> t σ H Q ->
  wpAny (model X.prog X.w) X.A (evalPart e X.env) (fun u s' => ∃ o H',au X pins σ H' s' /\ IsPart u o /\ Q o H') X.xe s
def qH : TO := fun _ H Q => Q none H
def uS (t : TE) : TO := fun σ H Q => t σ H fun x H1 => ∃ i,x = .int i /\ Q (some i) H1
section
variable {X : Cx} {e : Expr} {te : TE} {lo hi : Option Expr} {tl th : TO} {pos p2 : Pos}
theorem df : PO X none qH := by
 intro pins s σ H Q I h
 rw [evalPart_none]
 exact wpAny_pure ⟨none,H,I,.none,h⟩
theorem cv (h : PE X e te) : PO X (some e) (uS te) := by
 intro pins s σ H Q I hw
 rw [evalPart_some]
 refine bv (h pins s σ H _ I hw) fun u s1 ⟨x,H1,I1,r1,q1⟩ => ?_
 obtain ⟨i,rfl,q⟩ := q1
 obtain ⟨t,rfl⟩ := r1
 exact ⟨some i,H1,I1,.int i t,q⟩
def xg (X : Cx) (r : V -> Option Int -> Option Int -> Hp -> VK -> Prop) : Prop :=
 ∀ (pins : List (Addr × Obj)) (s : Shared) (σ : St) (H : Hp) (x : V) (v vl vu : Value) (lo hi : Option Int) (sl : Addr) (Q : VK),au X pins σ H s -> RelV x v -> s.heap.IsSliceOf sl vl vu .none -> IsPart vl lo -> IsPart vu hi -> r x lo hi H Q ->
  ∃ T id,typeLookup (.type T) "__getitem__" = pure (some (.builtin id)) /\ s.TypeIs v T /\ wpAny (model X.prog X.w) X.A (getItem v (.ref sl)) (EP X pins σ Q) X.xe s
def yn (r : V -> Option Int -> Option Int -> Hp -> VK -> Prop) (te : TE) (tl th : TO) : TE := fun σ H Q => te σ H fun x H1 => tl σ H1 fun l H2 => th σ H2 fun u H3 => r x l u H3 Q
theorem cg {r : V -> Option Int -> Option Int -> Hp -> VK -> Prop} (hr : xg X r) (he : PE X e te) (hl : PO X lo tl) (hu : PO X hi th) : PE X (.Subscript e (.Slice lo hi none p2) pos) (yn r te tl th) := by
 intro pins s σ H Q I h
 refine Subscript_ (bv (he pins s σ H _ I h) fun v s1 ⟨x,H1,I1,r1,q1⟩ => ?_)
 refine wpAny_Slice (bv (hl pins s1 σ H1 _ I1 q1) fun vl s2 ⟨l,H2,I2,pl,q2⟩ => bv (hu pins s2 σ H2 _ I2 q2) fun vu s3 ⟨u,H3,I3,pu,q3⟩ => ?_)
 rw [evalPart_none]
 refine wpAny_pure ?_
 have I4 : au X pins σ H3 { s3 with heap := s3.heap.push { cls := .type "slice",data := .fields #[vl,vu,.none] } } := I3.kept (t' := s3.toks) fun b ob q => Heap.get?_push_of_some _ q
 obtain ⟨T,id,hT,ht,hg⟩ := hr pins { s3 with heap := s3.heap.push { cls := .type "slice",data := .fields #[vl,vu,.none] } } σ H3 x v vl vu l u s3.heap.objs.size Q I4 r1 (Heap.IsSliceOf.new ..) pl pu q3
 show wpAny (model X.prog X.w) X.A (subscriptTail e (.Slice lo hi none p2) v (.ref s3.heap.objs.size)) (EP X pins σ Q) X.xe { s3 with heap := s3.heap.push { cls := .type "slice",data := .fields #[vl,vu,.none] } }
 exact tail_any (ops := [.ref s3.heap.objs.size,v]) ht hT hg (by with_unfolding_all rfl)
def iw (xs : List V) (lo hi : Option Int) : List V := (xs.drop (HT.c6 xs.length 0 lo)).take (HT.c6 xs.length xs.length hi - HT.c6 xs.length 0 lo)
theorem j7 (xs : List V) (lo hi : Option Int) : (iw xs lo hi).length <= xs.length := by
 unfold iw
 rw [Av,List.length_drop]
 omega
end
def sW (n : Nat) (i : Int) : Option Nat := if 0 <= i then (if i < n then some i.toNat else none) else if -(n : Int) <= i then some (i + n).toNat else none
def eO {α : Type} (xs : List α) (i : Int) : Option α := (sW xs.length i).bind fun j => xs[j]?
theorem qI {n : Nat} {i : Int} {j : Nat} (h : sW n i = some j) : seqIndex? i n = some j /\ j < n /\ -(n : Int) <= i /\ i < n := by
 unfold sW at h
 by_cases h0 : 0 <= i
 ·rw [if_pos h0] at h
  by_cases h1 : i < n
  ·rw [if_pos h1] at h
   have e : i.toNat = j := AZ h
   exact ⟨by rw [seqIndex_of h0 h1,e],by omega,by omega,h1⟩
  ·rw [if_neg h1] at h; cases h
 ·rw [if_neg h0] at h
  by_cases h1 : -(n : Int) <= i
  ·rw [if_pos h1] at h
   have e : (i + n).toNat = j := AZ h
   exact ⟨by rw [seqIndex_neg (by omega) h1,e],by omega,h1,by omega⟩
  ·rw [if_neg h1] at h; cases h
theorem jh {α : Type} {xs : List α} {i : Int} {v : α} (h : eO xs i = some v) : ∃ j,seqIndex? i xs.length = some j /\ xs[j]? = some v /\ j < xs.length /\ -(xs.length : Int) <= i /\ i < xs.length := by
 unfold eO at h
 cases e : sW xs.length i with
 | none => rw [e] at h; cases h
 | some j =>
  rw [e] at h
  obtain ⟨h1,h2,h3,h4⟩ := qI e
  exact ⟨j,h1,h,h2,h3,h4⟩
theorem bY {α : Type} {xs : List α} {j : Nat} {v : α} (h : xs[j]? = some v) : eO xs (j : Int) = some v := by
 have hj : j < xs.length := (A1.mp h).1
 have e : sW xs.length (j : Int) = some j := by
  unfold sW
  rw [if_pos (by omega),if_pos (by omega)]; simp
 unfold eO; rw [e]; exact h
theorem j8 {α : Type} (xs : List α) (v : α) : eO (xs ++ [v]) (-1) = some v := by
 have hl : (xs ++ [v]).length = xs.length + 1 := by simp
 have e : sW (xs ++ [v]).length (-1) = some xs.length := by
  unfold sW
  rw [hl,if_neg (by decide),if_pos (by omega)]
  congr 1
  omega
 unfold eO
 rw [e]
 show (xs ++ [v])[xs.length]? = some v
 simp
def qJ (b : Expr) : Prop := ∀ o i,subscripted b false o i = operate [o,i] (getItem o i)
def uT (X : Cx) (r : R2) : Prop :=
 ∀ (value slice : Expr) (pins : List (Addr × Obj)) (s : Shared) (σ : St) (H : Hp) (x y : V) (v u : Value) (Q : VK),au X pins σ H s -> RelV x v -> RelV y u -> r x y H Q ->
  subscripted slice false v u = operate [v,u] (getItem v u) -> wpAny (model X.prog X.w) X.A (subscriptTail value slice v u) (EP X pins σ Q) X.xe s
def xh (X : Cx) (id : String) (r : V -> List V -> Hp -> VK -> Prop) : Prop :=
 ∀ (pins : List (Addr × Obj)) (s : Shared) (σ : St) (H : Hp) (x : V) (xs : List V) (v : Value) (us : List Value) (Q : VK),au X pins σ H s -> RelV x v -> aR xs us -> r x xs H Q ->
  wpAny (model X.prog X.w) X.A (call (.builtin id) (v :: us)) (EP X pins σ Q) X.xe s
section
variable {X : Cx} {a b : Expr} {ta tb : TE} {pos : Pos}
theorem aI {r : R2} (hr : uT X r) (ha : PE X a ta) (hb : PE X b tb) (hs : qJ b) : PE X (.Subscript a b pos) (wA r ta tb) := by
 intro pins s σ H Q I h
 exact Subscript_ (tJ ha hb I h fun v u s2 x y H2 I2 rx ry q => hr a b pins s2 σ H2 x y v u Q I2 rx ry q (hs _ _))
def uU (K : A0) : R2 := fun x y H Q => ∃ p xs i v,x = .ref p /\ y = .int i /\ bc K H p xs /\ eO xs i = some v /\ Q v H
def xi (K : A0) : R2 := fun x y H Q => ∃ p xs i v,x = .ref p /\ y = .int i /\ cQ K H p xs /\ eO xs i = some v /\ Q v H
def xj : R2 := fun x y H Q => ∃ z i c,x = .str z /\ y = .int i /\ z.length <= sizeLine /\ eO z.cps.toList i = some c /\ Q (.str ⟨#[c]⟩) H
theorem aB : uT X (uU X.K) := by
 intro value slice pins s σ H x y v u Q I rx ry h hs
 obtain ⟨p,xs,i,z,rfl,rfl,hq,he,q⟩ := h
 cases rx
 obtain ⟨t,rfl⟩ := ry
 obtain ⟨its,r,pl,hz⟩ := I.list hq
 obtain ⟨j,h1,h2,h3,h4,h5⟩ := jh he
 obtain ⟨w,ew,rw'⟩ := r.get h2
 have hl := r.length
 have hn := gJ
 have fin : EP X pins σ Q w s := ⟨z,H,I,rw',q⟩
 by_cases h0 : 0 <= i
 ·have hj : i.toNat = j := by
   rw [seqIndex_of h0 h5] at h1
   exact AZ h1
  exact item_listR pl.isList h0 (by omega) (by rw [hj]; simpa using ew) fin hs
 ·have hj : (i + (its.toArray.size : Int)).toNat = j := by
   rw [seqIndex_neg (by omega) h4] at h1
   rw [AK,<- hl]
   exact AZ h1
  exact subscriptTail_builtinR (x := w) pl.isList.typeIs slot_list_getitem.lookup
   (wpAny_getItem_list_neg (Q := fun r s' => r = w /\ EP X pins σ Q r s') pl.isList (by omega) (by rw [AK] <;> omega) (by omega) (by rw [hj]; simpa using ew) ⟨rfl,fin⟩) hs
theorem bL : uT X (xi X.K) := by
 intro value slice pins s σ H x y v u Q I rx ry h hs
 obtain ⟨p,xs,i,z,rfl,rfl,hq,he,q⟩ := h
 cases rx
 obtain ⟨t,rfl⟩ := ry
 obtain ⟨its,r,pl,hz⟩ := I.tuple hq
 obtain ⟨j,h1,h2,h3,h4,h5⟩ := jh he
 obtain ⟨w,ew,rw'⟩ := r.get h2
 have hl := r.length
 have hn := gJ
 have fin : EP X pins σ Q w s := ⟨z,H,I,rw',q⟩
 exact subscriptTail_builtinR (x := w) pl.typeIs slot_tuple_getitem.lookup
  (getItem_tuple (j := j) (Q := fun r s' => r = w /\ EP X pins σ Q r s') pl (by omega) (by omega) (by rw [AK,<- hl]; exact h1) (by simpa using ew) ⟨rfl,fin⟩) hs
theorem lA : uT X xj := by
 intro value slice pins s σ H x y v u Q I rx ry h hs
 obtain ⟨z,i,c,rfl,rfl,hz,he,q⟩ := h
 obtain ⟨t,rfl⟩ := rx
 obtain ⟨t',rfl⟩ := ry
 obtain ⟨j,h1,h2,h3,h4,h5⟩ := jh he
 have hl : z.cps.toList.length = z.length := by simp [Str.length]
 rw [hl] at h1 h4 h5
 have hn := gJ
 exact tail_any (typeIs_str s z t) slot_str_getitem.lookup (getItem_str (c := c) (by
  have e1 : decide (i < -(2 ^ 63 : Int)) = false := decide_eq_false (by omega)
  have e2 : decide (i ≥ 2 ^ 63) = false := decide_eq_false (by omega)
  rw [e1,e2,Bool.or_false]) (by rw [h1]; simpa using h2) ⟨.str ⟨#[c]⟩,H,I.tok _,⟨_,rfl⟩,q⟩) hs
theorem jj (lo hi : Option Int) (n : Nat) : (sliceBounds lo hi none n).1 = ((HT.c6 n 0 lo : Nat) : Int) /\ (sliceBounds lo hi none n).2.1 = ((HT.c6 n n hi : Nat) : Int) /\ (sliceBounds lo hi none n).2.2 = 1 := by
 refine ⟨?_,?_,rfl⟩
 ·cases lo with
  | none => simp [sliceBounds,HT.c6]
  | some i =>
   simp only [sliceBounds,HT.c6,Option.getD_none,show (1 : Int) > 0 by decide,if_true]
   by_cases h : i < 0
   ·simp only [h,if_true] <;> omega
   ·simp only [h,if_false] <;> omega
 ·cases hi with
  | none => simp [sliceBounds,HT.c6]
  | some i =>
   simp only [sliceBounds,HT.c6,Option.getD_none,show (1 : Int) > 0 by decide,if_true]
   by_cases h : i < 0
   ·simp only [h,if_true] <;> omega
   ·simp only [h,if_false] <;> omega
theorem ix (its : List Value) (lo hi : Option Int) : slicePick its.toArray lo hi none = ((its.drop (HT.c6 its.length 0 lo)).take (HT.c6 its.length its.length hi - HT.c6 its.length 0 lo)).toArray := by
 obtain ⟨h1,h2,h3⟩ := jj lo hi its.toArray.size
 unfold slicePick
 rw [h1,h2,h3]
 simp only [sliceRange_one,pick_run,AK] <;> rfl
def xm (K : A0) : V -> Option Int -> Option Int -> Hp -> VK -> Prop := fun x lo hi H Q => ∃ a xs,x = .ref a /\ bc K H a xs /\ ∀ p,H p = none -> Q (.ref p) (aq H p (.lst (iw xs lo hi)))
theorem mI : xg X (xm X.K) := by
 intro pins s σ H x v vl vu lo hi sl Q I rx hs pl pu h
 obtain ⟨a,xs,rfl,hx,q⟩ := h
 cases rx
 obtain ⟨its,r,ht,hz⟩ := I.list hx
 have hlen := r.length
 refine ⟨"list",_,slot_list_getitem.lookup,ht.isList.typeIs,?_⟩
 refine wpAny_getItem_list_slice ht.isList hs pl pu .none (by simp) ?_ (by rw [AK] <;> omega)
 rw [ix,<- hlen]
 refine ⟨.ref s.heap.objs.size,_,I.laid (t' := s.toks) (o := .lst (iw xs lo hi)) (fun b ob q => Heap.get?_push_of_some _ q) (A4 _) ?_,rfl,q _ (I.hok.fresh (A4 _))⟩
 exact ⟨AT (j7 xs lo hi) hz,_,0,(r.drop (HT.c6 xs.length 0 lo)).take (HT.c6 xs.length xs.length hi - HT.c6 xs.length 0 lo),Heap.get?_push_size _ rfl⟩
def eZ : V -> Bool
 | .non => true
 | .bl _ => true
 | .int _ => true
 | .str _ => true
 | _ => false
def qK : V -> V -> Bool
 | .non,.non => true
 | .bl a,.bl b => a == b
 | .bl a,.int b => (if a then 1 else 0) == b
 | .int a,.bl b => a == (if b then 1 else 0)
 | .int a,.int b => a == b
 | .str a,.str b => a == b
 | _,_ => false
theorem tK {A : Around} {s : Shared} {y x : V} {u v : Value} (ry : RelV y u) (rx : RelV x v) (fy : eZ y = true) (fx : eZ x = true) : SeqAt.EqAt A s u v (qK y x) := by
 cases y with
 | non =>
  cases ry
  cases x with
  | non => cases rx; exact SeqAt.EqAt.same _
  | bl b => cases rx; exact SeqAt.EqAt.none_bool b
  | int b => obtain ⟨t,rfl⟩ := rx; exact SeqAt.EqAt.none_int b t
  | str b => obtain ⟨t,rfl⟩ := rx; exact SeqAt.EqAt.none_str b t
  | _ => exact absurd (show false = true from fx) AC
 | bl a =>
  cases ry
  cases x with
  | non => cases rx; exact SeqAt.EqAt.bool_none a
  | bl b => cases rx; exact SeqAt.EqAt.bool_bool a b
  | int b => obtain ⟨t,rfl⟩ := rx; exact SeqAt.EqAt.bool_int a b t
  | str b => obtain ⟨t,rfl⟩ := rx; exact SeqAt.EqAt.bool_str a b t
  | _ => exact absurd (show false = true from fx) AC
 | int a =>
  obtain ⟨t',rfl⟩ := ry
  cases x with
  | non => cases rx; exact SeqAt.EqAt.int_none a t'
  | bl b => cases rx; exact SeqAt.EqAt.int_bool a t' b
  | int b => obtain ⟨t,rfl⟩ := rx; exact SeqAt.EqAt.int_int a t' b t
  | str b => obtain ⟨t,rfl⟩ := rx; exact SeqAt.EqAt.int_str a t' b t
  | _ => exact absurd (show false = true from fx) AC
 | str a =>
  obtain ⟨t',rfl⟩ := ry
  cases x with
  | non => cases rx; exact SeqAt.EqAt.str_none a t'
  | bl b => cases rx; exact SeqAt.EqAt.str_bool a t' b
  | int b => obtain ⟨t,rfl⟩ := rx; exact SeqAt.EqAt.str_int a t' b t
  | str b => obtain ⟨t,rfl⟩ := rx; exact SeqAt.EqAt.str_str a t' b t
  | _ => exact absurd (show false = true from fx) AC
 | _ => exact absurd (show false = true from fy) AC
def lB (x : V) (u : Value) : Bool := match u with
 | .none => qK .non x
 | .bool b => qK (.bl b) x
 | .int i _ => qK (.int i) x
 | .str z _ => qK (.str z) x
 | _ => false
theorem o9 {x y : V} {u : Value} (r : RelV y u) (f : eZ y = true) : lB x u = qK y x := by
 cases y with
 | non => cases r; rfl
 | bl b => cases r; rfl
 | int i => obtain ⟨t,rfl⟩ := r; rfl
 | str z => obtain ⟨t,rfl⟩ := r; rfl
 | _ => exact absurd (show false = true from f) AC
theorem fc {x : V} : ∀ {xs : List V} {us : List Value},aR xs us -> xs.all eZ = true -> us.any (lB x) = xs.any fun y => qK y x
 | _,_,.nil,_ => rfl
 | y :: xs,u :: us,.cons r t,f => by
  rw [List.all_cons,Bool.and_eq_true] at f
  rw [List.any_cons,List.any_cons,o9 r f.1,fc t f.2]
theorem d6 {A : Around} {s : Shared} {x : V} {v : Value} (rx : RelV x v) (fx : eZ x = true) : ∀ {xs : List V} {us : List Value},aR xs us -> xs.all eZ = true -> ∀ u ∈ us,SeqAt.EqAt A s u v (lB x u)
 | _,_,.nil,_ => fun u hu => by cases hu
 | y :: xs,u :: us,.cons r t,f => fun u' hu => by
  rw [List.all_cons,Bool.and_eq_true] at f
  rcases A8.mp hu with rfl | hu
  ·rw [o9 r f.1]; exact tK r rx f.1 fx
  ·exact d6 rx fx t f.2 u' hu
def tL (x : V) (xs : List V) : Bool := xs.any fun y => qK y x
def xq (K : A0) (neg : Bool) : R2 := fun x y H Q => ∃ p xs,y = .ref p /\ (bc K H p xs ∨ cQ K H p xs) /\ eZ x = true /\ xs.all eZ = true /\ Q (.bl (if neg then !tL x xs else tL x xs)) H
theorem iL : eX X (compareOp .In) (xq X.K false) := by
 intro pins s σ H x y v u Q I rx ry h
 obtain ⟨p,xs,rfl,hq,fx,fs,q⟩ := h
 cases ry
 rcases hq with hq | hq
 ·obtain ⟨its,r,pl,hz⟩ := I.list hq
  refine SeqAt.in_listAt (lB x) pl.isList (fun w hw => d6 rx fx r fs w (by simpa using hw)) ⟨.bl _,H,I,rfl,?_⟩
  rw [show its.toArray.any (lB x) = its.any (lB x) by simp,fc r fs]
  exact q
 ·obtain ⟨its,r,pl,hz⟩ := I.tuple hq
  refine SeqAt.in_tupleAt (lB x) pl (fun w hw => d6 rx fx r fs w (by simpa using hw)) ⟨.bl _,H,I,rfl,?_⟩
  rw [show its.toArray.any (lB x) = its.any (lB x) by simp,fc r fs]
  exact q
theorem ff : eX X (compareOp .NotIn) (xq X.K true) := by
 intro pins s σ H x y v u Q I rx ry h
 obtain ⟨p,xs,rfl,hq,fx,fs,q⟩ := h
 cases ry
 rcases hq with hq | hq
 ·obtain ⟨its,r,pl,hz⟩ := I.list hq
  refine SeqAt.notIn_listAt (lB x) pl.isList (fun w hw => d6 rx fx r fs w (by simpa using hw)) ⟨.bl _,H,I,rfl,?_⟩
  rw [show its.toArray.any (lB x) = its.any (lB x) by simp,fc r fs]
  exact q
 ·obtain ⟨its,r,pl,hz⟩ := I.tuple hq
  refine SeqAt.notIn_tupleAt (lB x) pl (fun w hw => d6 rx fx r fs w (by simpa using hw)) ⟨.bl _,H,I,rfl,?_⟩
  rw [show its.toArray.any (lB x) = its.any (lB x) by simp,fc r fs]
  exact q
theorem jm : eX X (compareOp .NotIn) (fun x y H Q => ∃ i j,x = .str i /\ y = .str j /\ Q (.bl (!(!(Builtin.Str.occurrences j i 0 j.length 1).isEmpty))) H) := by
 intro pins s σ H x y v u Q I rx ry h
 obtain ⟨i,j,rfl,rfl,q⟩ := h
 obtain ⟨t,rfl⟩ := rx
 obtain ⟨t',rfl⟩ := ry
 exact notIn_str ⟨.bl _,H,I,rfl,q⟩
theorem aW : de X (.builtin "len") (fun xs H Q => ∃ p ys,xs = [.ref p] /\ (bc X.K H p ys ∨ cQ X.K H p ys) /\ Q (.int ys.length) H) := by
 intro pins s σ H xs us Q I r h
 obtain ⟨p,ys,rfl,hq,q⟩ := h
 obtain ⟨u,rfl,rx⟩ := vals1 r
 cases rx
 have hn := gJ
 rcases hq with hq | hq
 ·obtain ⟨its,r',pl,hz⟩ := I.list hq
  have hlen := r'.length
  exact Calls.call_len_list pl.isList (by simp only [AK] <;> omega) ⟨.int ys.length,H,I.tok _,⟨s.toks + 1,by rw [AK,hlen]⟩,q⟩
 ·obtain ⟨its,r',pl,hz⟩ := I.tuple hq
  have hlen := r'.length
  exact len_tuple pl (by simp only [AK] <;> omega) ⟨.int ys.length,H,I.tok _,⟨s.toks + 1,by rw [AK,hlen]⟩,q⟩
theorem fh : de X (.builtin "len") (fun xs H Q => ∃ z,xs = [.str z] /\ z.length <= sizeLine /\ Q (.int z.length) H) := by
 intro pins s σ H xs us Q I r h
 obtain ⟨z,rfl,hz,q⟩ := h
 obtain ⟨u,rfl,t,rfl⟩ := vals1 r
 have hn := gJ
 exact len_str (by omega) ⟨.int z.length,H,I.tok _,⟨_,rfl⟩,q⟩
def xt (K : A0) (T : String) (x : V) (H : Hp) : Prop := match x with
 | .str _ => T = "str"
 | .int _ => T = "int"
 | .ref p => (T = "list" /\ ∃ xs,bc K H p xs) ∨ (T = "tuple" /\ ∃ o,K.lookup p = some o /\ o.cls = .type "tuple" /\ o.dict = none) ∨
   (T = "dict" /\ ((∃ kvs,H p = some (.dK kvs)) ∨ ∃ kvs,H p = some (.dT kvs))) ∨ (T = "set" /\ ∃ S n,H p = some (.set S n))
 | _ => False
theorem pe {pins : List (Addr × Obj)} {σ : St} {H : Hp} {s : Shared} {T : String} {x : V} {v : Value} (I : au X pins σ H s) (r : RelV x v) (ty : xt X.K T x H) :
  s.TypeIs v T /\ ∀ a,v = .ref a -> ∃ ob,s.heap.get? a = some ob /\ ob.dict = none := by
 cases x with
 | str z =>
  obtain ⟨t,rfl⟩ := r
  cases (show T = "str" from ty)
  exact ⟨typeIs_str s z t,fun _ e => nomatch e⟩
 | int i =>
  obtain ⟨t,rfl⟩ := r
  cases (show T = "int" from ty)
  exact ⟨typeIs_int s i t,fun _ e => nomatch e⟩
 | ref p =>
  cases r
  rcases ty with ⟨rfl,xs,hq⟩ | ⟨rfl,o,hk,hc,hd⟩ | ⟨rfl,hk⟩ | ⟨rfl,S,n,hk⟩
  ·obtain ⟨its,_,pl,_⟩ := I.list hq
   refine ⟨pl.isList.typeIs,fun a e => ?_⟩
   cases e
   obtain ⟨o,n,e,c,hd,_⟩ := pl
   exact ⟨o,e,hd⟩
  ·refine ⟨⟨o,I.kIn p o hk,hc⟩,fun a e => ?_⟩
   cases e
   exact ⟨o,I.kIn _ o hk,hd⟩
  ·have z : ∃ o,s.heap.get? p = some o /\ o.ExactDict := by
    rcases hk with ⟨kvs,hk⟩ | ⟨kvs,hk⟩
    ·obtain ⟨_,_,_,_,o,_,_,e,ex,_⟩ := I.hok p _ hk
     exact ⟨o,e,ex⟩
    ·obtain ⟨_,_,_,_,o,_,_,e,ex,_⟩ := I.hok p _ hk
     exact ⟨o,e,ex⟩
   obtain ⟨o,e,ex⟩ := z
   refine ⟨⟨o,e,ex.1⟩,fun a e2 => ?_⟩
   cases e2
   exact ⟨o,e,ex.2.1⟩
  ·obtain ⟨o,_,_,_,e,ex,_⟩ := I.hok p _ hk
   refine ⟨⟨o,e,ex.1⟩,fun a e2 => ?_⟩
   cases e2
   exact ⟨o,e,ex.2.1⟩
 | _ => exact False.elim ty
def xu (K : A0) (T : String) (r : V -> List V -> Hp -> VK -> Prop) (to : TE) : TE := fun σ H Q => to σ H fun x H1 => xt K T x H1 /\ r x [] H1 Q
def yo (K : A0) (T : String) (r : V -> List V -> Hp -> VK -> Prop) (to : TE) (t : TA) : TE := fun σ H Q => to σ H fun x H1 => xt K T x H1 /\ t σ H1 fun xs H2 => r x xs H2 Q
variable {o e : Expr} {es : List Expr} {to : TE} {t : TA} {name : Str} {apos cpos : Pos} {T id : String} {r : V -> List V -> Hp -> VK -> Prop}
theorem tM (pa : PlainAttrs T) (slot : Slot T name id) (hty : typeOf (.builtin id) = pure (.type "method_descriptor")) (hm : xh X id r) (ho : PE X o to)
  (hbase : attributeBase o name X.env (eval o X.env) = eval o X.env := by rfl) (hline : (apos.endLine == cpos.line) = true := by rfl) : PE X (.Call (.Attribute o name apos) [] [] cpos) (xu X.K T r to) := by
 intro pins s σ H Q I h
 refine wpAny_Call_method0_late hbase hline (bv (ho pins s σ H _ I h) fun v s1 ⟨x,H1,I1,r1,ty,q1⟩ => ?_)
 obtain ⟨h1,h2⟩ := pe I1 r1 ty
 exact ⟨T,id,pa,slot,hty,h1,h2,Calls.callWith_builtin rfl (PySem.evalArgs_none (hm pins s1 σ H1 x [] v [] Q I1 r1 .nil q1))⟩
theorem dG (pa : PlainAttrs T) (slot : Slot T name id) (hty : typeOf (.builtin id) = pure (.type "method_descriptor")) (hm : xh X id r) (ho : PE X o to) (ha : PA X (e :: es) t)
  (hbase : attributeBase o name X.env (eval o X.env) = eval o X.env := by rfl)
  (hfew : ((backTo cpos (starEach (e :: es) X.env)).all (fun x => !x.1) && (backToKw cpos (keywordEach [] X.env)).all (fun x => x.1.isSome)
   && decide ((e :: es).length + ([] : List Keyword).length + (if ([] : List Keyword).isEmpty then 0 else 1) < 30)) = true := by rfl)
  (hline : (apos.endLine == cpos.line) = true := by rfl) (hs : starEach (e :: es) X.env = (false,eval e X.env) :: starEach es X.env := by rfl) (hplain : (backTo cpos (starEach es X.env)).any (·.1) = false := by rfl) :
  PE X (.Call (.Attribute o name apos) (e :: es) [] cpos) (yo X.K T r to t) := by
 intro pins s σ H Q I h
 refine wpAny_Call_method_late hbase hfew hline rfl (bv (ho pins s σ H _ I h) fun v s1 ⟨x,H1,I1,r1,ty,q1⟩ => ?_)
 obtain ⟨h1,h2⟩ := pe I1 r1 ty
 refine ⟨T,id,pa,slot,hty,h1,h2,?_⟩
 have hA := ha cpos pins s1 σ H1 _ I1 q1
 rw [hs] at hA ⊢
 refine Calls.callWith_builtin (by show (false || (backTo cpos (starEach es X.env)).any (·.1)) = false; rw [hplain] <;> rfl) (Calls.evalArgs_plain ?_)
 exact bv hA fun us s2 ⟨vs,H2,I2,r2,q2⟩ => hm pins s2 σ H2 x vs v us Q I2 r1 r2 q2
end
def yb (X : Cx) (id : String) (r : V -> List V -> Hp -> VK -> Prop) : Prop :=
 ∀ (pins : List (Addr × Obj)) (s : Shared) (σ : St) (H : Hp) (x : V) (xs : List V) (v : Value) (us : List Value) (Q : VK),au X pins σ H s -> RelV x v -> aR xs us -> r x xs H Q ->
  wpAny (model X.prog X.w) X.A (call (.builtin id) (v :: us)) (EP X pins σ Q) X.xe s
theorem aR.one : ∀ {x : V} {us : List Value},aR [x] us -> ∃ u,us = [u] /\ RelV x u
 | _,_,.cons r .nil => ⟨_,rfl,r⟩
theorem aR.zero : ∀ {us : List Value},aR [] us -> us = []
 | _,.nil => rfl
theorem aR.dropLast {xs : List V} {us : List Value} (h : aR xs us) : aR xs.dropLast us.dropLast := by
 induction h with
 | nil => exact .nil
 | cons r t ih =>
  cases t with
  | nil => exact .nil
  | cons q t' => exact .cons r ih
theorem lC {α : Type} (l : List α) : l.eraseIdx (l.length - 1) = l.dropLast := by
 induction l with
 | nil => rfl
 | cons a r ih =>
  cases r with
  | nil => rfl
  | cons b r =>
   have e : (a :: b :: r).length - 1 = ((b :: r).length - 1) + 1 := by
    have h1 : (a :: b :: r).length = r.length + 2 := rfl
    have h2 : (b :: r).length = r.length + 1 := rfl
    omega
   rw [e,List.eraseIdx_cons_succ,ih]
   all_goals rfl
section
variable {X : Cx} {pins : List (Addr × Obj)} {σ : St} {H : Hp} {s : Shared} {l b : Addr} {xs ys zs : List V}
theorem au.lset {its its' : List Value} {n : Nat} {f : Array Value -> Array Value} {t' : Nat} (I : au X pins σ H s) (hH : H l = some (.lst xs))
  (e : s.heap.get? l = some { cls := .type "list",data := .seq its.toArray n }) (hf : f its.toArray = its'.toArray) (hv : aR ys its') (hz : ys.length <= sizeLine) :
  au X pins σ (aq H l (.lst ys)) { s with heap := s.heap.update l (Obj.mapSeq f),toks := t' } := by
 have q := PySem.IsL.update e f
 rw [hf] at q
 refine I.write (x := l) (e := l) (by rw [hH]; exact trivial) (.inl rfl) (fun b' u hb hu => (Heap.get?_update_other s.heap (Obj.mapSeq f) (Ne.symm hb)).trans hu) ⟨_,q⟩ ?_
 exact ⟨hz,its',_,hv,q⟩
theorem au.lnew {its : List Value} {t' : Nat} (I : au X pins σ H s) (hv : aR ys its) (hz : ys.length <= sizeLine) :
  au X pins σ (aq H s.heap.objs.size (.lst ys)) { s with heap := s.heap.push { cls := .type "list",data := .seq its.toArray },toks := t' } :=
 I.laid (fun _ _ q => Heap.get?_push_of_some _ q) (A4 _) ⟨hz,its,0,hv,Heap.get?_push_size _ rfl⟩
theorem au.fresh (I : au X pins σ H s) : H s.heap.objs.size = none := I.hok.fresh (A4 _)
theorem au.lstM (I : au X pins σ H s) (hH : H l = some (.lst xs)) : xs.length <= sizeLine /\ ∃ (its : List Value) (n : Nat),aR xs its /\ xs.length = its.length /\ s.heap.get? l = some { cls := .type "list",data := .seq its.toArray n } := by
 obtain ⟨z,its,n,r,e⟩ := I.hok l _ hH
 exact ⟨z,its,n,r,r.length,e⟩
end
section
variable {X : Cx}
def qL : V -> List V -> Hp -> VK -> Prop := fun x vs H Q => ∃ l xs y,x = .ref l /\ vs = [y] /\ H l = some (.lst xs) /\ xs.length < sizeLine /\ Q .non (aq H l (.lst (xs ++ [y])))
theorem bE : yb X "list.append" qL := by
 intro pins s σ H x vs v us Q I rx rv h
 obtain ⟨l,xs,y,rfl,rfl,hH,hz,q⟩ := h
 cases rx
 obtain ⟨u,rfl,ru⟩ := rv.one
 obtain ⟨z,its,n,r,hl,e⟩ := I.lstM hH
 refine call_meets F.slot_list_append ⟨_,e,rfl⟩ F.entry_list_append (F.args_list_append_2 _ _) (PySem.list_append l its.toArray n u (by rw [AK]; omega)) ⟨e,?_⟩
 refine ⟨.non,_,I.lset (its' := its ++ [u]) hH e (by simp) (r.append (.cons ru .nil)) ?_,rfl,q⟩
 rw [A6,AL]
 omega
def xv : V -> List V -> Hp -> VK -> Prop := fun x vs H Q => ∃ l xs y,x = .ref l /\ vs = [] /\ H l = some (.lst xs) /\ xs[xs.length - 1]? = some y /\ Q y (aq H l (.lst xs.dropLast))
theorem tN : yb X "list.pop" xv := by
 intro pins s σ H x vs v us Q I rx rv h
 obtain ⟨l,xs,y,rfl,rfl,hH,hy,q⟩ := h
 cases rx
 have hus := rv.zero
 subst hus
 obtain ⟨z,its,n,r,hl,e⟩ := I.lstM hH
 obtain ⟨u,hu,ru⟩ := r.get hy
 have hy' : its.toArray[its.toArray.size - 1]? = some u := by
  show its.toArray[its.length - 1]? = some u
  rw [<- As,<- hl]
  exact hu
 refine call_meets F.slot_list_pop ⟨_,e,rfl⟩ F.entry_list_pop (F.args_list_pop_1 _) (MeetsSeq.list_pop_last l its.toArray n u hy' (by rw [AK]; omega)) ⟨e,?_⟩
 refine ⟨y,_,I.lset (its' := its.dropLast) hH e ?_ r.dropLast ?_,ru,q⟩
 ·show its.toArray.eraseIdxIfInBounds (its.toArray.size - 1) = its.dropLast.toArray
  rw [AK,List.eraseIdxIfInBounds_toArray,lC]
 ·rw [List.length_dropLast]
  omega
def xw : R2 := fun x y H Q => ∃ l b xs zs,x = .ref l /\ y = .ref b /\ H l = some (.lst xs) /\ H b = some (.lst zs) /\ xs.length + zs.length <= sizeLine /\ ∀ p,H p = none -> Q (.ref p) (aq H p (.lst (xs ++ zs)))
theorem pf : eX X (binaryOp .Add) xw := by
 intro pins s σ H x y v u Q I rx ry h
 obtain ⟨l,b,xs,zs,rfl,rfl,hH,hB,hz,q⟩ := h
 cases rx
 cases ry
 obtain ⟨z,its,n,r,hl,e⟩ := I.lstM hH
 obtain ⟨z2,its2,n2,r2,hl2,e2⟩ := I.lstM hB
 refine PySem.P.add_list e e2 ?_ (by rw [AK,AK]; omega)
 have ea : its.toArray ++ its2.toArray = (its ++ its2).toArray := by simp
 rw [ea]
 exact ⟨.ref _,_,I.lnew (t' := s.toks) (r.append r2) (by rw [A6]; omega),rfl,q _ I.fresh⟩
end
section
variable {prog : Program} {w : World} {A : Around} {E : Value -> Shared -> Prop} {s : Shared}
end
section
variable {X : Cx}
end
section
variable {κ : Type} [DecidableEq κ]
def aK (kvs : List (κ × V)) (k : κ) : Option V := (kvs.find? fun kv => decide (kv.1 = k)).map (·.2)
def putK (kvs : List (κ × V)) (k : κ) (v : V) : List (κ × V) :=
 if (kvs.any fun kv => decide (kv.1 = k)) = true then kvs.map (fun kv => if kv.1 = k then (kv.1,v) else kv) else kvs ++ [(k,v)]
def gM (kvs : List (κ × V)) (k : κ) : List (κ × V) := kvs.filter fun kv => decide (kv.1 ≠ k)
theorem bg {p : κ × V} {r : List (κ × V)} {k : κ} (e : p.1 = k) : aK (p :: r) k = some p.2 := by simp [aK,BQ,e]
theorem bh {p : κ × V} {r : List (κ × V)} {k : κ} (e : ¬ p.1 = k) : aK (p :: r) k = aK r k := by simp [aK,BQ,e]
theorem dH (k : κ) : ∀ kvs : List (κ × V),(kvs.any fun kv => decide (kv.1 = k)) = (aK kvs k).isSome
 | [] => rfl
 | p :: r => by
  rw [List.any_cons]
  by_cases e : p.1 = k
  ·simp only [bg e,decide_eq_true e,Bool.true_or,Option.isSome_some]
  ·rw [bh e,decide_eq_false e,Bool.false_or]; exact dH k r
theorem j9 (k j : κ) (y : V) : ∀ kvs : List (κ × V),aK (kvs.map fun kv => if kv.1 = k then (kv.1,y) else kv) j = (aK kvs j).map fun x => if j = k then y else x
 | [] => rfl
 | p :: r => by
  have ih := j9 k j y r
  rw [Ag]
  by_cases h : p.1 = k
  ·rw [if_pos h]
   by_cases e : p.1 = j
   ·rw [bg (p := (p.1,y)) e,bg e,BN,if_pos (e.symm.trans h)]
   ·rw [bh (p := (p.1,y)) e,bh e,ih]
  ·rw [if_neg h]
   by_cases e : p.1 = j
   ·rw [bg (p := p) e,bg e,BN,if_neg (fun z => h (e.trans z))]
   ·rw [bh (p := p) e,bh e,ih]
theorem iM (k j : κ) (y : V) : ∀ kvs : List (κ × V),aK kvs k = none -> aK (kvs ++ [(k,y)]) j = if j = k then some y else aK kvs j
 | [],_ => by
  by_cases e : k = j
  ·rw [if_pos e.symm]; exact bg (p := (k,y)) e
  ·rw [if_neg (fun z => e z.symm)]; exact bh (p := (k,y)) e
 | p :: r,hn => by
  rw [List.cons_append]
  have hk : ¬ p.1 = k := fun z => by rw [bg z] at hn; cases hn
  rw [bh hk] at hn
  have ih := iM k j y r hn
  by_cases e : p.1 = j
  ·rw [bg e,bg e,if_neg (fun z => hk (e.trans z))]
  ·rw [bh e,bh e,ih]
theorem fi (kvs : List (κ × V)) (k j : κ) (y : V) : aK (putK kvs k y) j = if j = k then some y else aK kvs j := by
 unfold putK
 by_cases a : (kvs.any fun kv => decide (kv.1 = k)) = true
 ·rw [if_pos a,j9]
  rw [dH] at a
  by_cases e : j = k
  ·obtain ⟨x,hx⟩ := Ak.mp a
   rw [if_pos e,e,hx,BN,if_pos rfl]
  ·rw [if_neg e]
   cases aK kvs j with
   | none => rfl
   | some x => rw [BN,if_neg e]
 ·rw [if_neg a]
  refine iM k j y kvs ?_
  rw [dH] at a
  cases q : aK kvs k with
  | none => rfl
  | some x => rw [q] at a; exact (a rfl).elim
theorem cC (kvs : List (κ × V)) (k : κ) (v : V) : (putK kvs k v).length <= kvs.length + 1 := by
 unfold putK
 split
 ·rw [A2]; omega
 ·rw [A6,Ac,List.length_nil]; omega
theorem d8 {kvs : List (κ × V)} {k : κ} (v : V) (h : aK kvs k = none) : putK kvs k v = kvs ++ [(k,v)] := by
 unfold putK
 rw [dH,h]
 exact if_neg (by decide)
theorem dm.isSome_eq {o : Option V} {u : Option Value} (r : dm o u) : o.isSome = u.isSome := by
 cases o with
 | none => cases u with
  | none => rfl
  | some _ => exact (show False from r).elim
 | some _ => cases u with
  | none => exact (show False from r).elim
  | some _ => rfl
theorem dm.getD {o : Option V} {u : Option Value} {d : V} {d' : Value} (r : dm o u) (rd : RelV d d') : RelV (o.getD d) (u.getD d') := by
 cases o with
 | none => cases u with
  | none => exact rd
  | some _ => exact (show False from r).elim
 | some _ => cases u with
  | none => exact (show False from r).elim
  | some _ => exact r
theorem KV.val {kvs : List (κ × V)} {vs : List (κ × Value)} (r : KV kvs vs) (k : κ) : dm (aK kvs k) (valueAt vs k) := by
 unfold KV at r
 induction r with
 | nil => exact True.intro
 | @cons p q ps qs h t ih =>
  obtain ⟨h1,h2⟩ := h
  by_cases e : p.1 = k
  ·have e' : q.1 = k := h1.symm.trans e
   have b : valueAt (q :: qs) k = some q.2 := by simp [valueAt,BQ,e']
   rw [bg e,b]; exact h2
  ·have e' : ¬ q.1 = k := fun z => e (h1.trans z)
   have b : valueAt (q :: qs) k = valueAt qs k := by simp [valueAt,BQ,e']
   rw [bh e,b]; exact ih
theorem KV.any {kvs : List (κ × V)} {vs : List (κ × Value)} (r : KV kvs vs) (k : κ) : (kvs.any fun kv => decide (kv.1 = k)) = vs.any fun kv => decide (kv.1 = k) := by
 unfold KV at r
 induction r with
 | nil => rfl
 | cons h t ih => rw [List.any_cons,List.any_cons,ih,h.1]
theorem KV.repl {kvs : List (κ × V)} {vs : List (κ × Value)} (r : KV kvs vs) (k : κ) {y : V} {u : Value} (ry : RelV y u) :
  KV (kvs.map fun kv => if kv.1 = k then (kv.1,y) else kv) (vs.map fun kv => if kv.1 = k then (kv.1,u) else kv) := by
 unfold KV at r ⊢
 induction r with
 | nil => exact .nil
 | @cons p q ps qs h t ih =>
  rw [Ag,Ag]
  refine .cons ?_ ih
  obtain ⟨h1,h2⟩ := h
  by_cases e : p.1 = k
  ·rw [if_pos e,if_pos (h1.symm.trans e)]; exact ⟨h1,ry⟩
  ·rw [if_neg e,if_neg (fun z => e (h1.trans z))]; exact ⟨h1,h2⟩
theorem KV.put {kvs : List (κ × V)} {vs : List (κ × Value)} (r : KV kvs vs) (k : κ) {y : V} {u : Value} (ry : RelV y u) : KV (putK kvs k y) (stored vs k u) := by
 unfold putK stored
 rw [r.any k]
 by_cases e : (vs.any fun kv => decide (kv.1 = k)) = true
 ·rw [if_pos e,if_pos e]; exact r.repl k ry
 ·rw [if_neg e,if_neg e]; exact Paired.snoc r ⟨rfl,ry⟩
theorem KV.drop {kvs : List (κ × V)} {vs : List (κ × Value)} (r : KV kvs vs) (k : κ) : KV (gM kvs k) (without vs k) := by
 unfold KV at r ⊢
 unfold gM without
 induction r with
 | nil => exact .nil
 | @cons p q ps qs h t ih =>
  obtain ⟨h1,h2⟩ := h
  rw [BI,BI]
  by_cases e : p.1 = k
  ·have a : ¬ decide (p.1 ≠ k) = true := by simp [e]
   have b : ¬ decide (q.1 ≠ k) = true := by simp [h1.symm.trans e]
   rw [if_neg a,if_neg b]; exact ih
  ·have e' : ¬ q.1 = k := fun z => e (h1.trans z)
   have a : decide (p.1 ≠ k) = true := by simp [e]
   have b : decide (q.1 ≠ k) = true := by simp [e']
   rw [if_pos a,if_pos b]; exact .cons ⟨h1,h2⟩ ih
theorem KV.length {kvs : List (κ × V)} {vs : List (κ × Value)} (r : KV kvs vs) : kvs.length = vs.length := Paired.length r
theorem ph (kvs : List (κ × V)) (k : κ) : (gM kvs k).length <= kvs.length := B8 _ _
end
theorem eJ {P : Program} {w : World} {k : Key} {u : Value} (r : RelV (kV k) u) : (aX P w).is k u = true := by
 cases k with
 | inl i => obtain ⟨t,e⟩ := (show ∃ t,u = Value.int i t from r); subst e; exact jY P w i t
 | inr x => obtain ⟨t,e⟩ := (show ∃ t,u = Value.str x t from r); subst e; exact jZ P w x t
theorem iN {P : Program} {w : World} : ∀ {ks : List Key} {us : List Value},aR (ks.map kV) us -> ItemsAre (aX P w) ks us
 | [],_,r => by rw [List.map_nil] at r; cases r; exact .nil
 | k :: ks,_,r => by
  rw [Ag] at r
  cases r with
  | cons h t => exact .cons (eJ h) (iN t)
abbrev KT (H : Hp) : List (List Key × V) -> List (List Key × Addr × Value) -> Prop := Paired fun p q => p.1 = q.1 /\ H q.2.1 = some (.tup (p.1.map kV)) /\ RelV p.2 q.2.2
theorem KT.val {H : Hp} {kvs : List (List Key × V)} {xs : List (List Key × Addr × Value)} (r : KT H kvs xs) (k : List Key) : dm (aK kvs k) ((atKey xs k).map (·.2)) := by
 induction r with
 | nil => exact True.intro
 | @cons p q ps qs h t ih =>
  obtain ⟨h1,_,h2⟩ := h
  by_cases e : p.1 = k
  ·have e' : q.1 = k := h1.symm.trans e
   have b : atKey (q :: qs) k = some q.2 := by simp [atKey,BQ,e']
   rw [bg e,b]; exact h2
  ·have e' : ¬ q.1 = k := fun z => e (h1.trans z)
   have b : atKey (q :: qs) k = atKey qs k := by simp [atKey,BQ,e']
   rw [bh e,b]; exact ih
theorem KT.repl {H : Hp} {kvs : List (List Key × V)} {xs : List (List Key × Addr × Value)} (r : KT H kvs xs) (k : List Key) {y : V} {u : Value} (ry : RelV y u) :
  KT H (kvs.map fun kv => if kv.1 = k then (kv.1,y) else kv) (xs.map (putAt k u)) := by
 induction r with
 | nil => exact .nil
 | @cons p q ps qs h t ih =>
  rw [Ag,Ag]
  refine .cons ?_ ih
  obtain ⟨h1,h2,h3⟩ := h
  unfold putAt
  by_cases e : p.1 = k
  ·rw [if_pos e,if_pos (h1.symm.trans e)]; exact ⟨h1,h2,ry⟩
  ·rw [if_neg e,if_neg (fun z => e (h1.trans z))]; exact ⟨h1,h2,h3⟩
theorem KT.put {H : Hp} {kvs : List (List Key × V)} {xs : List (List Key × Addr × Value)} (r : KT H kvs xs) (k : List Key) {b : Addr} {y : V} {u : Value} (hb : H b = some (.tup (k.map kV))) (ry : RelV y u) :
  KT H (putK kvs k y) (storedH xs k b u) := by
 have e : (kvs.any fun kv => decide (kv.1 = k)) = (atKey xs k).isSome := by
  rw [dH,(r.val k).isSome_eq,Option.isSome_map]
 unfold putK storedH
 rw [e]
 by_cases q : (atKey xs k).isSome = true
 ·rw [if_pos q,if_pos q]; exact r.repl k ry
 ·rw [if_neg q,if_neg q]; exact Paired.snoc r ⟨rfl,hb,ry⟩
theorem KT.keeps {H H' : Hp} {kvs : List (List Key × V)} {xs : List (List Key × Addr × Value)} (r : KT H kvs xs) (ht : ∀ b ys,H b = some (.tup ys) -> H' b = some (.tup ys)) : KT H' kvs xs :=
 Paired.mapP r fun _ _ z => ⟨z.1,ht _ _ z.2.1,z.2.2⟩
section
variable {P : Program} {w : World} {H : Hp} {h : Heap} {a : Addr}
theorem sX {u : HO} (ok : dy P w H h) (e : Rd H a u) : a8 P w H h a u := e.ok ok
theorem fY {kvs : List (Key × V)} (ok : dy P w H h) (e : Rd H a (.dK kvs)) : kvs.length <= sizeLine /\ (a == sysModules) = false /\ ∃ vs,KV kvs vs /\ h.DictOf (aX P w) a vs :=
 show a8 P w H h a (.dK kvs) from sX ok e
theorem gO {kvs : List (Key × V)} (ok : dy P w H h) (e : H a = some (.dK kvs)) : kvs.length <= sizeLine /\ (a == sysModules) = false /\ ∃ vs,KV kvs vs /\ h.DictOf (aX P w) a vs := fY ok (.inl e)
theorem fP {ks : List Key} (ok : dy P w H h) (e : H a = some (.tup (ks.map kV))) : (tupleKind (aX P w)).is h ks a := by
 obtain ⟨_,its,r,o,h1,h2,n,h3⟩ := (show a8 P w H h a (.tup (ks.map kV)) from ok a _ e)
 exact ⟨o,its.toArray,n,h1,h2,h3,by simpa using iN r⟩
theorem gP {kvs : List (List Key × V)} (ok : dy P w H h) (e : Rd H a (.dT kvs)) : kvs.length <= sizeLine /\ (a == sysModules) = false /\
  ∃ xs,KT H kvs xs /\ h.DictOfH (tupleKind (aX P w)) a xs := by
 obtain ⟨z,y,xs,r,o,es,ep,h1,h2,h3,h4,h5⟩ := (show a8 P w H h a (.dT kvs) from sX ok e)
 refine ⟨z,y,xs,r,o,es,ep,h1,h2,h3,h4,fun x hx => ?_,h5⟩
 have all : ∀ {l : List (List Key × V)} {m : List (List Key × Addr × Value)},KT H l m -> ∀ x ∈ m,(tupleKind (aX P w)).is h x.1 x.2.1 := by
  intro l m q
  induction q with
  | nil => intro x hx; exact nomatch hx
  | @cons p q ps qs hq t ih =>
   intro x hx
   rcases A8.mp hx with e | hx
   ·subst e
    exact fP ok (by rw [<- hq.1]; exact hq.2.1)
   ·exact ih x hx
 exact all r x hx
theorem uV {kvs : List (List Key × V)} (ok : dy P w H h) (e : H a = some (.dT kvs)) : kvs.length <= sizeLine /\ (a == sysModules) = false /\
  ∃ xs,KT H kvs xs /\ h.DictOfH (tupleKind (aX P w)) a xs := gP ok (.inl e)
end
def b5 (H : Hp) (a : Addr) (y : V) (r : Option V) : Prop :=
 (∃ kvs k,Rd H a (.dK kvs) /\ y = kV k /\ r = aK kvs k) ∨ ∃ kvs k b,Rd H a (.dT kvs) /\ y = .ref b /\ H b = some (.tup (k.map kV)) /\ r = aK kvs k
def d4 (H : Hp) (a : Addr) (y v : V) (H' : Hp) : Prop :=
 (∃ kvs k,H a = some (.dK kvs) /\ y = kV k /\ kvs.length < sizeLine /\ H' = aq H a (.dK (putK kvs k v))) ∨
 ∃ kvs k b,H a = some (.dT kvs) /\ y = .ref b /\ H b = some (.tup (k.map kV)) /\ kvs.length < sizeLine /\ H' = aq H a (.dT (putK kvs k v))
theorem b5.k {H : Hp} {a : Addr} {kvs : List (Key × V)} {k : Key} (e : H a = some (.dK kvs)) : b5 H a (kV k) (aK kvs k) := .inl ⟨kvs,k,.inl e,rfl,rfl⟩
theorem b5.t {H : Hp} {a b : Addr} {kvs : List (List Key × V)} {k : List Key} (e : H a = some (.dT kvs)) (eb : H b = some (.tup (k.map kV))) : b5 H a (.ref b) (aK kvs k) := .inr ⟨kvs,k,b,.inl e,rfl,eb,rfl⟩
theorem d4.k {H : Hp} {a : Addr} {kvs : List (Key × V)} {k : Key} {v : V} (e : H a = some (.dK kvs)) (hl : kvs.length < sizeLine) : d4 H a (kV k) v (aq H a (.dK (putK kvs k v))) := .inl ⟨kvs,k,e,rfl,hl,rfl⟩
theorem d4.t {H : Hp} {a b : Addr} {kvs : List (List Key × V)} {k : List Key} {v : V} (e : H a = some (.dT kvs)) (eb : H b = some (.tup (k.map kV))) (hl : kvs.length < sizeLine) :
  d4 H a (.ref b) v (aq H a (.dT (putK kvs k v))) := .inr ⟨kvs,k,b,e,rfl,eb,hl,rfl⟩
section
variable {X : Cx} {pins : List (Addr × Obj)} {σ : St} {H : Hp} {s : Shared} {a : Addr} {y v : V} {u r : Value} {o : Option V} {A : Around} {E : Value -> Shared -> Prop}
theorem au.big (I : au X pins σ H s) : sysModules < s.heap.objs.size := by
 have h : mainGlobals < s.heap.objs.size := (I.mod.glob.keeps I.bk).lt
 exact Nat.lt_trans (by decide) h
theorem nK {Q : Value -> Shared -> Prop} (hu : A.units + 1 < cLine) (I : au X pins σ H s) (g : b5 H a y (some v)) (ry : RelV y u) (h : ∀ w' s',au X pins σ H s' -> RelV v w' -> Q w' s') :
  wpAny (model X.prog X.w) A (getItem (.ref a) u) Q E s := by
 rcases g with ⟨kvs,k,e,ey,l⟩ | ⟨kvs,k,b,e,ey,eb,l⟩
 ·subst ey
  obtain ⟨z,hd,vs,rel,dd⟩ := fY I.hok e
  obtain ⟨w',hw,rw'⟩ := dm.some_of (v := v) (o := valueAt vs k) (by rw [l]; exact rel.val k)
  exact wpAny_getItem_of (eJ ry) dd.mapOf hw (h w' _ (I.tok _) rw')
 ·subst ey
  cases (show u = Value.ref b from ry)
  obtain ⟨z,hd,xs,rel,dd⟩ := gP I.hok e
  obtain ⟨w',hw,rw'⟩ := dm.some_of (v := v) (o := (atKey xs k).map (·.2)) (by rw [l]; exact rel.val k)
  obtain ⟨p,hp,hp2⟩ := Ah.mp hw
  refine wpAny_getItem_heap (tupleKind_room_in1 hu) (fP I.hok eb) dd hp ?_
  rw [hp2]
  exact h w' _ (I.tok _) rw'
theorem xz {Q : Value -> Shared -> Prop} (hu : A.units + 1 < cLine) (I : au X pins σ H s) (g : b5 H a y o) (ry : RelV y u) (h : ∀ s',au X pins σ H s' -> Q (.bool o.isSome) s') :
  wpAny (model X.prog X.w) A (compareOp .In u (.ref a)) Q E s := by
 rcases g with ⟨kvs,k,e,ey,l⟩ | ⟨kvs,k,b,e,ey,eb,l⟩
 ·subst ey
  obtain ⟨z,hd,vs,rel,dd⟩ := fY I.hok e
  refine wpAny_in_of (eJ ry) hd dd.mapOf ?_
  rw [<- (rel.val k).isSome_eq,<- l]
  exact h _ (I.tok _)
 ·subst ey
  cases (show u = Value.ref b from ry)
  obtain ⟨z,hd,xs,rel,dd⟩ := gP I.hok e
  refine wpAny_in_heap (tupleKind_room_in1 hu) (fP I.hok eb) hd dd ?_
  have q := (rel.val k).isSome_eq
  rw [Option.isSome_map] at q
  rw [<- q,<- l]
  exact h _ (I.tok _)
theorem qM {Q : Value -> Shared -> Prop} (hu : A.units + 1 < cLine) (I : au X pins σ H s) (g : b5 H a y o) (ry : RelV y u) (h : ∀ s',au X pins σ H s' -> Q (.bool (!o.isSome)) s') :
  wpAny (model X.prog X.w) A (compareOp .NotIn u (.ref a)) Q E s := by
 rcases g with ⟨kvs,k,e,ey,l⟩ | ⟨kvs,k,b,e,ey,eb,l⟩
 ·subst ey
  obtain ⟨z,hd,vs,rel,dd⟩ := fY I.hok e
  refine wpAny_notIn_of (eJ ry) hd dd.mapOf ?_
  rw [<- (rel.val k).isSome_eq,<- l]
  exact h _ (I.tok _)
 ·subst ey
  cases (show u = Value.ref b from ry)
  obtain ⟨z,hd,xs,rel,dd⟩ := gP I.hok e
  refine wpAny_notIn_heap (tupleKind_room_in1 hu) (fP I.hok eb) hd dd ?_
  have q := (rel.val k).isSome_eq
  rw [Option.isSome_map] at q
  rw [<- q,<- l]
  exact h _ (I.tok _)
theorem fj {h' : Heap} {t' : Nat} {ob : HO} (I : au X pins σ H s) (mu : uC (H a)) (hs : Heap.SameBut a s.heap h') (he : ∃ q,h'.get? a = some q) (new : a8 X.prog X.w (aq H a ob) h' a ob) :
  au X pins σ (aq H a ob) { s with heap := h',toks := t' } :=
 I.write (x := a) (e := a) mu (.inl rfl) (fun b q hb z => (hs.2 b hb).trans z) he new
theorem jn {P : Program} {w : World} {H' : Hp} {h' : Heap} {kvs : List (Key × V)} {vs : List (Key × Value)} (z : kvs.length <= sizeLine) (hd : (a == sysModules) = false) (rel : KV kvs vs) (dd : h'.DictOf (aX P w) a vs) :
  a8 P w H' h' a (.dK kvs) := ⟨z,hd,vs,rel,dd⟩
theorem nL {H' : Hp} {Q : Unit -> Shared -> Prop} (hu : A.units + 1 < cLine) (I : au X pins σ H s) (g : d4 H a y v H') (ry : RelV y u) (rv : RelV v r) (h : ∀ s',au X pins σ H' s' -> Q () s') :
  wpAny (model X.prog X.w) A (setItem (.ref a) u r) Q E s := by
 rcases g with ⟨kvs,k,e,ey,l,eH⟩ | ⟨kvs,k,b,e,ey,eb,l,eH⟩
 ·subst ey eH
  obtain ⟨z,hd,vs,rel,dd⟩ := gO I.hok e
  have hz : vs.length <= sizeLine := by rw [<- rel.length]; exact z
  have hl : (putK kvs k v).length <= sizeLine := by have := cC kvs k v; omega
  refine wpAny_setItem_pairs (hsz := hz) (eJ ry) dd fun h' dd' hs => h _ ?_
  have he : ∃ q,h'.get? a = some q := let ⟨q,_,_,hq,_⟩ := dd'; ⟨q,hq⟩
  exact fj I (by rw [e]; exact True.intro) hs he (jn hl hd (rel.put k rv) dd')
 ·subst ey eH
  cases (show u = Value.ref b from ry)
  obtain ⟨z,hd,xs,rel,dd⟩ := uV I.hok e
  have hz : xs.length <= sizeLine := by rw [<- Paired.length rel]; exact z
  have hl : (putK kvs k v).length <= sizeLine := by have := cC kvs k v; omega
  refine wpAny_setItem_heap (hsz := hz) (tupleKind_room_in1 hu) (fP I.hok eb) dd fun h' dd' hs => h _ ?_
  obtain ⟨q,es,ep,hq,h2,h3,h4,_,h5⟩ := dd'
  refine fj I (by rw [e]; exact True.intro) hs ⟨q,hq⟩ ⟨hl,hd,_,(rel.put k eb rv).keeps fun c ys ec => ?_,q,es,ep,hq,h2,h3,h4,h5⟩
  rw [af (bU ec e (fun z => nomatch z))]
  exact ec
end
section
variable {X : Cx} {pins : List (Addr × Obj)} {σ : St} {H : Hp} {s : Shared} {a : Addr} {kvs : List (Key × V)} {k : Key} {u : Value} {A : Around} {E : Value -> Shared -> Prop}
theorem uW {v : V} {more : List Value} {Q : Value -> Shared -> Prop} (I : au X pins σ H s) (e : H a = some (.dK kvs)) (ry : RelV (kV k) u) (l : aK kvs k = some v) (hm : more = [] ∨ ∃ x,more = [x])
  (h : ∀ w' s',au X pins σ (aq H a (.dK (gM kvs k))) s' -> RelV v w' -> Q w' s') : wpAny (model X.prog X.w) A (call (.builtin "dict.pop") (.ref a :: u :: more)) Q E s := by
 obtain ⟨z,hd,vs,rel,dd⟩ := gO I.hok e
 obtain ⟨w',hw,rw'⟩ := dm.some_of (v := v) (o := valueAt vs k) (by rw [<- l]; exact rel.val k)
 have hp : (keyPart u).isSome = true := by
  cases k with
  | inl i => obtain ⟨t,q⟩ := (show ∃ t,u = Value.int i t from ry); subst q; rfl
  | inr x => obtain ⟨t,q⟩ := (show ∃ t,u = Value.str x t from ry); subst q; rfl
 have ha : argsOk "dict.pop" ⟨.ref a :: u :: more,[]⟩ := by
  rcases hm with q | ⟨x,q⟩
  ·subst q; exact PySem.F.args_dict_pop_2 _ _
  ·subst q; exact PySem.F.args_dict_pop_3 _ _ _
 refine call_meetsIn PySem.F.slot_dict_pop dd.typeIs PySem.F.entry_dict_pop ha (meets_dict_pop_there (aX X.prog X.w) a (eJ ry) more hm hp)
  ⟨vs,w',dd,by rw [<- rel.length]; exact z,hw,fun h' dd' hs => h w' _ ?_ rw'⟩
 have he : ∃ q,h'.get? a = some q := let ⟨q,_,_,hq,_⟩ := dd'; ⟨q,hq⟩
 exact fj I (by rw [e]; exact True.intro) hs he (jn (AT (ph kvs k) z) hd (rel.drop k) dd')
theorem tO {r : Value} {Q : Value -> Shared -> Prop} (I : au X pins σ H s) (e : H a = some (.dK kvs)) (ry : RelV (kV k) u) (l : aK kvs k = none) (h : ∀ s',au X pins σ H s' -> Q r s') :
  wpAny (model X.prog X.w) A (call (.builtin "dict.pop") [.ref a,u,r]) Q E s := by
 obtain ⟨z,hd,vs,rel,dd⟩ := gO I.hok e
 have hn : valueAt vs k = none := dm.none_of (by rw [<- l]; exact rel.val k)
 have hp : (keyPart u).isSome = true := by
  cases k with
  | inl i => obtain ⟨t,q⟩ := (show ∃ t,u = Value.int i t from ry); subst q; rfl
  | inr x => obtain ⟨t,q⟩ := (show ∃ t,u = Value.str x t from ry); subst q; rfl
 exact call_meetsIn PySem.F.slot_dict_pop dd.typeIs PySem.F.entry_dict_pop (PySem.F.args_dict_pop_3 _ _ _) (meets_dict_pop_default (aX X.prog X.w) a (eJ ry) hd hp r) ⟨vs,dd,hn,h _ (I.tok _)⟩
theorem uX {Q : Value -> Shared -> Prop} (I : au X pins σ H s) (e : Rd H a (.dK kvs)) (h : ∀ t s',au X pins σ H s' -> Q (.int kvs.length t) s') : wpAny (model X.prog X.w) A (call (.builtin "len") [.ref a]) Q E s := by
 obtain ⟨z,hd,vs,rel,dd⟩ := fY I.hok e
 refine call_len_dict hd dd (by rw [<- rel.length]; rw [sizeLine_eq] at z; omega) ?_
 rw [<- rel.length]
 exact h _ _ (I.tok _)
end
def uY (i : Expr) : Prop := ∀ ov iv,subscripted i false ov iv = operate [ov,iv] (getItem ov iv)
theorem qN {prog : Program} {w : World} {A : Around} {E : Value -> Shared -> Prop} {s : Shared} {env : Env} {value slice : Expr} {pos : Pos} {T id : String} {Q : Value -> Shared -> Prop}
  (hl : typeLookup (.type T) "__getitem__" = pure (some (.builtin id))) (hs : uY slice)
  (h : wpAny (model prog w) A (eval value env) (fun o s₁ => wpAny (model prog w) A (eval slice env) (fun i s₂ => s₂.TypeIs o T /\ wpAny (model prog w) A (getItem o i) Q E s₂) E s₁) E s) :
  wpAny (model prog w) A (eval (.Subscript value slice pos) env) Q E s := by
 refine Subscript_ (wpAny_mono h (fun o s₁ h₁ => wpAny_mono h₁ (fun i s₂ h₂ => ?_) fun _ _ x => x) fun _ _ x => x)
 obtain ⟨hT,h₂⟩ := h₂
 unfold subscriptTail
 refine wpAny_bind ?_
 rw [getitemInPython_of_ne hT.not_modules]
 refine wpAny_bind (wpAny_specialOf hT hl ?_)
 have fin : wpAny (model prog w) A (subscripted slice false o i) (fun r s₃ => wpAny (model prog w) A (letTemporaryGo value o r >>= fun _ => pure r) Q E s₃) E s₂ := by
  rw [hs o i]
  exact wpAny_operating (wpAny_mono h₂ (fun r s₃ h₃ => wpAny_bind (wpAny_letTemporaryGo (wpAny_pure h₃))) fun _ _ x => x)
 first
  | exact wpAny_pure (wpAny_bind fin)
  | exact wpAny_bind (wpAny_pure (wpAny_bind fin))
  | exact wpAny_bind fin
theorem ka {X : Cx} {pins : List (Addr × Obj)} {σ : St} {H : Hp} {s : Shared} {a : Addr} {y : V} {o : Option V} (I : au X pins σ H s) (g : b5 H a y o) : s.TypeIs (.ref a) "dict" := by
 rcases g with ⟨kvs,k,e,_,_⟩ | ⟨kvs,k,b,e,_,_,_⟩
 ·obtain ⟨_,_,vs,_,dd⟩ := fY I.hok e
  exact dd.typeIs
 ·obtain ⟨_,_,xs,_,dd⟩ := gP I.hok e
  exact dd.typeIs
def uZ (td ty : TE) : TE := fun σ H Q => td σ H fun x H1 => ty σ H1 fun y H2 => ∃ a v,x = .ref a /\ b5 H2 a y (some v) /\ Q v H2
def xA (ty td : TE) : TE := fun σ H Q => ty σ H fun y H1 => td σ H1 fun x H2 => ∃ a o,x = .ref a /\ b5 H2 a y o /\ Q (.bl o.isSome) H2
def qO (ty td : TE) : TE := fun σ H Q => ty σ H fun y H1 => td σ H1 fun x H2 => ∃ a o,x = .ref a /\ b5 H2 a y o /\ Q (.bl (!o.isSome)) H2
def u0 (td ty tv : TE) : TS := fun D σ H => tv σ H fun v H1 => td σ H1 fun x H2 => ty σ H2 fun y H3 => ∃ a H4,x = .ref a /\ d4 H3 a y v H4 /\ D.nx σ H4
section
variable {X : Cx} {o i e value : Expr} {pos pos' tpos : Pos} {td ty tv : TE}
theorem gq (hu : X.A.units + 1 < cLine) (ho : PE X o td) (hi : PE X i ty) (hs : uY i) : PE X (.Subscript o i pos) (uZ td ty) := by
 intro pins s σ H Q I h
 refine qN PySem.F.slot_dict_getitem.lookup hs (bv (ho pins s σ H _ I h) fun u s1 ⟨x,H1,I1,rx,q1⟩ => bv (hi pins s1 σ H1 _ I1 q1) fun iv s2 ⟨y,H2,I2,ry,a,v,ex,g,q2⟩ => ?_)
 subst ex
 obtain rfl : u = Value.ref a := rx
 exact ⟨ka I2 g,nK hu I2 g ry fun w' s3 I3 rw' => ⟨v,H2,I3,rw',q2⟩⟩
theorem gQ (hu : X.A.units + 1 < cLine) (hi : PE X i ty) (ho : PE X o td) : PC X .In i o (xA ty td) := by
 intro pins s σ H Q I h
 refine bv (hi pins s σ H _ I h) fun iv s1 ⟨y,H1,I1,ry,q1⟩ => bv (ho pins s1 σ H1 _ I1 q1) fun u s2 ⟨x,H2,I2,rx,a,ov,ex,g,q2⟩ => ?_
 subst ex
 obtain rfl : u = Value.ref a := rx
 exact xz hu I2 g ry fun s3 I3 => ⟨.bl ov.isSome,H2,I3,rfl,q2⟩
theorem cR (hu : X.A.units + 1 < cLine) (hi : PE X i ty) (ho : PE X o td) : PC X .NotIn i o (qO ty td) := by
 intro pins s σ H Q I h
 refine bv (hi pins s σ H _ I h) fun iv s1 ⟨y,H1,I1,ry,q1⟩ => bv (ho pins s1 σ H1 _ I1 q1) fun u s2 ⟨x,H2,I2,rx,a,ov,ex,g,q2⟩ => ?_
 subst ex
 obtain rfl : u = Value.ref a := rx
 exact qM hu I2 g ry fun s3 I3 => ⟨.bl (!ov.isSome),H2,I3,rfl,q2⟩
theorem cx (hu : X.A.units + 1 < cLine) (ho : PE X o td) (hi : PE X i ty) (hv : PE X value tv) (hs : swapsWith value (some (.Subscript o i pos')) pos.line X.env = pure false) :
  PS X (.Assign [.Subscript o i pos'] value pos) (u0 td ty tv) := by
 intro pins s σ H D I h
 refine wpAny_Assign_Subscript (bv (hv pins s σ H _ I h) fun r s1 ⟨v,H1,I1,rv,q1⟩ => bv (ho pins s1 σ H1 _ I1 q1) fun u s2 ⟨x,H2,I2,rx,q2⟩ => bv (hi pins s2 σ H2 _ I2 q2) fun iv s3 ⟨y,H3,I3,ry,a,H4,ex,g,q3⟩ => ?_) hs
 subst ex
 obtain rfl : u = Value.ref a := rx
 exact nL hu I3 g ry rv fun s4 I4 => ⟨σ,H4,I4,q3⟩
end
theorem kb {P : Program} {w : World} {H : Hp} (h : Heap) (hb : sysModules < h.objs.size) : a8 P w H (h.push { cls := .type "dict",data := .dict #[] }) h.objs.size (.dK []) :=
 ⟨Af _,beq_eq_false_iff_ne.mpr (Ne.symm (AH hb)),[],.nil,Heap.DictOf.new h⟩
theorem pi {P : Program} {w : World} {H : Hp} (h : Heap) (hb : sysModules < h.objs.size) : a8 P w H (h.push { cls := .type "dict",data := .dict #[] }) h.objs.size (.dT []) :=
 ⟨Af _,beq_eq_false_iff_ne.mpr (Ne.symm (AH hb)),[],.nil,_,#[],0,Heap.get?_push_size _ rfl,⟨rfl,rfl,rfl⟩,rfl,rfl,List.nodup_nil⟩
def tP : TE := fun _ H Q => ∀ p,H p = none -> Q (.ref p) (aq H p (.dK []))
def tQ : TE := fun _ H Q => ∀ p,H p = none -> Q (.ref p) (aq H p (.dT []))
section
variable {X : Cx} {pos : Pos}
theorem bV : PE X (.Dict [] [] pos) tP := fun pins s σ H Q I h =>
 wpAny_Dict_empty ⟨.ref s.heap.objs.size,_,I.laid (a := s.heap.objs.size) (o := .dK []) (t' := s.toks) (fun _ _ q => Heap.get?_push_of_some _ q) (A4 _) (kb s.heap I.big),rfl,h _ (I.hok.fresh (A4 _))⟩
theorem fo : PE X (.Dict [] [] pos) tQ := fun pins s σ H Q I h =>
 wpAny_Dict_empty ⟨.ref s.heap.objs.size,_,I.laid (a := s.heap.objs.size) (o := .dT []) (t' := s.toks) (fun _ _ q => Heap.get?_push_of_some _ q) (A4 _) (pi s.heap I.big),rfl,h _ (I.hok.fresh (A4 _))⟩
end
def lD : List (TE × TE) -> St -> Hp -> (List (V × V) -> Hp -> Prop) -> Prop
 | [],_,H,Q => Q [] H
 | (tk,tv) :: r,σ,H,Q => tk σ H fun x H1 => tv σ H1 fun y H2 => lD r σ H2 fun ps H3 => Q ((x,y) :: ps) H3
abbrev VV : List (V × V) -> List (Value × Value) -> Prop := Paired fun p q => RelV p.1 q.1 /\ RelV p.2 q.2
def wB (X : Cx) (pos : Pos) (keys : List (Option Expr)) (values : List Expr) (trs : List (TE × TE)) : Prop :=
 ∀ (pins : List (Addr × Obj)) (s : Shared) (σ : St) (H : Hp) (Q : List (V × V) -> Hp -> Prop),au X pins σ H s -> lD trs σ H Q ->
  wpAny (model X.prog X.w) X.A (evalPairs (pairTrees keys values X.env pos)) (fun vs s' => ∃ ps H',au X pins σ H' s' /\ VV ps vs /\ Q ps H') X.xe s
theorem jo {X : Cx} {pos : Pos} : wB X pos [] [] [] := fun pins s σ H Q I h => pairTrees_nil_walk ⟨[],H,I,.nil,h⟩
theorem gR {X : Cx} {pos : Pos} {k v : Expr} {ks : List (Option Expr)} {vs : List Expr} {tk tv : TE} {trs : List (TE × TE)} (hk : PE X k tk) (hv : PE X v tv) (hr : wB X pos ks vs trs) :
  wB X pos (some k :: ks) (v :: vs) ((tk,tv) :: trs) := fun pins s σ H Q I h =>
 pairTrees_cons_walk (bv (hk pins s σ H _ I h) fun u s1 ⟨x,H1,I1,rx,q1⟩ => bv (hv pins s1 σ H1 _ I1 q1) fun w2 s2 ⟨y,H2,I2,ry,q2⟩ =>
  bv (hr pins s2 σ H2 _ I2 q2) fun ws s3 ⟨ps,H3,I3,rel,q3⟩ => ⟨(x,y) :: ps,H3,I3,.cons ⟨rx,ry⟩ rel,q3⟩)
def cm (kvs more : List (Key × V)) : List (Key × V) := more.foldl (fun acc kv => putK acc kv.1 kv.2) kvs
theorem KV.merge : ∀ {more : List (Key × V)} {rs : List (Key × Value)} {kvs : List (Key × V)} {vs : List (Key × Value)},KV more rs -> KV kvs vs -> KV (cm kvs more) (merged vs rs) := by
 intro more rs kvs vs r
 unfold KV at r
 induction r generalizing kvs vs with
 | nil => intro q; exact q
 | @cons p q ps qs h t ih =>
  intro r0
  have e : KV (putK kvs p.1 p.2) (stored vs q.1 q.2) := by
   have := r0.put p.1 h.2
   rw [<- h.1]; exact this
  exact ih e
theorem eK : ∀ (more kvs : List (Key × V)),(cm kvs more).length <= kvs.length + more.length
 | [],kvs => by show kvs.length <= kvs.length + 0; omega
 | p :: r,kvs => by
  have h1 := eK r (putK kvs p.1 p.2)
  have h2 := cC kvs p.1 p.2
  show (cm (putK kvs p.1 p.2) r).length <= _
  rw [Ac]; omega
theorem gS {P : Program} {w : World} : ∀ {kvs : List (Key × V)} {ws : List (Value × Value)},VV (kvs.map fun kv => (kV kv.1,kv.2)) ws -> ∃ rs,Carries (aX P w) ws rs /\ KV kvs rs
 | [],_,r => by rw [List.map_nil] at r; cases r; exact ⟨[],True.intro,.nil⟩
 | p :: kvs,_,r => by
  rw [Ag] at r
  cases r with
  | @cons a b as bs h t =>
   obtain ⟨rs,c,q⟩ := gS (P := P) (w := w) t
   obtain ⟨b1,b2⟩ := b
   exact ⟨(p.1,b2) :: rs,⟨eJ h.1,rfl,c⟩,.cons ⟨rfl,h.2⟩ q⟩
def u3 (trs : List (TE × TE)) : TE := fun σ H Q => ∀ p,H p = none -> lD trs σ (aq H p (.dK [])) fun ps H2 => H2 p = some (.dK []) /\ ∃ kvs : List (Key × V),ps = kvs.map (fun kv => (kV kv.1,kv.2)) /\ kvs.length <= 15 /\ Q (.ref p) (aq H2 p (.dK (cm [] kvs)))
theorem jp {X : Cx} {pos : Pos} {keys : List (Option Expr)} {values : List Expr} {trs : List (TE × TE)} (h : wB X pos keys values trs) (hall : keys.all (·.isSome) = true) (hl : keys.length = values.length) (h0 : keys ≠ [])
  (h15 : keys.length <= 15) : PE X (.Dict keys values pos) (u3 trs) := by
 intro pins s σ H Q I q
 have hn := I.hok.fresh (A4 s.heap.objs.size)
 have I1 := I.laid (a := s.heap.objs.size) (o := .dK []) (h' := s.heap.push { cls := .type "dict",data := .dict #[] }) (t' := s.toks) (fun _ _ q => Heap.get?_push_of_some _ q) (A4 _) (kb s.heap I.big)
 refine wpAny_Dict_walk (knd := aX X.prog X.w) hall hl h0 h15 (bv (h pins _ σ _ _ I1 (q _ hn)) fun ws s2 ⟨ps,H2,I2,rel,e,kvs,ep,lk,q2⟩ => ?_)
 subst ep
 obtain ⟨rs,c,rk⟩ := gS (P := X.prog) (w := X.w) rel
 obtain ⟨z,hd,vs0,r0,dd⟩ := gO I2.hok e
 cases r0
 refine ⟨rs,c,dd,fun h' dd' hs => ⟨.ref s.heap.objs.size,_,?_,rfl,q2⟩⟩
 have hz : (cm [] kvs).length <= sizeLine := by
  have h1 := eK kvs []
  rw [List.length_nil] at h1
  rw [sizeLine_eq]; omega
 have he : ∃ q,h'.get? s.heap.objs.size = some q := let ⟨q,_,_,hq,_⟩ := dd'; ⟨q,hq⟩
 exact fj I2 (by rw [e]; exact True.intro) hs he (jn hz hd (rk.merge .nil) dd')
structure M2 (X : Cx) (o : Expr) (m : Str) (apos : Pos) (e f : Expr) (cpos : Pos) : Prop where
 base : attributeBase o m X.env (eval o X.env) = eval o X.env
 few : ((backTo cpos (starEach [e,f] X.env)).all (fun x => !x.1) && (backToKw cpos (keywordEach [] X.env)).all (fun x => x.1.isSome)
  && decide (([e,f] : List Expr).length + ([] : List Keyword).length + (if ([] : List Keyword).isEmpty then 0 else 1) < 30)) = true
 line : (apos.endLine == cpos.line) = true
 trees : backTo cpos (starEach [e,f] X.env) = [(false,eval e X.env),(false,eval f X.env)]
def xB (H : Hp) (a : Addr) : Prop := (∃ kvs,Rd H a (.dK kvs)) ∨ ∃ kvs,Rd H a (.dT kvs)
theorem pj {X : Cx} {pins : List (Addr × Obj)} {σ : St} {H : Hp} {s : Shared} {a : Addr} (I : au X pins σ H s) (d : xB H a) :
  s.TypeIs (.ref a) "dict" /\ (∀ b,Value.ref a = .ref b -> ∃ ob,s.heap.get? b = some ob /\ ob.dict = none) /\ (a == sysModules) = false := by
 rcases d with ⟨kvs,e⟩ | ⟨kvs,e⟩
 ·obtain ⟨_,hd,vs,_,dd⟩ := fY I.hok e
  refine ⟨dd.typeIs,fun b q => ?_,hd⟩
  cases q
  obtain ⟨ob,_,_,h1,h2,_⟩ := dd
  exact ⟨ob,h1,h2.2.1⟩
 ·obtain ⟨_,hd,xs,_,dd⟩ := gP I.hok e
  refine ⟨dd.typeIs,fun b q => ?_,hd⟩
  cases q
  obtain ⟨ob,_,_,h1,h2,_⟩ := dd
  exact ⟨ob,h1,h2.2.1⟩
section
variable {X : Cx} {pins : List (Addr × Obj)} {σ : St} {H : Hp} {s : Shared} {a : Addr} {y d : V} {u r : Value} {o : Option V} {A : Around} {E : Value -> Shared -> Prop}
theorem tR {Q : Value -> Shared -> Prop} (hu : A.units + 1 < cLine) (I : au X pins σ H s) (g : b5 H a y o) (ry : RelV y u) (rd : RelV d r) (h : ∀ w' s',au X pins σ H s' -> RelV (o.getD d) w' -> Q w' s') :
  wpAny (model X.prog X.w) A (call (.builtin "dict.get") [.ref a,u,r]) Q E s := by
 rcases g with ⟨kvs,k,e,ey,l⟩ | ⟨kvs,k,b,e,ey,eb,l⟩
 ·subst ey
  obtain ⟨z,hd,vs,rel,dd⟩ := fY I.hok e
  refine call_meetsIn PySem.F.slot_dict_get dd.typeIs PySem.F.entry_dict_get (PySem.F.args_dict_get_3 _ _ _) (meets_dict_get_default (aX X.prog X.w) a (eJ ry) hd r) ⟨_,dd.mapOf,h _ _ (I.tok _) ?_⟩
  rw [l]
  exact (rel.val k).getD rd
 ·subst ey
  cases (show u = Value.ref b from ry)
  obtain ⟨z,hd,xs,rel,dd⟩ := gP I.hok e
  refine call_meetsIn PySem.F.slot_dict_get dd.typeIs PySem.F.entry_dict_get (PySem.F.args_dict_get_3 _ _ _) (meetsH_dict_get_default (tupleKind (aX X.prog X.w)) a b hd r) ⟨tupleKind_room_in1 hu,k,xs,fP I.hok eb,dd,h _ _ (I.tok _) ?_⟩
  rw [l]
  exact (rel.val k).getD rd
end
def tS (td ty tx : TE) : TE := fun σ H Q => td σ H fun x H1 => ∃ a,x = .ref a /\ xB H1 a /\ ty σ H1 fun y H2 => tx σ H2 fun z H3 => ∃ o,b5 H3 a y o /\ Q (o.getD z) H3
def tT (td ty tx : TE) : TE := fun σ H Q => td σ H fun x H1 => ∃ a,x = .ref a /\ xB H1 a /\ ty σ H1 fun y H2 => tx σ H2 fun z H3 => ∃ kvs k,H3 a = some (.dK kvs) /\ y = kV k /\
 (∀ v,aK kvs k = some v -> Q v (aq H3 a (.dK (gM kvs k)))) /\ (aK kvs k = none -> Q z H3)
section
variable {X : Cx} {o e f : Expr} {apos cpos : Pos} {td ty tx : TE}
theorem gT (hu : X.A.units + 1 < cLine) (ho : PE X o td) (he : PE X e ty) (hf : PE X f tx) (m : M2 X o "get" apos e f cpos) : PE X (.Call (.Attribute o "get" apos) [e,f] [] cpos) (tS td ty tx) := by
 intro pins s σ H Q I h
 refine wpAny_Call_method m.base m.few m.line BP PySem.F.slot_dict_get PySem.F.type_dict_get (bv (ho pins s σ H _ I h) fun u s1 ⟨x,H1,I1,rx,a,ex,d,q1⟩ => ?_)
 subst ex
 obtain rfl : u = Value.ref a := rx
 obtain ⟨t1,t2,_⟩ := pj I1 d
 refine ⟨t1,t2,?_⟩
 rw [m.trees]
 refine Calls.callWith_builtin rfl (Calls.evalArgs_plain (Calls.spliced_cons (bv (he pins s1 σ H1 _ I1 q1) fun iv s2 ⟨y,H2,I2,ry,q2⟩ =>
  Calls.spliced_cons (bv (hf pins s2 σ H2 _ I2 q2) fun fv s3 ⟨z,H3,I3,rz,ov,g,q3⟩ => Calls.spliced_nil ?_))))
 exact tR hu I3 g ry rz fun w' s4 I4 rw' => ⟨_,H3,I4,rw',q3⟩
theorem kc (ho : PE X o td) (he : PE X e ty) (hf : PE X f tx) (m : M2 X o "pop" apos e f cpos) : PE X (.Call (.Attribute o "pop" apos) [e,f] [] cpos) (tT td ty tx) := by
 intro pins s σ H Q I h
 refine wpAny_Call_method m.base m.few m.line BP PySem.F.slot_dict_pop PySem.F.type_dict_pop (bv (ho pins s σ H _ I h) fun u s1 ⟨x,H1,I1,rx,a,ex,d,q1⟩ => ?_)
 subst ex
 obtain rfl : u = Value.ref a := rx
 obtain ⟨t1,t2,_⟩ := pj I1 d
 refine ⟨t1,t2,?_⟩
 rw [m.trees]
 refine Calls.callWith_builtin rfl (Calls.evalArgs_plain (Calls.spliced_cons (bv (he pins s1 σ H1 _ I1 q1) fun iv s2 ⟨y,H2,I2,ry,q2⟩ =>
  Calls.spliced_cons (bv (hf pins s2 σ H2 _ I2 q2) fun fv s3 ⟨z,H3,I3,rz,kvs,k,ea,ey,q3,q4⟩ => Calls.spliced_nil ?_))))
 subst ey
 cases l : aK kvs k with
 | some v => exact uW I3 ea ry l (.inr ⟨fv,rfl⟩) fun w' s4 I4 rw' => ⟨v,_,I4,rw',q3 v l⟩
 | none => exact tO I3 ea ry l fun s4 I4 => ⟨z,H3,I4,rz,q4 l⟩
end
section
variable {X : Cx} {pins : List (Addr × Obj)} {σ : St} {H : Hp} {s : Shared} {a : Addr} {kvs : List (Key × V)} {A : Around} {E : Value -> Shared -> Prop}
end
section
variable {X : Cx} {pins : List (Addr × Obj)} {σ : St} {H : Hp} {s : Shared} {a : Addr} {y : V} {u : Value} {A : Around} {E : Value -> Shared -> Prop}
end
end L2
namespace Att
open PySem PySem.W PySem.Calls PyProof.Rows
theorem gj {P : Params} {h : Heap} : ∀ (ns : List Int) (vs : List Value),WellAll P h vs (ns.map WData.int) -> IntsAre vs ns := by
 intro ns
 induction ns with
 | nil =>
  intro vs w
  rw [List.map_nil] at w
  cases w
  exact .nil
 | cons n ns ih =>
  intro vs w
  rw [Ag] at w
  cases w with
  | cons a b =>
   cases a
   exact .cons _ _ (ih _ b)
theorem nM {l : OpenLaw} {n : Nat} (hn : l.most = some n) {P : Params} {h : Heap} {args : List WData} {vals : List Value}
  (hpre : l.row.toRowW.claim.pre args = true) (hwl : WellAll P h vals args) :
  ∃ a vs ns,vals = [Value.ref a] /\ args = [WData.list (ns.map WData.int)] /\ h.get? a = some { cls := .type "list",data := .seq vs.toArray } /\ IntsAre vs ns /\ ns.length <= n := by
 have hsh : WShape.hasAll [] args [.list .int] = true := (pre_splitW hpre).1
 have hc : l.pre.holds [] { args := args } = true := (pre_splitW hpre).2
 obtain ⟨d,r,rfl,h1,h2⟩ := hasAllW_cons hsh
 obtain rfl := hasAllW_nil h2
 obtain ⟨xs,rfl,h3⟩ := hasW_list h1
 obtain ⟨ns,rfl⟩ := items_int h3
 have hlen : ns.length <= n := by
  unfold OpenLaw.pre at hc
  have h4 : (WTm.not (.lt (.lit (.int (n : Int))) (.len (.arg 0)))).holds [] { args := [.list (ns.map .int)] } = true := by
   have h4 := (holds_andW hc).1
   rw [hn] at h4
   exact h4
  have h5 := condW_of h4 (w_not (w_lt w_lit (w_len_list (w_arg rfl))))
  rw [A2] at h5
  refine Nat.le_of_not_lt fun q => ?_
  have q' : (n : Int) < ((ns.length : Nat) : Int) := by omega
  first
   | (rw [decide_eq_true q'] at h5; exact absurd h5 (by decide))
   | (simp at h5; omega)
 cases hwl with
 | cons w1 w2 =>
  cases w2
  cases w1 with
  | list ho hall => exact ⟨_,_,ns,rfl,rfl,ho,gj ns _ hall,hlen⟩
theorem nN (l : OpenLaw) (args : List WData) : l.row.toRowW.claim.post args (.bool true) args = true :=
 postW_of (r := l.row.toRowW) (X := (true == true))
  (show WShape.has [] (.bool true) .bool = true by first | rfl | decide | simp [WShape.has,WShape.arms,WShape.armsAll])
  (show (WTm.eq .res (.lit (.bool true))).value [] { args := args,res := some (.bool true),after := args } = some (.bool (true == true)) from w_eq_bool (w_res rfl) w_lit) rfl
theorem kg {l : OpenLaw} {n : Nat} {q : Program} {loose : List Str} {XP : (Str -> Option Value) -> Heap -> Prop} {YP : World -> Heap -> Prop} {d : DefRec}
  (hn : l.most = some n) (hdf : d.params.defaults = [])
  (call : ∀ (w : World) (s₀ s₁ : Shared) (mg mb : Str -> Option Value) (fa : Addr) (o : Obj) (pm cd doc : Value) (a : Addr) (vs : List Value) (ns : List Int),
   Ground q loose [] XP w s₀ mg mb s₁.heap -> YP w s₁.heap ->
   s₁.heap.get? fa = some o -> o.data = .func (docDef d.name d.params d.body d.scope pm cd doc) -> s₁.heap.CodeRec cd d.name -> mg d.name = some (.ref fa) ->
   s₁.heap.get? a = some { cls := .type "list",data := .seq vs.toArray } -> IntsAre vs ns -> ns.length <= n -> s₁.gens = #[] ->
   codeAny (model l.prog w) callerA (.call (.ref fa) ⟨[.ref a],[]⟩) (fun r s' => r = .ok (.ret (.bool true)) /\ OldK s₁.heap s'.heap /\ s'.os = s₁.os /\ AllBare s'.gens) s₁) :
  WalkO q loose XP YP l.row.toRowW d [] (fun f vs => PySem.call f vs) := by
 intro w s₀ s₁ mg mb G Y fa o pm cd doc dV kV ho hd hcd hD hmg hg args vals as hpre hlay hrd hwl hlo
 obtain rfl : dV = .none := Dflts.none hD hdf
 obtain rfl : kV = .none := Dflts.noKw hD
 obtain ⟨a,vs,ns,rfl,rfl,hobj,hints,hlen⟩ := nM hn hpre hwl
 refine enter_call (codeAny_mono (call w s₀ s₁ mg mb fa o pm cd doc a vs ns G Y ho (fd_plain hd) hcd hmg hobj hints hlen hg) fun r s' hq => ?_)
 obtain ⟨rfl,h2,h3,h4⟩ := hq
 exact ⟨.inl ⟨.bool true,.bool true,[],rfl,fun _ => rfl,.bool true,nN l _,fun _ => ⟨List.Pairwise.nil,fun _ hm => (nomatch hm)⟩⟩,h2,h3,h4⟩
section
variable {prog : Program} {w : World} {A : Around} {E : Value -> Shared -> Prop} {s : Shared} {K : Frag}
end
end Att
namespace L2
open PySem PySem.Spec PyProof.Rows
theorem iO : ∀ {vs : List Value} {ns : List Int},IntsAre vs ns -> aR (ns.map V.int) vs
 | _,_,.nil => .nil
 | _,_,.cons n t h => .cons ⟨t,rfl⟩ (iO h)
def tU (H : Hp) : Prop := ∀ b,H b = none ∨ ∃ o xs,H b = some (.frz o (.lst xs))
theorem pk {P : Program} {w : World} {K : A0} {mg mb : Str -> Option Value} {CX : mF} {k : Nat} {fa a : Addr} {fd : FuncData} {x : Str} {sp : Sp} {s₁ : Shared} {vs : List Value} {ns : List Int}
  (KX : K.In s₁.heap) (hns : s₁.heap.Ns mainGlobals mg) (hb : s₁.heap.Ns builtinsNs mb) (hbb : ∀ x : Str,x ≠ "__name__" -> mb x = bootBuiltins x) (hlim : s₁.heap.NoLimit) (hg : s₁.gens = #[])
  (ha : s₁.heap.get? a = some { cls := .type "list",data := .seq vs.toArray }) (hi : IntsAre vs ns) (hl : ns.length <= sizeLine) (hr : bH k callerA)
  (F : ∀ base : Heap,K.In base -> base.Ns mainGlobals mg -> a7 P w K mg base CX k fa fd [x] sp) (hbind : ∀ (s : Shared) (u : Value),BindsTo s fd ⟨[u],[]⟩ [(x,u)])
  (hsp : ∀ H : Hp,tU H -> bc K H a (ns.map V.int) -> sp [.ref a] H (fun v _ => v = .bl true) fun _ _ _ => False)
  (hCX : ∀ H e s',CX [] H s₁ (fun _ _ _ => False) e s' -> False) :
  codeAny (model P w) callerA (.call (.ref fa) ⟨[.ref a],[]⟩) (fun r s' => r = .ok (.ret (.bool true)) /\ OldK s₁.heap s'.heap /\ s'.os = s₁.os /\ AllBare s'.gens) s₁ := by
 have rv := iO hi
 have lenV := hi.length
 have core : ∀ H : Hp,tU H -> bc K H a (ns.map V.int) -> dy P w H s₁.heap -> (∀ b,H b ≠ none -> b = a) -> (H a ≠ none -> K.lookup a = none) ->
   codeAny (model P w) callerA (.call (.ref fa) ⟨[.ref a],[]⟩) (fun r s' => r = .ok (.ret (.bool true)) /\ OldK s₁.heap s'.heap /\ s'.os = s₁.os /\ AllBare s'.gens) s₁ := by
  intro H hO hS hok hA hK
  have base_of : ∀ {b : Addr} {o : Obj},s₁.heap.get? b = some o -> H b = none -> (je s₁.heap H).get? b = some o := fun e n => oK e n
  have noA : ∀ {b : Addr} {o : Obj} {es : Array DictEntry} {ep : Nat},s₁.heap.get? b = some o -> o.data = .dict es ep -> H b = none := fun {b o es ep} e d => by
   cases q : H b with
   | none => rfl
   | some u =>
    have e' : b = a := hA b (by rw [q]; simp)
    subst e'
    rw [ha] at e; cases e
    have d' : Data.seq vs.toArray _ = Data.dict es ep := d
    cases d'
  have nsK : ∀ {b : Addr} {m : Str -> Option Value},s₁.heap.Ns b m -> (je s₁.heap H).Ns b m := fun {b m} ⟨o,es,ep,e,d,r⟩ => ⟨o,es,ep,base_of e (noA e d),d,r⟩
  have hKb : K.In (je s₁.heap H) := fun b o e => base_of (KX b o e) (by
   cases q : H b with
   | none => rfl
   | some u =>
    have e' : b = a := hA b (by rw [q]; simp)
    subst e'
    rw [hK (by rw [q]; simp)] at e; cases e)
  have hM : Mod K mg (je s₁.heap H) := ⟨hKb,nsK hns,⟨mb,nsK hb,hbb⟩,let ⟨mc,h1,h2⟩ := hlim; ⟨mc,nsK h1,h2⟩⟩
  have e0 : lx P w K mg (je s₁.heap H) callerA [] s₁ H := ⟨rfl,hM,fun b o e => qx e,Nat.le_of_eq (nB _ _),trivial,fun b hb => absurd (show b ∈ ([] : List Addr) from hb) (by simp),hok,.of_eq hg⟩
  refine codeAny_mono ((F _ hKb (nsK hns)).run callerA [] s₁ H ⟨[.ref a],[]⟩ [.ref a] [.ref a] _ _ hr e0 (hbind s₁ (.ref a)) (.cons rfl .nil) (hsp H hO hS)) fun r s' h => ?_
  cases r with
  | error e => exact (hCX H e s' h).elim
  | ok fl =>
   cases fl with
   | next => exact False.elim h
   | brk => exact False.elim h
   | cont => exact False.elim h
   | ret u =>
    obtain ⟨v,H',os,bare,un,hok',r',q⟩ := h
    have q' : v = .bl true := q
    subst q'
    obtain rfl : u = Value.bool true := r'
    refine ⟨rfl,OldK.of_keep fun b o e => ?_,os,bare⟩
    cases q : H b with
    | none => exact un.keep b o e q (by intro z; exact absurd (show b ∈ ([] : List Addr) from z) (by simp)) (by simp)
    | some u =>
     rcases hO b with z | ⟨ob,xs,z⟩
     ·rw [q] at z; cases z
     ·have z2 := un.frzs b ob _ z
      obtain ⟨e1,_⟩ := hok b _ z
      obtain ⟨e2,_⟩ := hok' b _ z2
      rw [e] at e1; cases e1
      exact e2
 cases hk : K.lookup a with
 | some o =>
  have e := KX a o hk
  rw [ha] at e
  cases e
  refine core (fun _ => none) (fun _ => .inl rfl) (.inr ⟨_,vs.toArray,_,hk,rfl,rfl,rfl,by rw [AK,lenV]; exact hl,by simpa using rv⟩) (fun b u z => by have z' : (none : Option HO) = some u := z; cases z') (fun b z => absurd rfl z) fun z => absurd rfl z
 | none =>
  refine core (fun b => if b = a then some (.frz { cls := .type "list",data := .seq vs.toArray } (.lst (ns.map V.int))) else none) (fun b => ?_) (.inl (.inr ⟨{ cls := .type "list",data := .seq vs.toArray },if_pos rfl⟩)) (fun b u z => ?_) (fun b z => ?_) fun _ => hk
  ·by_cases hb : b = a
   ·exact .inr ⟨_,_,if_pos hb⟩
   ·exact .inl (if_neg hb)
  ·by_cases hb : b = a
   ·have z' := (if_pos hb).symm.trans z
    cases z'
    subst hb
    exact ⟨ha,by rw [A2]; exact hl,vs,_,rv,ha⟩
   ·have z' := (if_neg hb).symm.trans z
    cases z'
  ·by_cases hb : b = a
   ·exact hb
   ·exact absurd (if_neg hb) z
theorem qP {l : PySem.W.OpenLaw} {n k : Nat} {q : Program} {loose : List Str} {XP : (Str -> Option Value) -> Heap -> Prop} {YP : World -> Heap -> Prop} {d : DefRec} {K : Params -> A0} {CX : World -> mF} {sp : World -> Sp} {x : Str}
  (hn : l.most = some n) (hn2 : n <= sizeLine) (hdf : d.params.defaults = []) (hr : bH k callerA)
  (hY : ∀ (w : World) (h : Heap),YP w h -> (K w.params).In h)
  (F : ∀ (w : World) (mg : Str -> Option Value) (fa : Addr) (h : Heap),(K w.params).In h -> h.Ns mainGlobals mg -> mg d.name = some (.ref fa) ->
   ∃ fd : FuncData,(∀ (s : Shared) (u : Value),BindsTo s fd ⟨[u],[]⟩ [(x,u)]) /\
    ∀ base : Heap,(K w.params).In base -> base.Ns mainGlobals mg -> a7 l.prog w (K w.params) mg base (CX w) k fa fd [x] (sp w))
  (hsp : ∀ (w : World) (H : Hp) (a : Addr) (ns : List Int),ns.length <= n -> tU H -> bc (K w.params) H a (ns.map V.int) -> sp w [.ref a] H (fun v _ => v = .bl true) fun _ _ _ => False)
  (hCX : ∀ (w : World) (H : Hp) (s : Shared) (e : Value) (s' : Shared),CX w [] H s (fun _ _ _ => False) e s' -> False) :
  PySem.W.WalkO q loose XP YP l.row.toRowW d [] (fun f vs => PySem.call f vs) := by
 refine Att.kg hn hdf fun w s₀ s₁ mg mb fa o pm cd doc a vs ns G Y ho hd hcd hmg hobj hints hlen hg => ?_
 have KX := hY w _ Y
 obtain ⟨fd,hb,hF⟩ := F w mg fa _ KX G.T.g hmg
 exact pk KX G.T.g G.T.b G.T.builtins G.T.nolimit hg hobj hints (AT hlen hn2) hr hF hb (fun H hO hS => hsp w H a ns hlen hO hS) fun H e s' => hCX w H s₁ e s'
def cy (s : Stmt) : Arguments := match s with
 | .FunctionDef _ a _ _ _ _ _ _ _ _ => a
 | _ => { posonlyargs := [],args := [],vararg := none,kwonlyargs := [],kw_defaults := [],kwarg := none,defaults := [] }
def b6 (s : Stmt) : List Stmt := match s with
 | .FunctionDef _ _ b _ _ _ _ _ _ _ => b
 | _ => []
def ap (s : Stmt) : Scope := match s with
 | .FunctionDef _ _ _ _ _ _ sc _ _ _ => sc
 | _ => { kind := .function,names := [],isGenerator := false,isCoroutine := false }
abbrev aZ : mF := fun _ _ _ _ _ _ => False
abbrev E0 : XK := fun _ _ _ => False
theorem kh {X : Cx} : gL aZ X E0 := fun _ _ _ _ _ _ _ h => h.elim
section
variable {P : Program} {w : World} {K : A0} {mg : Str -> Option Value} {base : Heap}
end
theorem bK {A : Around} {k : Nat} (hr : bH k A) : A.units + 1 < cLine := Nat.lt_of_le_of_lt (Nat.add_le_add_left (by decide : 1 <= 64) _) hr.units
section
variable {X : Cx}
theorem pv (i : Nat) {x : Str} {pos : Pos} (hN : X.N[i]? = some x := by rfl) (hv : wu X.env.scope x := by first | exact Or.inl rfl | exact Or.inr (Or.inl rfl) | exact Or.inr (Or.inr rfl)) (hd : (x == ("__debug__" : Str)) = false := by decide)
  (hcd : (x == ("__classdict__" : Str)) = false := by decide) : PE X (.Name x pos) (qy i) := tD hN hv hd hcd
end
theorem bM {A B : Prop} (h : B) : if false = true then A else B := by
 rw [if_neg AC]
 exact h
theorem cW {A B : Prop} (h : A) : if true = true then A else B := by
 rw [if_pos rfl]
 exact h
def ay (H H' : Hp) : Prop := ∀ b o,H b = some o -> H' b = some o
theorem ay.refl (H : Hp) : ay H H := fun _ _ h => h
theorem ay.trans {H H1 H2 : Hp} (a : ay H H1) (b : ay H1 H2) : ay H H2 := fun c o h => b c o (a c o h)
theorem ay.free {H H' : Hp} (e : ay H H') {l : Addr} (h : H' l = Option.none) : H l = Option.none := by
 cases q : H l with
 | none => rfl
 | some o =>
  rw [e l o q] at h
  cases h
theorem ay.seq {K : A0} {H H' : Hp} {a : Addr} {xs : List V} (e : ay H H') (h : bc K H a xs) : bc K H' a xs := by
 rcases h with (h | ⟨o,h⟩) | h
 ·exact .inl (.inl (e _ _ h))
 ·exact .inl (.inr ⟨o,e _ _ h⟩)
 ·exact .inr h
section
variable {X : Cx}
theorem cA : eX X (binaryOp .Mult) (rI (fun i j => IntMulOk i j) fun i j => .int (i * j)) := w8 fun _ _ _ _ _ _ _ hc q => mul_int q hc
theorem bj : eX X (binaryOp .FloorDiv) (rI (fun i j => j ≠ 0 /\ Builtin.divisionGoesByPylong i j = false) fun i j => .int (i.fdiv j)) := w8 fun _ _ _ _ _ _ _ hc q => floordiv_int hc.1 q (.inl hc.2)
theorem ki : de X (.builtin "isinstance") (fun xs H Q => ∃ i,xs = [.int i,.ty "int"] /\ Q (.bl true) H) := by
 intro pins s σ H xs us Q I r h
 obtain ⟨i,rfl,q⟩ := h
 obtain ⟨u,w',rfl,⟨t,rfl⟩,e2⟩ := vals2 r
 cases e2
 exact PySem.call_isinstance (PySem.isinstance_true (Tx := "int") PySem.F.isi_meta_int PySem.F.isi_self_int) ⟨rfl,⟨.bl true,H,I,rfl,q⟩⟩
theorem jq : de X (.builtin "isinstance") (fun xs H Q => ∃ i,xs = [.int i,.ty "bool"] /\ Q (.bl false) H) := by
 intro pins s σ H xs us Q I r h
 obtain ⟨i,rfl,q⟩ := h
 obtain ⟨u,w',rfl,⟨t,rfl⟩,e2⟩ := vals2 r
 cases e2
 exact PySem.call_isinstance (PySem.isinstance_false_int (T := "bool") (by decide) PySem.F.isi_meta_bool PySem.F.sub_int_bool) ⟨.bl false,H,I.tok _,rfl,q⟩
theorem kj : de X (.builtin "isinstance") (fun xs H Q => ∃ i,xs = [.bl i,.ty "bool"] /\ Q (.bl true) H) := by
 intro pins s σ H xs us Q I r h
 obtain ⟨i,rfl,q⟩ := h
 obtain ⟨u,w',rfl,e1,e2⟩ := vals2 r
 cases e1
 cases e2
 exact PySem.call_isinstance (PySem.isinstance_true (Tx := "bool") PySem.F.isi_meta_bool PySem.F.isi_self_bool) ⟨rfl,⟨.bl true,H,I,rfl,q⟩⟩
theorem km : de X (.builtin "isinstance") (fun xs H Q => ∃ a ys,xs = [.ref a,.ty "tuple"] /\ cQ X.K H a ys /\ Q (.bl true) H) := by
 intro pins s σ H xs us Q I r h
 obtain ⟨a,ys,rfl,hs,q⟩ := h
 obtain ⟨u,w',rfl,e1,e2⟩ := vals2 r
 cases e1
 cases e2
 obtain ⟨its,_,p1,_⟩ := I.tuple hs
 exact PySem.call_isinstance (PySem.isinstance_true (Tx := "tuple") PySem.F.isi_meta_tuple PySem.F.isi_self_tuple) ⟨p1.typeIs,⟨.bl true,H,I,rfl,q⟩⟩
end
end L2
namespace Sw
open PySem
def Bd (n : Nat) (x : Int) : Prop := x.natAbs < 2 ^ n
theorem Bd.mono {m n : Nat} {x : Int} (h : Bd m x) (e : m <= n) : Bd n x := AQ h (Nat.pow_le_pow_right (by decide) e)
theorem Bd.of_le {n : Nat} {x y : Int} (h : Bd n y) (e : x.natAbs <= y.natAbs) : Bd n x := Nat.lt_of_le_of_lt e h
theorem Bd.mul {m n : Nat} {x y : Int} (h : Bd m x) (g : Bd n y) : Bd (m + n) (x * y) := by
 unfold Bd at *
 rw [Int.natAbs_mul,Nat.pow_add]
 exact Nat.mul_lt_mul_of_lt_of_le h (Nat.le_of_lt g) (Nat.lt_of_le_of_lt (Af _) g)
theorem Bd.add {k : Nat} {x y : Int} (h : Bd k x) (g : Bd k y) : Bd (k + 1) (x + y) := by
 unfold Bd at *
 rw [Nat.pow_succ]
 generalize 2 ^ k = p at h g ⊢
 omega
theorem Bd.ok {m n : Nat} {x y : Int} (h : Bd m x) (g : Bd n y) (e : m + n <= 134217728 := by decide) : IntMulOk x y :=
 IntMulOk.of_le (intBits_le_iff.mpr h) (intBits_le_iff.mpr g) e
theorem Bd.div {n : Nat} {x y : Int} (h : Bd n y) (y0 : y ≠ 0) (e : n <= 9000 := by decide) : Builtin.divisionGoesByPylong x y = false := by
 refine PyProof.noPylong_of_log2 ((Nat.log2_lt (by omega)).mpr ?_)
 exact AQ h (Nat.pow_le_pow_right (by decide) e)
theorem Bd.one : Bd 1 1 := by unfold Bd; decide
def bA (a b : Int) : Int := ((Int.gcd a b : Nat) : Int)
theorem qQ (a b : Int) : 0 <= bA a b := Int.natCast_nonneg _
theorem lE (a b : Int) : bA (-a) b = bA a b := by unfold bA; rw [Int.neg_gcd]
theorem lG (a b : Int) : bA a (-b) = bA a b := by unfold bA; rw [Int.gcd_neg]
theorem iP {g l : Int} (hl : 0 < l) : bA l (g.fmod l) = bA g l := by
 unfold bA
 have e : g.fmod l = g - (g.fdiv l) * l := by rw [Int.fmod_def,Int.mul_comm]
 rw [e,Int.gcd_comm l,Int.gcd_sub_mul_right_left]
def pq (i : Int) : Int := if i < 0 then -i else i
theorem mJ (i : Int) : 0 <= pq i := by unfold pq; split <;> omega
theorem pA (a b : Int) : bA (pq a) (pq b) = bA a b := by
 unfold pq
 split <;> split <;> simp only [lE,lG]
theorem iQ {g : Int} (h : 0 <= g) : bA g 0 = g := by
 unfold bA; rw [Int.gcd_zero_right]; omega
theorem fq {a b : Int} (h : bA a b = 0) : a = 0 /\ b = 0 := by
 unfold bA at h
 exact Int.gcd_eq_zero_iff.mp (by omega)
theorem gU (a b : Int) : bA a b ∣ a := Int.gcd_dvd_left ..
theorem eP (a b : Int) : bA a b ∣ b := Int.gcd_dvd_right ..
structure Fr (p q a b : Int) : Prop where
 pos : 0 < q
 low : bA p q = 1
 same : p * b = a * q
 bt : p.natAbs <= a.natAbs
 bb : q.natAbs <= b.natAbs
structure nO (p q : Int) : Prop where
 pos : 0 < q
 low : bA p q = 1
theorem Fr.to {p q a b : Int} (h : Fr p q a b) : nO p q := ⟨h.pos,h.low⟩
theorem fZ {p q k : Int} (h : bA p q = 1) (d : q ∣ p * k) : q ∣ k := by
 have c : Int.gcd q p = 1 := by unfold bA at h; rw [Int.gcd_comm]; omega
 have d' : q.natAbs ∣ p.natAbs * k.natAbs := by rw [<- Int.natAbs_mul]; exact Int.natAbs_dvd_natAbs.mpr d
 exact Int.natAbs_dvd_natAbs.mp (Nat.Coprime.dvd_of_dvd_mul_left (show Nat.Coprime q.natAbs p.natAbs from c) d')
theorem lH {p q p' q' : Int} (h : nO p q) (h' : nO p' q') (e : p * q' = p' * q) : p = p' /\ q = q' := by
 have d1 : q ∣ q' := fZ h.low (by rw [e]; exact Int.dvd_mul_left ..)
 have d2 : q' ∣ q := fZ h'.low (by rw [<- e]; exact Int.dvd_mul_left ..)
 have eq : q = q' := by
  have n1 := Int.le_of_dvd h'.pos d1
  have n2 := Int.le_of_dvd h.pos d2
  omega
 subst eq
 exact ⟨Int.eq_of_mul_eq_mul_right (by have := h.pos; omega) e,rfl⟩
def iu (a b : Int) : Int := if b < 0 then -bA a b else bA a b
theorem lJ {a b : Int} (h : b ≠ 0) : iu a b ≠ 0 := by
 have g : bA a b ≠ 0 := fun z => h (fq z).2
 unfold iu; split <;> omega
theorem sY {a b : Int} (h : b ≠ 0) : Fr (a.fdiv (iu a b)) (b.fdiv (iu a b)) a b := by
 have g : bA a b ≠ 0 := fun z => h (fq z).2
 have p : 0 < bA a b := by have := qQ a b; omega
 have c0 := lJ (a := a) h
 have da : iu a b ∣ a := by
  unfold iu; split
  ·exact Int.neg_dvd.mpr (gU a b)
  ·exact gU a b
 have db : iu a b ∣ b := by
  unfold iu; split
  ·exact Int.neg_dvd.mpr (eP a b)
  ·exact eP a b
 obtain ⟨x,hx⟩ := da
 obtain ⟨y,hy⟩ := db
 have ex : a.fdiv (iu a b) = x := by
  conv => lhs; arg 1; rw [hx]
  exact Int.mul_fdiv_cancel_left x c0
 have ey : b.fdiv (iu a b) = y := by
  conv => lhs; arg 1; rw [hy]
  exact Int.mul_fdiv_cancel_left y c0
 rw [ex,ey]
 have yp : 0 < y := by
  have e := hy
  unfold iu at e
  rcases (by omega : y < 0 ∨ y = 0 ∨ 0 < y) with q | q | q
  ·exfalso
   split at e
   ·rename_i hb
    have := Int.mul_neg_of_pos_of_neg p q
    rw [Int.neg_mul] at e
    omega
   ·have := Int.mul_neg_of_pos_of_neg p q
    omega
  ·rw [q] at hy; omega
  ·exact q
 have lowx : bA x y = 1 := by
  have m : bA (iu a b * x) (iu a b * y) = bA a b * bA x y := by
   show ((Int.gcd _ _ : Nat) : Int) = _ * ((Int.gcd x y : Nat) : Int)
   rw [Int.gcd_mul_left,Int.natCast_mul]
   congr 1
   unfold iu; split <;> omega
  rw [<- hx,<- hy] at m
  exact Int.eq_one_of_mul_eq_self_right g m.symm
 refine ⟨yp,lowx,?_,?_,?_⟩
 ·conv => lhs; rw [hy]
  conv => rhs; rw [hx]
  rw [<- Int.mul_assoc,Int.mul_comm x]
 ·have : a.natAbs = (iu a b).natAbs * x.natAbs := by conv => lhs; rw [hx]; rw [Int.natAbs_mul]
  rw [this]
  exact Nat.le_mul_of_pos_left _ (by omega)
 ·have : b.natAbs = (iu a b).natAbs * y.natAbs := by conv => lhs; rw [hy]; rw [Int.natAbs_mul]
  rw [this]
  exact Nat.le_mul_of_pos_left _ (by omega)
end Sw
namespace L2
open PySem
inductive u4 (K : A0) (H : Hp) : V -> String -> Bool -> Prop where
 | ii (i : Int) : u4 K H (.int i) "int" true
 | ib (i : Int) : u4 K H (.int i) "bool" false
 | bb (b : Bool) : u4 K H (.bl b) "bool" true
 | tt (a : Addr) (ys : List V) (h : cQ K H a ys) : u4 K H (.ref a) "tuple" true
theorem ko {X : Cx} : de X (.builtin "isinstance") (fun xs H Q => ∃ x T b,xs = [x,.ty T] /\ u4 X.K H x T b /\ Q (.bl b) H) := by
 intro pins s σ H xs us Q I r h
 obtain ⟨x,T,b,rfl,i,q⟩ := h
 cases i with
 | ii i => exact ki pins s σ H _ us Q I r ⟨i,rfl,q⟩
 | ib i => exact jq pins s σ H _ us Q I r ⟨i,rfl,q⟩
 | bb i => exact kj pins s σ H _ us Q I r ⟨i,rfl,q⟩
 | tt a ys h => exact km pins s σ H _ us Q I r ⟨a,ys,rfl,h,q⟩
end L2
namespace Sw
open PySem L2
theorem dT {p A B : Prop} [Decidable p] (h : p) (a : A) : if decide p = true then A else B := by rw [if_pos (decide_eq_true h)]; exact a
theorem dF {p A B : Prop} [Decidable p] (h : ¬ p) (b : B) : if decide p = true then A else B := by rw [if_neg (by simp [h])]; exact b
theorem d2 {p A B : Prop} [Decidable p] (h1 : p -> A) (h2 : ¬ p -> B) : if decide p = true then A else B := by
 by_cases h : p
 ·exact dT h (h1 h)
 ·exact dF h (h2 h)
theorem nT {p A B : Prop} [Decidable p] (h : ¬ p) (a : A) : if (!decide p) = true then A else B := by rw [if_pos (by simp [h])]; exact a
theorem nF {p A B : Prop} [Decidable p] (h : p) (b : B) : if (!decide p) = true then A else B := by rw [if_neg (by simp [h])]; exact b
theorem vi {a b : Int} (h : a = b) : V.int a = V.int b := by rw [h]
theorem vj {a b : Int} (h : V.int a = V.int b) : a = b := by cases h; rfl
theorem tV {a b : Int} {A B : Prop} (h1 : a = b -> A) (h2 : a ≠ b -> B) : if decide (V.int a = V.int b) = true then A else B := d2 (fun h => h1 (vj h)) fun h => h2 fun e => h (vi e)
theorem yc {a b : Int} {A B : Prop} (h1 : a ≠ b -> A) (h2 : a = b -> B) : if (!decide (V.int a = V.int b)) = true then A else B := by
 by_cases h : a = b
 ·exact nF (vi h) (h2 h)
 ·exact nT (fun e => h (vj e)) (h1 h)
theorem yq {a b : Int} {A B : Prop} (h : a ≠ b) (x : A) : if (!decide (V.int a = V.int b)) = true then A else B := nT (fun e => h (vj e)) x
theorem wC {a b : Int} {A B : Prop} (h : a = b) (x : B) : if (!decide (V.int a = V.int b)) = true then A else B := nF (vi h) x
section
variable {X : Cx} {k j : Nat} {x : Str} {ps : List Str} {sp : Sp} {p pos : Pos} {e : Expr} {es : List Expr} {t : TA}
end
def mK : Sp := fun vs H Q _ => ∃ a b : Int,vs = [.int a,.int b] /\ Q (.int (bA a b)) H
def lK (K : A0) : Sp := fun vs H Q _ => ∃ (a : Addr) (ns : List Int) (k : Int),vs = [.ref a,.int k] /\ bc K H a (ns.map V.int) /\ 0 <= k /\ ∀ v : Int,Q (.int v) H
def jr : Sp := fun vs H Q _ => ∃ v : Int,vs = [.int v] /\ Q (.bl true) H
def mL (K : A0) : Sp := fun vs H Q _ => ∃ (a : Addr) (ns : List Int),vs = [.ref a] /\ bc K H a (ns.map V.int) /\ ns.length <= 63 /\ ∀ H',Q (.bl true) H'
theorem qU {ns : List Int} {k : Int} (h0 : 0 <= k) (h : k < (((ns.map V.int).length : Nat) : Int)) : ∃ v : Int,eO (ns.map V.int) k = some (.int v) := by
 rw [A2] at h
 have hk : k.toNat < ns.length := by omega
 have ek : k = ((k.toNat : Nat) : Int) := by omega
 have q : eO (ns.map V.int) ((k.toNat : Nat) : Int) = some (.int ns[k.toNat]) := bY (by rw [AI,AD hk] <;> rfl)
 rw [<- ek] at q
 exact ⟨_,q⟩
theorem cut {t u : TS} {D : Ends} {σ : L2.St} {H : Hp} (I : L2.St -> Hp -> Prop) (h1 : ∀ N : L2.St -> Hp -> Prop,(∀ σ H,I σ H -> N σ H) -> t { D with nx := N } σ H) (h2 : ∀ σ H,I σ H -> u D σ H) : uG t u D σ H := h1 _ h2
theorem u5 {K : A0} {H H' : Hp} {a : Addr} {xs : List V} (e : ay H H') (h : cQ K H a xs) : cQ K H' a xs := by
 rcases h with (h | ⟨o,h⟩) | h
 ·exact .inl (.inl (e _ _ h))
 ·exact .inl (.inr ⟨o,e _ _ h⟩)
 ·exact .inr h
theorem ak {H : Hp} {p : Addr} (h : H p = none) (o : HO) : ay H (aq H p o) := fun b u q => by rw [af (aQ q h)]; exact q
theorem qV {a b : Int} (h : 0 < b) : iu a b = bA a b := by unfold iu; rw [if_neg (by omega)]
theorem pB {n : Nat} {a b : Int} (b0 : b ≠ 0) (h : Bd n b) : Bd n (iu a b) := by
 have d : bA a b ∣ b := eP a b
 have k := Nat.le_of_dvd (by omega) (Int.natAbs_dvd_natAbs.mpr d)
 refine h.of_le ?_
 unfold iu
 split <;> omega
def Pair (H : Hp) (Q : VK) (p q : Int) : Prop := ∀ (t : Addr) (H' : Hp),ay H H' -> H' t = some (.tup [.int p,.int q]) -> Q (.ref t) H'
def mM : Sp := fun vs H Q _ => ∃ a b : Int,vs = [.int a,.int b] /\ 0 < b /\ Bd 8500 b /\ ∀ p q : Int,Fr p q a b -> Pair H Q p q
def qW : Sp := fun vs H Q _ => ∃ a b : Int,vs = [.int a,.int b] /\ b ≠ 0 /\ Bd 8500 b /\ ∀ p q : Int,Fr p q a b -> Pair H Q p q
structure eI (K : A0) (n : Nat) (H : Hp) (t : Addr) (p q : Int) : Prop where
 at_ : cQ K H t [.int p,.int q]
 pos : 0 < q
 bp : Bd n p
 bq : Bd n q
theorem eI.same {K : A0} {n : Nat} {H H' : Hp} {t : Addr} {p q : Int} (h : eI K n H t p q) (e : ay H H') : eI K n H' t p q := ⟨u5 e h.at_,h.pos,h.bp,h.bq⟩
theorem eI.mono {K : A0} {m n : Nat} {H : Hp} {t : Addr} {p q : Int} (h : eI K m H t p q) (e : m <= n) : eI K n H t p q := ⟨h.at_,h.pos,h.bp.mono e,h.bq.mono e⟩
structure bG (K : A0) (x qual : Str) (st : Stmt) (dV : Value) (f : Addr) (fd : FuncData) : Prop where
 ex : ∃ (oc : Value) (od : Option Addr) (kV doc pm : Value) (an : Option Addr) (cdv ct : Value) (osl : Array (Option Value)),
  fd = Al x qual (cy st) (b6 st) (ap st) dV kV doc pm an cdv ct /\ K.lookup f = some ⟨oc,od,.func fd,osl⟩ /\ B5 K cdv qual = true
 kp : Aj K (.ref f) = true
section
variable {P : Program} {w : World} {K : A0} {mg : Str -> Option Value} {base : Heap}
theorem bG.ok {x qual : Str} {st : Stmt} {dV : Value} {f : Addr} {fd : FuncData} {N ps : List Str} {k : Nat} {sp : Sp} (F : bG K x qual st dV f fd) (S : az N ps (ap st)) (len : ∀ vs H Q E,sp vs H Q E -> vs.length = ps.length)
  (hbody : ∀ (cdv : Value) (A : Around) (outer : List Env) (s : Shared) (H : Hp) (vs : List V) (Q : VK) (E : XK),bH k (A.deeper (PyProof.Rows.envOfC qual (ap st) s.heap.objs.size f cdv)) -> sp vs H Q E ->
   ∃ t,iE (gi aZ P w K mg base N qual (ap st) f cdv A outer s H E).nox (b6 st) t /\ t { nx := fun _ H' => Q .non H',rt := Q } (start N vs) H) : a7 P w K mg base aZ (k + 1) f fd ps sp := by
 obtain ⟨oc,od,kV,doc,pm,an,cdv,ct,osl,rfl,lk,hcd⟩ := F.ex
 refine sV lk hcd S len fun A outer s H vs Q E hr hsp => ?_
 obtain ⟨t,h,q⟩ := hbody cdv A outer s H vs Q E hr hsp
 exact ⟨t,h.nox,q⟩
theorem bG.binds {x qual : Str} {st : Stmt} {T : Addr} {f : Addr} {fd : FuncData} {ps : List Str} {o : Obj} {items : Array Value} {n : Nat} {ds : List Value} (F : bG K x qual st (.ref T) f fd) (ho : K.lookup T = some o) (hs : o.data = .seq items n)
  (h : ∀ (kV doc pm : Value) (an : Option Addr) (cdv ct : Value) (us : List Value),(us ++ ds).length = ps.length -> ∃ k : Option (Array Value) -> Sem (List (Str × Value)),bindArgs (Al x qual (cy st) (b6 st) (ap st) (.ref T) kV doc pm an cdv ct) ⟨us,[]⟩ = seqItems? (.ref T) >>= k /\ k (some items) = pure (ps.zip (us ++ ds))) : Binds K fd ps ds := by
 obtain ⟨oc,od,kV,doc,pm,an,cdv,ct,osl,rfl,lk,hcd⟩ := F.ex
 intro s us KX hl
 obtain ⟨k,h1,h2⟩ := h kV doc pm an cdv ct us hl
 exact PySem.W.binds_K KX rfl ho hs h1 h2
theorem bG.binds0 {x qual : Str} {st : Stmt} {dV : Value} {f : Addr} {fd : FuncData} {ps : List Str} (F : bG K x qual st dV f fd)
  (h : ∀ (kV doc pm : Value) (an : Option Addr) (cdv ct : Value) (us : List Value),us.length = ps.length -> bindArgs (Al x qual (cy st) (b6 st) (ap st) dV kV doc pm an cdv ct) ⟨us,[]⟩ = pure (ps.zip us)) : Binds K fd ps [] := by
 obtain ⟨oc,od,kV,doc,pm,an,cdv,ct,osl,rfl,lk,hcd⟩ := F.ex
 exact .all (h kV doc pm an cdv ct)
theorem aG {x qual : Str} {st : Stmt} {f : Addr} {oc dV : Value} {od an : Option Addr} {osl : Array (Option Value)} {kV doc pm cdv ct : Value} (l : K.lookup f = some ⟨oc,od,.func (Al x qual (cy st) (b6 st) (ap st) dV kV doc pm an cdv ct),osl⟩)
  (c : B5 K cdv qual = true) (k : Aj K (.ref f) = true) : bG K x qual st dV f (Al x qual (cy st) (b6 st) (ap st) dV kV doc pm an cdv ct) := ⟨⟨oc,od,kV,doc,pm,an,cdv,ct,osl,rfl,l,c⟩,k⟩
end
section
variable {X : Cx} {k j : Nat} {x : Str} {ps : List Str} {sp : Sp} {p pos : Pos} {e : Expr} {es : List Expr} {t : TA} {dvs : List V}
end
def lL (K : A0) : Sp := fun vs H Q _ => ∃ (t t' : Addr) (p q p' q' : Int),vs = [.ref t,.ref t'] /\ eI K 4000 H t p q /\ eI K 4000 H t' p' q' /\ ∀ r s : Int,Fr r s (p * p') (q * q') -> Pair H Q r s
theorem pC {x y k : Int} (h : x * k = y * k) (k0 : k ≠ 0) : x = y := Int.eq_of_mul_eq_mul_right k0 h
theorem tW {x y : Int} (h : 0 < x) (g : 0 < y) : x * y ≠ 0 := by have := Int.mul_pos h g; omega
end Sw
namespace XH
open PySem
structure Mv (fs ch : List Addr) (h h' : Heap) : Prop where
 keep : ∀ b o,b ∉ fs -> b ∉ ch -> h.get? b = some o -> h'.get? b = some o
 slot : ∀ b o,b ∈ fs -> b ∉ ch -> h.get? b = some o -> ∃ sl,h'.get? b = some { o with slots := sl }
 there : ∀ b o,h.get? b = some o -> ∃ o',h'.get? b = some o'
theorem Mv.refl (fs ch : List Addr) (h : Heap) : Mv fs ch h h := ⟨fun _ _ _ _ q => q,fun _ o _ _ q => ⟨o.slots,q⟩,fun _ o q => ⟨o,q⟩⟩
theorem Mv.trans {fs c1 c2 ch : List Addr} {h h1 h2 : Heap} (x : Mv fs c1 h h1) (y : Mv fs c2 h1 h2) (k1 : ∀ b,b ∈ c1 -> b ∈ ch) (k2 : ∀ b,b ∈ c2 -> b ∈ ch) : Mv fs ch h h2 where
 keep := fun b o hf hc q => y.keep b o hf (fun z => hc (k2 b z)) (x.keep b o hf (fun z => hc (k1 b z)) q)
 slot := fun b o hf hc q => by
  obtain ⟨sl,q1⟩ := x.slot b o hf (fun z => hc (k1 b z)) q
  obtain ⟨sl2,q2⟩ := y.slot b _ hf (fun z => hc (k2 b z)) q1
  exact ⟨sl2,q2⟩
 there := fun b o q => by
  obtain ⟨o1,q1⟩ := x.there b o q
  exact y.there b o1 q1
inductive sZ where
 | new
 | fl (v : Value)
def sZ.Is (F : Addr -> Prop) (h : Heap) (e : Addr) (vs : Array Value) : sZ -> Prop
 | .new => vs[1]? = some .none
 | .fl v => ∃ T oT ts,vs[1]? = some (.ref T) /\ F T /\ T ≠ e /\ h.get? T = some oT /\ oT.data = .fields ts /\ ts[3]? = some v
def Fz (vs : Array Value) : Prop := 1 < vs.size /\ vs[2]? = some .none
theorem Fz.set {vs : Array Value} (h : Fz vs) (v : Value) : Fz (vs.setIfInBounds 1 v) := ⟨by simpa using h.1,by rw [Array.getElem?_setIfInBounds]; simp [h.2]⟩
structure XO (F : Addr -> Prop) (h : Heap) (e : Addr) (cls : Value) (dx : Option Addr) (st : sZ) : Prop where
 ex : ∃ oe vs,h.get? e = some oe /\ oe.cls = cls /\ oe.dict = dx /\ oe.data = .fields vs /\ Fz vs /\ st.Is F h e vs
 fr : F e
theorem XO.mono {F G : Addr -> Prop} {h : Heap} {e : Addr} {cls : Value} {dx : Option Addr} {st : sZ} (x : XO F h e cls dx st) (k : ∀ b,F b -> G b) : XO G h e cls dx st := by
 obtain ⟨⟨oe,vs,a,b,c,d,f,g⟩,fr⟩ := x
 refine ⟨⟨oe,vs,a,b,c,d,f,?_⟩,k _ fr⟩
 cases st with
 | new => exact g
 | fl v =>
  obtain ⟨T,oT,ts,g1,g2,g3⟩ := g
  exact ⟨T,oT,ts,g1,k _ g2,g3⟩
theorem iR (o : Obj) (f : Array Value -> Array Value) : (o.mapFields f).dict = o.dict := by
 obtain ⟨c,d,dt,sl⟩ := o
 cases dt <;> rfl
section
variable {M : Model} {A : Around} {E : Value -> Shared -> Prop} {s : Shared}
theorem kr {base : Heap} {env : Env} {outer : List Env} {L e : Addr} {oe : Obj} {vs : Array Value} {head : Value} {had : Bool} {Q : Unit -> Shared -> Prop}
  (hfr : A.frames = some (env :: outer)) (hl : s.heap.FunFrames base (env :: outer)) (hf : env.frame = some L) (he : s.heap.get? e = some oe) (hd : oe.data = .fields vs) (hsz : 1 < vs.size)
  (h : ∀ h' T,Mv ((env :: outer).filterMap (·.frame)) [e] s.heap h' -> s.heap.get? T = none -> T ≠ e -> h'.get? e = some (oe.mapFields (·.setIfInBounds 1 (.ref T))) ->
   (∃ oT ts,h'.get? T = some oT /\ oT.data = .fields ts /\ ts[3]? = some (rawInt L)) -> Q () { s with heap := h' }) :
  wpAny M A (do let a <- frameOf env; let pl <- entryPlaceOf L had; let b <- EntryCells.newEntry head a .none (rawInt L) .none pl; setField (.ref e) 1 b) Q E s := by
 have hne : e ∉ (env :: outer).filterMap (·.frame) := by
  intro hm
  obtain ⟨_,o,ho,hnf⟩ := hl.mem hm
  rw [he] at ho
  cases ho
  exact hnf vs hd
 apply wpAny_bind
 apply wpAny_frameOf_fun hfr hl hf
 intro h1 hs
 apply wpAny_bind
 apply wpAny_entryPlaceOf
 intro pl hpl
 unfold EntryCells.newEntry newFields
 apply wpAny_bind
 refine wpAny_newObj_type ?_ (hpl.sizeOk5 ..)
 have e1 : h1.get? e = some oe := (hs.2.1 e hne).trans he
 generalize hob : ({ cls := .type "traceback",dict := none,data := .fields ([head,.ref L,.none,rawInt L,.none] ++ (if pl.isEmpty then List.replicate 6 Value.none else pl)).toArray } : Obj) = ob
 have e2 := Heap.get?_push_of_some (h := h1) ob e1
 refine wpAny_setField e2 hd hsz ?_
 have hTe : h1.objs.size ≠ e := Nat.ne_of_gt (Heap.lt_size e1)
 have d3 := Obj.data_mapFields hd (·.setIfInBounds 1 (Value.ref h1.objs.size))
 have e3 := Heap.get?_update_self (Obj.mapFields (·.setIfInBounds 1 (Value.ref h1.objs.size))) e2 (Obj.isFreed_of_fields d3)
 have kp : ∀ b o,b ≠ e -> h1.get? b = some o -> ((h1.push ob).update e (Obj.mapFields (·.setIfInBounds 1 (Value.ref h1.objs.size)))).get? b = some o := by
  intro b o hb q
  rw [Heap.get?_update_other _ _ (Ne.symm hb)]
  exact Heap.get?_push_of_some _ q
 have t3 : ((h1.push ob).update e (Obj.mapFields (·.setIfInBounds 1 (Value.ref h1.objs.size)))).get? h1.objs.size = some ob := by
  rw [Heap.get?_update_other _ _ (Ne.symm hTe)]
  exact Heap.get?_push_size h1 (by rw [<- hob]; rfl)
 refine h _ h1.objs.size ⟨?_,?_,?_⟩ ?_ hTe e3 ?_
 ·intro b o hb hc q
  exact kp b o (fun z => hc (by rw [z]; exact A3.mpr rfl)) ((hs.2.1 b hb).trans q)
 ·intro b o hb hc q
  obtain ⟨sl,q1⟩ := hs.2.2 b o q
  exact ⟨sl,kp b _ (fun z => hc (by rw [z]; exact A3.mpr rfl)) q1⟩
 ·intro b o q
  by_cases hb : b = e
  ·subst hb
   exact ⟨_,e3⟩
  ·obtain ⟨sl,q1⟩ := hs.2.2 b o q
   exact ⟨_,kp b _ hb q1⟩
 ·exact Heap.get?_none_of_le (by rw [hs.1]; exact A4 _)
 ·subst hob
  refine ⟨_,_,t3,rfl,?_⟩
  rcases hpl with rfl | ⟨_,_,_,_,_,_,_,rfl⟩ <;> simp
theorem nP {F : Addr -> Prop} {e : Addr} {cls v : Value} {dx fl : Option Addr} {Q : Unit -> Shared -> Prop} (x : XO F s.heap e cls dx (.fl v))
  (h : ∀ h' T,F T -> Mv [] [T] s.heap h' -> XO F h' e cls dx (.fl (fl.elim .none fun f => rawInt f)) -> Q () { s with heap := h' }) : wpAny M A (setFlight (.ref e) fl) Q E s := by
 obtain ⟨⟨oe,vs,he,hc,hdx,hd,hsz,T,oT,ts,h1,hF,hTe,hT,hdT,h3⟩,fr⟩ := x
 have z3 : 3 < ts.size := (Array.getElem?_eq_some_iff.mp h3).1
 have oth : ∀ b,b ≠ T -> (s.heap.update T (Obj.mapFields (·.setIfInBounds 3 (fl.elim Value.none fun f => rawInt f)))).get? b = s.heap.get? b := fun b hb => Heap.get?_update_other _ _ (Ne.symm hb)
 have t4 := Heap.get?_update_self (Obj.mapFields (·.setIfInBounds 3 (fl.elim Value.none fun f => rawInt f))) hT (Obj.isFreed_of_fields (Obj.data_mapFields hdT _))
 unfold setFlight
 apply wpAny_bind
 apply wpAny_field he hd h1
 rw [if_pos (by simp)]
 apply wpAny_setField hT hdT z3
 refine h _ T hF ⟨?_,fun b o hb => absurd hb (by simp),?_⟩ ⟨⟨oe,vs,(oth e (Ne.symm hTe)).trans he,hc,hdx,hd,hsz,T,_,_,h1,hF,hTe,t4,Obj.data_mapFields hdT _,by simp [z3]⟩,fr⟩
 ·intro b o _ hb q
  exact (oth b (fun z => hb (by rw [z]; exact A3.mpr rfl))).trans q
 ·intro b o q
  by_cases hb : b = T
  ·subst hb
   exact ⟨_,t4⟩
  ·exact ⟨o,(oth b hb).trans q⟩
theorem qX {F : Addr -> Prop} {base : Heap} {env : Env} {outer : List Env} {L e : Addr} {cls : Value} {dx : Option Addr} {st : sZ} {Q : Unit -> Shared -> Prop}
  (hfr : A.frames = some (env :: outer)) (hl : s.heap.FunFrames base (env :: outer)) (hf : env.frame = some L) (x : XO F s.heap e cls dx st)
  (h : ∀ h' ch,(∀ b ∈ ch,F b) -> Mv ((env :: outer).filterMap (·.frame)) ch s.heap h' -> XO (fun b => F b ∨ s.heap.get? b = none) h' e cls dx (.fl (rawInt L)) -> Q () { s with heap := h' }) : wpAny M A (noteFrame (.ref e) env) Q E s := by
 obtain ⟨⟨oe,vs,he,hc,hdx,hd,hsz,hst⟩,fr⟩ := x
 unfold noteFrame
 simp only [hf]
 cases st with
 | new =>
  apply wpAny_bind
  apply wpAny_field he hd hst
  rw [if_neg (by decide)]
  refine kr hfr hl hf he hd hsz.1 fun h' T mv tn tne he' ⟨oT,ts,hT,hdT,h3⟩ => ?_
  refine h h' [e] (fun b hb => by rw [A3.mp hb]; exact fr) mv ⟨⟨_,_,he',?_,?_,Obj.data_mapFields hd _,hsz.set _,T,oT,ts,by simp [hsz.1],.inr tn,tne,hT,hdT,h3⟩,.inl fr⟩
  ·rw [Obj.cls_mapFields]; exact hc
  ·rw [iR]; exact hdx
 | fl v =>
  obtain ⟨T,oT,ts,h1,hF,hTe,hT,hdT,h3⟩ := hst
  have z3 : 3 < ts.size := (Array.getElem?_eq_some_iff.mp h3).1
  apply wpAny_bind
  apply wpAny_field he hd h1
  rw [if_pos (by simp)]
  apply wpAny_bind
  apply wpAny_field hT hdT h3
  by_cases hv : (v == rawInt L) = true
  ·rw [if_pos hv]
   have ev : v = rawInt L := beq_iff_eq.mp hv
   subst ev
   refine wpAny_pure (h s.heap [] (fun b hb => absurd hb (by simp)) (.refl ..) ⟨⟨oe,vs,he,hc,hdx,hd,hsz,T,oT,ts,h1,.inl hF,hTe,hT,hdT,h3⟩,.inl fr⟩)
  ·rw [if_neg hv]
   apply wpAny_bind
   apply wpAny_setField hT hdT z3
   have oth : ∀ b,b ≠ T -> (s.heap.update T (Obj.mapFields (·.setIfInBounds 3 Value.none))).get? b = s.heap.get? b := fun b hb => Heap.get?_update_other _ _ (Ne.symm hb)
   have t4 := Heap.get?_update_self (Obj.mapFields (·.setIfInBounds 3 Value.none)) hT (Obj.isFreed_of_fields (Obj.data_mapFields hdT _))
   have nrec : ∀ b o,s.heap.get? b = some o -> (∀ vs,o.data ≠ .fields vs) -> b ≠ T := by
    intro b o hb hn z
    rw [z,hT] at hb
    cases hb
    exact hn ts hdT
   have mv1 : Mv ((env :: outer).filterMap (·.frame)) [T] s.heap (s.heap.update T (Obj.mapFields (·.setIfInBounds 3 Value.none))) := by
    refine ⟨fun b o _ hb q => (oth b (fun z => hb (by rw [z]; exact A3.mpr rfl))).trans q,fun b o _ hb q => ⟨o.slots,(oth b (fun z => hb (by rw [z]; exact A3.mpr rfl))).trans q⟩,fun b o q => ?_⟩
    by_cases hb : b = T
    ·subst hb
     exact ⟨_,t4⟩
    ·exact ⟨o,(oth b hb).trans q⟩
   refine kr (s := { s with heap := s.heap.update T (Obj.mapFields (·.setIfInBounds 3 Value.none)) }) hfr (hl.of_keeps fun b o hb hn => ⟨o,(oth b (nrec b o hb hn)).trans hb,rfl⟩) hf ((oth e (Ne.symm hTe)).trans he) hd hsz.1 fun h' T2 mv tn tne he' ⟨oT2,ts2,hT2,hdT2,h32⟩ => ?_
   refine h h' [T,e] ?_ (mv1.trans mv (fun b hb => by simp at hb; simp [hb]) (fun b hb => by simp at hb; simp [hb])) ⟨⟨_,_,he',?_,?_,Obj.data_mapFields hd _,hsz.set _,T2,oT2,ts2,by simp [hsz.1],.inr ?_,tne,hT2,hdT2,h32⟩,.inl fr⟩
   ·intro b hb
    simp at hb
    rcases hb with rfl | rfl
    ·exact hF
    ·exact fr
   ·rw [Obj.cls_mapFields]; exact hc
   ·rw [iR]; exact hdx
   ·cases q : s.heap.get? T2 with
    | none => rfl
    | some o =>
     obtain ⟨o',q'⟩ := mv1.there T2 o q
     rw [q'] at tn
     cases tn
end
end XH
namespace L2
open PySem PySem.Spec PyProof.Rows XH
structure d9 (P : Program) (w : World) (outer : List Env) (H : Hp) (s : Shared) (a : Addr) (H' : Hp) (cls : Value) (dx : Option Addr) (st : sZ) (s' : Shared) : Prop where
 os : s'.os = s.os
 bare : AllBare s'.gens
 un : Un (fX outer) [] H H' s.heap s'.heap
 hok : dy P w H' s'.heap
 xo : XO (fun b => s.heap.get? b = none /\ H' b = none) s'.heap a cls dx st
def cB (P : Program) (w : World) : mF := fun outer H s E e s' => ∃ a H' cls dx st,e = .ref a /\ d9 P w outer H s a H' cls dx st s' /\ E cls dx H'
section
variable {P : Program} {w : World} {H H' : Hp} {h h' h0 : Heap} {fs ch : List Addr} {a : Addr} {o : HO}
theorem a8.there (x : a8 P w H h a o) : ∃ u,h.get? a = some u := by
 cases o with
 | lst xs => obtain ⟨_,_,_,_,e⟩ := x; exact ⟨_,e⟩
 | tup xs => obtain ⟨_,_,_,_,e,_⟩ := x; exact ⟨_,e⟩
 | dK kvs => obtain ⟨_,_,_,_,_,_,_,e,_⟩ := x; exact ⟨_,e⟩
 | dT kvs => obtain ⟨_,_,_,_,_,_,_,e,_⟩ := x; exact ⟨_,e⟩
 | set S n => obtain ⟨_,_,_,_,e,_⟩ := x; exact ⟨_,e⟩
 | ins C dx fs => obtain ⟨_,_,_,e,_⟩ := x; exact ⟨_,e⟩
 | own y => exact x
 | xd fs => obtain ⟨_,⟨_,_,_,e,_⟩,_⟩ := x; exact ⟨_,e⟩
 | rng lo hi => obtain ⟨_,_,_,e⟩ := x; exact ⟨_,e⟩
 | frz ob u => obtain ⟨e,_⟩ := x; exact ⟨_,e⟩
 | tbl ps => exact ⟨_,show h.get? a = some _ from x⟩
 | met f y => exact ⟨_,show h.get? a = some _ from x⟩
 | ext φ => obtain ⟨_,⟨_,e⟩,_⟩ := x; exact ⟨_,e⟩
theorem dy.none_of (k : dy P w H h) (q : h.get? a = none) : H a = none := by
 cases r : H a with
 | none => rfl
 | some o =>
  obtain ⟨u,e⟩ := (k a o r).there
  rw [q] at e
  cases e
theorem tf (u : Un fs [] H H' h0 h) (m : Mv fs ch h h') (hc : ∀ b ∈ ch,h0.get? b = none) : Un fs [] H H' h0 h' where
 keep := fun b o q n hb hx => m.keep b o hb (fun z => by rw [hc b z] at q; cases q) (u.keep b o q n hb hx)
 slot := fun b o q n hb hx => by
  obtain ⟨sl,q1⟩ := u.slot b o q n hb hx
  obtain ⟨sl2,q2⟩ := m.slot b _ hb (fun z => by rw [hc b z] at q; cases q) q1
  exact ⟨sl2,q2⟩
 free := u.free
 there := fun b o q hx => by
  obtain ⟨o1,q1⟩ := u.there b o q hx
  exact m.there b o1 q1
 tups := u.tups
 frzs := u.frzs
 tbls := u.tbls
theorem pD (k : dy P w H h) (m : Mv fs ch h h') (hc : ∀ b ∈ ch,H b = none) (hf : ∀ b ∈ fs,H b = none) : dy P w H h' := fun a o e =>
 (k a o e).stay (fun b u hb q => by
  have t : H b ≠ none := by
   rcases hb with z | z
   ·rw [z,e]; exact fun y => nomatch y
   ·rw [z]; exact fun y => nomatch y
  exact m.keep b u (fun z => t (hf b z)) (fun z => t (hc b z)) q) (fun _ q => q) fun _ _ q => q
theorem _root_.XH.Mv.wider (m : Mv [] ch h h') : Mv fs ch h h' := ⟨fun b o _ hc q => m.keep b o (by simp) hc q,fun b o _ hc q => ⟨o.slots,m.keep b o (by simp) hc q⟩,m.there⟩
theorem mO {base : Heap} (u : Un fs [] H H' h h') : ∀ {l : List Env},h.FunFrames base l -> (∀ b ∈ fX l,b ∈ fs /\ H b = none) -> h'.FunFrames base l
 | [],_,_ => trivial
 | env :: r,⟨hk,⟨L,o,hf,hn,ho,hd⟩,hr⟩,hs => by
  have hL : L ∈ fX (env :: r) := by unfold fX; rw [BM,hf]; exact Aw
  obtain ⟨sl,e⟩ := u.slot L o ho (hs L hL).2 (hs L hL).1 (by simp)
  exact ⟨hk,⟨L,_,hf,hn,e,hd⟩,mO u hr fun b hb => hs b (by unfold fX; rw [BM,hf]; exact AR _ hb)⟩
end
section
variable {P : Program} {w : World} {H H' : Hp} {s s' : Shared} {a L : Addr} {cls v : Value} {dx : Option Addr} {st : sZ} {env : Env} {outer : List Env} {base : Heap} {M : Model} {A : Around} {Z : Value -> Shared -> Prop} {Q : Unit -> Shared -> Prop}
theorem d9.frees (c : d9 P w outer H s a H' cls dx st s') (hl : s.heap.FunFrames base outer) (hH : ∀ b ∈ fX outer,H b = none) : ∀ b ∈ fX outer,H' b = none := fun b hb => by
 obtain ⟨_,o,ho,_⟩ := hl.mem hb
 exact c.un.free b o ho (hH b hb) (by simp)
theorem d9.note (c : d9 P w (env :: outer) H s a H' cls dx st s') (hfr : A.frames = some (env :: outer)) (hf : env.frame = some L) (hl : s.heap.FunFrames base (env :: outer)) (hH : ∀ b ∈ fX (env :: outer),H b = none)
  (h : ∀ s'',d9 P w (env :: outer) H s a H' cls dx (.fl (rawInt L)) s'' -> Q () s'') : wpAny M A (noteFrame (.ref a) env) Q Z s' := by
 refine qX hfr (mO c.un hl fun b hb => ⟨hb,hH b hb⟩) hf c.xo fun h' ch hch mv x => h _ ?_
 refine ⟨c.os,c.bare,tf c.un mv fun b hb => (hch b hb).1,pD c.hok mv (fun b hb => (hch b hb).2) (c.frees hl hH),x.mono ?_⟩
 rintro b (q | q)
 ·exact q
 ·refine ⟨?_,c.hok.none_of q⟩
  cases r : s.heap.get? b with
  | none => rfl
  | some o =>
   obtain ⟨o',r'⟩ := c.un.there b o r (by simp)
   rw [r'] at q
   cases q
theorem d9.flight {fl : Option Addr} (c : d9 P w outer H s a H' cls dx (.fl v) s') (hl : s.heap.FunFrames base outer) (hH : ∀ b ∈ fX outer,H b = none)
  (h : ∀ s'',d9 P w outer H s a H' cls dx (.fl (fl.elim .none fun f => rawInt f)) s'' -> Q () s'') : wpAny M A (setFlight (.ref a) fl) Q Z s' := by
 refine nP c.xo fun h' T hT mv x => h _ ⟨c.os,c.bare,tf c.un mv.wider fun b hb => ?_,pD c.hok (mv.wider (fs := fX outer)) (fun b hb => ?_) (c.frees hl hH),x⟩
 ·rw [A3.mp hb]; exact hT.1
 ·rw [A3.mp hb]; exact hT.2
end
def XS (X : Cx) (E : St -> XK) : Value -> Shared -> Prop := fun e s' => ∃ σ H0 s0,au X [] σ H0 s0 /\ cB X.prog X.w X.stack H0 s0 (E σ) e s'
def ef (X : Cx) (E : St -> XK) : Prop := ∀ (pins : List (Addr × Obj)) (σ : St) (H : Hp) (s : Shared) (e : Value) (s' : Shared),au X pins σ H s -> cB X.prog X.w X.stack H s (E σ) e s' -> X.xe e s'
theorem cp {X : Cx} {E : St -> XK} : ef (X.wish (XS X E)) E := fun pins σ H s e s' I c => ⟨σ,H,s,I.unwish.pins_of (fun p hp => absurd hp (by simp)),c⟩
def lM (sp : Sp) (dvs : List V) (E : St -> XK) (t : TA) : TE := fun σ H Q => t σ H fun vs H1 => sp (vs ++ dvs) H1 Q (E σ)
section
variable {X : Cx} {k : Nat} {f C : Addr} {fd : FuncData} {ps : List Str} {sp : Sp} {dvs : List V} {ds : List Value} {E : St -> XK} {x m : Str} {p pos apos : Pos} {e o : Expr} {es : List Expr} {ta : TE} {t : TA}
theorem mP {pins : List (Addr × Obj)} {σ : St} {H : Hp} {s : Shared} {Q : VK} {us : List Value} {vs : List V} (F : a7 X.prog X.w X.K X.mg X.base (cB X.prog X.w) k f fd ps sp) (hr : bH k X.A) (hb : Binds X.K fd ps ds) (hd : aR dvs ds) (hx : ef X E)
  (I : au X pins σ H s) (r : aR vs us) (h : sp (vs ++ dvs) H Q (E σ)) : wpAny (model X.prog X.w) X.A (call (.ref f) us) (EP X pins σ Q) X.xe s := by
 have r2 : aR (vs ++ dvs) (us ++ ds) := r.append hd
 have hl : (us ++ ds).length = ps.length := by rw [<- r2.length]; exact F.len _ _ _ _ h
 refine wpAny_call (codeAny_mono (F.run X.A X.stack s H ⟨us,[]⟩ (us ++ ds) (vs ++ dvs) Q (E σ) hr I.env0 (hb s us I.kIn hl) r2 h) fun r s' hq => ?_)
 cases r with
 | error e => exact hx pins σ H s e s' I hq
 | ok fl =>
  cases fl with
  | ret u => exact I.after hq
  | next => exact False.elim hq
  | brk => exact False.elim hq
  | cont => exact False.elim hq
theorem ku (F : a7 X.prog X.w X.K X.mg X.base (cB X.prog X.w) k f fd ps sp) (hr : bH k X.A) (hg : Gl X x) (hm : X.mg x = some (.ref f)) (hk : Aj X.K (.ref f) = true) (hb : Binds X.K fd ps ds) (hd : aR dvs ds) (hx : ef X E)
  (ha : PA X (e :: es) t) (hdb : (x == ("__debug__" : Str)) = false := by decide) (he : starEach (e :: es) X.env = (false,eval e X.env) :: starEach es X.env := by rfl) (hpl : (backTo pos (starEach es X.env)).any (·.1) = false := by rfl) :
  PE X (.Call (.Name x p) (e :: es) [] pos) (lM sp dvs E t) := by
 intro pins s σ H Q I h
 refine wpAny_Call_Name_kw (dM I hg hm ?_ hdb)
 refine BO (h₀ := X.base) I.ok.mod.kin hk (bv (ha pos pins s σ H _ I h) fun us s1 ⟨vs,H1,I1,r,q⟩ => ⟨I1.kIn,?_⟩) he hpl
 exact mP F hr hb hd hx I1 r q
end
theorem iE.toX {X : Cx} {E' : Value -> Shared -> Prop} {st : List Stmt} {t : TS} (h : iE (X.wish E') st t) (k : ∀ e s,E' e s -> X.xe e s) : iE X st t := fun pins s σ H D I hw =>
 wpAny_mono (h pins s σ H D (I.wish _) hw) (fun _ _ q => q.unwish) fun e s z => k e s z
section
variable {P : Program} {w : World} {K : A0} {mg : Str -> Option Value} {base : Heap}
theorem pE {N : List Str} {qual : Str} {scope : Scope} {f : Addr} {cd : Value} {A : Around} {outer : List Env} {s : Shared} {H : Hp} {E : XK} {e : Value} {s' : Shared}
  (h : XS (gi (cB P w) P w K mg base N qual scope f cd A outer s H E) (fun _ => E) e s') : (gi (cB P w) P w K mg base N qual scope f cd A outer s H E).xe e s' := by
 obtain ⟨σ,H0,s0,I,a,H',cls,dx,st,rfl,c,hE⟩ := h
 show wpAny (model P w) (A.deeper (envOfC qual scope s.heap.objs.size f cd)) (leaving (envOfC qual scope s.heap.objs.size f cd) (.ref a)) (fun _ s'' => cB P w outer H s E (.ref a) s'') (fun e' s'' => cB P w outer H s E e' s'') s'
 unfold leaving
 apply wpAny_bind
 refine c.note (L := s.heap.objs.size) I.ok.frames rfl I.stack I.stkFree fun s1 c1 => ?_
 refine c1.flight I.stack I.stkFree fun s2 c2 => ?_
 have J := I.call' c2.os c2.un c2.hok c2.bare (fun b z => absurd z (by simp))
 refine ⟨a,H',cls,dx,_,rfl,⟨J.os,c2.bare,J.base,c2.hok,c2.xo.mono fun b q => ⟨?_,q.2⟩⟩,hE⟩
 cases r : s.heap.get? b with
 | none => rfl
 | some o =>
  obtain ⟨o',r'⟩ := I.base.there b o r (fun z => absurd (show b ∈ ([] : List Addr) from z) (by simp))
  rw [q.1] at r'
  cases r'
theorem tX {k : Nat} {f : Addr} {name qual : Str} {params : Arguments} {body : List Stmt} {scope : Scope} {dV kV doc pm cdv ct oc : Value} {an od : Option Addr}
  {osl : Array (Option Value)} {N ps : List Str} {sp : Sp} (lk : K.lookup f = some ⟨oc,od,.func (Al name qual params body scope dV kV doc pm an cdv ct),osl⟩) (hcd : B5 K cdv qual = true) (S : az N ps scope)
  (len : ∀ vs H Q E,sp vs H Q E -> vs.length = ps.length)
  (hbody : ∀ (A : Around) (outer : List Env) (s : Shared) (H : Hp) (vs : List V) (Q : VK) (E : XK),bH k (A.deeper (envOfC qual scope s.heap.objs.size f cdv)) -> sp vs H Q E ->
   ∃ t,iE ((gi (cB P w) P w K mg base N qual scope f cdv A outer s H E).wish (XS (gi (cB P w) P w K mg base N qual scope f cdv A outer s H E) fun _ => E)) body t /\ t { nx := fun _ H' => Q .non H',rt := Q } (start N vs) H) :
  a7 P w K mg base (cB P w) (k + 1) f (Al name qual params body scope dV kV doc pm an cdv ct) ps sp := by
 refine sV lk hcd S len fun A outer s H vs Q E hr hsp => ?_
 obtain ⟨t,h,q⟩ := hbody A outer s H vs Q E hr hsp
 exact ⟨t,h.toX fun e s' z => pE z,q⟩
theorem a7.noraise {k : Nat} {f : Addr} {fd : FuncData} {ps : List Str} {sp sp0 : Sp} (F : a7 P w K mg base (cB P w) k f fd ps sp) (h : ∀ vs H Q E,sp0 vs H Q E -> sp vs H Q E0) : a7 P w K mg base aZ k f fd ps sp0 :=
 ⟨fun vs H Q E q => F.len vs H Q E0 (h _ _ _ _ q),fun A outer s H args us vs Q E hr he hb hv hs => codeAny_mono (F.run A outer s H args us vs Q E0 hr he hb hv (h _ _ _ _ hs)) fun r s' hq => by
  cases r with
  | error e => obtain ⟨_,_,_,_,_,_,_,z⟩ := hq; exact z.elim
  | ok fl => cases fl <;> exact hq⟩
end
abbrev Cx.tried (X : Cx) (pins : List (Addr × Obj)) : Cx := { X with pn := X.pn ++ pins }
abbrev Cx.suite (X : Cx) (pins : List (Addr × Obj)) (a : Addr) : Cx := { X with A := X.A.mark (some (.ref a)),calm := false,pn := X.pn ++ pins,xe := fun _ _ => False }
def du (n : Bool) (a : Addr) (cls : Value) (dx : Option Addr) : HO := .ext fun h => ∃ ox vs,h.get? a = some ox /\ ox.cls = cls /\ ox.dict = dx /\ ox.data = .fields vs /\ vs[2]? = some .none /\ (n = true -> 1 < vs.size /\ vs[1]? = some .none)
abbrev tY := du false
theorem jt {P : Program} {w : World} {H : Hp} {h : Heap} {n : Bool} {a : Addr} {cls : Value} {dx : Option Addr} {ox : Obj} {vs : Array Value} (h1 : h.get? a = some ox) (h2 : ox.cls = cls) (h3 : ox.dict = dx) (h4 : ox.data = .fields vs) (h6 : vs[2]? = some .none) (h5 : n = true -> 1 < vs.size /\ vs[1]? = some .none) : a8 P w H h a (du n a cls dx) :=
 ⟨⟨ox,vs,h1,h2,h3,h4,h6,h5⟩,⟨ox,h1⟩,fun _ _ ⟨oy,ws,q,r⟩ kp => ⟨oy,ws,kp _ q,r⟩⟩
abbrev TH := Ends -> St -> Value -> Option Addr -> Hp -> Addr -> Prop
def PH (X : Cx) (hs : List ExceptHandler) (th : TH) : Prop :=
 ∀ (pins : List (Addr × Obj)) (σ : St) (H0 : Hp) (s0 : Shared) (D : Ends) (a : Addr) (H' : Hp) (cls v : Value) (dx : Option Addr) (s' : Shared),au X pins σ H0 s0 -> d9 X.prog X.w X.stack H0 s0 a H' cls dx (.fl v) s' -> th D σ cls dx H' a ->
  wpAny (model X.prog X.w) X.A (handleBy (.ref a) X.env hs) (SP X pins D) X.xe s'
section
variable {X : Cx} {pins : List (Addr × Obj)} {σ : St} {H H' : Hp} {s s' : Shared}
theorem au.tried (I : au X pins σ H s) : au (X.tried pins) [] σ H s :=
 ⟨⟨I.ok.mod,I.ok.kind,I.ok.glob,I.ok.blt,I.ok.above,I.ok.inj,I.ok.has,I.ok.cab,I.ok.hd,I.ok.frames,I.ok.stk,I.ok.exf,I.ok.bs,I.ok.bsz,I.ok.noex,I.ok.exfs,I.ok.funs,I.ok.frf⟩,
  I.os,I.bare,I.base,I.loc,I.cell,I.free,I.freeC,fun p hp => I.pin p (by simpa using hp),I.hok,I.len⟩
theorem au.untried (I : au (X.tried pins) [] σ H s) : au X pins σ H s :=
 ⟨⟨I.ok.mod,I.ok.kind,I.ok.glob,I.ok.blt,I.ok.above,I.ok.inj,I.ok.has,I.ok.cab,I.ok.hd,I.ok.frames,I.ok.stk,I.ok.exf,I.ok.bs,I.ok.bsz,I.ok.noex,I.ok.exfs,I.ok.funs,I.ok.frf⟩,
  I.os,I.bare,I.base,I.loc,I.cell,I.free,I.freeC,fun p hp => I.pin p (by simpa using hp),I.hok,I.len⟩
theorem au.insuite (I : au X pins σ H s) (a : Addr) : au (X.suite pins a) [] σ H s :=
 ⟨⟨I.ok.mod,I.ok.kind,I.ok.glob,I.ok.blt,I.ok.above,I.ok.inj,I.ok.has,I.ok.cab,fun z => (Bool.noConfusion z),I.ok.frames,I.ok.stk,I.ok.exf,I.ok.bs,I.ok.bsz,I.ok.noex,I.ok.exfs,I.ok.funs,I.ok.frf⟩,
  I.os,I.bare,I.base,I.loc,I.cell,I.free,I.freeC,fun p hp => I.pin p (by simpa using hp),I.hok,I.len⟩
theorem au.outsuite {a : Addr} (ok : X.Ok) (I : au (X.suite pins a) [] σ H s) : au X pins σ H s :=
 ⟨ok,I.os,I.bare,I.base,I.loc,I.cell,I.free,I.freeC,fun p hp => I.pin p (by simpa using hp),I.hok,I.len⟩
theorem gW {fs : List Addr} {h0 h : Heap} {a : Addr} {o : HO} (u : Un fs [] H H' h0 h) (n0 : h0.get? a = none) (na : H' a = none) : Un fs [] H (aq H' a o) h0 h where
 keep := u.keep
 slot := u.slot
 free := fun b ob q n hx => by
  have : b ≠ a := fun z => by rw [z,n0] at q; cases q
  rw [af this]
  exact u.free b ob q n hx
 there := u.there
 tups := fun b xs e => by
  have q := u.tups b xs e
  rw [af (aQ q na)]
  exact q
 frzs := fun b o' w' e => by
  have q := u.frzs b o' w' e
  rw [af (aQ q na)]
  exact q
 tbls := fun b ps e => by
  obtain ⟨mo,q⟩ := u.tbls b ps e
  exact ⟨mo,by rw [af (aQ q na)]; exact q⟩
theorem iS {P : Program} {w : World} {h : Heap} {a : Addr} {o : HO} (k : dy P w H h) (na : H a = none) (new : a8 P w (aq H a o) h a o) : dy P w (aq H a o) h := fun b u e => by
 by_cases hb : b = a
 ·subst hb; rw [ac] at e; cases e; exact new
 ·rw [af hb] at e
  exact (k b u e).stay (fun c v _ q => q) (fun c q => by rw [af (aQ q na)]; exact q) fun c xs q => by rw [af (aQ q na)]; exact q
theorem d9.caughtN {a : Addr} {cls : Value} {dx : Option Addr} (I : au X pins σ H s) (c : d9 X.prog X.w X.stack H s a H' cls dx .new s') : au X pins σ (aq H' a (du true a cls dx)) s' := by
 obtain ⟨⟨oe,vs,he,hc,hd,hda,hz,hn⟩,n0,na⟩ := c.xo
 refine I.call' c.os (gW c.un n0 na) (iS c.hok na (jt he hc hd hda hz.2 fun _ => ⟨hz.1,hn⟩)) c.bare fun b z => absurd z (by simp)
theorem d9.caught {a : Addr} {cls : Value} {dx : Option Addr} {st : sZ} (I : au X pins σ H s) (c : d9 X.prog X.w X.stack H s a H' cls dx st s') : au X pins σ (aq H' a (tY a cls dx)) s' := by
 obtain ⟨⟨oe,vs,he,hc,hd,hda,hz,_⟩,n0,na⟩ := c.xo
 refine I.call' c.os (gW c.un n0 na) (iS c.hok na (jt he hc hd hda hz.2 fun z => nomatch z)) c.bare fun b z => absurd z (by simp)
end
section
variable {X : Cx} {body : List Stmt} {h₀ : ExceptHandler} {hs : List ExceptHandler} {pos : Pos} {th : TH}
def xC (tb : (St -> XK) -> TS) (th : TH) : TS := fun D σ H => tb (fun σ' cls dx H' => ∀ a,H' a = none -> th D σ' cls dx H' a) D σ H
theorem SP.untried {pins : List (Addr × Obj)} {E : Value -> Shared -> Prop} {D : Ends} {f : Flow} {s' : Shared} (h : SP ((X.tried pins).wish E) [] D f s') : SP X pins D f s' := by
 cases f with
 | next => obtain ⟨σ',H',I,q⟩ := h; exact ⟨σ',H',I.unwish.untried,q⟩
 | brk => obtain ⟨σ',H',I,q⟩ := h; exact ⟨σ',H',I.unwish.untried,q⟩
 | cont => obtain ⟨σ',H',I,q⟩ := h; exact ⟨σ',H',I.unwish.untried,q⟩
 | ret u => obtain ⟨v,σ',H',I,r,q⟩ := h; exact ⟨v,σ',H',I.unwish.untried,r,q⟩
theorem lN {tb : (St -> XK) -> TS} (hstk : X.stack = X.env :: X.outer) (hfm : X.env.frame = some X.env.locals)
  (hb : ∀ (pins : List (Addr × Obj)) (E : St -> XK),iE ((X.tried pins).wish (XS (X.tried pins) E)) body (tb E)) (hh : PH X (h₀ :: hs) th) : PS X (.Try body (h₀ :: hs) [] [] pos) (xC tb th) := by
 intro pins s σ H D I h
 refine wpAny_Try_except ?_
 refine wpAny_mono (hb pins _ [] s σ H D (I.tried.wish _) h) (fun f s1 q => ?_) fun e s1 hx => ?_
 ·have q := q.untried
  cases f with
  | next => exact wpAny_execs_nil q
  | brk => exact q
  | cont => exact q
  | ret u => exact q
 ·obtain ⟨σ',H0,s0,I0,a,H',cls,dx,st,rfl,c,hE⟩ := hx
  have c' : d9 X.prog X.w (X.env :: X.outer) H0 s0 a H' cls dx st s1 := hstk ▸ c
  have J := I0.untried
  have fr : X.A.frames = some (X.env :: X.outer) := by rw [<- hstk]; exact J.ok.frames
  have st1 : s0.heap.FunFrames X.base (X.env :: X.outer) := by rw [<- hstk]; exact J.stack
  have sf : ∀ b ∈ fX (X.env :: X.outer),H0 b = none := by rw [<- hstk]; exact J.stkFree
  refine c'.note fr hfm st1 sf fun s2 c2 => ?_
  refine c2.flight st1 sf fun s3 c3 => ?_
  exact hh pins σ' H0 s0 D a H' cls _ dx s3 J (hstk ▸ c3) (hE a c3.xo.fr.2)
theorem lO : PH X [] (fun _ _ _ _ _ _ => False) := fun _ _ _ _ _ _ _ _ _ _ _ _ _ h => h.elim
end
structure XT (K : A0) (C : Addr) : Prop where
 ty : PySem.W.typeIn K (.ref C) = some (.type "type")
 cl : (PySem.W.clsIn K C).isSome = true
 ex : B1 K (.ref C) (.type "BaseException") = some true
theorem ju {K : A0} {M : Model} {h : Heap} {C : Addr} (X : K.In h) (e : (PySem.W.clsIn K C).isSome = true) : PySem.W.Looks M h (isType (.ref C)) true := by
 unfold PySem.W.clsIn at e
 split at e
 ·rename_i ho
  intro A' Q' E' s' k q
  unfold isType loadHead
  exact wpAny_bind (wpAny_loadPart (k _ _ (X _ _ ho)) (wpAny_pure q))
 ·cases e
structure XG (K : A0) (C : Addr) : Prop where
 ga : AE K (.ref C) "__getattribute__" = some (some (.builtin "BaseException.__getattribute__"))
 gt : AE K (.ref C) "__getattr__" = some none
 be : PySem.W.mroIn K C (.type "BaseException") = some true
section
variable {prog : Program} {w : World} {A : Around} {E : Value -> Shared -> Prop} {K : A0} {h : Heap} {g : Array GenState} {d : Drawn} {t : Nat} {os : OsState} {x C : Addr} {ox : Obj} {od : Option Obj} {name : Str}
end
section
variable {prog : Program} {w : World} {A : Around} {E : Value -> Shared -> Prop} {K : A0}
theorem lP {h : Heap} {g : Array GenState} {d : Drawn} {t : Nat} {os : OsState} {e C C' : Addr} {oe : Obj} {b : Bool} {Q : Bool -> Shared -> Prop} (KX : K.In h) (he : h.get? e = some oe) (hc : oe.cls = .ref C) (T : XT K C')
  (hsub : B1 K (.ref C) (.ref C') = some b) (hq : Q b ⟨h,g,d,t,os⟩) : wpAny (model prog w) A (excMatches (.ref e) (.ref C')) Q E ⟨h,g,d,t,os⟩ := by
 have l1 := PySem.W.looks_typeIn (M := model prog w) KX T.ty
 have l2 := PySem.W.looks_subIn (M := model prog w) KX T.ex
 have l3 := PySem.W.looks_subIn (M := model prog w) KX hsub
 have l4 := ju (M := model prog w) KX T.cl
 have l5 : PySem.W.Looks (model prog w) h (isInstance (.ref C') (.type "tuple")) false := l1.andThen (PySem.W.Looks.of_pure tc_notTuple)
 have l6 : PySem.W.Looks (model prog w) h (isExcClass (.ref C')) true := by
  unfold isExcClass
  refine l4.andThen ?_
  exact l2
 unfold excMatches
 repeat (first | with_reducible refine wpAny_bind (l5.at ?_) | with_reducible refine wpAny_bind (l6.at ?_) | with_reducible refine wpAny_bind (l3.at ?_) | (with_reducible refine wpAny_loadPart_at he ?_; rw [hc]) | wp_step)
 cases b <;> (wp_walk; exact hq)
end
def xD (K : A0) (C' : Addr) (t : TS) (r : TH) : TH := fun D σ cls dx H a => ∃ C b,cls = .ref C /\ B1 K (.ref C) (.ref C') = some b /\
 if b = true then t D σ (aq H a (tY a cls dx)) else r D σ cls dx H a
section
variable {X : Cx} {x n : Str} {np pos : Pos} {b0 : Stmt} {suite : List Stmt} {rest : List ExceptHandler} {i : Nat} {C' : Addr} {t : TS} {th : TH}
theorem SP.outsuite {pins : List (Addr × Obj)} {a : Addr} {D : Ends} {f : Flow} {s : Shared} (ok : X.Ok) (h : SP (X.suite pins a) [] D f s) : SP X pins D f s := by
 cases f with
 | next => obtain ⟨σ',H',I,q⟩ := h; exact ⟨σ',H',I.outsuite ok,q⟩
 | brk => obtain ⟨σ',H',I,q⟩ := h; exact ⟨σ',H',I.outsuite ok,q⟩
 | cont => obtain ⟨σ',H',I,q⟩ := h; exact ⟨σ',H',I.outsuite ok,q⟩
 | ret u => obtain ⟨v,σ',H',I,r,q⟩ := h; exact ⟨v,σ',H',I.outsuite ok,r,q⟩
theorem pG (T : XT X.K C') (hg : Gl X x) (hm : X.mg x = some (.ref C'))
  (hs : ∀ (pins : List (Addr × Obj)) (a : Addr),iE (X.suite pins a) (b0 :: suite) t) (hrest : PH X rest th) (hd : (x == ("__debug__" : Str)) = false := by decide) :
  PH X (.ExceptHandler (some (.Name x np)) none (b0 :: suite) pos :: rest) (xD X.K C' t th) := by
 intro pins σ H0 s0 D a H' cls v dx s' I c h
 obtain ⟨C,b,rfl,hsub,h⟩ := h
 have J : au X pins σ H' s' := I.call' c.os c.un c.hok c.bare (fun b z => absurd z (by simp))
 obtain ⟨oe,vs,he,hc,_,_,_⟩ := c.xo.ex
 refine wpAny_handleBy_cons (codeAny_handlers_test (dM (X := X.suite pins a) (J.insuite a) hg hm ?_ hd)) (by intro q; cases q)
 have KX := J.kIn
 obtain ⟨hh,g,d,tk,os⟩ := s'
 refine lP KX he hc T hsub ?_
 cases b with
 | false => exact hrest pins σ H0 s0 D a H' _ v dx _ I c h
 | true =>
  refine codeAny_handlers_suite ?_
  refine c.flight I.stack I.stkFree fun s2 c2 => ?_
  have J2 := (c2.caught I).insuite a
  refine wpAny_mono (hs pins a [] s2 _ _ _ J2 h) (fun f s4 q => ?_) fun _ _ z => z.elim
  exact q.outsuite I.ok
theorem pH {E : St -> XK} (hstk : X.stack = X.env :: X.outer) (hfm : X.env.frame = some X.env.locals) : PassesOwn (model X.prog X.w) X.A X.env (XS X E) := by
 intro e s1 hx
 obtain ⟨σ',H0,s0,J,a,H',cls,dx,st,rfl,c,hE⟩ := hx
 have c' : d9 X.prog X.w (X.env :: X.outer) H0 s0 a H' cls dx st s1 := hstk ▸ c
 have fr : X.A.frames = some (X.env :: X.outer) := by rw [<- hstk]; exact J.ok.frames
 have st1 : s0.heap.FunFrames X.base (X.env :: X.outer) := by rw [<- hstk]; exact J.stack
 have sf : ∀ b ∈ fX (X.env :: X.outer),H0 b = none := by rw [<- hstk]; exact J.stkFree
 unfold notedBy
 refine c'.note fr hfm st1 sf fun s2 c2 => ?_
 unfold cameBackBy
 obtain ⟨oe,vs,he,_,_,hd,_,T,_,_,h1,_⟩ := c2.xo.ex
 apply wpAny_bind
 apply wpAny_field he hd h1
 rw [if_neg (by simp)]
 refine c2.flight st1 sf fun s3 c3 => ?_
 exact ⟨σ',H0,s0,J,a,H',cls,dx,_,rfl,hstk ▸ c3,hE⟩
end
def oB : List Value := [.type "ValueError",.type "Exception",.type "BaseException",.type "object"]
theorem tZ {K : A0} {h : Heap} {C : Addr} {bmB : List Value} {nw : String} (X : K.In h) (q : B2 K C bmB nw = true) :
  ∃ bm N nm qn bs hdct sn sub ab col dd k0 k1 k2 k3 k5 mN,h.get? C = some (excClassObj nm qn C N bs bm hdct sn sub ab col dd k0 k1 k2 k3 k5 nw) /\ h.Ns N mN /\ mN "__init__" = none /\ OwnTail h bmB bm := by
 unfold B2 at q
 split at q
 ·rename_i dd cd sl ho
  split at q
  ·rename_i C' bm k0 k1 k2 k3 n k5 hm hs
   simp only [Bool.and_eq_true,beq_iff_eq,Bool.not_eq_true'] at q
   obtain ⟨⟨⟨⟨⟨e1,e2⟩,hdel⟩,ht⟩,hok⟩,hni⟩ := q
   subst e1 e2
   obtain ⟨nm,bs,mro,ns,qn,hd,sn,sub,ab,col,del⟩ := cd
   dsimp only at hm hdel hok hni
   subst hm hdel
   obtain ⟨l⟩ := sl
   have hl : l = [k0,k1,k2,k3,some (.builtin n),k5] := hs
   subst hl
   exact ⟨bm,ns,nm,qn,bs,hd,sn,sub,ab,col,dd,k0,k1,k2,k3,k5,_,X _ _ ho,.of_isNs (PySem.W.isNs_of_in X hok),PySem.W.nsMap_none_of_in X hok hni,PySem.W.tail_of_in X ht⟩
  ·cases q
 ·cases q
def t8 (C : Addr) (E : St -> XK) (t : TA) : TS := fun _ σ H => t σ H fun vs H1 => vs.length <= sizeLine /\ E σ (.ref C) none H1
section
variable {X : Cx} {x : Str} {np cpos pos : Pos} {e₀ : Expr} {rest : List Expr} {C : Addr} {t : TA} {E : St -> XK}
theorem mQ {pins : List (Addr × Obj)} {σ : St} {H : Hp} {s : Shared} {h' : Heap} {e : Addr} {us : List Value} (I : au X pins σ H s) (mk : Heap.MadeExcOf s.heap h' e (.ref C) us) : d9 X.prog X.w X.stack H s e H (.ref C) none .new { s with heap := h' } := by
 obtain ⟨t,ht,_,_⟩ := mk.there
 exact ⟨rfl,I.bare,Un.kept mk.keeps,I.hok.kept mk.keeps,⟨⟨_,_,ht,rfl,rfl,rfl,⟨by show 1 < 6; decide,rfl⟩,rfl⟩,mk.new,I.hok.none_of mk.new⟩⟩
theorem dI (q : B2 X.K C oB "ValueError.__new__" = true) (hg : Gl X x) (hm : X.mg x = some (.ref C)) (hc : X.calm = true) (hp : ef X E) (ha : PA X (e₀ :: rest) t) (hd : (x == ("__debug__" : Str)) = false := by decide)
  (he : starEach (e₀ :: rest) X.env = (false,eval e₀ X.env) :: starEach rest X.env := by rfl) (hpl : (backTo cpos (starEach rest X.env)).any (·.1) = false := by rfl) :
  PS X (.Raise (some (.Call (.Name x np) (e₀ :: rest) [] cpos)) none pos) (t8 C E t) := by
 intro pins s σ H D I h
 obtain ⟨bm,N,nm,qn,bs,hdct,sn,sub,ab,col,dd,k0,k1,k2,k3,k5,mN,hC,hN,hni,TL⟩ := tZ I.ok.mod.kin q
 have F := PySem.F.excBase_ValueError
 have W := ha cpos pins s σ H _ I h
 refine wpAny_Raise_call_subT (C := C) (nm := nm) (q := qn) (N := N) (bs := bs) (bm := bm) (hdct := hdct) (sn := sn) (sub := sub) (ab := ab) (col := col) (dd := dd) (k0 := k0) (k1 := k1) (k2 := k2) (k3 := k3) (k5 := k5) (mN := mN)
  F (TL.hasType F.hasBase) (I.ok.hd hc) (by rw [he]; exact hpl) hni (dM I hg hm ⟨rfl,?_⟩ hd)
 rw [he] at W ⊢
 refine Calls.evalArgs_plain (bv W fun us s2 ⟨vs,H1,I1,r,hl,z⟩ => ⟨rfl,by rw [<- r.length]; exact hl,I1.bk _ _ hC,hN.keeps I1.bk,TL.keeps I1.bk,fun h' e mk => ?_⟩)
 exact hp pins σ H1 s2 _ _ I1 ⟨e,H1,.ref C,none,.new,rfl,mQ I1 mk,z⟩
end
structure XI (K : A0) (C : Addr) : Prop where
 gg : XG K C
 cl : (PySem.W.clsIn K C).isSome = true
 at_ : AE K (.ref C) "__class__" = some (some (.builtin "object.__class__"))
 gt : PySem.W.specialIn K (.builtin "object.__class__") "__get__" = some (some (.builtin "getset_descriptor.__get__"))
 tk : PySem.W.takesIn K (.builtin "object.__class__") = some true
 ob : PySem.W.mroIn K C (.type "object") = some true
abbrev Cx.block (X : Cx) (scope : Scope) (cl : List (Str × Addr)) (C : Addr) (N : List Str) (own : Str) (fp : List Addr) (s : Shared) (H : Hp) : Cx :=
 { X with env := compEnvC scope cl C X.env,N := N,s₀ := s,H₀ := H,outer := X.stack,stack := X.stack,ex := fp,fn := fun y => y == own,pn := [],xe := fun _ _ => False }
structure jv (X : Cx) (scope : Scope) (cl : List (Str × Addr)) (own : Str) (ys : List Str) (js : List Nat) : Prop where
 clos : closureFor scope X.env = pure cl
 nocell : (scope.names.all fun p => !(p.2 == .cell)) = true
 kind : scope.kind = .function
 loc : (scope.names.all fun p => !(p.2 == .local) || scope.names.lookup p.1 == some .local) = true
 ownL : scope.names.lookup own = some .local
 sub : ∀ p ∈ cl,X.env.cells.lookup p.1 = some p.2
 has : ((relabel scope X.env).names.all fun p => !(p.2 == .cell || p.2 == .free) || (cl.lookup p.1).isSome) = true
 noown : cl.lookup own = none
 nd : (own :: ys).Nodup
 at_ : ∀ (i : Nat) (y : Str),ys[i]? = some y -> ∃ j : Nat,js[i]? = some j /\ X.N[j]? = some y /\ (X.env.scope.names.lookup y = some .cell ∨ X.env.scope.names.lookup y = some .free) /\ ((relabel scope X.env).names.lookup y = some .cell ∨ (relabel scope X.env).names.lookup y = some .free)
 len : js.length = ys.length
def bP (js : List Nat) (σ : St) : St := js.map fun j => (σ[j]?).getD none
theorem lookup_all {α : Type} {f : Str × α -> Bool} {x : Str} {a : α} : ∀ {l : List (Str × α)},l.all f = true -> l.lookup x = some a -> f (x,a) = true := by
 intro l h e
 exact BJ.mp h _ (Ai e)
section
variable {prog : Program} {w : World} {A : Around} {R : Result -> Shared -> Prop} {s : Shared}
end
section
variable {X : Cx} {scope : Scope} {cl : List (Str × Addr)} {own : Str} {ys : List Str} {js : List Nat} {fp : List Addr} {pins : List (Addr × Obj)} {σ : St} {H : Hp} {s s4 : Shared}
theorem f6 {h1 : Heap} (ok : jv X scope cl own ys js) (I : au X pins σ H s) (hf : ∀ b ∈ fp,gh X pins H b) (hlt : ∀ b ∈ fp,b < s.heap.objs.size) (hns : h1.Ns s.heap.objs.size (fun _ => none))
  (hk : ∀ b o,s.heap.get? b = some o -> h1.get? b = some o) (tk : Nat) :
  au (X.block scope cl s.heap.objs.size (own :: ys) own fp s H) [] (none :: bP js σ) H { s with heap := h1,toks := tk } := by
 have sub : ∀ y c,cl.lookup y = some c -> X.env.cells.lookup y = some c := fun y c e => ok.sub (y,c) (Ai e)
 refine ⟨⟨I.ok.mod,ok.kind,I.ok.glob,I.ok.blt,A4 _,fun x y c e1 e2 => I.ok.inj x y c (sub x c e1) (sub y c e2),fun x hx => ?_,fun x c e1 e2 => ?_,I.ok.hd,I.ok.frames,.inl rfl,fun b hb => ⟨AH (hlt b hb),fun x c e => (hf b hb).2.2.2.2.1 x c (sub x c e)⟩,
  I.bs,AT I.ok.bsz I.sz,fun b o e hb => ?_,fun b hb z => ?_,I.stack,I.stkFree⟩,rfl,I.bare,Un.kept hk,⟨_,hns,fun i y v e1 e2 e3 => ?_⟩,fun y c e => ?_,I.hok.fresh (A4 _),fun y c e => I.freeC y c (sub y c e),fun p hp => absurd (show p ∈ ([] : List (Addr × Obj)) from hp) (by simp),I.hok.kept hk,?_⟩
 ·have hx' : (relabel scope X.env).names.lookup x = some .cell ∨ (relabel scope X.env).names.lookup x = some .free := hx
  rcases hx' with z | z
  ·have q := lookup_all ok.has z
   simp only [beq_self_eq_true,Bool.true_or,Bool.not_true,Bool.false_or] at q
   exact Ak.mp q
  ·have q := lookup_all ok.has z
   simp only [beq_self_eq_true,Bool.or_true,Bool.not_true,Bool.false_or] at q
   exact Ak.mp q
 ·have e1' : (x == own) = true := e1
  have e : x = own := beq_iff_eq.mp e1'
  have e2' : cl.lookup x = some c := e2
  rw [e,ok.noown] at e2'
  cases e2'
 ·rcases (hf b hb).2.2.2.1 with z | z
  ·exact I.ok.noex b o e z
  ·exact absurd (AQ (Heap.lt_size (I.ok.bs b o e).1) z) (Nat.lt_irrefl _)
 ·rcases A8.mp (I.stkSub b z) with q | q
  ·exact (hf b hb).2.1 q
  ·exact (hf b hb).2.2.1 q
 ·cases i with
  | zero => cases e2
  | succ i =>
   have e1' : ys[i]? = some y := e1
   obtain ⟨j,hj,hN,hX,hc⟩ := ok.at_ i y e1'
   have e2' : (bP js σ)[i]? = some (some v) := e2
   unfold bP at e2'
   rw [AI,hj] at e2'
   have hs : σ[j]? = some (some v) := by
    cases q : σ[j]? with
    | none => rw [BN,q] at e2'; cases e2'
    | some o => rw [BN,q] at e2'; exact e2'
   obtain ⟨m,hn,hl⟩ := I.loc
   obtain ⟨u,r,l⟩ := hl j y v hN hs (hX.elim (fun z => .inr (.inl z)) fun z => .inr (.inr z))
   refine ⟨u,r,.inr ⟨hc,?_⟩⟩
   rcases l with ⟨k,_⟩ | ⟨k,c,hcl,hcell⟩
   ·have k' : X.env.scope.names.lookup y = some .local := k
    rcases hX with z | z <;> (rw [z] at k'; cases k')
   ·have ex : ∃ c',cl.lookup y = some c' := by
     rcases hc with z | z
     ·have q := lookup_all ok.has z
      simp only [beq_self_eq_true,Bool.true_or,Bool.not_true,Bool.false_or] at q
      exact Ak.mp q
     ·have q := lookup_all ok.has z
      simp only [beq_self_eq_true,Bool.or_true,Bool.not_true,Bool.false_or] at q
      exact Ak.mp q
    obtain ⟨c',hc'⟩ := ex
    have e := sub y c' hc'
    rw [hcl] at e
    cases e
    obtain ⟨oc,hoc,hd⟩ := hcell
    exact ⟨c,hc',oc,hk _ _ hoc,hd⟩
 ·obtain ⟨v,oc,hoc,hd⟩ := I.cell y c (sub y c e)
  exact ⟨v,oc,hk _ _ hoc,hd⟩
 ·show (none :: bP js σ).length = (own :: ys).length
  simp [bP,ok.len]
theorem iT {H' : Hp} {h' : Heap} {σ' : St} (I : au X pins σ H s) (hf : ∀ b ∈ fp,gh X pins H b) (J : au (X.block scope cl s.heap.objs.size (own :: ys) own fp s H) [] σ' H' s4) (hs : Heap.SameBut s.heap.objs.size s4.heap h') :
  au X pins σ H' { s4 with heap := h' } := by
 have low : ∀ b o,s.heap.get? b = some o -> b ≠ s.heap.objs.size := fun b o e => AH (Heap.lt_size e)
 have B := J.base
 have u : Un (fX X.stack) fp H H' s.heap h' := {
  keep := fun b o q n hb hx => (hs.2 b (low b o q)).trans (B.keep b o q n hb hx)
  slot := fun b o q n hb hx => by
   obtain ⟨sl,e⟩ := B.slot b o q n hb hx
   exact ⟨sl,(hs.2 b (low b o q)).trans e⟩
  free := B.free
  there := fun b o q hx => by
   obtain ⟨o',e⟩ := B.there b o q hx
   exact ⟨o',(hs.2 b (low b o q)).trans e⟩
  tups := B.tups
  frzs := B.frzs
  tbls := B.tbls }
 have hn : H' s.heap.objs.size = none := J.free
 have hk : dy X.prog X.w H' h' := fun a o e => (J.hok a o e).stay (fun b v hb q => (hs.2 b (by
  intro z
  rcases hb with z' | z'
  ·rw [<- z',z,hn] at e; cases e
  ·rw [z,hn] at z'; cases z')).trans q) (fun _ q => q) fun _ _ q => q
 exact I.call' (s' := { s4 with heap := h' }) (ch := fp) J.os u hk J.bare fun b hb => ⟨(hf b hb).2.2.2.1,(hf b hb).2.1,(hf b hb).2.2.2.2.1,(hf b hb).2.2.2.2.2⟩
end
section
variable {X : Cx} {scope : Scope} {cl : List (Str × Addr)} {own : Str} {ys : List Str} {js : List Nat} {elt iter : Expr} {px pos : Pos} {wi : TI} {te : TE}
end
open PySem.Builtin PySem.Builtin.ObjectAttr
structure XA (K : A0) (C S : Addr) : Prop where
 sa : AE K (.ref C) "__setattr__" = some (some (.builtin "object.__setattr__"))
 mro : (PySem.W.clsIn K C).map (·.mro) = some (.ref C :: .ref S :: oB)
 dct : PySem.W.hasDictIn K C = true
 ob : PySem.W.mroIn K C (.type "object") = some true
theorem pI (self : Value) (C S : Addr) : refuseLoop self "__setattr__" (.ref C :: .ref S :: oB) = pure () := by
 rw [refuseLoop_ref,refuseLoop_ref]
 kernel_rfl
section
variable {prog : Program} {w : World} {A : Around} {E : Value -> Shared -> Prop} {s : Shared} {K : A0} {x C S : Addr} {ox : Obj} {od : Option Obj} {name : Str} {v : Value}
open PySem.W in
theorem qY {R : Result -> Shared -> Prop} {tk : Tok} (X : K.In s.heap) (I : InstAt s.heap x ox C od) (N : XA K C S) (hn : findIn K (.ref C) name = some none)
  (h : wpAny (model prog w) A.in1 (storeInOwnDict (.ref x) (.ref C) (.str name tk) name v false) (fun fin s' => match fin with | .done f => R (.ok f) s' | .again c' => c'.quiet = true /\ codeAny (model prog w) A c' R s') (fun e s' => R (.error e) s') s) :
  codeAny (model prog w) A (.call (.builtin "object.__setattr__") ⟨[.ref x,.str name tk,v],[]⟩) R s := by
 have so := PySem.F.store_object
 obtain ⟨cd,hc,hm⟩ := Ah.mp N.mro
 have sub : Looks (model prog w) s.heap (isInstance (.ref x) (.type "object")) true := I.type.andThen (looks_mroIn X N.ob)
 have lm : Looks (model prog w) s.heap (mroOf (.ref C)) cd.mro := (looks_clsIn X hc).andThen .now
 have ck : ∀ {A' : Around} {Q' : Unit -> Shared -> Prop} {E' : Value -> Shared -> Prop},Q' () s -> wpAny (model prog w) A' (checkBuiltinCall "object.__setattr__" ⟨[.ref x,.str name tk,v],[]⟩) Q' E' s := fun {A' Q' E'} q =>
  check_slot (M := model prog w) (A := A') (E := E') (s := s) (i := "object.__setattr__") (owner := "object") (n := "__setattr__") (self := .ref x) (rest := [.str name tk,v]) (kw := []) (Q := Q') so.kind so.split sub (so.args (.ref x) (.str name tk) v) q
 refine codeAny_call_builtin so.slot.plain so.entry (ck ?_)
 rw [osa_eq,refuse_eq]
 refine wpAny_bind (wpAny_bind (I.type.here ?_))
 refine wpAny_bind (lm.here ?_)
 rw [hm,pI]
 refine wpAny_pure (wpAny_bind ?_)
 refine I.type.here (wpAny_bind ?_)
 refine (looks_findIn X hn).here (wpAny_bind (wpAny_pure ?_))
 exact h
open PySem.W in
theorem qZ {vs : Array Value} {Q : Unit -> Shared -> Prop} (X : K.In s.heap) (he : s.heap.get? x = some ox) (hc : ox.cls = .ref C) (hdx : ox.dict = none) (hda : ox.data = .fields vs) (N : XA K C S) (hn : findIn K (.ref C) name = some none)
  (h : ∀ h',(∀ b o,b ≠ x -> s.heap.get? b = some o -> h'.get? b = some o) -> h'.get? x = some { ox with dict := some s.heap.objs.size } -> h'.Ns1 s.heap.objs.size (fun y => if y = name then some v else none) ->
   Q () { s with heap := h',toks := s.toks + 2 }) : wpAny (model prog w) A (setAttr (.ref x) name v) Q E s := by
 have I : InstAt s.heap x ox C none := ⟨he,hc,by unfold notCls; rw [hda],by rw [hdx]; trivial⟩
 apply set_plain X I N.sa
 have I2 : InstAt ({ s with toks := s.toks + 1 } : Shared).heap x ox C none := I
 apply qY (s := { s with toks := s.toks + 1 }) X I2 N hn
 obtain ⟨cd,hcd,hd⟩ := any_some N.dct
 obtain ⟨oc,odi,oda,osl⟩ := ox
 dsimp only at hc hdx hda
 subst hc hdx hda
 refine wpAny_bind (wpAny_pure (wpAny_bind (wpAny_bind (wpAny_loadPart he ?_))))
 refine wpAny_bind (Looks.here (s := { s with toks := s.toks + 1 }) (looks_clsIn X hcd) ?_)
 rw [hd]
 show wpAny _ _ (alloc { cls := .type "dict",data := .dict #[] } >>= fun d => update x (fun o => { o with dict := some d }) >>= fun _ => dictMade (.ref C) x d) _ _ _
 refine wpAny_bind (wpAny_alloc ?_)
 have lt := Heap.lt_size he
 have hne : x ≠ s.heap.objs.size := AH lt
 have he1 := Heap.get?_push_of_some (h := s.heap) { cls := .type "dict",data := .dict #[] } he
 have e1 : (s.heap.push AO).get? s.heap.objs.size = some AO := Heap.get?_push_size s.heap rfl
 have e2 : (s.heap.push AO).Ns s.heap.objs.size (fun _ => none) := ⟨AO,#[],_,e1,rfl,(fun e he => absurd he (by simp)),fun _ => rfl⟩
 refine wpAny_bind (wpAny_update he1 ?_)
 refine wpAny_pure ?_
 have up : ∀ b,b ≠ x -> ((s.heap.push AO).update x (fun o => { o with dict := some s.heap.objs.size })).get? b = (s.heap.push AO).get? b := fun b hb => Heap.get?_update_other _ _ (Ne.symm hb)
 have e3 : ((s.heap.push AO).update x (fun o => { o with dict := some s.heap.objs.size })).Ns1 s.heap.objs.size (fun _ => none) := (Heap.Ns1.of_empty e2).at fun o q => (up _ (Ne.symm hne)).trans q
 have e4 : ((s.heap.push AO).update x (fun o => { o with dict := some s.heap.objs.size })).get? x = some ⟨.ref C,some s.heap.objs.size,.fields vs,osl⟩ := Heap.get?_update_self _ he1 rfl
 refine wpAny_bind (wpAny_pure (wpAny_bind ?_))
 refine wpAny_nsSet1 (s := ⟨(s.heap.push AO).update x (fun o => { o with dict := some s.heap.objs.size }),s.gens,s.drawn,s.toks + 1,s.os⟩) e3 fun h' hn2 hs2 => ?_
 obtain ⟨oD,esD,epD,hoD,hdD,hcD⟩ := hn2.count (ns := [name]) (PySem.Within.cons (ns := []) name v (fun y hy => absurd rfl hy))
 refine wpAny_bind (wpAny_lookBehind hoD (by rw [hdD]; exact pastItsLine_dict (AT hcD (by show 1 <= sizeLine + 1; decide))) ?_)
 refine wpAny_pure (h h' (fun b o hb q => ?_) ((hs2.2 x hne).trans e4) hn2)
 have hbd : b ≠ s.heap.objs.size := AH (Heap.lt_size q)
 exact (hs2.2 b hbd).trans ((up b hb).trans (Heap.get?_push_of_some _ q))
end
def u6 (K : A0) (ta tv : TE) (f : Str) : TS := fun D σ H => tv σ H fun y H1 => ta σ H1 fun x H2 => ∃ a C S n,x = .ref a /\ H2 a = some (du n a (.ref C) none) /\ XA K C S /\ AE K (.ref C) f = some none /\
 ∀ d,H2 d = none -> D.nx σ (aq (aq H2 d (.xd [(f,y)])) a (du n a (.ref C) (some d)))
section
variable {X : Cx} {o value : Expr} {f : Str} {pos pos' : Pos} {ta tv : TE}
theorem rb {pins : List (Addr × Obj)} {σ : St} {H : Hp} {s : Shared} {a C S : Addr} {y : V} {u : Value} {n : Bool} {A : Around} {E : Value -> Shared -> Prop} {Q : Unit -> Shared -> Prop} (I : au X pins σ H s) (e : H a = some (du n a (.ref C) none)) (N : XA X.K C S)
  (hn : AE X.K (.ref C) f = some none) (ry : RelV y u) (h : ∀ d s',H d = none -> au X pins σ (aq (aq H d (.xd [(f,y)])) a (du n a (.ref C) (some d))) s' -> Q () s') :
  wpAny (model X.prog X.w) A (setAttr (.ref a) f u) Q E s := by
 obtain ⟨⟨ox,vs,h1,h2,h3,h4,h6,h5⟩,_⟩ := (show a8 X.prog X.w H s.heap a (du n a (.ref C) none) from I.hok a _ e)
 refine qZ I.kIn h1 h2 h3 h4 N hn fun h' kp ha hd => ?_
 have nd : H s.heap.objs.size = none := I.hok.fresh (A4 _)
 have ad : a ≠ s.heap.objs.size := aQ e nd
 refine h s.heap.objs.size _ nd ?_
 have ne : ∀ b o,H b = some o -> b ≠ s.heap.objs.size := fun b o q => aQ q nd
 have nea : ∀ b,H b = none -> b ≠ a := fun b q z => by rw [z,e] at q; cases q
 refine I.un (t' := s.toks + 2) (h' := h') ⟨?_,?_,?_,?_,?_,?_,?_⟩ ?_
 ·intro b o q n hb _
  exact kp b o (nea b n) q
 ·intro b o q n hb _
  exact ⟨o.slots,kp b o (nea b n) q⟩
 ·intro b o q n _
  rw [af (nea b n),af (AH (Heap.lt_size q))]
  exact n
 ·intro b o q _
  by_cases hb : b = a
  ·subst hb
   exact ⟨_,ha⟩
  ·exact ⟨o,kp b o hb q⟩
 ·intro b xs q
  have hb : b ≠ a := bU q e (by intro z; cases z)
  rw [af hb,af (ne b _ q)]
  exact q
 ·intro b o' u' q
  have hb : b ≠ a := bU q e (by intro z; cases z)
  rw [af hb,af (ne b _ q)]
  exact q
 ·intro b ps q
  have hb : b ≠ a := bU q e (by intro z; cases z)
  exact ⟨#[],by rw [af hb,af (ne b _ q),q]; simp⟩
 ·intro b ob q
  by_cases hb : b = a
  ·subst hb
   rw [ac] at q
   cases q
   exact jt ha h2 rfl h4 h6 h5
  ·rw [af hb] at q
   by_cases hbd : b = s.heap.objs.size
   ·subst hbd
    rw [ac] at q
    cases q
    refine ⟨_,hd,fun g => ?_⟩
    show dm (B7 g [(f,y)]) (if g = f then some u else none)
    by_cases hg : g = f
    ·subst hg
     rw [if_pos rfl]
     simp only [B7,beq_self_eq_true]
     exact ry
    ·rw [if_neg hg]
     have : (g == f) = false := beq_eq_false_iff_ne.mpr hg
     simp only [B7,this]
     trivial
   ·rw [af hbd] at q
    refine (I.hok b ob q).stay (fun c v hc z => kp c v (fun y => ?_) z) (fun c z => ?_) fun c xs z => ?_
    ·rcases hc with z' | z'
     ·exact hb (z'.symm.trans y)
     ·rw [y,e] at z'; cases z'
    ·have hc : c ≠ a := bU z e (by intro z; cases z)
     rw [af hc,af (ne c _ z)]
     exact z
    ·have hc : c ≠ a := bU z e (by intro z; cases z)
     rw [af hc,af (ne c _ z)]
     exact z
end
section
variable {X : Cx} {o e value : Expr} {f : Str} {pos pos' : Pos} {ta tv : TE}
theorem mR {K : A0} (hK : X.K = K) (ha : PE X o ta) (hv : PE X value tv) (hs : swapsWith value (some (.Attribute o f pos')) pos.line X.env = pure false) : PS X (.Assign [.Attribute o f pos'] value pos) (u6 K ta tv f) := by
 subst hK
 intro pins s σ H D I h
 refine plainObj_wpAny_Assign_Attribute (bv (hv pins s σ H _ I h) fun u s1 ⟨y,H1,I1,ry,q⟩ => bv (ha pins s1 σ H1 _ I1 q) fun ov s2 ⟨x,H2,I2,rx,a,C,S,nb,ex,ea,n,hn,q2⟩ => ?_) hs
 subst ex
 obtain rfl : ov = Value.ref a := rx
 exact rb I2 ea n hn ry fun d s3 nd I3 => ⟨σ,_,I3,q2 d nd⟩
end
theorem re {K : A0} {h : Heap} {N : Addr} {mg : Str -> Option Value} {n : Str} {v : Value} (X : K.In h) (G : h.Ns N mg) (e : A7 K N n = some (some v)) : mg n = some v := by
 obtain ⟨o,es,ep,ho,hd,_,hf⟩ := G
 unfold A7 at e
 split at e
 ·rename_i q
  have z := X _ _ q
  rw [ho] at z
  cases z
  cases hd
  split at e
  ·rename_i he
   cases e
   rw [<- hf]
   unfold nsFind findBy
   rw [<- Array.find?_toList,he]
   rfl
  ·split at e <;> cases e
 ·cases e
structure u7 (K : A0) (C f : Addr) : Prop where
 ex : ∃ bm N nm q bs hdct sn sub ab col dd k0 k1 k2 k3 k5,K.lookup C = some (excClassObj nm q C N bs bm hdct sn sub ab col dd k0 k1 k2 k3 k5 "ValueError.__new__") /\ PySem.W.nsOkIn K N = true /\ A7 K N "__init__" = some (some (.ref f)) /\ PySem.W.tailIn K oB bm = true
 fn : PySem.W.typeIn K (.ref f) = some (.type "function")
 kp : Aj K (.ref C) = true
section
variable {prog : Program} {w : World} {A : Around} {E : Value -> Shared -> Prop} {h : Heap} {g : Array GenState} {d : Drawn} {t : Nat} {os : OsState}
variable {nm q : Str} {C N : Addr} {bs bm : List Value} {hdct : Bool} {sn : List Str} {sub : List Value} {ab : Bool} {col : Option Bool} {dd : Option Addr} {k0 k1 k2 k3 k5 : Option Value}
theorem gX {mN : Str -> Option Value} {rest : List Value} {fI : Addr} {oI : Obj} {Q : Fin -> Shared -> Prop} (tl : OwnTail h oB bm)
  (cl : h.get? C = some (excClassObj nm q C N bs bm hdct sn sub ab col dd k0 k1 k2 k3 k5 "ValueError.__new__")) (nn : h.Ns N mN) (ni : mN "__init__" = some (.ref fI)) (gI : h.get? fI = some oI) (cI : oI.cls = .type "function")
  (kq : ∀ h' e,Heap.MadeExcOf h h' e (.ref C) rest -> wpAny (model prog w) A (call (.ref fI) (.ref e :: rest)) (fun r s' => r = .none /\ Q (.done (.ret (.ref e))) s') E ⟨h',g,d,t,os⟩) (lr : rest.length <= sizeLine) :
  wpAny (model prog w) A (Builtin.«type.__call__» ⟨.ref C :: rest,[]⟩) Q E ⟨h,g,d,t,os⟩ := by
 have FV := PySem.F.excBase_ValueError
 repeat (first | with_reducible refine wpAny_loadPart_at cl ?_ | with_reducible refine wpAny_madeBy_exc cl ?_ | wp_step)
 refine codeAny_call_builtin_code (Code.quiet_builtin _ FV.quiet) (wpAny_check_new_subT FV tl cl ?_)
 refine codeAny_exc_new_subT FV tl cl ?_ lr
 show wpAny _ _ _ _ _ _
 generalize hp : (h.push { cls := .type "tuple",data := .seq rest.toArray }).push { cls := .ref C,data := .fields #[.ref h.objs.size,.none,.none,.none,.bool false,.none] } = h2
 have kp : ∀ b o,h.get? b = some o -> h2.get? b = some o := fun b o z => by rw [<- hp]; exact Heap.get?_push_of_some _ (Heap.get?_push_of_some _ z)
 have ge : h2.get? (h.objs.size + 1) = some { cls := .ref C,data := .fields #[.ref h.objs.size,.none,.none,.none,.bool false,.none] } := by rw [<- hp]; heap_get
 have gt : h2.get? h.objs.size = some { cls := .type "tuple",data := .seq rest.toArray } := by rw [<- hp]; exact Heap.get?_push_of_some _ (Heap.get?_push_at rfl rfl)
 have cl2 := kp _ _ cl
 have nn2 : h2.Ns N mN := nn.keeps kp
 have self : (Value.ref C :: bm).contains (.ref C) = true := by simp
 unfold isInstance
 repeat (first | with_reducible refine wpAny_loadPart_at ge ?_ | (with_reducible refine wpAny_isSubtype_exc cl2 ?_; rw [self]) | wp_step)
 show wpAny _ _ (typeLookup (.ref C) _) _ _ _
 refine wpAny_typeLookup_tail cl2 nn2 (tl.keeps kp) FV.mroIs FV.init.lookup ?_
 rw [ni]
 refine wpAny_holding (wpAny_bind ?_)
 unfold bindSpecial
 refine wpAny_bind (wpAny_typeOf (T := "function") ⟨_,kp _ _ gI,cI⟩ ?_)
 rw [if_pos (by decide)]
 refine wpAny_pure (wpAny_bind ?_)
 refine wpAny_mono (kq h2 (h.objs.size + 1) ⟨kp,Heap.get?_none_of_le (Nat.le_succ _),h.objs.size,ge,Heap.get?_none_of_le (A4 _),gt⟩) (fun r s' hr => ?_) fun _ _ z => z
 obtain ⟨rfl,z⟩ := hr
 wp_walk
 exact z
theorem nQ {mN : Str -> Option Value} {rest : List Value} {fI : Addr} {oI : Obj} {Q : Value -> Shared -> Prop} (tl : OwnTail h oB bm)
  (cl : h.get? C = some (excClassObj nm q C N bs bm hdct sn sub ab col dd k0 k1 k2 k3 k5 "ValueError.__new__")) (nn : h.Ns N mN) (ni : mN "__init__" = some (.ref fI)) (gI : h.get? fI = some oI) (cI : oI.cls = .type "function")
  (kq : ∀ h' e,Heap.MadeExcOf h h' e (.ref C) rest -> wpAny (model prog w) (A.under (.builtin "type.__call__" ⟨.ref C :: rest,[]⟩)) (call (.ref fI) (.ref e :: rest)) (fun r s' => r = .none /\ Q (.ref e) s') E ⟨h',g,d,t,os⟩) (lr : rest.length <= sizeLine) :
  wpAny (model prog w) A (call (.ref C) rest) Q E ⟨h,g,d,t,os⟩ := by
 have a1 := tc_lookup
 have a2 := tc_bind (.ref C)
 have ty : (⟨h,g,d,t,os⟩ : Shared).TypeIs (.ref C) "type" := ⟨_,cl,rfl⟩
 refine wpAny_call (codeAny_of_tree ?_)
 show wpAny _ _ (callAny (.ref C) _) _ _ _
 repeat (any_goals (first | assumption | with_reducible refine wpAny_loadPart_at cl ?_ | wp_step))
 refine ⟨rfl,?_⟩
 refine codeAny_call_builtin_at (Code.quiet_builtin _ (by decide +kernel)) entry_typeCall (wpAny_check_type_call_sub cl ?_)
 exact gX tl cl nn ni gI cI (fun h' e mk => kq h' e mk) lr
end
section
variable {X : Cx} {x : Str} {p pos : Pos} {e : Expr} {es : List Expr} {C fI : Addr} {t : TA} {k : Nat} {fd : FuncData} {ps : List Str} {sp : Sp}
theorem pJ {pins : List (Addr × Obj)} {σ : St} {H : Hp} {s : Shared} {Q : Value -> Shared -> Prop} {us : List Value} {vs : List V} {E : Value -> Shared -> Prop} {R : Addr -> Hp -> Prop} (M : u7 X.K C fI) (F : a7 X.prog X.w X.K X.mg X.base aZ k fI fd ps sp) (hr : bH (k + 1) X.A) (hb : Binds X.K fd ps [])
  (I : au X pins σ H s) (r : aR vs us) (lr : vs.length <= sizeLine) (h : ∀ a,H a = none -> sp (.ref a :: vs) (aq H a (du true a (.ref C) none)) (fun v H2 => v = .non /\ R a H2) E0)
  (hq : ∀ a h' H2 s2,Heap.MadeExcOf s.heap h' a (.ref C) us -> s2.os = s.os -> AllBare s2.gens -> Un (fX X.stack) [] H H2 s.heap s2.heap -> dy X.prog X.w H2 s2.heap -> R a H2 -> Q (.ref a) s2) :
  wpAny (model X.prog X.w) X.A (call (.ref C) us) Q E s := by
 obtain ⟨bm,N,nm,qn,bs,hdct,sn,sub,ab,col,dd,k0,k1,k2,k3,k5,lk,ok,ini,tl⟩ := M.ex
 have KX := I.kIn
 have lr' : us.length <= sizeLine := by rw [<- r.length]; exact lr
 have fn := M.fn
 unfold PySem.W.typeIn at fn
 obtain ⟨oI,gI,cI⟩ := Ah.mp fn
 have nn : s.heap.Ns N (s.heap.nsMap N) := .of_isNs (PySem.W.isNs_of_in KX ok)
 have key := fun h' a (mk : Heap.MadeExcOf s.heap h' a (.ref C) us) => (mQ I mk).caughtN I
 have un := fun h' a (mk : Heap.MadeExcOf s.heap h' a (.ref C) us) => gW (o := du true a (.ref C) none) (Un.kept (fs := fX X.stack) (ex := []) (H := H) mk.keeps) mk.new (I.hok.none_of mk.new)
 obtain ⟨hh,g,d,tk,os⟩ := s
 refine nQ (PySem.W.tail_of_in KX tl) (KX _ _ lk) nn (re KX nn ini) (KX _ _ gI) cI (fun h' a mk => ?_) lr'
 have I2 := key h' a mk
 have na : H a = none := I.hok.none_of mk.new
 have hs := h a na
 have r2 : aR (V.ref a :: vs) (Value.ref a :: us) := .cons rfl r
 have hl : (Value.ref a :: us ++ []).length = ps.length := by
  rw [List.append_nil,<- r2.length]
  exact F.len _ _ _ _ hs
 have hb' := hb ⟨h',g,d,tk,os⟩ (Value.ref a :: us) I2.kIn hl
 rw [List.append_nil] at hb'
 refine wpAny_call (codeAny_mono (F.run _ X.stack _ _ ⟨Value.ref a :: us,[]⟩ (Value.ref a :: us) _ _ E0 (hr.make C us []) (I2.env0.make C us []) hb' r2 hs) fun rr s' hq' => ?_)
 cases rr with
 | error z => exact hq'.elim
 | ok fl =>
  cases fl with
  | ret u =>
   obtain ⟨v,H2,os',bare,un2,hok,rv,ev,q2⟩ := hq'
   subst ev
   exact ⟨rv,hq a h' H2 s' mk os' bare ((un h' a mk).trans un2) hok q2⟩
  | next => exact False.elim hq'
  | brk => exact False.elim hq'
  | cont => exact False.elim hq'
end
section
variable {M : Model} {A : Around} {E : Value -> Shared -> Prop} {env : Env}
variable {nm q : Str} {C N : Addr} {bs bm : List Value} {hdct : Bool} {sn : List Str} {sub : List Value} {ab : Bool} {col : Option Bool} {dd : Option Addr} {k0 k1 k2 k3 k5 : Option Value} {nw : String}
theorem nR {s : Shared} {x : Sem Value} {Q : Flow -> Shared -> Prop} (hb : bm.contains (.type "BaseException") = true) (hh : A.handled = none)
  (h : wpAny M A x (fun v s1 => ∃ e dx ws sl,v = .ref e /\ s1.heap.get? C = some (excClassObj nm q C N bs bm hdct sn sub ab col dd k0 k1 k2 k3 k5 nw) /\ s1.heap.get? e = some ⟨.ref C,dx,.fields ws,sl⟩ /\ ws[1]? = some .none /\ E (.ref e) s1) E s) :
  wpAny M A (raiseStmt env (some x) none) Q E s := by
 have cb : (Value.ref C :: bm).contains (.type "BaseException") = true := by rw [List.contains_cons,hb,Bool.or_true]
 unfold raiseStmt
 apply wpAny_bind
 refine wpAny_mono h (fun v s1 h1 => ?_) fun _ _ z => z
 obtain ⟨e,dx,ws,sl,rfl,cl,ge,n1,he⟩ := h1
 obtain ⟨hp,g,d,tk,os⟩ := s1
 repeat (first | with_reducible refine wpAny_loadPart_at ge ?_ | with_reducible refine wpAny_loadPart_at cl ?_ | (with_reducible refine wpAny_isSubtype_exc cl ?_; rw [cb]) | wp_step)
 rw [n1]
 refine wpAny_pure ?_
 rw [if_neg (by decide)]
 exact wpAny_pure (wpAny_raiseNew_none hh he)
end
def del (H : Hp) (a : Addr) : Hp := fun b => if b = a then none else H b
theorem dQ {H : Hp} {a b : Addr} (h : b ≠ a) : del H a b = H b := if_neg h
theorem gY {H : Hp} {a : Addr} : del H a a = none := if_pos rfl
theorem t9 {fs : List Addr} {H H2 : Hp} {h0 h : Heap} {a : Addr} (u : Un fs [] H H2 h0 h) (na : H a = none) : Un fs [] H (del H2 a) h0 h where
 keep := u.keep
 slot := u.slot
 free := fun b o q n hx => by
  by_cases hb : b = a
  ·rw [hb,gY]
  ·rw [dQ hb]; exact u.free b o q n hx
 there := u.there
 tups := fun b xs e => by rw [dQ (aQ e na)]; exact u.tups b xs e
 frzs := fun b o w e => by rw [dQ (aQ e na)]; exact u.frzs b o w e
 tbls := fun b ps e => by rw [dQ (aQ e na)]; exact u.tbls b ps e
theorem rh {P : Program} {w : World} {H : Hp} {h : Heap} {a : Addr} {φ : Heap -> Prop} (k : dy P w H h) (e : H a = some (.ext φ)) : dy P w (del H a) h := fun b o q => by
 by_cases hb : b = a
 ·rw [hb,gY] at q; cases q
 ·rw [dQ hb] at q
  refine (k b o q).stay (fun c v _ z => z) (fun c z => ?_) fun c xs z => ?_
  ·rw [dQ (bU z e (by intro y; cases y))]; exact z
  ·rw [dQ (bU z e (by intro y; cases y))]; exact z
def mS (C : Addr) (sp : Sp) (E : St -> XK) (t : TA) : TS := fun _ σ H => t σ H fun vs H1 => vs.length <= sizeLine /\ ∀ a,H1 a = none -> sp (.ref a :: vs) (aq H1 a (du true a (.ref C) none)) (fun v H2 => v = .non /\ ∃ d,H2 a = some (du true a (.ref C) (some d)) /\ E σ (.ref C) (some d) (del H2 a)) E0
section
variable {X : Cx} {x : Str} {np cpos pos : Pos} {e₀ : Expr} {rest : List Expr} {C fI : Addr} {t : TA} {k : Nat} {fd : FuncData} {ps : List Str} {sp : Sp} {E : St -> XK}
theorem nS (M : u7 X.K C fI) (F : a7 X.prog X.w X.K X.mg X.base aZ k fI fd ps sp) (hr : bH (k + 1) X.A) (hg : Gl X x) (hm : X.mg x = some (.ref C)) (hb : Binds X.K fd ps []) (hc : X.calm = true) (hp : ef X E) (ha : PA X (e₀ :: rest) t) (hd : (x == ("__debug__" : Str)) = false := by decide)
  (he : starEach (e₀ :: rest) X.env = (false,eval e₀ X.env) :: starEach rest X.env := by rfl) (hpl : (backTo cpos (starEach rest X.env)).any (·.1) = false := by rfl) :
  PS X (.Raise (some (.Call (.Name x np) (e₀ :: rest) [] cpos)) none pos) (mS C sp E t) := by
 intro pins s σ H D I h
 obtain ⟨bm,N,nm,qn,bs,hdct,sn,sub,ab,col,dd,k0,k1,k2,k3,k5,lk,ok,ini,tl⟩ := M.ex
 have bb : bm.contains (.type "BaseException") = true := (PySem.W.tail_of_in I.kIn tl).hasType PySem.F.excBase_ValueError.hasBase
 have body : wpAny (model X.prog X.w) X.A (eval (.Call (.Name x np) (e₀ :: rest) [] cpos) X.env) (fun v s1 => ∃ e dx ws sl,v = .ref e /\ s1.heap.get? C = some (excClassObj nm qn C N bs bm hdct sn sub ab col dd k0 k1 k2 k3 k5 "ValueError.__new__") /\ s1.heap.get? e = some ⟨.ref C,dx,.fields ws,sl⟩ /\ ws[1]? = some .none /\ X.xe (.ref e) s1) X.xe s := by
  refine wpAny_Call_Name_kw (dM I hg hm ?_ hd)
  refine BO (h₀ := X.base) I.ok.mod.kin M.kp (bv (ha cpos pins s σ H _ I h) fun us s1 ⟨vs,H1,I1,r,lr,q⟩ => ⟨I1.kIn,?_⟩) he hpl
  refine pJ M F hr hb I1 r lr q fun a h' H2 s2 mk os bare un hok q2 => ?_
  obtain ⟨d,ed,hE⟩ := q2
  have I2 := I1.call' os un hok bare (fun b z => absurd z (by simp))
  obtain ⟨⟨ox,ws,g1,g2,g3,g4,g6,g5⟩,_⟩ := (show a8 X.prog X.w H2 s2.heap a (du true a (.ref C) (some d)) from hok a _ ed)
  have na := I1.hok.none_of mk.new
  obtain ⟨oc,odx,oda,osl⟩ := ox
  dsimp only at g2 g3 g4
  subst g2 g3 g4
  refine ⟨a,some d,ws,osl,rfl,I2.kIn _ _ lk,g1,(g5 rfl).2,hp pins σ H1 s1 _ _ I1 ⟨a,del H2 a,.ref C,some d,.new,rfl,⟨os,bare,t9 un na,rh hok ed,⟨⟨_,ws,g1,rfl,rfl,rfl,⟨(g5 rfl).1,g6⟩,(g5 rfl).2⟩,mk.new,gY⟩⟩,hE⟩⟩
 rw [arm_exec_Raise]
 apply wpAny_bind
 apply wpAny_standAt
 refine nR (C := C) (nm := nm) (q := qn) (N := N) (bs := bs) (bm := bm) (hdct := hdct) (sn := sn) (sub := sub) (ab := ab) (col := col) (dd := dd) (k0 := k0) (k1 := k1) (k2 := k2) (k3 := k3) (k5 := k5) (nw := "ValueError.__new__") bb (I.ok.hd hc) ?_
 apply wpAny_bind
 refine wpAny_mono body (fun v s1 h1 => ?_) fun _ _ z => z
 apply wpAny_bind
 apply wpAny_standAt
 exact wpAny_pure h1
end
section
variable {prog : Program} {w : World} {A : Around} {E : Value -> Shared -> Prop} {s : Shared}
end
section
variable {X : Cx} {tg : Expr} {hd : Option Value}
end
section
variable {X : Cx} {scope : Scope} {cl : List (Str × Addr)} {own : Str} {ys : List Str} {js : List Nat} {elt iter : Expr} {px pos : Pos} {wi : TI} {te : TE} {hd : Option Value}
end
section
variable {X : Cx} {x n : Str} {np pos : Pos} {b0 : Stmt} {suite : List Stmt} {rest : List ExceptHandler} {i : Nat} {C' : Addr} {tA : Addr -> TS} {th : TH}
end
section
variable {P : Program} {w : World} {K : A0} {mg : Str -> Option Value} {base : Heap} {hd : Option Value}
end
section
variable {X : Cx} {k : Nat} {f : Addr} {fd : FuncData} {ps : List Str} {sp : Sp} {dvs : List V} {ds : List Value} {x : Str} {p pos : Pos} {e : Expr} {es : List Expr} {t : TA} {hd : Option Value}
end
end L2
namespace Sw
open PySem L2 XH
structure Dx (P : Program) (w : World) (K : A0) (mg : Str -> Option Value) (base : Heap) (CX : mF) (k : Nat) (x : Str) (ps : List Str) (dvs : List V) (sp : Sp) where
 f : Addr
 fd : FuncData
 ok : a7 P w K mg base CX k f fd ps sp
 m : mg x = some (.ref f)
 q : Aj K (.ref f) = true
 b : Binds K fd ps []
 bd : ∃ ds,Binds K fd ps ds /\ aR dvs ds
def Dx.calm {P : Program} {w : World} {K : A0} {mg : Str -> Option Value} {base : Heap} {k : Nat} {x : Str} {ps : List Str} {dvs : List V} {sp sp0 : Sp} (D : Dx P w K mg base (cB P w) k x ps dvs sp) (h : ∀ vs H Q E,sp0 vs H Q E -> sp vs H Q E0) : Dx P w K mg base aZ k x ps dvs sp0 :=
 ⟨D.f,D.fd,D.ok.noraise h,D.m,D.q,D.b,D.bd⟩
section
variable {X : Cx} {k j : Nat} {x : Str} {ps : List Str} {sp : Sp} {p pos : Pos} {e : Expr} {es : List Expr} {t : TA} {dvs : List V} {E : St -> XK}
theorem aT (D : Dx X.prog X.w X.K X.mg X.base aZ k x ps dvs sp) (hr : bH j X.A) (hk : k <= j) (hg : Gl X x) (ha : PA X (e :: es) t) (hdb : (x == ("__debug__" : Str)) = false := by decide)
  (he : starEach (e :: es) X.env = (false,eval e X.env) :: starEach es X.env := by rfl) (hpl : (backTo pos (starEach es X.env)).any (·.1) = false := by rfl) :
  PE X (.Call (.Name x p) (e :: es) [] pos) (oY sp [] E0 t) :=
 mG D.ok (hr.mono hk) hg D.m D.q D.b .nil kh ha hdb he hpl
theorem ri (D : Dx X.prog X.w X.K X.mg X.base aZ k x ps dvs sp) (hr : bH j X.A) (hk : k <= j) (hg : Gl X x) (ha : PA X (e :: es) t) (hdb : (x == ("__debug__" : Str)) = false := by decide)
  (he : starEach (e :: es) X.env = (false,eval e X.env) :: starEach es X.env := by rfl) (hpl : (backTo pos (starEach es X.env)).any (·.1) = false := by rfl) :
  PE X (.Call (.Name x p) (e :: es) [] pos) (oY sp dvs E0 t) := by
 obtain ⟨ds,hb,hv⟩ := D.bd
 exact mG D.ok (hr.mono hk) hg D.m D.q hb hv kh ha hdb he hpl
theorem eQ (D : Dx X.prog X.w X.K X.mg X.base (cB X.prog X.w) k x ps dvs sp) (hr : bH j X.A) (hk : k <= j) (hg : Gl X x) (hx : ef X E) (ha : PA X (e :: es) t) (hdb : (x == ("__debug__" : Str)) = false := by decide)
  (he : starEach (e :: es) X.env = (false,eval e X.env) :: starEach es X.env := by rfl) (hpl : (backTo pos (starEach es X.env)).any (·.1) = false := by rfl) :
  PE X (.Call (.Name x p) (e :: es) [] pos) (lM sp [] E t) :=
 ku D.ok (hr.mono hk) hg D.m D.q D.b .nil hx ha hdb he hpl
theorem rj (D : Dx X.prog X.w X.K X.mg X.base (cB X.prog X.w) k x ps dvs sp) (hr : bH j X.A) (hk : k <= j) (hg : Gl X x) (hx : ef X E) (ha : PA X (e :: es) t) (hdb : (x == ("__debug__" : Str)) = false := by decide)
  (he : starEach (e :: es) X.env = (false,eval e X.env) :: starEach es X.env := by rfl) (hpl : (backTo pos (starEach es X.env)).any (·.1) = false := by rfl) :
  PE X (.Call (.Name x p) (e :: es) [] pos) (lM sp dvs E t) := by
 obtain ⟨ds,hb,hv⟩ := D.bd
 exact ku D.ok (hr.mono hk) hg D.m D.q hb hv hx ha hdb he hpl
end
theorem bG.okX {P : Program} {w : World} {K : A0} {mg : Str -> Option Value} {base : Heap} {x qual : Str} {st : Stmt} {dV : Value} {f : Addr} {fd : FuncData} {N ps : List Str} {k : Nat} {sp : Sp} (F : bG K x qual st dV f fd) (S : az N ps (ap st)) (len : ∀ vs H Q E,sp vs H Q E -> vs.length = ps.length)
  (hbody : ∀ (cdv : Value) (A : Around) (outer : List Env) (s : Shared) (H : Hp) (vs : List V) (Q : VK) (E : XK),bH k (A.deeper (PyProof.Rows.envOfC qual (ap st) s.heap.objs.size f cdv)) -> sp vs H Q E ->
   ∃ t,iE ((gi (cB P w) P w K mg base N qual (ap st) f cdv A outer s H E).wish (XS (gi (cB P w) P w K mg base N qual (ap st) f cdv A outer s H E) fun _ => E)) (b6 st) t /\ t { nx := fun _ H' => Q .non H',rt := Q } (start N vs) H) : a7 P w K mg base (cB P w) (k + 1) f fd ps sp := by
 obtain ⟨oc,od,kV,doc,pm,an,cdv,ct,osl,rfl,lk,hcd⟩ := F.ex
 exact tX lk hcd S len fun A outer s H vs Q E hr hsp => hbody cdv A outer s H vs Q E hr hsp
def mT (c : Addr) : Sp := fun vs H Q E => ∃ a b : Int,vs = [.int a,.int b] /\ Bd 8500 b /\ (b ≠ 0 -> ∀ p q : Int,Fr p q a b -> Pair H Q p q) /\ (b = 0 -> E (.ref c) none H)
theorem ua {c : Addr} : ∀ vs H Q E,qW vs H Q E -> mT c vs H Q E0 := fun vs H Q E ⟨a,b,e,b0,hb,q⟩ => ⟨a,b,e,hb,fun _ => q,fun z => absurd z b0⟩
end Sw
namespace L2
open PySem PySem.Spec PyProof.Rows XH
theorem cu {X : Cx} {K : A0} (hK : X.K = K) : de X (.builtin "isinstance") (fun xs H Q => ∃ x t T b,xs = [x,.ty T] /\ dP K H x t /\ Ap K t (.type T) = some b /\ Q (.bl b) H) := by
 subst hK
 intro pins s σ H xs us Q I r h
 obtain ⟨x,t,T,b,rfl,ty,e,q⟩ := h
 obtain ⟨u,w',rfl,e1,e2⟩ := vals2 r
 cases e2
 exact nH I e1 ty e fun tk => ⟨.bl b,H,I.tok tk,rfl,q⟩
theorem rn {X : Cx} : eX X (compareOp .IsNot) (fun x y H Q => ∃ b c,x = .bl b /\ y = .bl c /\ Q (.bl (!(b == c))) H) := by
 intro pins s σ H x y v u Q I rx ry h
 obtain ⟨b,c,rfl,rfl,q⟩ := h
 cases rx
 cases ry
 have e : (Value.bool b == Value.bool c) = (b == c) := by cases b <;> cases c <;> rfl
 refine wpAny_pure (a := Value.bool (!(Value.bool b == Value.bool c))) ?_
 rw [e]
 exact ⟨.bl (!(b == c)),H,I,rfl,q⟩
theorem ub {X : Cx} : eX X (compareOp .Is) (fun x y H Q => ∃ b c,x = .bl b /\ y = .bl c /\ Q (.bl (b == c)) H) := by
 intro pins s σ H x y v u Q I rx ry h
 obtain ⟨b,c,rfl,rfl,q⟩ := h
 cases rx
 cases ry
 have e : (Value.bool b == Value.bool c) = (b == c) := by cases b <;> cases c <;> rfl
 refine wpAny_pure (a := Value.bool (Value.bool b == Value.bool c)) ?_
 rw [e]
 exact ⟨.bl (b == c),H,I,rfl,q⟩
end L2
namespace Sw
open PySem L2 XH
inductive Wh (K : A0) (H : Hp) : V -> Bool -> Prop where
 | mk {x : V} {t : Value} {b1 b2 : Bool} (ty : dP K H x t) (h1 : Ap K t (.type "int") = some b1) (h2 : Ap K t (.type "bool") = some b2) : Wh K H x (b1 && !b2)
section
variable {K : A0} {H : Hp}
theorem pK (i : Int) : Wh K H (.int i) true := .mk (b1 := true) (b2 := false) (.int i) (by kernel_rfl) (by kernel_rfl)
theorem jw {H' : Hp} (g : ay H H') {x : V} {t : Value} (h : dP K H x t) : dP K H' x t := by
 cases h with
 | non => exact .non
 | bl b => exact .bl b
 | int i => exact .int i
 | str x => exact .str x
 | flt x => exact .flt x
 | lst e => exact .lst (g _ _ e)
 | frz e => exact .frz (g _ _ e)
 | tup e => exact .tup (g _ _ e)
 | dK e => exact .dK (g _ _ e)
 | dT e => exact .dT (g _ _ e)
 | ins e c a n k m => exact .ins (g _ _ e) c a n k m
theorem Wh.same {H' : Hp} (g : ay H H') {x : V} {b : Bool} (h : Wh K H x b) : Wh K H' x b := by
 cases h with
 | mk ty h1 h2 => exact .mk (jw g ty) h1 h2
end
def uc (K : A0) : Sp := fun vs H Q _ => ∃ (x : V) (b : Bool),vs = [x] /\ Wh K H x b /\ Q (.bl b) H
inductive nU (K : A0) (H : Hp) : V -> Bool -> Prop where
 | no {x : V} {t : Value} (ty : dP K H x t) (h : Ap K t (.type "tuple") = some false) : nU K H x false
 | len {a : Addr} {ys : List V} (e : H a = some (.tup ys)) (h : ((ys.length : Nat) : Int) ≠ 2) : nU K H (.ref a) false
 | top {a : Addr} {y z : V} (e : H a = some (.tup [y,z])) (h : Wh K H y false) : nU K H (.ref a) false
 | bot {a : Addr} {y z : V} (e : H a = some (.tup [y,z])) (h : Wh K H y true) (h' : Wh K H z false) : nU K H (.ref a) false
 | two {a : Addr} {p q : Int} (e : H a = some (.tup [.int p,.int q])) : nU K H (.ref a) (decide (1 <= q) && decide (bA p q = 1))
theorem nU.same {K : A0} {H H' : Hp} (g : ay H H') {x : V} {b : Bool} (h : nU K H x b) : nU K H' x b := by
 cases h with
 | no ty h => exact .no (jw g ty) h
 | len e h => exact .len (g _ _ e) h
 | top e h => exact .top (g _ _ e) (h.same g)
 | bot e h h' => exact .bot (g _ _ e) (h.same g) (h'.same g)
 | two e => exact .two (g _ _ e)
def lQ (K : A0) : Sp := fun vs H Q _ => ∃ (x : V) (b : Bool),vs = [x] /\ nU K H x b /\ Q (.bl b) H
theorem gu (K : A0) : Ap K (.type "tuple") (.type "tuple") = some true := by kernel_rfl
theorem ud {K : A0} {H : Hp} {a : Addr} {p q : Int} {b : Bool} (e : H a = some (.tup [.int p,.int q])) (h : (decide (1 <= q) && decide (bA p q = 1)) = b) : nU K H (.ref a) b := h ▸ .two e
end Sw
namespace L2
open PySem PySem.Spec PyProof.Rows XH
end L2
namespace Sw
open PySem L2 XH PyProof.Rows
structure u8 (P : Program) (w : World) (K : A0) (mg : Str -> Option Value) (base : Heap) (k : Nat) (C : Addr) (ps : List Str) (sp : Sp) where
 f : Addr
 fd : FuncData
 ok : a7 P w K mg base aZ k f fd ps sp
 ci : u7 K C f
 b : Binds K fd ps []
section
variable {X : Cx} {k j : Nat} {x : Str} {ps : List Str} {sp : Sp} {p np pos cpos : Pos} {e : Expr} {es : List Expr} {t : TA} {hd : Option Value} {C : Addr} {E : L2.St -> XK}
theorem mU (D : u8 X.prog X.w X.K X.mg X.base k C ps sp) (hr : bH j X.A) (hk : k + 1 <= j) (hg : Gl X x) (hm : X.mg x = some (.ref C)) (hc : X.calm = true) (hp : ef X E) (ha : PA X (e :: es) t) (hdb : (x == ("__debug__" : Str)) = false := by decide)
  (he : starEach (e :: es) X.env = (false,eval e X.env) :: starEach es X.env := by rfl) (hpl : (backTo cpos (starEach es X.env)).any (·.1) = false := by rfl) :
  PS X (.Raise (some (.Call (.Name x np) (e :: es) [] cpos)) none pos) (mS C sp E t) :=
 nS D.ci D.ok (hr.mono hk) hg hm D.b hc hp ha hdb he hpl
end
theorem em {H H' : Hp} {p : Addr} (g : ay H H') (h : H p = none) (o : HO) : ay H (aq H' p o) := fun b u q => by
 rw [af (aQ q h)]
 exact g b u q
def jx (X : Cx) (scope : Scope) (ys : List Str) (js : List Nat) : Prop := ∀ (i : Nat) (y : Str),ys[i]? = some y -> ∃ j : Nat,js[i]? = some j /\ X.N[j]? = some y /\ (X.env.scope.names.lookup y = some .cell ∨ X.env.scope.names.lookup y = some .free) /\ ((relabel scope X.env).names.lookup y = some .cell ∨ (relabel scope X.env).names.lookup y = some .free)
theorem xE {X : Cx} {scope : Scope} : jx X scope [] [] := fun i y h => by simp at h
theorem xF {X : Cx} {scope : Scope} {ys : List Str} {js : List Nat} {y : Str} {j : Nat} (t : jx X scope ys js) (h1 : X.N[j]? = some y := by rfl) (h2 : X.env.scope.names.lookup y = some .cell ∨ X.env.scope.names.lookup y = some .free := by first | exact Or.inl rfl | exact Or.inr rfl)
  (h3 : (relabel scope X.env).names.lookup y = some .cell ∨ (relabel scope X.env).names.lookup y = some .free := by first | exact Or.inl rfl | exact Or.inr rfl) : jx X scope (y :: ys) (j :: js) := fun i z h => by
 cases i with
 | zero =>
  cases h
  exact ⟨j,rfl,h1,h2,h3⟩
 | succ i => exact t i z h
inductive nV (X : Cx) : List (Str × Addr) -> Prop where
 | nil : nV X []
 | cons {y : Str} {c : Addr} {cl : List (Str × Addr)} (h : X.env.cells.lookup y = some c) (t : nV X cl) : nV X ((y,c) :: cl)
theorem nV.all {X : Cx} {cl : List (Str × Addr)} (h : nV X cl) : ∀ p ∈ cl,X.env.cells.lookup p.1 = some p.2 := by
 induction h with
 | nil => intro p hp; simp at hp
 | cons h _ ih =>
  intro p hp
  rcases A8.mp hp with e | e
  ·rw [e]; exact h
  ·exact ih p e
theorem xG {X : Cx} {scope : Scope} {cl : List (Str × Addr)} {own : Str} {ys : List Str} {js : List Nat} (a : jx X scope ys js) (s : nV X cl) (nd : (own :: ys).Nodup) (len : js.length = ys.length) (clos : closureFor scope X.env = pure cl) (nocell : (scope.names.all fun p => !(p.2 == .cell)) = true) (kind : scope.kind = .function)
  (loc : (scope.names.all fun p => !(p.2 == .local) || scope.names.lookup p.1 == some .local) = true) (ownL : scope.names.lookup own = some .local) (has : ((relabel scope X.env).names.all fun p => !(p.2 == .cell || p.2 == .free) || (cl.lookup p.1).isSome) = true) (noown : cl.lookup own = none) : jv X scope cl own ys js :=
 ⟨clos,nocell,kind,loc,ownL,s.all,has,noown,nd,a,len⟩
section
variable {K : A0} {cs : List Addr} {S C D : Addr} {i j : Nat}
end
def eT (C : Addr) (f : Str) : Sp := fun vs H Q _ => ∃ a y n,vs = [.ref a,y] /\ H a = some (du n a (.ref C) none) /\ ∀ d,H d = none -> Q .non (L2.aq (L2.aq H d (.xd [(f,y)])) a (du n a (.ref C) (some d)))
theorem mV {H : Hp} {Q : VK} {a C : Addr} {f : Str} {y : V} (na : H a = none) (h : ∀ d H2,ay H H2 -> H2 a = some (du true a (.ref C) (some d)) -> H2 d = some (.xd [(f,y)]) -> d ≠ a -> ay H (del H2 a) -> del H2 a d = some (.xd [(f,y)]) -> Q .non H2) {E : XK} :
  eT C f [.ref a,y] (L2.aq H a (du true a (.ref C) none)) Q E := by
 refine ⟨a,y,true,rfl,ac,fun d hd => ?_⟩
 have ne : d ≠ a := by
  intro z
  rw [z,ac] at hd
  cases hd
 have nd : H d = none := by rwa [af ne] at hd
 have g : ay H (L2.aq (L2.aq (L2.aq H a (du true a (.ref C) none)) d (.xd [(f,y)])) a (du true a (.ref C) (some d))) := em (em (em (fun _ _ q => q) na _) nd _) na _
 have e2 : L2.aq (L2.aq (L2.aq H a (du true a (.ref C) none)) d (.xd [(f,y)])) a (du true a (.ref C) (some d)) d = some (.xd [(f,y)]) := by rw [af ne,ac]
 exact h d _ g ac e2 ne (fun b o q => by rw [dQ (aQ q na)]; exact g b o q) (by rw [dQ ne]; exact e2)
structure dw (P : Program) (w : World) (K : A0) (mg : Str -> Option Value) (base : Heap) (CX : mF) (k : Nat) (f : Addr) (ps : List Str) (dvs : List V) (sp : Sp) where
 fd : FuncData
 ok : a7 P w K mg base CX k f fd ps sp
 b : Binds K fd ps []
 bd : ∃ ds,Binds K fd ps ds /\ aR dvs ds
def dw.calm {P : Program} {w : World} {K : A0} {mg : Str -> Option Value} {base : Heap} {k : Nat} {f : Addr} {ps : List Str} {dvs : List V} {sp sp0 : Sp} (D : dw P w K mg base (cB P w) k f ps dvs sp) (h : ∀ vs H Q E,sp0 vs H Q E -> sp vs H Q E0) : dw P w K mg base aZ k f ps dvs sp0 :=
 ⟨D.fd,D.ok.noraise h,D.b,D.bd⟩
def pL (K : A0) (m : Str) (f : Addr) (sp : Sp) (dvs : List V) (ta : TE) (t : TA) : TE := fun σ H Q => ta σ H fun x H1 => ∃ a C dx fs,x = .ref a /\ H1 a = some (.ins C dx fs) /\ mE K C /\ cV K C m f /\ fs.lookup m = none /\
 t σ H1 fun vs H2 => sp (x :: (vs ++ dvs)) H2 Q E0
section
variable {X : Cx} {k j : Nat} {f C : Addr} {ps : List Str} {sp : Sp} {dvs : List V} {x m : Str} {p pos apos : Pos} {e o : Expr} {es : List Expr} {ta tb : TE} {t : TA}
theorem pM (M : Mk X.K C f) (D : dw X.prog X.w X.K X.mg X.base aZ k f ps dvs sp) (hr : bH j X.A) (hk : k + 1 <= j) (hg : Gl X x) (hm : X.mg x = some (.ref C)) (hdb : (x == ("__debug__" : Str)) = false := by decide) : PE X (.Call (.Name x p) [] [] pos) (sU C sp [] E0 qG) :=
 o3 M D.ok (hr.mono hk) hg hm D.b .nil kh hdb
theorem pN {pins : List (Addr × Obj)} {σ : L2.St} {H1 : Hp} {s1 : Shared} {Q : VK} {a dx : Addr} {fs : List (Str × V)} {pl : Sem Bool} {ds : List Value} (F : a7 X.prog X.w X.K X.mg X.base aZ k f fd ps sp) (hr : bH k X.A) (hb : Binds X.K fd ps ds) (hd : aR dvs ds) (ha : PA X (e :: es) t)
  (hst : starEach (e :: es) X.env = (false,eval e X.env) :: starEach es X.env) (hpl : (backTo pos (starEach es X.env)).any (·.1) = false)
  (I1 : au X pins σ H1 s1) (ea : H1 a = some (.ins C dx fs)) (c : mE X.K C) (hm : cV X.K C m f) (l : fs.lookup m = none) (q : t σ H1 fun vs H2 => sp (.ref a :: (vs ++ dvs)) H2 Q E0) :
  wpAny (model X.prog X.w) X.A (getMethod (.ref a) m pl) (fun fx s2 => wpAny (model X.prog X.w) X.A (callWith pos fx.1 fx.2 (backTo pos (starEach (e :: es) X.env)) (backToKw pos (keywordEach [] X.env))) (EP X pins σ Q) X.xe s2) X.xe s1 := by
 refine eM I1 ea c hm l ?_
 refine BO (first := [.ref a]) (h₀ := X.base) I1.ok.mod.kin hm.kp (bv (ha pos pins s1 σ H1 _ I1 q) fun us s2 ⟨vs,H2,I2,r,q2⟩ => ⟨I2.kIn,?_⟩) hst hpl
 exact ly (us := .ref a :: us) (vs := .ref a :: vs) F hr hb hd kh I2 (.cons rfl r) q2
theorem dR {pl : Sem Bool} (he : PE X o ta) (D : dw X.prog X.w X.K X.mg X.base aZ k f ps dvs sp) (hr : bH j X.A) (hk : k <= j) (ha : PA X (e :: es) t)
  (hst : starEach (e :: es) X.env = (false,eval e X.env) :: starEach es X.env := by rfl) (hpl : (backTo pos (starEach es X.env)).any (·.1) = false := by rfl)
  (ht : eval (.Call (.Attribute o m apos) (e :: es) [] pos) X.env = (do
   let ov <- eval o X.env
   standAt apos.atName
   let (f,first) <- holding [ov] (getMethod ov m pl)
   callWith pos f first (backTo pos (starEach (e :: es) X.env)) (backToKw pos (keywordEach [] X.env))) := by rfl) :
  PE X (.Call (.Attribute o m apos) (e :: es) [] pos) (pL X.K m f sp [] ta t) := by
 intro pins s σ H Q I h
 refine PySem.W.methodCall_KW (pl := pl) (bv (he pins s σ H _ I h) fun u s1 ⟨x,H1,I1,rx,a,C,dx,fs,ex,ea,c,hm,l,q⟩ => ?_) ht
 subst ex
 obtain rfl : u = Value.ref a := rx
 exact pN D.ok (hr.mono hk) D.b .nil ha hst hpl I1 ea c hm l q
theorem ue {pl : Sem Bool} (he : PE X o ta) (D : dw X.prog X.w X.K X.mg X.base aZ k f ps dvs sp) (hr : bH j X.A) (hk : k <= j)
  (ht : eval (.Call (.Attribute o m apos) [] [] pos) X.env = (do
   let ov <- eval o X.env
   standAt apos.atName
   let (f,first) <- holding [ov] (getMethod ov m pl)
   callWith pos f first (backTo pos (starEach [] X.env)) (backToKw pos (keywordEach [] X.env))) := by rfl) :
  PE X (.Call (.Attribute o m apos) [] [] pos) (pL X.K m f sp [] ta qG) := by
 intro pins s σ H Q I h
 refine PySem.W.methodCall_KW (pl := pl) (bv (he pins s σ H _ I h) fun u s1 ⟨x,H1,I1,rx,a,C,dx,fs,ex,ea,c,hm,l,q⟩ => ?_) ht
 subst ex
 obtain rfl : u = Value.ref a := rx
 refine eM I1 ea c hm l ?_
 exact PySem.W.callWith_K0 (first := [.ref a]) I1.kIn hm.kp (ly (us := [.ref a]) (vs := [.ref a]) D.ok (hr.mono hk) D.b .nil kh I1 (.cons rfl .nil) q)
end
def jy (K : A0) (m : Str) (f : Addr) (sp : Sp) (dvs : List V) (E : L2.St -> XK) (ta : TE) (t : TA) : TE := fun σ H Q => ta σ H fun x H1 => ∃ a C dx fs,x = .ref a /\ H1 a = some (.ins C dx fs) /\ mE K C /\ cV K C m f /\ fs.lookup m = none /\
 t σ H1 fun vs H2 => sp (x :: (vs ++ dvs)) H2 Q (E σ)
section
variable {X : Cx} {k j : Nat} {f C : Addr} {ps : List Str} {sp : Sp} {dvs : List V} {x m : Str} {p pos apos : Pos} {e o : Expr} {es : List Expr} {ta tb : TE} {t : TA} {E : L2.St -> XK}
theorem iU {pins : List (Addr × Obj)} {σ : L2.St} {H1 : Hp} {s1 : Shared} {Q : VK} {a dx : Addr} {fs : List (Str × V)} {pl : Sem Bool} {ds : List Value} {fd : FuncData} (F : a7 X.prog X.w X.K X.mg X.base (cB X.prog X.w) k f fd ps sp) (hr : bH k X.A) (hb : Binds X.K fd ps ds) (hd : aR dvs ds) (hx : ef X E) (ha : PA X (e :: es) t)
  (hst : starEach (e :: es) X.env = (false,eval e X.env) :: starEach es X.env) (hpl : (backTo pos (starEach es X.env)).any (·.1) = false)
  (I1 : au X pins σ H1 s1) (ea : H1 a = some (.ins C dx fs)) (c : mE X.K C) (hm : cV X.K C m f) (l : fs.lookup m = none) (q : t σ H1 fun vs H2 => sp (.ref a :: (vs ++ dvs)) H2 Q (E σ)) :
  wpAny (model X.prog X.w) X.A (getMethod (.ref a) m pl) (fun fx s2 => wpAny (model X.prog X.w) X.A (callWith pos fx.1 fx.2 (backTo pos (starEach (e :: es) X.env)) (backToKw pos (keywordEach [] X.env))) (EP X pins σ Q) X.xe s2) X.xe s1 := by
 refine eM I1 ea c hm l ?_
 refine BO (first := [.ref a]) (h₀ := X.base) I1.ok.mod.kin hm.kp (bv (ha pos pins s1 σ H1 _ I1 q) fun us s2 ⟨vs,H2,I2,r,q2⟩ => ⟨I2.kIn,?_⟩) hst hpl
 exact mP (us := .ref a :: us) (vs := .ref a :: vs) F hr hb hd hx I2 (.cons rfl r) q2
theorem pO {pl : Sem Bool} (D : dw X.prog X.w X.K X.mg X.base (cB X.prog X.w) k f ps dvs sp) (hr : bH j X.A) (hk : k <= j) (hx : ef X E) (he : PE X o ta) (ha : PA X (e :: es) t)
  (hst : starEach (e :: es) X.env = (false,eval e X.env) :: starEach es X.env := by rfl) (hpl : (backTo pos (starEach es X.env)).any (·.1) = false := by rfl)
  (ht : eval (.Call (.Attribute o m apos) (e :: es) [] pos) X.env = (do
   let ov <- eval o X.env
   standAt apos.atName
   let (f,first) <- holding [ov] (getMethod ov m pl)
   callWith pos f first (backTo pos (starEach (e :: es) X.env)) (backToKw pos (keywordEach [] X.env))) := by rfl) :
  PE X (.Call (.Attribute o m apos) (e :: es) [] pos) (jy X.K m f sp [] E ta t) := by
 intro pins s σ H Q I h
 refine PySem.W.methodCall_KW (pl := pl) (bv (he pins s σ H _ I h) fun u s1 ⟨x,H1,I1,rx,a,C,dx,fs,ex,ea,c,hm,l,q⟩ => ?_) ht
 subst ex
 obtain rfl : u = Value.ref a := rx
 exact iU D.ok (hr.mono hk) D.b .nil hx ha hst hpl I1 ea c hm l q
theorem ro {pl : Sem Bool} (D : dw X.prog X.w X.K X.mg X.base (cB X.prog X.w) k f ps dvs sp) (hr : bH j X.A) (hk : k <= j) (hx : ef X E) (he : PE X o ta) (ha : PA X (e :: es) t)
  (hst : starEach (e :: es) X.env = (false,eval e X.env) :: starEach es X.env := by rfl) (hpl : (backTo pos (starEach es X.env)).any (·.1) = false := by rfl)
  (ht : eval (.Call (.Attribute o m apos) (e :: es) [] pos) X.env = (do
   let ov <- eval o X.env
   standAt apos.atName
   let (f,first) <- holding [ov] (getMethod ov m pl)
   callWith pos f first (backTo pos (starEach (e :: es) X.env)) (backToKw pos (keywordEach [] X.env))) := by rfl) :
  PE X (.Call (.Attribute o m apos) (e :: es) [] pos) (jy X.K m f sp dvs E ta t) := by
 intro pins s σ H Q I h
 obtain ⟨ds,hb,hv⟩ := D.bd
 refine PySem.W.methodCall_KW (pl := pl) (bv (he pins s σ H _ I h) fun u s1 ⟨x,H1,I1,rx,a,C,dx,fs,ex,ea,c,hm,l,q⟩ => ?_) ht
 subst ex
 obtain rfl : u = Value.ref a := rx
 exact iU D.ok (hr.mono hk) hb hv hx ha hst hpl I1 ea c hm l q
end
end Sw
namespace L2
open PySem PySem.Spec PyProof.Rows XH
def u9 (x : Str) : It := ⟨fun i _ => i < x.cps.size,fun i H v H' => H' = H /\ ∃ c,x.cps[i]? = some c /\ v = .str ⟨#[c]⟩,fun i _ => i = x.cps.size⟩
theorem pP {P : Program} {w : World} {K : A0} {tg : Expr} {ty : String} (hty : ty = "str_ascii_iterator" ∨ ty = "str_iterator") (it : Addr) (x : Str) (t : Tok) : Turn P w K tg (u9 x) [it] it (fun i h => h.IsStrIter it ty x t i) where
 mem := by simp
 obj := fun i h st b hb => by
  have e : b = it := by simpa using hb
  subst e
  obtain ⟨o,e,c,d⟩ := st
  exact ⟨o,e,fun v z => by rw [d] at z; cases z⟩
 keep := fun i h h' st k => by
  obtain ⟨o,e,c,d⟩ := st
  exact ⟨o,k it (by simp) o e,c,d⟩
 item := by
  intro X hP hw hK hc i pins s σ H E I hf st hg
  subst hP hw hK
  obtain ⟨f0,f1,f2,f3,f4,f5⟩ := hf it (by simp)
  have W : Walks X.prog X.w X.A it [it] [it] x.cps.size (SignAt x) (fun i h => h.IsStrIter it ty x t i) := by
   rcases hty with rfl | rfl
   ·exact Walks.strAscii (I.ok.hd hc) it x t
   ·exact Walks.strWide (I.ok.hd hc) it x t
  refine W.item i s _ _ hg st fun v h' tk hv st' kk => ?_
  obtain ⟨c,u,hc',rfl⟩ := hv
  have I1 : au X pins σ H { s with heap := h',toks := tk } := I.turned (fun b o hb e => kk b o (by simpa using hb) e) f0 f1 f3 f4 f5
  obtain ⟨o,e,c1,d1⟩ := id st'
  refine ⟨_,rfl,j4 (s := { s with heap := h',toks := tk }) (n := ty) e c1 d1 (by rcases hty with rfl | rfl <;> decide) ⟨.str ⟨#[c]⟩,H,I1,⟨u,rfl⟩,⟨rfl,c,hc',rfl⟩,st',fun b hb => (hf b hb).1⟩⟩
 done := by
  intro X hP hw hK hc i pins s σ H E I hf st hg
  subst hP hw hK
  obtain ⟨f0,f1,f2,f3,f4,f5⟩ := hf it (by simp)
  have W : Walks X.prog X.w X.A it [it] [it] x.cps.size (SignAt x) (fun i h => h.IsStrIter it ty x t i) := by
   rcases hty with rfl | rfl
   ·exact Walks.strAscii (I.ok.hd hc) it x t
   ·exact Walks.strWide (I.ok.hd hc) it x t
  have hg' : i = x.cps.size := hg
  subst hg'
  exact W.done s _ _ st fun h' tk kk => ⟨rfl,I.turned (fun b o hb e => kk b o (by simpa using hb) e) f0 f1 f3 f4 f5⟩
 self := fun _ _ _ _ _ st h => by
  rcases hty with rfl | rfl
  ·exact wpAny_pyIter_striter_ascii st h
  ·exact wpAny_pyIter_striter_wide st h
def xH (tl : TE) : TI := fun σ H R => tl σ H fun x H1 => ∃ z,x = .str z /\ R (u9 z) H1
section
variable {X : Cx} {tg : Expr}
theorem uf {l : Expr} {tl : TE} (hl : PE X l tl) : PI X tg l (xH tl) := by
 intro pins s σ H R I h
 refine bv (hl pins s σ H _ I h) fun v s1 ⟨x,H1,I1,r1,q1⟩ => ?_
 obtain ⟨z,rfl,q⟩ := q1
 obtain ⟨t,rfl⟩ := r1
 have fin : ∀ {ty : String} {o : Obj},(ty = "str_ascii_iterator" ∨ ty = "str_iterator") -> (s1.heap.push o).IsStrIter s1.heap.objs.size ty z t 0 -> wY X pins σ tg R (.ref s1.heap.objs.size) { s1 with heap := s1.heap.push o } := fun {ty o} hty st => by
  refine ⟨s1.heap.objs.size,[s1.heap.objs.size],_,_,H1,rfl,I1.kept (t' := s1.toks) fun b o e => Heap.get?_push_of_some _ e,pP hty _ z t,st,fun b hb => ?_,q⟩
  have e : b = s1.heap.objs.size := by simpa using hb
  subst e
  exact I1.fpOk (A4 _) (I1.hok.fresh (A4 _))
 cases ha : z.cps.all (· < 128)
 ·exact wpAny_pyIter_wide ha (fin (.inr rfl) ⟨_,Heap.get?_push_size _ rfl,rfl,rfl⟩)
 ·exact wpAny_pyIter_ascii ha (fin (.inl rfl) ⟨_,Heap.get?_push_size _ rfl,rfl,rfl⟩)
end
theorem rp {z : Str} {g : TG} {tb : TS} {D : Ends} {σ : St} {H : Hp} (Pv : Nat -> St -> Hp -> Prop) (h0 : Pv 0 σ H)
  (hs : ∀ i c σ H,z.cps[i]? = some c -> Pv i σ H -> g (.str ⟨#[c]⟩) σ H fun σ2 H2 => tb { D with nx := Pv (i + 1),ct := Pv (i + 1),bk := D.nx } σ2 H2) (hd : ∀ σ H,Pv z.cps.size σ H -> D.nx σ H) :
  ∃ W : Nat -> Nat -> St -> Hp -> Prop,(∃ m,W 0 m σ H) /\ ∀ i m σ H,W i m σ H ->
   ((u9 z).stop i H /\ D.nx σ H) ∨ ((u9 z).go i H /\ ∃ N : St -> Hp -> Prop,(∀ σ' H',N σ' H' -> ∃ m',m' < m /\ W (i + 1) m' σ' H') /\ ∀ x H',(u9 z).yld i H x H' -> g x σ H' fun σ2 H2 => tb { D with nx := N,ct := N,bk := D.nx } σ2 H2) := by
 refine ⟨fun i m σ H => m = z.cps.size - i /\ i <= z.cps.size /\ Pv i σ H,⟨z.cps.size,by simp,Af _,h0⟩,?_⟩
 rintro i m σ H ⟨rfl,hi,p⟩
 by_cases hlt : i < z.cps.size
 ·refine .inr ⟨hlt,Pv (i + 1),fun σ' H' p' => ⟨z.cps.size - (i + 1),by omega,rfl,hlt,p'⟩,fun x H' y => ?_⟩
  obtain ⟨e,c,hc,rfl⟩ := y
  subst e
  exact hs i c σ _ hc p
 ·have e : i = z.cps.size := by omega
  subst e
  exact .inl ⟨rfl,hd σ H p⟩
def cO (x : Str) (lo hi : Option Int) : Str := ⟨((x.cps.toList.drop (HT.c6 x.length 0 lo)).take (HT.c6 x.length x.length hi - HT.c6 x.length 0 lo)).toArray⟩
theorem va (lo hi : Option Int) (n : Nat) : Builtin.Str.strSliceIndices lo hi 1 n = (List.range (HT.c6 n n hi - HT.c6 n 0 lo)).map (HT.c6 n 0 lo + ·) := by
 have h1 : (match lo with | none => (0 : Int) | some i => max 0 (min (if i < 0 then i + (n : Int) else i) n)) = ((HT.c6 n 0 lo : Nat) : Int) := by
  cases lo with
  | none => simp [HT.c6]
  | some i =>
   simp only [HT.c6]
   by_cases h : i < 0
   ·simp only [h,if_true] <;> omega
   ·simp only [h,if_false] <;> omega
 have h2 : (match hi with | none => (n : Int) | some i => max 0 (min (if i < 0 then i + (n : Int) else i) n)) = ((HT.c6 n n hi : Nat) : Int) := by
  cases hi with
  | none => simp [HT.c6]
  | some i =>
   simp only [HT.c6]
   by_cases h : i < 0
   ·simp only [h,if_true] <;> omega
   ·simp only [h,if_false] <;> omega
 rw [<- sliceRange_one,<- h1,<- h2]
 cases lo <;> cases hi <;> rfl
theorem kB (x : Str) (l u : Option (Int × Tok)) : (⟨((slicePicked x l u none).filterMap (x.cps[·]?)).toArray⟩ : Str) = cO x (l.map (·.1)) (u.map (·.1)) := by
 show (⟨((Builtin.Str.strSliceIndices (l.map (·.1)) (u.map (·.1)) 1 x.length).filterMap (x.cps[·]?)).toArray⟩ : Str) = _
 rw [va,pick_run]
 rfl
theorem dh (x : Str) (lo hi : Option Int) : (cO x lo hi).length <= x.length := by
 show ((x.cps.toList.drop _).take _).toArray.size <= x.cps.size
 rw [AK,Av,List.length_drop]
 simp only [Ar]
 omega
theorem lR (x : Str) (l u : Option (Int × Tok)) (h : (slicePicked x l u none).length = x.length) : cO x (l.map (·.1)) (u.map (·.1)) = x := by
 have h' : (Builtin.Str.strSliceIndices (l.map (·.1)) (u.map (·.1)) 1 x.length).length = x.length := h
 rw [va,A2,List.length_range] at h'
 have hs : HT.c6 x.length x.length (u.map (·.1)) <= x.length ∨ x.length < HT.c6 x.length x.length (u.map (·.1)) := by omega
 have hu : HT.c6 x.length x.length (u.map (·.1)) <= x.length := by
  cases u with
  | none => exact A4 _
  | some p =>
   show (if p.1 < 0 then (p.1 + (x.length : Int)).toNat else min p.1.toNat x.length) <= x.length
   by_cases hp : p.1 < 0
   ·rw [if_pos hp]; omega
   ·rw [if_neg hp]; omega
 unfold cO
 by_cases hx : x.length = 0
 ·have e : x.cps.toList = [] := by
   have : x.cps.toList.length = 0 := by rw [Ar]; exact hx
   exact List.eq_nil_of_length_eq_zero this
  rw [e,List.drop_nil,List.take_nil]
  obtain ⟨c⟩ := x
  have e' : c = #[] := Array.toList_inj.mp (by simpa using e)
  rw [e']
 ·have h0 : HT.c6 x.length 0 (l.map (·.1)) = 0 := by omega
  rw [h0,List.drop_zero,List.take_of_length_le (by rw [Ar]; show x.length <= _; omega)]
theorem part_of {v : Value} {o : Option Int} (p : IsPart v o) : ∃ l : Option (Int × Tok),partValue l = v /\ l.map (·.1) = o := by
 cases p with
 | none => exact ⟨none,rfl,rfl⟩
 | int i t => exact ⟨some (i,t),rfl,rfl⟩
theorem eU {X : Cx} : xg X (fun x lo hi H Q => ∃ z,x = .str z /\ z.length <= sizeLine /\ Q (.str (cO z lo hi)) H) := by
 intro pins s σ H x v vl vu lo hi sl Q I rx hs pl pu h
 obtain ⟨z,rfl,hz,q⟩ := h
 obtain ⟨t,rfl⟩ := rx
 obtain ⟨l,rfl,rfl⟩ := part_of pl
 obtain ⟨u,rfl,rfl⟩ := part_of pu
 refine ⟨"str",_,slot_str_getitem.lookup,typeIs_str s z t,?_⟩
 refine wpAny_getItem_str_slice (l := l) (u := u) (st := none) hs rfl ?_
 unfold sliceMade
 by_cases hw : (slicePicked z l u none).length = z.length
 ·rw [if_pos (by simp [hw])]
  refine ⟨.str (cO z (l.map (·.1)) (u.map (·.1))),H,I,⟨t,by rw [lR z l u hw]⟩,q⟩
 ·rw [if_neg (by simp [hw])]
  rw [kB]
  exact ⟨AT (dh _ _ _) hz,.str (cO z (l.map (·.1)) (u.map (·.1))),H,I.tok _,⟨_,rfl⟩,q⟩
end L2
namespace Sw
open PySem PySem.NumText
end Sw
namespace L2
open PySem PySem.Spec PyProof.Rows XH
section
variable {X : Cx} {a b e o : Expr} {es : List Expr} {t te to : TE} {ta : TA} {pos apos cpos : Pos} {x y : Str}
theorem pQ {z : Str} {p : Pos} (hg : Gl X x) (h : ∃ t,X.mg x = some (.str z t)) (hd : (x == ("__debug__" : Str)) = false := by decide) : PE X (.Name x p) (tC (.str z)) := by
 obtain ⟨t,h⟩ := h
 exact mt hg h ⟨t,rfl⟩ hd
theorem kC {i : Int} {p : Pos} (hg : Gl X x) (h : ∃ t,X.mg x = some (.int i t)) (hd : (x == ("__debug__" : Str)) = false := by decide) : PE X (.Name x p) (tC (.int i)) := by
 obtain ⟨t,h⟩ := h
 exact mt hg h ⟨t,rfl⟩ hd
end
end L2
namespace Sw
open PySem L2 XH PySem.NumText
def sL (z : Str) : List Nat := z.cps.toList
def yd (l : List Nat) : Str := ⟨l.toArray⟩
theorem jz (z : Str) : (sL z).length = z.length := by simp [sL,Str.length]
theorem ug (x y : Str) : sL (x ++ y) = sL x ++ sL y := by
 show (x.cps ++ y.cps).toList = _
 rw [Array.toList_append]
 rfl
theorem uh (z : Str) (c : Nat) : (!(Builtin.Str.occurrences z (yd [c]) 0 z.length 1).isEmpty) = decide (c ∈ sL z) := StrLaws.found_one z c
theorem ye {b : Bool} {A B : Prop} (h1 : b = false -> A) (h2 : b = true -> B) : if (!b) = true then A else B := by
 cases b with
 | false => exact cW (h1 rfl)
 | true => exact bM (h2 rfl)
theorem ui {xs : List V} {i : Int} (h0 : 0 <= i) (h : i < (xs.length : Int)) : ∃ v ∈ xs,eO xs i = some v := by
 have hk : i.toNat < xs.length := by omega
 have ek : i = ((i.toNat : Nat) : Int) := by omega
 refine ⟨xs[i.toNat],List.getElem_mem hk,?_⟩
 have q : eO xs ((i.toNat : Nat) : Int) = some xs[i.toNat] := bY (AD hk)
 rw [<- ek] at q
 exact q
theorem rq {xs : List Nat} {i : Int} (h0 : 0 <= i) (h : i < (xs.length : Int)) : ∃ v,eO xs i = some v := by
 have hk : i.toNat < xs.length := by omega
 have ek : i = ((i.toNat : Nat) : Int) := by omega
 refine ⟨xs[i.toNat],?_⟩
 have q : eO xs ((i.toNat : Nat) : Int) = some xs[i.toNat] := bY (AD hk)
 rw [<- ek] at q
 exact q
end Sw
namespace L2
open PySem PySem.Spec PyProof.Rows XH
section
variable {X : Cx}
end
end L2
namespace Sw
open PySem L2 XH PySem.NumText
def uj : Str := "abcdefghijklmnopqrstuvwxyz"
def Nm (z : Str) : Prop := 1 <= (sL z).length /\ (sL z).length <= 12 /\ ∀ c ∈ sL z,97 <= c /\ c <= 122
theorem mW (c : Nat) : (!(Builtin.Str.occurrences uj (yd [c]) 0 uj.length 1).isEmpty) = decide (97 <= c /\ c <= 122) := by
 rw [uh]
 have e : sL uj = (List.range 26).map (97 + ·) := by decide
 rw [e]
 apply decide_eq_decide.mpr
 constructor
 ·intro h
  obtain ⟨i,hi,rfl⟩ := AF.mp h
  have := List.mem_range.mp hi
  omega
 ·intro h
  exact AF.mpr ⟨c - 97,List.mem_range.mpr (by omega),by omega⟩
def gZ (K : A0) : Sp := fun vs H Q _ => ∃ x : V,vs = [x] /\ ((∃ z : Str,x = .str z /\ z.length <= 1000000 /\ (Nm z -> Q (.bl true) H) /\ (¬ Nm z -> Q (.bl false) H)) ∨ ∃ ty,dP K H x ty /\ Ap K ty (.type "str") = some false /\ Q (.bl false) H)
def gk (x : V) : Prop := ∃ z,x = .str z /\ Nm z
def c7 (K : A0) (H : Hp) (x : V) : Prop := (∃ z,x = .str z /\ z.length <= 1000000 /\ ¬ Nm z) ∨ ∃ ty,dP K H x ty /\ Ap K ty (.type "str") = some false
theorem c7.same {K : A0} {H H' : Hp} {x : V} (g : ay H H') (h : c7 K H x) : c7 K H' x := by
 rcases h with h | ⟨ty,a,b⟩
 ·exact .inl h
 ·exact .inr ⟨ty,jw g a,b⟩
theorem nW {xs : List V} (h : 1 <= xs.length) : iw xs none (some (-1)) = xs.dropLast := by
 unfold iw
 have e1 : HT.c6 xs.length 0 none = 0 := rfl
 have e2 : HT.c6 xs.length xs.length (some (-1)) = xs.length - 1 := by
  unfold HT.c6
  simp
  omega
 rw [e1,e2,List.drop_zero,Nat.sub_zero,List.dropLast_eq_take]
def vc : Sp := fun _ _ _ _ => False
theorem uk {z : Str} (h : Nm z) : z.length <= 1000000 := by
 have := h.2.1
 have e := jz z
 omega
def tj : Sp := fun vs H Q _ => ∃ (l : Addr) (xs : List V),vs = [.ref l] /\ H l = some (.lst xs) /\ (∀ x ∈ xs,gk x) /\ Q .non H
def dv (K : A0) (c : Addr) : Sp := fun vs H Q E => ∃ (l : Addr) (xs : List V),vs = [.ref l] /\ H l = some (.lst xs) /\ (∀ x ∈ xs,gk x ∨ c7 K H x) /\ ((∀ x ∈ xs,gk x) -> Q .non H) /\ ((¬ ∀ x ∈ xs,gk x) -> ∀ H',ay H H' -> E (.ref c) none H')
theorem ul {K : A0} {c : Addr} {vs : List V} {H : Hp} {Q : VK} {E : XK} (h : tj vs H Q E) : dv K c vs H Q E0 := by
 obtain ⟨l,xs,e,h1,h2,h3⟩ := h
 exact ⟨l,xs,e,h1,fun x hx => .inl (h2 x hx),fun _ => h3,fun z => absurd h2 z⟩
end Sw
namespace So
open PySem PyProof.Rows
section
variable {prog : Program} {w : World} {A : Around} {E : Value -> Shared -> Prop} {s : Shared} {κ : KeyKind} {kd : SortKind}
end
section
variable {κ : KeyKind} {kd : SortKind} {a b out : Array Keyed} {ia ib : Nat}
end
section
variable {prog : Program} {w : World} {A : Around} {E : Value -> Shared -> Prop} {s : Shared} {κ : KeyKind} {kd : SortKind}
end
section
variable {κ : KeyKind} {kd : SortKind} {a b out : Array Keyed} {na nb : Nat}
end
section
variable {prog : Program} {w : World} {A : Around} {E : Value -> Shared -> Prop} {s : Shared} {κ : KeyKind} {kd : SortKind}
end
section
variable {prog : Program} {w : World} {A : Around} {E : Value -> Shared -> Prop} {s : Shared} {κ : KeyKind} {kd : SortKind}
end
section
variable {prog : Program} {w : World} {A : Around} {E : Value -> Shared -> Prop} {s : Shared} {κ : KeyKind} {kd : SortKind}
end
section
variable {prog : Program} {w : World} {A : Around} {E : Value -> Shared -> Prop} {s : Shared} {κ : KeyKind} {kd : SortKind}
end
section
variable {prog : Program} {w : World} {A : Around} {E : Value -> Shared -> Prop} {s : Shared} {κ : KeyKind} {kd : SortKind}
end
section
variable {κ : KeyKind} {kd : SortKind}
end
section
variable {prog : Program} {w : World} {A : Around} {E : Value -> Shared -> Prop} {s : Shared} {κ : KeyKind} {kd : SortKind}
end
section
variable {prog : Program} {w : World} {A : Around} {E : Value -> Shared -> Prop} {s : Shared} {κ : KeyKind} {kd : SortKind}
end
section
variable {prog : Program} {w : World} {A : Around} {E : Value -> Shared -> Prop} {s : Shared} {κ : KeyKind}
end
end So
namespace L2
open PySem PySem.Spec PyProof.Rows XH
def uA (a : Addr) (o : Obj) (kvs : List (Key × V)) : It :=
 ⟨fun i H => H a = some (.frz o (.dK kvs)) /\ i < kvs.length,fun i H v H' => H' = H /\ ∃ k x,kvs[i]? = some (k,x) /\ v = kV k,fun i H => H a = some (.frz o (.dK kvs)) /\ i = kvs.length⟩
theorem pR {P : Program} {w : World} {k : Key} {u : Value} (h : (aX P w).is k u = true) : RelV (kV k) u := by
 rcases bC h with ⟨i,t,rfl,rfl⟩ | ⟨x,t,rfl,rfl⟩
 ·exact ⟨t,rfl⟩
 ·exact ⟨t,rfl⟩
theorem pS {κ : Type} : ∀ {kvs : List (κ × V)} {vs : List (κ × Value)} (r : KV kvs vs) (i : Nat) {k : κ} {x : V},kvs[i]? = some (k,x) -> ∃ u,vs[i]? = some (k,u) /\ RelV x u
 | _,_,.nil,i,k,x,h => by simp at h
 | _,_,.cons (b := q) r t,0,k,x,h => by
  simp at h
  subst h
  obtain ⟨q1,q2⟩ := q
  have e : k = q1 := r.1
  subst e
  exact ⟨q2,by simp,r.2⟩
 | _,_,.cons r t,i + 1,k,x,h => by
  obtain ⟨u,e,rx⟩ := pS t i (by simpa using h)
  exact ⟨u,by simpa using e,rx⟩
theorem kD {X : Cx} {pins : List (Addr × Obj)} {σ : St} {H : Hp} {s : Shared} {a : Addr} {o : Obj} {kvs : List (Key × V)} {es0 : Array DictEntry} {ep : Nat} (I : au X pins σ H s) (h : H a = some (.frz o (.dK kvs))) (hd : o.data = .dict es0 ep) :
  ∃ vs,KV kvs vs /\ s.heap.DictAt (aX X.prog X.w) a vs ep := by
 obtain ⟨ho,z,y,vs,rel,ob,es,ep',e,c,d,rest⟩ := (show a8 X.prog X.w H s.heap a (.frz o (.dK kvs)) from I.hok a _ h)
 rw [ho] at e
 cases e
 have e2 : ep' = ep := by rw [hd] at d; cases d; rfl
 subst e2
 exact ⟨vs,rel,o,es,ho,c,d,rest⟩
theorem nX {P : Program} {w : World} {K : A0} {tg : Expr} (it a : Addr) (o : Obj) (kvs : List (Key × V)) {es0 : Array DictEntry} {ep : Nat} (hd : o.data = .dict es0 ep) : Turn P w K tg (uA a o kvs) [it] it (fun i h => h.IsKeyIter it a i kvs.length ep) where
 mem := by simp
 obj := fun i h st b hb => by
  have e : b = it := by simpa using hb
  subst e
  obtain ⟨o,e,c,d⟩ := st
  exact ⟨o,e,fun v z => by rw [d] at z; cases z⟩
 keep := fun i h h' st k => by
  obtain ⟨o,e,c,d⟩ := st
  exact ⟨o,k it (by simp) o e,c,d⟩
 item := by
  intro X hP hw hK hc i pins s σ H E I hf st hg
  subst hP hw hK
  obtain ⟨f0,f1,f2,f3,f4,f5⟩ := hf it (by simp)
  obtain ⟨hz,hlt⟩ := hg
  obtain ⟨vs,rel,D⟩ := kD I hz hd
  obtain ⟨⟨k,x⟩,hx⟩ : ∃ p,kvs[i]? = some p := ⟨kvs[i],AD hlt⟩
  obtain ⟨u,hu,_⟩ := pS rel i hx
  have st' := st
  rw [rel.length] at st'
  refine wpAny_pyNext_dict_item st' D hu fun key h' hkey hit' hs' => ?_
  rw [<- rel.length] at hit'
  have I1 : au X pins σ H { s with heap := h',toks := s.toks } := I.turned (fun b ob hb e => hs'.extBut b ob hb e) f0 f1 f3 f4 f5
  obtain ⟨oi,ei,ci,di⟩ := id hit'
  exact ⟨_,rfl,j4 (s := { s with heap := h' }) (n := "dict_keyiterator") ei ci di (by decide) ⟨kV k,H,I1,pR hkey,⟨rfl,k,x,hx,rfl⟩,hit',fun b hb => (hf b hb).1⟩⟩
 done := by
  intro X hP hw hK hc i pins s σ H E I hf st hg
  subst hP hw hK
  obtain ⟨f0,f1,f2,f3,f4,f5⟩ := hf it (by simp)
  obtain ⟨hz,rfl⟩ := hg
  obtain ⟨vs,rel,D⟩ := kD I hz hd
  rw [rel.length] at st
  refine wpAny_pyNext_dict_end (I.ok.hd hc) st D (by simp) fun h' he' => ⟨rfl,I.turned (t' := s.toks) (fun b ob hb e => he' b ob hb e) f0 f1 f3 f4 f5⟩
 self := fun _ _ _ _ _ st h => wpAny_pyIter_keyiter st h
def NF (X : Cx) (a : Addr) : Prop := ∀ o u,X.H₀ a ≠ some (.frz o u)
theorem au.nf {X : Cx} {pins : List (Addr × Obj)} {σ : St} {H : Hp} {s : Shared} {a : Addr} {kvs : List (Key × V)} (I : au X pins σ H s) (h : H a = some (.dK kvs)) : NF X a := fun o u e => by
 have := I.base.frzs a o u e
 rw [h] at this
 cases this
theorem au.freeze {X : Cx} {pins : List (Addr × Obj)} {σ : St} {H : Hp} {s : Shared} {a : Addr} {kvs : List (Key × V)} {o : Obj} (I : au X pins σ H s) (h : H a = some (.dK kvs)) (ho : s.heap.get? a = some o) : au X pins σ (aq H a (.frz o (.dK kvs))) s := by
 refine I.un (H' := aq H a (.frz o (.dK kvs))) (h' := s.heap) (t' := s.toks) ⟨fun b ob q n _ _ => q,fun b ob q n _ _ => ⟨ob.slots,q⟩,fun b ob q n _ => ?_,fun b ob q _ => ⟨ob,q⟩,fun b xs q => ?_,fun b ob u q => ?_,fun b ps q => ⟨#[],?_⟩⟩ ?_
 ·rw [af (fun z => by subst z; rw [h] at n; cases n)]; exact n
 ·rw [af (fun z => by subst z; rw [h] at q; cases q)]; exact q
 ·rw [af (fun z => by subst z; rw [h] at q; cases q)]; exact q
 ·rw [af (fun z => by subst z; rw [h] at q; cases q),q]; simp
 ·intro b u q
  by_cases hb : b = a
  ·subst hb
   rw [ac] at q
   cases q
   exact ⟨ho,(I.hok b _ h).stay (fun _ _ _ q => q) (fun c q => by rw [af (fun z => by subst z; rw [h] at q; cases q)]; exact q) fun c xs q => by rw [af (fun z => by subst z; rw [h] at q; cases q)]; exact q⟩
  ·rw [af hb] at q
   exact (I.hok b _ q).stay (fun _ _ _ q => q) (fun c q => by rw [af (fun z => by subst z; rw [h] at q; cases q)]; exact q) fun c xs q => by rw [af (fun z => by subst z; rw [h] at q; cases q)]; exact q
theorem au.thaw {X : Cx} {pins : List (Addr × Obj)} {σ : St} {H : Hp} {s : Shared} {a : Addr} {kvs : List (Key × V)} {o : Obj} (I : au X pins σ H s) (h : H a = some (.frz o (.dK kvs))) (nf : NF X a) : au X pins σ (aq H a (.dK kvs)) s := by
 have hn : ∀ {b : Addr} {u : HO},H b = some u -> (∀ o' v,u ≠ .frz o' v) -> aq H a (.dK kvs) b = some u := fun {b u} q n => by
  rw [af (fun z => by subst z; rw [h] at q; cases q; exact n _ _ rfl)]; exact q
 have hf : ∀ {b : Addr},H b = none -> aq H a (.dK kvs) b = none := fun {b} n => by
  rw [af (fun z => by subst z; rw [h] at n; cases n)]; exact n
 refine ⟨I.ok,I.os,I.bare,⟨I.base.keep,I.base.slot,fun b ob q n hx => hf (I.base.free b ob q n hx),I.base.there,fun b xs q => hn (I.base.tups b xs q) (fun _ _ z => nomatch z),fun b ob u q => ?_,fun b ps q => ?_⟩,I.loc,I.cell,hf I.free,fun y c e => hf (I.freeC y c e),fun p hp => ?_,?_,I.len⟩
 ·have q' := I.base.frzs b ob u q
  rw [af (fun z => by subst z; exact nf _ _ q)]
  exact q'
 ·obtain ⟨more,q'⟩ := I.base.tbls b ps q
  exact ⟨more,hn q' (fun _ _ z => nomatch z)⟩
 ·obtain ⟨p1,p2,p3⟩ := I.pin p hp
  exact ⟨p1,hf p2,p3⟩
 ·intro b u q
  by_cases hb : b = a
  ·subst hb
   rw [ac] at q
   cases q
   obtain ⟨_,q2⟩ := (show a8 X.prog X.w H s.heap b (.frz o (.dK kvs)) from I.hok b _ h)
   exact a8.stay (o := .dK kvs) q2 (fun _ _ _ q => q) (fun c q => hn q (fun _ _ z => nomatch z)) fun c xs q => hn q (fun _ _ z => nomatch z)
  ·rw [af hb] at q
   exact (I.hok b _ q).stay (fun _ _ _ q => q) (fun c q => hn q (fun _ _ z => nomatch z)) fun c xs q => hn q (fun _ _ z => nomatch z)
def vd (X : Cx) (tl : TE) : TI := fun σ H R => tl σ H fun x H1 => ∃ a kvs,x = .ref a /\ H1 a = some (.dK kvs) /\ ∀ o,NF X a -> R (uA a o kvs) (aq H1 a (.frz o (.dK kvs)))
section
variable {X : Cx} {tg : Expr}
theorem jA {l : Expr} {tl : TE} (hl : PE X l tl) : PI X tg l (vd X tl) := by
 intro pins s σ H R I h
 refine bv (hl pins s σ H _ I h) fun v s1 ⟨x,H1,I1,r1,q1⟩ => ?_
 obtain ⟨a,kvs,rfl,hk,q⟩ := q1
 cases r1
 obtain ⟨z,y,vs,rel,ob,es,ep,e,c,d,rest⟩ := (show a8 X.prog X.w H1 s1.heap a (.dK kvs) from I1.hok a _ hk)
 have D : s1.heap.DictAt (aX X.prog X.w) a vs ep := ⟨ob,es,e,c,d,rest⟩
 have I2 := I1.freeze hk e
 refine wpAny_pyIter_dict y D ?_
 refine ⟨s1.heap.objs.size,[s1.heap.objs.size],_,_,_,rfl,I2.kept (t' := s1.toks) fun b o e => Heap.get?_push_of_some _ e,nX _ a ob kvs d,⟨_,Heap.get?_push_size _ rfl,rfl,by rw [rel.length]; rfl⟩,fun b hb => ?_,q ob (I1.nf hk)⟩
 have e : b = s1.heap.objs.size := by simpa using hb
 subst e
 exact I2.fpOk (A4 _) (I2.hok.fresh (A4 _))
end
def wD (X : Cx) (P : Hp -> Prop) (H : Hp) : Prop := ∃ a o kvs,H a = some (.frz o (.dK kvs)) /\ NF X a /\ P (aq H a (.dK kvs))
def xI (X : Cx) (D : Ends) : Ends := { nx := fun σ => wD X (D.nx σ),bk := fun σ => wD X (D.bk σ),ct := fun σ => wD X (D.ct σ),rt := fun v => wD X (D.rt v) }
theorem lS {X : Cx} {st : Stmt} {t : TS} (h : PS X st t) : PS X st (fun D σ H => t (xI X D) σ H) := by
 intro pins s σ H D I q
 refine bv (h pins s σ H _ I q) fun f s1 q1 => ?_
 cases f with
 | next =>
  obtain ⟨σ',H',I',a,o,kvs,e,nf,p⟩ := q1
  exact ⟨σ',_,I'.thaw e nf,p⟩
 | brk =>
  obtain ⟨σ',H',I',a,o,kvs,e,nf,p⟩ := q1
  exact ⟨σ',_,I'.thaw e nf,p⟩
 | cont =>
  obtain ⟨σ',H',I',a,o,kvs,e,nf,p⟩ := q1
  exact ⟨σ',_,I'.thaw e nf,p⟩
 | ret u =>
  obtain ⟨v,σ',H',I',r,a,o,kvs,e,nf,p⟩ := q1
  exact ⟨v,σ',_,I'.thaw e nf,r,p⟩
theorem kE {a : Addr} {o : Obj} {kvs : List (Key × V)} {g : TG} {tb : TS} {D : Ends} {σ : St} {H : Hp} (Pv : Nat -> St -> Hp -> Prop) (h0 : Pv 0 σ H) (hz : ∀ i σ H,i <= kvs.length -> Pv i σ H -> H a = some (.frz o (.dK kvs)))
  (hs : ∀ i k x σ H,kvs[i]? = some (k,x) -> Pv i σ H -> g (kV k) σ H fun σ2 H2 => tb { D with nx := Pv (i + 1),ct := Pv (i + 1),bk := D.nx } σ2 H2) (hd : ∀ σ H,Pv kvs.length σ H -> D.nx σ H) :
  ∃ W : Nat -> Nat -> St -> Hp -> Prop,(∃ m,W 0 m σ H) /\ ∀ i m σ H,W i m σ H ->
   ((uA a o kvs).stop i H /\ D.nx σ H) ∨ ((uA a o kvs).go i H /\ ∃ N : St -> Hp -> Prop,(∀ σ' H',N σ' H' -> ∃ m',m' < m /\ W (i + 1) m' σ' H') /\ ∀ x H',(uA a o kvs).yld i H x H' -> g x σ H' fun σ2 H2 => tb { D with nx := N,ct := N,bk := D.nx } σ2 H2) := by
 refine ⟨fun i m σ H => m = kvs.length - i /\ i <= kvs.length /\ Pv i σ H,⟨kvs.length,by simp,Af _,h0⟩,?_⟩
 rintro i m σ H ⟨rfl,hi,p⟩
 by_cases hlt : i < kvs.length
 ·refine .inr ⟨⟨hz i σ H hi p,hlt⟩,Pv (i + 1),fun σ' H' p' => ⟨kvs.length - (i + 1),by omega,rfl,hlt,p'⟩,fun x H' y => ?_⟩
  obtain ⟨e,k,v,hk,rfl⟩ := y
  subst e
  exact hs i k v σ _ hk p
 ·have e : i = kvs.length := by omega
  subst e
  exact .inl ⟨⟨hz _ σ H hi p,rfl⟩,hd σ H p⟩
def lT (js : List Nat) (tc : TT) (te : TE) (σ : St) (Q : VK) : It -> Hp -> Prop := fun J H1 => ∀ p,H1 p = none -> ∃ W : Nat -> Nat -> List V -> Hp -> Prop,(∃ m,W 0 m [] (aq H1 p (.lst []))) /\
 ∀ i m ys H2,W i m ys H2 -> H2 p = some (.lst ys) /\ ((J.stop i H2 /\ Q (.ref p) H2) ∨ (J.go i H2 /\ ys.length < sizeLine /\ ∀ x H3,J.yld i H2 x H3 -> tc (some x :: bP js σ) H3 fun b H4 =>
  if b = true then te (some x :: bP js σ) H4 fun y H5 => H5 p = some (.lst ys) /\ ∃ m',m' < m /\ W (i + 1) m' (ys ++ [y]) (aq H5 p (.lst (ys ++ [y]))) else ∃ m',m' < m /\ W (i + 1) m' ys H4))
def mX (wi : TI) (js : List Nat) (tc : TT) (te : TE) : TE := fun σ H Q => wi σ H (lT js tc te σ Q)
section
variable {prog : Program} {w : World} {A : Around} {R : Result -> Shared -> Prop} {s : Shared}
theorem f7 {elt target iter cond : Expr} {scope : Scope} {pos : Pos} {it acc : Value} {env : Env} (I : Nat -> Shared -> Prop)
  (turn : ∀ n s,I n s -> wpAny (model prog w) A (pyNext it) (fun r s1 => match r with
   | none => R (.ok .next) s1
   | some v => wpAny (model prog w) A (letOwnedTupleGo target it v) (fun _ s2 => wpAny (model prog w) A (assign target env v) (fun _ s3 => wpAny (model prog w) A (isTrue cond env (eval cond env)) (fun ok s4 =>
     if ok = true then wpAny (model prog w) A (eval elt env) (fun x s5 => wpAny (model prog w) A (call (.builtin "list.append") [acc,x]) (fun _ s6 => ∃ m,m < n /\ I m s6) (fun _ _ => False) s5) (fun _ _ => False) s4
     else ∃ m,m < n /\ I m s4) (fun _ _ => False) s3) (fun _ _ => False) s2) (fun _ _ => False) s1) (fun _ _ => False) s)
  (n : Nat) (h : I n s) : codeAny (model prog w) A (.compLoop (.ListComp elt [⟨target,iter,[cond],0⟩] scope pos) 0 it acc env) R s := by
 apply codeAny_loop rfl I ?_ n h
 intro n s hI
 show wpAny _ _ ((compTurn (.ListComp elt [⟨target,iter,[cond],0⟩] scope pos) 0 it acc env).onRaise _) _ _ s
 apply wpAny_noted
 rw [compTurn_list]
 apply wpAny_bind
 apply wpAny_standAt
 apply wpAny_bind
 refine wpAny_mono (turn n s hI) (fun r s1 h1 => ?_) fun _ _ z => z.elim
 cases r with
 | none => exact wpAny_pure h1
 | some v =>
  apply wpAny_bind
  refine wpAny_mono h1 (fun _ s2 h2 => ?_) fun _ _ z => z.elim
  apply wpAny_bind
  refine wpAny_mono h2 (fun _ s3 h3 => ?_) fun _ _ z => z.elim
  apply wpAny_bind
  refine wpAny_mono (wpAny_tests_one h3) (fun ok s4 h4 => ?_) fun _ _ z => z.elim
  cases ok with
  | true =>
   apply wpAny_bind
   apply wpAny_bind
   refine wpAny_mono h4 (fun x s5 h5 => ?_) fun _ _ z => z.elim
   apply wpAny_bind
   refine wpAny_mono h5 (fun _ s6 h6 => ?_) fun _ _ z => z.elim
   exact wpAny_pure (wpAny_pure ⟨rfl,h6⟩)
  | false =>
   have h4' : ∃ m,m < n /\ I m s4 := h4
   exact wpAny_pure ⟨rfl,h4'⟩
end
section
variable {X : Cx} {scope : Scope} {cl : List (Str × Addr)} {own : Str} {ys : List Str} {js : List Nat} {elt iter cond : Expr} {px pos : Pos} {wi : TI} {te : TE} {tc : TT}
theorem nY (hc : X.calm = true) (ok : jv X scope cl own ys js) (hi : PI X (.Name own px) iter wi)
  (hq : ∀ (C : Addr) (fp : List Addr) (s : Shared) (H : Hp),PT (X.block scope cl C (own :: ys) own fp s H) cond tc)
  (he : ∀ (C : Addr) (fp : List Addr) (s : Shared) (H : Hp),PE (X.block scope cl C (own :: ys) own fp s H) elt te)
  (hs : ∀ x,foldedSetIterable iter X.env x = pure x := by intro _; rfl) : PE X (.ListComp elt [⟨.Name own px,iter,[cond],0⟩] scope pos) (mX wi js tc te) := by
 intro pins s σ H Q I h
 rw [eval_ListComp]
 have ncell : ∀ y ∈ scope.names,y.2 ≠ .cell := fun y hy z => by
  have q := BJ.mp ok.nocell y hy
  rw [z] at q
  simp at q
 have nloc : ∀ y ∈ scope.names,y.2 = .local -> scope.names.lookup y.1 = some .local := fun y hy z => by
  have q := BJ.mp ok.loc y hy
  rw [z] at q
  simpa using q
 refine wpAny_comprehension_free (use := none) rfl hs ok.clos ok.kind nloc (bv (hi pins s σ H _ I h) fun v s1 h1 => bv h1 fun itv s2 h2 => ?_)
 obtain ⟨it,fp,tn,J,H2,rfl,I2,T,st2,f2,q2⟩ := h2
 obtain ⟨W,⟨m0,w0⟩,turn⟩ := q2 s2.heap.objs.size (I2.hok.fresh (A4 _))
 refine wpAny_newObj_type (wpAny_newFunctionEnv ncell (by intro y hy; simp at hy) (fun h1 hns hsb => ?_) ok.kind)
 have I3 := I2.laid (a := s2.heap.objs.size) (o := .lst []) (h' := s2.heap.push { cls := .type "list",dict := none,data := .seq ([] : List Value).toArray }) (t' := s2.toks) (fun b u q => Heap.get?_push_of_some _ q) (A4 _)
  ⟨Af _,[],0,.nil,Heap.get?_push_size _ rfl⟩
 have fpo : ∀ b ∈ fp,b < s2.heap.objs.size := fun b hb => by
  obtain ⟨o,e,_⟩ := T.obj 0 _ st2 b hb
  exact Heap.lt_size e
 have f3 : ∀ b ∈ fp,gh X pins (aq H2 s2.heap.objs.size (.lst [])) b := fun b hb => ⟨by rw [af (AH (fpo b hb))]; exact (f2 b hb).1,(f2 b hb).2⟩
 generalize hs3 : ({ s2 with heap := s2.heap.push { cls := .type "list",dict := none,data := .seq ([] : List Value).toArray },toks := s2.toks } : Shared) = s3 at I3
 have e3 : s3.heap = s2.heap.push { cls := .type "list",dict := none,data := .seq ([] : List Value).toArray } := by rw [<- hs3]
 have lt3 : ∀ b ∈ fp,b < s3.heap.objs.size := fun b hb => by rw [e3,Heap.size_push]; exact Nat.lt_succ_of_lt (fpo b hb)
 dsimp only at hns hsb ⊢
 rw [<- e3] at hns hsb
 have hk : ∀ b o,s3.heap.get? b = some o -> h1.get? b = some o := fun b o e => hsb.extBut b o (AH (Heap.lt_size e)) (Heap.get?_push_of_some _ e)
 have J0 := f6 (h1 := h1) ok I3 f3 lt3 hns hk (s2.toks + 0)
 have t0 : tn 0 h1 := T.keep 0 _ _ st2 fun b hb o e => hk b o (by rw [e3]; exact Heap.get?_push_of_some _ e)
 have fpB : ∀ {H' : Hp},(∀ b ∈ fp,H' b = none) -> ∀ b ∈ fp,gh (X.block scope cl s3.heap.objs.size (own :: ys) own fp s3 (aq H2 s2.heap.objs.size (.lst []))) [] H' b := fun {H'} hn b hb =>
  ⟨hn b hb,AH (lt3 b hb),fun z => (A8.mp (I3.stkSub b z)).elim (f3 b hb).2.1 (f3 b hb).2.2.1,.inl hb,fun x c e => (f3 b hb).2.2.2.2.1 x c (ok.sub (x,c) (Ai e)),fun p hp => absurd (show p ∈ ([] : List (Addr × Obj)) from hp) (by simp)⟩
 have loop : codeAny (model X.prog X.w) X.A (.compLoop (.ListComp elt [⟨.Name own px,iter,[cond],0⟩] scope pos) 0 (.ref it) (.ref s2.heap.objs.size) (compEnvC scope cl s3.heap.objs.size X.env))
   (compPost (model X.prog X.w) X.A X.xe none (EP X pins σ Q) (.ref s2.heap.objs.size) s3.heap.objs.size) { s3 with heap := h1,toks := s2.toks + 0 } := by
  refine f7 (fun n s' => ∃ i zs o0 H',au (X.block scope cl s3.heap.objs.size (own :: ys) own fp s3 (aq H2 s2.heap.objs.size (.lst []))) [] (o0 :: bP js σ) H' s' /\ tn i s'.heap /\ (∀ b ∈ fp,H' b = none) /\ W i n zs H') ?_ m0
   ⟨0,[],none,_,J0,t0,fun b hb => (f3 b hb).1,w0⟩
  rintro n s5 ⟨i,zs,o0,H5,I5,t5,n5,w5⟩
  obtain ⟨hD,hw⟩ := turn i n zs H5 w5
  rcases hw with ⟨stop,qn⟩ | ⟨go,hz,step⟩
  ·refine bv (T.done (X.block scope cl s3.heap.objs.size (own :: ys) own fp s3 (aq H2 s2.heap.objs.size (.lst []))) rfl rfl rfl hc i [] s5 _ H5 (fun _ _ => False) I5 (fpB n5) t5 stop) fun r s6 ⟨hr,I6⟩ => ?_
   subst hr
   obtain ⟨m,hn,_⟩ := id I6.loc
   exact ⟨m,hn,fun h' hs' => ⟨V.ref s2.heap.objs.size,H5,iT I3 f3 I6 hs',rfl,qn⟩⟩
  ·refine bv (T.item (X.block scope cl s3.heap.objs.size (own :: ys) own fp s3 (aq H2 s2.heap.objs.size (.lst []))) rfl rfl rfl hc i [] s5 _ H5 (fun _ _ => False) I5 (fpB n5) t5 go) fun r s6 ⟨u,hr,h6⟩ => ?_
   subst hr
   refine bv h6 fun _ s7 ⟨x,H7,I7,r7,y7,t7,n7⟩ => ?_
   have I7' := I7.pinned (fpB n7) (T.obj _ _ t7)
   have hst := step x H7 y7
   have own' : (relabel scope X.env).names.lookup own = some .local := lookup_relabel_local ok.ownL
   refine bv (bz (X := X.block scope cl s3.heap.objs.size (own :: ys) own fp s3 (aq H2 s2.heap.objs.size (.lst []))) (i := 0) (x := own) (pos := px) ok.nd rfl (.inl own') (.inr own') _ s7 _ H7 x u (fun σ' H' => σ' = some x :: bP js σ /\ H' = H7) I7' r7 ⟨rfl,rfl⟩) fun _ s8 ⟨σ8,H8,I8,e8,eH8⟩ => ?_
   subst e8 eH8
   refine bv (hq _ _ _ _ _ s8 _ H8 _ I8 hst) fun ok s9 ⟨H9,I9,h9⟩ => ?_
   have frame : ∀ {s' : Shared} {H' : Hp},au (X.block scope cl s3.heap.objs.size (own :: ys) own fp s3 (aq H2 s2.heap.objs.size (.lst []))) ([] ++ fM fp s7.heap) (some x :: bP js σ) H' s' -> tn (i + 1) s'.heap /\ ∀ b ∈ fp,H' b = none := fun {s' H'} I' =>
    ⟨T.keep _ _ _ t7 fun b hb o e => (I'.pin (b,o) (AJ _ (AJ _ (cq hb e)))).1,fun b hb => by
     obtain ⟨o,e,d⟩ := T.obj _ _ t7 b hb
     exact (I'.pin (b,o) (AJ _ (AJ _ (cq hb e)))).2.1⟩
   cases ok with
   | true =>
    refine bv (he _ _ _ _ _ s9 _ H9 _ I9 h9) fun yv s10 ⟨y,H10,I10,r10,hD10,m',hm,w10⟩ => ?_
    refine bv (bE _ s10 _ H10 (.ref s2.heap.objs.size) [y] (.ref s2.heap.objs.size) [yv] (fun _ H' => H' = aq H10 s2.heap.objs.size (.lst (zs ++ [y]))) I10 rfl (.cons r10 .nil) ⟨_,zs,y,rfl,rfl,hD10,hz,rfl⟩) fun _ s11 ⟨_,H11,I11,_,e11⟩ => ?_
    subst e11
    exact ⟨m',hm,i + 1,zs ++ [y],some x,_,I11.unpinned,(frame I11).1,(frame I11).2,w10⟩
   | false =>
    obtain ⟨m',hm,w10⟩ := h9
    exact ⟨m',hm,i + 1,zs,some x,_,I9.unpinned,(frame I9).1,(frame I9).2,w10⟩
 subst hs3
 exact codeAny_compStart_list loop (T.self _ 0 _ _ _ t0 loop)
end
section
variable {X : Cx}
theorem iV : xh X "dict.setdefault" (fun x vs H Q => ∃ a kvs k v,x = .ref a /\ vs = [kV k,v] /\ H a = some (.dK kvs) /\ kvs.length < sizeLine /\ (∀ w,aK kvs k = some w -> Q w H) /\ (aK kvs k = none -> Q v (aq H a (.dK (putK kvs k v))))) := by
 intro pins s σ H x vs v us Q I rx rv h
 obtain ⟨a,kvs,k,y,rfl,rfl,hk,hz,q1,q2⟩ := h
 cases rx
 obtain ⟨u,w',rfl,ru,rw'⟩ := vals2 rv
 obtain ⟨z,hS,ws,rel,D⟩ := gO I.hok hk
 refine call_meetsIn F.slot_dict_setdefault D.typeIs F.entry_dict_setdefault (F.args_dict_setdefault_3 _ _ _) (kt_meets_setdefault (aX X.prog X.w) a (eJ ru) hS w') ⟨ws,D,by rw [<- rel.length]; exact z,fun v' hv => ?_,fun hn h' D' hs' => ?_⟩
 ·have r := rel.val k
  rw [hv] at r
  cases e : aK kvs k with
  | none => rw [e] at r; exact r.elim
  | some y' =>
   rw [e] at r
   exact ⟨y',H,I.tok _,r,q1 y' e⟩
 ·have r := rel.val k
  rw [hn] at r
  have e : aK kvs k = none := by
   cases e : aK kvs k with
   | none => rfl
   | some y' => rw [e] at r; exact r.elim
  obtain ⟨od,_,_,ho,_⟩ := id D'
  refine ⟨y,_,fj I (by rw [hk]; trivial) hs' ⟨od,ho⟩ (jn (by have := cC kvs k y; omega) hS (rel.put k rw') D'),rw',q2 e⟩
end
section
variable {prog : Program} {w : World} {κ : Type} [DecidableEq κ] {knd : KeyKind prog w κ} {A : Around} {E : Value -> Shared -> Prop} {s : Shared}
end
theorem rA : typeLookup (.type "list_reverseiterator") "__len__" = pure none := by
 rw [typeLookup_type,builtinLookup_eq_fast]
 kernel_rfl
theorem pT : typeLookup (.type "list_reverseiterator") "__length_hint__" = pure (some (.builtin "list_reverseiterator.__length_hint__")) := by
 rw [typeLookup_type,builtinLookup_eq_fast]
 kernel_rfl
section
variable {prog : Program} {w : World} {A : Around} {R : Result -> Shared -> Prop} {s : Shared} {I l S : Addr} {items : Array Value}
abbrev um (items : Array Value) : Nat -> Value -> Prop := fun i v => items[items.size - 1 - i]? = some v
theorem lV (hh : A.in1.handled = none) (hlI : l ≠ I) (hSI : S ≠ I) (hSl : S ≠ l) (res : Value) (c : Nat) (hit : s.heap.IsRevIter I l ((items.size : Int) - 1)) (hl : s.heap.IsList l items)
  (hS : s.heap.get? S = some { cls := .type "list",data := .seq #[] c }) (hn : items.size <= sizeLine)
  (fin : ∀ s' acc c',Moved [S,I] (fun a b => b = a) s s' -> s'.heap.get? S = some { cls := .type "list",dict := none,data := .seq acc c',slots := #[] } -> ItemsOf (um items) acc items.size -> R (.ok (.ret res)) s') :
  wpAny (model prog w) A.in1 (Builtin.List.listExtendWith (.ref S) (.ref I) res)
   (fun fin s' => match fin with | .done f => R (.ok f) s' | .again c' => c'.quiet = true /\ codeAny (model prog w) A c' R s') (fun e s' => R (.error e) s') s := by
 have ty : s.TypeIs (.ref I) "list_reverseiterator" := hit.typeIs
 have ns : Builtin.List.listSameRef (.ref S) (.ref I) = false := by
  simp [Builtin.List.listSameRef,hSI]
 unfold Builtin.List.listExtendWith
 apply wpAny_bind
 apply wpAny_typeOf ty
 rw [if_neg (by rw [ns]; decide)]
 apply wpAny_bind
 apply wpAny_pyIter_revIter hit
 apply wpAny_bind
 apply wpAny_holding
 unfold Builtin.List.listLengthHint
 apply wpAny_bind
 apply wpAny_specialOf ty rA
 show wpAny _ _ (specialOf (Value.ref I) (Str.ofString "__length_hint__") >>= _) _ _ s
 apply wpAny_bind
 apply wpAny_specialOf ty pT
 generalize hid : ("list_reverseiterator.__length_hint__" : String) = id0
 wp_delta
 rw [show splitId id0 = some ("list_reverseiterator","__length_hint__") from by subst hid; decide +kernel]
 subst hid
 apply wpAny_bind
 refine wpAny_isInstance (b := true) ty (by rw [isSubtype_type]; kernel_rfl) ?_
 apply wpAny_pure
 rw [if_neg (by decide)]
 have W := (Walks.listRev (prog := prog) (w := w) hh I l hlI items).toS
 have out : S ∉ [I,l] := by
  simp only [A8,Au,or_false,not_or]
  exact ⟨hSI,hSl⟩
 have st : (0 : Nat) <= items.size /\ s.heap.IsRevIter I l ((items.size : Int) - 1 - ((0 : Nat) : Int)) /\ s.heap.IsList l items := ⟨Af _,by simpa using hit,hl⟩
 apply wpAny_pure
 refine ⟨plainId_quiet PySem.F.plain_extend_loop _,?_⟩
 exact codeAny_extend_loopS W hn S out res items.size 0 s #[] c rfl (Af _) st hS (ItemsOf.nil _) fin
theorem pU {E : Value -> Shared -> Prop} {Q : Value -> Shared -> Prop} (hh : A.handled = none) (hlI : l ≠ I) (hit : s.heap.IsRevIter I l ((items.size : Int) - 1)) (hl : s.heap.IsList l items) (hn : items.size <= sizeLine)
  (fin : ∀ h' tk acc c',(∀ b o,b ≠ I -> s.heap.get? b = some o -> h'.get? b = some o) -> h'.get? s.heap.objs.size = some { cls := .type "list",dict := none,data := .seq acc c',slots := #[] } -> ItemsOf (um items) acc items.size -> Q (.ref s.heap.objs.size) { s with heap := h',toks := tk }) :
  wpAny (model prog w) A (call (.type "list") [.ref I]) Q E s := by
 have lI : I < s.heap.objs.size := by
  obtain ⟨o,e,_⟩ := hit
  exact Heap.lt_size e
 have ll : l < s.heap.objs.size := by
  obtain ⟨o,e,_⟩ := hl
  exact Heap.lt_size e
 refine callType_codes (Q₁ := fun v s1 => v = .ref s.heap.objs.size /\ s1 = { s with heap := s.heap.push { cls := .type "list",data := .seq #[] } }) PySem.F.called_list (PySem.F.typeCall_list_1 _) PySem.F.entry_list_init (code_list_new _ ⟨rfl,rfl⟩) ?_
 rintro v s1 ⟨rfl,rfl⟩
 have e0 : (s.heap.push { cls := .type "list",data := .seq #[] }).get? s.heap.objs.size = some { cls := .type "list",data := .seq #[] } := Heap.get?_push_size _ rfl
 refine ⟨⟨_,e0,rfl⟩,PySem.F.args_list_init_2 _ _,?_⟩
 show wpAny _ _ (Builtin.List.listItems (.ref s.heap.objs.size) >>= fun old => Builtin.List.listUpdate (.ref s.heap.objs.size) (fun _ => #[]) >>= fun _ => letGo old.toList.reverse >>= fun _ => Builtin.List.listExtendWith (.ref s.heap.objs.size) (.ref I) .none) _ _ _
 apply wpAny_bind
 unfold Builtin.List.listItems
 apply wpAny_bind
 apply wpAny_seqItems e0 rfl
 apply wpAny_pure
 show wpAny _ _ (updateSeq s.heap.objs.size (fun _ => #[]) >>= fun _ => letGo (#[] : Array Value).toList.reverse >>= fun _ => Builtin.List.listExtendWith (.ref s.heap.objs.size) (.ref I) .none) _ _ _
 apply wpAny_bind
 apply wpAny_updateSeq e0 rfl
 have e1 := Heap.get?_update_self (Obj.mapSeq (fun _ => (#[] : Array Value))) e0 rfl
 have old : ∀ b o,b ≠ s.heap.objs.size -> s.heap.get? b = some o -> ((s.heap.push { cls := .type "list",data := .seq #[] }).update s.heap.objs.size (Obj.mapSeq (fun _ => (#[] : Array Value)))).get? b = some o := fun b o hb e =>
  (Heap.get?_update_other _ _ (Ne.symm hb)).trans (Heap.get?_push_of_some _ e)
 apply wpAny_bind
 apply wpAny_letGo
 refine lV (A := A.in1) (by simpa using hh) hlI (Nat.ne_of_gt lI) (Nat.ne_of_gt ll) .none _ ?_ ?_ e1 hn fun s' acc c' mv eS it => ?_
 ·obtain ⟨o,e,z⟩ := hit
  exact ⟨o,old _ _ (AH lI) e,z⟩
 ·obtain ⟨o,e,z⟩ := hl
  exact ⟨o,old _ _ (AH ll) e,z⟩
 ·obtain ⟨h',g',d',tk',os'⟩ := s'
  have eg : g' = s.gens := mv.gens
  have ed : d' = s.drawn := mv.drawn
  have eo : os' = s.os := mv.os
  subst eg ed eo
  refine ⟨rfl,fin h' tk' acc c' (fun b o hb e => ?_) eS it⟩
  refine mv.heap b o ?_ (old b o (AH (Heap.lt_size e)) e)
  simp only [A8,Au,or_false,not_or]
  exact ⟨AH (Heap.lt_size e),hb⟩
end
theorem kG : ∀ {xs : List V} {us : List Value},aR xs us -> aR xs.reverse us.reverse
 | _,_,.nil => .nil
 | _,_,.cons r t => by
  rw [List.reverse_cons,List.reverse_cons]
  exact (kG t).append (.cons r .nil)
theorem nZ {us : List Value} {acc : Array Value} (h : ItemsOf (um us.toArray) acc us.toArray.size) : acc.toList = us.reverse := by
 obtain ⟨h1,h2⟩ := h
 refine List.ext_getElem? fun i => ?_
 by_cases hi : i < acc.size
 ·have e := h2 i acc[i] (BK hi)
  rw [As,BK hi,List.getElem?_reverse (by simpa [h1] using hi)]
  simpa using e.symm
 ·rw [BA (by simpa using hi),BA (by rw [List.length_reverse]; simp [h1] at hi; omega)]
def xJ (K : A0) (te : TE) : TE := fun σ H Q => te σ H fun x H1 => ∃ a xs,x = .ref a /\ bc K H1 a xs /\ ∀ l,H1 l = none -> Q (.ref l) (aq H1 l (.lst xs.reverse))
section
variable {X : Cx} {e : Expr} {te : TE} {p1 p2 pos pos2 : Pos}
theorem lW (hc : X.calm = true) (g1 : Gl X "list") (m1 : X.mg "list" = none) (g2 : Gl X "reversed") (m2 : X.mg "reversed" = none) (b1 : bootBuiltins "list" = some (.type "list")) (b2 : bootBuiltins "reversed" = some (.type "reversed")) (he : PE X e te)
  (hs : starEach [e] X.env = [(false,eval e X.env)] := by rfl) :
  PE X (.Call (.Name "list" p1) [.Call (.Name "reversed" p2) [e] [] pos2] [] pos) (xJ X.K te) := by
 intro pins s σ H Q I h
 apply wpAny_Call_Name_kw
 refine fL I g1 m1 b1 ?_ (by decide) (by decide)
 refine B6 ?_ rfl rfl
 refine Calls.spliced_cons (x := eval (.Call (.Name "reversed" p2) [e] [] pos2) X.env) (rest := []) ?_
 apply wpAny_Call_Name_kw
 refine fL I g2 m2 b2 ?_ (by decide) (by decide)
 refine B6 ?_ hs rfl
 rw [hs]
 refine Calls.spliced_cons (x := eval e X.env) (rest := []) (bv (he pins s σ H _ I h) fun v s1 ⟨x,H1,I1,r1,a,xs,ex,hq,q⟩ => ?_)
 subst ex
 cases r1
 apply Calls.spliced_nil
 obtain ⟨its,rv,pl,hz⟩ := I1.list hq
 have hli : s1.heap.IsList a its.toArray := pl.isList
 have alt : a < s1.heap.objs.size := by
  obtain ⟨o,eo,_⟩ := id hli
  exact Heap.lt_size eo
 apply call_reversed_list hli
 apply Calls.spliced_nil
 have I2 : au X pins σ H1 { s1 with heap := s1.heap.push (revObj a ((its.toArray.size : Int) - 1)),toks := s1.toks } := I1.kept fun b o e => Heap.get?_push_of_some _ e
 have sz : its.toArray.size = xs.length := by rw [AK,rv.length]
 refine pU (l := a) (items := its.toArray) (I.ok.hd hc) (AH alt) ⟨_,Heap.get?_push_size _ rfl,rfl,rfl⟩ (hli.push _) (by rw [sz]; exact hz) fun h' tk acc c' kp eL itm => ?_
 have er := nZ itm
 have sl : s1.heap.objs.size <= (s1.heap.push (revObj a ((its.toArray.size : Int) - 1))).objs.size := by
  rw [Heap.size_push]
  exact Nat.le_succ _
 refine ⟨.ref _,_,I1.laid (a := (s1.heap.push (revObj a ((its.toArray.size : Int) - 1))).objs.size) (o := .lst xs.reverse) (h' := h') (t' := tk) (fun b o eo => kp b o (AH (Heap.lt_size eo)) (Heap.get?_push_of_some _ eo)) sl ?_,rfl,q _ (I1.hok.fresh sl)⟩
 refine ⟨by rw [List.length_reverse]; exact hz,acc.toList,c',by rw [er]; exact kG rv,?_⟩
 rw [Array.toArray_toList]
 exact eL
end
section
variable {prog : Program} {w : World} {A : Around} {R : Result -> Shared -> Prop} {I : Addr} {fp wr : List Addr} {G : Array GenState -> Array GenState -> Prop} {n : Nat} {P : Nat -> Value -> Prop} {St : Nat -> Shared -> Prop}
end
section
variable {prog : Program} {w : World} {A : Around} {E : Value -> Shared -> Prop} {s : Shared}
end
section
variable {X : Cx} {e : Expr} {te : TE} {p1 p2 pos pos2 : Pos}
end
theorem fQ {X : Cx} : de X (.builtin "len") (fun xs H Q => ∃ a kvs,xs = [.ref a] /\ Rd H a (.dK kvs) /\ Q (.int kvs.length) H) := by
 intro pins s σ H xs us Q I r h
 obtain ⟨a,kvs,rfl,e,q⟩ := h
 obtain ⟨u,rfl,r1⟩ := vals1 r
 cases r1
 exact uX I e fun t s' I' => ⟨.int kvs.length,H,I',⟨t,rfl⟩,q⟩
end L2
namespace Sw
open PySem L2
inductive Led (ps : List (Str × Str)) (x : Str) : Str -> Prop where
 | self : Led ps x x
 | step {y z : Str} : Led ps x y -> (y,z) ∈ ps -> Led ps x z
theorem Led.closed {ps : List (Str × Str)} {x y : Str} {S : Str -> Prop} (hx : S x) (hc : ∀ a b,S a -> (a,b) ∈ ps -> S b) (l : Led ps x y) : S y := by
 induction l with
 | self => exact hx
 | step _ m ih => exact hc _ _ ih m
def aN (ks : List Str) (v : V) : List (Key × V) := ks.map fun y => (.inr y,v)
def bI (ks : List Str) (y : Str) : List Str := if y ∈ ks then ks else ks ++ [y]
theorem bQ (ks : List Str) (v : V) : (aN ks v).length = ks.length := A2 _
theorem pV (ks : List Str) (v : V) (y : Str) : ((aN ks v).any fun kv => decide (kv.1 = (.inr y : Key))) = decide (y ∈ ks) := by
 unfold aN
 rw [BR]
 simp
theorem cD (ks : List Str) (v : V) (y : Str) : aK (aN ks v) (.inr y) = if y ∈ ks then some v else none := by
 induction ks with
 | nil => rfl
 | cons k ks ih =>
  by_cases e : k = y
  ·subst e
   rw [if_pos (by simp)]
   exact bg rfl
  ·have n : ¬ ((.inr k : Key) = .inr y) := fun z => e (Sum.inr.inj z)
   have h : aK (aN (k :: ks) v) (.inr y) = aK (aN ks v) (.inr y) := bh n
   rw [h,ih]
   simp [Ne.symm e,show ¬ y = k from fun z => e z.symm]
theorem dJ (ks : List Str) (v : V) (y : Str) : putK (aN ks v) (.inr y) v = aN (bI ks y) v := by
 unfold putK bI
 rw [pV]
 by_cases h : y ∈ ks
 ·rw [if_pos (decide_eq_true h),if_pos h]
  unfold aN
  rw [Aq]
  refine List.map_congr_left fun z hz => ?_
  show (if (.inr z : Key) = .inr y then ((.inr z : Key),v) else (.inr z,v)) = _
  split <;> rfl
 ·rw [if_neg (by simpa using h),if_neg h]
  unfold aN
  simp
theorem bW {ks : List Str} {y z : Str} : z ∈ bI ks y ↔ z ∈ ks ∨ z = y := by
 unfold bI
 split
 ·rename_i h
  constructor
  ·exact .inl
  ·rintro (k | rfl)
   ·exact k
   ·exact h
 ·simp
theorem cX {ks : List Str} {y : Str} (h : ks.Nodup) : (bI ks y).Nodup := by
 unfold bI
 split
 ·exact h
 ·rename_i n
  rw [B4]
  refine ⟨h,by simp,?_⟩
  intro a ha b hb
  simp at hb
  subst hb
  exact fun e => n (e ▸ ha)
theorem cE (ks : List Str) (y : Str) : ks.length <= (bI ks y).length /\ ((bI ks y).length = ks.length -> y ∈ ks) /\ (bI ks y).length <= ks.length + 1 := by
 unfold bI
 split
 ·rename_i h
  exact ⟨A4 _,fun _ => h,Nat.le_succ _⟩
 ·simp
def ft (l ks : List Str) : Nat := (l.filter fun y => !decide (y ∈ ks)).length
theorem rB (l : List Str) {ks ks' : List Str} (h : ∀ y ∈ ks,y ∈ ks') : ft l ks' <= ft l ks := by
 unfold ft
 induction l with
 | nil => exact A4 _
 | cons a l ih =>
  by_cases h1 : a ∈ ks
  ·simp [h1,h a h1,ih]
  ·by_cases h2 : a ∈ ks'
   ·simp [h1,h2]; omega
   ·simp [h1,h2]; omega
theorem f8 (l ks : List Str) : ft l ks <= l.length := B8 _ _
theorem rC {l ks ks' : List Str} {y : Str} (h : ∀ z ∈ ks,z ∈ ks') (yl : y ∈ l) (n : y ∉ ks) (y' : y ∈ ks') : ft l ks' < ft l ks := by
 unfold ft
 induction l with
 | nil => simp at yl
 | cons a l ih =>
  have le := rB l h
  unfold ft at le
  by_cases e : a = y
  ·subst e
   simp [n,y']
   omega
  ·have yl' : y ∈ l := by
    rcases A8.mp yl with z | z
    ·exact absurd z.symm e
    ·exact z
   have ih := ih yl'
   by_cases h1 : a ∈ ks
   ·simp [h1,h a h1]; exact ih
   ·by_cases h2 : a ∈ ks'
    ·simp [h1,h2]; omega
    ·simp [h1,h2]; exact ih
theorem iW {l ks : List Str} {y : Str} (yl : y ∈ l) : (bI ks y).length + ft l (bI ks y) <= ks.length + ft l ks := by
 by_cases h : y ∈ ks
 ·unfold bI
  rw [if_pos h]
  exact A4 _
 ·have lt := rC (ks' := bI ks y) (fun z hz => bW.mpr (.inl hz)) yl h (bW.mpr (.inr rfl))
  have := (cE ks y).2.2
  omega
def cY : Str := "abcdefghijklmnopqrstuvwxyz"
theorem mY {i : Int} (h0 : 0 <= i) (h : i < 26) : ∃ c,eO cY.cps.toList i = some c := by
 refine rq h0 ?_
 have e : cY.cps.toList.length = 26 := by decide
 rw [e]
 exact h
def aO : List (Str × List Str) -> Str -> Str -> List (Str × List Str)
 | [],x,y => [(x,[y])]
 | (a,ys) :: r,x,y => if a = x then (a,bI ys y) :: r else (a,ys) :: aO r x y
def g9 (rows : List (Str × List Str)) (x y : Str) : Prop := ∃ ys,(x,ys) ∈ rows /\ y ∈ ys
theorem bX {a : Str} {ys : List Str} {r : List (Str × List Str)} {x y : Str} : g9 ((a,ys) :: r) x y ↔ (a = x /\ y ∈ ys) ∨ g9 r x y := by
 constructor
 ·rintro ⟨zs,h,k⟩
  rcases A8.mp h with e | e
  ·cases e; exact .inl ⟨rfl,k⟩
  ·exact .inr ⟨zs,e,k⟩
 ·rintro (⟨rfl,k⟩ | ⟨zs,h,k⟩)
  ·exact ⟨ys,by simp,k⟩
  ·exact ⟨zs,by simp [h],k⟩
theorem hG : ∀ (rows : List (Str × List Str)) (x y a b : Str),g9 (aO rows x y) a b ↔ g9 rows a b ∨ (a = x /\ b = y)
 | [],x,y,a,b => by
  simp only [aO,bX]
  constructor
  ·rintro (⟨rfl,k⟩ | ⟨_,h,_⟩)
   ·exact .inr ⟨rfl,by simpa using k⟩
   ·simp at h
  ·rintro (⟨_,h,_⟩ | ⟨rfl,rfl⟩)
   ·simp at h
   ·exact .inl ⟨rfl,by simp⟩
 | (c,ys) :: r,x,y,a,b => by
  have ih := hG r x y a b
  unfold aO
  by_cases e : c = x
  ·subst e
   rw [if_pos rfl,bX,bX,bW]
   constructor
   ·rintro (⟨rfl,k | rfl⟩ | h)
    ·exact .inl (.inl ⟨rfl,k⟩)
    ·exact .inr ⟨rfl,rfl⟩
    ·exact .inl (.inr h)
   ·rintro ((⟨rfl,k⟩ | h) | ⟨rfl,rfl⟩)
    ·exact .inl ⟨rfl,.inl k⟩
    ·exact .inr h
    ·exact .inl ⟨rfl,.inr rfl⟩
  ·rw [if_neg e,bX,bX,ih]
   constructor
   ·rintro (h | h | h)
    ·exact .inl (.inl h)
    ·exact .inl (.inr h)
    ·exact .inr h
   ·rintro ((h | h) | h)
    ·exact .inl h
    ·exact .inr (.inl h)
    ·exact .inr (.inr h)
theorem dS : ∀ (rows : List (Str × List Str)) (x y : Str),(aO rows x y).map (·.1) = bI (rows.map (·.1)) x
 | [],x,y => by simp [aO,bI]
 | (c,ys) :: r,x,y => by
  have ih := dS r x y
  unfold aO
  by_cases e : c = x
  ·subst e
   rw [if_pos rfl]
   simp [bI]
  ·rw [if_neg e]
   simp only [Ag,ih]
   unfold bI
   have e' : ¬ x = c := fun z => e z.symm
   simp only [A8,e',false_or]
   split <;> rfl
theorem iy {n : Nat} : ∀ {rows : List (Str × List Str)} (x y : Str),rows.length <= n -> (∀ p ∈ rows,p.2.length <= n /\ p.2.Nodup) -> (aO rows x y).length <= n + 1 /\ ∀ p ∈ aO rows x y,p.2.length <= n + 1 /\ p.2.Nodup := by
 intro rows x y h1 h2
 have hl : (aO rows x y).length <= rows.length + 1 := by
  have := congrArg List.length (dS rows x y)
  rw [A2] at this
  have k := (cE (rows.map (·.1)) x).2.2
  rw [A2] at k
  omega
 refine ⟨by omega,?_⟩
 clear hl h1
 induction rows with
 | nil =>
  intro p hp
  simp [aO] at hp
  subst hp
  simp
 | cons a r ih =>
  obtain ⟨c,ys⟩ := a
  have ih := ih fun p hp => h2 p (by simp [hp])
  have hc := h2 (c,ys) (by simp)
  intro p hp
  unfold aO at hp
  split at hp
  ·rcases A8.mp hp with rfl | k
   ·have := (cE ys y).2.2
    exact ⟨AT this (by have := hc.1; simp at this ⊢; omega),cX hc.2⟩
   ·have := h2 p (by simp [k])
    exact ⟨by omega,this.2⟩
  ·rcases A8.mp hp with rfl | k
   ·exact ⟨by have := hc.1; simp at this ⊢; omega,hc.2⟩
   ·exact ih p k
structure bJ (rows : List (Str × List Str)) (ps : List (Str × Str)) : Prop where
 mem : ∀ a b,g9 rows a b ↔ (a,b) ∈ ps
 keys : (rows.map (·.1)).Nodup
 few : rows.length <= ps.length
 small : ∀ p ∈ rows,p.2.length <= ps.length /\ p.2.Nodup
theorem bJ.nil : bJ [] [] := ⟨fun a b => ⟨fun ⟨_,h,_⟩ => by simp at h,fun h => by simp at h⟩,by simp,by simp,fun p hp => by simp at hp⟩
theorem bJ.add {rows : List (Str × List Str)} {ps : List (Str × Str)} (h : bJ rows ps) (p : Str × Str) : bJ (aO rows p.1 p.2) (ps ++ [p]) := by
 obtain ⟨k1,k2⟩ := iy p.1 p.2 h.few h.small
 refine ⟨fun a b => ?_,by rw [dS]; exact cX h.keys,by simpa using k1,fun q hq => by simpa using k2 q hq⟩
 rw [hG,h.mem]
 obtain ⟨p1,p2⟩ := p
 simp
def a9 (H : Hp) : List (Str × List Str) -> List Addr -> Prop
 | [],[] => True
 | (_,ys) :: rows,r :: rs => H r = some (.dK (aN ys (.bl true))) /\ a9 H rows rs
 | _,_ => False
def cL : List (Str × List Str) -> List Addr -> List (Key × V)
 | (x,_) :: rows,r :: rs => (.inr x,.ref r) :: cL rows rs
 | _,_ => []
theorem a9.len {H : Hp} : ∀ {rows : List (Str × List Str)} {rs : List Addr},a9 H rows rs -> rs.length = rows.length /\ (cL rows rs).length = rows.length
 | [],[],_ => ⟨rfl,rfl⟩
 | _ :: _,_ :: _,h => by
  have := a9.len h.2
  exact ⟨by simp [this.1],by simp [cL,this.2]⟩
 | [],_ :: _,h => h.elim
 | _ :: _,[],h => h.elim
theorem a9.same {H H' : Hp} (g : ay H H') : ∀ {rows : List (Str × List Str)} {rs : List Addr},a9 H rows rs -> a9 H' rows rs
 | [],[],_ => trivial
 | _ :: _,_ :: _,h => ⟨g _ _ h.1,a9.same g h.2⟩
 | [],_ :: _,h => h.elim
 | _ :: _,[],h => h.elim
theorem a9.other {H : Hp} {a : Addr} {o : HO} : ∀ {rows : List (Str × List Str)} {rs : List Addr},a9 H rows rs -> a ∉ rs -> a9 (aq H a o) rows rs
 | [],[],_,_ => trivial
 | _ :: _,r :: _,h,n => ⟨by rw [af (fun e => n (by simp [e]))]; exact h.1,a9.other h.2 fun k => n (by simp [k])⟩
 | [],_ :: _,h,_ => h.elim
 | _ :: _,[],h,_ => h.elim
theorem a9.at_some {H : Hp} {x y : Str} {w : V} : ∀ {rows : List (Str × List Str)} {rs : List Addr},a9 H rows rs -> rs.Nodup -> aK (cL rows rs) (.inr x) = some w ->
  ∃ r ys,w = .ref r /\ r ∈ rs /\ (x,ys) ∈ rows /\ H r = some (.dK (aN ys (.bl true))) /\ a9 (aq H r (.dK (aN (bI ys y) (.bl true)))) (aO rows x y) rs /\ cL (aO rows x y) rs = cL rows rs
 | [],[],_,_,e => by cases e
 | (c,ys) :: rows,r :: rs,h,nd,e => by
  by_cases z : c = x
  ·subst z
   have e' : aK (cL ((c,ys) :: rows) (r :: rs)) (.inr c) = some (.ref r) := bg rfl
   rw [e'] at e
   cases e
   refine ⟨r,ys,rfl,by simp,by simp,h.1,?_,?_⟩
   ·unfold aO
    rw [if_pos rfl]
    exact ⟨ac,h.2.other (AN.mp nd).1⟩
   ·unfold aO
    rw [if_pos rfl]
    rfl
  ·have n : ¬ ((.inr c : Key) = .inr x) := fun q => z (Sum.inr.inj q)
   have e' : aK (cL ((c,ys) :: rows) (r :: rs)) (.inr x) = aK (cL rows rs) (.inr x) := bh n
   rw [e'] at e
   obtain ⟨r',ys',rfl,hr,hm,hH,hD,hT⟩ := a9.at_some (y := y) h.2 (AN.mp nd).2 e
   refine ⟨r',ys',rfl,by simp [hr],by simp [hm],hH,?_,?_⟩
   ·unfold aO
    rw [if_neg z]
    refine ⟨?_,hD⟩
    rw [af]
    ·exact h.1
    ·intro q
     exact (AN.mp nd).1 (q ▸ hr)
   ·unfold aO
    rw [if_neg z]
    show _ :: _ = _ :: _
    rw [hT]
 | [],_ :: _,h,_,_ => h.elim
 | _ :: _,[],h,_,_ => h.elim
theorem a9.at_none {H : Hp} {x y : Str} {p : Addr} : ∀ {rows : List (Str × List Str)} {rs : List Addr},a9 H rows rs -> aK (cL rows rs) (.inr x) = none ->
  aO rows x y = rows ++ [(x,[y])] /\ cL (rows ++ [(x,[y])]) (rs ++ [p]) = cL rows rs ++ [(.inr x,.ref p)] /\ ∀ b,¬ g9 rows x b
 | [],[],_,_ => ⟨rfl,rfl,fun b ⟨_,h,_⟩ => by simp at h⟩
 | (c,ys) :: rows,r :: rs,h,e => by
  have z : ¬ c = x := fun z => by
   subst z
   have e' : aK (cL ((c,ys) :: rows) (r :: rs)) (.inr c) = some (.ref r) := bg rfl
   rw [e'] at e
   cases e
  have n : ¬ ((.inr c : Key) = .inr x) := fun q => z (Sum.inr.inj q)
  have e' : aK (cL ((c,ys) :: rows) (r :: rs)) (.inr x) = aK (cL rows rs) (.inr x) := bh n
  rw [e'] at e
  obtain ⟨h1,h2,h3⟩ := a9.at_none (y := y) (p := p) h.2 e
  refine ⟨?_,?_,fun b hb => ?_⟩
  ·unfold aO
   rw [if_neg z,h1]
   rfl
  ·exact congrArg (((.inr c : Key),V.ref r) :: ·) h2
  ·rcases bX.mp hb with ⟨q,_⟩ | k
   ·exact z q
   ·exact h3 b k
 | [],_ :: _,h,_ => h.elim
 | _ :: _,[],h,_ => h.elim
theorem a9.snoc {H : Hp} {x : Str} {ys : List Str} {p : Addr} (e : H p = some (.dK (aN ys (.bl true)))) : ∀ {rows : List (Str × List Str)} {rs : List Addr},a9 H rows rs -> a9 H (rows ++ [(x,ys)]) (rs ++ [p])
 | [],[],_ => ⟨e,trivial⟩
 | _ :: _,_ :: _,h => ⟨h.1,a9.snoc e h.2⟩
 | [],_ :: _,h => h.elim
 | _ :: _,[],h => h.elim
structure DD (H : Hp) (d : Addr) (rows : List (Str × List Str)) : Prop where
 ex : ∃ rs : List Addr,a9 H rows rs /\ H d = some (.dK (cL rows rs)) /\ rs.Nodup /\ d ∉ rs
theorem DD.same {H H' : Hp} {d : Addr} {rows : List (Str × List Str)} (h : DD H d rows) (g : ay H H') : DD H' d rows := by
 obtain ⟨rs,h1,h2,h3,h4⟩ := h.ex
 exact ⟨rs,h1.same g,g _ _ h2,h3,h4⟩
def lX : Option Str -> V
 | none => .non
 | some p => .str p
def aP (es : List (Str × Option Str)) : List (Key × V) := es.map fun e => (.inr e.1,lX e.2)
def aJ (es : List (Str × Option Str)) : List Str := es.map (·.1)
theorem dU (es : List (Str × Option Str)) : (aP es).length = (aJ es).length := by simp [aP,aJ]
theorem fR : ∀ (es : List (Str × Option Str)) (b : Str),(aK (aP es) (.inr b)).isSome = decide (b ∈ aJ es)
 | [],b => by simp [aP,aJ,aK]
 | (c,o) :: es,b => by
  by_cases e : c = b
  ·subst e
   have : aK (aP ((c,o) :: es)) (.inr c) = some (lX o) := bg rfl
   rw [this]
   simp [aJ]
  ·have n : ¬ ((.inr c : Key) = .inr b) := fun z => e (Sum.inr.inj z)
   have h : aK (aP ((c,o) :: es)) (.inr b) = aK (aP es) (.inr b) := bh n
   rw [h,fR es b]
   have e' : ¬ b = c := fun z => e z.symm
   show decide (b ∈ aJ es) = decide (b ∈ c :: aJ es)
   rw [decide_eq_decide]
   simp [e']
theorem lY {es : List (Str × Option Str)} {b : Str} (h : b ∉ aJ es) : aK (aP es) (.inr b) = none := by
 have := fR es b
 rw [decide_eq_false h] at this
 cases e : aK (aP es) (.inr b) with
 | none => rfl
 | some => rw [e] at this; cases this
theorem n8 {es : List (Str × Option Str)} {b nm : Str} (h : b ∉ aJ es) : putK (aP es) (.inr b) (.str nm) = aP (es ++ [(b,some nm)]) := by
 rw [d8 _ (lY h)]
 simp [aP,lX]
theorem pW {es : List (Str × Option Str)} (nd : (aJ es).Nodup) {i : Nat} {y : Str} {o : Option Str} (h : es[i]? = some (y,o)) : aK (aP es) (.inr y) = some (lX o) := by
 induction es generalizing i with
 | nil => simp at h
 | cons e es ih =>
  obtain ⟨c,oc⟩ := e
  cases i with
  | zero =>
   simp at h
   obtain ⟨rfl,rfl⟩ := h
   exact bg rfl
  | succ i =>
   have hm : y ∈ aJ es := AF.mpr ⟨(y,o),AB (by simpa using h),rfl⟩
   have nd' := AN.mp nd
   have n : ¬ ((.inr c : Key) = .inr y) := fun z => nd'.1 (by rw [Sum.inr.inj z]; exact hm)
   have hv : aK (aP ((c,oc) :: es)) (.inr y) = aK (aP es) (.inr y) := bh n
   rw [hv]
   exact ih nd'.2 (by simpa using h)
structure cF (ps : List (Str × Str)) (good : Str) (es : List (Str × Option Str)) : Prop where
 first : es[0]? = some (good,none)
 nd : (aJ es).Nodup
 led : ∀ y ∈ aJ es,Led ps good y
 par : ∀ (i : Nat) (y : Str) (o : Option Str),es[i]? = some (y,o) -> (o = none -> i = 0) /\ ∀ p,o = some p -> (p,y) ∈ ps /\ ∃ j o',j < i /\ es[j]? = some (p,o')
 room : (aJ es).length + ft (ps.map (·.2)) (aJ es) <= 1001
theorem cF.start (ps : List (Str × Str)) (good : Str) (few : ps.length <= 1000) : cF ps good [(good,none)] where
 first := rfl
 nd := by simp [aJ]
 led := fun y hy => by simp [aJ] at hy; subst hy; exact .self
 par := fun i y o h => by
  cases i with
  | zero => simp at h; exact ⟨fun _ => rfl,fun p hp => by rw [<- h.2] at hp; cases hp⟩
  | succ i => simp at h
 room := by
  have := f8 (ps.map (·.2)) (aJ [(good,none)])
  rw [A2] at this
  show 1 + _ <= _
  omega
theorem dW (es : List (Str × Option Str)) (b : Str) (o : Option Str) : aJ (es ++ [(b,o)]) = aJ es ++ [b] := by simp [aJ]
theorem cF.add {ps : List (Str × Str)} {good : Str} {es : List (Str × Option Str)} (h : cF ps good es) {nm b : Str} (hn : nm ∈ aJ es) (hb : b ∉ aJ es) (hp : (nm,b) ∈ ps) : cF ps good (es ++ [(b,some nm)]) where
 first := by
  rw [A5]
  ·exact h.first
  ·exact (A1.mp h.first).1
 nd := by
  rw [dW,B4]
  refine ⟨h.nd,by simp,?_⟩
  intro u hu v hv
  simp at hv
  subst hv
  exact fun z => hb (z ▸ hu)
 led := fun y hy => by
  rw [dW] at hy
  rcases AY.mp hy with k | k
  ·exact h.led y k
  ·simp at k
   subst k
   exact .step (h.led nm hn) hp
 par := fun i y o hi => by
  by_cases c : i < es.length
  ·rw [A5 c] at hi
   obtain ⟨h1,h2⟩ := h.par i y o hi
   refine ⟨h1,fun p e => ?_⟩
   obtain ⟨k1,j,o',jl,ej⟩ := h2 p e
   exact ⟨k1,j,o',jl,by rw [A5 (by omega)]; exact ej⟩
  ·rw [AS (by omega)] at hi
   have e0 : i - es.length = 0 := by
    rcases Ay (i - es.length) with z | z
    ·exact z
    ·rw [BA (by simp; omega)] at hi; cases hi
   rw [e0] at hi
   simp at hi
   obtain ⟨rfl,rfl⟩ := hi
   refine ⟨(fun z => nomatch z),fun p e => ?_⟩
   cases e
   obtain ⟨q,hq,rfl⟩ := AF.mp hn
   obtain ⟨j,hj⟩ := Aa.mp hq
   have jl := (A1.mp hj).1
   exact ⟨hp,j,q.2,by omega,by rw [A5 jl]; exact hj⟩
 room := by
  have := iW (ks := aJ es) (show b ∈ ps.map (·.2) from AF.mpr ⟨_,hp,rfl⟩)
  have e : bI (aJ es) b = aJ es ++ [b] := if_neg hb
  rw [e] at this
  rw [dW]
  exact AT this h.room
theorem cF.good {ps : List (Str × Str)} {good : Str} {es : List (Str × Option Str)} (h : cF ps good es) : good ∈ aJ es := AF.mpr ⟨(good,none),AB h.first,rfl⟩
theorem pX {H H' : Hp} (g : ay H H') (a : Addr) (o : HO) : ay (aq H a o) (aq H' a o) := fun b u e => by
 by_cases z : b = a
 ·subst z
  rw [ac] at e ⊢
  exact e
 ·rw [af z] at e ⊢
  exact g b u e
theorem rD {ys : List Str} {v x : V} {i : Nat} {k : Key} (h : (aN ys v)[i]? = some (k,x)) : ∃ b,ys[i]? = some b /\ k = .inr b := by
 unfold aN at h
 rw [AI] at h
 cases e : ys[i]? with
 | none => rw [e] at h; cases h
 | some b => rw [e] at h; cases h; exact ⟨b,rfl,rfl⟩
structure rE (ps : List (Str × Str)) (good : Str) (es : List (Str × Option Str)) : Prop where
 base : cF ps good es
 all : ∀ y,y ∈ aJ es ↔ Led ps good y
def gv : Sp := fun vs H Q _ => ∃ (d : Addr) (good : Str) (rows : List (Str × List Str)) (ps : List (Str × Str)),vs = [.ref d,.str good] /\ DD H d rows /\ bJ rows ps /\ ps.length <= 1000 /\
 ∀ (ah : Addr) (H' : Hp) (es : List (Str × Option Str)),ay H H' -> H' ah = some (.dK (aP es)) -> rE ps good es -> Q (.ref ah) H'
theorem uo {H : Hp} {rows : List (Str × List Str)} {rs : List Addr} {ps : List (Str × Str)} {x : Str} (dr : a9 H rows rs) (nd : rs.Nodup) (ok : bJ rows ps) :
  (aK (cL rows rs) (.inr x) = none /\ ∀ b,(x,b) ∉ ps) ∨ ∃ r ys,aK (cL rows rs) (.inr x) = some (.ref r) /\ r ∈ rs /\ H r = some (.dK (aN ys (.bl true))) /\ ys.length <= ps.length /\ ys.Nodup /\ ∀ b,b ∈ ys ↔ (x,b) ∈ ps := by
 cases e : aK (cL rows rs) (.inr x) with
 | none =>
  refine .inl ⟨rfl,fun b hb => ?_⟩
  exact (dr.at_none (y := x) (p := 0) e).2.2 b ((ok.mem x b).mpr hb)
 | some w =>
  obtain ⟨r,ys,rfl,hr,hm,hH,_,_⟩ := dr.at_some (y := x) nd e
  refine .inr ⟨r,ys,rfl,hr,hH,(ok.small _ hm).1,(ok.small _ hm).2,fun b => ?_⟩
  rw [<- ok.mem]
  constructor
  ·exact fun h => ⟨ys,hm,h⟩
  ·rintro ⟨zs,hz,hb⟩
   have : zs = ys := by
    have inj : ∀ {l : List (Str × List Str)},(l.map (·.1)).Nodup -> ∀ {a b c},(a,b) ∈ l -> (a,c) ∈ l -> b = c := by
     intro l
     induction l with
     | nil => intro _ a b c h; simp at h
     | cons p l ih =>
      intro nd a b c h1 h2
      have nd' := AN.mp nd
      rcases A8.mp h1 with e1 | e1
      ·rcases A8.mp h2 with e2 | e2
       ·rw [<- e1] at e2; cases e2; rfl
       ·exact absurd (AF.mpr ⟨(a,c),e2,by rw [<- e1]⟩) nd'.1
      ·rcases A8.mp h2 with e2 | e2
       ·exact absurd (AF.mpr ⟨(a,b),e1,by rw [<- e2]⟩) nd'.1
       ·exact ih nd'.2 e1 e2
    exact inj ok.keys hz hm
   rw [<- this]
   exact hb
structure Way (ps : List (Str × Str)) (good goal : Str) (c : List Str) : Prop where
 first : c[0]? = some good
 last : c.getLast? = some goal
 nd : c.Nodup
 pair : ∀ (i : Nat) (a b : Str),c[i]? = some a -> c[i + 1]? = some b -> (a,b) ∈ ps
 alone : goal = good -> c = [good]
 few : c.length <= 1001
structure Back (ps : List (Str × Str)) (good goal : Str) (es : List (Str × Option Str)) (rc : List Str) (o : Option Str) : Prop where
 nd : rc.Nodup
 pair : ∀ (i : Nat) (a b : Str),rc[i]? = some a -> rc[i + 1]? = some b -> (b,a) ∈ ps
 first : rc.head? = some goal ∨ (rc = [] /\ o = some goal)
 nxt : ∀ y,o = some y -> ∃ (i : Nat) (oy : Option Str),es[i]? = some (y,oy) /\ (∀ x ∈ rc,∃ (j : Nat) (ox : Option Str),i < j /\ es[j]? = some (x,ox)) /\ (∀ a,rc.getLast? = some a -> (y,a) ∈ ps) /\ rc.length + i < es.length
 fin : o = none -> rc.getLast? = some good
 alone : goal = good -> rc = [] ∨ (rc = [good] /\ o = none)
 few : rc.length <= es.length
theorem fw {es : List (Str × Option Str)} {i : Nat} {y : Str} {o : Option Str} (h : es[i]? = some (y,o)) : (aJ es)[i]? = some y := by
 unfold aJ
 rw [AI,h]
 rfl
theorem ve {xs : List Str} (nd : xs.Nodup) {i j : Nat} {y : Str} (h1 : xs[i]? = some y) (h2 : xs[j]? = some y) : i = j := by
 obtain ⟨l1,e1⟩ := A1.mp h1
 obtain ⟨l2,e2⟩ := A1.mp h2
 exact (List.getElem_inj nd).mp (e1.trans e2.symm)
theorem cF.at {ps : List (Str × Str)} {good : Str} {es : List (Str × Option Str)} (h : cF ps good es) {i j : Nat} {y : Str} {o o' : Option Str} (h1 : es[i]? = some (y,o)) (h2 : es[j]? = some (y,o')) : i = j :=
 ve h.nd (fw h1) (fw h2)
theorem Back.start {ps : List (Str × Str)} {good goal : Str} {es : List (Str × Option Str)} (hg : goal ∈ aJ es) : Back ps good goal es [] (some goal) where
 nd := List.nodup_nil
 pair := fun i a b h => by simp at h
 first := .inr ⟨rfl,rfl⟩
 nxt := fun y e => by
  cases e
  obtain ⟨p,hp,rfl⟩ := AF.mp hg
  obtain ⟨i,hi⟩ := Aa.mp hp
  refine ⟨i,p.2,hi,by simp,by simp,?_⟩
  have := (A1.mp hi).1
  simpa using this
 fin := fun e => nomatch e
 alone := fun _ => .inl rfl
 few := by simp
theorem Back.step {ps : List (Str × Str)} {good goal : Str} {es : List (Str × Option Str)} (ab : cF ps good es) {rc : List Str} {y : Str} {oy : Option Str} {i : Nat} (h : Back ps good goal es rc (some y)) (hi : es[i]? = some (y,oy)) : Back ps good goal es (rc ++ [y]) oy := by
 obtain ⟨i',oy',h1,h2,h3,h4⟩ := h.nxt y rfl
 obtain rfl := ab.at hi h1
 have par := ab.par i y oy hi
 have ny : y ∉ rc := fun m => by
  obtain ⟨j,ox,lt,e⟩ := h2 y m
  have := ab.at hi e
  omega
 refine ⟨?_,?_,?_,?_,?_,?_,?_⟩
 ·rw [B4]
  refine ⟨h.nd,by simp,?_⟩
  intro u hu v hv
  simp at hv
  subst hv
  exact fun z => ny (z ▸ hu)
 ·intro k a b ha hb
  by_cases c : k + 1 < rc.length
  ·rw [A5 (by omega)] at ha
   rw [A5 c] at hb
   exact h.pair k a b ha hb
  ·have kl : k + 1 < (rc ++ [y]).length := (A1.mp hb).1
   simp at kl
   have ke : k + 1 = rc.length := by omega
   rw [AS (by omega),ke] at hb
   simp at hb
   subst hb
   rw [A5 (by omega)] at ha
   refine h3 a ?_
   rw [List.getLast?_eq_getElem?,<- ha]
   congr 1
   omega
 ·rcases h.first with k | ⟨rfl,k⟩
  ·left
   cases rc with
   | nil => simp at k
   | cons z zs => simpa using k
  ·cases k
   left
   rfl
 ·intro p e
  obtain ⟨hp,j,o',jl,ej⟩ := par.2 p e
  refine ⟨j,o',ej,?_,?_,?_⟩
  ·intro x hx
   rcases AY.mp hx with k | k
   ·obtain ⟨j2,ox,lt,e2⟩ := h2 x k
    exact ⟨j2,ox,by omega,e2⟩
   ·simp at k
    subst k
    exact ⟨i,oy,jl,hi⟩
  ·intro a ha
   simp at ha
   subst ha
   exact hp
  ·simp
   omega
 ·intro e
  have i0 := par.1 e
  subst i0
  rw [ab.first] at hi
  cases hi
  simp
 ·intro e
  subst e
  rcases h.alone rfl with rfl | ⟨_,k⟩
  ·rcases h.first with k | ⟨_,k⟩
   ·simp at k
   ·cases k
    right
    have := ab.at hi ab.first
    subst this
    rw [ab.first] at hi
    cases hi
    exact ⟨rfl,rfl⟩
  ·cases k
 ·simp
  omega
theorem Back.way {ps : List (Str × Str)} {good goal : Str} {es : List (Str × Option Str)} (ab : cF ps good es) {rc : List Str} (h : Back ps good goal es rc none) : Way ps good goal rc.reverse where
 first := by
  have := h.fin rfl
  rw [<- List.head?_eq_getElem?,List.head?_reverse]
  exact this
 last := by
  rw [List.getLast?_reverse]
  rcases h.first with k | ⟨_,k⟩
  ·exact k
  ·cases k
 nd := by
  unfold List.Nodup
  rw [List.pairwise_reverse]
  exact h.nd.imp fun n => Ne.symm n
 pair := fun i a b ha hb => by
  have l : i + 1 < rc.reverse.length := (A1.mp hb).1
  rw [List.length_reverse] at l
  rw [List.getElem?_reverse (by omega)] at ha hb
  refine h.pair (rc.length - 1 - (i + 1)) b a hb ?_
  rw [<- ha]
  congr 1
  omega
 alone := fun e => by
  rcases h.alone e with k | ⟨k,_⟩
  ·subst k
   have := h.fin rfl
   simp at this
  ·rw [k]
   rfl
 few := by
  rw [List.length_reverse]
  have := h.few
  have r := ab.room
  have l : (aJ es).length = es.length := by simp [aJ]
  omega
def kH (es : List (Str × Option Str)) : Option (Option V) -> Nat
 | some (some (.str y)) => (aJ es).idxOf y + 1
 | _ => 0
theorem kI {ps : List (Str × Str)} {good : Str} {es : List (Str × Option Str)} (ab : cF ps good es) {i : Nat} {y : Str} {o : Option Str} (h : es[i]? = some (y,o)) : kH es (some (some (.str y))) = i + 1 := by
 show (aJ es).idxOf y + 1 = i + 1
 have hk := fw h
 obtain ⟨l,e⟩ := A1.mp hk
 rw [<- e,ab.nd.idxOf_getElem]
theorem pY {ps : List (Str × Str)} {good : Str} {es : List (Str × Option Str)} (ab : cF ps good es) {i : Nat} {y : Str} {o : Option Str} (h : es[i]? = some (y,o)) : kH es (some (some (lX o))) < kH es (some (some (.str y))) := by
 rw [kI ab h]
 cases o with
 | none => exact Nat.succ_pos _
 | some p =>
  obtain ⟨_,j,o',jl,ej⟩ := (ab.par i y _ h).2 p rfl
  show kH es (some (some (.str p))) < _
  rw [kI ab ej]
  omega
end Sw
namespace L2
open PySem PySem.Spec PyProof.Rows XH
section
variable {X : Cx} {scope : Scope} {cl : List (Str × Addr)} {own : Str} {ys : List Str} {js : List Nat} {elt iter cond : Expr} {px pos : Pos} {wi : TI} {te : TE} {tc : TT}
theorem iX {i : Nat} {y : Str} {py spos : Pos} (hN : X.N.Nodup) (hi' : X.N[i]? = some y) (hy : X.env.scope.names.lookup y = some .local) (hc : X.calm = true) (ok : jv X scope cl own ys js) (hi : PI X (.Name own px) iter wi)
  (hq : ∀ (C : Addr) (fp : List Addr) (s : Shared) (H : Hp),PT (X.block scope cl C (own :: ys) own fp s H) cond tc)
  (he : ∀ (C : Addr) (fp : List Addr) (s : Shared) (H : Hp),PE (X.block scope cl C (own :: ys) own fp s H) elt te)
  (hsw : swapsWith (.ListComp elt [⟨.Name own px,iter,[cond],0⟩] scope pos) (some (.Name y py)) spos.line X.env = pure true := by rfl) (hs : ∀ x,foldedSetIterable iter X.env x = pure x := by intro _; rfl) :
  PS X (.Assign [.Name y py] (.ListComp elt [⟨.Name own px,iter,[cond],0⟩] scope pos) spos) (uJ (mX wi js tc te) (bu i)) := by
 intro pins s σ H D I h
 have ncell : ∀ y ∈ scope.names,y.2 ≠ .cell := fun y hy z => by
  have q := BJ.mp ok.nocell y hy
  rw [z] at q
  simp at q
 have nloc : ∀ y ∈ scope.names,y.2 = .local -> scope.names.lookup y.1 = some .local := fun y hy z => by
  have q := BJ.mp ok.loc y hy
  rw [z] at q
  simpa using q
 show wpAny _ _ (exec _ X.env) _ _ _
 rw [exec_Assign_Name_used _ _ _ _ hsw]
 refine wpAny_bind (wpAny_standAt (wpAny_bind ?_))
 show wpAny _ X.A (do let _ <- comprehension (.ListComp elt [⟨.Name own px,iter,[cond],0⟩] scope pos) scope X.env _ (newList []) false (eval iter X.env) (some (assign (.Name y py) X.env))) _ _ s
 refine wpAny_bind (wpAny_mono (wpAny_comprehension_free (use := some (assign (.Name y py) X.env)) (Q := fun _ s' => SP X pins D .next s') rfl hs ok.clos ok.kind nloc (bv (hi pins s σ H _ I h) fun v s1 h1 => bv h1 fun itv s2 h2 => ?_)) (fun _ s' hq => wpAny_pure (wpAny_pure hq)) fun _ _ e => e)
 obtain ⟨it,fp,tn,J,H2,rfl,I2,T,st2,f2,q2⟩ := h2
 obtain ⟨W,⟨m0,w0⟩,turn⟩ := q2 s2.heap.objs.size (I2.hok.fresh (A4 _))
 refine wpAny_newObj_type (wpAny_newFunctionEnv ncell (by intro y hy; simp at hy) (fun h1 hns hsb => ?_) ok.kind)
 have I3 := I2.laid (a := s2.heap.objs.size) (o := .lst []) (h' := s2.heap.push { cls := .type "list",dict := none,data := .seq ([] : List Value).toArray }) (t' := s2.toks) (fun b u q => Heap.get?_push_of_some _ q) (A4 _)
  ⟨Af _,[],0,.nil,Heap.get?_push_size _ rfl⟩
 have fpo : ∀ b ∈ fp,b < s2.heap.objs.size := fun b hb => by
  obtain ⟨o,e,_⟩ := T.obj 0 _ st2 b hb
  exact Heap.lt_size e
 have f3 : ∀ b ∈ fp,gh X pins (aq H2 s2.heap.objs.size (.lst [])) b := fun b hb => ⟨by rw [af (AH (fpo b hb))]; exact (f2 b hb).1,(f2 b hb).2⟩
 generalize hs3 : ({ s2 with heap := s2.heap.push { cls := .type "list",dict := none,data := .seq ([] : List Value).toArray },toks := s2.toks } : Shared) = s3 at I3
 have e3 : s3.heap = s2.heap.push { cls := .type "list",dict := none,data := .seq ([] : List Value).toArray } := by rw [<- hs3]
 have lt3 : ∀ b ∈ fp,b < s3.heap.objs.size := fun b hb => by rw [e3,Heap.size_push]; exact Nat.lt_succ_of_lt (fpo b hb)
 dsimp only at hns hsb ⊢
 rw [<- e3] at hns hsb
 have hk : ∀ b o,s3.heap.get? b = some o -> h1.get? b = some o := fun b o e => hsb.extBut b o (AH (Heap.lt_size e)) (Heap.get?_push_of_some _ e)
 have J0 := f6 (h1 := h1) ok I3 f3 lt3 hns hk (s2.toks + 0)
 have t0 : tn 0 h1 := T.keep 0 _ _ st2 fun b hb o e => hk b o (by rw [e3]; exact Heap.get?_push_of_some _ e)
 have fpB : ∀ {H' : Hp},(∀ b ∈ fp,H' b = none) -> ∀ b ∈ fp,gh (X.block scope cl s3.heap.objs.size (own :: ys) own fp s3 (aq H2 s2.heap.objs.size (.lst []))) [] H' b := fun {H'} hn b hb =>
  ⟨hn b hb,AH (lt3 b hb),fun z => (A8.mp (I3.stkSub b z)).elim (f3 b hb).2.1 (f3 b hb).2.2.1,.inl hb,fun x c e => (f3 b hb).2.2.2.2.1 x c (ok.sub (x,c) (Ai e)),fun p hp => absurd (show p ∈ ([] : List (Addr × Obj)) from hp) (by simp)⟩
 have loop : codeAny (model X.prog X.w) X.A (.compLoop (.ListComp elt [⟨.Name own px,iter,[cond],0⟩] scope pos) 0 (.ref it) (.ref s2.heap.objs.size) (compEnvC scope cl s3.heap.objs.size X.env))
   (compPost (model X.prog X.w) X.A X.xe (some (assign (.Name y py) X.env)) (fun _ s' => SP X pins D .next s') (.ref s2.heap.objs.size) s3.heap.objs.size) { s3 with heap := h1,toks := s2.toks + 0 } := by
  refine f7 (fun n s' => ∃ i zs o0 H',au (X.block scope cl s3.heap.objs.size (own :: ys) own fp s3 (aq H2 s2.heap.objs.size (.lst []))) [] (o0 :: bP js σ) H' s' /\ tn i s'.heap /\ (∀ b ∈ fp,H' b = none) /\ W i n zs H') ?_ m0
   ⟨0,[],none,_,J0,t0,fun b hb => (f3 b hb).1,w0⟩
  rintro n s5 ⟨i,zs,o0,H5,I5,t5,n5,w5⟩
  obtain ⟨hD,hw⟩ := turn i n zs H5 w5
  rcases hw with ⟨stop,qn⟩ | ⟨go,hz,step⟩
  ·refine bv (T.done (X.block scope cl s3.heap.objs.size (own :: ys) own fp s3 (aq H2 s2.heap.objs.size (.lst []))) rfl rfl rfl hc i [] s5 _ H5 (fun _ _ => False) I5 (fpB n5) t5 stop) fun r s6 ⟨hr,I6⟩ => ?_
   subst hr
   obtain ⟨m,hn,_⟩ := id I6.loc
   have J : au X pins σ H5 s6 := iT (h' := s6.heap) I3 f3 I6 (Heap.SameBut.refl _ _)
   have fC := I3.fpOk (A4 _) (show H5 s3.heap.objs.size = none from I6.free)
   obtain ⟨k0,k1,k2,k3,k4,k5⟩ := fC
   show wpAny _ X.A (assign (.Name y py) X.env (.ref s2.heap.objs.size)) _ _ _
   refine wpAny_assign_Name (iD (v := .ref s2.heap.objs.size) J hN hi' (.inl hy) rfl (fun s7 I7 hsb => ?_) (.inr hy))
   obtain ⟨a',sb,ha⟩ := hsb
   have ne : s3.heap.objs.size ≠ a' := by
    rcases ha with z | z
    ·rw [z]; exact k1
    ·exact fun w => k4 _ _ z w.symm
   exact ⟨m,hn.sameBut sb ne,fun h' hs' => ⟨_,H5,I7.turned (t' := s7.toks) (fun b o hb e => (hs'.2 b hb).trans e) k0 k1 k3 k4 k5,qn⟩⟩
  ·refine bv (T.item (X.block scope cl s3.heap.objs.size (own :: ys) own fp s3 (aq H2 s2.heap.objs.size (.lst []))) rfl rfl rfl hc i [] s5 _ H5 (fun _ _ => False) I5 (fpB n5) t5 go) fun r s6 ⟨u,hr,h6⟩ => ?_
   subst hr
   refine bv h6 fun _ s7 ⟨x,H7,I7,r7,y7,t7,n7⟩ => ?_
   have I7' := I7.pinned (fpB n7) (T.obj _ _ t7)
   have hst := step x H7 y7
   have own' : (relabel scope X.env).names.lookup own = some .local := lookup_relabel_local ok.ownL
   refine bv (bz (X := X.block scope cl s3.heap.objs.size (own :: ys) own fp s3 (aq H2 s2.heap.objs.size (.lst []))) (i := 0) (x := own) (pos := px) ok.nd rfl (.inl own') (.inr own') _ s7 _ H7 x u (fun σ' H' => σ' = some x :: bP js σ /\ H' = H7) I7' r7 ⟨rfl,rfl⟩) fun _ s8 ⟨σ8,H8,I8,e8,eH8⟩ => ?_
   subst e8 eH8
   refine bv (hq _ _ _ _ _ s8 _ H8 _ I8 hst) fun ok s9 ⟨H9,I9,h9⟩ => ?_
   have frame : ∀ {s' : Shared} {H' : Hp},au (X.block scope cl s3.heap.objs.size (own :: ys) own fp s3 (aq H2 s2.heap.objs.size (.lst []))) ([] ++ fM fp s7.heap) (some x :: bP js σ) H' s' -> tn (i + 1) s'.heap /\ ∀ b ∈ fp,H' b = none := fun {s' H'} I' =>
    ⟨T.keep _ _ _ t7 fun b hb o e => (I'.pin (b,o) (AJ _ (AJ _ (cq hb e)))).1,fun b hb => by
     obtain ⟨o,e,d⟩ := T.obj _ _ t7 b hb
     exact (I'.pin (b,o) (AJ _ (AJ _ (cq hb e)))).2.1⟩
   cases ok with
   | true =>
    refine bv (he _ _ _ _ _ s9 _ H9 _ I9 h9) fun yv s10 ⟨y,H10,I10,r10,hD10,m',hm,w10⟩ => ?_
    refine bv (bE _ s10 _ H10 (.ref s2.heap.objs.size) [y] (.ref s2.heap.objs.size) [yv] (fun _ H' => H' = aq H10 s2.heap.objs.size (.lst (zs ++ [y]))) I10 rfl (.cons r10 .nil) ⟨_,zs,y,rfl,rfl,hD10,hz,rfl⟩) fun _ s11 ⟨_,H11,I11,_,e11⟩ => ?_
    subst e11
    exact ⟨m',hm,i + 1,zs ++ [y],some x,_,I11.unpinned,(frame I11).1,(frame I11).2,w10⟩
   | false =>
    obtain ⟨m',hm,w10⟩ := h9
    exact ⟨m',hm,i + 1,zs,some x,_,I9.unpinned,(frame I9).1,(frame I9).2,w10⟩
 subst hs3
 exact codeAny_compStart_list loop (T.self _ 0 _ _ _ t0 loop)
end
theorem uq {X : Cx} {K : A0} (h : X.K = K) : eX X (compareOp .In) (xq K false) := by
 subst h
 exact iL
theorem kJ {X : Cx} (hu : X.A.units < cLine) : eX X (compareOp .Eq) (fun x y H Q => ∃ a b zs,x = .ref a /\ y = .ref b /\ bc X.K H a zs /\ bc X.K H b [] /\ Q (.bl zs.isEmpty) H) := by
 intro pins s σ H x y v u Q I rx ry h
 obtain ⟨a,b,zs,rfl,rfl,h1,h2,hq⟩ := h
 cases rx
 cases ry
 obtain ⟨i1,r1,p1,_⟩ := I.list h1
 obtain ⟨i2,r2,p2,_⟩ := I.list h2
 cases r2
 cases zs with
 | nil =>
  cases r1
  refine SeqAt.eq_listAt (e := fun _ => true) p1.isList p2.isList rfl hu (fun j g1 g2 => absurd g1 (by simp)) ?_
  exact ⟨.bl true,H,I,by show Value.bool _ = Value.bool _; simp,hq⟩
 | cons z zs =>
  cases r1 with
  | cons r rr =>
   refine SeqAt.eq_list_lengthsAt p1.isList p2.isList (by simp) hu ?_
   exact ⟨.bl false,H,I,rfl,hq⟩
theorem kK {a : Addr} {o : Obj} {kvs : List (Key × V)} {js : List Nat} {tc : TT} {σ : L2.St} {H1 : Hp} {Q : VK} (pr : Key -> Bool) (hf : H1 a = some (.frz o (.dK kvs))) (hz : kvs.length <= sizeLine)
  (step : ∀ (i : Nat) (k : Key) (x : V),kvs[i]? = some (k,x) -> ∀ H3,ay H1 H3 -> ∀ R : Bool -> Hp -> Prop,R (pr k) H3 -> tc (some (kV k) :: bP js σ) H3 R)
  (fin : ∀ p H',ay H1 H' -> H' p = some (.lst ((kvs.filter fun e => pr e.1).map fun e => kV e.1)) -> Q (.ref p) H') : lT js tc (qy 0) σ Q (uA a o kvs) H1 := by
 intro p hp
 refine ⟨fun i m ys H2 => i <= kvs.length /\ m = kvs.length - i /\ ys = ((kvs.take i).filter fun e => pr e.1).map (fun e => kV e.1) /\ ay H1 H2 /\ H2 p = some (.lst ys),⟨kvs.length,Af _,rfl,rfl,Sw.ak hp _,ac⟩,?_⟩
 rintro i m ys H2 ⟨hi,rfl,rfl,g,e⟩
 refine ⟨e,?_⟩
 have f2 := g _ _ hf
 by_cases hin : i < kvs.length
 ·refine .inr ⟨⟨f2,hin⟩,?_,fun x H3 hy => ?_⟩
  ·have := B8 (fun e : Key × V => pr e.1) (kvs.take i)
   rw [A2]
   rw [Av] at this
   omega
  obtain ⟨rfl,k,v,hk,rfl⟩ := hy
  have tk : ((kvs.take (i + 1)).filter fun e => pr e.1) = ((kvs.take i).filter fun e => pr e.1) ++ (if pr k = true then [(k,v)] else []) := by
   rw [List.take_succ,hk,List.filter_append]
   congr 1
   simp [BI]
  refine step i k v hk H3 g _ ?_
  cases hpr : pr k with
  | true =>
   rw [hpr,if_pos rfl] at tk
   rw [if_pos rfl]
   exact ⟨_,rfl,e,kvs.length - (i + 1),by omega,hin,rfl,by rw [tk,Ab]; rfl,Sw.em g hp _,ac⟩
  | false =>
   rw [hpr,if_neg (by decide),List.append_nil] at tk
   rw [if_neg (by decide)]
   exact ⟨kvs.length - (i + 1),by omega,hin,rfl,by rw [tk],g,e⟩
 ·have e2 : i = kvs.length := by omega
  subst e2
  refine .inl ⟨⟨f2,rfl⟩,fin p H2 g ?_⟩
  rw [e,List.take_of_length_le (A4 _)]
theorem f9 {K : A0} {a : Addr} {xs : List V} {js : List Nat} {tc : TT} {σ : L2.St} {H1 : Hp} {Q : VK} (pr : V -> Bool) (hS : bc K H1 a xs) (hz : xs.length <= sizeLine)
  (step : ∀ x ∈ xs,∀ H3,ay H1 H3 -> ∀ R : Bool -> Hp -> Prop,R (pr x) H3 -> tc (some x :: bP js σ) H3 R)
  (fin : ∀ p H',ay H1 H' -> H' p = some (.lst (xs.filter pr)) -> Q (.ref p) H') : lT js tc (qy 0) σ Q (uy K a) H1 := by
 intro p hp
 refine ⟨fun i m ys H2 => i <= xs.length /\ m = xs.length - i /\ ys = (xs.take i).filter pr /\ ay H1 H2 /\ H2 p = some (.lst ys),⟨xs.length,Af _,rfl,rfl,Sw.ak hp _,ac⟩,?_⟩
 rintro i m ys H2 ⟨hi,rfl,rfl,g,e⟩
 refine ⟨e,?_⟩
 have S2 := g.seq hS
 by_cases hin : i < xs.length
 ·refine .inr ⟨⟨xs,xs[i],S2,AD hin⟩,?_,fun x H3 hy => ?_⟩
  ·have := B8 pr (xs.take i)
   rw [Av] at this
   omega
  obtain ⟨rfl,hx⟩ := hy
  have ex := hx xs S2
  have tk : (xs.take (i + 1)).filter pr = (xs.take i).filter pr ++ (if pr x = true then [x] else []) := by
   rw [List.take_succ,ex,List.filter_append]
   congr 1
   simp [BI]
  refine step x (AB ex) H3 g _ ?_
  cases hpr : pr x with
  | true =>
   rw [hpr,if_pos rfl] at tk
   rw [if_pos rfl]
   exact ⟨_,rfl,e,xs.length - (i + 1),by omega,hin,rfl,by rw [tk],Sw.em g hp _,ac⟩
  | false =>
   rw [hpr,if_neg (by decide),List.append_nil] at tk
   rw [if_neg (by decide)]
   exact ⟨xs.length - (i + 1),by omega,hin,rfl,by rw [tk],g,e⟩
 ·have e2 : i = xs.length := by omega
  subst e2
  refine .inl ⟨⟨xs,S2,A4 _⟩,fin p H2 g ?_⟩
  rw [e,List.take_of_length_le (A4 _)]
end L2
namespace Sw
open PySem L2 PyProof.Rows
theorem iY {α β : Type} {F : α -> β -> Prop} : ∀ {l : List α} {m : List β},Paired F l m -> ∀ {i : Nat} {b : β},m[i]? = some b -> ∃ a,l[i]? = some a /\ F a b
 | _,_,.nil,i,b,h => by simp at h
 | _,_,.cons r t,0,b,h => by simp at h; subst h; exact ⟨_,rfl,r⟩
 | _,_,.cons r t,i + 1,b,h => by
  obtain ⟨a,h1,h2⟩ := iY t (i := i) (by simpa using h)
  exact ⟨a,by simpa using h1,h2⟩
def xK (gs : List Str) : Key -> Bool
 | .inr y => decide (y ∈ gs)
 | _ => false
theorem kL (gs : List Str) : ∀ es : List (Str × Option Str),(((aP es).filter fun e => xK gs e.1).map fun e => kV e.1) = ((aJ es).filter fun y => decide (y ∈ gs)).map V.str
 | [] => rfl
 | (c,o) :: es => by
  have ih := kL gs es
  show ((((.inr c,lX o) :: aP es).filter fun e => xK gs e.1).map fun e => kV e.1) = (((c :: aJ es).filter fun y => decide (y ∈ gs)).map V.str)
  by_cases h : c ∈ gs
  ·rw [List.filter_cons_of_pos (by show decide (c ∈ gs) = true; exact decide_eq_true h),List.filter_cons_of_pos (by exact decide_eq_true h),Ag,Ag,ih]
   rfl
  ·rw [List.filter_cons_of_neg (by show ¬ decide (c ∈ gs) = true; simp [h]),List.filter_cons_of_neg (by simp [h]),ih]
theorem jB (x : Str) (gs : List Str) : tL (.str x) (gs.map V.str) = decide (x ∈ gs) := by
 unfold tL
 rw [BR]
 simp [qK]
theorem eC (gs : List Str) : (gs.map V.str).all eZ = true := by
 rw [BJ]
 intro x hx
 obtain ⟨y,_,rfl⟩ := AF.mp hx
 rfl
end Sw
namespace L2
open PySem PySem.Spec PyProof.Rows XH Sw So
theorem mZ : ∀ {acc : List Value} {ks : List Str},acc.length = ks.length -> (∀ (j : Nat) (v : Value),acc[j]? = some v -> ∃ y t,ks[j]? = some y /\ v = .str y t) -> StrsAre acc ks
 | [],[],_,_ => .nil
 | v :: acc,k :: ks,hl,h => by
  obtain ⟨y,t,e,rfl⟩ := h 0 v rfl
  simp at e
  subst e
  exact .cons _ _ (mZ (by simpa using hl) fun j u hu => h (j + 1) u (by simpa using hu))
 | [],_ :: _,hl,_ => by simp at hl
 | _ :: _,[],hl,_ => by simp at hl
theorem fz : ∀ {us : List Value} {ks : List Str},StrsAre us ks -> aR (ks.map V.str) us
 | _,_,.nil => .nil
 | _,_,.cons y t h => .cons ⟨t,rfl⟩ (fz h)
theorem kM {prog : Program} {w : World} {A : Around} {E : Value -> Shared -> Prop} {s : Shared} {T : String} {r d : Addr} {n : Nat} {P : Nat -> Value -> Prop} {OK : Heap -> Prop} {R : List Value -> Shared -> Prop} (K : PySem.W.KdlSrc prog w T r d n P OK) (hh : A.handled = none) (hok : OK s.heap) (hn : n <= sizeLine)
  (h : ∀ (h' : Heap) (tk : Nat) (acc : Array Value),s.heap.objs.size < h'.objs.size -> (∀ b o,s.heap.get? b = some o -> h'.get? b = some o) -> PySem.ItemsOf P acc n -> R acc.toList { s with heap := h',toks := tk }) :
  wpAny (model prog w) A (collect (.ref r)) R E s := by
 have hlt := K.there _ hok
 unfold collect
 refine wpAny_bind (wpAny_runValue (codeAny_builtin entry_proto_collect' ?_))
 rw [Around.under_plainId PySem.F.plain_proto_collect _]
 show wpAny _ A.in1 (newList [] >>= fun l => again (.builtin "list.__iadd__" ⟨[l,.ref r],[]⟩)) _ _ s
 refine wpAny_bind (wpAny_newObj_type (wpAny_pure ⟨plainId_quiet PySem.F.plain_list_iadd _,codeAny_builtin entry_list_iadd' ?_⟩))
 rw [Around.under_plainId PySem.F.plain_list_iadd _]
 have fresh : (s.heap.push { cls := .type "list",data := .seq ([] : List Value).toArray }).get? s.heap.objs.size = some { cls := .type "list",data := .seq #[] } := Heap.get?_push_size _ rfl
 show wpAny _ A.in1 (Builtin.List.listExtendWith (.ref s.heap.objs.size) (.ref r) (.ref s.heap.objs.size)) _ _ _
 have key := PySem.W.kdl_extend (A := A) (s := { s with heap := s.heap.push { cls := .type "list",data := .seq ([] : List Value).toArray } })
  (R := fun (q : Result) (s' : Shared) => ∃ (h' : Heap) (tk : Nat) (acc : Array Value) (c : Nat),q = .ok (.ret (.ref s.heap.objs.size)) /\ s' = { s with heap := h',toks := tk } /\ (∀ b o,s.heap.get? b = some o -> h'.get? b = some o) /\ h'.get? s.heap.objs.size = some { cls := .type "list",dict := none,data := .seq acc c,slots := #[] } /\ PySem.ItemsOf P acc n)
  K hh (K.keep _ _ hok fun b _ o e => Heap.get?_push_of_some _ e) s.heap.objs.size (Nat.ne_of_gt hlt.1) (Nat.ne_of_gt hlt.2) (.ref s.heap.objs.size) 0 fresh
  (fun h' tk acc c hk hS ha => ⟨h',tk,acc,c,rfl,rfl,fun b o e => hk b o (AH (Heap.lt_size e)) (Heap.get?_push_of_some _ e),hS,ha⟩) hn
 have fin : ∀ {h' : Heap} {tk c : Nat} {acc : Array Value},(∀ b o,s.heap.get? b = some o -> h'.get? b = some o) -> h'.get? s.heap.objs.size = some { cls := .type "list",dict := none,data := .seq acc c,slots := #[] } -> PySem.ItemsOf P acc n -> R acc.toList { s with heap := h',toks := tk } :=
  fun {h' tk c acc} hk hS ha => h h' tk acc (Heap.lt_size hS) hk ha
 refine wpAny_mono key (fun f s' x => ?_) fun e s' x => ?_
 ·cases f with
  | done f =>
   obtain ⟨h',tk,acc,c,e,rfl,hk,hS,ha⟩ := x
   cases e
   show wpAny _ A (load s.heap.objs.size >>= _) _ _ _
   exact wpAny_bind (wpAny_load hS (wpAny_pure (fin hk hS ha)))
  | again c₁ =>
   refine ⟨x.1,codeAny_mono x.2 fun q s₂ y => ?_⟩
   obtain ⟨h',tk,acc,c,rfl,rfl,hk,hS,ha⟩ := y
   show wpAny _ A (load s.heap.objs.size >>= _) _ _ _
   exact wpAny_bind (wpAny_load hS (wpAny_pure (fin hk hS ha)))
 ·obtain ⟨_,_,_,_,e',_⟩ := x
  cases e'
end L2
namespace So
open PySem PySem.Spec PyProof.Rows
def n9 (x y : Str) : Prop := ¬ (y.cps.toList < x.cps.toList)
theorem og {x y z : Str} (h1 : n9 x y) (h2 : n9 y z) : n9 x z := fun h => by
 unfold n9 at h1 h2
 exact h1 (List.lt_of_le_of_lt (List.not_lt.mp h2) h)
theorem kN {x y : Str} (h1 : n9 x y) (h2 : n9 y x) : x = y := by
 have e := List.le_antisymm (List.not_lt.mp h1) (List.not_lt.mp h2)
 cases x; cases y
 congr 1
 exact Array.toList_inj.mp e
theorem iZ : ∀ (r : List Str) (x : Str),risingS x r = true -> (x :: r).Pairwise n9
 | [],x,_ => by simp
 | y :: r,x,h => by
  unfold risingS at h
  have h' : ltCps y.cps.toList x.cps.toList = false /\ risingS y r = true := by
   simpa [Bool.and_eq_true] using h
  have ih := iZ r y h'.2
  have xy : n9 x y := by
   have := h'.1
   rw [ltCps_eq] at this
   exact of_decide_eq_false this
  refine List.pairwise_cons.mpr ⟨fun z hz => ?_,ih⟩
  rcases A8.mp hz with e | e
  ·rw [e]; exact xy
  ·exact og xy ((List.pairwise_cons.mp ih).1 z e)
theorem oh {l : List Str} (h : sortedS l = true) : l.Pairwise n9 := by
 cases l with
 | nil => simp
 | cons x r => exact iZ r x h
end So
namespace Sw
open PySem L2 PyProof.Rows So
theorem oj (ks : List Str) (v : V) : (aN ks v).map (·.1) = ks.map (fun y => (.inr y : Key)) := by
 unfold aN
 rw [Aq]
 rfl
theorem kO (es : List (Str × Option Str)) : (aP es).map (·.1) = (aJ es).map (fun y => (.inr y : Key)) := by
 unfold aP aJ
 rw [Aq,Aq]
 rfl
theorem a9.free {H : Hp} {p : Addr} (hn : H p = none) : ∀ {rows : List (Str × List Str)} {rs : List Addr},a9 H rows rs -> p ∉ rs
 | [],[],_ => by simp
 | _ :: _,r :: _,h => fun m => by
  rcases A8.mp m with e | e
  ·have := h.1
   rw [<- e,hn] at this
   cases this
  ·exact a9.free hn h.2 e
 | [],_ :: _,h => h.elim
 | _ :: _,[],h => h.elim
theorem cG : ∀ {l m : List Str},l.Nodup -> (∀ y ∈ l,y ∈ m) -> l.length <= m.length
 | [],m,_,_ => by simp
 | x :: l,m,nd,h => by
  obtain ⟨n1,n2⟩ := AN.mp nd
  have hx := h x (by simp)
  have ih := cG (l := l) (m := m.erase x) n2 fun y hy => (List.mem_erase_of_ne (fun e : y = x => n1 (e ▸ hy))).mpr (h y (AR _ hy))
  rw [List.length_erase_of_mem hx] at ih
  have := List.length_pos_of_mem hx
  simp
  omega
theorem jC {ps : List (Str × Str)} {good : Str} {ys : List Str} (nd : ys.Nodup) (h : ∀ y,y ∈ ys ↔ Led ps good y) : ys.length <= ps.length + 1 := by
 have := cG (l := ys) (m := good :: ps.map (·.2)) nd fun y hy => by
  cases (h y).mp hy with
  | self => simp
  | step _ m => exact AR _ (AF.mpr ⟨_,m,rfl⟩)
 simpa using this
theorem DD.put_none {H : Hp} {d pn : Addr} {rows : List (Str × List Str)} {rs : List Addr} {x y : Str} (hn : H pn = none) (dr : a9 H rows rs) (e : H d = some (.dK (cL rows rs))) (nd : rs.Nodup) (dn : d ∉ rs) (hw : aK (cL rows rs) (.inr x) = none) :
  DD (aq (aq (aq H pn (.dK [])) d (.dK (putK (cL rows rs) (.inr x) (.ref pn)))) pn (.dK (putK [] (.inr y) (.bl true)))) d (aO rows x y) := by
 have g3 := ak hn (.dK [])
 obtain ⟨h1,h2,_⟩ := (dr.same g3).at_none (y := y) (p := pn) hw
 have pd : pn ≠ d := fun z => by rw [z,e] at hn; cases hn
 have pr : pn ∉ rs := a9.free hn dr
 refine ⟨rs ++ [pn],?_,?_,?_,?_⟩
 ·rw [h1]
  have eN : (aq (aq (aq H pn (.dK [])) d (.dK (putK (cL rows rs) (.inr x) (.ref pn)))) pn (.dK (putK [] (.inr y) (.bl true)))) pn = some (.dK (aN [y] (.bl true))) := ac
  refine a9.snoc eN ?_
  exact (((dr.same g3).other dn).other pr)
 ·rw [h1,h2,af (Ne.symm pd),ac,d8 _ hw]
 ·rw [B4]
  refine ⟨nd,by simp,?_⟩
  intro u hu v hv
  simp at hv
  subst hv
  exact fun z => pr (z ▸ hu)
 ·simp
  exact ⟨dn,Ne.symm pd⟩
open XH
def KF (F : List Addr) (H H' : Hp) : Prop := ∀ a o,a ∉ F -> H a = some o -> H' a = some o
theorem KF.refl {F : List Addr} {H : Hp} : KF F H H := fun _ _ _ e => e
theorem KF.trans {F : List Addr} {H H' H'' : Hp} (h : KF F H H') (k : KF F H' H'') : KF F H H'' := fun a o n e => k a o n (h a o n e)
theorem KF.of {F : List Addr} {H H' : Hp} (h : ay H H') : KF F H H' := fun a o _ e => h a o e
theorem KF.put {F : List Addr} {H : Hp} {a : Addr} (o : HO) (h : a ∈ F) : KF F H (aq H a o) := fun b ob n e => by
 have q : b ≠ a := fun z => n (by rw [z]; exact h)
 rw [af q]; exact e
def FG (F F' : List Addr) (H : Hp) : Prop := ∀ a ∈ F',a ∈ F ∨ H a = none
theorem FG.refl {F : List Addr} {H : Hp} : FG F F H := fun _ h => .inl h
structure LA (C : Addr) (F : List Addr) (H : Hp) (x : Addr) (rows : List (Str × List Str)) (ns : List Str) : Prop where
 ex : ∃ (dx p n : Addr) (fs : List (Str × V)) (rs : List Addr),H x = some (.ins C dx fs) /\ fs.lookup ("parts" : Str) = some (.ref p) /\ fs.lookup ("names" : Str) = some (.ref n) /\ a9 H rows rs /\ H p = some (.dK (cL rows rs)) /\ H n = some (.dK (aN ns (.bl true))) /\
  F = p :: n :: rs /\ F.Nodup /\ ∀ m : Str,m ∈ [("part" : Str),"learn","known","held"] -> fs.lookup m = none
theorem LA.same {C : Addr} {F : List Addr} {H H' : Hp} {x : Addr} {rows : List (Str × List Str)} {ns : List Str} (h : LA C F H x rows ns) (g : ay H H') : LA C F H' x rows ns := by
 obtain ⟨dx,p,n,fs,rs,a,b,c,d,e,f,i,j,k⟩ := h.ex
 exact ⟨dx,p,n,fs,rs,g _ _ a,b,c,d.same g,g _ _ e,g _ _ f,i,j,k⟩
theorem a9.dict {H : Hp} {a : Addr} : ∀ {rows : List (Str × List Str)} {rs : List Addr},a9 H rows rs -> a ∈ rs -> ∃ kv,H a = some (.dK kv)
 | [],[],_,h => by simp at h
 | _ :: _,r :: _,h,m => by
  rcases A8.mp m with e | e
  ·subst e; exact ⟨_,h.1⟩
  ·exact a9.dict h.2 e
 | [],_ :: _,h,_ => h.elim
 | _ :: _,[],h,_ => h.elim
theorem LA.dict {C : Addr} {F : List Addr} {H : Hp} {x : Addr} {rows : List (Str × List Str)} {ns : List Str} (h : LA C F H x rows ns) {a : Addr} (m : a ∈ F) : ∃ kv,H a = some (.dK kv) := by
 obtain ⟨dx,p,n,fs,rs,_,_,_,d,e,f,i,_,_⟩ := h.ex
 subst i
 rcases A8.mp m with e' | m
 ·subst e'; exact ⟨_,e⟩
 rcases A8.mp m with e' | m
 ·subst e'; exact ⟨_,f⟩
 exact d.dict m
theorem LA.not {C : Addr} {F : List Addr} {H : Hp} {x : Addr} {rows : List (Str × List Str)} {ns : List Str} (h : LA C F H x rows ns) {a : Addr} {o : HO} (e : H a = some o) (k : ∀ kv,o ≠ .dK kv) : a ∉ F := fun m => by
 obtain ⟨kv,e'⟩ := h.dict m
 rw [e] at e'
 exact k kv (AZ e')
theorem LA.free {C : Addr} {F : List Addr} {H : Hp} {x : Addr} {rows : List (Str × List Str)} {ns : List Str} (h : LA C F H x rows ns) {a : Addr} (e : H a = none) : a ∉ F := fun m => by
 obtain ⟨kv,e'⟩ := h.dict m
 rw [e] at e'; cases e'
theorem LA.dd {C : Addr} {F : List Addr} {H : Hp} {x : Addr} {rows : List (Str × List Str)} {ns : List Str} (h : LA C F H x rows ns) : ∃ (dx p n : Addr) (fs : List (Str × V)),H x = some (.ins C dx fs) /\ fs.lookup ("parts" : Str) = some (.ref p) /\ fs.lookup ("names" : Str) = some (.ref n) /\ DD H p rows /\ H n = some (.dK (aN ns (.bl true))) /\ p ∈ F /\ n ∈ F /\ ∀ m : Str,m ∈ [("part" : Str),"learn","known","held"] -> fs.lookup m = none := by
 obtain ⟨dx,p,n,fs,rs,a,b,c,d,e,f,i,j,k⟩ := h.ex
 subst i
 have j1 := AN.mp j
 have j2 := AN.mp j1.2
 exact ⟨dx,p,n,fs,a,b,c,⟨rs,d,e,j2.2,fun z => j1.1 (AR _ z)⟩,f,by simp,by simp,k⟩
theorem LA.learn {C : Addr} {F : List Addr} {H : Hp} {x n dx : Addr} {fs : List (Str × V)} {rows : List (Str × List Str)} {ns ms : List Str} (h : LA C F H x rows ns) (ex : H x = some (.ins C dx fs)) (en : fs.lookup ("names" : Str) = some (.ref n)) : LA C F (aq H n (.dK (aN ms (.bl true)))) x rows ms /\ KF F H (aq H n (.dK (aN ms (.bl true)))) /\ n ∈ F := by
 obtain ⟨dx',p,n',fs',rs,a,b,c,d,e,f,i,j,k⟩ := h.ex
 rw [a] at ex; cases ex
 rw [c] at en; cases en
 subst i
 have j1 := AN.mp j
 have j2 := AN.mp j1.2
 have pn : p ≠ n := fun z => j1.1 (by simp [z])
 have xn : x ≠ n := fun z => by rw [z,f] at a; cases a
 exact ⟨⟨dx,p,n,fs,rs,by rw [af xn]; exact a,b,c,d.other j2.1,by rw [af pn]; exact e,ac,rfl,j,k⟩,KF.put _ (by simp),by simp⟩
theorem LA.put_some {C : Addr} {F : List Addr} {H : Hp} {x p dx : Addr} {fs : List (Str × V)} {rows : List (Str × List Str)} {ns : List Str} {g y : Str} {kvs : List (Key × V)} (h : LA C F H x rows ns) (ex : H x = some (.ins C dx fs)) (ep : fs.lookup ("parts" : Str) = some (.ref p)) (e1 : H p = some (.dK kvs)) {w : V} (hw : aK kvs (.inr g) = some w) :
  ∃ r ys,w = .ref r /\ (g,ys) ∈ rows /\ H r = some (.dK (aN ys (.bl true))) /\ LA C F (aq H r (.dK (aN (bI ys y) (.bl true)))) x (aO rows g y) ns /\ KF F H (aq H r (.dK (aN (bI ys y) (.bl true)))) := by
 obtain ⟨dx',p',n,fs',rs,a,b,c,d,e,f,i,j,k⟩ := h.ex
 rw [a] at ex; cases ex
 rw [b] at ep; cases ep
 rw [e] at e1; cases e1
 subst i
 have j1 := AN.mp j
 have j2 := AN.mp j1.2
 obtain ⟨r,ys,rfl,hr,hm,hH,hD,hT⟩ := d.at_some (y := y) j2.2 hw
 have pr : p ≠ r := fun z => j1.1 (by rw [z]; exact AR _ hr)
 have nr : n ≠ r := fun z => j2.1 (by rw [z]; exact hr)
 have xr : x ≠ r := fun z => by rw [z,hH] at a; cases a
 exact ⟨r,ys,rfl,hm,hH,⟨dx,p,n,fs,rs,by rw [af xr]; exact a,b,c,hD,by rw [af pr,hT]; exact e,by rw [af nr]; exact f,rfl,j,k⟩,KF.put _ (by simp [hr])⟩
theorem LA.put_none {C : Addr} {F : List Addr} {H : Hp} {x p dx pn : Addr} {fs : List (Str × V)} {rows : List (Str × List Str)} {ns : List Str} {g y : Str} {kvs : List (Key × V)} (h : LA C F H x rows ns) (ex : H x = some (.ins C dx fs)) (ep : fs.lookup ("parts" : Str) = some (.ref p)) (e1 : H p = some (.dK kvs)) (hn : H pn = none) (hw : aK kvs (.inr g) = none) :
  LA C (F ++ [pn]) (aq (aq (aq H pn (.dK [])) p (.dK (putK kvs (.inr g) (.ref pn)))) pn (.dK (putK [] (.inr y) (.bl true)))) x (aO rows g y) ns /\ KF F H (aq (aq (aq H pn (.dK [])) p (.dK (putK kvs (.inr g) (.ref pn)))) pn (.dK (putK [] (.inr y) (.bl true)))) := by
 have hf := h.free hn
 obtain ⟨dx',p',n,fs',rs,a,b,c,d,e,f,i,j,k⟩ := h.ex
 rw [a] at ex; cases ex
 rw [b] at ep; cases ep
 rw [e] at e1; cases e1
 subst i
 have j1 := AN.mp j
 have j2 := AN.mp j1.2
 have pr : p ∉ rs := fun z => j1.1 (AR _ z)
 obtain ⟨rs',hD,hP,hN,hd⟩ := (DD.put_none (y := y) hn d e j2.2 pr hw).ex
 have g3 := ak hn (.dK [])
 obtain ⟨h1,h2,_⟩ := (d.same g3).at_none (y := y) (p := pn) hw
 have pp : pn ≠ p := fun z => hf (by simp [z])
 have np : pn ≠ n := fun z => hf (by simp [z])
 have xp : pn ≠ x := fun z => by rw [z,a] at hn; cases hn
 have nr : pn ∉ rs := fun z => hf (by simp [z])
 have nn : n ≠ p := fun z => j1.1 (by simp [z])
 have xx : x ≠ p := fun z => by rw [z,e] at a; cases a
 refine ⟨⟨dx,p,n,fs,rs ++ [pn],?_,b,c,?_,?_,?_,rfl,?_,k⟩,?_⟩
 ·rw [af (Ne.symm xp),af xx,af (Ne.symm xp)]; exact a
 ·rw [h1]
  exact a9.snoc (ys := [y]) ac (((d.same g3).other pr).other nr)
 ·rw [h1,h2,af (Ne.symm pp),ac,d8 _ hw]
 ·rw [af (Ne.symm np),af nn,af (Ne.symm np)]; exact f
 ·show (_ :: _ :: _ ++ [pn]).Nodup
  rw [B4]
  refine ⟨j,by simp,?_⟩
  intro u hu v hv
  simp only [A3] at hv
  subst hv
  exact fun z => hf (z ▸ hu)
 ·exact fun q ob nq eq => by
   have q1 : q ≠ pn := fun z => by rw [z,hn] at eq; cases eq
   rw [af q1,af (fun z => nq (by simp [z])),af q1]; exact eq
def fA (p st b n : V) : List (Str × V) := aA "names" n (aA "bars" b (aA "stands" st (aA "parts" p [])))
theorem jD {p st b n : V} : (fA p st b n).lookup ("parts" : Str) = some p /\ (fA p st b n).lookup ("names" : Str) = some n /\ ∀ m : Str,m ∈ [("part" : Str),"learn","known","held"] -> (fA p st b n).lookup m = none := by
 refine ⟨?_,?_,fun m hm => ?_⟩
 ·unfold fA
  rw [aL,if_neg (by decide),aL,if_neg (by decide),aL,if_neg (by decide),aL,if_pos rfl]
 ·unfold fA
  rw [aL,if_pos rfl]
 ·simp only [A8,Au,or_false] at hm
  unfold fA
  rcases hm with rfl | rfl | rfl | rfl <;> (rw [aL,if_neg (by decide),aL,if_neg (by decide),aL,if_neg (by decide),aL,if_neg (by decide)]; rfl)
def iz (x : Addr) (H H' : Hp) : Prop := ∀ a o,a ≠ x -> H a = some o -> H' a = some o
theorem iz.trans {x : Addr} {H H' H'' : Hp} (h : iz x H H') (k : iz x H' H'') : iz x H H'' := fun a o n e => k a o n (h a o n e)
theorem iz.step {x d : Addr} {H : Hp} {o : HO} (o0 : HO) (nd : H d = none) : iz x H (aq (aq H d o0) x o) := fun a ob n e => by
 rw [af n,af (fun z => by rw [z,nd] at e; cases e)]
 exact e
def fB (C : Addr) : Sp := fun vs H Q _ => ∃ (x l : Addr) (F : List Addr) (rows : List (Str × List Str)) (ns xs : List Str),vs = [.ref x,.ref l] /\ LA C F H x rows ns /\ H l = some (.lst (xs.map V.str)) /\ ns.length + xs.length <= 80 /\ ns.Nodup /\
 ∀ (H' : Hp) (ms : List Str),KF F H H' -> LA C F H' x rows ms -> ms.Nodup -> (∀ y,y ∈ ms ↔ y ∈ ns ∨ y ∈ xs) -> Q .non H'
def gw (K : A0) (C cN cI : Addr) : Sp := fun vs H Q E => ∃ (x : Addr) (g o : V) (F : List Addr) (rows : List (Str × List Str)) (ns : List Str) (ps : List (Str × Str)),vs = [.ref x,g,o] /\ LA C F H x rows ns /\ bJ rows ps /\ ps.length <= 900 /\ ns.Nodup /\ ns.length <= 78 /\ (gk g ∨ c7 K H g) /\ (gk o ∨ c7 K H o) /\
 (¬ (gk g /\ gk o) -> ∀ H',ay H H' -> E (.ref cN) none H') /\
 ∀ zg zo,g = .str zg -> o = .str zo -> Nm zg -> Nm zo ->
  (Led ps zo zg -> ∀ d l H' c,ay H H' -> H' l = some (.lst ((zg :: List.dropLast c).map V.str)) -> H' d = some (.xd [("ring",.ref l)]) -> Way ps zo zg c -> E (.ref cI) (some d) H') /\
  (¬ Led ps zo zg -> ∀ F' H' ms,KF F H H' -> FG F F' H -> LA C F' H' x (aO rows zg zo) ms -> ms.Nodup -> (∀ y,y ∈ ms ↔ y ∈ ns ∨ y = zg ∨ y = zo) -> Q .non H')
def eu (ns xs : List Str) : List Str := xs.foldl bI ns
theorem i3 {z : Str} : ∀ {xs ns : List Str},z ∈ eu ns xs ↔ z ∈ ns ∨ z ∈ xs
 | [],_ => by simp [eu]
 | x :: xs,ns => by
  show z ∈ eu (bI ns x) xs ↔ _
  rw [i3,bW,A8]
  exact or_assoc
theorem gb : ∀ {xs ns : List Str},ns.Nodup -> (eu ns xs).Nodup
 | [],_,h => h
 | _ :: xs,_,h => gb (xs := xs) (cX h)
theorem lZ (ns xs : List Str) (y : Str) : eu ns (xs ++ [y]) = bI (eu ns xs) y := by
 unfold eu
 rw [List.foldl_append]
 rfl
theorem i4 : ∀ (xs ns : List Str),(eu ns xs).length <= ns.length + xs.length
 | [],_ => A4 _
 | x :: xs,ns => by
  have h := i4 xs (bI ns x)
  have := (cE ns x).2.2
  show (eu (bI ns x) xs).length <= _
  simp only [Ac]
  omega
end Sw
namespace L2
open PySem PySem.Spec PyProof.Rows
end L2
namespace Sw
open PySem L2 XH
theorem pZ {p q n : Int} (f : Fr p q n 1) : p = n /\ q = 1 := by
 have h2 := f.bb
 have h3 := f.pos
 have h4 := f.same
 simp only [Int.natAbs_one] at h2
 have e : q = 1 := by omega
 subst e
 rw [Int.mul_one,Int.mul_one] at h4
 exact ⟨h4,rfl⟩
theorem rF {p q c d : Int} (h : p * d = c * q) (d0 : 0 < d) (q0 : 0 < q) (z : 0 < c) : 0 < p := by
 have k := Int.mul_pos z q0
 rw [<- h] at k
 exact Int.pos_of_mul_pos_left k d0
end Sw
namespace L2
open PySem PySem.Spec PyProof.Rows
theorem rG {X : Cx} (hu : X.A.units < cLine) : eX X (compareOp .NotEq) (fun x y H Q => ∃ a b p q,x = .ref a /\ y = .ref b /\ cQ X.K H a [.int p,.int q] /\ cQ X.K H b [.int p,.int q] /\ Q (.bl false) H) := by
 intro pins s σ H x y v u Q I rx ry h
 obtain ⟨a,b,p,q,rfl,rfl,h1,h2,hq⟩ := h
 cases rx
 cases ry
 obtain ⟨i1,r1,p1,_⟩ := I.tuple h1
 obtain ⟨i2,r2,p2,_⟩ := I.tuple h2
 obtain ⟨w1,w2,rfl,⟨t1,rfl⟩,⟨t2,rfl⟩⟩ := vals2 r1
 obtain ⟨w3,w4,rfl,⟨t3,rfl⟩,⟨t4,rfl⟩⟩ := vals2 r2
 refine SeqAt.RcNeAt.tuples (e := fun _ => true) p1 p2 hu ?_ _ _ _ _ ⟨.bl false,H,I,rfl,hq⟩
 intro j hj1 hj2
 match j,hj1,hj2 with
 | 0,_,_ =>
  have z := SeqAt.EqAt.int_int (A := X.A.in1) (s := s) p t1 p t3
  rw [beq_self_eq_true] at z
  exact z
 | 1,_,_ =>
  have z := SeqAt.EqAt.int_int (A := X.A.in1) (s := s) q t2 q t4
  rw [beq_self_eq_true] at z
  exact z
end L2
namespace Sw
open PySem L2 XH
end Sw
namespace So
open PySem PyProof.Rows
section
variable {prog : Program} {w : World} {A : Around} {E : Value -> Shared -> Prop} {s : Shared} {κ : KeyKind} {kd : SortKind}
end
end So
namespace L2
open PySem PySem.Spec PyProof.Rows XH Sw So
section
variable {prog : Program} {w : World} {A : Around} {E : Value -> Shared -> Prop} {s : Shared}
end
end L2
namespace Sw
open PySem L2 XH PyProof.Rows
end Sw
namespace L2
open PySem PySem.Spec PyProof.Rows XH Sw
end L2
namespace Sw
open PySem L2 XH PyProof.Rows
end Sw
namespace L2
open PySem PySem.Spec PyProof.Rows XH Sw
theorem rH {X : Cx} {e : Expr} {ta : TE} {f : Str} {pos : Pos} {K : A0} (hK : X.K = K) (he : PE X e ta) (hb : attributeBase e f X.env (eval e X.env) = eval e X.env) : PE X (.Attribute e f pos) (uQ K ta f) := by
 subst hK
 exact cf he hb
section
variable {X : Cx} {es es' : List Expr} {t t' : TA} {p : Pos} 
end
section
variable {X : Cx} {k j : Nat} {f C : Addr} {ps : List Str} {sp : Sp} {dvs : List V} {x m : Str} {p pos apos : Pos} {e o : Expr} {es : List Expr} {ta tb : TE} {t : TA} {E : L2.St -> XK}
theorem jE {pl : Sem Bool} {K : A0} (hK : X.K = K) (D : dw X.prog X.w X.K X.mg X.base (cB X.prog X.w) k f ps dvs sp) (hr : bH j X.A) (hk : k <= j) (he : PE (X.wish (XS X E)) o ta) (ha : PA (X.wish (XS X E)) (e :: es) t)
  (hst : starEach (e :: es) X.env = (false,eval e X.env) :: starEach es X.env := by rfl) (hpl : (backTo pos (starEach es X.env)).any (·.1) = false := by rfl)
  (ht : eval (.Call (.Attribute o m apos) (e :: es) [] pos) X.env = (do
   let ov <- eval o X.env
   standAt apos.atName
   let (f,first) <- holding [ov] (getMethod ov m pl)
   callWith pos f first (backTo pos (starEach (e :: es) X.env)) (backToKw pos (keywordEach [] X.env))) := by rfl) :
  PE (X.wish (XS X E)) (.Call (.Attribute o m apos) (e :: es) [] pos) (jy K m f sp [] E ta t) := by
 subst hK
 exact pO (X := X.wish (XS X E)) D hr hk cp he ha hst hpl ht
end
section
variable {X : Cx} {pins : List (Addr × Obj)} {σ : St} {H : Hp} {s : Shared}
end
section
variable {prog : Program} {w : World} {A : Around} {E : Value -> Shared -> Prop} {s : Shared}
end
section
variable {prog : Program} {w : World} {A : Around} {R : Result -> Shared -> Prop} {I : Addr} {fp wr : List Addr} {G : Array GenState -> Array GenState -> Prop} {n : Nat} {P : Nat -> Value -> Prop} {St : Nat -> Shared -> Prop}
end
section
variable {prog : Program} {w : World} {A : Around} {E : Value -> Shared -> Prop} {s : Shared}
end
section
variable {prog : Program} {w : World} {A : Around} {E : Value -> Shared -> Prop} {s : Shared}
end
section
variable {prog : Program} {w : World} {A : Around} {E : Value -> Shared -> Prop} {s : Shared}
end
section
variable {prog : Program} {w : World} {A : Around} {E : Value -> Shared -> Prop} {s : Shared}
end
section
variable {prog : Program} {w : World} {A : Around} {E : Value -> Shared -> Prop} {s : Shared}
end
open So
section
variable {prog : Program} {w : World} {A : Around} {E : Value -> Shared -> Prop} {s : Shared}
end
section
variable {X : Cx} {e : Expr} {te : TE} {p1 p2 pos pos2 : Pos}
end
end L2
namespace Sw
open PySem L2 XH PyProof.Rows
def Lt (z : Str) : Prop := ∀ c ∈ sL z,97 <= c /\ c <= 122
theorem Lt.app {x y : Str} (h : Lt x) (k : Lt y) : Lt (x ++ y) := fun c hc => by
 rw [ug] at hc
 rcases AY.mp hc with q | q
 ·exact h c q
 ·exact k c q
theorem Lt.cut {x : Str} (h : Lt x) (lo hi : Option Int) : Lt (cO x lo hi) := fun c hc => by
 have hc' : c ∈ ((sL x).drop (HT.c6 x.length 0 lo)).take (HT.c6 x.length x.length hi - HT.c6 x.length 0 lo) := by simpa [sL,cO] using hc
 exact h c (List.mem_of_mem_drop (List.mem_of_mem_take hc'))
theorem Lt.nil : Lt "" := fun c hc => by
 have : c ∈ ([] : List Nat) := hc
 simp at this
theorem p4 {i : Int} (h0 : 0 <= i) (h : i < 26) : ∃ c,eO cY.cps.toList i = some c /\ 97 <= c /\ c <= 122 := by
 obtain ⟨c,hc⟩ := mY h0 h
 refine ⟨c,hc,?_⟩
 have hm : c ∈ cY.cps.toList := by
  unfold eO at hc
  obtain ⟨j,_,hj⟩ := Ax.mp hc
  exact AB hj
 have e : cY.cps.toList = (List.range 26).map (97 + ·) := by decide
 rw [e] at hm
 obtain ⟨k,hk,rfl⟩ := AF.mp hm
 have := List.mem_range.mp hk
 omega
theorem Lt.one {c : Nat} (h : 97 <= c /\ c <= 122) : Lt ⟨#[c]⟩ := fun d hd => by
 have : d ∈ [c] := hd
 rw [A3.mp this]
 exact h
theorem fD {x : Str} {i : Int} (h : 0 <= i) : (cO x none (some i)).length = min i.toNat x.length := by
 have e1 : HT.c6 x.length 0 none = 0 := rfl
 have e2 : HT.c6 x.length x.length (some i) = min i.toNat x.length := by
  unfold HT.c6
  simp
  omega
 show ((x.cps.toList.drop _).take _).toArray.size = _
 rw [e1,e2,AK,Av,List.length_drop]
 have : x.cps.toList.length = x.length := by simp [Str.length]
 omega
theorem rJ {x : Str} {i : Int} (h : 0 <= i) : (cO x (some i) none).length = x.length - i.toNat := by
 have e1 : HT.c6 x.length 0 (some i) = min i.toNat x.length := by
  unfold HT.c6
  simp
  omega
 have e2 : HT.c6 x.length x.length none = x.length := rfl
 show ((x.cps.toList.drop _).take _).toArray.size = _
 rw [e1,e2,AK,Av,List.length_drop]
 have : x.cps.toList.length = x.length := by simp [Str.length]
 omega
theorem Lt.nm {z : Str} (h : Lt z) (h1 : 1 <= z.length) (h2 : z.length <= 12) : Nm z := ⟨by rw [jz]; exact h1,by rw [jz]; exact h2,h⟩
theorem fE : ∀ {rows : List (Str × List Str)} {x y : Str},(rows.map (·.1)).Nodup -> g9 rows x y -> aO rows x y = rows
 | [],x,y,_,⟨_,h,_⟩ => by simp at h
 | (c,ys) :: r,x,y,nd,h => by
  have nd' := AN.mp (show (c :: r.map (·.1)).Nodup from nd)
  unfold aO
  by_cases z : c = x
  ·rw [if_pos z]
   rcases bX.mp h with ⟨_,q⟩ | ⟨zs,q,_⟩
   ·have : bI ys y = ys := by unfold bI; rw [if_pos q]
    rw [this]
   ·exact absurd (AF.mpr ⟨_,q,z.symm⟩) nd'.1
  ·rw [if_neg z]
   rcases bX.mp h with ⟨e,_⟩ | q
   ·exact absurd e z
   ·rw [fE nd'.2 q]
end Sw
namespace Hm
open PySem PySem.SeqAt PySem.MeetsSeq
section
variable {prog : Program} {w : World} {A : Around} {E : Value -> Shared -> Prop} {s : Shared}
end
open PySem.MeetsSeq3
def kP : List Str -> List Str -> Bool
 | _,[] => false
 | [],_ :: _ => true
 | x :: xs,y :: ys => if x = y then kP xs ys else decide (x.cps.toList < y.cps.toList)
section
variable {prog : Program} {w : World} {A : Around} {E : Value -> Shared -> Prop} {s : Shared}
end
end Hm
namespace Wo
open PySem Hm So
def qt (x y : Str) : Prop := x.cps.toList < y.cps.toList
instance (x y : Str) : Decidable (qt x y) := inferInstanceAs (Decidable (x.cps.toList < y.cps.toList))
theorem m3 {x : Str} : ¬ qt x x := List.lt_irrefl _
theorem ol {x y z : Str} (h1 : qt x y) (h2 : qt y z) : qt x z := List.lt_trans h1 h2
theorem vf {x y : Str} (h : n9 x y) (n : x ≠ y) : qt x y := by
 refine Classical.byContradiction fun c => n (kN h ?_)
 exact c
theorem cZ (x y : Str) (xs ys : List Str) : kP (x :: xs) (y :: ys) = if x = y then kP xs ys else decide (qt x y) := rfl
theorem m4 : ∀ (c : List Str),kP c c = false
 | [] => rfl
 | x :: c => by rw [cZ,if_pos rfl]; exact m4 c
theorem i5 : ∀ {a b c : List Str},kP a b = true -> kP b c = true -> kP a c = true
 | [],[],c,h,_ => by cases h
 | [],_ :: _,[],_,h => by cases h
 | [],_ :: _,_ :: _,_,_ => rfl
 | _ :: _,[],_,h,_ => by cases h
 | _ :: _,_ :: _,[],_,h => by cases h
 | x :: a,y :: b,z :: c,h1,h2 => by
  rw [cZ] at h1 h2 ⊢
  by_cases e1 : x = y
  ·subst e1
   rw [if_pos rfl] at h1
   by_cases e2 : x = z
   ·subst e2
    rw [if_pos rfl] at h2 ⊢
    exact i5 h1 h2
   ·rw [if_neg e2] at h2 ⊢
    exact h2
  ·rw [if_neg e1] at h1
   have h1 := of_decide_eq_true h1
   by_cases e2 : y = z
   ·subst e2
    rw [if_neg e1]
    exact decide_eq_true h1
   ·rw [if_neg e2] at h2
    have h2 := of_decide_eq_true h2
    have h3 := ol h1 h2
    rw [if_neg (fun e => by subst e; exact m3 h3)]
    exact decide_eq_true h3
theorem m6 : ∀ {a b : List Str},a.length = b.length -> kP a b = true -> ∀ x y,kP (a ++ [x]) (b ++ [y]) = true
 | [],[],_,h,_,_ => by cases h
 | [],_ :: _,e,_,_,_ => by simp at e
 | _ :: _,[],e,_,_,_ => by simp at e
 | u :: a,v :: b,e,h,x,y => by
  rw [List.cons_append,List.cons_append,cZ]
  rw [cZ] at h
  by_cases c : u = v
  ·rw [if_pos c] at h ⊢
   exact m6 (by simpa using e) h x y
  ·rw [if_neg c] at h ⊢
   exact h
theorem kQ : ∀ (c : List Str) {x y : Str},qt x y -> kP (c ++ [x]) (c ++ [y]) = true
 | [],x,y,h => by
  rw [List.nil_append,List.nil_append,cZ,if_neg (fun e => by subst e; exact m3 h)]
  exact decide_eq_true h
 | u :: c,x,y,h => by
  rw [List.cons_append,List.cons_append,cZ,if_pos rfl]
  exact kQ c h
def jF (c d : List Str) : Bool := if c.length ≠ d.length then decide (c.length < d.length) else kP c d
def bN (c d : List Str) : Prop := jF c d = true
theorem cT {c d : List Str} (h : c.length < d.length) : bN c d := by
 unfold bN jF
 rw [if_pos (by omega)]
 exact decide_eq_true h
theorem c5 {c d : List Str} (e : c.length = d.length) (h : kP c d = true) : bN c d := by
 unfold bN jF
 rw [if_neg (by omega)]
 exact h
theorem ez {c d : List Str} (h : bN c d) : c.length < d.length ∨ c.length = d.length /\ kP c d = true := by
 unfold bN jF at h
 by_cases e : c.length = d.length
 ·rw [if_neg (by omega)] at h
  exact .inr ⟨e,h⟩
 ·rw [if_pos e] at h
  exact .inl (of_decide_eq_true h)
theorem bN.le {c d : List Str} (h : bN c d) : c.length <= d.length := by rcases ez h with z | z <;> omega
theorem bN.trans {a b c : List Str} (h1 : bN a b) (h2 : bN b c) : bN a c := by
 rcases ez h1 with z | ⟨e,z⟩
 ·exact cT (by have := h2.le; omega)
 ·rcases ez h2 with y | ⟨f,y⟩
  ·exact cT (by omega)
  ·exact c5 (by omega) (i5 z y)
theorem bN.irr {a : List Str} (h : bN a a) : False := by
 rcases ez h with z | ⟨e,z⟩
 ·omega
 ·rw [m4] at z
  cases z
theorem bN.app {c d : List Str} (h : bN c d) (x y : Str) : bN (c ++ [x]) (d ++ [y]) := by
 rcases ez h with z | ⟨e,z⟩
 ·exact cT (by rw [A6,A6]; simp; exact z)
 ·exact c5 (by rw [A6,A6,e]; rfl) (m6 e z x y)
theorem l8 (c : List Str) {x y : Str} (h : qt x y) : bN (c ++ [x]) (c ++ [y]) := c5 (by rw [A6,A6]; rfl) (kQ c h)
def aM (c : List Str) : Str := c.getLastD ""
theorem bO (c : List Str) (x : Str) : aM (c ++ [x]) = x := by unfold aM; rw [List.getLastD_concat]
structure eA (R : Str -> Str -> Prop) (good : Str) (cs : List (List Str)) (i : Nat) (S : Str -> Prop) : Prop where
 first : cs[0]? = some [good]
 from_ : ∀ (k : Nat) (d : List Str),0 < k -> cs[k]? = some d -> ∃ (j : Nat) (c : List Str) (x : Str),j < k /\ j <= i /\ cs[j]? = some c /\ d = c ++ [x] /\ R (aM c) x /\ (j = i -> S x)
 nd : (cs.map aM).Nodup
 rise : ∀ (k : Nat) (c d : List Str),cs[k]? = some c -> cs[k + 1]? = some d -> bN c d
 shut : ∀ (j : Nat) (c : List Str) (x : Str),j < i -> cs[j]? = some c -> R (aM c) x -> ∃ (k : Nat) (d : List Str),cs[k]? = some d /\ aM d = x /\ ¬ bN (c ++ [x]) d
 now : ∀ (c : List Str) (x : Str),cs[i]? = some c -> S x -> ∃ (k : Nat) (d : List Str),cs[k]? = some d /\ aM d = x /\ ¬ bN (c ++ [x]) d
theorem eA.pair {R : Str -> Str -> Prop} {good : Str} {cs : List (List Str)} {i : Nat} {S : Str -> Prop} (h : eA R good cs i S) : ∀ (n k : Nat) (c d : List Str),cs[k]? = some c -> cs[k + 1 + n]? = some d -> bN c d
 | 0,k,c,d,h1,h2 => h.rise k c d h1 h2
 | n + 1,k,c,d,h1,h2 => by
  have l := (A1.mp h2).1
  have e := AD (show k + 1 + n < cs.length by omega)
  exact (h.pair n k c _ h1 e).trans (h.rise _ _ d e h2)
theorem eA.lt {R : Str -> Str -> Prop} {good : Str} {cs : List (List Str)} {i : Nat} {S : Str -> Prop} (h : eA R good cs i S) {j k : Nat} {c d : List Str} (hj : cs[j]? = some c) (hk : cs[k]? = some d) (l : j < k) : bN c d := by
 obtain ⟨n,rfl⟩ : ∃ n,k = j + 1 + n := ⟨k - j - 1,by omega⟩
 exact h.pair n j c d hj hk
theorem eA.ne {R : Str -> Str -> Prop} {good : Str} {cs : List (List Str)} {i : Nat} {S : Str -> Prop} (h : eA R good cs i S) {k : Nat} {d : List Str} (hk : cs[k]? = some d) : d ≠ [] := by
 rcases Ay k with e | e
 ·subst e
  rw [h.first] at hk
  cases hk
  exact nofun
 ·obtain ⟨j,c,x,_,_,_,rfl,_⟩ := h.from_ k d e hk
  simp
theorem eA.long {R : Str -> Str -> Prop} {good : Str} {cs : List (List Str)} {i : Nat} {S : Str -> Prop} (h : eA R good cs i S) : ∀ (k : Nat) (d : List Str),cs[k]? = some d -> d.length <= k + 1 := by
 intro k
 induction k using Nat.strongRecOn with
 | ind k ih =>
  intro d hk
  rcases Ay k with e | e
  ·subst e
   rw [h.first] at hk
   cases hk
   exact A4 _
  ·obtain ⟨j,c,x,l,_,hj,rfl,_⟩ := h.from_ k d e hk
   have := ih j l c hj
   rw [A6,AL]
   omega
theorem eA.start {R : Str -> Str -> Prop} {good : Str} : eA R good [[good]] 0 (fun _ => False) where
 first := rfl
 from_ := fun k d k0 hk => by
  rw [BA (by simp; omega)] at hk
  cases hk
 nd := by simp
 rise := fun k c d _ h => by
  rw [BA (by simp)] at h
  cases h
 shut := fun j c x hj => absurd hj (Nat.not_lt_zero _)
 now := fun c x _ h => h.elim
theorem eA.seen {R : Str -> Str -> Prop} {good : Str} {cs : List (List Str)} {i : Nat} {S : Str -> Prop} (h : eA R good cs i S) {x : Str} {c : List Str} (hi : cs[i]? = some c) (hx : x ∈ cs.map aM) : eA R good cs i (fun y => S y ∨ y = x) where
 first := h.first
 from_ := fun k d k0 hk => by
  obtain ⟨j,c,y,a1,a2,a3,a4,a5,a6⟩ := h.from_ k d k0 hk
  exact ⟨j,c,y,a1,a2,a3,a4,a5,fun e => .inl (a6 e)⟩
 nd := h.nd
 rise := h.rise
 shut := h.shut
 now := fun c' y hc hy => by
  rcases hy with hy | rfl
  ·exact h.now c' y hc hy
  ·rw [hi] at hc
   cases hc
   obtain ⟨d,hd,e⟩ := AF.mp hx
   obtain ⟨k,hk⟩ := Aa.mp hd
   refine ⟨k,d,hk,e,fun a => ?_⟩
   have c1 := BL.mpr (h.ne hi)
   rcases Ay k with z | z
   ·subst z
    rw [h.first] at hk
    cases hk
    have := a.le
    rw [A6,AL,AL] at this
    omega
   ·obtain ⟨j,b,u,_,ji,hj,rfl,_⟩ := h.from_ k d z hk
    rw [bO] at e
    subst e
    rcases Nat.lt_or_eq_of_le ji with l | rfl
    ·exact (a.trans ((h.lt hj hi l).app u u)).irr
    ·rw [hi] at hj
     cases hj
     exact a.irr
theorem eA.more {R : Str -> Str -> Prop} {good : Str} {cs : List (List Str)} {i : Nat} {S : Str -> Prop} (h : eA R good cs i S) {x : Str} {c : List Str} (hi : cs[i]? = some c) (hx : x ∉ cs.map aM) (r : R (aM c) x) (hS : ∀ y,S y -> y ≠ x -> qt y x) : eA R good (cs ++ [c ++ [x]]) i (fun y => S y ∨ y = x) := by
 have il := (A1.mp hi).1
 have at_ : ∀ {k : Nat} {d : List Str},cs[k]? = some d -> (cs ++ [c ++ [x]])[k]? = some d := fun {k d} e => by
  rw [A5 (A1.mp e).1]
  exact e
 have or_ : ∀ {k : Nat} {d : List Str},(cs ++ [c ++ [x]])[k]? = some d -> cs[k]? = some d ∨ (k = cs.length /\ d = c ++ [x]) := fun {k d} e => by
  rcases Nat.lt_or_ge k cs.length with l | l
  ·rw [A5 l] at e
   exact .inl e
  ·have kl := (A1.mp e).1
   rw [A6,AL] at kl
   have : k = cs.length := by omega
   subst this
   rw [AS (A4 _),Nat.sub_self] at e
   cases e
   exact .inr ⟨rfl,rfl⟩
 have c1 := BL.mpr (h.ne hi)
 refine ⟨at_ h.first,fun k d k0 hk => ?_,?_,fun k b d h1 h2 => ?_,fun j b y hj hb hr => ?_,fun b y hb hy => ?_⟩
 ·rcases or_ hk with hk | ⟨rfl,rfl⟩
  ·obtain ⟨j,b,y,a1,a2,a3,a4,a5,a6⟩ := h.from_ k d k0 hk
   exact ⟨j,b,y,a1,a2,at_ a3,a4,a5,fun e => .inl (a6 e)⟩
  ·exact ⟨i,c,x,il,A4 _,at_ hi,rfl,r,fun _ => .inr rfl⟩
 ·rw [Ab,List.map_singleton,bO,B4]
  refine ⟨h.nd,by simp,fun a ha b hb => ?_⟩
  rw [A3.mp hb]
  intro z
  subst z
  exact hx ha
 ·rcases or_ h2 with h2' | ⟨e,rfl⟩
  ·have kl := (A1.mp h2').1
   rw [A5 (by omega)] at h1
   exact h.rise k b d h1 h2'
  ·rw [A5 (by omega)] at h1
   rcases Ay k with z | z
   ·subst z
    rw [h.first] at h1
    cases h1
    refine cT ?_
    rw [A6,AL,AL]
    omega
   ·obtain ⟨j,b',u,_,ji,hj,rfl,_,hu⟩ := h.from_ k b z h1
    rcases Nat.lt_or_eq_of_le ji with l | rfl
    ·exact (h.lt hj hi l).app u x
    ·rw [hi] at hj
     cases hj
     refine l8 c (hS u (hu rfl) fun z => hx ?_)
     subst z
     exact AF.mpr ⟨_,AB h1,bO _ _⟩
 ·have bl : j < cs.length := by omega
  rw [A5 bl] at hb
  obtain ⟨k,d,a1,a2⟩ := h.shut j b y hj hb hr
  exact ⟨k,d,at_ a1,a2⟩
 ·rw [A5 il,hi] at hb
  cases hb
  rcases hy with hy | rfl
  ·obtain ⟨k,d,a1,a2⟩ := h.now c y hi hy
   exact ⟨k,d,at_ a1,a2⟩
  ·refine ⟨cs.length,c ++ [y],?_,bO _ _,fun a => a.irr⟩
   rw [AS (A4 _),Nat.sub_self]
   rfl
theorem eA.next {R : Str -> Str -> Prop} {good : Str} {cs : List (List Str)} {i : Nat} {S : Str -> Prop} (h : eA R good cs i S) {c : List Str} (hi : cs[i]? = some c) (all : ∀ y,R (aM c) y -> S y) : eA R good cs (i + 1) (fun _ => False) where
 first := h.first
 from_ := fun k d k0 hk => by
  obtain ⟨j,b,y,a1,a2,a3,a4,a5,_⟩ := h.from_ k d k0 hk
  exact ⟨j,b,y,a1,by omega,a3,a4,a5,fun e => absurd e (by omega)⟩
 nd := h.nd
 rise := h.rise
 shut := fun j b x hj hb hr => by
  rcases An.mp hj with l | rfl
  ·exact h.shut j b x l hb hr
  ·rw [hi] at hb
   cases hb
   exact h.now _ x hi (all x hr)
 now := fun _ _ _ z => z.elim
theorem cG : ∀ {l m : List Str},l.Nodup -> (∀ x ∈ l,x ∈ m) -> l.length <= m.length
 | [],m,_,_ => Af _
 | x :: l,m,nd,sub => by
  have hx := sub x Aw
  have nd' := AN.mp nd
  have := cG (m := m.erase x) nd'.2 fun y hy => (List.mem_erase_of_ne (a := y) (b := x) (fun e => nd'.1 (by rw [<- e]; exact hy))).mpr (sub y (AR _ hy))
  rw [List.length_erase_of_mem hx] at this
  have p := List.length_pos_of_mem hx
  rw [Ac]
  omega
theorem eA.few {R : Str -> Str -> Prop} {good : Str} {cs : List (List Str)} {i : Nat} {S : Str -> Prop} (h : eA R good cs i S) {U : List Str} (hU : ∀ x y,R x y -> y ∈ U) : cs.length <= U.length + 1 := by
 have := cG (m := good :: U) h.nd fun x hx => by
  obtain ⟨d,hd,e⟩ := AF.mp hx
  obtain ⟨k,hk⟩ := Aa.mp hd
  rcases Ay k with z | z
  ·subst z
   rw [h.first] at hk
   cases hk
   rw [<- e]
   exact Aw
  ·obtain ⟨j,c,y,_,_,_,rfl,r,_⟩ := h.from_ k d z hk
   rw [bO] at e
   subst e
   exact AR _ (hU _ _ r)
 rw [A2] at this
 exact this
end Wo
namespace L2
open PySem PySem.Spec PyProof.Rows XH
section
variable {prog : Program} {w : World} {A : Around} {E : Value -> Shared -> Prop} {s : Shared}
def rK (h : Heap) (d : Addr) (es : Array DictEntry) (ep : Nat) : Prop := ∃ o,h.get? d = some o /\ o.ExactDict /\ o.data = .dict es ep
theorem p5 {d : Addr} {es : Array DictEntry} {ep : Nat} {Q : Value -> Shared -> Prop} (hd : (d == sysModules) = false) (hm : rK s.heap d es ep)
  (hQ : Q (.ref s.heap.objs.size) { s with heap := s.heap.push { cls := .type "dict_keyiterator",data := .fields #[.ref d,.int 0 0,.int es.size 0,.int ep 0] } }) :
  wpAny (model prog w) A (pyIter (.ref d)) Q E s := by
 obtain ⟨o,ho,hc,hdat⟩ := hm
 have hT : s.TypeIs (.ref d) "dict" := ⟨o,ho,hc.1⟩
 refine wpAny_pyIter_slot hT F.slot_dict_iter (wpAny_call_entry F.slot_dict_iter hT F.entry_dict_iter (wpAny_bind (wpAny_bind (wpAny_notOrdered_dict hT (wpAny_pure ?_)))) (F.args_dict_iter_1 _))
 refine (show wpAny _ _ (Builtin.Dict.showsAll d >>= _) _ _ s from ?_)
 have sh : Builtin.Dict.showsAll d = pure () := by unfold Builtin.Dict.showsAll; rw [hd]; rfl
 rw [sh]
 refine wpAny_bind (wpAny_pure (wpAny_bind (wpAny_dictEntries ho hdat (wpAny_bind (wpAny_dictEpoch ho hdat (wpAny_bind (wpAny_newObj_type (wpAny_pure ⟨_,rfl,"dict_keyiterator",_,⟨_,Heap.get?_push_size _ rfl,rfl⟩,F.slot_dict_keyiterator_next.lookup,?_⟩))))))))
 simpa [rawInt] using hQ
theorem p6 {it d : Addr} {i ep : Nat} {es : Array DictEntry} {Q : Option Value -> Shared -> Prop} (hi : i < es.size) (hit : s.heap.IsKeyIter it d i es.size ep) (hm : rK s.heap d es ep)
  (hQ : ∀ h',h'.IsKeyIter it d (i + 1) es.size ep -> Heap.SameBut it s.heap h' -> Q (some es[i].key) { s with heap := h' }) : wpAny (model prog w) A (pyNext (.ref it)) Q E s := by
 obtain ⟨o,ho,hc,hd⟩ := id hit
 obtain ⟨od,hod,hcd,hdd⟩ := hm
 have ty := hit.typeIs
 unfold pyNext
 refine wpAny_bind (wpAny_attempt (wpAny_callSpecial?_slot (name := Str.ofString "__next__") ty F.slot_dict_keyiterator_next (wpAny_call_entry F.slot_dict_keyiterator_next ty F.entry_dict_keyiterator_next ?_ (F.args_dict_keyiterator_next_1 _))))
 refine wpAny_bind (wpAny_pure (wpAny_bind (wpAny_bind ?_)))
 refine wpAny_bind (wpAny_typeNameOfWhole_keyiter ty (wpAny_pure (wpAny_bind (wpAny_fieldsOf ho hd ?_))))
 have own : Builtin.Dict_items.ownsTuple "dict_keyiterator" = false := by decide
 rw [own]
 refine (show wpAny _ _ (if (Value.ref d == Value.none) = true then _ else _) _ _ s from ?_)
 rw [if_neg (AC : ¬ ((Value.ref d == Value.none) = true))]
 refine wpAny_bind (wpAny_pure (wpAny_bind (wpAny_dictEntries hod hdd ?_)))
 rw [if_neg (by simp)]
 refine wpAny_bind (wpAny_pure (wpAny_bind (wpAny_dictEpoch hod hdd ?_)))
 rw [if_neg (by simp)]
 refine wpAny_pure ?_
 have n0 : ¬ ((i : Int) < 0) := by omega
 simp only [n0,if_false,Int.toNat_natCast,BK hi]
 refine wpAny_bind (wpAny_bind (wpAny_typeNameOfWhole_keyiter ty (wpAny_pure (wpAny_bind (wpAny_isOneOf_keyiter ty ?_)))))
 refine (show wpAny _ _ (setField (.ref it) 1 (rawInt ((i : Int) + 1)) >>= _) _ _ s from wpAny_bind (wpAny_setField ho hd (by simp) ?_))
 have hit' : (s.heap.update it (Obj.mapFields (·.setIfInBounds 1 (rawInt ((i : Int) + 1))))).IsKeyIter it d (i + 1) es.size ep := ⟨_,Heap.get?_update_self _ ho (Obj.isFreed_of_fields (Obj.data_mapFields hd _)),(Obj.cls_mapFields ..).trans hc,by rw [Obj.data_mapFields hd]; simp [rawInt]⟩
 refine wpAny_bind (wpAny_holding (wpAny_bind (wpAny_isOneOf_keyiter (s := { s with heap := s.heap.update it _ }) hit'.typeIs ?_)))
 exact (show wpAny _ _ (pure es[i].key) _ _ _ from wpAny_pure (wpAny_pure ⟨_,rfl,wpAny_pure (hQ _ hit' (Heap.SameBut.update ..))⟩))
theorem rL {it d : Addr} {ep : Nat} {es : Array DictEntry} {Q : Option Value -> Shared -> Prop} (hh : A.handled = none) (hit : s.heap.IsKeyIter it d es.size es.size ep) (hm : rK s.heap d es ep)
  (hQ : ∀ h',Heap.ExtBut it s.heap h' -> Q none { s with heap := h' }) : wpAny (model prog w) A (pyNext (.ref it)) Q E s := by
 obtain ⟨o,ho,hc,hd⟩ := id hit
 obtain ⟨od,hod,hcd,hdd⟩ := hm
 have ty := hit.typeIs
 unfold pyNext
 refine wpAny_bind (wpAny_attempt (wpAny_callSpecial?_slot (name := Str.ofString "__next__") ty F.slot_dict_keyiterator_next (wpAny_call_entry F.slot_dict_keyiterator_next ty F.entry_dict_keyiterator_next ?_ (F.args_dict_keyiterator_next_1 _))))
 refine wpAny_bind (wpAny_pure (wpAny_bind (wpAny_bind ?_)))
 refine wpAny_bind (wpAny_typeNameOfWhole_keyiter ty (wpAny_pure (wpAny_bind (wpAny_fieldsOf ho hd ?_))))
 have own : Builtin.Dict_items.ownsTuple "dict_keyiterator" = false := by decide
 rw [own]
 refine (show wpAny _ _ (if (Value.ref d == Value.none) = true then _ else _) _ _ s from ?_)
 rw [if_neg (AC : ¬ ((Value.ref d == Value.none) = true))]
 refine wpAny_bind (wpAny_pure (wpAny_bind (wpAny_dictEntries hod hdd ?_)))
 rw [if_neg (by simp)]
 refine wpAny_bind (wpAny_pure (wpAny_bind (wpAny_dictEpoch hod hdd ?_)))
 rw [if_neg (by simp)]
 refine wpAny_pure ?_
 have n0 : ¬ ((es.size : Int) < 0) := by omega
 simp only [n0,if_false,Int.toNat_natCast,Array.getElem?_eq_none (A4 _)]
 refine wpAny_bind (wpAny_bind (wpAny_typeNameOfWhole_keyiter ty (wpAny_pure ?_)))
 refine (show wpAny _ _ (setField (.ref it) 0 .none >>= _) _ _ s from wpAny_bind (wpAny_setField ho hd (by simp) ?_))
 refine (show wpAny _ _ (newExc (.type "StopIteration") [] >>= _) _ _ _ from wpAny_bind ?_)
 simp only [newExc,newTuple]
 refine wpAny_bind (wpAny_newObj_type ?_ (by size_fits))
 refine wpAny_bind (m := firstArgMember _ _) (wpAny_of_eq (a := Value.none) (by first | rfl | (simp only [firstArgMember]; rfl)) ?_)
 refine wpAny_newObj_type ?_ (by size_fits)
 simp only [raiseNew]
 refine wpAny_bind (wpAny_handled ?_)
 have hn : A.in1.handled = none := hh
 rw [hn]
 refine wpAny_bind (wpAny_pure (wpAny_throw ?_))
 refine wpAny_bind (wpAny_isInstance (T := "StopIteration") (b := true) ⟨_,Heap.get?_push_size _ rfl,rfl⟩ isSubtype_stop ?_)
 exact wpAny_pure (hQ _ (((Heap.SameBut.update ..).extBut.push _).push _))
end
def p7 (a : Addr) (o : Obj) (kvs : List (List Key × V)) : It :=
 ⟨fun i H => H a = some (.frz o (.dT kvs)) /\ i < kvs.length,fun i H v H' => H' = H /\ ∃ k x b,kvs[i]? = some (k,x) /\ v = .ref b /\ H b = some (.tup (k.map kV)),fun i H => H a = some (.frz o (.dT kvs)) /\ i = kvs.length⟩
theorem hJ {α β : Type} {R : α -> β -> Prop} : ∀ {xs : List α} {ys : List β},Paired R xs ys -> ∀ (i : Nat) {x : α},xs[i]? = some x -> ∃ y,ys[i]? = some y /\ R x y
 | _,_,.nil,i,x,h => nomatch h
 | _,_,.cons r t,0,x,h => by cases h; exact ⟨_,rfl,r⟩
 | _,_,.cons r t,i + 1,x,h => hJ t i (by simpa using h)
theorem i6 {X : Cx} {pins : List (Addr × Obj)} {σ : St} {H : Hp} {s : Shared} {a : Addr} {o : Obj} {kvs : List (List Key × V)} {es : Array DictEntry} {ep : Nat} (I : au X pins σ H s) (h : H a = some (.frz o (.dT kvs))) (hd : o.data = .dict es ep) :
  rK s.heap a es ep /\ es.size = kvs.length /\ ∀ (i : Nat) (k : List Key) (x : V),kvs[i]? = some (k,x) -> ∃ (b : Addr) (e : DictEntry),es[i]? = some e /\ e.key = Value.ref b /\ H b = some (.tup (k.map kV)) := by
 obtain ⟨ho,z,y,xs,rel,ob,es',ep',e,c,d,l,_⟩ := (show a8 X.prog X.w H s.heap a (.frz o (.dT kvs)) from I.hok a _ h)
 rw [ho] at e
 cases e
 rw [hd] at d
 cases d
 refine ⟨⟨o,ho,c,hd⟩,?_,fun i k x hk => ?_⟩
 ·rw [<- Ar,l,A2,rel.length]
 ·obtain ⟨q,hq,q1,q2,_⟩ := hJ rel i hk
  refine ⟨q.2.1,entryOfKey (tupleKind (aX X.prog X.w)) q,?_,rfl,q2⟩
  rw [<- As,l,AI,hq]
  rfl
theorem l9 {P : Program} {w : World} {K : A0} {tg : Expr} (it a : Addr) (o : Obj) (kvs : List (List Key × V)) {es0 : Array DictEntry} {ep : Nat} (hd : o.data = .dict es0 ep) : Turn P w K tg (p7 a o kvs) [it] it (fun i h => h.IsKeyIter it a i kvs.length ep) where
 mem := by simp
 obj := fun i h st b hb => by
  have e : b = it := by simpa using hb
  subst e
  obtain ⟨o,e,c,d⟩ := st
  exact ⟨o,e,fun v z => by rw [d] at z; cases z⟩
 keep := fun i h h' st k => by
  obtain ⟨o,e,c,d⟩ := st
  exact ⟨o,k it (by simp) o e,c,d⟩
 item := by
  intro X hP hw hK hc i pins s σ H E I hf st hg
  subst hP hw hK
  obtain ⟨f0,f1,f2,f3,f4,f5⟩ := hf it (by simp)
  obtain ⟨hz,hlt⟩ := hg
  obtain ⟨D,sz,at_⟩ := i6 I hz hd
  obtain ⟨⟨k,x⟩,hx⟩ : ∃ p,kvs[i]? = some p := ⟨kvs[i],AD hlt⟩
  obtain ⟨b,e,he,ek,hb⟩ := at_ i k x hx
  rw [<- sz] at st
  have il : i < es0.size := by omega
  refine p6 il st D fun h' hit' hs' => ?_
  rw [sz] at hit'
  have I1 : au X pins σ H { s with heap := h',toks := s.toks } := I.turned (fun b ob hb e => hs'.extBut b ob hb e) f0 f1 f3 f4 f5
  obtain ⟨oi,ei,ci,di⟩ := id hit'
  have ee : es0[i].key = .ref b := by
   rw [BK il] at he
   cases he
   exact ek
  rw [ee]
  exact ⟨_,rfl,j4 (s := { s with heap := h' }) (n := "dict_keyiterator") ei ci di (by decide) ⟨.ref b,H,I1,rfl,⟨rfl,k,x,b,hx,rfl,hb⟩,hit',fun b hb => (hf b hb).1⟩⟩
 done := by
  intro X hP hw hK hc i pins s σ H E I hf st hg
  subst hP hw hK
  obtain ⟨f0,f1,f2,f3,f4,f5⟩ := hf it (by simp)
  obtain ⟨hz,rfl⟩ := hg
  obtain ⟨D,sz,_⟩ := i6 I hz hd
  rw [<- sz] at st
  refine rL (I.ok.hd hc) st D fun h' he' => ⟨rfl,I.turned (t' := s.toks) (fun b ob hb e => he' b ob hb e) f0 f1 f3 f4 f5⟩
 self := fun _ _ _ _ _ st h => wpAny_pyIter_keyiter st h
theorem au.nfT {X : Cx} {pins : List (Addr × Obj)} {σ : St} {H : Hp} {s : Shared} {a : Addr} {kvs : List (List Key × V)} (I : au X pins σ H s) (h : H a = some (.dT kvs)) : NF X a := fun o u e => by
 have := I.base.frzs a o u e
 rw [h] at this
 cases this
theorem au.freezeT {X : Cx} {pins : List (Addr × Obj)} {σ : St} {H : Hp} {s : Shared} {a : Addr} {kvs : List (List Key × V)} {o : Obj} (I : au X pins σ H s) (h : H a = some (.dT kvs)) (ho : s.heap.get? a = some o) : au X pins σ (aq H a (.frz o (.dT kvs))) s := by
 have ne : ∀ {b : Addr} {u : HO},H b = some u -> (∀ v,u ≠ .dT v) -> b ≠ a := fun {b u} q n z => by subst z; rw [h] at q; cases q; exact n _ rfl
 have nn : ∀ {b : Addr},H b = none -> b ≠ a := fun {b} q z => by subst z; rw [h] at q; cases q
 refine I.un (H' := aq H a (.frz o (.dT kvs))) (h' := s.heap) (t' := s.toks) ⟨fun b ob q n _ _ => q,fun b ob q n _ _ => ⟨ob.slots,q⟩,fun b ob q n _ => ?_,fun b ob q _ => ⟨ob,q⟩,fun b xs q => ?_,fun b ob u q => ?_,fun b ps q => ⟨#[],?_⟩⟩ ?_
 ·rw [af (nn n)]; exact n
 ·rw [af (ne q fun _ z => nomatch z)]; exact q
 ·rw [af (ne q fun _ z => nomatch z)]; exact q
 ·rw [af (ne q fun _ z => nomatch z),q]; simp
 ·intro b u q
  by_cases hb : b = a
  ·subst hb
   rw [ac] at q
   cases q
   exact ⟨ho,(I.hok b _ h).stay (fun _ _ _ q => q) (fun c q => by rw [af (ne q fun _ z => nomatch z)]; exact q) fun c xs q => by rw [af (ne q fun _ z => nomatch z)]; exact q⟩
  ·rw [af hb] at q
   exact (I.hok b _ q).stay (fun _ _ _ q => q) (fun c q => by rw [af (ne q fun _ z => nomatch z)]; exact q) fun c xs q => by rw [af (ne q fun _ z => nomatch z)]; exact q
theorem au.thawT {X : Cx} {pins : List (Addr × Obj)} {σ : St} {H : Hp} {s : Shared} {a : Addr} {kvs : List (List Key × V)} {o : Obj} (I : au X pins σ H s) (h : H a = some (.frz o (.dT kvs))) (nf : NF X a) : au X pins σ (aq H a (.dT kvs)) s := by
 have hn : ∀ {b : Addr} {u : HO},H b = some u -> (∀ o' v,u ≠ .frz o' v) -> aq H a (.dT kvs) b = some u := fun {b u} q n => by
  rw [af (fun z => by subst z; rw [h] at q; cases q; exact n _ _ rfl)]; exact q
 have hf : ∀ {b : Addr},H b = none -> aq H a (.dT kvs) b = none := fun {b} n => by
  rw [af (fun z => by subst z; rw [h] at n; cases n)]; exact n
 refine ⟨I.ok,I.os,I.bare,⟨I.base.keep,I.base.slot,fun b ob q n hx => hf (I.base.free b ob q n hx),I.base.there,fun b xs q => hn (I.base.tups b xs q) (fun _ _ z => nomatch z),fun b ob u q => ?_,fun b ps q => ?_⟩,I.loc,I.cell,hf I.free,fun y c e => hf (I.freeC y c e),fun p hp => ?_,?_,I.len⟩
 ·have q' := I.base.frzs b ob u q
  rw [af (fun z => by subst z; exact nf _ _ q)]
  exact q'
 ·obtain ⟨more,q'⟩ := I.base.tbls b ps q
  exact ⟨more,hn q' (fun _ _ z => nomatch z)⟩
 ·obtain ⟨p1,p2,p3⟩ := I.pin p hp
  exact ⟨p1,hf p2,p3⟩
 ·intro b u q
  by_cases hb : b = a
  ·subst hb
   rw [ac] at q
   cases q
   obtain ⟨_,q2⟩ := (show a8 X.prog X.w H s.heap b (.frz o (.dT kvs)) from I.hok b _ h)
   exact a8.stay (o := .dT kvs) q2 (fun _ _ _ q => q) (fun c q => hn q (fun _ _ z => nomatch z)) fun c xs q => hn q (fun _ _ z => nomatch z)
  ·rw [af hb] at q
   exact (I.hok b _ q).stay (fun _ _ _ q => q) (fun c q => hn q (fun _ _ z => nomatch z)) fun c xs q => hn q (fun _ _ z => nomatch z)
def ur (X : Cx) (tl : TE) : TI := fun σ H R => tl σ H fun x H1 => ∃ a kvs,x = .ref a /\ H1 a = some (.dT kvs) /\ ∀ o,NF X a -> R (p7 a o kvs) (aq H1 a (.frz o (.dT kvs)))
section
variable {X : Cx} {tg : Expr}
theorem kR {l : Expr} {tl : TE} (hl : PE X l tl) : PI X tg l (ur X tl) := by
 intro pins s σ H R I h
 refine bv (hl pins s σ H _ I h) fun v s1 ⟨x,H1,I1,r1,q1⟩ => ?_
 obtain ⟨a,kvs,rfl,hk,q⟩ := q1
 cases r1
 obtain ⟨z,y,xs,rel,ob,es,ep,e,c,d,l,_⟩ := (show a8 X.prog X.w H1 s1.heap a (.dT kvs) from I1.hok a _ hk)
 have I2 := I1.freezeT hk e
 have sz : es.size = kvs.length := by rw [<- Ar,l,A2,rel.length]
 refine p5 y ⟨ob,e,c,d⟩ ?_
 refine ⟨s1.heap.objs.size,[s1.heap.objs.size],_,_,_,rfl,I2.kept (t' := s1.toks) fun b o e => Heap.get?_push_of_some _ e,l9 _ a ob kvs d,⟨_,Heap.get?_push_size _ rfl,rfl,by rw [sz]; rfl⟩,fun b hb => ?_,q ob (I1.nfT hk)⟩
 have e : b = s1.heap.objs.size := by simpa using hb
 subst e
 exact I2.fpOk (A4 _) (I2.hok.fresh (A4 _))
end
def rM (X : Cx) (P : Hp -> Prop) (H : Hp) : Prop := ∃ a o kvs,H a = some (.frz o (.dT kvs)) /\ NF X a /\ P (aq H a (.dT kvs))
def vg (X : Cx) (D : Ends) : Ends := { nx := fun σ => rM X (D.nx σ),bk := fun σ => rM X (D.bk σ),ct := fun σ => rM X (D.ct σ),rt := fun v => rM X (D.rt v) }
theorem m7 {X : Cx} {st : Stmt} {t : TS} (h : PS X st t) : PS X st (fun D σ H => t (vg X D) σ H) := by
 intro pins s σ H D I q
 refine bv (h pins s σ H _ I q) fun f s1 q1 => ?_
 cases f with
 | next =>
  obtain ⟨σ',H',I',a,o,kvs,e,nf,p⟩ := q1
  exact ⟨σ',_,I'.thawT e nf,p⟩
 | brk =>
  obtain ⟨σ',H',I',a,o,kvs,e,nf,p⟩ := q1
  exact ⟨σ',_,I'.thawT e nf,p⟩
 | cont =>
  obtain ⟨σ',H',I',a,o,kvs,e,nf,p⟩ := q1
  exact ⟨σ',_,I'.thawT e nf,p⟩
 | ret u =>
  obtain ⟨v,σ',H',I',r,a,o,kvs,e,nf,p⟩ := q1
  exact ⟨v,σ',_,I'.thawT e nf,r,p⟩
theorem i7 {a : Addr} {o : Obj} {kvs : List (List Key × V)} {g : TG} {tb : TS} {D : Ends} {σ : St} {H : Hp} (Pv : Nat -> St -> Hp -> Prop) (h0 : Pv 0 σ H) (hz : ∀ i σ H,i <= kvs.length -> Pv i σ H -> H a = some (.frz o (.dT kvs)))
  (hs : ∀ i k x b σ H,kvs[i]? = some (k,x) -> H b = some (.tup (k.map kV)) -> Pv i σ H -> g (.ref b) σ H fun σ2 H2 => tb { D with nx := Pv (i + 1),ct := Pv (i + 1),bk := D.nx } σ2 H2) (hd : ∀ σ H,Pv kvs.length σ H -> D.nx σ H) :
  ∃ W : Nat -> Nat -> St -> Hp -> Prop,(∃ m,W 0 m σ H) /\ ∀ i m σ H,W i m σ H ->
   ((p7 a o kvs).stop i H /\ D.nx σ H) ∨ ((p7 a o kvs).go i H /\ ∃ N : St -> Hp -> Prop,(∀ σ' H',N σ' H' -> ∃ m',m' < m /\ W (i + 1) m' σ' H') /\ ∀ x H',(p7 a o kvs).yld i H x H' -> g x σ H' fun σ2 H2 => tb { D with nx := N,ct := N,bk := D.nx } σ2 H2) := by
 refine ⟨fun i m σ H => m = kvs.length - i /\ i <= kvs.length /\ Pv i σ H,⟨kvs.length,by simp,Af _,h0⟩,?_⟩
 rintro i m σ H ⟨rfl,hi,p⟩
 by_cases hlt : i < kvs.length
 ·refine .inr ⟨⟨hz i σ H hi p,hlt⟩,Pv (i + 1),fun σ' H' p' => ⟨kvs.length - (i + 1),by omega,rfl,hlt,p'⟩,fun x H' y => ?_⟩
  obtain ⟨e,k,v,b,hk,rfl,hb⟩ := y
  subst e
  exact hs i k v b σ _ hk hb p
 ·have e : i = kvs.length := by omega
  subst e
  exact .inl ⟨⟨hz _ σ H hi p,rfl⟩,hd σ H p⟩
open Hm
theorem p8 {H H' : Hp} {l : Addr} {u v : HO} (h : H l = some u) (g : ay (aq H l v) H') : ay H (aq H' l u) := fun b o q => by
 by_cases e : b = l
 ·subst e
  rw [h] at q
  cases q
  exact ac
 ·rw [af e]
  exact g b o (by rw [af e]; exact q)
end L2
namespace Sw
open PySem L2 XH Hm Wo So PyProof.Rows
def cH (row : List (Str × Addr)) : List (Key × V) := row.map fun p => ((.inr p.1 : Key),V.ref p.2)
theorem om (row : List (Str × Addr)) : (cH row).map (·.1) = (row.map (·.1)).map fun y => (.inr y : Key) := by
 unfold cH
 rw [Aq,Aq]
 rfl
theorem hV : ∀ {row : List (Str × Addr)},(row.map (·.1)).Nodup -> ∀ {y : Str} {t : Addr},(y,t) ∈ row -> aK (cH row) (.inr y) = some (.ref t)
 | [],_,_,_,h => nomatch h
 | p :: row,nd,y,t,h => by
  rw [Ag,AN] at nd
  show aK (((.inr p.1 : Key),V.ref p.2) :: cH row) _ = _
  rcases A8.mp h with e | e
  ·subst e
   exact bg rfl
  ·rw [bh (by
    show ¬ (Sum.inr p.1 : Key) = Sum.inr y
    intro z
    injection z with z
    exact nd.1 (z ▸ AF.mpr ⟨_,e,rfl⟩))]
   exact hV nd.2 e
structure p9 (K : A0) (b : Nat) (vw : Str -> Str -> Int × Int) (H : Hp) (d : Addr) (g : Str -> Str -> Option Addr) : Prop where
 ex : ∃ kvs : List (Key × V),H d = some (.dK kvs) /\ ∀ x : Str,(aK kvs (.inr x) = none /\ ∀ y,g x y = none) ∨
  ∃ (a : Addr) (row : List (Str × Addr)),aK kvs (.inr x) = some (.ref a) /\ H a = some (.dK (cH row)) /\ (row.map (·.1)).Nodup /\ row.length <= 200 /\ ∀ y t,g x y = some t ↔ (y,t) ∈ row
 fr : ∀ x y t,g x y = some t -> eI K b H t (vw x y).1 (vw x y).2
theorem p9.same {K : A0} {b : Nat} {vw : Str -> Str -> Int × Int} {H H' : Hp} {d : Addr} {g : Str -> Str -> Option Addr} (h : p9 K b vw H d g) (e : ay H H') : p9 K b vw H' d g := by
 obtain ⟨⟨kvs,h1,h2⟩,h3⟩ := h
 refine ⟨⟨kvs,e _ _ h1,fun x => ?_⟩,fun x y t z => ?_⟩
 ·rcases h2 x with z | ⟨a,row,q1,q2,q3⟩
  ·exact .inl z
  ·exact .inr ⟨a,row,q1,e _ _ q2,q3⟩
 ·exact (h3 x y t z).same e
structure yr (K : A0) (b : Nat) (Rt : List Str -> Int -> Int -> Prop) (F : Addr -> Prop) (H : Hp) (l : Addr) (cs : List (List Str)) : Prop where
 ex : ∃ ts : List Addr,H l = some (.lst (ts.map V.ref)) /\ ts.length = cs.length /\ ∀ (i : Nat) (t : Addr) (c : List Str),ts[i]? = some t -> cs[i]? = some c ->
  ∃ (cl rl : Addr) (p q : Int),H t = some (.tup [.ref cl,.ref rl]) /\ H cl = some (.lst (c.map V.str)) /\ eI K (b * c.length) H rl p q /\ Rt c p q /\ F cl /\ H rl = some (.tup [.int p,.int q])
def ca (l r : Addr) (H H' : Hp) : Prop := ∀ b o,b ≠ l -> b ≠ r -> H b = some o -> H' b = some o
theorem ca.refl (l r : Addr) (H : Hp) : ca l r H H := fun _ _ _ _ h => h
theorem ca.thenS {l r : Addr} {H H1 H2 : Hp} (a : ca l r H H1) (b : ay H1 H2) : ca l r H H2 := fun c o h1 h2 h => b c o (a c o h1 h2 h)
theorem ca.putL {l r : Addr} {H H1 : Hp} (a : ca l r H H1) (u : HO) : ca l r H (aq H1 l u) := fun c o h1 h2 h => by rw [af h1]; exact a c o h1 h2 h
theorem ca.putR {l r : Addr} {H H1 : Hp} (a : ca l r H H1) (u : HO) : ca l r H (aq H1 r u) := fun c o h1 h2 h => by rw [af h2]; exact a c o h1 h2 h
theorem ca.sqT {K : A0} {l r : Addr} {H H' : Hp} {ls : List V} {rs : List (Key × V)} (g : ca l r H H') (el : H l = some (.lst ls)) (er : H r = some (.dK rs)) {t : Addr} {xs : List V} (h : cQ K H t xs) : cQ K H' t xs := by
 rcases h with (w | ⟨o,w⟩) | w
 ·exact .inl (.inl (g _ _ (bU w el (fun z => nomatch z)) (bU w er (fun z => nomatch z)) w))
 ·exact .inl (.inr ⟨o,g _ _ (bU w el (fun z => nomatch z)) (bU w er (fun z => nomatch z)) w⟩)
 ·exact .inr w
theorem ca.fr {K : A0} {n : Nat} {l r : Addr} {H H' : Hp} {ls : List V} {rs : List (Key × V)} (g : ca l r H H') (el : H l = some (.lst ls)) (er : H r = some (.dK rs)) {t : Addr} {p q : Int} (h : eI K n H t p q) : eI K n H' t p q := ⟨g.sqT el er h.at_,h.pos,h.bp,h.bq⟩
theorem i8 {ts : List Addr} {c : List Str} (n : c ≠ []) : (c.map V.str) ≠ ts.map V.ref := by
 cases c with
 | nil => exact absurd rfl n
 | cons x c =>
  cases ts with
  | nil => exact nofun
  | cons t ts => intro z; injection z with z; cases z
def kW (K : A0) (b : Nat) (Rt : List Str -> Int -> Int -> Prop) (F : Addr -> Prop) (H : Hp) (ts : List Addr) (cs : List (List Str)) : Prop := ts.length = cs.length /\ ∀ (i : Nat) (t : Addr) (c : List Str),ts[i]? = some t -> cs[i]? = some c ->
  ∃ (cl rl : Addr) (p q : Int),H t = some (.tup [.ref cl,.ref rl]) /\ H cl = some (.lst (c.map V.str)) /\ eI K (b * c.length) H rl p q /\ Rt c p q /\ F cl /\ H rl = some (.tup [.int p,.int q])
theorem kW.same {K : A0} {b : Nat} {Rt : List Str -> Int -> Int -> Prop} {F : Addr -> Prop} {H H' : Hp} {ts : List Addr} {cs : List (List Str)} (h : kW K b Rt F H ts cs) (g : ay H H') : kW K b Rt F H' ts cs := ⟨h.1,fun i t c h1 h2 => by
 obtain ⟨cl,rl,p,q,a1,a2,a3,a4,a5,a6⟩ := h.2 i t c h1 h2
 exact ⟨cl,rl,p,q,g _ _ a1,g _ _ a2,a3.same g,a4,a5,g _ _ a6⟩⟩
theorem kW.keep {K : A0} {b : Nat} {Rt : List Str -> Int -> Int -> Prop} {F : Addr -> Prop} {l r : Addr} {H H' : Hp} {ts ts0 : List Addr} {cs : List (List Str)} {rs : List (Key × V)} (h : kW K b Rt F H ts cs) (nz : ∀ c ∈ cs,c ≠ []) (g : ca l r H H') (el : H l = some (.lst (ts0.map V.ref))) (er : H r = some (.dK rs)) : kW K b Rt F H' ts cs := ⟨h.1,fun i t c h1 h2 => by
 obtain ⟨cl,rl,p,q,a1,a2,a3,a4,a5,a6⟩ := h.2 i t c h1 h2
 have cn := nz c (AB h2)
 exact ⟨cl,rl,p,q,g _ _ (bU a1 el (fun z => nomatch z)) (bU a1 er (fun z => nomatch z)) a1,g _ _ (bU a2 el (fun z => by injection z with z; exact i8 cn z)) (bU a2 er (fun z => nomatch z)) a2,g.fr el er a3,a4,a5,g _ _ (bU a6 el (fun z => nomatch z)) (bU a6 er (fun z => nomatch z)) a6⟩⟩
theorem kW.snoc {K : A0} {b : Nat} {Rt : List Str -> Int -> Int -> Prop} {F : Addr -> Prop} {H : Hp} {ts : List Addr} {cs : List (List Str)} {t cl rl : Addr} {c : List Str} {p q : Int} (h : kW K b Rt F H ts cs) (a1 : H t = some (.tup [.ref cl,.ref rl])) (a2 : H cl = some (.lst (c.map V.str))) (a3 : eI K (b * c.length) H rl p q) (a4 : Rt c p q) (a5 : F cl) (a6 : H rl = some (.tup [.int p,.int q])) : kW K b Rt F H (ts ++ [t]) (cs ++ [c]) := by
 refine ⟨by rw [A6,A6,h.1]; rfl,fun i t' c' h1 h2 => ?_⟩
 rcases Nat.lt_or_ge i ts.length with l | l
 ·rw [A5 l] at h1
  rw [A5 (by rw [<- h.1]; exact l)] at h2
  exact h.2 i t' c' h1 h2
 ·have il := (A1.mp h1).1
  rw [A6,AL] at il
  have e : i = ts.length := by omega
  subst e
  rw [AS (A4 _),Nat.sub_self] at h1
  rw [h.1,AS (A4 _),Nat.sub_self] at h2
  cases h1
  cases h2
  exact ⟨cl,rl,p,q,a1,a2,a3,a4,a5,a6⟩
theorem rN {row : List (Str × Addr)} {ks : List Str} (h : ks ≠ []) : cH row ≠ aN ks (.bl true) := by
 cases ks with
 | nil => exact absurd rfl h
 | cons k ks =>
  cases row with
  | nil => exact nofun
  | cons p row => intro z; injection z with z; injection z with _ z; cases z
theorem fS {c : List Str} (n : c ≠ []) : eO (c.map V.str) (-1) = some (.str (aM c)) := by
 obtain ⟨a,x,rfl⟩ : ∃ a x,c = a ++ [x] := ⟨c.dropLast,c.getLast n,(List.dropLast_concat_getLast n).symm⟩
 rw [Ab,bO]
 exact j8 _ _
theorem ut {p q : Int} (f : Fr p q 1 1) : p = 1 /\ q = 1 := by
 have h1 := f.pos
 have h2 := f.same
 have h3 := f.bb
 omega
def kX (g : Str -> Str -> Option Addr) (x y : Str) : Prop := ∃ t,g x y = some t
theorem fF {κ : Type} [DecidableEq κ] : ∀ {kvs : List (κ × V)} {k : κ} {v : V},aK kvs k = some v -> (k,v) ∈ kvs
 | [],_,_,h => by cases h
 | p :: r,k,v,h => by
  by_cases e : p.1 = k
  ·rw [bg e] at h
   cases h
   subst e
   exact Aw
  ·rw [bh e] at h
   exact AR _ (fF h)
theorem jG {κ : Type} [DecidableEq κ] : ∀ {kvs : List (κ × V)} {k : κ} {v : V},(k,v) ∈ kvs -> ∃ w,aK kvs k = some w
 | p :: r,k,v,h => by
  by_cases e : p.1 = k
  ·exact ⟨_,bg e⟩
  ·rw [bh e]
   rcases A8.mp h with z | z
   ·subst z
    exact absurd rfl e
   ·exact jG z
theorem hW {zs : List Str} {i : Int} (h0 : 0 <= i) (h : i < (zs.length : Int)) : ∃ v,eO (zs.map V.str) i = some (.str v) /\ v ∈ zs := by
 obtain ⟨j,rfl⟩ : ∃ j : Nat,i = (j : Int) := ⟨i.toNat,by omega⟩
 exact ⟨zs[j]'(by omega),bY (by rw [AI,AD (by omega)]; rfl),List.getElem_mem _⟩
def eV (row : List (Str × Addr)) (y : Str) (t : Addr) : List (Str × Addr) := if (row.any fun p => decide (p.1 = y)) = true then row.map (fun p => if p.1 = y then (p.1,t) else p) else row ++ [(y,t)]
theorem qa (row : List (Str × Addr)) (y : Str) (t : Addr) : putK (cH row) (.inr y) (.ref t) = cH (eV row y t) := by
 have e : ((cH row).any fun kv => decide (kv.1 = (.inr y : Key))) = row.any fun p => decide (p.1 = y) := by
  unfold cH
  rw [List.any_map]
  congr 1
  funext p
  simp
 unfold putK eV
 rw [e]
 split
 ·unfold cH
  rw [Aq,Aq]
  congr 1
  funext p
  show (if (Sum.inr p.1 : Key) = Sum.inr y then ((Sum.inr p.1 : Key),V.ref t) else (Sum.inr p.1,V.ref p.2)) = ((Sum.inr (if p.1 = y then (p.1,t) else p).1 : Key),V.ref (if p.1 = y then (p.1,t) else p).2)
  by_cases c : p.1 = y
  ·rw [if_pos c,if_pos (by rw [c])]
  ·rw [if_neg c,if_neg (fun z => c (by injection z))]
 ·unfold cH
  rw [Ab]
  rfl
theorem jH (row : List (Str × Addr)) (y : Str) (t : Addr) (nd : (row.map (·.1)).Nodup) : ((eV row y t).map (·.1)).Nodup /\ (eV row y t).length <= row.length + 1 /\ ∀ z s,(z,s) ∈ eV row y t ↔ if z = y then s = t else (z,s) ∈ row := by
 unfold eV
 by_cases c : (row.any fun p => decide (p.1 = y)) = true
 ·rw [if_pos c]
  obtain ⟨p,hp,hy⟩ := List.any_eq_true.mp c
  have hy := of_decide_eq_true hy
  have e : (row.map fun p => if p.1 = y then (p.1,t) else p).map (·.1) = row.map (·.1) := by
   rw [Aq]
   congr 1
   funext p
   show (if p.1 = y then (p.1,t) else p).1 = p.1
   split <;> rfl
  refine ⟨by rw [e]; exact nd,by rw [A2]; omega,fun z s => ⟨fun h => ?_,fun h => ?_⟩⟩
  ·obtain ⟨q,hq,e⟩ := AF.mp h
   by_cases d : q.1 = y
   ·rw [if_pos d] at e
    cases e
    rw [if_pos d]
   ·rw [if_neg d] at e
    subst e
    rw [if_neg d]
    exact hq
  ·by_cases d : z = y
   ·rw [if_pos d] at h
    subst h d
    exact AF.mpr ⟨p,hp,by rw [if_pos hy,hy]⟩
   ·rw [if_neg d] at h
    exact AF.mpr ⟨_,h,by rw [if_neg d]⟩
 ·rw [if_neg c]
  have no : ∀ q ∈ row,q.1 ≠ y := fun q hq e => c (List.any_eq_true.mpr ⟨q,hq,decide_eq_true e⟩)
  refine ⟨?_,by rw [A6]; exact A4 _,fun z s => ⟨fun h => ?_,fun h => ?_⟩⟩
  ·rw [Ab,B4]
   refine ⟨nd,by simp,fun a ha b hb => ?_⟩
   obtain ⟨q,hq,rfl⟩ := AF.mp ha
   cases A3.mp hb
   exact no q hq
  ·rcases AY.mp h with h | h
   ·rw [if_neg (no _ h)]
    exact h
   ·cases A3.mp h
    rw [if_pos rfl]
  ·by_cases d : z = y
   ·rw [if_pos d] at h
    subst h d
    exact AJ _ (A3.mpr rfl)
   ·rw [if_neg d] at h
    exact Ao _ h
structure BD (H H' : Hp) (d : Addr) (n : Nat) (dk : List (Key × V)) (g : Str -> Str -> Option Addr) : Prop where
 at_ : H' d = some (.dK dk)
 few : dk.length <= n
 inj : ∀ x x' a,aK dk (.inr x) = some (.ref a) -> aK dk (.inr x') = some (.ref a) -> x = x'
 ex : ∀ x : Str,(aK dk (.inr x) = none /\ ∀ y,g x y = none) ∨
  ∃ (a : Addr) (row : List (Str × Addr)),aK dk (.inr x) = some (.ref a) /\ H' a = some (.dK (cH row)) /\ H a = none /\ a ≠ d /\ (row.map (·.1)).Nodup /\ row.length <= n /\ ∀ y t,g x y = some t ↔ (y,t) ∈ row
theorem BD.same {H H1 H2 : Hp} {d : Addr} {n : Nat} {dk : List (Key × V)} {g : Str -> Str -> Option Addr} (h : BD H H1 d n dk g) (e : ay H1 H2) : BD H H2 d n dk g := by
 refine ⟨e _ _ h.at_,h.few,h.inj,fun x => ?_⟩
 rcases h.ex x with z | ⟨a,row,q1,q2,q3⟩
 ·exact .inl z
 ·exact .inr ⟨a,row,q1,e _ _ q2,q3⟩
theorem BD.open {H H1 : Hp} {d pn : Addr} {n : Nat} {dk : List (Key × V)} {g : Str -> Str -> Option Addr} {x0 : Str} (h : BD H H1 d n dk g) (hv : aK dk (.inr x0) = none) (hp : H1 pn = some (.dK (cH []))) (hn : H pn = none) (nd : pn ≠ d) (new : ∀ x,aK dk (.inr x) ≠ some (.ref pn)) : BD H (aq H1 d (.dK (putK dk (.inr x0) (.ref pn)))) d (n + 1) (putK dk (.inr x0) (.ref pn)) g := by
 refine ⟨ac,AT (cC _ _ _) (by have := h.few; omega),fun x x' a e1 e2 => ?_,fun x => ?_⟩
 ·rw [fi] at e1 e2
  split at e1
  ·rename_i c1
   injection c1 with c1
   cases e1
   split at e2
   ·rename_i c2
    injection c2 with c2
    rw [c1,c2]
   ·exact absurd e2 (new _)
  ·split at e2
   ·cases e2
    exact absurd e1 (new _)
   ·exact h.inj x x' a e1 e2
 ·rw [fi]
  by_cases c : x = x0
  ·subst c
   rw [if_pos rfl]
   rcases h.ex x with ⟨z1,z2⟩ | ⟨a,row,q1,_⟩
   ·refine .inr ⟨pn,[],rfl,by rw [af nd]; exact hp,hn,nd,by simp,Af _,fun y t => ?_⟩
    rw [z2]
    simp
   ·rw [hv] at q1
    cases q1
  ·rw [if_neg (fun z => c (by injection z))]
   rcases h.ex x with z | ⟨a,row,q1,q2,q3,q4,q5,q6,q7⟩
   ·exact .inl z
   ·exact .inr ⟨a,row,q1,by rw [af q4]; exact q2,q3,q4,q5,by omega,q7⟩
theorem BD.put {H H1 : Hp} {d a : Addr} {n : Nat} {dk : List (Key × V)} {g g' : Str -> Str -> Option Addr} {x0 y0 : Str} {t0 : Addr} {row : List (Str × Addr)} (h : BD H H1 d n dk g) (hv : aK dk (.inr x0) = some (.ref a)) (hr : H1 a = some (.dK (cH row)))
  (hg : ∀ x y,g' x y = if x = x0 /\ y = y0 then some t0 else g x y) : BD H (aq H1 a (.dK (putK (cH row) (.inr y0) (.ref t0)))) d (n + 1) dk g' := by
 obtain ⟨na,hx⟩ : a ≠ d /\ H a = none /\ (row.map (·.1)).Nodup /\ row.length <= n /\ ∀ y t,g x0 y = some t ↔ (y,t) ∈ row := by
  rcases h.ex x0 with ⟨z,_⟩ | ⟨a',row',q1,q2,q3,q4,q5,q6,q7⟩
  ·rw [hv] at z
   cases z
  ·rw [hv] at q1
   cases q1
   rw [hr] at q2
   have e : cH row = cH row' := by injection q2 with q2; injection q2
   have e' : row = row' := by
    unfold cH at e
    refine (List.map_inj_right ?_).mp e
    rintro ⟨u1,u2⟩ ⟨w1,w2⟩ z
    injection z with z1 z2
    injection z1 with z1
    injection z2 with z2
    exact Prod.ext z1 z2
   subst e'
   exact ⟨q4,q3,q5,q6,q7⟩
 obtain ⟨hn,nd,ln,mem⟩ := hx
 obtain ⟨p1,p2,p3⟩ := jH row y0 t0 nd
 refine ⟨by rw [af (Ne.symm na)]; exact h.at_,by have := h.few; omega,h.inj,fun x => ?_⟩
 by_cases c : x = x0
 ·subst c
  refine .inr ⟨a,eV row y0 t0,hv,by rw [ac,qa],hn,na,p1,by omega,fun y t => ?_⟩
  rw [hg,p3]
  by_cases e : y = y0
  ·rw [if_pos ⟨rfl,e⟩,if_pos e]
   exact ⟨fun z => by injection z with z; exact z.symm,fun z => by rw [z]⟩
  ·rw [if_neg (fun z => e z.2),if_neg e]
   exact mem y t
 ·rcases h.ex x with ⟨z1,z2⟩ | ⟨b,row',q1,q2,q3,q4,q5,q6,q7⟩
  ·refine .inl ⟨z1,fun y => ?_⟩
   rw [hg,if_neg (fun z => c z.1)]
   exact z2 y
  ·have ba : b ≠ a := fun e => c (h.inj x x0 a (e ▸ q1) hv)
   refine .inr ⟨b,row',q1,by rw [af ba]; exact q2,q3,q4,q5,by omega,fun y t => ?_⟩
   rw [hg,if_neg (fun z => c z.1)]
   exact q7 y t
theorem BD.done {K : A0} {b : Nat} {vw : Str -> Str -> Int × Int} {H H' : Hp} {d : Addr} {n : Nat} {dk : List (Key × V)} {g : Str -> Str -> Option Addr} (h : BD H H' d n dk g) (h2 : n <= 200) (f : ∀ x y t,g x y = some t -> eI K b H' t (vw x y).1 (vw x y).2) : p9 K b vw H' d g := by
 refine ⟨⟨dk,h.at_,fun x => ?_⟩,f⟩
 rcases h.ex x with z | ⟨a,row,q1,q2,q3,q4,q5,q6,q7⟩
 ·exact .inl z
 ·exact .inr ⟨a,row,q1,q2,q5,by omega,q7⟩
end Sw
namespace L2
open PySem PySem.Spec PyProof.Rows
section
variable {X : Cx} {pins : List (Addr × Obj)} {σ : St} {H : Hp} {s : Shared} {h' : Heap}
end
open XH
section
variable {X : Cx} {a b c d : Expr} {ta tb tc td : TE} {pos : Pos}
end
open Sw So Hm
section
variable {prog : Program} {w : World} {A : Around} {E : Value -> Shared -> Prop} {s : Shared}
end
section
variable {X : Cx} {scope : Scope} {cl : List (Str × Addr)} {own : Str} {ys : List Str} {js : List Nat} {elt iter : Expr} {px pos : Pos} {wi : TI} {te : TE}
end
theorem qb {X : Cx} (hu : X.A.units < cLine) : eX X (compareOp .NotEq) (fun x y H Q => ∃ a b zs,x = .ref a /\ y = .ref b /\ bc X.K H a zs /\ bc X.K H b [] /\ Q (.bl (!zs.isEmpty)) H) := by
 intro pins s σ H x y v u Q I rx ry h
 obtain ⟨a,b,zs,rfl,rfl,h1,h2,hq⟩ := h
 cases rx
 cases ry
 obtain ⟨i1,r1,p1,_⟩ := I.list h1
 obtain ⟨i2,r2,p2,_⟩ := I.list h2
 cases r2
 cases zs with
 | nil =>
  cases r1
  refine SeqAt.RcNeAt.lists (e := fun _ => true) p1.isList p2.isList rfl hu (fun j g1 g2 => absurd g1 (by simp)) _ _ _ _ ?_
  exact ⟨.bl false,H,I,by show Value.bool _ = Value.bool _; simp,hq⟩
 | cons z zs =>
  cases r1 with
  | cons r rr =>
   refine SeqAt.RcNeAt.lists_lengths p1.isList p2.isList (by simp) hu _ _ _ _ ?_
   exact ⟨.bl true,H,I,rfl,hq⟩
end L2
namespace Sw
open PySem L2 XH Hm
section
variable {X : Cx} {k j : Nat} {f C : Addr} {ps : List Str} {sp : Sp} {dvs : List V} {x m : Str} {p pos apos : Pos} {e o : Expr} {es : List Expr} {ta tb : TE} {t : TA} {E : L2.St -> XK}
end
end Sw
namespace L2
open PySem PySem.Spec PyProof.Rows XH Sw Hm
end L2
namespace Sw
open PySem L2 XH Hm
end Sw
namespace L2
open PySem PySem.Spec PyProof.Rows XH
theorem qc {X : Cx} {K : A0} (h : X.K = K) : uT X (uU K) := by
 subst h
 exact aB
end L2
namespace Sw
open PySem L2 XH Hm
end Sw
namespace L2
open PySem PySem.Spec PyProof.Rows XH
section
variable {X : Cx} {scope : Scope} {cl : List (Str × Addr)} {os : List Str} {ys : List Str} {js : List Nat} {fp : List Addr} {pins : List (Addr × Obj)} {σ : St} {H : Hp} {s s4 : Shared}
end
section
variable {X : Cx} {scope : Scope} {cl : List (Str × Addr)} {os : List Str} {ys : List Str} {js : List Nat} {elt iter tg : Expr} {px pos : Pos} {wi : TI} {te : TE} {g : TG}
end
end L2
namespace Sw
open PySem L2 XH
end Sw
namespace L2
open PySem PySem.Spec PyProof.Rows XH
section
variable {X : Cx} {scope : Scope} {cl : List (Str × Addr)} {os : List Str} {ys : List Str} {js : List Nat} {elt iter tg : Expr} {px pos : Pos} {wi : TI} {te : TE} {g : TG}
end
section
variable {X : Cx}
end
end L2
namespace Sw
open PySem L2 XH
end Sw
namespace L2
open PySem PySem.Spec PyProof.Rows XH Sw So
end L2
namespace Sw
open PySem L2 XH Hm
end Sw
namespace L2
open PySem PySem.Spec PyProof.Rows XH Sw Hm
end L2
namespace Sw
open PySem L2 XH Hm
theorem eW {α : Type} {f : α -> V} {xs : List α} {i : Nat} {x : α} (h : xs[i]? = some x) : (xs.map f)[i]? = some (f x) := by rw [AI,h]; rfl
end Sw
namespace L2
open PySem PySem.Spec PyProof.Rows XH Sw Hm
end L2
namespace Sw
open PySem L2 XH Hm
end Sw
namespace L2
open PySem PySem.Spec PyProof.Rows XH Sw Hm
section
variable {X : Cx} {pins : List (Addr × Obj)} {σ : St} {H : Hp} {s : Shared}
end
end L2
namespace Sw
open PySem L2 XH Hm
end Sw
namespace L2
open PySem PySem.Spec PyProof.Rows XH Sw Hm
end L2
namespace Sw
open PySem L2 XH Hm
end Sw
namespace Wo
open PySem Hm So
end Wo
namespace L2
open PySem PySem.Spec PyProof.Rows XH Hm Wo
end L2
namespace Sw
open PySem L2 XH Hm Wo So PyProof.Rows
def eD (vw : Str -> Str -> Int × Int) (c : List Str) : Nat -> Int × Int
 | 0 => (1,1)
 | n + 1 => ((eD vw c n).1 * (vw (c.getD n "") (c.getD (n + 1) "")).1,(eD vw c n).2 * (vw (c.getD n "") (c.getD (n + 1) "")).2)
theorem m8 (vw : Str -> Str -> Int × Int) (c : List Str) (x : Str) : ∀ n,n < c.length -> eD vw (c ++ [x]) n = eD vw c n
 | 0,_ => rfl
 | n + 1,h => by
  have ih := m8 vw c x n (by omega)
  have e1 : (c ++ [x]).getD n "" = c.getD n "" := by rw [Ad,Ad,A5 (by omega)]
  have e2 : (c ++ [x]).getD (n + 1) "" = c.getD (n + 1) "" := by rw [Ad,Ad,A5 h]
  unfold eD
  rw [ih,e1,e2]
theorem qd (vw : Str -> Str -> Int × Int) (c : List Str) (x : Str) (n : c ≠ []) : eD vw (c ++ [x]) c.length = ((eD vw c (c.length - 1)).1 * (vw (aM c) x).1,(eD vw c (c.length - 1)).2 * (vw (aM c) x).2) := by
 obtain ⟨a,y,rfl⟩ : ∃ a y,c = a ++ [y] := ⟨c.dropLast,c.getLast n,(List.dropLast_concat_getLast n).symm⟩
 have l : (a ++ [y]).length = a.length + 1 := by rw [A6]; rfl
 rw [bO,l,Nat.add_sub_cancel]
 show ((eD vw (a ++ [y] ++ [x]) a.length).1 * _,(eD vw (a ++ [y] ++ [x]) a.length).2 * _) = _
 rw [m8 vw (a ++ [y]) x a.length (by omega)]
 have e1 : (a ++ [y] ++ [x]).getD a.length "" = y := by rw [Ad,List.append_assoc,AS (A4 _),Nat.sub_self]; rfl
 have e2 : (a ++ [y] ++ [x]).getD (a.length + 1) "" = x := by rw [Ad,AS (by omega),l,Nat.sub_self]; rfl
 rw [e1,e2]
def uB (vw : Str -> Str -> Int × Int) (c : List Str) (p q : Int) : Prop := c ≠ [] /\ p * (eD vw c (c.length - 1)).2 = (eD vw c (c.length - 1)).1 * q /\ bA p q = 1 /\ 0 < q
theorem uu (vw : Str -> Str -> Int × Int) (x : Str) : uB vw [x] 1 1 := ⟨nofun,rfl,by decide,by decide⟩
theorem rO {vw : Str -> Str -> Int × Int} {c : List Str} {p q r s : Int} {x : Str} (h : uB vw c p q) (f : Fr r s (p * (vw (aM c) x).1) (q * (vw (aM c) x).2)) : uB vw (c ++ [x]) r s := by
 obtain ⟨n,e,_,q0⟩ := h
 refine ⟨by simp,?_,f.low,f.pos⟩
 rw [A6,AL,Nat.add_sub_cancel,qd vw c x n]
 have e2 := f.same
 generalize (eD vw c (c.length - 1)).1 = T at *
 generalize (eD vw c (c.length - 1)).2 = B at *
 generalize (vw (aM c) x).1 = u at *
 generalize (vw (aM c) x).2 = v at *
 show r * (B * v) = (T * u) * s
 refine pC (k := q) ?_ (by omega)
 grind
theorem rP {vw : Str -> Str -> Int × Int} {c : List Str} {p q p' q' : Int} (h : uB vw c p q) (f : Fr p' q' (eD vw c (c.length - 1)).1 (eD vw c (c.length - 1)).2) (B0 : 0 < (eD vw c (c.length - 1)).2) : p = p' /\ q = q' := by
 obtain ⟨_,e,g,q0⟩ := h
 refine lH ⟨q0,g⟩ ⟨f.pos,f.low⟩ (pC (k := (eD vw c (c.length - 1)).2) ?_ (by omega))
 have e2 := f.same
 generalize (eD vw c (c.length - 1)).1 = T at *
 generalize (eD vw c (c.length - 1)).2 = B at *
 grind
theorem BD.mono {H H1 : Hp} {d : Addr} {n m : Nat} {dk : List (Key × V)} {g : Str -> Str -> Option Addr} (h : BD H H1 d n dk g) (l : n <= m) : BD H H1 d m dk g := ⟨h.at_,AT h.few l,h.inj,fun x => by
 rcases h.ex x with z | ⟨a,row,q1,q2,q3,q4,q5,q6,q7⟩
 ·exact .inl z
 ·exact .inr ⟨a,row,q1,q2,q3,q4,q5,AT q6 l,q7⟩⟩
theorem BD.new {H H1 : Hp} {d pn : Addr} {n : Nat} {dk : List (Key × V)} {g : Str -> Str -> Option Addr} (h : BD H H1 d n dk g) (hn : H1 pn = none) (x : Str) : aK dk (.inr x) ≠ some (.ref pn) := fun z => by
 rcases h.ex x with ⟨w,_⟩ | ⟨a,row,q1,q2,_⟩
 ·rw [w] at z; cases z
 ·rw [z] at q1; cases q1; rw [hn] at q2; cases q2
def hF (F : List Addr) : Hp := fun a => if a ∈ F then none else some (.lst [])
theorem dj {F : List Addr} {a : Addr} : hF F a = none ↔ a ∈ F := by
 unfold hF
 by_cases h : a ∈ F
 ·simp [h]
 ·simp [h]
theorem rQ {F F' : List Addr} {H1 : Hp} {d : Addr} {n : Nat} {dk : List (Key × V)} {g : Str -> Str -> Option Addr} (h : BD (hF F) H1 d n dk g) (s : ∀ a ∈ F,a ∈ F') : BD (hF F') H1 d n dk g :=
 ⟨h.at_,h.few,h.inj,fun x => by
  rcases h.ex x with z | ⟨a,row,q1,q2,q3,q4⟩
  ·exact .inl z
  ·exact .inr ⟨a,row,q1,q2,dj.mpr (s a (dj.mp q3)),q4⟩⟩
theorem jI {H0 H1 : Hp} {d l : Addr} {n : Nat} {dk : List (Key × V)} {g : Str -> Str -> Option Addr} (h : BD H0 H1 d n dk g) (ld : l ≠ d) (li : ∀ y,aK dk (.inr y) ≠ some (.ref l)) (u : HO) : BD H0 (aq H1 l u) d n dk g :=
 ⟨by rw [af (fun z => ld z.symm)]; exact h.at_,h.few,h.inj,fun x => by
  rcases h.ex x with z | ⟨a,row,q1,q2,q3⟩
  ·exact .inl z
  ·exact .inr ⟨a,row,q1,by rw [af (fun z => li x (by rw [<- z]; exact q1))]; exact q2,q3⟩⟩
theorem rR {H0 H1 H2 : Hp} {d : Addr} {n : Nat} {dk : List (Key × V)} {g : Str -> Str -> Option Addr} {F0 : List Addr} (h : BD H0 H1 d n dk g) (k : KF F0 H1 H2) (hd : d ∉ F0) (hi : ∀ y a,aK dk (.inr y) = some (.ref a) -> a ∉ F0) : BD H0 H2 d n dk g :=
 ⟨k _ _ hd h.at_,h.few,h.inj,fun x => by
  rcases h.ex x with z | ⟨a,row,q1,q2,q3⟩
  ·exact .inl z
  ·exact .inr ⟨a,row,q1,k _ _ (hi x a q1) q2,q3⟩⟩
def wE : List Str := ["part","stand","bar","allow","known","held","barred","stand_in","learn"]
structure LB (C : Addr) (F : List Addr) (H : Hp) (x : Addr) (rows : List (Str × List Str)) (m : Nat) (g : Str -> Str -> Option Addr) (bs ns : List Str) : Prop where
 ex : ∃ (F0 : List Addr) (dx s b : Addr) (fs : List (Str × V)) (dk : List (Key × V)),LA C F0 H x rows ns /\ H x = some (.ins C dx fs) /\ fs.lookup ("stands" : Str) = some (.ref s) /\ fs.lookup ("bars" : Str) = some (.ref b) /\ BD (hF F) H s m dk g /\ H b = some (.dK (aN bs (.bl true))) /\
  s ≠ b /\ s ∉ F0 /\ b ∉ F0 /\ (∀ y a,aK dk (.inr y) = some (.ref a) -> a ∉ F0 /\ a ≠ b) /\ (∀ a ∈ F0,a ∈ F) /\ s ∈ F /\ b ∈ F /\ (∀ a ∈ F,∃ kv,H a = some (.dK kv)) /\ ∀ m ∈ wE,fs.lookup m = none
section
variable {C : Addr} {F : List Addr} {H H' : Hp} {x : Addr} {rows : List (Str × List Str)} {m : Nat} {g : Str -> Str -> Option Addr} {bs ns : List Str}
theorem LB.same (h : LB C F H x rows m g bs ns) (e : ay H H') : LB C F H' x rows m g bs ns := by
 obtain ⟨F0,dx,s,b,fs,dk,la,ex,es,eb,bd,hb,q1,q2,q3,q4,q5,q6,q7,q8,q9⟩ := h.ex
 exact ⟨F0,dx,s,b,fs,dk,la.same e,e _ _ ex,es,eb,bd.same e,e _ _ hb,q1,q2,q3,q4,q5,q6,q7,fun a ha => by obtain ⟨kv,z⟩ := q8 a ha; exact ⟨kv,e _ _ z⟩,q9⟩
theorem LB.not (h : LB C F H x rows m g bs ns) {a : Addr} {o : HO} (e : H a = some o) (k : ∀ kv,o ≠ .dK kv) : a ∉ F := fun z => by
 obtain ⟨F0,dx,s,b,fs,dk,la,ex,es,eb,bd,hb,q1,q2,q3,q4,q5,q6,q7,q8,q9⟩ := h.ex
 obtain ⟨kv,e'⟩ := q8 a z
 rw [e] at e'
 exact k kv (AZ e')
theorem LB.free (h : LB C F H x rows m g bs ns) {a : Addr} (e : H a = none) : a ∉ F := fun z => by
 obtain ⟨F0,dx,s,b,fs,dk,la,ex,es,eb,bd,hb,q1,q2,q3,q4,q5,q6,q7,q8,q9⟩ := h.ex
 obtain ⟨kv,e'⟩ := q8 a z
 rw [e] at e'
 cases e'
theorem LB.la (h : LB C F H x rows m g bs ns) : ∃ F0,LA C F0 H x rows ns /\ (∀ a ∈ F0,a ∈ F) /\ ∀ H' rows' ms,LA C F0 H' x rows' ms -> KF F0 H H' -> LB C F H' x rows' m g bs ms := by
 obtain ⟨F0,dx,s,b,fs,dk,la,ex,es,eb,bd,hb,q1,q2,q3,q4,q5,q6,q7,q8,q9⟩ := h.ex
 refine ⟨F0,la,q5,fun H' rows' ms la' k => ?_⟩
 have xn : x ∉ F0 := la.not ex (fun _ z => nomatch z)
 refine ⟨F0,dx,s,b,fs,dk,la',k _ _ xn ex,es,eb,rR bd k q2 fun y a e => (q4 y a e).1,k _ _ q3 hb,q1,q2,q3,q4,q5,q6,q7,fun a ha => ?_,q9⟩
 by_cases c : a ∈ F0
 ·exact la'.dict c
 ·obtain ⟨kv,e⟩ := q8 a ha
  exact ⟨kv,k _ _ c e⟩
theorem LB.at_ (h : LB C F H x rows m g bs ns) : ∃ (dx s b : Addr) (fs : List (Str × V)) (dk : List (Key × V)),H x = some (.ins C dx fs) /\ fs.lookup ("stands" : Str) = some (.ref s) /\ fs.lookup ("bars" : Str) = some (.ref b) /\ BD (hF F) H s m dk g /\ H b = some (.dK (aN bs (.bl true))) /\ (∀ m ∈ wE,fs.lookup m = none) /\ s ∈ F /\ b ∈ F /\
  (∀ ms,LB C F (aq H b (.dK (aN ms (.bl true)))) x rows m g ms ns /\ KF F H (aq H b (.dK (aN ms (.bl true))))) := by
 obtain ⟨F0,dx,s,b,fs,dk,la,ex,es,eb,bd,hb,q1,q2,q3,q4,q5,q6,q7,q8,q9⟩ := h.ex
 refine ⟨dx,s,b,fs,dk,ex,es,eb,bd,hb,q9,q6,q7,fun ms => ⟨⟨F0,dx,s,b,fs,dk,?_,?_,es,eb,jI bd (fun z => q1 z.symm) (fun y e => (q4 y b e).2 rfl) _,ac,q1,q2,q3,q4,q5,q6,q7,fun a ha => ?_,q9⟩,KF.put _ q7⟩⟩
 ·obtain ⟨dx',p,n,fs',rs,a,b',c,d,e,f,i,j,k⟩ := la.ex
  subst i
  have bp : p ≠ b := fun z => q3 (by simp [z])
  have bn : n ≠ b := fun z => q3 (by simp [z])
  have br : b ∉ rs := fun z => q3 (by simp [z])
  have xb : x ≠ b := fun z => by rw [z,hb] at a; cases a
  exact ⟨dx',p,n,fs',rs,by rw [af xb]; exact a,b',c,d.other br,by rw [af bp]; exact e,by rw [af bn]; exact f,rfl,j,k⟩
 ·rw [af (fun z => by rw [z,hb] at ex; cases ex)]
  exact ex
 ·by_cases c : a = b
  ·exact ⟨_,by rw [c]; exact ac⟩
  ·obtain ⟨kv,e⟩ := q8 a ha
   exact ⟨kv,by rw [af c]; exact e⟩
theorem LB.stands (h : LB C F H x rows m g bs ns) {s r : Addr} {dx : Addr} {fs : List (Str × V)} {u : HO} {m' : Nat} {dk' : List (Key × V)} {g' : Str -> Str -> Option Addr} {F' : List Addr} (ex : H x = some (.ins C dx fs)) (es : fs.lookup ("stands" : Str) = some (.ref s)) (kF : ∀ a ∈ F,a ∈ F') (K2 : ∀ a o,a ∉ F' -> H a = some o -> H' a = some o)
  (keep : ∀ a o,H a = some o -> a ≠ s -> (∀ dk,H s = some (.dK dk) -> ∀ y,aK dk (.inr y) ≠ some (.ref a)) -> H' a = some o) (bd : BD (hF F') H' s m' dk' g') (inn : ∀ dk,H s = some (.dK dk) -> ∀ y a,aK dk' (.inr y) = some (.ref a) -> aK dk (.inr y) = some (.ref a) ∨ H a = none) (dd : ∀ a ∈ F',∃ kv,H' a = some (.dK kv)) : LB C F' H' x rows m' g' bs ns := by
 obtain ⟨F0,dx',s',b,fs',dk,la,ex',es',eb,bd0,hb,q1,q2,q3,q4,q5,q6,q7,q8,q9⟩ := h.ex
 rw [ex'] at ex
 cases ex
 rw [es'] at es
 cases es
 have out : ∀ a,a ∈ F0 -> a ≠ s /\ (∀ dk,H s = some (.dK dk) -> ∀ y,aK dk (.inr y) ≠ some (.ref a)) := fun a ha => ⟨fun z => q2 (by rw [<- z]; exact ha),fun dk2 e y z => by
  rw [bd0.at_] at e
  cases e
  exact (q4 y a z).1 ha⟩
 have bo : b ≠ s /\ (∀ dk,H s = some (.dK dk) -> ∀ y,aK dk (.inr y) ≠ some (.ref b)) := ⟨fun z => q1 z.symm,fun dk2 e y z => by
  rw [bd0.at_] at e
  cases e
  exact (q4 y b z).2 rfl⟩
 have kp : ∀ a ∈ F0,∀ o,H a = some o -> H' a = some o := fun a ha o e => keep a o e (out a ha).1 (out a ha).2
 have xk : H' x = some (.ins C dx fs) := keep x _ ex' (fun z => by rw [z,bd0.at_] at ex'; cases ex') fun dk2 e y z => by
  rw [bd0.at_] at e
  cases e
  rcases bd0.ex y with ⟨z1,_⟩ | ⟨a,row,z1,z2,_⟩
  ·rw [z] at z1; cases z1
  ·rw [z] at z1
   cases z1
   rw [ex'] at z2
   cases z2
 refine ⟨F0,dx,s,b,fs,dk',?_,xk,es',eb,bd,keep b _ hb bo.1 bo.2,q1,q2,q3,fun y a e => ?_,fun a ha => kF a (q5 a ha),kF s q6,kF b q7,dd,q9⟩
 ·obtain ⟨dx',p,n,fs',rs,a,b',c,d,e,f,i,j,k⟩ := la.ex
  subst i
  rw [ex'] at a
  cases a
  refine ⟨dx,p,n,fs,rs,xk,b',c,?_,kp p (by simp) _ e,kp n (by simp) _ f,rfl,j,k⟩
  clear f e c b' k
  have : ∀ {rows : List (Str × List Str)} {rs : List Addr},a9 H rows rs -> (∀ a ∈ rs,∀ o,H a = some o -> H' a = some o) -> a9 H' rows rs := fun {rows} => by
   induction rows with
   | nil => intro rs d _; cases rs with | nil => exact d | cons _ _ => exact d.elim
   | cons r1 rows ih =>
    intro rs d kk
    cases rs with
    | nil => exact d.elim
    | cons a rs => exact ⟨kk a (by simp) _ d.1,ih d.2 fun b hb => kk b (by simp [hb])⟩
  exact this d fun a ha => kp a (by simp [ha])
 ·rcases inn dk bd0.at_ y a e with z | z
  ·exact q4 y a z
  ·refine ⟨fun w => ?_,fun w => ?_⟩
   ·obtain ⟨kv,e'⟩ := la.dict w
    rw [z] at e'
    cases e'
   ·rw [w,hb] at z
    cases z
end
end Sw
namespace L2
open PySem PySem.Spec PyProof.Rows XH
section
variable {prog : Program} {w : World} {A : Around} {E : Value -> Shared -> Prop} {s : Shared}
end
section
variable {prog : Program} {w : World} {A : Around} {R : Result -> Shared -> Prop} {I : Addr} {fp wr : List Addr} {G : Array GenState -> Array GenState -> Prop} {n : Nat} {P : Nat -> Value -> Prop} {St : Nat -> Shared -> Prop}
end
section
variable {prog : Program} {w : World} {A : Around} {E : Value -> Shared -> Prop} {s : Shared}
end
open Sw So
section
variable {prog : Program} {w : World} {A : Around} {E : Value -> Shared -> Prop} {s : Shared}
end
section
variable {prog : Program} {w : World} {A : Around} {E : Value -> Shared -> Prop} {s : Shared}
end
section
variable {X : Cx} {e : Expr} {te : TE} {p1 p2 pos pos2 : Pos}
end
theorem eB {X : Cx} (hc : X.calm = true) : de X (.builtin "sorted") (fun xs H Q => ∃ d ks kvs,xs = [.ref d] /\ H d = some (.dK kvs) /\ kvs.map (·.1) = ks.map (fun y => (.inr y : Key)) /\ ks.Nodup /\ ks.length < 64 /\
  ∀ p ys,H p = none -> ys.Perm ks -> sortedS ys = true -> Q (.ref p) (aq H p (.lst (ys.map V.str)))) := by
 intro pins s σ H xs us Q I r h
 obtain ⟨d,ks,kvs,rfl,hk,ek,nd,l64,q⟩ := h
 obtain ⟨u,rfl,ru⟩ := vals1 r
 cases ru
 obtain ⟨z,hS,ws,rel,D⟩ := gO I.hok hk
 obtain ⟨ep,hat⟩ := D.dictAt
 have lw : ws.length = ks.length := by
  rw [<- rel.length]
  have := congrArg List.length ek
  simpa using this
 refine Calls.call_function_entry kind_sorted plain_sorted entry_sorted (args_sorted1 _) ?_
 unfold Builtin.«sorted»
 refine wpAny_bind (m := checkCount "sorted" 1 1 _) (wpAny_pure ?_)
 refine wpAny_bind (kM (A := X.A.in1) (PySem.W.kdl_dict (knd := aX X.prog X.w) (kvs := ws) (ep := ep) hS) (I.ok.hd hc) hat (by rw [<- rel.length]; exact z) fun h' tk acc hlt hkp hacc => ?_)
 have la : acc.toList.length = ks.length := by rw [Ar,hacc.1,lw]
 have SA : StrsAre acc.toList ks := mZ la fun j v hv => by
  obtain ⟨k,x,e1,e2⟩ := hacc.2 j v (by rw [<- As]; exact hv)
  obtain ⟨⟨k',v'⟩,e3,rfl,_⟩ := iY rel e1
  have e4 : (kvs.map (·.1))[j]? = some k' := by rw [AI,e3]; rfl
  rw [ek,AI] at e4
  cases e5 : ks[j]? with
  | none => rw [e5] at e4; cases e4
  | some y =>
   rw [e5] at e4
   cases e4
   obtain ⟨t,ht⟩ := pR e2
   exact ⟨y,t,rfl,ht⟩
 refine wpAny_bind (wpAny_newList ?_ (by rw [la,<- lw,<- rel.length]; exact z))
 have hoL : (h'.push (seqObj "list" acc.toList.toArray 0)).get? h'.objs.size = some (seqObj "list" acc.toList.toArray 0) := Heap.get?_push_size _ rfl
 refine wpAny_bind (wpAny_holding (wpAny_call_entry slot_list_sort ⟨_,hoL,rfl⟩ entry_list_sort (list_sort_treeK strKind_oneLt hoL SA.keysOf (fun v₁ v₂ rest e => keyKind_strs (by rw [<- e]; exact SA)) (by rw [la]; exact l64) fun st' hp hs => ⟨_,rfl,?_⟩) (args_list_sort _)))
 obtain ⟨ys,h1,h2,h3⟩ := sorted_out_str SA hp hs
 have sl : s.heap.objs.size <= h'.objs.size := Nat.le_of_lt hlt
 refine wpAny_pure ⟨_,rfl,.ref h'.objs.size,_,I.laid (a := h'.objs.size) (o := .lst (ys.map V.str)) (h' := sortedHeap (h'.push (seqObj "list" acc.toList.toArray 0)) h'.objs.size acc.toList ((arrOf st').map (·.2))) (t' := tk) (fun b o eo => ?_) sl ?_,rfl,q _ ys (I.hok.fresh sl) h2 h3⟩
 ·have eo' := hkp b o eo
  have bl := Heap.lt_size eo'
  rw [sortedHeap_old (AH bl) (by rw [size_push']; exact Nat.lt_succ_of_lt bl)]
  exact Heap.get?_push_of_some _ eo'
 ·obtain ⟨e,he⟩ := sortedHeap_at (out := (arrOf st').map (·.2)) hoL
  refine ⟨by rw [A2,h2.length_eq,<- lw,<- rel.length]; exact z,((arrOf st').map (·.2)).toList,e,fz h1,?_⟩
  rw [Array.toArray_toList]
  exact he
end L2
namespace Sw
open PySem L2 XH Hm
end Sw
namespace L2
open PySem PySem.Spec PyProof.Rows XH Sw Hm
section
variable {K : A0} {β : Type} {a : Addr} {xs : List V} {n : Nat} {js : List Nat} {tc : TT} {te : TE} {σ : L2.St} {H1 : Hp} {Q : VK}
end
end L2
namespace Sw
open PySem L2 XH Hm
section
variable (C : Addr)
end
end Sw
namespace L2
open PySem PySem.Spec PyProof.Rows XH Sw
end L2
namespace Sw
open PySem L2 XH Hm
end Sw
namespace L2
open PySem PySem.Spec PyProof.Rows XH Sw
end L2
namespace Sw
open PySem L2 XH Hm PySem.NumText
end Sw
namespace L2
open PySem PySem.Spec PyProof.Rows XH Sw
theorem m9 : ∀ {xs : List V} {us : List Value},xs.length = us.length -> (∀ (j : Nat) (x : V) (u : Value),xs[j]? = some x -> us[j]? = some u -> RelV x u) -> aR xs us
 | [],[],_,_ => .nil
 | x :: xs,u :: us,h,f => .cons (f 0 x u rfl rfl) (m9 (by simpa using h) fun j y w e1 e2 => f (j + 1) y w (by simpa using e1) (by simpa using e2))
 | [],_ :: _,h,_ => by simp at h
 | _ :: _,[],h,_ => by simp at h
theorem ma {X : Cx} (hc : X.calm = true) : de X (.type "list") (fun xs H Q => ∃ (d : Addr) (kvs : List (Key × V)),xs = [.ref d] /\ H d = some (.dK kvs) /\ ∀ l,H l = none -> Q (.ref l) (aq H l (.lst (kvs.map fun p => kV p.1)))) := by
 intro pins s σ H xs us Q I r h
 obtain ⟨d,kvs,rfl,hk,q⟩ := h
 obtain ⟨u,rfl,ru⟩ := vals1 r
 cases ru
 obtain ⟨z,hS,ws,rel,D⟩ := gO I.hok hk
 obtain ⟨ep,hat⟩ := D.dictAt
 refine PySem.W.kdl_call (PySem.W.kdl_dict (knd := aX X.prog X.w) (kvs := ws) (ep := ep) hS) (I.ok.hd hc) hat (by rw [<- rel.length]; exact z) fun h' tk acc' c' kp hS' hacc => ?_
 have hv : aR (kvs.map fun p => kV p.1) acc'.toList := m9 (by
   have el : acc'.toList.length = acc'.size := by simp
   rw [A2,el,hacc.1,rel.length]) fun j x u e1 e2 => by
  rw [AI] at e1
  obtain ⟨⟨k,v⟩,e3,rfl⟩ := Ah.mp e1
  obtain ⟨k',x',e4,e5⟩ := hacc.2 j u (by rw [<- As]; exact e2)
  obtain ⟨u',e6,_⟩ := pS rel j e3
  rw [e6] at e4
  cases e4
  exact pR e5
 exact ⟨.ref s.heap.objs.size,_,I.laid (t' := tk) kp (A4 _) (show a8 X.prog X.w _ h' _ (.lst _) from ⟨by rw [A2]; exact z,acc'.toList,c',hv,by simpa using hS'⟩),rfl,q _ (I.hok.fresh (A4 _))⟩
end L2
namespace Sw
open PySem L2 XH PyProof.Rows Wo Hm
def qf (K : A0) : Sp := fun vs H Q _ => ∃ (d : Addr) (good : Str) (b m : Nat) (vw : Str -> Str -> Int × Int) (g : Str -> Str -> Option Addr) (U : List Str) (Rt : List Str -> Int -> Int -> Prop),vs = [.ref d,.str good] /\ p9 K b vw H d g /\
 (∀ x y,kX g x y -> y ∈ U) /\ U.length <= m /\ m <= 60 /\ 1 <= b /\ b * (m + 2) <= 4000 /\ Rt [good] 1 1 /\ (∀ c p q x t r s,Rt c p q -> g (aM c) x = some t -> Fr r s (p * (vw (aM c) x).1) (q * (vw (aM c) x).2) -> Rt (c ++ [x]) r s) /\
 ∀ (l : Addr) (cs : List (List Str)) (H' : Hp),ay H H' -> H l = none -> yr K b Rt (fun c => H c = none) H' l cs -> eA (kX g) good cs cs.length (fun _ => False) -> Q (.ref l) H'
def fT : Sp := fun vs H Q _ => ∃ (d : Addr) (good : Str) (rows : List (Str × List Str)) (ps : List (Str × Str)),vs = [.ref d,.str good] /\ DD H d rows /\ bJ rows ps /\ ps.length <= 60 /\
 ∀ (l : Addr) (H' : Hp) (ys : List Str),ay H H' -> H l = none -> H' l = some (.lst (ys.map V.str)) -> sortedS ys = true -> ys.Nodup -> (∀ y,y ∈ ys ↔ Led ps good y) -> Q (.ref l) H'
theorem hZ {p st b n : V} : (fA p st b n).lookup ("stands" : Str) = some st /\ (fA p st b n).lookup ("bars" : Str) = some b /\ ∀ m ∈ wE,(fA p st b n).lookup m = none := by
 refine ⟨?_,?_,fun m hm => ?_⟩
 ·unfold fA
  rw [aL,if_neg (by decide),aL,if_neg (by decide),aL,if_pos rfl]
 ·unfold fA
  rw [aL,if_neg (by decide),aL,if_pos rfl]
 ·unfold wE at hm
  simp only [A8,Au,or_false] at hm
  unfold fA
  rcases hm with rfl | rfl | rfl | rfl | rfl | rfl | rfl | rfl | rfl <;> (rw [aL,if_neg (by decide),aL,if_neg (by decide),aL,if_neg (by decide),aL,if_neg (by decide)]; rfl)
theorem uv {H0 H1 : Hp} {d : Addr} (e : H1 d = some (.dK [])) : BD H0 H1 d 0 [] (fun _ _ => none) := ⟨e,A4 _,fun x x' a h => (by cases h),fun x => .inl ⟨rfl,fun _ => rfl⟩⟩
def ie (bs : List Str) (z : Str) : List Str := bs.filter fun y => decide (y ≠ z)
theorem i9 (bs : List Str) (v : V) (z : Str) : gM (aN bs v) (.inr z) = aN (ie bs z) v := by
 unfold gM aN ie
 rw [List.filter_map]
 congr 1
 apply List.filter_congr
 intro y _
 by_cases c : y = z
 ·simp [c]
 ·have : ¬ ((.inr y : Key) = .inr z) := fun e => c (by injection e)
  simp [c]
theorem ja {bs : List Str} {z : Str} (h : z ∉ bs) : ie bs z = bs := by
 unfold ie
 rw [List.filter_eq_self]
 intro y hy
 exact decide_eq_true fun e => h (by rw [<- e]; exact hy)
def iA (H : Hp) (r : V) (p q : Int) : Prop := (r = .non /\ p = 1 /\ q = 1) ∨ ∃ t,r = .ref t /\ H t = some (.tup [.int p,.int q]) /\ 0 < p /\ nO p q /\ Bd 200 p /\ Bd 200 q
def gc (K : A0) (H : Hp) (r : V) : Prop := r ≠ .non /\ (nU K H r false ∨ ∃ (t : Addr) (p q : Int),r = .ref t /\ H t = some (.tup [.int p,.int q]) /\ nU K H r true /\ p <= 0)
theorem gc.same {K : A0} {H H' : Hp} {r : V} (h : gc K H r) (g : ay H H') : gc K H' r := by
 obtain ⟨n,h | ⟨t,p,q,e,et,f,z⟩⟩ := h
 ·exact ⟨n,.inl (h.same g)⟩
 ·exact ⟨n,.inr ⟨t,p,q,e,g _ _ et,f.same g,z⟩⟩
def iB (g : Str -> Str -> Option Addr) (zg zo : Str) (t : Addr) : Str -> Str -> Option Addr := fun a b => if a = zg /\ b = zo then some t else g a b
section
variable (K : A0) (C cN cS cI : Addr)
def fU : Sp := fun vs H Q _ => ∃ (x dx : Addr),vs = [.ref x] /\ H x = some (.ins C dx []) /\ ∀ H' F,(∀ a o,a ≠ x -> H a = some o -> H' a = some o) -> (∀ a ∈ F,H a = none) -> LB C F H' x [] 0 (fun _ _ => none) [] [] -> Q .non H'
def me : Sp := fun vs H Q E => ∃ (x : Addr) (v : V) (F : List Addr) (rows : List (Str × List Str)) (m : Nat) (g : Str -> Str -> Option Addr) (bs ns : List Str),vs = [.ref x,v] /\ LB C F H x rows m g bs ns /\ bs.length <= 200 /\ ns.Nodup /\ ns.length <= 79 /\ (gk v ∨ c7 K H v) /\
 (¬ gk v -> ∀ H',ay H H' -> E (.ref cN) none H') /\
 ∀ z,v = .str z -> Nm z -> ∀ H' ms,KF F H H' -> LB C F H' x rows m g (bI bs z) ms -> ms.Nodup -> (∀ y,y ∈ ms ↔ y ∈ ns ∨ y = z) -> Q .non H'
def ig : Sp := fun vs H Q E => ∃ (x : Addr) (v : V) (F : List Addr) (rows : List (Str × List Str)) (m : Nat) (g : Str -> Str -> Option Addr) (bs ns : List Str),vs = [.ref x,v] /\ LB C F H x rows m g bs ns /\ (gk v ∨ c7 K H v) /\
 (¬ gk v -> ∀ H',ay H H' -> E (.ref cN) none H') /\
 ∀ z,v = .str z -> Nm z -> ∀ H',KF F H H' -> LB C F H' x rows m g (ie bs z) ns -> Q .non H'
def fG : Sp := fun vs H Q E => ∃ (x : Addr) (v w r : V) (F : List Addr) (rows : List (Str × List Str)) (m : Nat) (g : Str -> Str -> Option Addr) (bs ns : List Str),vs = [.ref x,v,w,r] /\ LB C F H x rows m g bs ns /\ m <= 1000 /\ ns.Nodup /\ ns.length <= 78 /\ (gk v ∨ c7 K H v) /\ (gk w ∨ c7 K H w) /\ ((∃ p q,iA H r p q) ∨ gc K H r) /\
 (¬ (gk v /\ gk w) -> ∀ H',ay H H' -> E (.ref cN) none H') /\
 ∀ zg zo,v = .str zg -> w = .str zo -> Nm zg -> Nm zo ->
  ((zg = zo ∨ kX g zg zo ∨ gc K H r) -> ∀ H',ay H H' -> E (.ref cS) none H') /\
  (zg ≠ zo -> ¬ kX g zg zo -> ∀ p q,iA H r p q -> ∀ (F' : List Addr) (H' : Hp) (ms : List Str) (t : Addr),KF F H H' -> FG F F' H -> LB C F' H' x rows (m + 2) (iB g zg zo t) bs ms -> H' t = some (.tup [.int p,.int q]) -> (∀ r',r = .ref r' -> t = r') -> ms.Nodup -> (∀ y,y ∈ ms ↔ y ∈ ns ∨ y = zg ∨ y = zo) -> Q .non H')
def Blk (ps : List (Str × Str)) (bs : List Str) (y : Str) : Prop := ∃ b ∈ bs,Led ps y b
structure oo (K : A0) (H : Hp) (g : Str -> Str -> Option Addr) (vw : Str -> Str -> Int × Int) : Prop where
 fr : ∀ x y t,g x y = some t -> H t = some (.tup [.int (vw x y).1,.int (vw x y).2]) /\ 0 < (vw x y).1 /\ nO (vw x y).1 (vw x y).2 /\ Bd 200 (vw x y).1 /\ Bd 200 (vw x y).2
 nm : ∀ x y t,g x y = some t -> Nm x /\ Nm y
end
end Sw
namespace L2
open PySem PySem.Spec PyProof.Rows XH Sw So
section
variable {prog : Program} {w : World} {A : Around} {E : Value -> Shared -> Prop} {s : Shared}
end
end L2
namespace Sw
open PySem L2 XH PyProof.Rows
theorem rS {i : Int} (h0 : 0 <= i) (h : i < 26) : eO cY.cps.toList i = some (97 + i.toNat) := by
 have key : ∀ n : Nat,n < 26 -> cY.cps.toList[n]? = some (97 + n) := by decide
 have := key i.toNat (by omega)
 have e := bY this
 rwa [Int.toNat_of_nonneg h0] at e
def sgn (c st : Int) (k : Nat) : Nat := 97 + ((c + (0 + (k : Int)) * st).fmod 26).toNat
def jJ (st : Int) : Prop := st = 1 ∨ st = 3 ∨ st = 5 ∨ st = 7 ∨ st = 9 ∨ st = 11 ∨ st = 15 ∨ st = 17
theorem rT {c st : Int} (hs : jJ st) {k k' : Nat} (h : k < 14) (h' : k' < 14) (e : sgn c st k = sgn c st k') : k = k' := by
 unfold sgn at e
 rw [Int.fmod_eq_emod_of_nonneg _ (by decide),Int.fmod_eq_emod_of_nonneg _ (by decide)] at e
 rcases hs with rfl | rfl | rfl | rfl | rfl | rfl | rfl | rfl <;> omega
theorem jK (x y : Str) : (x ++ y).cps.toList = x.cps.toList ++ y.cps.toList := by
 show (x.cps ++ y.cps).toList = _
 simp
def mf : Sp := fun vs H Q _ => ∃ a b : Int,vs = [.int a,.int b] /\ 0 < b /\ Q (.int (bA a b)) H
section
variable (K : A0) (cP : Addr)
end
open Wo Hm
def rV (md : Int) (pre suf : List Nat) (k : Nat) (s : Nat) (z : Str) : Prop := if md = 1 then z.length = k + 1 else if md = 2 then ∃ x,z.cps.toList = x ++ [s] else z.cps.toList = pre ++ s :: suf
theorem oq {zs : List Str} {md c st : Int} (hs : jJ st) {pre suf : List Nat} (l : zs.length <= 12) (h : ∀ (k : Nat) (z : Str),zs[k]? = some z -> Nm z /\ rV md pre suf k (sgn c st k) z) : zs.Nodup := by
 unfold List.Nodup
 rw [List.pairwise_iff_getElem]
 intro i j hi hj ij e
 have h1 := (h i _ (AD hi)).2
 have h2 := (h j _ (AD hj)).2
 rw [e] at h1
 unfold rV at h1 h2
 by_cases c1 : md = 1
 ·rw [if_pos c1] at h1 h2
  omega
 rw [if_neg c1] at h1 h2
 have : sgn c st i = sgn c st j := by
  by_cases c2 : md = 2
  ·rw [if_pos c2] at h1 h2
   obtain ⟨x,h1⟩ := h1
   obtain ⟨y,h2⟩ := h2
   rw [h1] at h2
   have := (List.append_inj' h2 rfl).2
   injection this
  ·rw [if_neg c2] at h1 h2
   rw [h1] at h2
   have := List.append_cancel_left h2
   injection this
 have := rT hs (by omega) (by omega) this
 omega
def ik : Sp := fun vs H Q _ => ∃ n m : Int,vs = [.int n,.int m] /\ 0 <= m /\ m <= 12 /\ ∀ (l : Addr) (H' : Hp) (zs : List Str),ay H H' -> H' l = some (.lst (zs.map V.str)) -> (zs.length : Int) = m -> (∀ z ∈ zs,Nm z) -> zs.Nodup -> Q (.ref l) H'
end Sw
namespace L2
open PySem PySem.Spec PyProof.Rows XH Sw
section
variable {X : Cx} {k j : Nat} {f C : Addr} {ps : List Str} {sp : Sp} {dvs : List V} {x m : Str} {p pos apos : Pos} {e o : Expr} {es : List Expr} {ta tb : TE} {t : TA} {E : L2.St -> XK}
theorem qg {pl : Sem Bool} {K : A0} (hK : X.K = K) (D : dw X.prog X.w X.K X.mg X.base (cB X.prog X.w) k f ps dvs sp) (hr : bH j X.A) (hk : k <= j) (he : PE (X.wish (XS X E)) o ta) (ha : PA (X.wish (XS X E)) (e :: es) t)
  (hst : starEach (e :: es) X.env = (false,eval e X.env) :: starEach es X.env := by rfl) (hpl : (backTo pos (starEach es X.env)).any (·.1) = false := by rfl)
  (ht : eval (.Call (.Attribute o m apos) (e :: es) [] pos) X.env = (do
   let ov <- eval o X.env
   standAt apos.atName
   let (f,first) <- holding [ov] (getMethod ov m pl)
   callWith pos f first (backTo pos (starEach (e :: es) X.env)) (backToKw pos (keywordEach [] X.env))) := by rfl) :
  PE (X.wish (XS X E)) (.Call (.Attribute o m apos) (e :: es) [] pos) (jy K m f sp dvs E ta t) := by
 subst hK
 exact ro (X := X.wish (XS X E)) D hr hk cp he ha hst hpl ht
end
end L2
namespace Sw
open PySem L2 XH PyProof.Rows Wo Hm
theorem LB.far {C : Addr} {F : List Addr} {H : Hp} {x l : Addr} {rows : List (Str × List Str)} {m : Nat} {g : Str -> Str -> Option Addr} {bs ns : List Str} {o : HO} (h : LB C F H x rows m g bs ns) (e : H l = some o) (k1 : ∀ kv,o ≠ .dK kv) (k2 : ∀ C dx fs,o ≠ .ins C dx fs) (u : HO) : LB C F (aq H l u) x rows m g bs ns := by
 have lF := h.not e k1
 obtain ⟨F0,dx,s,b,fs,dk,la,ex,es,eb,bd,hb,q1,q2,q3,q4,q5,q6,q7,q8,q9⟩ := h.ex
 have xl : x ≠ l := fun z => by
  rw [z,e] at ex
  exact k2 _ _ _ (AZ ex)
 have sl : s ≠ l := fun z => lF (by rw [<- z]; exact q6)
 have bl : b ≠ l := fun z => lF (by rw [<- z]; exact q7)
 refine ⟨F0,dx,s,b,fs,dk,?_,by rw [af xl]; exact ex,es,eb,jI bd (fun z => sl z.symm) (fun y z => ?_) _,by rw [af bl]; exact hb,q1,q2,q3,q4,q5,q6,q7,fun a ha => ?_,q9⟩
 ·obtain ⟨dx',p,n,fs',rs,a,b',c,d,e',f,i,j,k⟩ := la.ex
  subst i
  have pl : p ≠ l := fun z => lF (q5 _ (by simp [z]))
  have nl : n ≠ l := fun z => lF (q5 _ (by simp [z]))
  have rl : l ∉ rs := fun z => lF (q5 _ (by simp [z]))
  exact ⟨dx',p,n,fs',rs,by rw [af xl]; exact a,b',c,d.other rl,by rw [af pl]; exact e',by rw [af nl]; exact f,rfl,j,k⟩
 ·rcases bd.ex y with ⟨z1,_⟩ | ⟨a,row,z1,z2,_⟩
  ·rw [z] at z1; cases z1
  ·rw [z] at z1
   cases z1
   rw [e] at z2
   exact k1 _ (AZ z2)
 ·obtain ⟨kv,w⟩ := q8 a ha
  exact ⟨kv,by rw [af (fun z => lF (by rw [<- z]; exact ha))]; exact w⟩
theorem oo.keep {K : A0} {H H' : Hp} {g : Str -> Str -> Option Addr} {vw : Str -> Str -> Int × Int} (h : oo K H g vw) (k : ∀ a xs,H a = some (.tup xs) -> H' a = some (.tup xs)) : oo K H' g vw := ⟨fun x y t e => ⟨k _ _ (h.fr x y t e).1,(h.fr x y t e).2⟩,h.nm⟩
def jX (es : List (Str × Str × Addr)) : List (List Key × V) := es.map fun e => ([.inr e.1,.inr e.2.1],.ref e.2.2)
theorem rW (es : List (Str × Str × Addr)) : (jX es).length = es.length := A2 _
theorem jL {es : List (Str × Str × Addr)} {a b : Str} {v : V} (h : aK (jX es) [.inr a,.inr b] = some v) : ∃ t,v = .ref t /\ (a,b,t) ∈ es := by
 obtain ⟨e,he,z⟩ := AF.mp (fF h)
 cases z
 exact ⟨_,rfl,he⟩
theorem qh {es : List (Str × Str × Addr)} {a b : Str} (h : ∀ t,(a,b,t) ∉ es) : aK (jX es) [.inr a,.inr b] = none := by
 cases e : aK (jX es) [.inr a,.inr b] with
 | none => rfl
 | some v =>
  obtain ⟨t,rfl,z⟩ := jL e
  exact absurd z (h t)
theorem kS {es : List (Str × Str × Addr)} {a b : Str} {t : Addr} (h : (a,b,t) ∈ es) : ∃ t',aK (jX es) [.inr a,.inr b] = some (.ref t') /\ (a,b,t') ∈ es := by
 obtain ⟨w,hw⟩ := jG (kvs := jX es) (k := [.inr a,.inr b]) (v := .ref t) (AF.mpr ⟨_,h,rfl⟩)
 obtain ⟨t',rfl,z⟩ := jL hw
 exact ⟨t',hw,z⟩
theorem rX {es : List (Str × Str × Addr)} {a b : Str} : (aK (jX es) [.inr a,.inr b]).isSome = true ↔ ∃ t,(a,b,t) ∈ es := by
 constructor
 ·intro h
  obtain ⟨v,hv⟩ := Ak.mp h
  obtain ⟨t,_,z⟩ := jL hv
  exact ⟨t,z⟩
 ·rintro ⟨t,z⟩
  obtain ⟨t',e,_⟩ := kS z
  rw [e]
  rfl
theorem rY {es : List (Str × Str × Addr)} {a b : Str} (h : ∀ t,(a,b,t) ∉ es) (t : Addr) : putK (jX es) [.inr a,.inr b] (.ref t) = jX (es ++ [(a,b,t)]) := by
 rw [L2.d8 _ (qh h)]
 unfold jX
 rw [Ab]
 rfl
theorem vh {K : A0} {H : Hp} {x : V} {b : Bool} {i : Int} (h : Wh K H x b) (e : x = .int i) : b = true := by
 cases h with
 | mk ty h1 h2 =>
  subst e
  cases ty
  have k1 : Ap K (.type "int") (.type "int") = some true := by kernel_rfl
  have k2 : Ap K (.type "int") (.type "bool") = some false := by kernel_rfl
  rw [k1] at h1
  rw [k2] at h2
  cases h1
  cases h2
  rfl
theorem vk {K : A0} {H : Hp} {t : Addr} {v : V} {b : Bool} {p q : Int} (h : nU K H v b) (ev : v = .ref t) (e : H t = some (.tup [.int p,.int q])) (lo : nO p q) : b = true := by
 cases h with
 | no ty h =>
  subst ev
  cases ty with
  | tup e' =>
   have k1 : Ap K (.type "tuple") (.type "tuple") = some true := by kernel_rfl
   rw [k1] at h
   cases h
  | lst e' => rw [e] at e'; cases e'
  | frz e' => rw [e] at e'; cases e'
  | dK e' => rw [e] at e'; cases e'
  | dT e' => rw [e] at e'; cases e'
  | ins e' => rw [e] at e'; cases e'
 | len e' h =>
  cases ev
  rw [e] at e'
  cases e'
  exact absurd rfl h
 | top e' h =>
  cases ev
  rw [e] at e'
  cases e'
  have := vh h rfl
  cases this
 | bot e' h h' =>
  cases ev
  rw [e] at e'
  cases e'
  have := vh h' rfl
  cases this
 | two e' =>
  cases ev
  rw [e] at e'
  cases e'
  rw [decide_eq_true (show 1 <= q from lo.pos),decide_eq_true lo.low]
  rfl
theorem mh {K : A0} {H : Hp} {v : V} {p q : Int} (ok : iA H v p q) (bad : gc K H v) : False := by
 rcases ok with ⟨e,_⟩ | ⟨t,rfl,et,p0,lo,_⟩
 ·exact bad.1 e
 ·rcases bad.2 with h | ⟨t',p',q',e',et',_,z⟩
  ·have := vk h rfl et lo
   cases this
  ·cases e'
   rw [et] at et'
   cases et'
   omega
theorem fV {H : Hp} {v : V} {p q p' q' : Int} (h : iA H v p q) (k : iA H v p' q') : p = p' /\ q = q' := by
 rcases h with ⟨e,rfl,rfl⟩ | ⟨t,e,et,_⟩
 ·rcases k with ⟨_,rfl,rfl⟩ | ⟨t',e',_⟩
  ·exact ⟨rfl,rfl⟩
  ·rw [e] at e'
   cases e'
 ·rcases k with ⟨e',_⟩ | ⟨t',e',et',_⟩
  ·rw [e] at e'
   cases e'
  ·rw [e] at e'
   cases e'
   rw [et] at et'
   cases et'
   exact ⟨rfl,rfl⟩
theorem im {H : Hp} {v : V} {p q : Int} (h : iA H v p q) : 0 < p /\ nO p q /\ Bd 200 p /\ Bd 200 q := by
 rcases h with ⟨e,rfl,rfl⟩ | ⟨t,e,et,z⟩
 ·exact ⟨by decide,⟨by decide,by decide⟩,by unfold Bd; decide,by unfold Bd; decide⟩
 ·exact z
section
variable {K : A0} {C : Addr} {H H' : Hp} {x d : Addr} {nm : List Str} {n : Nat} {ex : List Str} {F : List Addr} {m : Nat} {g : Str -> Str -> Option Addr} {bs ns : List Str} {es : List (Str × Str × Addr)} {vw : Str -> Str -> Int × Int}
end
end Sw
namespace L2
open PySem PySem.Spec PyProof.Rows XH Sw
section
variable {prog : Program} {w : World} {A : Around} {E : Value -> Shared -> Prop} {s : Shared}
end
section
variable {X : Cx} {tg : Expr} {hd : Option Value}
end
section
variable {X : Cx} {k j : Nat} {f C : Addr} {ps : List Str} {sp : Sp} {m : Str} {p pos apos : Pos} {e o : Expr} {es : List Expr} {ta : TE} {t : TA} {hd : Option Value}
end
section
variable {X : Cx} {x n : Str} {np pos : Pos} {b0 : Stmt} {suite : List Stmt} {rest : List ExceptHandler} {C' : Addr} {tA : Addr -> TS} {th : TH}
end
open So
section
variable {X : Cx} {e : Expr} {te : TE} {p1 p2 pos pos2 : Pos}
end
end L2
namespace Sw
open PySem L2 XH PyProof.Rows Wo Hm
section
variable (K : A0) (C : Addr)
def mi : Sp := fun vs H Q _ => ∃ (x : Addr) (z : Str) (F : List Addr) (rows : List (Str × List Str)) (m : Nat) (g : Str -> Str -> Option Addr) (bs ns : List Str),vs = [.ref x,.str z] /\ LB C F H x rows m g bs ns /\ bs.length <= 200 /\ ns.Nodup /\ ns.length <= 79 /\ Nm z /\
 ∀ H' ms,KF F H H' -> LB C F H' x rows m g (bI bs z) ms -> ms.Nodup -> (∀ y,y ∈ ms ↔ y ∈ ns ∨ y = z) -> Q .non H'
def io : Sp := fun vs H Q _ => ∃ (x : Addr) (z : Str) (F : List Addr) (rows : List (Str × List Str)) (m : Nat) (g : Str -> Str -> Option Addr) (bs ns : List Str),vs = [.ref x,.str z] /\ LB C F H x rows m g bs ns /\ Nm z /\ ∀ H',KF F H H' -> LB C F H' x rows m g (ie bs z) ns -> Q .non H'
variable {K C} {cN cI : Addr}
theorem rZ (vs : List V) (H : Hp) (Q : VK) (E : XK) (h : mi C vs H Q E) : me K C cN vs H Q E0 := by
 obtain ⟨x,z,F,rows,m,g,bs,ns,rfl,lb,a1,a2,a3,nz,q⟩ := h
 refine ⟨x,.str z,F,rows,m,g,bs,ns,rfl,lb,a1,a2,a3,.inl ⟨z,rfl,nz⟩,fun n => absurd ⟨z,rfl,nz⟩ n,fun y e _ => ?_⟩
 cases e
 exact q
theorem ot (vs : List V) (H : Hp) (Q : VK) (E : XK) (h : io C vs H Q E) : ig K C cN vs H Q E0 := by
 obtain ⟨x,z,F,rows,m,g,bs,ns,rfl,lb,nz,q⟩ := h
 refine ⟨x,.str z,F,rows,m,g,bs,ns,rfl,lb,.inl ⟨z,rfl,nz⟩,fun n => absurd ⟨z,rfl,nz⟩ n,fun y e _ => ?_⟩
 cases e
 exact q
end
end Sw
namespace L2
open PySem PySem.Spec PyProof.Rows XH Sw Hm
end L2
namespace Sw
open PySem L2 XH PyProof.Rows Wo Hm
end Sw
namespace Mn
open PySem
section
variable {prog : Program} {w : World} {A : Around} {R : Result -> Shared -> Prop} {it : Addr} {fp wr : List Addr} {n : Nat} {P : Nat -> Value -> Prop} {St : Nat -> Heap -> Prop}
end
end Mn
namespace Rm
open PySem PySem.SeqAt PySem.MeetsSeq
end Rm
namespace L2
open PySem PySem.Spec PyProof.Rows XH Sw So Hm
end L2
namespace Hm
open PySem PySem.SeqAt PySem.MeetsSeq
section
variable {prog : Program} {w : World} {A : Around} {E : Value -> Shared -> Prop} {s : Shared}
end
end Hm
namespace L2
open PySem PySem.Spec PyProof.Rows XH Sw So Hm Wo
end L2
namespace Sw
open PySem L2 XH PyProof.Rows Wo Hm
theorem LB.part {C : Addr} {F : List Addr} {H : Hp} {x : Addr} {rows : List (Str × List Str)} {m : Nat} {g : Str -> Str -> Option Addr} {bs ns : List Str} (h : LB C F H x rows m g bs ns) : ∃ F0,LA C F0 H x rows ns /\ ∀ H' F0' rows' ms,KF F0 H H' -> FG F0 F0' H -> LA C F0' H' x rows' ms -> ∃ F',LB C F' H' x rows' m g bs ms /\ KF F H H' /\ FG F F' H := by
 obtain ⟨F0,dx,s,b,fs,dk,la,ex,es,eb,bd,hb,q1,q2,q3,q4,q5,q6,q7,q8,q9⟩ := h.ex
 have inn : ∀ F0' (a : Addr),a ∈ F -> a ∉ F0 -> a ∈ F.filter (fun a => decide (a ∉ F0)) ++ F0' := fun F0' a h1 h2 => Ao _ (B3.mpr ⟨h1,decide_eq_true h2⟩)
 refine ⟨F0,la,fun H' F0' rows' ms k fg la' => ⟨F.filter (fun a => decide (a ∉ F0)) ++ F0',?_,fun a o n e => k a o (fun z => n (q5 a z)) e,fun a ha => ?_⟩⟩
 ·have xn : x ∉ F0 := la.not ex (fun _ z => nomatch z)
  have out : ∀ a o,H a = some o -> a ∉ F0 -> a ∉ F0' := fun a o e n z => by
   rcases fg a z with w | w
   ·exact n w
   ·rw [e] at w; cases w
  refine ⟨F0',dx,s,b,fs,dk,la',k _ _ xn ex,es,eb,⟨k _ _ q2 bd.at_,bd.few,bd.inj,fun y => ?_⟩,k _ _ q3 hb,q1,out _ _ bd.at_ q2,out _ _ hb q3,fun y a e => ⟨?_,(q4 y a e).2⟩,fun a ha => AJ _ ha,inn _ _ q6 q2,inn _ _ q7 q3,fun a ha => ?_,q9⟩
  ·rcases bd.ex y with z | ⟨a,row,z1,z2,z3,z4⟩
   ·exact .inl z
   ·have na := (q4 y a z1).1
    exact .inr ⟨a,row,z1,k _ _ na z2,dj.mpr (inn _ _ (dj.mp z3) na),z4⟩
  ·rcases bd.ex y with ⟨z1,_⟩ | ⟨a',row,z1,z2,_⟩
   ·rw [e] at z1; cases z1
   ·rw [e] at z1
    cases z1
    exact out _ _ z2 (q4 y a e).1
  ·rcases AY.mp ha with w | w
   ·obtain ⟨w1,w2⟩ := B3.mp w
    obtain ⟨kv,e⟩ := q8 a w1
    exact ⟨kv,k _ _ (of_decide_eq_true w2) e⟩
   ·exact la'.dict w
 ·rcases AY.mp ha with w | w
  ·exact .inl (B3.mp w).1
  ·rcases fg a w with z | z
   ·exact .inl (q5 a z)
   ·exact .inr z
def jb (ps : List (Str × Str)) : List (List Key × V) := ps.map fun p => ([.inr p.1,.inr p.2],.bl true)
def mj (ps : List (Str × Str)) (a b : Str) : List (Str × Str) := if (a,b) ∈ ps then ps else ps ++ [(a,b)]
theorem r6 (ps : List (Str × Str)) : (jb ps).length = ps.length := A2 _
theorem qi (ps : List (Str × Str)) (a b : Str) : (mj ps a b).length <= ps.length + 1 := by
 unfold mj
 split
 ·omega
 ·rw [A6,AL]
  omega
theorem jM {ps : List (Str × Str)} {a b : Str} {k : List Key} {v : V} (h : (k,v) ∈ jb ps) (e : k = [.inr a,.inr b]) : v = .bl true /\ (a,b) ∈ ps := by
 obtain ⟨p,hp,z⟩ := AF.mp h
 cases z
 injection e with e1 e2
 injection e1 with e1
 injection e2 with e2 _
 injection e2 with e2
 exact ⟨rfl,by rw [<- e1,<- e2]; exact hp⟩
theorem nc {ps : List (Str × Str)} {a b : Str} : (aK (jb ps) [.inr a,.inr b]).isSome = decide ((a,b) ∈ ps) := by
 by_cases c : (a,b) ∈ ps
 ·rw [decide_eq_true c]
  obtain ⟨w,hw⟩ := jG (kvs := jb ps) (k := [.inr a,.inr b]) (v := .bl true) (AF.mpr ⟨_,c,rfl⟩)
  rw [hw]
  rfl
 ·rw [decide_eq_false c]
  cases e : aK (jb ps) [.inr a,.inr b] with
  | none => rfl
  | some v => exact absurd (jM (fF e) rfl).2 c
theorem r8 (ps : List (Str × Str)) (a b : Str) : putK (jb ps) [.inr a,.inr b] (.bl true) = jb (mj ps a b) := by
 unfold mj
 by_cases c : (a,b) ∈ ps
 ·rw [if_pos c]
  have h : (jb ps).any (fun kv => decide (kv.1 = [.inr a,.inr b])) = true := by
   rw [dH,nc,decide_eq_true c]
  unfold putK
  rw [if_pos h]
  refine (List.map_congr_left fun p hp => ?_).trans (List.map_id _)
  by_cases e : p.1 = [.inr a,.inr b]
  ·rw [if_pos e]
   obtain ⟨v,_⟩ := jM (k := p.1) (v := p.2) hp e
   show (p.1,V.bl true) = p
   rw [<- v]
  ·rw [if_neg e]
   rfl
 ·rw [if_neg c,L2.d8 _ (by
   cases e : aK (jb ps) [.inr a,.inr b] with
   | none => rfl
   | some v => exact absurd (jM (fF e) rfl).2 c)]
  unfold jb
  rw [Ab]
  rfl
theorem uw {ps : List (Str × Str)} {i : Nat} {k : List Key} {x : V} (h : (jb ps)[i]? = some (k,x)) : ∃ a b : Str,k = [.inr a,.inr b] /\ ps[i]? = some (a,b) := by
 unfold jb at h
 rw [AI] at h
 cases e : ps[i]? with
 | none => rw [e] at h; cases h
 | some p =>
  rw [e] at h
  cases h
  exact ⟨p.1,p.2,rfl,rfl⟩
theorem bJ.addP {rows : List (Str × List Str)} {ps : List (Str × Str)} (h : bJ rows ps) (a b : Str) : bJ (aO rows a b) (Sw.mj ps a b) := by
 unfold Sw.mj
 split
 ·rename_i c
  rw [fE h.keys ((h.mem a b).mpr c)]
  exact h
 ·exact h.add (a,b)
inductive oC (R : Str -> Str -> Prop) (good : Str) : List Str -> Prop where
 | one : oC R good [good]
 | snoc {c : List Str} {y : Str} : oC R good c -> R (aM c) y -> oC R good (c ++ [y])
theorem jc : ∀ {a b : List Str},a.length = b.length -> kP a b = false -> kP b a = false -> a = b
 | [],[],_,_,_ => rfl
 | [],_ :: _,e,_,_ => by simp at e
 | _ :: _,[],e,_,_ => by simp at e
 | x :: a,y :: b,e,h1,h2 => by
  rw [cZ] at h1 h2
  by_cases c : x = y
  ·subst c
   rw [if_pos rfl] at h1 h2
   rw [jc (by simpa using e) h1 h2]
  ·rw [if_neg c] at h1
   rw [if_neg (fun z => c z.symm)] at h2
   exfalso
   have n1 := of_decide_eq_false h1
   have n2 := of_decide_eq_false h2
   exact c (So.kN (show So.n9 x y from n2) (show So.n9 y x from n1))
theorem kT {a b : List Str} (h1 : ¬ bN a b) (h2 : ¬ bN b a) : a = b := by
 have e : a.length = b.length := by
  rcases Nat.lt_trichotomy a.length b.length with z | z | z
  ·exact absurd (cT z) h1
  ·exact z
  ·exact absurd (cT z) h2
 refine jc e ?_ ?_
 ·cases c : kP a b with
  | false => rfl
  | true => exact absurd (c5 e c) h1
 ·cases c : kP b a with
  | false => rfl
  | true => exact absurd (c5 e.symm c) h2
section
variable {R : Str -> Str -> Prop} {good : Str} {cs : List (List Str)}
theorem eA.least (h : eA R good cs cs.length (fun _ => False)) {p : List Str} (hp : oC R good p) : ∃ (k : Nat) (d : List Str),cs[k]? = some d /\ aM d = aM p /\ ¬ bN p d := by
 induction hp with
 | one => exact ⟨0,[good],h.first,rfl,fun z => z.irr⟩
 | @snoc c y hc r ih =>
  obtain ⟨k,d,hd,e,na⟩ := ih
  have kl := (A1.mp hd).1
  obtain ⟨k2,d2,hd2,e2,na2⟩ := h.shut k d y kl hd (by rw [e]; exact r)
  refine ⟨k2,d2,hd2,by rw [e2,bO],fun z => na2 ?_⟩
  by_cases eq : c = d
  ·rw [<- eq]; exact z
  ·have dc : bN d c := Classical.byContradiction fun w => eq (kT na w)
   exact (dc.app y y).trans z
theorem eA.path (h : eA R good cs cs.length (fun _ => False)) : ∀ (k : Nat) (d : List Str),cs[k]? = some d -> oC R good d := by
 intro k
 induction k using Nat.strongRecOn with
 | _ k ih =>
  intro d hd
  by_cases c : k = 0
  ·subst c
   rw [h.first] at hd
   cases hd
   exact .one
  ·obtain ⟨j,c',x,jk,_,hj,rfl,r,_⟩ := h.from_ k d (by omega) hd
   exact .snoc (ih j jk c' hj) r
end
end Sw
namespace L2
open PySem PySem.Spec PyProof.Rows XH
end L2
namespace Sw
open PySem L2 XH PyProof.Rows Wo Hm
def qu (es : List (Str × Str × Addr)) (a b : Str) : Prop := ∃ t,(a,b,t) ∈ es
section
variable {R : Str -> Str -> Prop} {good : Str} {H H' : Hp} {row row' : List (Str × Addr)} {n B : Nat} {T T' : Str -> Str -> Prop}
theorem oC.ne {c : List Str} (h : oC R good c) : c ≠ [] := by cases h <;> simp
end
def vm (H : Hp) (es : List (Str × Str × Addr)) (vw : Str -> Str -> Int × Int) : Prop := ∀ a b t,(a,b,t) ∈ es -> H t = some (.tup [.int (vw a b).1,.int (vw a b).2]) /\ 0 < (vw a b).1 /\ nO (vw a b).1 (vw a b).2 /\ Bd 200 (vw a b).1 /\ Bd 200 (vw a b).2
theorem oC.link {R : Str -> Str -> Prop} {good : Str} {c : List Str} (h : oC R good c) : c[0]? = some good /\ ∀ (j : Nat) (x y : Str),c[j]? = some x -> c[j + 1]? = some y -> R x y := by
 induction h with
 | one => exact ⟨rfl,fun j x y _ h => by simp at h⟩
 | @snoc c z hc r ih =>
  obtain ⟨h0,hl⟩ := ih
  have c1 := BL.mpr hc.ne
  refine ⟨by rw [A5 c1]; exact h0,fun j x y hx hy => ?_⟩
  have jl := (A1.mp hy).1
  rw [A6,AL] at jl
  rw [A5 (by omega)] at hx
  by_cases k : j + 1 < c.length
  ·rw [A5 k] at hy
   exact hl j x y hx hy
  ·have e : j + 1 = c.length := by omega
   rw [AS (by omega),e,Nat.sub_self] at hy
   cases hy
   have : aM c = x := by
    unfold aM
    rw [List.getLastD_eq_getLast?,List.getLast?_eq_getElem?,show c.length - 1 = j by omega,hx]
    rfl
   rw [<- this]
   exact r
theorem qj {R : Str -> Str -> Prop} {es : List (Str × Str × Addr)} {ps : List (Str × Str)} {bs : List Str} {good : Str} {cs : List (List Str)} (hR : ∀ a b,R a b ↔ qu es a b) (h : eA R good cs cs.length (fun _ => False)) (all : ∀ (j : Nat) (d : List Str),cs[j]? = some d -> Blk ps bs (aM d)) (p : List Str) (hp : oC (qu es) good p) : Blk ps bs (aM p) := by
 have eR : R = qu es := by funext a b; exact propext (hR a b)
 subst eR
 obtain ⟨j,d',hd,el,na⟩ := eA.least h hp
 rw [<- el]
 exact all j d' hd
def fW : Sp := fun vs H Q _ => ∃ c : Int,vs = [.int c] /\ ∀ p q : Int,0 < p -> nO p q -> Bd 200 p -> Bd 200 q -> Pair H Q p q
theorem LB.farN {C : Addr} {F : List Addr} {H : Hp} {x l : Addr} {rows : List (Str × List Str)} {m : Nat} {g : Str -> Str -> Option Addr} {bs ns : List Str} {o : HO} (h : LB C F H x rows m g bs ns) (e : H l = some o) (lF : l ∉ F) (k2 : ∀ C dx fs,o ≠ .ins C dx fs) (u : HO) : LB C F (aq H l u) x rows m g bs ns := by
 obtain ⟨F0,dx,s,b,fs,dk,la,ex,es,eb,bd,hb,q1,q2,q3,q4,q5,q6,q7,q8,q9⟩ := h.ex
 have xl : x ≠ l := fun z => by
  rw [z,e] at ex
  exact k2 _ _ _ (AZ ex)
 have sl : s ≠ l := fun z => lF (by rw [<- z]; exact q6)
 have bl : b ≠ l := fun z => lF (by rw [<- z]; exact q7)
 refine ⟨F0,dx,s,b,fs,dk,?_,by rw [af xl]; exact ex,es,eb,jI bd (fun z => sl z.symm) (fun y z => ?_) _,by rw [af bl]; exact hb,q1,q2,q3,q4,q5,q6,q7,fun a ha => ?_,q9⟩
 ·obtain ⟨dx',p,n,fs',rs,a,b',c,d,e',f,i,j,k⟩ := la.ex
  subst i
  have pl : p ≠ l := fun z => lF (q5 _ (by simp [z]))
  have nl : n ≠ l := fun z => lF (q5 _ (by simp [z]))
  have rl : l ∉ rs := fun z => lF (q5 _ (by simp [z]))
  exact ⟨dx',p,n,fs',rs,by rw [af xl]; exact a,b',c,d.other rl,by rw [af pl]; exact e',by rw [af nl]; exact f,rfl,j,k⟩
 ·rcases bd.ex y with ⟨z1,_⟩ | ⟨a,row,z1,z2,z3,_⟩
  ·rw [z] at z1; cases z1
  ·rw [z] at z1
   cases z1
   exact lF (dj.mp z3)
 ·obtain ⟨kv,w⟩ := q8 a ha
  exact ⟨kv,by rw [af (fun z => lF (by rw [<- z]; exact ha))]; exact w⟩
section
variable (K : A0) (C : Addr)
def nh : Sp := fun vs H Q _ => ∃ (x : Addr) (zg zo : Str) (F : List Addr) (rows : List (Str × List Str)) (m : Nat) (g : Str -> Str -> Option Addr) (bs ns : List Str) (ps : List (Str × Str)),vs = [.ref x,.str zg,.str zo] /\ LB C F H x rows m g bs ns /\ bJ rows ps /\ ps.length <= 900 /\ ns.Nodup /\ ns.length <= 78 /\ Nm zg /\ Nm zo /\ ¬ Led ps zo zg /\
 ∀ F' H' ms,KF F H H' -> FG F F' H -> LB C F' H' x (aO rows zg zo) m g bs ms -> ms.Nodup -> (∀ y,y ∈ ms ↔ y ∈ ns ∨ y = zg ∨ y = zo) -> Q .non H'
def kU : Sp := fun vs H Q _ => ∃ (x r : Addr) (zg zo : Str) (p q : Int) (F : List Addr) (rows : List (Str × List Str)) (m : Nat) (g : Str -> Str -> Option Addr) (bs ns : List Str),vs = [.ref x,.str zg,.str zo,.ref r] /\ LB C F H x rows m g bs ns /\ m <= 1000 /\ ns.Nodup /\ ns.length <= 78 /\ Nm zg /\ Nm zo /\ H r = some (.tup [.int p,.int q]) /\ 0 < p /\ nO p q /\ Bd 200 p /\ Bd 200 q /\ zg ≠ zo /\ ¬ kX g zg zo /\
 ∀ (F' : List Addr) (H' : Hp) (ms : List Str),KF F H H' -> FG F F' H -> LB C F' H' x rows (m + 2) (iB g zg zo r) bs ms -> H' r = some (.tup [.int p,.int q]) -> ms.Nodup -> (∀ y,y ∈ ms ↔ y ∈ ns ∨ y = zg ∨ y = zo) -> Q .non H'
variable {K C} {cN cI cS : Addr}
theorem qk (vs : List V) (H : Hp) (Q : VK) (E : XK) (h : nh C vs H Q E) : gw K C cN cI vs H Q E0 := by
 obtain ⟨x,zg,zo,F,rows,m,g,bs,ns,ps,rfl,lb,ok,few,nd,n78,ng,no,nl,q⟩ := h
 obtain ⟨F0,la,back⟩ := lb.part
 refine ⟨x,.str zg,.str zo,F0,rows,ns,ps,rfl,la,ok,few,nd,n78,.inl ⟨zg,rfl,ng⟩,.inl ⟨zo,rfl,no⟩,fun n => absurd ⟨⟨zg,rfl,ng⟩,⟨zo,rfl,no⟩⟩ n,fun a b e1 e2 _ _ => ?_⟩
 cases e1
 cases e2
 refine ⟨fun z => absurd z nl,fun _ F0' H' ms k fg la' nd' hs => ?_⟩
 obtain ⟨F',lb',k',fg'⟩ := back H' F0' _ ms k fg la'
 exact q F' H' ms k' fg' lb' nd' hs
theorem ou (vs : List V) (H : Hp) (Q : VK) (E : XK) (h : kU C vs H Q E) : fG K C cN cS vs H Q E0 := by
 obtain ⟨x,r,zg,zo,p,q',F,rows,m,g,bs,ns,rfl,lb,m1,nd,n78,ng,no,er,p0,lo,b1,b2,ne,ns',q⟩ := h
 have ok : iA H (.ref r) p q' := .inr ⟨r,rfl,er,p0,lo,b1,b2⟩
 refine ⟨x,.str zg,.str zo,.ref r,F,rows,m,g,bs,ns,rfl,lb,m1,nd,n78,.inl ⟨zg,rfl,ng⟩,.inl ⟨zo,rfl,no⟩,.inl ⟨p,q',ok⟩,fun n => absurd ⟨⟨zg,rfl,ng⟩,⟨zo,rfl,no⟩⟩ n,fun a b e1 e2 _ _ => ?_⟩
 cases e1
 cases e2
 refine ⟨fun z => ?_,fun _ _ p2 q2 ok2 F' H' ms t k fg lb' et hr nd' hs => ?_⟩
 ·rcases z with z | z | z
  ·exact absurd z ne
  ·exact absurd z ns'
  ·exact (mh ok z).elim
 ·obtain ⟨rfl,rfl⟩ := fV ok ok2
  have := hr r rfl
  subst this
  exact q F' H' ms k fg lb' et nd' hs
end
def KD (H H' : Hp) : Prop := ∀ a o,(∀ kv,o ≠ .dK kv) -> (∀ kv,o ≠ .dT kv) -> H a = some o -> H' a = some o
section
variable {K : A0} {C : Addr} {H H' : Hp} {x dp ds db : Addr} {nm : List Str} {n : Nat} {F : List Addr} {rows : List (Str × List Str)} {m : Nat} {g : Str -> Str -> Option Addr} {bs ns : List Str} {ps : List (Str × Str)} {es : List (Str × Str × Addr)} {vw : Str -> Str -> Int × Int}
end
section
variable {K : A0} {C : Addr} {H H1 H2 : Hp} {x dp ds db : Addr} {nm : List Str} {n : Nat} {F F' : List Addr} {rows : List (Str × List Str)} {m : Nat} {g : Str -> Str -> Option Addr} {bs ns ms : List Str} {ps : List (Str × Str)} {es : List (Str × Str × Addr)} {vw : Str -> Str -> Int × Int}
theorem FG.out {a : Addr} {o : HO} (fg : FG F F' H) (e : H a = some o) (n : a ∉ F) : a ∉ F' := fun z => by
 rcases fg a z with w | w
 ·exact n w
 ·rw [e] at w; cases w
theorem gz {d : Addr} {o : HO} (e : H d = some o) (n : ∀ xs,o ≠ .tup xs) (u : HO) (a : Addr) (xs : List V) (h : H a = some (.tup xs)) : aq H d u a = some (.tup xs) := by
 rw [af (fun z => by rw [z,e] at h; exact n xs (AZ h))]
 exact h
theorem fH {d a : Addr} {o o' u : HO} (e : H d = some o) (h : H a = some o') (n : o ≠ o') : aq H d u a = some o' := by
 rw [af (fun z => by rw [z,e] at h; exact n (AZ h))]
 exact h
theorem ql {bs : List Str} {z y : Str} : y ∈ ie bs z ↔ y ∈ bs /\ y ≠ z := by
 unfold ie
 rw [B3]
 exact ⟨fun h => ⟨h.1,of_decide_eq_true h.2⟩,fun h => ⟨h.1,decide_eq_true h.2⟩⟩
theorem ml {bs : List Str} {z : Str} (h : bs.Nodup) : (ie bs z).Nodup := h.filter _
end
def qm : Sp := fun vs H Q _ => ∃ (ah : Addr) (goal good : Str) (ps : List (Str × Str)) (es : List (Str × Option Str)),vs = [.ref ah,.str goal] /\ H ah = some (.dK (aP es)) /\ cF ps good es /\ goal ∈ aJ es /\
 ∀ (l : Addr) (H' : Hp) (c : List Str),ay H H' -> H l = none -> H' l = some (.lst (c.map V.str)) -> Way ps good goal c -> Q (.ref l) H'
def dX : Sp := fun vs H Q _ => ∃ (d lg : Addr) (good : Str) (rows : List (Str × List Str)) (ps : List (Str × Str)) (gs : List Str),vs = [.ref d,.str good,.ref lg] /\ DD H d rows /\ bJ rows ps /\ ps.length <= 1000 /\ H lg = some (.lst (gs.map V.str)) /\
 (∀ (H' : Hp),ay H H' -> (∀ b ∈ gs,¬ Led ps good b) -> Q .non H') /\ ∀ (l : Addr) (H' : Hp) (c : List Str) (goal : Str),ay H H' -> H l = none -> H' l = some (.lst (c.map V.str)) -> Way ps good goal c -> goal ∈ gs -> Led ps good goal -> (good ∈ gs -> goal = good) -> Q (.ref l) H'
section
variable (K : A0) (C cN cI : Addr)
def eE : Sp := fun vs H Q E => ∃ (x : Addr) (v : V) (F : List Addr) (rows : List (Str × List Str)) (m : Nat) (g : Str -> Str -> Option Addr) (bs ns : List Str) (ps : List (Str × Str)),vs = [.ref x,v] /\ LB C F H x rows m g bs ns /\ bJ rows ps /\ ps.length <= 1000 /\ (gk v ∨ c7 K H v) /\
 (¬ gk v -> ∀ H',ay H H' -> E (.ref cN) none H') /\
 ∀ z,v = .str z -> Nm z -> (∀ (H' : Hp),ay H H' -> (∀ b ∈ bs,¬ Led ps z b) -> Q .non H') /\
  ∀ (l : Addr) (H' : Hp) (c : List Str) (goal : Str),ay H H' -> H l = none -> H' l = some (.lst (c.map V.str)) -> Way ps z goal c -> goal ∈ bs -> Led ps z goal -> (z ∈ bs -> goal = z) -> Q (.ref l) H'
def dY : Sp := fun vs H Q _ => ∃ (x : Addr) (z : Str) (F : List Addr) (rows : List (Str × List Str)) (m : Nat) (g : Str -> Str -> Option Addr) (bs ns : List Str) (ps : List (Str × Str)),vs = [.ref x,.str z] /\ LB C F H x rows m g bs ns /\ bJ rows ps /\ ps.length <= 1000 /\ Nm z /\
 (∀ (H' : Hp),ay H H' -> (∀ b ∈ bs,¬ Led ps z b) -> Q .non H') /\
  ∀ (l : Addr) (H' : Hp) (c : List Str) (goal : Str),ay H H' -> H l = none -> H' l = some (.lst (c.map V.str)) -> Way ps z goal c -> goal ∈ bs -> Led ps z goal -> Q (.ref l) H'
def jN : Sp := fun vs H Q E => ∃ (x : Addr) (v : V) (F : List Addr) (rows : List (Str × List Str)) (m : Nat) (g : Str -> Str -> Option Addr) (bs ns : List Str) (ps : List (Str × Str)),vs = [.ref x,v] /\ LB C F H x rows m g bs ns /\ bJ rows ps /\ ps.length <= 60 /\ (gk v ∨ c7 K H v) /\
 (¬ gk v -> ∀ H',ay H H' -> E (.ref cN) none H') /\
 ∀ z,v = .str z -> Nm z -> ∀ (l : Addr) (H' : Hp) (ys : List Str),ay H H' -> H l = none -> H' l = some (.lst (ys.map V.str)) -> sortedS ys = true -> ys.Nodup -> (∀ y,y ∈ ys ↔ Led ps z y) -> Q (.ref l) H'
def fJ : Sp := fun vs H Q _ => ∃ (x : Addr) (z : Str) (F : List Addr) (rows : List (Str × List Str)) (m : Nat) (g : Str -> Str -> Option Addr) (bs ns : List Str) (ps : List (Str × Str)),vs = [.ref x,.str z] /\ LB C F H x rows m g bs ns /\ bJ rows ps /\ ps.length <= 60 /\ Nm z /\
 ∀ (l : Addr) (H' : Hp) (ys : List Str),ay H H' -> H l = none -> H' l = some (.lst (ys.map V.str)) -> ys.Nodup -> (∀ y,y ∈ ys ↔ Led ps z y) -> Q (.ref l) H'
def ip : Sp := fun vs H Q _ => ∃ (x : Addr) (F : List Addr) (rows : List (Str × List Str)) (ns : List Str),vs = [.ref x] /\ LA C F H x rows ns /\ ns.Nodup /\ ns.length < 64 /\
 ∀ (l : Addr) (H' : Hp) (ys : List Str),ay H H' -> H l = none -> H' l = some (.lst (ys.map V.str)) -> ys.Perm ns -> Q (.ref l) H'
def qo : Sp := fun vs H Q E => ∃ (x : Addr) (v : V) (F : List Addr) (rows : List (Str × List Str)) (m : Nat) (g : Str -> Str -> Option Addr) (bs ns : List Str) (ps : List (Str × Str)) (vw : Str -> Str -> Int × Int) (U : List Str) (Rt : List Str -> Int -> Int -> Prop),vs = [.ref x,v] /\ LB C F H x rows m g bs ns /\ m <= 200 /\ bJ rows ps /\ ps.length <= 1000 /\ (gk v ∨ c7 K H v) /\ oo K H g vw /\ (∀ a b,kX g a b -> b ∈ U) /\ U.length <= 17 /\
 (∀ z,v = .str z -> Rt [z] 1 1) /\ (∀ c p q y t r s,Rt c p q -> g (aM c) y = some t -> Fr r s (p * (vw (aM c) y).1) (q * (vw (aM c) y).2) -> Rt (c ++ [y]) r s) /\
 (¬ gk v -> ∀ H',ay H H' -> E (.ref cN) none H') /\
 ∀ z,v = .str z -> Nm z -> ∀ cs,eA (kX g) z cs cs.length (fun _ => False) ->
  (∀ (k : Nat) (c : List Str) (t cl rl : Addr) (p q : Int) (H' : Hp),ay H H' -> H cl = none -> cs[k]? = some c -> (∀ (j : Nat) (d : List Str),j < k -> cs[j]? = some d -> Blk ps bs (aM d)) -> ¬ Blk ps bs (aM c) -> H' t = some (.tup [.ref cl,.ref rl]) -> H' cl = some (.lst (c.map V.str)) -> H' rl = some (.tup [.int p,.int q]) -> Rt c p q -> Q (.ref t) H') /\
  ((∀ (j : Nat) (d : List Str),cs[j]? = some d -> Blk ps bs (aM d)) -> ∀ (d : Addr) (H' : Hp),ay H H' -> H' d = some (.xd [("good",.str z)]) -> E (.ref cI) (some d) H')
variable {K C cN cI}
theorem mn (vs : List V) (H : Hp) (Q : VK) (E : XK) (h : dY C vs H Q E) : eE K C cN vs H Q E0 := by
 obtain ⟨x,z,F,rows,m,g,bs,ns,ps,rfl,lb,a1,a2,nz,q1,q2⟩ := h
 refine ⟨x,.str z,F,rows,m,g,bs,ns,ps,rfl,lb,a1,a2,.inl ⟨z,rfl,nz⟩,fun n => absurd ⟨z,rfl,nz⟩ n,fun y e _ => ?_⟩
 cases e
 exact ⟨q1,fun l H' c goal g n e w b d _ => q2 l H' c goal g n e w b d⟩
theorem qp (vs : List V) (H : Hp) (Q : VK) (E : XK) (h : fJ C vs H Q E) : jN K C cN vs H Q E0 := by
 obtain ⟨x,z,F,rows,m,g,bs,ns,ps,rfl,lb,a1,a2,nz,q⟩ := h
 refine ⟨x,.str z,F,rows,m,g,bs,ns,ps,rfl,lb,a1,a2,.inl ⟨z,rfl,nz⟩,fun n => absurd ⟨z,rfl,nz⟩ n,fun y e _ => ?_⟩
 cases e
 exact fun l H' ys g n e _ d w => q l H' ys g n e d w
end
structure D7 (H : Hp) (dp ds db : Addr) (nm : List Str) (ps : List (Str × Str)) (es : List (Str × Str × Addr)) (bs : List Str) (vw : Str -> Str -> Int × Int) : Prop where
 ep : H dp = some (.dT (jb ps))
 ee : H ds = some (.dT (jX es))
 eb : H db = some (.dK (aN bs (.bl true)))
 val : vm H es vw
 inn : ∀ a b t,(a,b,t) ∈ es -> a ∈ nm /\ b ∈ nm /\ a ≠ b
 bnd : bs.Nodup
 binn : ∀ b ∈ bs,b ∈ nm
 few : ps.length <= 60 /\ es.length <= 60 /\ nm.length <= 12
 ne : dp ≠ ds
theorem D7.same {H H' : Hp} {dp ds db : Addr} {nm : List Str} {ps : List (Str × Str)} {es : List (Str × Str × Addr)} {bs : List Str} {vw : Str -> Str -> Int × Int} (h : D7 H dp ds db nm ps es bs vw) (g : ay H H') : D7 H' dp ds db nm ps es bs vw :=
 ⟨g _ _ h.ep,g _ _ h.ee,g _ _ h.eb,fun a b t m => ⟨g _ _ (h.val a b t m).1,(h.val a b t m).2⟩,h.inn,h.bnd,h.binn,h.few,h.ne⟩
theorem D7.bars {H : Hp} {dp ds db : Addr} {nm : List Str} {ps : List (Str × Str)} {es : List (Str × Str × Addr)} {bs : List Str} {vw : Str -> Str -> Int × Int} (h : D7 H dp ds db nm ps es bs vw) : bs.length <= 12 := AT (Wo.cG h.bnd h.binn) h.few.2.2
structure S7 (K : A0) (C : Addr) (H : Hp) (x dp ds db : Addr) (nm : List Str) (n : Nat) (F : List Addr) (rows : List (Str × List Str)) (m : Nat) (g : Str -> Str -> Option Addr) (bs ns : List Str) (ps : List (Str × Str)) (es : List (Str × Str × Addr)) (vw : Str -> Str -> Int × Int) : Prop where
 d7 : D7 H dp ds db nm ps es bs vw
 lb : LB C F H x rows m g bs ns
 ok : bJ rows ps
 st : ∀ a b,kX g a b ↔ qu es a b
 ra : oo K H g vw
 nn : ns.Nodup
 nsm : ∀ y ∈ ns,y ∈ nm
 dbF : db ∉ F
 cnt : m <= 2 * n /\ ps.length <= n /\ es.length <= n
section
variable {K : A0} {C : Addr} {H H' : Hp} {x dp ds db : Addr} {nm : List Str} {n : Nat} {F : List Addr} {rows : List (Str × List Str)} {m : Nat} {g : Str -> Str -> Option Addr} {bs ns : List Str} {ps : List (Str × Str)} {es : List (Str × Str × Addr)} {vw : Str -> Str -> Int × Int}
theorem S7.same (h : S7 K C H x dp ds db nm n F rows m g bs ns ps es vw) (e : ay H H') : S7 K C H' x dp ds db nm n F rows m g bs ns ps es vw :=
 ⟨h.d7.same e,h.lb.same e,h.ok,h.st,h.ra.keep fun a xs z => e _ _ z,h.nn,h.nsm,h.dbF,h.cnt⟩
theorem S7.more (h : S7 K C H x dp ds db nm n F rows m g bs ns ps es vw) : S7 K C H x dp ds db nm (n + 1) F rows m g bs ns ps es vw := ⟨h.d7,h.lb,h.ok,h.st,h.ra,h.nn,h.nsm,h.dbF,by have := h.cnt; omega⟩
theorem S7.len (h : S7 K C H x dp ds db nm n F rows m g bs ns ps es vw) : ns.length <= 12 := AT (Wo.cG h.nn h.nsm) h.d7.few.2.2
theorem S7.hU (h : S7 K C H x dp ds db nm n F rows m g bs ns ps es vw) (a b : Str) (z : kX g a b) : b ∈ nm := by
 obtain ⟨t,z⟩ := (h.st a b).mp z
 exact (h.d7.inn a b t z).2.1
theorem S7.d7k (h : S7 K C H x dp ds db nm n F rows m g bs ns ps es vw) (k : KF F H H') : D7 H' dp ds db nm ps es bs vw :=
 ⟨k _ _ (h.lb.not h.d7.ep (fun _ z => nomatch z)) h.d7.ep,k _ _ (h.lb.not h.d7.ee (fun _ z => nomatch z)) h.d7.ee,k _ _ h.dbF h.d7.eb,fun a b t z => ⟨k _ _ (h.lb.not (h.d7.val a b t z).1 (fun _ z => nomatch z)) (h.d7.val a b t z).1,(h.d7.val a b t z).2⟩,h.d7.inn,h.d7.bnd,h.d7.binn,h.d7.few,h.d7.ne⟩
theorem S7.rak (h : S7 K C H x dp ds db nm n F rows m g bs ns ps es vw) (k : KF F H H') : oo K H' g vw := h.ra.keep fun a xs z => k _ _ (h.lb.not z (fun _ z => nomatch z)) z
end
section
variable {K : A0} {C : Addr} {H H1 H2 : Hp} {x dp ds db : Addr} {nm : List Str} {n : Nat} {F F' : List Addr} {rows : List (Str × List Str)} {m : Nat} {g : Str -> Str -> Option Addr} {bs ns ms : List Str} {ps : List (Str × Str)} {es : List (Str × Str × Addr)} {vw : Str -> Str -> Int × Int}
theorem S7.part (s : S7 K C H x dp ds db nm n F rows m g bs ns ps es vw) {a b : Str} (k : KF F H H1) (fg : FG F F' H) (lb : LB C F' H1 x (aO rows a b) m g bs ms) (nd : ms.Nodup) (hs : ∀ y,y ∈ ms ↔ y ∈ ns ∨ y = a ∨ y = b) (g2 : ay H1 H2) (ai : a ∈ nm) (bi : b ∈ nm) (n60 : n < 60) :
  S7 K C (aq H2 dp (.dT (putK (jb ps) [.inr a,.inr b] (.bl true)))) x dp ds db nm (n + 1) F' (aO rows a b) m g bs ms (mj ps a b) es vw := by
 have d1 := (s.d7k k).same g2
 have lb2 := lb.same g2
 have ra2 := (s.rak k).keep fun a xs z => g2 _ _ z
 have cnt := s.cnt
 have al := qi ps a b
 have few := s.d7.few
 refine ⟨⟨by rw [ac,r8],by rw [af (Ne.symm d1.ne)]; exact d1.ee,fH d1.ep d1.eb (fun z => nomatch z),fun u v t z => ⟨gz d1.ep (fun _ z => nomatch z) _ _ _ (d1.val u v t z).1,(d1.val u v t z).2⟩,d1.inn,d1.bnd,d1.binn,by omega,d1.ne⟩,lb2.far d1.ep (fun _ z => nomatch z) (fun _ _ _ z => nomatch z) _,s.ok.addP a b,s.st,ra2.keep (gz d1.ep (fun _ z => nomatch z) _),nd,fun y hy => ?_,fg.out s.d7.eb s.dbF,by omega⟩
 ·rcases (hs y).mp hy with z | rfl | rfl
  ·exact s.nsm y z
  ·exact ai
  ·exact bi
theorem S7.stand (s : S7 K C H x dp ds db nm n F rows m g bs ns ps es vw) {a b : Str} {r r0 : Addr} {p q : Int} (k : KF F H H1) (fg : FG F F' H) (lb : LB C F' H1 x rows (m + 2) (iB g a b r) bs ms) (er : H1 r = some (.tup [.int p,.int q])) (er0 : H1 r0 = some (.tup [.int p,.int q])) (p0 : 0 < p) (lo : nO p q) (b1 : Bd 200 p) (b2 : Bd 200 q) (na : Nm a) (nb : Nm b) (nd : ms.Nodup) (hs : ∀ y,y ∈ ms ↔ y ∈ ns ∨ y = a ∨ y = b) (g2 : ay H1 H2) (ai : a ∈ nm) (bi : b ∈ nm) (ab : a ≠ b) (new : ∀ t,(a,b,t) ∉ es) (n60 : n < 60) :
  S7 K C (aq H2 ds (.dT (putK (jX es) [.inr a,.inr b] (.ref r0)))) x dp ds db nm (n + 1) F' rows (m + 2) (iB g a b r) bs ms ps (es ++ [(a,b,r0)]) (fun u v => if u = a /\ v = b then (p,q) else vw u v) := by
 have d1 := (s.d7k k).same g2
 have lb2 := lb.same g2
 have ra2 := (s.rak k).keep fun a xs z => g2 _ _ z
 have cnt := s.cnt
 have few := s.d7.few
 have tp := gz d1.ee (fun _ z => nomatch z) (.dT (putK (jX es) [.inr a,.inr b] (.ref r0)))
 have er2 := tp _ _ (g2 _ _ er)
 have er3 := tp _ _ (g2 _ _ er0)
 refine ⟨⟨by rw [af d1.ne]; exact d1.ep,by rw [ac,rY new],fH d1.ee d1.eb (fun z => nomatch z),fun u v t z => ?_,fun u v t z => ?_,d1.bnd,d1.binn,by rw [A6,AL]; omega,d1.ne⟩,lb2.far d1.ee (fun _ z => nomatch z) (fun _ _ _ z => nomatch z) _,s.ok,fun u v => ?_,⟨fun u v t z => ?_,fun u v t z => ?_⟩,nd,fun y hy => ?_,fg.out s.d7.eb s.dbF,by rw [A6,AL]; omega⟩
 ·rcases AY.mp z with z | z
  ·have c : ¬ (u = a /\ v = b) := fun c => new t (by rw [<- c.1,<- c.2]; exact z)
   simp only [if_neg c]
   exact ⟨tp _ _ (d1.val u v t z).1,(d1.val u v t z).2⟩
  ·rw [A3] at z
   cases z
   simp only [and_self,if_true]
   exact ⟨er3,p0,lo,b1,b2⟩
 ·rcases AY.mp z with z | z
  ·exact d1.inn u v t z
  ·rw [A3] at z
   cases z
   exact ⟨ai,bi,ab⟩
 ·unfold kX iB
  by_cases c : u = a /\ v = b
  ·rw [c.1,c.2]
   exact ⟨fun _ => ⟨r0,by simp⟩,fun _ => ⟨r,by simp⟩⟩
  ·simp only [if_neg c]
   refine (s.st u v).trans ⟨fun ⟨w,z⟩ => ⟨w,Ao _ z⟩,fun ⟨w,z⟩ => ?_⟩
   rcases AY.mp z with z | z
   ·exact ⟨w,z⟩
   ·rw [A3] at z
    cases z
    exact absurd ⟨rfl,rfl⟩ c
 ·unfold iB at z
  by_cases c : u = a /\ v = b
  ·rw [if_pos c] at z
   cases z
   simp only [if_pos c]
   exact ⟨er2,p0,lo,b1,b2⟩
  ·rw [if_neg c] at z
   simp only [if_neg c]
   obtain ⟨f1,f2⟩ := ra2.fr u v t z
   exact ⟨tp _ _ f1,f2⟩
 ·unfold iB at z
  by_cases c : u = a /\ v = b
  ·rw [c.1,c.2]
   exact ⟨na,nb⟩
  ·rw [if_neg c] at z
   exact ra2.nm u v t z
 ·rcases (hs y).mp hy with z | rfl | rfl
  ·exact s.nsm y z
  ·exact ai
  ·exact bi
theorem S7.barred (s : S7 K C H x dp ds db nm n F rows m g bs ns ps es vw) {bs' : List Str} (k : KF F H H1) (lb : LB C F H1 x rows m g bs' ms) (nd : ms.Nodup) (hs : ∀ y ∈ ms,y ∈ nm) (bn : bs'.Nodup) (bi : ∀ y ∈ bs',y ∈ nm) :
  S7 K C (aq H1 db (.dK (aN bs' (.bl true)))) x dp ds db nm n F rows m g bs' ms ps es vw := by
 have d1 := s.d7k k
 have ra2 := s.rak k
 have tp := gz d1.eb (fun _ z => nomatch z) (.dK (aN bs' (.bl true)))
 exact ⟨⟨fH d1.eb d1.ep (fun z => nomatch z),fH d1.eb d1.ee (fun z => nomatch z),ac,fun u v t z => ⟨tp _ _ (d1.val u v t z).1,(d1.val u v t z).2⟩,d1.inn,bn,bi,d1.few,d1.ne⟩,lb.farN d1.eb s.dbF (fun _ _ _ z => nomatch z) _,s.ok,s.st,ra2.keep tp,nd,hs,s.dbF,s.cnt⟩
theorem S7.start (lb : LB C F H x [] 0 (fun _ _ => none) [] []) (ep : H dp = some (.dT [])) (ee : H ds = some (.dT [])) (eb : H db = some (.dK [])) (dF : db ∉ F) (ne : dp ≠ ds) (n6 : nm.length <= 12) : S7 K C H x dp ds db nm 0 F [] 0 (fun _ _ => none) [] [] [] [] (fun _ _ => (1,1)) :=
 ⟨⟨ep,ee,eb,fun a b t h => (by cases h),fun a b t h => (by cases h),List.nodup_nil,fun b h => (by cases h),⟨by simp,by simp,n6⟩,ne⟩,lb,bJ.nil,fun a b => ⟨fun ⟨t,h⟩ => (by cases h),fun ⟨t,h⟩ => (by cases h)⟩,⟨fun a b t h => (by cases h),fun a b t h => (by cases h)⟩,List.nodup_nil,fun y h => (by cases h),dF,by simp⟩
theorem LB.keepF {H' : Hp} (h : LB C F H x rows m g bs ns) (k : ∀ a ∈ F,∀ o,H a = some o -> H' a = some o) (kx : ∀ o,H x = some o -> H' x = some o) : LB C F H' x rows m g bs ns := by
 obtain ⟨F0,dx,s,b,fs,dk,la,ex,es,eb,bd,hb,q1,q2,q3,q4,q5,q6,q7,q8,q9⟩ := h.ex
 have dr : ∀ {rows : List (Str × List Str)} {rs : List Addr},a9 H rows rs -> (∀ a ∈ rs,∀ o,H a = some o -> H' a = some o) -> a9 H' rows rs := fun {rows} => by
  induction rows with
  | nil => intro rs d _; cases rs with | nil => exact d | cons _ _ => exact d.elim
  | cons r1 rows ih =>
   intro rs d kk
   cases rs with
   | nil => exact d.elim
   | cons a rs => exact ⟨kk a (by simp) _ d.1,ih d.2 fun b hb => kk b (by simp [hb])⟩
 refine ⟨F0,dx,s,b,fs,dk,?_,kx _ ex,es,eb,⟨k _ q6 _ bd.at_,bd.few,bd.inj,fun y => ?_⟩,k _ q7 _ hb,q1,q2,q3,q4,q5,q6,q7,fun a ha => ?_,q9⟩
 ·obtain ⟨dx',p,n,fs',rs,a,b',c,d,e,f,i,j,kk⟩ := la.ex
  subst i
  exact ⟨dx',p,n,fs',rs,kx _ a,b',c,dr d (fun r hr => k r (q5 r (by simp [hr]))),k _ (q5 _ (by simp)) _ e,k _ (q5 _ (by simp)) _ f,rfl,j,kk⟩
 ·rcases bd.ex y with z | ⟨a,row,z1,z2,z3,z4⟩
  ·exact .inl z
  ·exact .inr ⟨a,row,z1,k _ (dj.mp z3) _ z2,z3,z4⟩
 ·obtain ⟨kv,e⟩ := q8 a ha
  exact ⟨kv,k _ ha _ e⟩
def qr (H : Hp) (a : Addr) : Prop := (∃ kv,H a = some (.dK kv)) ∨ ∃ kv,H a = some (.dT kv)
theorem qr.not {a b : Addr} {o : HO} (h : qr H a) (e : H b = some o) (n1 : ∀ kv,o ≠ .dK kv) (n2 : ∀ kv,o ≠ .dT kv) : b ≠ a := fun z => by
 rw [z] at e
 rcases h with ⟨kv,h⟩ | ⟨kv,h⟩
 ·rw [h] at e; exact n1 kv (AZ e).symm
 ·rw [h] at e; exact n2 kv (AZ e).symm
def Ow (dp ds db : Addr) (F : List Addr) : List Addr := dp :: ds :: db :: F
theorem S7.own (s : S7 K C H x dp ds db nm n F rows m g bs ns ps es vw) : ∀ a ∈ Ow dp ds db F,qr H a := fun a ha => by
 simp only [Ow,A8] at ha
 rcases ha with rfl | rfl | rfl | ha
 ·exact .inr ⟨_,s.d7.ep⟩
 ·exact .inr ⟨_,s.d7.ee⟩
 ·exact .inl ⟨_,s.d7.eb⟩
 ·obtain ⟨F0,dx,s',b,fs,dk,la,ex,es,eb,bd,hb,q1,q2,q3,q4,q5,q6,q7,q8,q9⟩ := s.lb.ex
  exact .inl (q8 a ha)
theorem S7.keep {A : List Addr} (s : S7 K C H x dp ds db nm n F rows m g bs ns ps es vw) (k : KF A H H1) (dis : ∀ a ∈ Ow dp ds db F,a ∉ A) (ad : ∀ a ∈ A,qr H a) : S7 K C H1 x dp ds db nm n F rows m g bs ns ps es vw := by
 have nt : ∀ (a : Addr) (xs : List V),H a = some (.tup xs) -> H1 a = some (.tup xs) := fun a xs e => k _ _ (fun z => (ad a z).not e (fun _ z => nomatch z) (fun _ z => nomatch z) rfl) e
 obtain ⟨dx,s0,b0,fs,dk,ex,_⟩ := s.lb.at_
 have kx : ∀ o,H x = some o -> H1 x = some o := fun o e => k _ _ (fun z => (ad x z).not ex (fun _ z => nomatch z) (fun _ z => nomatch z) rfl) e
 exact ⟨⟨k _ _ (dis _ (by simp [Ow])) s.d7.ep,k _ _ (dis _ (by simp [Ow])) s.d7.ee,k _ _ (dis _ (by simp [Ow])) s.d7.eb,fun a b t z => ⟨nt _ _ (s.d7.val a b t z).1,(s.d7.val a b t z).2⟩,s.d7.inn,s.d7.bnd,s.d7.binn,s.d7.few,s.d7.ne⟩,s.lb.keepF (fun a ha o e => k _ _ (dis a (by simp [Ow,ha])) e) kx,s.ok,s.st,s.ra.keep nt,s.nn,s.nsm,s.dbF,s.cnt⟩
end
structure Ld where
 x : Addr
 t : Addr
 dp : Addr
 ds : Addr
 db : Addr
def L7 (K : A0) (C : Addr) (H : Hp) (nm : List Str) (n : Nat) (L : Ld) (F : List Addr) : Prop := H L.t = some (.lst [.ref L.dp,.ref L.ds,.ref L.db]) /\ ∃ rows m g bs ns ps es vw,S7 K C H L.x L.dp L.ds L.db nm n F rows m g bs ns ps es vw
def jO (K : A0) (C : Addr) (H : Hp) (nm : List Str) (n : Nat) (A B : Ld) : Prop := ∃ FA FB,L7 K C H nm n A FA /\ L7 K C H nm n B FB /\ ∀ a ∈ Ow A.dp A.ds A.db FA,a ∉ Ow B.dp B.ds B.db FB
section
variable {K : A0} {C : Addr} {H H' : Hp} {nm : List Str} {n : Nat} {A B L : Ld} {F F' FA FA' FB : List Addr}
theorem L7.same (h : L7 K C H nm n L F) (g : ay H H') : L7 K C H' nm n L F := by
 obtain ⟨e,rows,m,g',bs,ns,ps,es,vw,s⟩ := h
 exact ⟨g _ _ e,rows,m,g',bs,ns,ps,es,vw,s.same g⟩
theorem L7.own (h : L7 K C H nm n L F) : ∀ a ∈ Ow L.dp L.ds L.db F,qr H a := by
 obtain ⟨e,rows,m,g',bs,ns,ps,es,vw,s⟩ := h
 exact s.own
theorem L7.more (h : L7 K C H nm n L F) : L7 K C H nm (n + 1) L F := by
 obtain ⟨e,rows,m,g',bs,ns,ps,es,vw,s⟩ := h
 exact ⟨e,rows,m,g',bs,ns,ps,es,vw,s.more⟩
theorem jO.same (h : jO K C H nm n A B) (g : ay H H') : jO K C H' nm n A B := by
 obtain ⟨FA,FB,a,b,d⟩ := h
 exact ⟨FA,FB,a.same g,b.same g,d⟩
theorem jO.swap (h : jO K C H nm n A B) : jO K C H nm n B A := by
 obtain ⟨FA,FB,a,b,d⟩ := h
 exact ⟨FB,FA,b,a,fun y h1 h2 => d y h2 h1⟩
theorem L7.kd (h : L7 K C H nm n L F) (k : KF (Ow L.dp L.ds L.db F) H H') : KD H H' := fun a o n1 n2 e => k a o (fun z => (h.own a z).not e n1 n2 rfl) e
theorem jO.step (a : L7 K C H nm n A FA) (b : L7 K C H nm n B FB) (d : ∀ y ∈ Ow A.dp A.ds A.db FA,y ∉ Ow B.dp B.ds B.db FB) (k : KF (Ow A.dp A.ds A.db FA) H H') (fg : FG FA FA' H) (a' : L7 K C H' nm (n + 1) A FA') : jO K C H' nm (n + 1) A B := by
 obtain ⟨eb,rows,m,g',bs,ns,ps,es,vw,s⟩ := id b
 refine ⟨FA',FB,a',L7.more ⟨k _ _ (fun z => (a.own _ z).not eb (fun _ z => nomatch z) (fun _ z => nomatch z) rfl) eb,rows,m,g',bs,ns,ps,es,vw,s.keep k (fun y h1 h2 => d y h2 h1) a.own⟩,fun y h1 h2 => ?_⟩
 simp only [Ow,A8] at h1
 rcases h1 with rfl | rfl | rfl | h1
 ·exact d _ (by simp [Ow]) h2
 ·exact d _ (by simp [Ow]) h2
 ·exact d _ (by simp [Ow]) h2
 ·rcases fg y h1 with w | w
  ·exact d y (by simp [Ow,w]) h2
  ·rcases b.own y h2 with ⟨kv,z⟩ | ⟨kv,z⟩ <;> (rw [w] at z; cases z)
end
def r9 (kvs : List (List Key × V)) (ps : List (Str × Str)) : Prop := kvs.map (·.1) = ps.map fun p => [(.inr p.1 : Key),.inr p.2]
theorem r9.len {kvs : List (List Key × V)} {ps : List (Str × Str)} (h : r9 kvs ps) : kvs.length = ps.length := by
 have := congrArg List.length h
 rwa [A2,A2] at this
theorem r9.at_ {kvs : List (List Key × V)} {ps : List (Str × Str)} (h : r9 kvs ps) {i : Nat} {k : List Key} {x : V} (hk : kvs[i]? = some (k,x)) : ∃ a b : Str,k = [.inr a,.inr b] /\ ps[i]? = some (a,b) := by
 have e : (kvs.map (·.1))[i]? = some k := by rw [AI,hk]; rfl
 rw [h,AI] at e
 cases z : ps[i]? with
 | none => rw [z] at e; cases e
 | some p =>
  rw [z] at e
  cases e
  exact ⟨p.1,p.2,rfl,rfl⟩
theorem yt (ps : List (Str × Str)) : r9 (jb ps) ps := by
 unfold r9 jb
 rw [Aq]
 rfl
def tm (es : List (Str × Str × Addr)) : List (Str × Str) := es.map fun e => (e.1,e.2.1)
theorem yu (es : List (Str × Str × Addr)) : r9 (jX es) (tm es) := by
 unfold r9 jX tm
 rw [Aq,Aq]
 rfl
theorem nj {es : List (Str × Str × Addr)} {a b : Str} : (a,b) ∈ tm es ↔ qu es a b := by
 unfold tm qu
 rw [AF]
 constructor
 ·rintro ⟨⟨u,v,t⟩,h,e⟩
  cases e
  exact ⟨t,h⟩
 ·rintro ⟨t,h⟩
  exact ⟨_,h,rfl⟩
theorem sd (es : List (Str × Str × Addr)) : (tm es).length = es.length := A2 _
theorem KF.ow {dp ds db : Addr} {F : List Addr} {H H' : Hp} (k : KF F H H') : KF (Ow dp ds db F) H H' := fun a o n e => k a o (fun z => n (by simp [Ow,z])) e
theorem KF.putD {A : List Addr} {H : Hp} {d : Addr} (h : d ∈ A) (u : HO) : KF A H (aq H d u) := fun a o n e => by rw [af (fun z => n (by rw [z]; exact h))]; exact e
theorem FG.same {F F' : List Addr} {H H' : Hp} (fg : FG F F' H') (g : ay H H') : FG F F' H := fun a ha => (fg a ha).imp id g.free
theorem se {ks : List Str} {i : Nat} {k : Key} {x : V} (h : (aN ks (.bl true))[i]? = some (k,x)) : ∃ y,k = .inr y /\ y ∈ ks := by
 unfold aN at h
 rw [AI] at h
 cases e : ks[i]? with
 | none => rw [e] at h; cases h
 | some p =>
  rw [e] at h
  cases h
  exact ⟨p,rfl,AB e⟩
theorem sg {es : List (Str × Str × Addr)} {z y : Str} (h : Led (tm es) z y) : ∃ p,oC (qu es) z p /\ aM p = y := by
 induction h with
 | self => exact ⟨[z],.one,rfl⟩
 | step _ m ih =>
  obtain ⟨p,hp,e⟩ := ih
  exact ⟨_,.snoc hp (by rw [e]; exact nj.mp m),bO _ _⟩
theorem S7.keep1 {K : A0} {C : Addr} {H0 H : Hp} {x dp ds db : Addr} {nm : List Str} {n : Nat} {F : List Addr} {rows : List (Str × List Str)} {m : Nat} {g : Str -> Str -> Option Addr} {bs ns : List Str} {ps : List (Str × Str)} {es : List (Str × Str × Addr)} {vw : Str -> Str -> Int × Int} {d : Addr} {kv : List (Key × V)} (s0 : S7 K C H0 x dp ds db nm n F rows m g bs ns ps es vw) (g1 : ay H0 H) (nd : H0 d = none) (e : H d = some (.dK kv)) (u : HO) : S7 K C (aq H d u) x dp ds db nm n F rows m g bs ns ps es vw :=
 (s0.same g1).keep (A := [d]) (KF.putD (by simp) u) (fun a ha z => by
  rw [A3.mp z] at ha
  rcases s0.own d ha with ⟨kv,w⟩ | ⟨kv,w⟩ <;> (rw [nd] at w; cases w)) (fun a ha => by rw [A3.mp ha]; exact .inl ⟨_,e⟩)
theorem jO.pick {K : A0} {C : Addr} {H : Hp} {nm : List Str} {n : Nat} {A B : Ld} (h : jO K C H nm n A B) {e : Int} (h0 : 0 <= e) (h1 : e < 2) : ∃ (P : Ld) (F : List Addr),eO [V.ref A.x,V.ref B.x] e = some (V.ref P.x) /\ eO [V.ref A.t,V.ref B.t] e = some (V.ref P.t) /\ L7 K C H nm n P F /\ (∀ H' F',KF (Ow P.dp P.ds P.db F) H H' -> FG F F' H -> L7 K C H' nm (n + 1) P F' -> jO K C H' nm (n + 1) A B) := by
 obtain ⟨FA,FB,a,b,d⟩ := h
 rcases (by omega : e = 0 ∨ e = 1) with rfl | rfl
 ·exact ⟨A,FA,rfl,rfl,a,fun H' F' k fg l => jO.step a b d k fg l⟩
 ·exact ⟨B,FB,rfl,rfl,b,fun H' F' k fg l => (jO.step b a (fun y h1 h2 => d y h2 h1) k fg l).swap⟩
theorem vo (ns : List Int) : (iw (ns.map V.int) (some 2) (some 62)).length <= 60 := by
 unfold iw
 rw [Av]
 have e1 := HT.mH (ns.map V.int).length (ns.map V.int).length 62
 have e2 := HT.mH (ns.map V.int).length 0 2
 have e1' : HT.c6 (ns.map V.int).length (ns.map V.int).length (some 62) = min 62 (ns.map V.int).length := e1
 have e2' : HT.c6 (ns.map V.int).length 0 (some 2) = min 2 (ns.map V.int).length := e2
 rw [e1',e2']
 omega
theorem L7.start {K : A0} {C : Addr} {H : Hp} {nm : List Str} {L : Ld} {F : List Addr} (lb : LB C F H L.x [] 0 (fun _ _ => none) [] []) (ep : H L.dp = some (.dT [])) (ee : H L.ds = some (.dT [])) (eb : H L.db = some (.dK [])) (et : H L.t = some (.lst [.ref L.dp,.ref L.ds,.ref L.db])) (dF : L.db ∉ F) (ne : L.dp ≠ L.ds) (n6 : nm.length <= 12) : L7 K C H nm 0 L F :=
 ⟨et,_,_,_,_,_,_,_,_,S7.start lb ep ee eb dF ne n6⟩
def gF : Sp := fun vs H Q _ => ∃ (d : Addr) (good : Str) (kvs : List (List Key × V)) (ps : List (Str × Str)),vs = [.ref d,.str good] /\ H d = some (.dT kvs) /\ r9 kvs ps /\ ps.length <= 900 /\
 ∀ (dk : Addr) (H' : Hp) (ks : List Str),ay H H' -> H dk = none -> H' dk = some (.dK (aN ks (.bl true))) -> ks.Nodup -> ks.length <= 1001 -> (∀ y,y ∈ ks ↔ Led ps good y) -> Q (.ref dk) H'
section
variable (K : A0) (C : Addr)
def jP : Sp := fun vs H Q _ => ∃ (L : Ld) (a b : Str) (nm : List Str) (n : Nat) (F : List Addr),vs = [.ref L.x,.ref L.dp,.str a,.str b] /\ L7 K C H nm n L F /\ n < 60 /\ a ∈ nm /\ b ∈ nm /\ Nm a /\ Nm b /\ ∀ H' F',KF (Ow L.dp L.ds L.db F) H H' -> FG F F' H -> L7 K C H' nm (n + 1) L F' -> Q (.bl true) H'
def iq : Sp := fun vs H Q _ => ∃ (L : Ld) (a b : Str) (c : Int) (nm : List Str) (n : Nat) (F : List Addr),vs = [.ref L.x,.ref L.ds,.str a,.str b,.int c] /\ L7 K C H nm n L F /\ n < 60 /\ a ∈ nm /\ b ∈ nm /\ Nm a /\ Nm b /\ ∀ H' F',KF (Ow L.dp L.ds L.db F) H H' -> FG F F' H -> L7 K C H' nm (n + 1) L F' -> Q (.bl true) H'
def jQ : Sp := fun vs H Q _ => ∃ (L : Ld) (l : Addr) (c : Int) (nm : List Str) (n : Nat) (F : List Addr),vs = [.ref L.x,.ref L.t,.ref l,.int c] /\ L7 K C H nm n L F /\ n < 60 /\ H l = some (.lst (nm.map V.str)) /\ 2 <= nm.length /\ (∀ z ∈ nm,Nm z) /\ ∀ H' F',KF (Ow L.dp L.ds L.db F) H H' -> FG F F' H -> L7 K C H' nm (n + 1) L F' -> Q (.bl true) H'
def eG : Sp := fun vs H Q _ => ∃ (L : Ld) (z : Str) (nm : List Str) (n : Nat) (F : List Addr) (rows : List (Str × List Str)) (m : Nat) (g : Str -> Str -> Option Addr) (bs ns : List Str) (ps : List (Str × Str)) (es : List (Str × Str × Addr)) (vw : Str -> Str -> Int × Int),vs = [.ref L.x,.ref L.t,.str z] /\ H L.t = some (.lst [.ref L.dp,.ref L.ds,.ref L.db]) /\ S7 K C H L.x L.dp L.ds L.db nm n F rows m g bs ns ps es vw /\ Nm z /\ (∀ H',ay H H' -> ¬ Blk ps bs z -> Q (.bl false) H') /\ (∀ H',ay H H' -> Blk ps bs z -> Q (.bl true) H')
def fK : Sp := fun vs H Q _ => ∃ (L : Ld) (z : Str) (nm : List Str) (n : Nat) (F : List Addr) (rows : List (Str × List Str)) (m : Nat) (g : Str -> Str -> Option Addr) (bs ns : List Str) (ps : List (Str × Str)) (es : List (Str × Str × Addr)) (vw : Str -> Str -> Int × Int),vs = [.ref L.x,.str z] /\ S7 K C H L.x L.dp L.ds L.db nm n F rows m g bs ns ps es vw /\ n <= 60 /\ Nm z /\
 ∀ cs,eA (kX g) z cs cs.length (fun _ => False) ->
  (∀ (k : Nat) (c : List Str) (t cl rl : Addr) (p q : Int) (H' : Hp),ay H H' -> H cl = none -> cs[k]? = some c -> (∀ (j : Nat) (d : List Str),j < k -> cs[j]? = some d -> Blk ps bs (aM d)) -> ¬ Blk ps bs (aM c) -> H' t = some (.tup [.ref cl,.ref rl]) -> H' cl = some (.lst (c.map V.str)) -> H' rl = some (.tup [.int p,.int q]) -> uB vw c p q -> Q (.ref t) H') /\
  ((∀ (j : Nat) (d : List Str),cs[j]? = some d -> Blk ps bs (aM d)) -> ∀ (H' : Hp),ay H H' -> Q .non H')
def ir : Sp := fun vs H Q _ => ∃ (L : Ld) (z : Str) (nm : List Str) (n : Nat) (F : List Addr),vs = [.ref L.x,.ref L.t,.str z] /\ L7 K C H nm n L F /\ n <= 60 /\ Nm z /\ ∀ H',ay H H' -> Q (.bl true) H'
def jR : Sp := fun vs H Q _ => ∃ (L : Ld) (z : Str) (c : Int) (nm : List Str) (n : Nat) (F : List Addr),vs = [.ref L.x,.str z,.int c] /\ L7 K C H nm n L F /\ n <= 60 /\ Nm z /\ ∀ H',ay H H' -> Q .non H'
end
end Sw
namespace Lk27
open PySem L2 Sw XH PyProof.Rows Hm Wo
def top (i : Nat) : Stmt := PySem.Challenge.pw_stovework_k27_whole_larders.main.body.getD i (.Pass ⟨0,0,0,0⟩)
def clsAt (s : Stmt) (i : Nat) : Stmt := match s with | .ClassDef _ _ _ body _ _ _ _ _ _ _ => body.getD i (.Pass ⟨0,0,0,0⟩) | _ => s
abbrev wF : Stmt := top 18
abbrev xL : Stmt := top 18
abbrev wG : Stmt := top 19
abbrev wH : Stmt := top 21
abbrev jS : Stmt := top 22
abbrev wI : Stmt := top 23
abbrev wJ : Stmt := top 25
abbrev wK : Stmt := top 11
abbrev wL : Stmt := top 28
abbrev wM : Stmt := top 15
abbrev si : Stmt := top 16
abbrev sj : Stmt := top 14
abbrev sk : Stmt := top 13
abbrev sq : Stmt := clsAt (top 29) 0
abbrev ss : Stmt := clsAt (top 29) 9
abbrev su : Stmt := clsAt (top 29) 5
abbrev sv : Stmt := clsAt (top 29) 1
abbrev sw : Stmt := clsAt (top 29) 6
abbrev sx : Stmt := clsAt (top 29) 7
abbrev sy : Stmt := clsAt (top 29) 3
abbrev sA : Stmt := clsAt (top 29) 4
abbrev sB : Stmt := clsAt (top 29) 2
abbrev sC : Stmt := clsAt (top 29) 8
abbrev sD : Stmt := top 31
abbrev sE : Stmt := top 32
abbrev sG : Stmt := top 33
abbrev sH : Stmt := top 34
abbrev sI : Stmt := top 35
abbrev sJ : Stmt := top 36
abbrev sK : Stmt := top 37
abbrev sM : Stmt := top 38
abbrev sN : Stmt := top 39
abbrev sO : Stmt := top 40
abbrev sP : Stmt := top 41
abbrev sQ : Stmt := top 42
abbrev sR : Stmt := top 43
abbrev jT : Stmt := top 44
abbrev ce : Stmt := clsAt (top 7) 0
abbrev dL : Stmt := clsAt (top 6) 0
structure Bn (K : A0) (mg : Str -> Option Value) (c_InRing c_Larder c_NoName c_NoNumber c_NoStand c_NoStandIn c_StoveError f_Z13 f_Z14 f_Z15 f_Z16 f_Z17 f_Z18 f_Z19 f_Z20 f_Z21 f_Z22 : Addr) : Prop where
 g_LETTERS : ∃ t,mg "LETTERS" = some (.str "abcdefghijklmnopqrstuvwxyz" t)
 g_MOST_LETTERS : ∃ t,mg "MOST_LETTERS" = some (.int 12 t)
 g_MOST_NAMES : ∃ t,mg "MOST_NAMES" = some (.int 80 t)
 b_abs : mg "abs" = none
 b_bool : mg "bool" = none
 b_int : mg "int" = none
 b_isinstance : mg "isinstance" = none
 b_len : mg "len" = none
 b_list : mg "list" = none
 b_range : mg "range" = none
 b_reversed : mg "reversed" = none
 b_sorted : mg "sorted" = none
 b_str : mg "str" = none
 b_tuple : mg "tuple" = none
 m_InRing : mg "InRing" = some (.ref c_InRing)
 m_Larder : mg "Larder" = some (.ref c_Larder)
 m_NoName : mg "NoName" = some (.ref c_NoName)
 m_NoNumber : mg "NoNumber" = some (.ref c_NoNumber)
 m_NoStand : mg "NoStand" = some (.ref c_NoStand)
 m_NoStandIn : mg "NoStandIn" = some (.ref c_NoStandIn)
 m_StoveError : mg "StoveError" = some (.ref c_StoveError)
 x_NoName : B2 K c_NoName oB "ValueError.__new__" = true
 i_NoName : XI K c_NoName
 x_NoStand : B2 K c_NoStand oB "ValueError.__new__" = true
 i_NoStand : XI K c_NoStand
 x_NoNumber : B2 K c_NoNumber oB "ValueError.__new__" = true
 i_NoNumber : XI K c_NoNumber
 t_InRing : XT K c_InRing
 t_NoStand : XT K c_NoStand
 t_NoStandIn : XT K c_NoStandIn
 s_NoStandIn_NoStandIn : B1 K (.ref c_NoStandIn) (.ref c_NoStandIn) = some true
 s_InRing_InRing : B1 K (.ref c_InRing) (.ref c_InRing) = some true
 s_NoStand_NoStand : B1 K (.ref c_NoStand) (.ref c_NoStand) = some true
 a_NoStandIn : XA K c_NoStandIn c_StoveError
 n_NoStandIn : AE K (.ref c_NoStandIn) "good" = some none
 a_InRing : XA K c_InRing c_StoveError
 n_InRing : AE K (.ref c_InRing) "ring" = some none
 i_NoStandIn : XI K c_NoStandIn
 i_InRing : XI K c_InRing
 cl_Larder : mE K c_Larder
 mk_Larder : Mk K c_Larder f_Z13
 me_Z16 : cV K c_Larder "part" f_Z16
 me_Z21 : cV K c_Larder "stand" f_Z21
 me_Z19 : cV K c_Larder "bar" f_Z19
 me_Z20 : cV K c_Larder "allow" f_Z20
 me_Z15 : cV K c_Larder "known" f_Z15
 me_Z17 : cV K c_Larder "held" f_Z17
 me_Z18 : cV K c_Larder "barred" f_Z18
 me_Z22 : cV K c_Larder "stand_in" f_Z22
 me_Z14 : cV K c_Larder "learn" f_Z14
 na_Larder_parts : bS K c_Larder "parts"
 na_Larder_stands : bS K c_Larder "stands"
 na_Larder_bars : bS K c_Larder "bars"
 na_Larder_names : bS K c_Larder "names"
section
variable {P : Program} {w : World} {K : A0} {mg : Str -> Option Value} {base : Heap} {f : Addr} {fd : FuncData} {c_InRing c_Larder c_NoName c_NoNumber c_NoStand c_NoStandIn c_StoveError f_Z13 f_Z14 f_Z15 f_Z16 f_Z17 f_Z18 f_Z19 f_Z20 f_Z21 f_Z22 : Addr}
theorem jU : az ["self","good"] ["self","good"] (ap ce) := ⟨rfl,rfl,rfl,by decide +kernel,rfl,by decide +kernel,by decide +kernel⟩
theorem jV {dV : Value} (F : bG K "__init__" "NoStandIn.__init__" ce dV f fd) (B : Bn K mg c_InRing c_Larder c_NoName c_NoNumber c_NoStand c_NoStandIn c_StoveError f_Z13 f_Z14 f_Z15 f_Z16 f_Z17 f_Z18 f_Z19 f_Z20 f_Z21 f_Z22) : a7 P w K mg base aZ 1 f fd ["self","good"] (eT c_NoStandIn "good") := by
 have sc := jU
 refine F.ok sc (fun vs H Q E h => ?_) (fun cdv A outer s H vs Q E hr h => ?_)
 ·obtain ⟨a,y,n,rfl,_⟩ := h
  rfl
 obtain ⟨a,y,n,rfl,e,q⟩ := h
 exact ⟨_,(aj (mR (K := K) rfl (pv 0) (pv 1) rfl)),y,rfl,_,rfl,a,c_NoStandIn,c_StoveError,n,rfl,e,B.a_NoStandIn,B.n_NoStandIn,q⟩
theorem oz : az ["self","ring"] ["self","ring"] (ap dL) := ⟨rfl,rfl,rfl,by decide +kernel,rfl,by decide +kernel,by decide +kernel⟩
theorem oA {dV : Value} (F : bG K "__init__" "InRing.__init__" dL dV f fd) (B : Bn K mg c_InRing c_Larder c_NoName c_NoNumber c_NoStand c_NoStandIn c_StoveError f_Z13 f_Z14 f_Z15 f_Z16 f_Z17 f_Z18 f_Z19 f_Z20 f_Z21 f_Z22) : a7 P w K mg base aZ 1 f fd ["self","ring"] (eT c_InRing "ring") := by
 have sc := oz
 refine F.ok sc (fun vs H Q E h => ?_) (fun cdv A outer s H vs Q E hr h => ?_)
 ·obtain ⟨a,y,n,rfl,_⟩ := h
  rfl
 obtain ⟨a,y,n,rfl,e,q⟩ := h
 exact ⟨_,(aj (mR (K := K) rfl (pv 0) (pv 1) rfl)),y,rfl,_,rfl,a,c_InRing,c_StoveError,n,rfl,e,B.a_InRing,B.n_InRing,q⟩
theorem xM : az ["thing"] ["thing"] (ap wF) := ⟨rfl,rfl,rfl,by decide +kernel,rfl,by decide +kernel,by decide +kernel⟩
set_option maxHeartbeats 4000000 in
theorem xN {dV : Value} (F : bG K "is_whole" "is_whole" wF dV f fd) (B : Bn K mg c_InRing c_Larder c_NoName c_NoNumber c_NoStand c_NoStandIn c_StoveError f_Z13 f_Z14 f_Z15 f_Z16 f_Z17 f_Z18 f_Z19 f_Z20 f_Z21 f_Z22)  : a7 P w K mg base aZ 1 f fd ["thing"] jr := by
 have sc := xM
 refine F.ok sc (fun vs H Q E h => ?_) (fun cdv A outer s H vs Q E hr h => ?_)
 ·obtain ⟨v,rfl,_⟩ := h
  rfl
 obtain ⟨v,rfl,q⟩ := h
 refine ⟨_,(aj (aC (kZ (aD ko rfl B.b_isinstance boot_isinstance (aa (pv 0) (aa (cM (v := .ty "int") rfl B.b_int boot_int rfl) ag))) (jf (oO (aD ko rfl B.b_isinstance boot_isinstance (aa (pv 0) (aa (cM (v := .ty "bool") rfl B.b_bool boot_bool rfl) ag)))))))),?_⟩
 refine ⟨_,rfl,_,_,_,rfl,.ii v,_,rfl,cW ⟨_,rfl,_,_,_,rfl,.ib v,_,rfl,q⟩⟩
theorem xO : az ["thing"] ["thing"] (ap xL) := ⟨rfl,rfl,rfl,by decide +kernel,rfl,by decide +kernel,by decide +kernel⟩
set_option maxHeartbeats 4000000 in
theorem xP {dV : Value} (F : bG K "is_whole" "is_whole" xL dV f fd) (B : Bn K mg c_InRing c_Larder c_NoName c_NoNumber c_NoStand c_NoStandIn c_StoveError f_Z13 f_Z14 f_Z15 f_Z16 f_Z17 f_Z18 f_Z19 f_Z20 f_Z21 f_Z22)  : a7 P w K mg base aZ 1 f fd ["thing"] (uc K) := by
 have sc := xO
 refine F.ok sc (fun vs H Q E h => ?_) (fun cdv A outer s H vs Q E hr h => ?_)
 ·obtain ⟨x,b,rfl,_⟩ := h
  rfl
 obtain ⟨x,b,rfl,wh,q⟩ := h
 refine ⟨_,(aj (aC (kZ (aD (cu (K := K) rfl) rfl B.b_isinstance boot_isinstance (aa (pv 0) (aa (cM (v := .ty "int") rfl B.b_int boot_int rfl) ag))) (jf (oO (aD (cu (K := K) rfl) rfl B.b_isinstance boot_isinstance (aa (pv 0) (aa (cM (v := .ty "bool") rfl B.b_bool boot_bool rfl) ag)))))))),?_⟩
 cases wh with
 | @mk t b1 b2 ty k1 k2 =>
  refine ⟨_,rfl,x,t,"int",b1,rfl,ty,k1,b1,rfl,?_⟩
  cases b1 with
  | false => exact bM q
  | true => exact cW ⟨_,rfl,x,t,"bool",b2,rfl,ty,k2,b2,rfl,q⟩
theorem xQ : az ["one","other","greater","lesser","rest"] ["one","other"] (ap wG) := ⟨rfl,rfl,rfl,by decide +kernel,rfl,by decide +kernel,by decide +kernel⟩
set_option maxHeartbeats 4000000 in
theorem xR {dV : Value} (F : bG K "divisor" "divisor" wG dV f fd) (B : Bn K mg c_InRing c_Larder c_NoName c_NoNumber c_NoStand c_NoStandIn c_StoveError f_Z13 f_Z14 f_Z15 f_Z16 f_Z17 f_Z18 f_Z19 f_Z20 f_Z21 f_Z22)  : a7 P w K mg base aZ 1 f fd ["one","other"] mK := by
 have sc := xQ
 refine F.ok sc (fun vs H Q E h => ?_) (fun cdv A outer s H vs Q E hr h => ?_)
 ·obtain ⟨a,b,rfl,_⟩ := h
  rfl
 obtain ⟨a,b,rfl,q⟩ := h
 refine ⟨_,(ae (ar (i := 2) sc.nd rfl (Or.inl rfl) (aD gK rfl B.b_abs boot_abs (aa (pv 0) ag))) (ae (ar (i := 3) sc.nd rfl (Or.inl rfl) (aD gK rfl B.b_abs boot_abs (aa (pv 1) ag))) (ae (dz PassesOwn.never (ax iG (pv 3) am (aE _)) (ae (ar (i := 4) sc.nd rfl (Or.inl rfl) (av aV (pv 2) (pv 3))) (ae (ar (i := 2) sc.nd rfl (Or.inl rfl) (pv 3)) (aj (ar (i := 3) sc.nd rfl (Or.inl rfl) (pv 4)))))) (aj (aC (pv 2)))))),?_⟩
 refine ⟨_,rfl,_,rfl,_,rfl,_,rfl,?_⟩
 refine dD (fun σ H' => H' = H /\ ∃ (g l : Int) (r : Option V),σ = [some (.int a),some (.int b),some (.int g),some (.int l),r] /\ 0 <= g /\ 0 <= l /\ bA g l = bA a b)
  (fun (σ : L2.St) (_ : Hp) => match σ[3]? with | some (some (V.int l)) => l.toNat | _ => 0) ⟨rfl,_,_,_,rfl,mJ a,mJ b,pA a b⟩ ?_ (fun σ H Q Q' m ⟨v,e,s,k,hk,h2⟩ => ⟨v,e,s,k,hk,m _ _ h2⟩)
 rintro σ H' ⟨rfl,g,l,r,rfl,g0,l0,inv⟩
 refine ⟨_,rfl,rfl,_,rfl,yc (fun c => ?_) (fun c => ?_)⟩
 ·have lp : 0 < l := by omega
  refine ⟨_,rfl,_,rfl,_,_,rfl,rfl,c,_,rfl,_,rfl,⟨rfl,l,g.fmod l,_,rfl,l0,AG g lp,?_⟩,?_⟩
  ·rw [iP lp]; exact inv
  ·have h1 := AU g lp
   have h2 := AG g lp
   show (g.fmod l).toNat < l.toNat
   omega
 ·subst c
  rw [iQ g0] at inv
  rw [<- inv] at q
  exact ⟨_,rfl,q⟩
theorem xS : az ["top","bottom","common"] ["top","bottom"] (ap wH) := ⟨rfl,rfl,rfl,by decide +kernel,rfl,by decide +kernel,by decide +kernel⟩
set_option maxHeartbeats 4000000 in
theorem xT {dV : Value} (F : bG K "fraction" "fraction" wH dV f fd) (B : Bn K mg c_InRing c_Larder c_NoName c_NoNumber c_NoStand c_NoStandIn c_StoveError f_Z13 f_Z14 f_Z15 f_Z16 f_Z17 f_Z18 f_Z19 f_Z20 f_Z21 f_Z22) (DZ0 : Dx P w K mg base aZ 1 "is_whole" ["thing"] [] jr) (DZ2 : Dx P w K mg base aZ 1 "divisor" ["one","other"] [] mK) : a7 P w K mg base (cB P w) 2 f fd ["top","bottom"] (mT c_NoNumber) := by
 have sc := xS
 refine F.okX sc (fun vs H Q E h => ?_) (fun cdv A outer s H vs Q E hr h => ?_)
 ·obtain ⟨a,b,rfl,_⟩ := h
  rfl
 obtain ⟨a,b,rfl,hb,q,qe⟩ := h
 refine ⟨_,(ae (aU (PW.pt (cU (b7 (bZ (aT DZ0 hr (by decide) rfl (aa (pv 0) ag)))) (dq (b7 (bZ (aT DZ0 hr (by decide) rfl (aa (pv 1) ag))))))) (aj (dI B.x_NoNumber rfl B.m_NoNumber rfl cp (aa cJ ag))) aH) (ae (aU (ax dE (pv 1) am (aE _)) (aj (dI B.x_NoNumber rfl B.m_NoNumber rfl cp (aa cJ ag))) aH) (ae (ar (i := 2) sc.nd rfl (Or.inl rfl) (aT DZ2 hr (by decide) rfl (aa (pv 0) (aa (pv 1) ag)))) (ae (aU (ax gG (pv 1) am (aE _)) (aj (ar (i := 2) sc.nd rfl (Or.inl rfl) (iF fN (pv 2)))) aH) (aj (aC (cK (aa (av bj (pv 0) (pv 2)) (aa (av bj (pv 1) (pv 2)) ag))))))))),?_⟩
 refine ⟨_,rfl,_,rfl,true,rfl,bM ⟨_,rfl,_,rfl,true,rfl,bM ?_⟩⟩
 refine ⟨_,rfl,rfl,_,rfl,tV (fun z => ⟨by show 1 <= sizeLine; decide,qe z⟩) (fun b0 => ?_)⟩
 have c0 := lJ (a := a) b0
 have cb := pB (a := a) b0 hb
 have f := sY (a := a) b0
 have q := q b0
 refine ⟨_,rfl,_,rfl,_,_,rfl,?_⟩
 refine ⟨_,rfl,_,_,rfl,rfl,_,rfl,d2 (fun c => ?_) (fun c => ?_)⟩
 ·have e : iu a b = -bA a b := if_pos c
  rw [e] at c0 cb f
  exact ⟨_,rfl,_,rfl,_,rfl,_,rfl,_,_,rfl,rfl,⟨c0,cb.div c0⟩,_,rfl,_,rfl,_,_,rfl,rfl,⟨c0,cb.div c0⟩,(by show 2 <= sizeLine; decide),fun t ht => q _ _ f t _ (ak ht _) ac⟩
 ·have e : iu a b = bA a b := if_neg c
  rw [e] at c0 cb f
  exact ⟨_,rfl,_,rfl,_,_,rfl,rfl,⟨c0,cb.div c0⟩,_,rfl,_,rfl,_,_,rfl,rfl,⟨c0,cb.div c0⟩,(by show 2 <= sizeLine; decide),fun t ht => q _ _ f t _ (ak ht _) ac⟩
theorem xU : az ["thing"] ["thing"] (ap jS) := ⟨rfl,rfl,rfl,by decide +kernel,rfl,by decide +kernel,by decide +kernel⟩
set_option maxHeartbeats 4000000 in
theorem xV {dV : Value} (F : bG K "is_fraction" "is_fraction" jS dV f fd) (B : Bn K mg c_InRing c_Larder c_NoName c_NoNumber c_NoStand c_NoStandIn c_StoveError f_Z13 f_Z14 f_Z15 f_Z16 f_Z17 f_Z18 f_Z19 f_Z20 f_Z21 f_Z22) (DZ1 : Dx P w K mg base aZ 1 "is_whole" ["thing"] [] (uc K)) (DZ2 : Dx P w K mg base aZ 1 "divisor" ["one","other"] [] mK) : a7 P w K mg base aZ 2 f fd ["thing"] (lQ K) := by
 have sc := xU
 refine F.ok sc (fun vs H Q E h => ?_) (fun cdv A outer s H vs Q E hr h => ?_)
 ·obtain ⟨x,b,rfl,_⟩ := h
  rfl
 obtain ⟨x,b,rfl,fk,q⟩ := h
 refine ⟨_,(ae (aU (PW.pt (cU (b7 (bZ (aD (cu (K := K) rfl) rfl B.b_isinstance boot_isinstance (aa (pv 0) (aa (cM (v := .ty "tuple") rfl B.b_tuple boot_tuple rfl) ag))))) (dq (ax iG (aD aW rfl B.b_len boot_len (aa (pv 0) ag)) am (aE _))))) (aj (aC bD)) aH) (ae (aU (PW.pt (cU (b7 (bZ (aT DZ1 hr (by decide) rfl (aa (aI bL (pv 0) am (fun _ _ => rfl)) ag)))) (dq (b7 (bZ (aT DZ1 hr (by decide) rfl (aa (aI bL (pv 0) am (fun _ _ => rfl)) ag))))))) (aj (aC bD)) aH) (aj (aC (kZ (dO uO (aI bL (pv 0) am (fun _ _ => rfl)) am (aE _)) (jf (dO dE (aT DZ2 hr (by decide) rfl (aa (aI bL (pv 0) am (fun _ _ => rfl)) (aa (aI bL (pv 0) am (fun _ _ => rfl)) ag))) am (aE _)))))))),?_⟩
 cases fk with
 | @no _ t ty k => exact ⟨_,rfl,x,t,"tuple",false,rfl,ty,k,false,rfl,cW q⟩
 | @len a ys e n =>
  refine ⟨_,rfl,_,_,"tuple",true,rfl,.tup e,gu K,true,rfl,bM ?_⟩
  exact ⟨_,rfl,a,ys,rfl,.inr (cQ.of e),rfl,_,rfl,yq n q⟩
 | @top a y z e k =>
  refine ⟨_,rfl,_,_,"tuple",true,rfl,.tup e,gu K,true,rfl,bM ?_⟩
  refine ⟨_,rfl,a,_,rfl,.inr (cQ.of e),rfl,_,rfl,wC rfl ?_⟩
  exact ⟨_,rfl,_,_,_,_,rfl,rfl,(cQ.of e),rfl,y,false,rfl,k,false,rfl,cW q⟩
 | @bot a y z e k k' =>
  refine ⟨_,rfl,_,_,"tuple",true,rfl,.tup e,gu K,true,rfl,bM ?_⟩
  refine ⟨_,rfl,a,_,rfl,.inr (cQ.of e),rfl,_,rfl,wC rfl ?_⟩
  exact ⟨_,rfl,_,_,_,_,rfl,rfl,(cQ.of e),rfl,y,true,rfl,k,true,rfl,bM ⟨_,rfl,_,_,_,_,rfl,rfl,(cQ.of e),rfl,z,false,rfl,k',false,rfl,cW q⟩⟩
 | @two a p q' e =>
  refine ⟨_,rfl,_,_,"tuple",true,rfl,.tup e,gu K,true,rfl,bM ?_⟩
  refine ⟨_,rfl,a,_,rfl,.inr (cQ.of e),rfl,_,rfl,wC rfl ?_⟩
  refine ⟨_,rfl,_,_,_,_,rfl,rfl,(cQ.of e),rfl,_,true,rfl,pK p,true,rfl,bM ⟨_,rfl,_,_,_,_,rfl,rfl,(cQ.of e),rfl,_,true,rfl,pK q',true,rfl,bM ?_⟩⟩
  refine ⟨_,rfl,_,_,_,_,rfl,rfl,(cQ.of e),rfl,_,_,rfl,rfl,_,rfl,d2 (fun c => ?_) (fun c => ?_)⟩
  ·refine ⟨_,rfl,_,_,_,_,rfl,rfl,(cQ.of e),rfl,_,rfl,_,_,_,_,rfl,rfl,(cQ.of e),rfl,_,_,rfl,rfl,?_⟩
   have d : Q (.bl (decide (V.int (bA p q') = V.int 1))) H := by
    have e2 : decide (V.int (bA p q') = V.int 1) = (decide (1 <= q') && decide (bA p q' = 1)) := by
     rw [decide_eq_true c,Bool.true_and]
     by_cases k : bA p q' = 1
     ·rw [decide_eq_true k,decide_eq_true (vi k)]
     ·rw [decide_eq_false k,decide_eq_false fun z => k (vj z)]
    rw [e2]
    exact q
   exact d
  ·have d : Q (.bl false) H := by
    have e2 : false = (decide (1 <= q') && decide (bA p q' = 1)) := by
     rw [decide_eq_false c,Bool.false_and]
    rw [e2]
    exact q
   exact d
theorem xW : az ["one","other"] ["one","other"] (ap wI) := ⟨rfl,rfl,rfl,by decide +kernel,rfl,by decide +kernel,by decide +kernel⟩
set_option maxHeartbeats 4000000 in
theorem xX {dV : Value} (F : bG K "product" "product" wI dV f fd) (B : Bn K mg c_InRing c_Larder c_NoName c_NoNumber c_NoStand c_NoStandIn c_StoveError f_Z13 f_Z14 f_Z15 f_Z16 f_Z17 f_Z18 f_Z19 f_Z20 f_Z21 f_Z22) (DZ3 : Dx P w K mg base aZ 2 "fraction" ["top","bottom"] [.int 1] qW) : a7 P w K mg base aZ 3 f fd ["one","other"] (lL K) := by
 have sc := xW
 refine F.ok sc (fun vs H Q E h => ?_) (fun cdv A outer s H vs Q E hr h => ?_)
 ·obtain ⟨t,t2,p,q,p2,q2,rfl,_⟩ := h
  rfl
 obtain ⟨t,t',p,q,p',q',rfl,h1,h2,qq⟩ := h
 refine ⟨_,(aj (aC (aT DZ3 hr (by decide) rfl (aa (av cA (aI bL (pv 0) am (fun _ _ => rfl)) (aI bL (pv 1) am (fun _ _ => rfl))) (aa (av cA (aI bL (pv 0) am (fun _ _ => rfl)) (aI bL (pv 1) am (fun _ _ => rfl))) ag))))),?_⟩
 exact ⟨_,rfl,_,_,_,_,rfl,rfl,h1.at_,rfl,_,rfl,_,_,_,_,rfl,rfl,h2.at_,rfl,_,_,rfl,rfl,h1.bp.ok h2.bp,_,rfl,_,_,_,_,rfl,rfl,h1.at_,rfl,_,rfl,_,_,_,_,rfl,rfl,h2.at_,rfl,_,_,rfl,rfl,h1.bq.ok h2.bq,_,_,rfl,tW h1.pos h2.pos,(h1.bq.mul h2.bq).mono (by decide),qq⟩
theorem xY : az ["stands","good","pairs","reached","place","chain","ratio","others","name"] ["stands","good"] (ap wJ) := ⟨rfl,rfl,rfl,by decide +kernel,rfl,by decide +kernel,by decide +kernel⟩
set_option maxHeartbeats 4000000 in
theorem xZ {dV : Value} (F : bG K "ways_out" "ways_out" wJ dV f fd) (B : Bn K mg c_InRing c_Larder c_NoName c_NoNumber c_NoStand c_NoStandIn c_StoveError f_Z13 f_Z14 f_Z15 f_Z16 f_Z17 f_Z18 f_Z19 f_Z20 f_Z21 f_Z22) (DZ3 : Dx P w K mg base aZ 2 "fraction" ["top","bottom"] [.int 1] qW) (DZ5 : Dx P w K mg base aZ 3 "product" ["one","other"] [] (lL K)) : a7 P w K mg base aZ 4 f fd ["stands","good"] (qf K) := by
 have sc := xY
 refine F.ok sc (fun vs H Q E h => ?_) (fun cdv A outer s H vs Q E hr h => ?_)
 ·obtain ⟨d,good,b,m,vw,g,U,Rt,rfl,_⟩ := h
  rfl
 obtain ⟨d,good,b,m,vw,g,U,Rt,rfl,hd,hU,lU,m1,b1,bm,rt0,rts,q⟩ := h
 refine ⟨_,(ae (ar (i := 2) sc.nd rfl (Or.inl rfl) (bw (aa (cK (aa (bw (aa (pv 1) ag)) (aa (ri DZ3 hr (by decide) rfl (aa am ag)) ag))) ag))) (ae (ar (i := 3) sc.nd rfl (Or.inl rfl) (jp (gR (pv 1) bD jo) rfl rfl (by simp) (by decide))) (ae (ar (i := 4) sc.nd rfl (Or.inl rfl) am) (ae (dz PassesOwn.never (ax gG (pv 4) (aD aW rfl B.b_len boot_len (aa (pv 2) ag)) (aE _)) (ae (ar (i := 5) sc.nd rfl (Or.inl rfl) (aI bL (aI aB (pv 2) (pv 4) (fun _ _ => rfl)) am (fun _ _ => rfl))) (ae (ar (i := 6) sc.nd rfl (Or.inl rfl) (aI bL (aI aB (pv 2) (pv 4) (fun _ _ => rfl)) am (fun _ _ => rfl))) (ae (ar (i := 7) sc.nd rfl (Or.inl rfl) (gT (bK hr) (pv 0) (aI aB (pv 5) (iF fN am) (fun _ _ => rfl)) bV ⟨rfl,rfl,rfl,rfl⟩)) (ae (b4 PassesOwn.never rfl (c8 (aD (eB rfl) rfl B.b_sorted PyProof.Rows.Boot.«sorted» (aa (pv 7) ag))) (bz (i := 8) sc.nd rfl (Or.inl rfl)) (aj (aU (dN (cR (bK hr) (pv 8) (pv 3)) (by with_unfolding_all rfl)) (ae (cx (bK hr) (pv 3) (pv 8) bD rfl) (aj (aS (dG AV AX AW bE (pv 2) (aa (cK (aa (av pf (pv 5) (bw (aa (pv 8) ag))) (aa (aT DZ5 hr (by decide) rfl (aa (pv 6) (aa (gq (bK hr) (pv 7) (pv 8) (fun _ _ => rfl)) ag))) ag))) ag))))) aH))) (aj (tH (i := 4) sc.nd rfl (Or.inl rfl) am tI))))))) (aj (aC (pv 2))))))),?_⟩
 have sl : sizeLine = 16777216 := sizeLine_eq
 refine ⟨_,rfl,(by show 1 <= sizeLine; decide),fun c0 n0 => ⟨1,1,rfl,by decide,(by unfold Bd; decide),fun p0 q0 f0 r0 H1 g1 e1 => ⟨(by show 2 <= sizeLine; decide),fun t0 nt0 => ⟨(by show 1 <= sizeLine; decide),fun l nl => ?_⟩⟩⟩⟩
 obtain ⟨rfl,rfl⟩ := ut f0
 have gA := ak n0 (.lst [V.str good])
 have gB := gA.trans g1
 have gC := gB.trans (ak nt0 (.tup [.ref c0,.ref r0]))
 have gD := gC.trans (ak nl (.lst [.ref t0]))
 have nlH : H l = none := gC.free nl
 have wt : kW K b Rt (fun c => H c = none) (aq (aq H1 t0 (.tup [.ref c0,.ref r0])) l (.lst [.ref t0])) [t0] [[good]] := by
  have k1 := ak nt0 (.tup [.ref c0,.ref r0])
  have k2 := ak nl (.lst [.ref t0])
  refine kW.snoc (ts := []) (cs := []) ⟨rfl,fun i t c h => nomatch h⟩ (k2 _ _ ac) (k2 _ _ (k1 _ _ (g1 _ _ ac))) ?_ rt0 n0 (k2 _ _ (k1 _ _ e1))
  have b2 : 0 < b * 1 := by omega
  have b3 : Bd (b * 1) 1 := by unfold Bd; exact Nat.one_lt_two_pow (by omega)
  exact ⟨cQ.of (k2 _ _ (k1 _ _ e1)),by decide,b3,b3⟩
 have el : aq (aq H1 t0 (.tup [.ref c0,.ref r0])) l (.lst [.ref t0]) l = some (.lst (([t0] : List Addr).map V.ref)) := ac
 generalize aq (aq H1 t0 (.tup [.ref c0,.ref r0])) l (.lst [.ref t0]) = H2 at gD wt el ⊢
 refine fun rd nr => ⟨_,rfl,ac,[(.inr good,.bl true)],rfl,(by show 1 <= 15; decide),?_⟩
 have g3 : ay H2 (aq (aq H2 rd (.dK [])) rd (.dK (cm [] [((.inr good : Key),V.bl true)]))) := by
  rw [jd]
  exact ak nr _
 have er : (aq (aq H2 rd (.dK [])) rd (.dK (cm [] [((.inr good : Key),V.bl true)]))) rd = some (.dK (aN [good] (.bl true))) := ac
 generalize aq (aq H2 rd (.dK [])) rd (.dK (cm [] [((.inr good : Key),V.bl true)])) = H3 at g3 er ⊢
 have nrH : H rd = none := gD.free nr
 have gE := gD.trans g3
 have wt3 := wt.same g3
 have el3 := g3 _ _ el
 clear gA gB gC gD g3 wt el nt0 nl n0 g1 e1 nr f0
 try dsimp only [bu,bx]
 refine cut (fun σ H' => H3 = H' /\ σ = [some (.ref d),some (.str good),some (.ref l),some (.ref rd),some (.int 0),none,none,none,none]) (fun N hN => hN _ _ ⟨rfl,rfl⟩) ?_
 rintro σ _ ⟨rfl,rfl⟩
 refine dD (fun σ H' => ay H H' /\ ∃ (i : Nat) (cs : List (List Str)) (ts : List Addr) (ks : List Str) (o5 o6 o7 o8 : Option V),σ = [some (.ref d),some (.str good),some (.ref l),some (.ref rd),some (.int i),o5,o6,o7,o8] /\ H' l = some (.lst (ts.map V.ref)) /\ kW K b Rt (fun c => H c = none) H' ts cs /\ eA (kX g) good cs i (fun _ => False) /\ H' rd = some (.dK (aN ks (.bl true))) /\ (∀ x,x ∈ ks ↔ x ∈ cs.map aM) /\ ks.length <= cs.length /\ i <= cs.length)
  (fun (σ : L2.St) (_ : Hp) => match σ[4]? with | some (some (V.int i)) => U.length + 2 - i.toNat | _ => 0) ⟨gE,0,[[good]],[t0],[good],none,none,none,none,rfl,el3,wt3,eA.start,er,fun x => Iff.rfl,A4 _,Af _⟩ ?_ (fun σ H Q Q' mm h => ?_)
 ·rintro σ H4 ⟨g4,i,cs,ts,ks,o5,o6,o7,o8,rfl,el4,wt4,bf,er4,hk,lk,ic⟩
  have few := bf.few hU
  have lt : (ts.map V.ref).length = cs.length := by rw [A2,wt4.1]
  refine ⟨_,rfl,_,rfl,l,_,rfl,.inl (bc.of el4),_,_,rfl,rfl,_,rfl,d2 (fun c => ?_) (fun c => ?_)⟩
  ·have il : i < cs.length := by omega
   have hc := AD il
   generalize cs[i] = ch at hc
   have ht := AD (show i < ts.length by rw [wt4.1]; exact il)
   generalize ts[i]'(by rw [wt4.1]; exact il) = t at ht
   obtain ⟨cl,rl,p,q',et,ecl,frl,rtc,_⟩ := wt4.2 i t ch ht hc
   have at1 : eO (ts.map V.ref) (i : Int) = some (.ref t) := bY (eW ht)
   have cn := bf.ne hc
   have clen := bf.long i ch hc
   refine ⟨_,rfl,_,rfl,l,_,_,_,rfl,rfl,bc.of el4,at1,t,_,_,_,rfl,rfl,cQ.of et,rfl,?_⟩
   refine ⟨_,rfl,_,rfl,l,_,_,_,rfl,rfl,bc.of el4,at1,t,_,_,_,rfl,rfl,cQ.of et,rfl,?_⟩
   try dsimp only [bu,bx]
   refine cut (fun σ H' => ay H4 H' /\ ∃ (oa : Addr) (row : List (Str × Addr)),σ = [some (.ref d),some (.str good),some (.ref l),some (.ref rd),some (.int i),some (.ref cl),some (.ref rl),some (.ref oa),o8] /\ H' oa = some (.dK (cH row)) /\ (row.map (·.1)).Nodup /\ row.length <= 200 /\ ∀ y t,g (aM ch) y = some t ↔ (y,t) ∈ row) (fun N hN => ?_) ?_
   ·obtain ⟨kvs,ed,hx⟩ := (hd.same g4).ex
    refine ⟨_,rfl,d,rfl,.inl ⟨_,.inl ed⟩,_,rfl,_,rfl,cl,_,_,_,rfl,rfl,bc.of ecl,fS cn,fun pn hn => ⟨_,b5.k (k := .inr (aM ch)) (ak hn _ _ _ ed),?_⟩⟩
    rcases hx (aM ch) with ⟨z1,z2⟩ | ⟨a,row,q1,q2,q3,q4,q5⟩
    ·rw [z1]
     exact hN _ _ ⟨ak hn _,pn,[],rfl,ac,by simp,Af _,fun y t => by rw [z2]; simp⟩
    ·rw [q1]
     exact hN _ _ ⟨ak hn _,a,row,rfl,ak hn _ _ _ q2,q3,q4,q5⟩
   rintro σ H5 ⟨g5,oa,row,rfl,eoa,nd,lr,hrow⟩
   try dsimp only [bu,bx]
   refine cut (fun σ H' => ay H H' /\ ∃ (cs' : List (List Str)) (ts' : List Addr) (ks' : List Str) (o8 : Option V),σ = [some (.ref d),some (.str good),some (.ref l),some (.ref rd),some (.int i),some (.ref cl),some (.ref rl),some (.ref oa),o8] /\ H' l = some (.lst (ts'.map V.ref)) /\ kW K b Rt (fun c => H c = none) H' ts' cs' /\ eA (kX g) good cs' (i + 1) (fun _ => False) /\ H' rd = some (.dK (aN ks' (.bl true))) /\ (∀ x,x ∈ ks' ↔ x ∈ cs'.map aM) /\ ks'.length <= cs'.length /\ i < cs'.length) (fun N hN => ?_) ?_
   ·refine ⟨_,rfl,oa,_,_,rfl,eoa,om row,nd,(by have := Wo.cG nd (fun y hy => by obtain ⟨⟨y',t'⟩,h,e⟩ := AF.mp hy; cases e; exact hU _ _ ⟨t',(hrow _ _).mpr h⟩); omega),fun sp ys nsp perm srt => ⟨sp,rfl,⟨_,bc.of ac⟩,?_⟩⟩
    have g6 := g5.trans (ak nsp (.lst (ys.map V.str)))
    have spl : sp ≠ l := fun e => by rw [e,g5 _ _ el4] at nsp; cases nsp
    have spr : sp ≠ rd := fun e => by rw [e,g5 _ _ er4] at nsp; cases nsp
    have esp : aq H5 sp (.lst (ys.map V.str)) sp = some (.lst (ys.map V.str)) := ac
    have eoa6 := ak nsp (.lst (ys.map V.str)) _ _ eoa
    generalize aq H5 sp (.lst (ys.map V.str)) = H6 at g6 esp eoa6 ⊢
    have g46 := g4.trans g6
    have el6 := g6 _ _ el4
    have er6 := g6 _ _ er4
    have ecl6 := g6 _ _ ecl
    have frl6 := frl.same g6
    have wt6 := wt4.same g6
    have kn : ks ≠ [] := fun e => by
     have := (hk good).mpr (AF.mpr ⟨[good],AB bf.first,rfl⟩)
     rw [e] at this
     cases this
    have oal : oa ≠ l := bU eoa6 el6 (fun z => nomatch z)
    have oar : oa ≠ rd := bU eoa6 er6 (fun z => by injection z with z; exact rN kn z)
    have cll : cl ≠ l := bU ecl6 el6 (fun z => by injection z with z; exact i8 cn z)
    have clr : cl ≠ rd := bU ecl6 er6 (fun z => nomatch z)
    have pw := So.oh srt
    have yin : ∀ y,y ∈ ys ↔ y ∈ row.map (·.1) := fun y => perm.mem_iff
    refine dB (xs := ys.map V.str) (fun j σ H' => ay H H' /\ ca l rd H6 H' /\ ∃ (cs' : List (List Str)) (ts' : List Addr) (ks' : List Str) (o8 : Option V),σ = [some (.ref d),some (.str good),some (.ref l),some (.ref rd),some (.int i),some (.ref cl),some (.ref rl),some (.ref oa),o8] /\ H' l = some (.lst (ts'.map V.ref)) /\ kW K b Rt (fun c => H c = none) H' ts' cs' /\ eA (kX g) good cs' i (fun z => z ∈ ys.take j) /\ cs'[i]? = some ch /\ H' rd = some (.dK (aN ks' (.bl true))) /\ (∀ x,x ∈ ks' ↔ x ∈ cs'.map aM) /\ ks'.length <= cs'.length) ?_ ?_ ?_ ?_
    ·refine ⟨g46,ca.refl _ _ _,cs,ts,ks,o8,rfl,el6,wt6,?_,hc,er6,hk,lk⟩
     rw [show (fun z => z ∈ ys.take 0) = (fun _ : Str => False) by funext z; simp]
     exact bf
    ·rintro j σ H' hj ⟨_,sb,_⟩
     exact bc.of (sb _ _ spl spr esp)
    ·rintro j x σ H7 hx ⟨g7,sb,cs',ts',ks',o8,rfl,el7,wt7,bf7,hc7,er7,hk7,lk7⟩
     rw [AI] at hx
     obtain ⟨y,hy,rfl⟩ := Ah.mp hx
     have ym := AB hy
     obtain ⟨⟨y',t'⟩,ht',e⟩ := AF.mp ((yin y).mp ym)
     cases e
     have gy := (hrow y' t').mpr ht'
     have tk : (fun z => z ∈ ys.take (j + 1)) = fun z => z ∈ ys.take j ∨ z = y' := by
      funext z
      rw [List.take_add_one,hy]
      simp
     have few7 := bf7.few hU
     refine ⟨_,rfl,_,rfl,rd,_,rfl,b5.k (k := .inr y') er7,_,rfl,?_⟩
     rw [cD]
     by_cases hin : y' ∈ ks'
     ·rw [if_pos hin]
      refine bM ⟨g7,sb,cs',ts',ks',_,rfl,el7,wt7,?_,hc7,er7,hk7,lk7⟩
      rw [tk]
      exact bf7.seen hc7 ((hk7 y').mp hin)
     ·rw [if_neg hin]
      have hny : y' ∉ cs'.map aM := fun z => hin ((hk7 y').mpr z)
      refine cW ⟨_,rfl,_,rfl,rd,_,rfl,d4.k (k := .inr y') er7 (by rw [bQ]; omega),?_⟩
      rw [dJ]
      have lrd : l ≠ rd := bU el7 er7 (fun z => nomatch z)
      have nz : ∀ c ∈ cs',c ≠ [] := fun c hc' => by
       obtain ⟨k,hk'⟩ := Aa.mp hc'
       exact bf7.ne hk'
      have el8 : aq H7 rd (.dK (aN (bI ks' y') (.bl true))) l = some (.lst (ts'.map V.ref)) := by rw [af lrd]; exact el7
      have er8 : aq H7 rd (.dK (aN (bI ks' y') (.bl true))) rd = some (.dK (aN (bI ks' y') (.bl true))) := ac
      have sb8 := sb.putR (.dK (aN (bI ks' y') (.bl true)))
      have g8 := em (o := .dK (aN (bI ks' y') (.bl true))) g7 nrH
      have wt8 := wt7.keep nz ((ca.refl l rd H7).putR (.dK (aN (bI ks' y') (.bl true)))) el7 er7
      generalize aq H7 rd (.dK (aN (bI ks' y') (.bl true))) = H8 at el8 er8 sb8 g8 wt8 ⊢
      have ecl8 := sb8 _ _ cll clr ecl6
      have eoa8 := sb8 _ _ oal oar eoa6
      have frl8 := sb8.fr el6 er6 frl6
      have lch : (ch.map V.str).length = ch.length := A2 _
      have lts : (ts'.map V.ref).length = cs'.length := by rw [A2,wt7.1]
      refine ⟨_,rfl,.inl ⟨rfl,_,bc.of el8⟩,_,rfl,_,rfl,(by show 1 <= sizeLine; decide),fun l3 n3 => ⟨cl,l3,_,_,rfl,rfl,ak n3 _ _ _ ecl8,ac,by rw [lch]; show ch.length + 1 <= sizeLine; omega,fun c2 nc2 => ?_⟩⟩
      have nc2H := (g8.trans (ak n3 (.lst [V.str y']))).free nc2
      have k3 := (ak n3 (.lst [V.str y'])).trans (ak nc2 (.lst (ch.map V.str ++ [V.str y'])))
      have ec2 : aq (aq H8 l3 (.lst [V.str y'])) c2 (.lst (ch.map V.str ++ [V.str y'])) c2 = some (.lst ((ch ++ [y']).map V.str)) := by rw [ac,Ab]; rfl
      generalize aq (aq H8 l3 (.lst [V.str y'])) c2 (.lst (ch.map V.str ++ [V.str y'])) = H9 at k3 ec2 ⊢
      have dg : b5 H9 oa (.str y') (some (.ref t')) := by
       rw [<- hV nd ht']
       exact b5.k (k := .inr y') (k3 _ _ eoa8)
      have fu := hd.fr (aM ch) y' t' gy
      have c4 : b * ch.length + b <= 4000 := by
       have := Nat.mul_le_mul_left b (show ch.length + 1 <= m + 2 by omega)
       rw [Nat.mul_succ] at this
       omega
      refine ⟨_,rfl,_,rfl,_,rfl,oa,.ref t',rfl,dg,rl,t',p,q',(vw (aM ch) y').1,(vw (aM ch) y').2,rfl,(frl8.same k3).mono (by omega),((fu.same g8).same k3).mono (by omega),fun r s fr tr H10 g10 e10 => ⟨(by show 2 <= sizeLine; decide),fun t5 n5 => ?_⟩⟩
      have k11 := (k3.trans g10).trans (ak n5 (.tup [.ref c2,.ref tr]))
      have w11 : kW K b Rt (fun c => H c = none) (aq H10 t5 (.tup [.ref c2,.ref tr])) (ts' ++ [t5]) (cs' ++ [ch ++ [y']]) := by
       refine kW.snoc (wt8.same k11) ac (ak n5 _ _ _ (g10 _ _ ec2)) ?_ (rts ch p q' y' t' r s rtc gy fr) nc2H (ak n5 _ _ _ e10)
       have e : b * (ch ++ [y']).length = b * ch.length + b := by rw [A6,AL,Nat.mul_succ]
       rw [e]
       exact ⟨cQ.of (ak n5 _ _ _ e10),fr.pos,(frl.bp.mul fu.bp).of_le fr.bt,(frl.bq.mul fu.bq).of_le fr.bb⟩
      have el11 := k11 _ _ el8
      have er11 := k11 _ _ er8
      generalize aq H10 t5 (.tup [.ref c2,.ref tr]) = H11 at k11 w11 el11 er11 ⊢
      refine ⟨l,_,_,rfl,rfl,el11,by omega,?_⟩
      have nz2 : ∀ c ∈ cs' ++ [ch ++ [y']],c ≠ [] := fun c hc' => by
       rcases AY.mp hc' with z | z
       ·exact nz c z
       ·rw [A3.mp z]; simp
      refine ⟨em (g8.trans k11) nlH _,(sb8.thenS k11).putL _,cs' ++ [ch ++ [y']],ts' ++ [t5],bI ks' y',_,rfl,by rw [ac,Ab]; rfl,w11.keep nz2 ((ca.refl l rd H11).putL _) el11 er11,?_,?_,by rw [af (Ne.symm lrd)]; exact er11,fun x => ?_,?_⟩
      ·rw [tk]
       refine bf7.more hc7 hny ⟨t',gy⟩ fun z hz zn => vf ?_ zn
       have sp2 : (ys.take j ++ ys.drop j).Pairwise So.n9 := by rw [List.take_append_drop]; exact pw
       refine (List.pairwise_append.mp sp2).2.2 z hz y' (AB (i := 0) ?_)
       rw [List.getElem?_drop]
       exact hy
      ·rw [A5 (A1.mp hc7).1]
       exact hc7
      ·rw [bW,Ab,AY,hk7 x,List.map_singleton,bO,A3]
      ·have := (cE ks' y').2.2
       rw [A6,AL]
       omega
    ·rintro σ H7 ⟨g7,sb,cs',ts',ks',o8,rfl,el7,wt7,bf7,hc7,er7,hk7,lk7⟩
     rw [A2,List.take_length] at bf7
     refine hN _ _ ⟨g7,cs',ts',ks',o8,rfl,el7,wt7,bf7.next hc7 (fun y hy => ?_),er7,hk7,lk7,(A1.mp hc7).1⟩
     obtain ⟨t',gy⟩ := hy
     exact (yin y).mpr (AF.mpr ⟨_,(hrow y t').mp gy,rfl⟩)
   rintro σ H8 ⟨g8,cs',ts',ks',o8,rfl,el8,wt8,bf8,er8,hk8,lk8,il8⟩
   refine ⟨_,rfl,_,_,rfl,rfl,⟨g8,i + 1,cs',ts',ks',_,_,_,_,rfl,el8,wt8,bf8,er8,hk8,lk8,il8⟩,?_⟩
   show U.length + 2 - ((i : Int) + 1).toNat < U.length + 2 - (i : Int).toNat
   omega
  ·have e : i = cs.length := by omega
   subst e
   exact ⟨_,rfl,q l cs H4 g4 nlH ⟨ts,el4,wt4⟩ bf⟩
 ·obtain ⟨v,e,w,e2,p,ys,e3,s,i,j,e4,e5,b',hb,h2⟩ := h
  exact ⟨v,e,w,e2,p,ys,e3,s,i,j,e4,e5,b',hb,mm _ _ h2⟩
theorem x2 : az ["thing","sign"] ["thing"] (ap wK) := ⟨rfl,rfl,rfl,by decide +kernel,rfl,by decide +kernel,by decide +kernel⟩
set_option maxHeartbeats 4000000 in
theorem x3 {dV : Value} (F : bG K "is_name" "is_name" wK dV f fd) (B : Bn K mg c_InRing c_Larder c_NoName c_NoNumber c_NoStand c_NoStandIn c_StoveError f_Z13 f_Z14 f_Z15 f_Z16 f_Z17 f_Z18 f_Z19 f_Z20 f_Z21 f_Z22)  : a7 P w K mg base aZ 1 f fd ["thing"] (gZ K) := by
 have sc := x2
 refine F.ok sc (fun vs H Q E h => ?_) (fun cdv A outer s H vs Q E hr h => ?_)
 ·obtain ⟨x,rfl,_⟩ := h
  rfl
 obtain ⟨x,rfl,h⟩ := h
 refine ⟨_,(ae (aU (PW.pt (cU (b7 (bZ (aD (cu (K := K) rfl) rfl B.b_isinstance boot_isinstance (aa (pv 0) (aa (cM (v := .ty "str") rfl B.b_str boot_str rfl) ag))))) (cU (ax gG (aD fh rfl B.b_len boot_len (aa (pv 0) ag)) am (aE _)) (dq (ax j5 (aD fh rfl B.b_len boot_len (aa (pv 0) ag)) (kC rfl B.g_MOST_LETTERS) (aE _)))))) (aj (aC bD)) aH) (ae (b4 PassesOwn.never rfl (uf (pv 0)) (bz (i := 1) sc.nd rfl (Or.inl rfl)) (aj (aU (ax jm (pv 1) (pQ rfl B.g_LETTERS) (by with_unfolding_all rfl)) (aj (aC bD)) aH))) (aj (aC bD)))),?_⟩
 rcases h with ⟨z,rfl,hz,q1,q0⟩ | ⟨ty,hty,hk,q⟩
 ·have hz' : z.length <= sizeLine := AT hz (by decide)
  have hl := jz z
  try dsimp only [bu,bx]
  refine cut (fun σ H' => H = H' /\ σ = [some (.str z),none] /\ 1 <= z.length /\ z.length <= 12) (fun N hN => ?_) ?_
  ·refine ⟨_,rfl,_,_,_,true,rfl,.str _,rfl,_,rfl,bM ⟨_,rfl,z,rfl,hz',_,_,rfl,rfl,_,rfl,d2 (fun c => ?_) (fun c1 => ⟨_,rfl,z,rfl,hz',_,_,rfl,rfl,_,rfl,d2 (fun c => ?_) (fun c2 => ?_)⟩)⟩⟩
   ·exact q0 fun n => by have := n.1; omega
   ·exact q0 fun n => by have := n.2.1; omega
   ·exact hN _ _ ⟨rfl,rfl,by omega,by omega⟩
  rintro σ _ ⟨rfl,rfl,l1,l2⟩
  refine ⟨_,rfl,z,rfl,rp (fun i σ H2 => H = H2 /\ (∃ o,σ = [some (.str z),o]) /\ ∀ j c,j < i -> z.cps[j]? = some c -> 97 <= c /\ c <= 122) ⟨rfl,⟨_,rfl⟩,fun j c h => absurd h (by omega)⟩ (fun i c σ H2 hc hP => ?_) (fun σ H2 hP => ?_)⟩
  ·obtain ⟨rfl,⟨o,rfl⟩,hP⟩ := hP
   refine ⟨_,rfl,_,_,rfl,rfl,_,rfl,ye (fun e => ?_) (fun e => ?_)⟩
   ·have e' := (mW c).symm.trans e
    refine q0 fun n => ?_
    have := n.2.2 c (AB (show (sL z)[i]? = some c by rw [<- hc]; exact As))
    rw [decide_eq_true this] at e'
    cases e'
   ·have e' := (mW c).symm.trans e
    refine ⟨rfl,⟨_,rfl⟩,fun j c' hj hc' => ?_⟩
    rcases An.mp hj with k | k
    ·exact hP j c' k hc'
    ·subst k
     rw [hc] at hc'
     cases hc'
     exact of_decide_eq_true e'
  ·obtain ⟨rfl,⟨o,rfl⟩,hP⟩ := hP
   refine q1 ⟨by omega,by omega,fun c hc => ?_⟩
   obtain ⟨i,hi⟩ := Aa.mp hc
   have hi' : z.cps[i]? = some c := by rw [<- hi]; exact As.symm
   exact hP i c (by have := (Array.getElem?_eq_some_iff.mp hi').1; exact this) hi'
 ·exact ⟨_,rfl,_,_,_,false,rfl,hty,hk,_,rfl,cW q⟩
theorem x4 : az ["things","thing"] ["things"] (ap wL) := ⟨rfl,rfl,rfl,by decide +kernel,rfl,by decide +kernel,by decide +kernel⟩
set_option maxHeartbeats 4000000 in
theorem x5 {dV : Value} (F : bG K "refuse_no_names" "refuse_no_names" wL dV f fd) (B : Bn K mg c_InRing c_Larder c_NoName c_NoNumber c_NoStand c_NoStandIn c_StoveError f_Z13 f_Z14 f_Z15 f_Z16 f_Z17 f_Z18 f_Z19 f_Z20 f_Z21 f_Z22) (DZ7 : Dx P w K mg base aZ 1 "is_name" ["thing"] [] (gZ K)) : a7 P w K mg base (cB P w) 2 f fd ["things"] (dv K c_NoName) := by
 have sc := x4
 refine F.okX sc (fun vs H Q E h => ?_) (fun cdv A outer s H vs Q E hr h => ?_)
 ·obtain ⟨l,xs,rfl,_⟩ := h
  rfl
 obtain ⟨l,xs,rfl,hl,ho,kt,kf⟩ := h
 refine ⟨_,(aj (b4 (pH rfl rfl) rfl (c8 (pv 0)) (bz (i := 1) sc.nd rfl (Or.inl rfl)) (aj (aU (b7 (bZ (aT DZ7 hr (by decide) rfl (aa (pv 1) ag)))) (aj (dI B.x_NoName rfl B.m_NoName rfl cp (aa cJ ag))) aH)))),?_⟩
 refine ⟨_,rfl,l,rfl,⟨_,bc.of hl⟩,dB (xs := xs) (fun i σ H' => H = H' /\ (∃ o,σ = [some (.ref l),o]) /\ ∀ (j : Nat) x,j < i -> xs[j]? = some x -> gk x) ⟨rfl,⟨_,rfl⟩,fun j x h => absurd h (Nat.not_lt_zero _)⟩ (fun i σ H' _ h => by rw [<- h.1]; exact bc.of hl) ?_ ?_⟩
 ·rintro i x σ H' hx ⟨rfl,⟨o,rfl⟩,hP⟩
  by_cases hn : gk x
  ·obtain ⟨z,rfl,nz⟩ := id hn
   refine ⟨_,rfl,_,rfl,.inl ⟨z,rfl,uk nz,fun _ => ?_,fun n => absurd nz n⟩⟩
   refine ⟨_,rfl,?_⟩
   exact ⟨rfl,⟨_,rfl⟩,fun j y hj hy => by
    rcases An.mp hj with q | q
    ·exact hP j y q hy
    ·subst q; rw [hx] at hy; cases hy; exact hn⟩
  ·have bad : ¬ ∀ x ∈ xs,gk x := fun a => hn (a x (AB hx))
   rcases (ho x (AB hx)).resolve_left hn with ⟨z,rfl,lz,nz⟩ | ⟨ty,h1,h2⟩
   ·refine ⟨_,rfl,_,rfl,.inl ⟨z,rfl,lz,fun n => absurd n nz,fun _ => ?_⟩⟩
    exact ⟨_,rfl,(by show 1 <= sizeLine; decide),kf bad _ fun _ _ e => e⟩
   ·refine ⟨_,rfl,_,rfl,.inr ⟨ty,h1,h2,?_⟩⟩
    exact ⟨_,rfl,(by show 1 <= sizeLine; decide),kf bad _ fun _ _ e => e⟩
 ·rintro σ H' ⟨rfl,⟨o,rfl⟩,hP⟩
  exact kt fun x hx => by
   obtain ⟨j,hj⟩ := Aa.mp hx
   exact hP j x (A1.mp hj).1 hj
theorem x6 : az ["parts","good","ahead","waiting","name","part"] ["parts","good"] (ap wM) := ⟨rfl,rfl,rfl,by decide +kernel,rfl,by decide +kernel,by decide +kernel⟩
set_option maxHeartbeats 4000000 in
theorem x8 {dV : Value} (F : bG K "names_ahead" "names_ahead" wM dV f fd) (B : Bn K mg c_InRing c_Larder c_NoName c_NoNumber c_NoStand c_NoStandIn c_StoveError f_Z13 f_Z14 f_Z15 f_Z16 f_Z17 f_Z18 f_Z19 f_Z20 f_Z21 f_Z22)  : a7 P w K mg base aZ 1 f fd ["parts","good"] gv := by
 have sc := x6
 refine F.ok sc (fun vs H Q E h => ?_) (fun cdv A outer s H vs Q E hr h => ?_)
 ·obtain ⟨d,good,rows,ps,rfl,_⟩ := h
  rfl
 obtain ⟨d,good,rows,ps,rfl,dd,ok,few,q⟩ := h
 obtain ⟨rs,dr,ed,ndr,dnr⟩ := dd.ex
 refine ⟨_,(ae (ar (i := 2) sc.nd rfl (Or.inl rfl) (jp (gR (pv 1) bR jo) rfl rfl (by simp) (by decide))) (ae (ar (i := 3) sc.nd rfl (Or.inl rfl) (bw (aa (pv 1) ag))) (ae (dz PassesOwn.never (ax j5 (aD aW rfl B.b_len boot_len (aa (pv 3) ag)) am (aE _)) (ae (ar (i := 4) sc.nd rfl (Or.inl rfl) (tM AV PySem.F.slot_list_pop PySem.F.type_list_pop tN (pv 3))) (aj (lS (b4 PassesOwn.never rfl (jA (gT (bK hr) (pv 0) (pv 4) bV ⟨rfl,rfl,rfl,rfl⟩)) (bz (i := 5) sc.nd rfl (Or.inl rfl)) (aj (aU (dN (cR (bK hr) (pv 5) (pv 2)) (by with_unfolding_all rfl)) (ae (cx (bK hr) (pv 2) (pv 5) (pv 4) rfl) (aj (aS (dG AV AX AW bE (pv 3) (aa (pv 5) ag))))) aH))))))) (aj (aC (pv 2)))))),?_⟩
 have slt : (6000 : Nat) < sizeLine := by decide
 refine fun ah na => ⟨_,rfl,ac,[(.inr good,.non)],rfl,(by show 1 <= 15; decide),?_⟩
 have ga : ay H (aq (aq H ah (.dK [])) ah (.dK (cm [] [((.inr good : Key),V.non)]))) := by
  rw [jd]
  exact ak na _
 have ea : (aq (aq H ah (.dK [])) ah (.dK (cm [] [((.inr good : Key),V.non)]))) ah = some (.dK (aP [(good,none)])) := ac
 generalize aq (aq H ah (.dK [])) ah (.dK (cm [] [((.inr good : Key),V.non)])) = H0 at ga ea ⊢
 refine ⟨_,rfl,(by show 1 <= sizeLine; decide),fun wt nw => ?_⟩
 have nwH : H wt = none := ga.free nw
 have g0 := ga.trans (ak nw (.lst [.str good]))
 have e0 : aq H0 wt (.lst [.str good]) ah = some (.dK (aP [(good,none)])) := ak nw _ _ _ ea
 have aw : ah ≠ wt := fun z => by rw [z,nw] at ea; cases ea
 try dsimp only [bu,bx]
 refine dD (fun σ H' => ay H H' /\ ∃ (es : List (Str × Option Str)) (ws : List Str) (o4 o5 : Option V),σ = [some (.ref d),some (.str good),some (.ref ah),some (.ref wt),o4,o5] /\ H' ah = some (.dK (aP es)) /\ H' wt = some (.lst (ws.map V.str)) /\ cF ps good es /\ (∀ y ∈ ws,y ∈ aJ es) /\ (∀ y ∈ aJ es,y ∉ ws -> ∀ b,(y,b) ∈ ps -> b ∈ aJ es) /\ 2 * (1002 - (aJ es).length) + ws.length <= 5000)
  (fun (σ : L2.St) (H' : Hp) => match H' ah,H' wt with | some (.dK kvs),some (.lst xs) => 2 * (1002 - kvs.length) + xs.length | _,_ => 0)
  ⟨g0,[(good,none)],[good],none,none,rfl,e0,ac,.start ps good few,fun y hy => by simpa [aJ] using hy,fun y hy n => absurd (by simpa [aJ] using hy) n,by show 2 * (1002 - 1) + 1 <= 5000; decide⟩ ?_
  (fun σ H Q Q' m ⟨v,e,a,ys,e1,e2,i,j,e3,e4,k,hk,h2⟩ => ⟨v,e,a,ys,e1,e2,i,j,e3,e4,k,hk,m _ _ h2⟩)
 rintro σ H1 ⟨g1,es,ws,o4,o5,rfl,e1,w1,ab,wsub,cl,mes⟩
 refine ⟨_,rfl,wt,_,rfl,.inl (bc.of w1),_,_,rfl,rfl,_,rfl,d2 (fun c => ?_) (fun c => ?_)⟩
 ·rcases List.eq_nil_or_concat ws with rfl | ⟨ws0,nm,rfl⟩
  ·simp at c
  rw [List.concat_eq_append] at *
  have nmk : nm ∈ aJ es := wsub nm (by simp)
  have wl : (ws0 ++ [nm]).length = ws0.length + 1 := by simp
  refine ⟨_,rfl,.inl ⟨rfl,_,bc.of w1⟩,wt,_,.str nm,rfl,rfl,w1,(by simp),?_⟩
  have w2 : ((ws0 ++ [nm]).map V.str).dropLast = ws0.map V.str := by simp
  rw [w2]
  have g2 := em (o := .lst (ws0.map V.str)) g1 nwH
  have e2 : aq H1 wt (.lst (ws0.map V.str)) ah = some (.dK (aP es)) := by rw [af aw]; exact e1
  have w2' : aq H1 wt (.lst (ws0.map V.str)) wt = some (.lst (ws0.map V.str)) := ac
  generalize aq H1 wt (.lst (ws0.map V.str)) = H2 at g2 e2 w2' ⊢
  refine ⟨_,rfl,d,rfl,.inl ⟨_,.inl (g2 _ _ ed)⟩,_,rfl,fun pn hn => ⟨_,b5.k (k := .inr nm) (ak hn _ _ _ (g2 _ _ ed)),?_⟩⟩
  have g3 := g2.trans (ak hn (.dK []))
  have e3 := ak hn (.dK []) _ _ e2
  have w3 := ak hn (.dK []) _ _ w2'
  have hnH : H pn = none := g2.free hn
  obtain ⟨rw_,ys,hx,hr,hH,ysl,ym,ra,rw1⟩ : ∃ (r : Addr) (ys : List Str),(aK (cL rows rs) (.inr nm)).getD (.ref pn) = .ref r /\ (aq H2 pn (.dK [])) r = some (.dK (aN ys (.bl true))) /\ (H r = none ∨ H r = some (.dK (aN ys (.bl true)))) /\ ys.length <= 1000 /\ (∀ b,b ∈ ys ↔ (nm,b) ∈ ps) /\ r ≠ ah /\ r ≠ wt := by
   rcases uo (x := nm) dr ndr ok with ⟨hv,no⟩ | ⟨r,ys,hv,_,hH,hl,_,hm⟩
   ·rw [hv]
    exact ⟨pn,[],rfl,ac,.inl hnH,by simp,fun b => ⟨fun h => by simp at h,fun h => absurd h (no b)⟩,(fun z => by rw [z,e2] at hn; cases hn),(fun z => by rw [z,w2'] at hn; cases hn)⟩
   ·rw [hv]
    exact ⟨r,ys,rfl,g3 _ _ hH,.inr hH,by omega,hm,(fun z => by rw [z,na] at hH; cases hH),(fun z => by rw [z,nwH] at hH; cases hH)⟩
  rw [hx]
  generalize aq H2 pn (.dK []) = H3 at g3 e3 w3 hr ⊢
  refine ⟨rw_,_,rfl,hr,fun o nf => ?_⟩
  have fah : aq H rw_ (.frz o (.dK (aN ys (.bl true)))) ah = none := by rw [af (Ne.symm ra)]; exact na
  have fwt : aq H rw_ (.frz o (.dK (aN ys (.bl true)))) wt = none := by rw [af (Ne.symm rw1)]; exact nwH
  refine kE (kvs := aN ys (.bl true)) (fun i σ H4 => ay (aq H rw_ (.frz o (.dK (aN ys (.bl true))))) H4 /\ ∃ (es' : List (Str × Option Str)) (ws' : List Str) (o5 : Option V),σ = [some (.ref d),some (.str good),some (.ref ah),some (.ref wt),some (.str nm),o5] /\ H4 ah = some (.dK (aP es')) /\ H4 wt = some (.lst (ws'.map V.str)) /\ cF ps good es' /\ nm ∈ aJ es' /\ (∀ y ∈ ws',y ∈ aJ es') /\ (∀ y ∈ aJ es',y ≠ nm -> y ∉ ws' -> ∀ b,(y,b) ∈ ps -> b ∈ aJ es') /\ (∀ (j : Nat) (b : Str),j < i -> ys[j]? = some b -> b ∈ aJ es') /\ 2 * (1002 - (aJ es').length) + ws'.length <= 2 * (1002 - (aJ es).length) + ws0.length)
   ⟨pX g3 _ _,es,ws0,o5,rfl,by rw [af (Ne.symm ra)]; exact e3,by rw [af (Ne.symm rw1)]; exact w3,ab,nmk,fun y hy => wsub y (by simp [hy]),fun y hy hn hw => cl y hy (by simp [hn,hw]),fun j b h => absurd h (by omega),A4 _⟩
   (fun i σ H4 _ h => h.1 _ _ ac) ?_ ?_
  ·rintro i k x σ H4 hk ⟨g4,es',ws',o5,rfl,e4,w4,ab',nm',wsub',cl',pr',mes'⟩
   obtain ⟨b,hb,rfl⟩ := rD hk
   have hbp : (nm,b) ∈ ps := (ym b).mp (AB hb)
   have rm := ab'.room
   refine ⟨_,rfl,_,rfl,ah,_,rfl,b5.k (k := .inr b) e4,_,rfl,?_⟩
   rw [fR]
   refine ye (fun hf => ?_) (fun ht => ?_)
   ·have nb := of_decide_eq_false hf
    refine ⟨_,rfl,_,rfl,_,rfl,ah,_,rfl,d4.k (k := .inr b) e4 (by rw [dU]; omega),?_⟩
    rw [n8 nb]
    have w5 : aq H4 ah (.dK (aP (es' ++ [(b,some nm)]))) wt = some (.lst (ws'.map V.str)) := by rw [af (Ne.symm aw)]; exact w4
    have g5 := em (o := .dK (aP (es' ++ [(b,some nm)]))) g4 fah
    have nk := dW es' b (some nm)
    refine ⟨_,rfl,.inl ⟨rfl,_,bc.of w5⟩,_,rfl,wt,_,_,rfl,rfl,w5,(by rw [A2]; omega),?_⟩
    refine ⟨em g5 fwt _,es' ++ [(b,some nm)],ws' ++ [b],_,rfl,by rw [af aw]; exact ac,by rw [ac,Ab]; rfl,ab'.add nm' nb hbp,by rw [nk]; simp [nm'],fun y hy => ?_,fun y hy hn hw c hc => ?_,fun j c hj hc => ?_,?_⟩
    ·rw [nk]
     rcases AY.mp hy with k | k
     ·simp [wsub' y k]
     ·simp at k
      simp [k]
    ·rw [nk] at hy ⊢
     simp at hw
     rcases AY.mp hy with k | k
     ·simp [cl' y k hn hw.1 c hc]
     ·simp at k
      exact absurd k hw.2
    ·rw [nk]
     rcases An.mp hj with k | rfl
     ·simp [pr' j c k hc]
     ·rw [hb] at hc
      cases hc
      simp
    ·rw [nk]
     simp only [A6,Ac,List.length_nil]
     omega
   ·have ib := of_decide_eq_true ht
    refine ⟨g4,es',ws',_,rfl,e4,w4,ab',nm',wsub',cl',fun j c hj hc => ?_,mes'⟩
    rcases An.mp hj with k | rfl
    ·exact pr' j c k hc
    ·rw [hb] at hc
     cases hc
     exact ib
  ·rintro σ H4 ⟨g4,es',ws',o5,rfl,e4,w4,ab',nm',wsub',cl',pr',mes'⟩
   rw [bQ] at pr'
   have e5 : aq H4 rw_ (.dK (aN ys (.bl true))) ah = some (.dK (aP es')) := by rw [af (Ne.symm ra)]; exact e4
   have w5 : aq H4 rw_ (.dK (aN ys (.bl true))) wt = some (.lst (ws'.map V.str)) := by rw [af (Ne.symm rw1)]; exact w4
   refine ⟨rw_,o,aN ys (.bl true),g4 _ _ ac,nf,⟨fun b' u hb' => ?_,es',ws',_,o5,rfl,e5,w5,ab',wsub',fun y hy hw b hb => ?_,by simp only [A6,Ac,List.length_nil] at mes; omega⟩,?_⟩
   ·by_cases z : b' = rw_
    ·subst z
     rcases hH with k | k
     ·rw [k] at hb'; cases hb'
     ·rw [k] at hb'
      cases hb'
      exact ac
    ·rw [af z]
     exact g4 _ _ (by rw [af z]; exact hb')
   ·by_cases z : y = nm
    ·subst z
     obtain ⟨j,hj⟩ := Aa.mp ((ym b).mpr hb)
     exact pr' j b (A1.mp hj).1 hj
    ·exact cl' y hy z hw b hb
   ·rw [e5,w5,e1,w1]
    show 2 * (1002 - (aP es').length) + (ws'.map V.str).length < 2 * (1002 - (aP es).length) + ((ws0 ++ [nm]).map V.str).length
    rw [dU,dU,A2,A2,A6]
    simp only [Ac,List.length_nil]
    omega
 ·have wz : ws = [] := by
   rw [A2] at c
   exact List.eq_nil_of_length_eq_zero (by omega)
  subst wz
  exact ⟨_,rfl,q ah H1 es g1 e1 ⟨ab,fun y => ⟨ab.led y,fun l => l.closed (S := fun y => y ∈ aJ es) ab.good fun a b ha hab => cl a ha (by simp) b hab⟩⟩⟩
theorem vq : az ["ahead","goal","chain","name"] ["ahead","goal"] (ap si) := ⟨rfl,rfl,rfl,by decide +kernel,rfl,by decide +kernel,by decide +kernel⟩
set_option maxHeartbeats 4000000 in
theorem vt {dV : Value} (F : bG K "chain_to" "chain_to" si dV f fd) (B : Bn K mg c_InRing c_Larder c_NoName c_NoNumber c_NoStand c_NoStandIn c_StoveError f_Z13 f_Z14 f_Z15 f_Z16 f_Z17 f_Z18 f_Z19 f_Z20 f_Z21 f_Z22)  : a7 P w K mg base aZ 1 f fd ["ahead","goal"] qm := by
 have sc := vq
 refine F.ok sc (fun vs H Q E h => ?_) (fun cdv A outer s H vs Q E hr h => ?_)
 ·obtain ⟨ah,goal,good,ps,es,rfl,_⟩ := h
  rfl
 obtain ⟨ah,goal,good,ps,es,rfl,ea,ab,hg,q⟩ := h
 refine ⟨_,(ae (ar (i := 2) sc.nd rfl (Or.inl rfl) (bw ag)) (ae (ar (i := 3) sc.nd rfl (Or.inl rfl) (pv 1)) (ae (dz PassesOwn.never (ax gn (pv 3) bR (aE _)) (ae (aS (dG AV AX AW bE (pv 2) (aa (pv 3) ag))) (aj (ar (i := 3) sc.nd rfl (Or.inl rfl) (gq (bK hr) (pv 0) (pv 3) (fun _ _ => rfl)))))) (aj (aC (lW rfl rfl B.b_list rfl B.b_reversed boot_list PyProof.Rows.Boot.«reversed» (pv 2))))))),?_⟩
 have slt : (3000 : Nat) < sizeLine := by decide
 have kl : (aJ es).length = es.length := by simp [aJ]
 have rm := ab.room
 refine ⟨(by show 0 <= sizeLine; omega),fun lc nl => ?_⟩
 have g0 := ak nl (.lst [])
 refine ⟨_,rfl,?_⟩
 try dsimp only [bu,bx]
 refine dD (fun σ H' => ay H H' /\ ∃ (rc : List Str) (o : Option Str),σ = [some (.ref ah),some (.str goal),some (.ref lc),some (lX o)] /\ H' lc = some (.lst (rc.map V.str)) /\ Back ps good goal es rc o)
  (fun (σ : L2.St) (H' : Hp) => kH es σ[3]?)
  ⟨g0,[],some goal,rfl,ac,.start hg⟩ ?_
  (fun σ H Q Q' m ⟨v,e,e2,b,hb,h2⟩ => ⟨v,e,e2,b,hb,m _ _ h2⟩)
 rintro σ H1 ⟨g1,rc,o,rfl,e1,bk⟩
 refine ⟨_,rfl,rfl,_,rfl,?_⟩
 cases o with
 | none =>
  refine bM ⟨_,rfl,lc,_,rfl,bc.of e1,fun p hp => q p _ rc.reverse (g1.trans (ak hp _)) (g1.free hp) (by rw [ac,List.map_reverse]) (bk.way ab)⟩
 | some y =>
  obtain ⟨i,oy,hi,_,_,hl⟩ := bk.nxt y rfl
  have al : ah ≠ lc := fun z => by rw [z,nl] at ea; cases ea
  refine cW ⟨_,rfl,.inl ⟨rfl,_,bc.of e1⟩,_,rfl,lc,_,_,rfl,rfl,e1,(by rw [A2]; omega),?_⟩
  refine ⟨_,rfl,_,rfl,ah,_,rfl,(by rw [<- pW ab.nd hi]; exact b5.k (k := .inr y) (by rw [af al]; exact g1 _ _ ea)),⟨em g1 nl _,rc ++ [y],oy,rfl,by rw [ac,Ab]; rfl,bk.step ab hi⟩,pY ab hi⟩
theorem vv : az ["parts","good","goals","ahead","found"] ["parts","good","goals"] (ap sj) := ⟨rfl,rfl,rfl,by decide +kernel,rfl,by decide +kernel,by decide +kernel⟩
set_option maxHeartbeats 4000000 in
theorem vx {dV : Value} (F : bG K "chain_down" "chain_down" sj dV f fd) (B : Bn K mg c_InRing c_Larder c_NoName c_NoNumber c_NoStand c_NoStandIn c_StoveError f_Z13 f_Z14 f_Z15 f_Z16 f_Z17 f_Z18 f_Z19 f_Z20 f_Z21 f_Z22) (DZ9 : Dx P w K mg base aZ 1 "names_ahead" ["parts","good"] [] gv) (DZ10 : Dx P w K mg base aZ 1 "chain_to" ["ahead","goal"] [] qm) : a7 P w K mg base aZ 2 f fd ["parts","good","goals"] dX := by
 have sc := vv
 refine F.ok sc (fun vs H Q E h => ?_) (fun cdv A outer s H vs Q E hr h => ?_)
 ·obtain ⟨d,lg,good,rows,ps,gs,rfl,_⟩ := h
  rfl
 obtain ⟨d,lg,good,rows,ps,gs,rfl,dd,ok,few,hg,q1,q2⟩ := h
 refine ⟨_,(ae (ar (i := 3) sc.nd rfl (Or.inl rfl) (aT DZ9 hr (by decide) rfl (aa (pv 0) (aa (pv 1) ag)))) (ae (lS (iX sc.nd (i := 4) rfl rfl (own := "name") (ys := ["goals"]) (js := [2]) rfl (xG (xF xE) (.cons rfl .nil) (by decide) rfl rfl rfl rfl rfl rfl rfl rfl) (jA (pv 3)) (fun C fp s H => (ax (uq (K := K) rfl) (pv 0) (pv 1) (by with_unfolding_all rfl))) (fun C fp s H => (pv 0)))) (ae (aU (ax dE (aD aW rfl B.b_len boot_len (aa (pv 4) ag)) am (aE _)) (aj (aC bR)) aH) (aj (aC (aT DZ10 hr (by decide) rfl (aa (pv 3) (aa (aI aB (pv 4) am (fun _ _ => rfl)) ag)))))))),?_⟩
 have slt : (3000 : Nat) < sizeLine := by decide
 refine ⟨_,rfl,_,rfl,d,good,rows,ps,rfl,dd,ok,few,fun ah H1 es g1 e1 ao => ?_⟩
 have rm := ao.base.room
 have kl := dU es
 have l1 := g1 _ _ hg
 have la : lg ≠ ah := fun z => by rw [z,e1] at l1; cases l1
 refine ⟨_,rfl,ah,_,rfl,e1,fun o nf => ?_⟩
 refine kK (xK gs) ac (by omega) (fun i k x hk H3 g3 R hR => ?_) (fun p H' g' e' => ?_)
 ·have hk' := hk
  unfold aP at hk'
  rw [AI] at hk'
  cases he : es[i]? with
  | none => rw [he] at hk'; cases hk'
  | some e =>
   rw [he] at hk'
   cases hk'
   refine ⟨_,rfl,_,rfl,lg,_,rfl,.inl (bc.of (g3 _ _ (by rw [af la]; exact l1))),rfl,eC gs,_,rfl,?_⟩
   show R (tL (.str e.1) (gs.map V.str)) H3
   rw [jB]
   exact hR
 ·have fa := g' _ _ ac
  have pa : p ≠ ah := fun z => by rw [z,fa] at e'; cases e'
  have g2 : ay H (aq H' ah (.dK (aP es))) := fun b u hb => by
   by_cases z : b = ah
   ·subst z
    have := (g1 _ _ hb).symm.trans e1
    cases this
    exact ac
   ·rw [af z]
    exact g' _ _ (by rw [af z]; exact g1 _ _ hb)
  have e2 : aq H' ah (.dK (aP es)) ah = some (.dK (aP es)) := ac
  rw [kL] at e'
  have p2 : aq H' ah (.dK (aP es)) p = some (.lst (((aJ es).filter fun y => decide (y ∈ gs)).map V.str)) := by rw [af pa]; exact e'
  refine ⟨ah,o,aP es,fa,nf,?_⟩
  generalize aq H' ah (.dK (aP es)) = H2 at g2 e2 p2 ⊢
  clear g' e' fa
  have mem : ∀ y,y ∈ ((aJ es).filter fun y => decide (y ∈ gs)) ↔ y ∈ aJ es /\ y ∈ gs := fun y => by simp [B3]
  have hd : good ∈ gs -> ∃ r,((aJ es).filter fun y => decide (y ∈ gs)) = good :: r := fun hin => by
   have k0 := fw ao.base.first
   cases ek : aJ es with
   | nil => rw [ek] at k0; simp at k0
   | cons c r =>
    rw [ek] at k0
    simp at k0
    subst k0
    exact ⟨_,List.filter_cons_of_pos (by exact decide_eq_true hin)⟩
  generalize ((aJ es).filter fun y => decide (y ∈ gs)) = fs at p2 mem hd
  refine ⟨_,rfl,p,_,rfl,.inl (bc.of p2),rfl,_,rfl,?_⟩
  cases fs with
  | nil => exact cW (q1 H2 g2 fun y hy l => by simpa using (mem y).mpr ⟨(ao.all y).mpr l,hy⟩)
  | cons c r =>
   have hc := (mem c).mp (Aw)
   refine dF (p := V.int (((c :: r).map V.str).length : Int) = V.int 0) (fun z => by injection z with z; simp at z; omega) ?_
   refine ⟨_,rfl,_,rfl,p,_,0,.str c,rfl,rfl,bc.of p2,(show eO ((c :: r).map V.str) ((0 : Nat) : Int) = some (.str c) from bY rfl),ah,c,good,ps,es,rfl,e2,ao.base,hc.1,fun l H3 cs g3 nl3 e3 wy => ?_⟩
   exact q2 l H3 cs c (g2.trans g3) (g2.free nl3) e3 wy hc.2 ((ao.all c).mp hc.1) fun hin => by
    obtain ⟨r',hr'⟩ := hd hin
    cases hr'
    rfl
theorem vy : az ["parts","good"] ["parts","good"] (ap sk) := ⟨rfl,rfl,rfl,by decide +kernel,rfl,by decide +kernel,by decide +kernel⟩
set_option maxHeartbeats 4000000 in
theorem vz {dV : Value} (F : bG K "all_inside" "all_inside" sk dV f fd) (B : Bn K mg c_InRing c_Larder c_NoName c_NoNumber c_NoStand c_NoStandIn c_StoveError f_Z13 f_Z14 f_Z15 f_Z16 f_Z17 f_Z18 f_Z19 f_Z20 f_Z21 f_Z22) (DZ9 : Dx P w K mg base aZ 1 "names_ahead" ["parts","good"] [] gv) : a7 P w K mg base aZ 2 f fd ["parts","good"] fT := by
 have sc := vy
 refine F.ok sc (fun vs H Q E h => ?_) (fun cdv A outer s H vs Q E hr h => ?_)
 ·obtain ⟨d,good,rows,ps,rfl,_⟩ := h
  rfl
 obtain ⟨d,good,rows,ps,rfl,dd,ok,few,q⟩ := h
 refine ⟨_,(aj (aC (aD (eB rfl) rfl B.b_sorted PyProof.Rows.Boot.«sorted» (aa (aT DZ9 hr (by decide) rfl (aa (pv 0) (aa (pv 1) ag))) ag)))),?_⟩
 refine ⟨_,rfl,_,rfl,d,good,rows,ps,rfl,dd,ok,by omega,fun ah H1 es g1 e1 ao => ?_⟩
 refine ⟨ah,aJ es,_,rfl,e1,kO es,ao.base.nd,(by have := jC ao.base.nd ao.all; omega),fun p ys np pr sr => q p _ ys (g1.trans (ak np _)) (g1.free np) ac sr (pr.nodup_iff.mpr ao.base.nd) fun y => (pr.mem_iff).trans (ao.all y)⟩
theorem vA : az ["self"] ["self"] (ap sq) := ⟨rfl,rfl,rfl,by decide +kernel,rfl,by decide +kernel,by decide +kernel⟩
set_option maxHeartbeats 4000000 in
theorem vB {dV : Value} (F : bG K "__init__" "Larder.__init__" sq dV f fd) (B : Bn K mg c_InRing c_Larder c_NoName c_NoNumber c_NoStand c_NoStandIn c_StoveError f_Z13 f_Z14 f_Z15 f_Z16 f_Z17 f_Z18 f_Z19 f_Z20 f_Z21 f_Z22)  : a7 P w K mg base aZ 1 f fd ["self"] (fU c_Larder) := by
 have sc := vA
 refine F.ok sc (fun vs H Q E h => ?_) (fun cdv A outer s H vs Q E hr h => ?_)
 ·obtain ⟨x,dx,rfl,_⟩ := h
  rfl
 obtain ⟨x,dx,rfl,e0,q⟩ := h
 refine ⟨_,(ae (jg (pv 0) bV rfl) (ae (jg (pv 0) bV rfl) (ae (jg (pv 0) bV rfl) (aj (jg (pv 0) bV rfl))))),?_⟩
 have k0 : iz x H H := fun _ _ _ e => e
 have l0 : ([] : List (Str × V)).length <= 0 := A4 _
 intro p np
 have xp : x ≠ p := fun z => by rw [<- z,e0] at np; cases np
 refine ⟨_,rfl,x,_,dx,_,rfl,(by rw [af xp]; exact e0),B.cl_Larder,B.na_Larder_parts,(by omega),?_⟩
 have e1 : (aq (aq H p (.dK [])) x (.ins c_Larder dx (aA "parts" (.ref p) []))) x = some (.ins c_Larder dx (aA "parts" (.ref p) [])) := ac
 have k1 : iz x H (aq (aq H p (.dK [])) x (.ins c_Larder dx (aA "parts" (.ref p) []))) := k0.trans (iz.step (.dK []) np)
 have vp : (aq (aq H p (.dK [])) x (.ins c_Larder dx (aA "parts" (.ref p) []))) p = some (.dK []) := by rw [af (Ne.symm xp)]; exact ac
 have l1 : ((aA "parts" (.ref p) []) : List (Str × V)).length <= 1 := by have := b9 "parts" (.ref p) []; omega
 have fp : H p = none := by
  cases h : H p with
  | none => rfl
  | some ob => rw [k0 p ob (Ne.symm xp) h] at np; cases np
 generalize (aq (aq H p (.dK [])) x (.ins c_Larder dx (aA "parts" (.ref p) []))) = H1 at e1 k1 vp ⊢
 intro st nst
 have xst : x ≠ st := fun z => by rw [<- z,e1] at nst; cases nst
 refine ⟨_,rfl,x,_,dx,_,rfl,(by rw [af xst]; exact e1),B.cl_Larder,B.na_Larder_stands,(by omega),?_⟩
 have e2 : (aq (aq H1 st (.dK [])) x (.ins c_Larder dx (aA "stands" (.ref st) (aA "parts" (.ref p) [])))) x = some (.ins c_Larder dx (aA "stands" (.ref st) (aA "parts" (.ref p) []))) := ac
 have k2 : iz x H (aq (aq H1 st (.dK [])) x (.ins c_Larder dx (aA "stands" (.ref st) (aA "parts" (.ref p) [])))) := k1.trans (iz.step (.dK []) nst)
 have vst : (aq (aq H1 st (.dK [])) x (.ins c_Larder dx (aA "stands" (.ref st) (aA "parts" (.ref p) [])))) st = some (.dK []) := by rw [af (Ne.symm xst)]; exact ac
 have l2 : ((aA "stands" (.ref st) (aA "parts" (.ref p) [])) : List (Str × V)).length <= 2 := by have := b9 "stands" (.ref st) (aA "parts" (.ref p) []); omega
 have fst : H st = none := by
  cases h : H st with
  | none => rfl
  | some ob => rw [k1 st ob (Ne.symm xst) h] at nst; cases nst
 have wpst : p ≠ st := fun z => by rw [<- z,vp] at nst; cases nst
 replace vp : (aq (aq H1 st (.dK [])) x (.ins c_Larder dx (aA "stands" (.ref st) (aA "parts" (.ref p) [])))) p = some (.dK []) := iz.step (.dK []) nst p _ (Ne.symm xp) vp
 generalize (aq (aq H1 st (.dK [])) x (.ins c_Larder dx (aA "stands" (.ref st) (aA "parts" (.ref p) [])))) = H2 at e2 k2 vst vp ⊢
 intro b nb
 have xb : x ≠ b := fun z => by rw [<- z,e2] at nb; cases nb
 refine ⟨_,rfl,x,_,dx,_,rfl,(by rw [af xb]; exact e2),B.cl_Larder,B.na_Larder_bars,(by omega),?_⟩
 have e3 : (aq (aq H2 b (.dK [])) x (.ins c_Larder dx (aA "bars" (.ref b) (aA "stands" (.ref st) (aA "parts" (.ref p) []))))) x = some (.ins c_Larder dx (aA "bars" (.ref b) (aA "stands" (.ref st) (aA "parts" (.ref p) [])))) := ac
 have k3 : iz x H (aq (aq H2 b (.dK [])) x (.ins c_Larder dx (aA "bars" (.ref b) (aA "stands" (.ref st) (aA "parts" (.ref p) []))))) := k2.trans (iz.step (.dK []) nb)
 have vb : (aq (aq H2 b (.dK [])) x (.ins c_Larder dx (aA "bars" (.ref b) (aA "stands" (.ref st) (aA "parts" (.ref p) []))))) b = some (.dK []) := by rw [af (Ne.symm xb)]; exact ac
 have l3 : ((aA "bars" (.ref b) (aA "stands" (.ref st) (aA "parts" (.ref p) []))) : List (Str × V)).length <= 3 := by have := b9 "bars" (.ref b) (aA "stands" (.ref st) (aA "parts" (.ref p) [])); omega
 have fb : H b = none := by
  cases h : H b with
  | none => rfl
  | some ob => rw [k2 b ob (Ne.symm xb) h] at nb; cases nb
 have wpb : p ≠ b := fun z => by rw [<- z,vp] at nb; cases nb
 have wstb : st ≠ b := fun z => by rw [<- z,vst] at nb; cases nb
 replace vp : (aq (aq H2 b (.dK [])) x (.ins c_Larder dx (aA "bars" (.ref b) (aA "stands" (.ref st) (aA "parts" (.ref p) []))))) p = some (.dK []) := iz.step (.dK []) nb p _ (Ne.symm xp) vp
 replace vst : (aq (aq H2 b (.dK [])) x (.ins c_Larder dx (aA "bars" (.ref b) (aA "stands" (.ref st) (aA "parts" (.ref p) []))))) st = some (.dK []) := iz.step (.dK []) nb st _ (Ne.symm xst) vst
 generalize (aq (aq H2 b (.dK [])) x (.ins c_Larder dx (aA "bars" (.ref b) (aA "stands" (.ref st) (aA "parts" (.ref p) []))))) = H3 at e3 k3 vb vp vst ⊢
 intro n nn
 have xn : x ≠ n := fun z => by rw [<- z,e3] at nn; cases nn
 refine ⟨_,rfl,x,_,dx,_,rfl,(by rw [af xn]; exact e3),B.cl_Larder,B.na_Larder_names,(by omega),?_⟩
 have e4 : (aq (aq H3 n (.dK [])) x (.ins c_Larder dx (aA "names" (.ref n) (aA "bars" (.ref b) (aA "stands" (.ref st) (aA "parts" (.ref p) [])))))) x = some (.ins c_Larder dx (aA "names" (.ref n) (aA "bars" (.ref b) (aA "stands" (.ref st) (aA "parts" (.ref p) []))))) := ac
 have k4 : iz x H (aq (aq H3 n (.dK [])) x (.ins c_Larder dx (aA "names" (.ref n) (aA "bars" (.ref b) (aA "stands" (.ref st) (aA "parts" (.ref p) [])))))) := k3.trans (iz.step (.dK []) nn)
 have vn : (aq (aq H3 n (.dK [])) x (.ins c_Larder dx (aA "names" (.ref n) (aA "bars" (.ref b) (aA "stands" (.ref st) (aA "parts" (.ref p) [])))))) n = some (.dK []) := by rw [af (Ne.symm xn)]; exact ac
 have l4 : ((aA "names" (.ref n) (aA "bars" (.ref b) (aA "stands" (.ref st) (aA "parts" (.ref p) [])))) : List (Str × V)).length <= 4 := by have := b9 "names" (.ref n) (aA "bars" (.ref b) (aA "stands" (.ref st) (aA "parts" (.ref p) []))); omega
 have fn : H n = none := by
  cases h : H n with
  | none => rfl
  | some ob => rw [k3 n ob (Ne.symm xn) h] at nn; cases nn
 have wpn : p ≠ n := fun z => by rw [<- z,vp] at nn; cases nn
 have wstn : st ≠ n := fun z => by rw [<- z,vst] at nn; cases nn
 have wbn : b ≠ n := fun z => by rw [<- z,vb] at nn; cases nn
 replace vp : (aq (aq H3 n (.dK [])) x (.ins c_Larder dx (aA "names" (.ref n) (aA "bars" (.ref b) (aA "stands" (.ref st) (aA "parts" (.ref p) [])))))) p = some (.dK []) := iz.step (.dK []) nn p _ (Ne.symm xp) vp
 replace vst : (aq (aq H3 n (.dK [])) x (.ins c_Larder dx (aA "names" (.ref n) (aA "bars" (.ref b) (aA "stands" (.ref st) (aA "parts" (.ref p) [])))))) st = some (.dK []) := iz.step (.dK []) nn st _ (Ne.symm xst) vst
 replace vb : (aq (aq H3 n (.dK [])) x (.ins c_Larder dx (aA "names" (.ref n) (aA "bars" (.ref b) (aA "stands" (.ref st) (aA "parts" (.ref p) [])))))) b = some (.dK []) := iz.step (.dK []) nn b _ (Ne.symm xb) vb
 generalize (aq (aq H3 n (.dK [])) x (.ins c_Larder dx (aA "names" (.ref n) (aA "bars" (.ref b) (aA "stands" (.ref st) (aA "parts" (.ref p) [])))))) = H4 at e4 k4 vn vp vst vb ⊢
 have la : LA c_Larder [p,n] H4 x [] [] := ⟨dx,p,n,fA (.ref p) (.ref st) (.ref b) (.ref n),[],e4,jD.1,jD.2.1,trivial,vp,vn,rfl,by simp [wpn],jD.2.2⟩
 refine q H4 [p,n,st,b] k4 (fun a ha => ?_) ⟨[p,n],dx,st,b,fA (.ref p) (.ref st) (.ref b) (.ref n),[],la,e4,hZ.1,hZ.2.1,uv vst,vb,wstb,?_,?_,fun y a e => (by cases e),fun a ha => ?_,by simp,by simp,fun a ha => ?_,hZ.2.2⟩
 ·simp only [A8,Au,or_false] at ha
  rcases ha with rfl | rfl | rfl | rfl
  ·exact fp
  ·exact fn
  ·exact fst
  ·exact fb
 ·simp only [A8,Au,or_false]
  exact fun z => z.elim (fun z => wpst z.symm) (fun z => wstn z)
 ·simp only [A8,Au,or_false]
  exact fun z => z.elim (fun z => wpb z.symm) (fun z => wbn z)
 ·simp only [A8,Au,or_false] at ha ⊢
  rcases ha with rfl | rfl
  ·exact .inl rfl
  ·exact .inr (.inl rfl)
 ·simp only [A8,Au,or_false] at ha
  rcases ha with rfl | rfl | rfl | rfl
  ·exact ⟨_,vp⟩
  ·exact ⟨_,vn⟩
  ·exact ⟨_,vst⟩
  ·exact ⟨_,vb⟩
theorem vC : az ["self","told","fresh","name"] ["self","told"] (ap ss) := ⟨rfl,rfl,rfl,by decide +kernel,rfl,by decide +kernel,by decide +kernel⟩
set_option maxHeartbeats 4000000 in
theorem vD {dV : Value} (F : bG K "learn" "Larder.learn" ss dV f fd) (B : Bn K mg c_InRing c_Larder c_NoName c_NoNumber c_NoStand c_NoStandIn c_StoveError f_Z13 f_Z14 f_Z15 f_Z16 f_Z17 f_Z18 f_Z19 f_Z20 f_Z21 f_Z22)  : a7 P w K mg base aZ 1 f fd ["self","told"] (fB c_Larder) := by
 have sc := vC
 refine F.ok sc (fun vs H Q E h => ?_) (fun cdv A outer s H vs Q E hr h => ?_)
 ·obtain ⟨x,l,F0,rows,ns,xs,rfl,_⟩ := h
  rfl
 obtain ⟨x,l,F0,rows,ns,xs,rfl,la,el,room,nd,q⟩ := h
 refine ⟨_,(ae (iX sc.nd (i := 2) rfl rfl (own := "name") (ys := ["self"]) (js := [0]) rfl (xG (xF xE) (.cons rfl .nil) (by decide) rfl rfl rfl rfl rfl rfl rfl rfl) (c8 (pv 1)) (fun C fp s H => (dN (cR (by exact bK hr) (pv 0) (rH (K := K) rfl (pv 1) rfl)) (by with_unfolding_all rfl))) (fun C fp s H => (pv 0))) (ae (aU (ax j5 (av cr (aD fQ rfl B.b_len boot_len (aa (cf (pv 0) rfl) ag)) (aD aW rfl B.b_len boot_len (aa (pv 2) ag))) (kC rfl B.g_MOST_NAMES) (aE _)) (aj oP) aH) (aj (b4 PassesOwn.never rfl (c8 (pv 2)) (bz (i := 3) sc.nd rfl (Or.inl rfl)) (aj (cx (bK hr) (cf (pv 0) rfl) (pv 3) bD rfl)))))),?_⟩
 obtain ⟨dx,p,n,fs,ex,fp,fn,dd,en,_,_,fm⟩ := la.dd
 have slt : (3000 : Nat) < sizeLine := by decide
 refine ⟨_,rfl,l,rfl,⟨_,bc.of el⟩,f9 (xs := xs.map V.str) (fun v => match v with | .str y => !decide (y ∈ ns) | _ => false) (bc.of el) (by rw [A2]; omega) (fun v hv H3 g3 R hR => ?_) (fun p1 H1 g1 e1 => ?_)⟩
 ·obtain ⟨y,hy,rfl⟩ := AF.mp hv
  refine ⟨_,rfl,_,rfl,x,_,dx,_,_,rfl,g3 _ _ ex,B.cl_Larder,B.na_Larder_names,fn,n,_,rfl,b5.k (k := .inr y) (g3 _ _ en),_,rfl,?_⟩
  rw [cD]
  by_cases h : y ∈ ns
  ·rw [if_pos h]
   have hR' : R (!decide (y ∈ ns)) H3 := hR
   rw [decide_eq_true h] at hR'
   exact hR'
  ·rw [if_neg h]
   have hR' : R (!decide (y ∈ ns)) H3 := hR
   rw [decide_eq_false h] at hR'
   exact hR'
 ·have fe : ∀ l : List Str,(l.map V.str).filter (fun v => match v with | .str y => !decide (y ∈ ns) | _ => false) = (l.filter fun y => !decide (y ∈ ns)).map V.str := by
   intro l
   induction l with
   | nil => rfl
   | cons c l ih =>
    rw [Ag,BI,BI,ih]
    by_cases h : c ∈ ns
    ·simp [h]
    ·simp [h]
  rw [fe] at e1
  have fl := B8 (fun y => !decide (y ∈ ns)) xs
  have fmem : ∀ y,y ∈ ns ∨ y ∈ (xs.filter fun y => !decide (y ∈ ns)) ↔ y ∈ ns ∨ y ∈ xs := by
   intro y
   rw [B3]
   by_cases h : y ∈ ns <;> simp [h]
  generalize (xs.filter fun y => !decide (y ∈ ns)) = fr at e1 fl fmem
  try dsimp only [bu,bx]
  refine cut (fun σ H' => H1 = H' /\ σ = [some (.ref x),some (.ref l),some (.ref p1),none]) (fun N hN => ?_) ?_
  ·refine ⟨_,rfl,x,_,dx,_,_,rfl,g1 _ _ ex,B.cl_Larder,B.na_Larder_names,fn,n,_,rfl,.inl (g1 _ _ en),_,rfl,p1,_,rfl,.inl (bc.of e1),_,_,rfl,rfl,_,_,rfl,rfl,_,rfl,d2 (fun c => ?_) (fun c => hN _ _ ⟨rfl,rfl⟩)⟩
   rw [bQ,A2] at c
   omega
  rintro σ _ ⟨rfl,rfl⟩
  refine ⟨_,rfl,p1,rfl,⟨_,bc.of e1⟩,dB (xs := fr.map V.str) (fun i σ H' => KF F0 H1 H' /\ (∃ o,σ = [some (.ref x),some (.ref l),some (.ref p1),o]) /\ LA c_Larder F0 H' x rows (eu ns (fr.take i))) ⟨KF.refl,⟨_,rfl⟩,la.same g1⟩ (fun i σ H' _ h => bc.of (h.1 _ _ ((la.same g1).not e1 (fun _ z => nomatch z)) e1)) ?_ ?_⟩
  ·rintro i v σ H' hx ⟨k,⟨o,rfl⟩,la'⟩
   rw [AI] at hx
   cases hc : fr[i]? with
   | none => rw [hc] at hx; cases hx
   | some y =>
    rw [hc] at hx
    cases hx
    obtain ⟨dx',p',n',fs',ex',fp',fn',dd',en',_,_,fm'⟩ := la'.dd
    have il := (A1.mp hc).1
    have tl := i4 (fr.take i) ns
    rw [Av] at tl
    have tk : fr.take (i + 1) = fr.take i ++ [y] := by rw [List.take_succ,hc]; rfl
    refine ⟨_,rfl,x,_,dx',_,_,rfl,ex',B.cl_Larder,B.na_Larder_names,fn',_,rfl,n',_,rfl,d4.k (k := .inr y) en' (by rw [bQ]; omega),?_⟩
    rw [dJ,<- lZ,<- tk]
    obtain ⟨la2,k2,_⟩ := la'.learn (ms := eu ns (fr.take (i + 1))) ex' fn'
    exact ⟨k.trans k2,⟨_,rfl⟩,la2⟩
  ·rintro σ H' ⟨k,⟨o,rfl⟩,la'⟩
   rw [A2,List.take_length] at la'
   exact q H' _ ((KF.of g1).trans k) la' (gb nd) fun y => i3.trans (fmem y)
theorem vE : az ["self"] ["self"] (ap su) := ⟨rfl,rfl,rfl,by decide +kernel,rfl,by decide +kernel,by decide +kernel⟩
set_option maxHeartbeats 4000000 in
theorem vF {dV : Value} (F : bG K "known" "Larder.known" su dV f fd) (B : Bn K mg c_InRing c_Larder c_NoName c_NoNumber c_NoStand c_NoStandIn c_StoveError f_Z13 f_Z14 f_Z15 f_Z16 f_Z17 f_Z18 f_Z19 f_Z20 f_Z21 f_Z22)  : a7 P w K mg base aZ 1 f fd ["self"] (ip c_Larder) := by
 have sc := vE
 refine F.ok sc (fun vs H Q E h => ?_) (fun cdv A outer s H vs Q E hr h => ?_)
 ·obtain ⟨x,F0,rows,ns,rfl,_⟩ := h
  rfl
 obtain ⟨x,F0,rows,ns,rfl,la,nd,l64,q⟩ := h
 refine ⟨_,(aj (aC (aD (eB rfl) rfl B.b_sorted PyProof.Rows.Boot.«sorted» (aa (cf (pv 0) rfl) ag)))),?_⟩
 obtain ⟨dx,p,n,fs,ex,fp,fn,dd,en,_,_,fm⟩ := la.dd
 refine ⟨_,rfl,x,_,dx,_,_,rfl,ex,B.cl_Larder,B.na_Larder_names,fn,n,ns,_,rfl,en,oj ns _,nd,l64,fun p ys np pr sr => q p _ ys (ak np _) np ac pr⟩
theorem vG : az ["self","good","other","back","inside"] ["self","good","other"] (ap sv) := ⟨rfl,rfl,rfl,by decide +kernel,rfl,by decide +kernel,by decide +kernel⟩
set_option maxHeartbeats 4000000 in
theorem vH {dV : Value} (F : bG K "part" "Larder.part" sv dV f fd) (B : Bn K mg c_InRing c_Larder c_NoName c_NoNumber c_NoStand c_NoStandIn c_StoveError f_Z13 f_Z14 f_Z15 f_Z16 f_Z17 f_Z18 f_Z19 f_Z20 f_Z21 f_Z22) (DZ11 : Dx P w K mg base aZ 2 "chain_down" ["parts","good","goals"] [] dX) (DZ14 : dw P w K mg base aZ 1 f_Z14 ["self","told"] [] (fB c_Larder)) (XZ8 : Dx P w K mg base (cB P w) 2 "refuse_no_names" ["things"] [] (dv K c_NoName)) (I_InRing : u8 P w K mg base 1 c_InRing ["self","ring"] (eT c_InRing "ring")) : a7 P w K mg base (cB P w) 3 f fd ["self","good","other"] (gw K c_Larder c_NoName c_InRing) := by
 have sc := vG
 refine F.okX sc (fun vs H Q E h => ?_) (fun cdv A outer s H vs Q E hr h => ?_)
 ·obtain ⟨x,g,o,F0,rows,ns,ps,rfl,_⟩ := h
  rfl
 obtain ⟨x,g,o,F0,rows,ns,ps,rfl,la,ok,few,nd,n78,hg,ho,eN,qq⟩ := h
 refine ⟨_,(ae (aS (eQ XZ8 hr (by decide) rfl cp (aa (bw (aa (pv 1) (aa (pv 2) ag))) ag))) (ae (ar (i := 3) sc.nd rfl (Or.inl rfl) (aT DZ11 hr (by decide) rfl (aa (cf (pv 0) rfl) (aa (pv 2) (aa (bw (aa (pv 1) ag)) ag))))) (ae (aU (ax gn (pv 3) bR (aE _)) (aj (mU I_InRing hr (by decide) rfl B.m_InRing rfl cp (aa (av pf (bw (aa (pv 1) ag)) (cg mI (pv 3) df (cv (iF fN am)))) ag))) aH) (ae (aS (dR (pv 0) DZ14 hr (by decide) (aa (bw (aa (pv 1) (aa (pv 2) ag))) ag))) (ae (ar (i := 4) sc.nd rfl (Or.inl rfl) (dG BP PySem.F.slot_dict_setdefault PySem.F.type_dict_setdefault iV (cf (pv 0) rfl) (aa (pv 1) (aa bV ag)))) (aj (cx (bK hr) (pv 4) (pv 2) bD rfl))))))),?_⟩
 have slt : (3000 : Nat) < sizeLine := by decide
 refine ⟨_,rfl,_,rfl,(by show 2 <= sizeLine; decide),fun l0 n0 => ?_⟩
 have g1 := ak n0 (.lst [g,o])
 refine ⟨l0,_,rfl,ac,(fun y hy => ?_),fun nn => ?_,fun nn H' gg => eN (fun z => nn fun y hy => ?_) H' (g1.trans gg)⟩
 ·rcases A8.mp hy with rfl | hy
  ·exact hg.imp id (c7.same g1)
  ·rw [A3.mp hy]
   exact ho.imp id (c7.same g1)
 rotate_left
 ·rcases A8.mp hy with rfl | hy
  ·exact z.1
  ·rw [A3.mp hy]
   exact z.2
 obtain ⟨zg,rfl,mg'⟩ := nn g (by simp)
 obtain ⟨zo,rfl,mo'⟩ := nn o (by simp)
 obtain ⟨qR,qD⟩ := qq zg zo rfl rfl mg' mo'
 have la1 := la.same g1
 generalize aq H l0 (.lst [.str zg,.str zo]) = H1 at g1 la1 ⊢
 obtain ⟨dx,p,n,fs,ex,fp,fn,dd,en,_,_,fm⟩ := la1.dd
 refine ⟨_,rfl,x,_,dx,_,_,rfl,ex,B.cl_Larder,B.na_Larder_parts,fp,_,rfl,_,rfl,(by show 1 <= sizeLine; decide),fun l2 n2 => ?_⟩
 have g2 := ak n2 (.lst [.str zg])
 refine ⟨p,l2,zo,rows,ps,[zg],rfl,dd.same g2,ok,by omega,ac,fun H3 g3 nl => ?_,fun lb H3 c goal g3 nlb eb wy gm gl ga => ?_⟩
 ·have g13 := g2.trans g3
  have la3 := la1.same g13
  try dsimp only [bu,bx]
  refine ⟨_,rfl,rfl,_,rfl,bM ?_⟩
  obtain ⟨dx,p,n,fs,ex,fp,fn,dd,en,_,_,fm⟩ := la3.dd
  refine ⟨_,rfl,x,_,dx,_,rfl,ex,B.cl_Larder,B.me_Z14,fm _ (by simp),_,rfl,_,rfl,(by show 2 <= sizeLine; decide),fun l4 n4 => ?_⟩
  have g4 := ak n4 (.lst [.str zg,.str zo])
  refine ⟨x,l4,F0,rows,ns,[zg,zo],rfl,la3.same g4,ac,(by simp; omega),nd,fun H5 ms k5 la5 nd5 m5 => ?_⟩
  have k05 : KF F0 H H5 := (KF.of ((g1.trans g13).trans g4)).trans k5
  obtain ⟨dx,p,n,fs,rs,ex,fp,fn,dr,ed,en,eF,ndF,fm⟩ := la5.ex
  have rf := ok.few
  have dl := dr.len
  have nl' : ¬ Led ps zo zg := nl zg (by simp)
  refine ⟨_,rfl,x,_,dx,_,_,rfl,ex,B.cl_Larder,B.na_Larder_parts,fp,.inr (.inr (.inl ⟨rfl,.inl ⟨_,ed⟩⟩)),_,rfl,fun pn hn => ?_⟩
  have g6 := ak hn (.dK [])
  refine ⟨p,_,.inr zg,.ref pn,rfl,rfl,g6 _ _ ed,by omega,fun w hw => ?_,fun hw => ?_⟩
  ·obtain ⟨r,ys,rfl,hm,hH,la6,k6⟩ := (la5.same g6).put_some (y := zo) (g6 _ _ ex) fp (g6 _ _ ed) hw
   have ysl := (ok.small _ hm).1
   refine ⟨_,rfl,_,rfl,r,_,rfl,d4.k (k := .inr zo) hH (by rw [bQ]; have : ys.length <= ps.length := ysl; omega),?_⟩
   rw [dJ]
   exact qD nl' F0 _ ms ((k05.trans (KF.of g6)).trans k6) FG.refl la6 nd5 fun y => (m5 y).trans (by simp)
  ·have pd : pn ≠ p := fun z => by rw [z,ed] at hn; cases hn
   obtain ⟨la6,k6⟩ := la5.put_none (y := zo) ex fp ed hn hw
   refine ⟨_,rfl,_,rfl,pn,_,rfl,d4.k (k := .inr zo) (kvs := []) (by rw [af pd]; exact ac) (by show 0 < sizeLine; omega),?_⟩
   refine qD nl' (F0 ++ [pn]) _ ms (k05.trans k6) (fun a ha => ?_) la6 nd5 fun y => (m5 y).trans (by simp)
   rcases AY.mp ha with ha | ha
   ·exact .inl ha
   ·rw [A3.mp ha]
    refine .inr ?_
    cases hp : H pn with
    | none => rfl
    | some ob => rw [k05 _ _ (la5.free hn) hp] at hn; cases hn
 ·obtain rfl := A3.mp gm
  try dsimp only [bu,bx]
  have c1 : 1 <= c.length := by
   have := wy.first
   cases c with
   | nil => cases this
   | cons _ _ => simp
  refine ⟨_,rfl,rfl,_,rfl,cW ?_⟩
  refine ⟨_,rfl,(by show 1 <= sizeLine; decide),fun l4 n4 => ?_⟩
  have g4 := ak n4 (.lst [.str goal])
  refine ⟨_,rfl,_,rfl,_,rfl,lb,_,rfl,bc.of (g4 _ _ eb),fun l5 n5 => ?_⟩
  rw [nW (by rw [A2]; exact c1),<- List.map_dropLast]
  have g5 := ak n5 (.lst (c.dropLast.map V.str))
  have lf := wy.few
  refine ⟨l4,l5,_,_,rfl,rfl,g5 _ _ ac,ac,(by rw [A2,List.length_dropLast]; show 1 + _ <= _; omega),fun l6 n6 => ?_⟩
  have g6 := ak n6 (.lst ([.str goal] ++ c.dropLast.map V.str))
  have gA := ((((g1.trans g2).trans g3).trans g4).trans g5).trans g6
  refine ⟨(by show 1 <= sizeLine; decide),fun xa na => mV na fun d H2 g ea ed ne gd edd => ⟨rfl,d,ea,?_⟩⟩
  exact qR gl d l6 _ c (gA.trans gd) (gd _ _ ac) edd wy
theorem vI : az ["self","good"] ["self","good"] (ap sw) := ⟨rfl,rfl,rfl,by decide +kernel,rfl,by decide +kernel,by decide +kernel⟩
set_option maxHeartbeats 4000000 in
theorem vJ {dV : Value} (F : bG K "held" "Larder.held" sw dV f fd) (B : Bn K mg c_InRing c_Larder c_NoName c_NoNumber c_NoStand c_NoStandIn c_StoveError f_Z13 f_Z14 f_Z15 f_Z16 f_Z17 f_Z18 f_Z19 f_Z20 f_Z21 f_Z22) (DZ12 : Dx P w K mg base aZ 2 "all_inside" ["parts","good"] [] fT) (XZ8 : Dx P w K mg base (cB P w) 2 "refuse_no_names" ["things"] [] (dv K c_NoName)) : a7 P w K mg base (cB P w) 3 f fd ["self","good"] (jN K c_Larder c_NoName) := by
 have sc := vI
 refine F.okX sc (fun vs H Q E h => ?_) (fun cdv A outer s H vs Q E hr h => ?_)
 ·obtain ⟨x,v,F0,rows,m,g,bs,ns,ps,rfl,_⟩ := h
  rfl
 obtain ⟨x,v,F1,rows,m,g,bs,ns,ps,rfl,lb,ok,few,hv,eN,qq⟩ := h
 refine ⟨_,(ae (aS (eQ XZ8 hr (by decide) rfl cp (aa (bw (aa (pv 1) ag)) ag))) (aj (aC (aT DZ12 hr (by decide) rfl (aa (cf (pv 0) rfl) (aa (pv 1) ag)))))),?_⟩
 refine ⟨_,rfl,(by show 1 <= sizeLine; decide),fun l0 n0 => ?_⟩
 have g1 := ak n0 (.lst [v])
 refine ⟨l0,_,rfl,ac,(fun y hy => by rw [A3.mp hy]; exact hv.imp id (c7.same g1)),fun nn => ?_,fun nn H' gg => eN (fun z => nn fun y hy => by rw [A3.mp hy]; exact z) H' (g1.trans gg)⟩
 obtain ⟨z,rfl,mz⟩ := nn v (by simp)
 have qz := qq z rfl mz
 have lb1 := lb.same g1
 generalize aq H l0 (.lst [.str z]) = H1 at g1 lb1 ⊢
 obtain ⟨F0,la,sub,back⟩ := lb1.la
 obtain ⟨dx,p,n,fs,ex,fp,fn,dd,en,_,_,fm⟩ := la.dd
 exact ⟨_,rfl,x,_,dx,_,_,rfl,ex,B.cl_Larder,B.na_Larder_parts,fp,_,rfl,p,z,rows,ps,rfl,dd,ok,few,fun l H2 ys g2 n2 e2 s2 d2 m2 => qz l H2 ys (g1.trans g2) (g1.free n2) e2 s2 d2 m2⟩
theorem vK : az ["self","good"] ["self","good"] (ap sx) := ⟨rfl,rfl,rfl,by decide +kernel,rfl,by decide +kernel,by decide +kernel⟩
set_option maxHeartbeats 4000000 in
theorem vL {dV : Value} (F : bG K "barred" "Larder.barred" sx dV f fd) (B : Bn K mg c_InRing c_Larder c_NoName c_NoNumber c_NoStand c_NoStandIn c_StoveError f_Z13 f_Z14 f_Z15 f_Z16 f_Z17 f_Z18 f_Z19 f_Z20 f_Z21 f_Z22) (DZ11 : Dx P w K mg base aZ 2 "chain_down" ["parts","good","goals"] [] dX) (XZ8 : Dx P w K mg base (cB P w) 2 "refuse_no_names" ["things"] [] (dv K c_NoName)) : a7 P w K mg base (cB P w) 3 f fd ["self","good"] (eE K c_Larder c_NoName) := by
 have sc := vK
 refine F.okX sc (fun vs H Q E h => ?_) (fun cdv A outer s H vs Q E hr h => ?_)
 ·obtain ⟨x,v,F0,rows,m,g,bs,ns,ps,rfl,_⟩ := h
  rfl
 obtain ⟨x,v,F1,rows,m,g,bs,ns,ps,rfl,lb,ok,few,hv,eN,qq⟩ := h
 refine ⟨_,(ae (aS (eQ XZ8 hr (by decide) rfl cp (aa (bw (aa (pv 1) ag)) ag))) (aj (aC (aT DZ11 hr (by decide) rfl (aa (cf (pv 0) rfl) (aa (pv 1) (aa (nJ (ma rfl) rfl B.b_list boot_list (aa (cf (pv 0) rfl) ag)) ag))))))),?_⟩
 refine ⟨_,rfl,(by show 1 <= sizeLine; decide),fun l0 n0 => ?_⟩
 have g1 := ak n0 (.lst [v])
 refine ⟨l0,_,rfl,ac,(fun y hy => by rw [A3.mp hy]; exact hv.imp id (c7.same g1)),fun nn => ?_,fun nn H' gg => eN (fun z => nn fun y hy => by rw [A3.mp hy]; exact z) H' (g1.trans gg)⟩
 obtain ⟨z,rfl,mz⟩ := nn v (by simp)
 have qz := qq z rfl mz
 have lb1 := lb.same g1
 generalize aq H l0 (.lst [.str z]) = H1 at g1 lb1 ⊢
 obtain ⟨F0,la,sub,back⟩ := lb1.la
 obtain ⟨dx',p,n,fs',ex',fp,fn,dd,en,_,_,fm'⟩ := la.dd
 obtain ⟨dx,s,b,fs,dk,ex,es,eb,bd,hb,fm,sF,bF,pb⟩ := lb1.at_
 refine ⟨_,rfl,x,_,dx',_,_,rfl,ex',B.cl_Larder,B.na_Larder_parts,fp,_,rfl,_,rfl,x,_,dx,_,_,rfl,ex,B.cl_Larder,B.na_Larder_bars,eb,b,_,rfl,hb,fun l2 n2 => ?_⟩
 have kk : (aN bs (.bl true)).map (fun p => kV p.1) = bs.map V.str := by
  unfold aN
  rw [Aq]
  rfl
 rw [kk]
 have g2 := ak n2 (.lst (bs.map V.str))
 exact ⟨p,l2,z,rows,ps,bs,rfl,dd.same g2,ok,few,ac,fun H3 g3 nl => qz.1 H3 ((g1.trans g2).trans g3) nl,fun l H3 c goal g3 nl el wy gm gl ga => qz.2 l H3 c goal ((g1.trans g2).trans g3) ((g1.trans g2).free nl) el wy gm gl ga⟩
theorem vM : az ["self","good"] ["self","good"] (ap sy) := ⟨rfl,rfl,rfl,by decide +kernel,rfl,by decide +kernel,by decide +kernel⟩
set_option maxHeartbeats 4000000 in
theorem vN {dV : Value} (F : bG K "bar" "Larder.bar" sy dV f fd) (B : Bn K mg c_InRing c_Larder c_NoName c_NoNumber c_NoStand c_NoStandIn c_StoveError f_Z13 f_Z14 f_Z15 f_Z16 f_Z17 f_Z18 f_Z19 f_Z20 f_Z21 f_Z22) (DZ14 : dw P w K mg base aZ 1 f_Z14 ["self","told"] [] (fB c_Larder)) (XZ8 : Dx P w K mg base (cB P w) 2 "refuse_no_names" ["things"] [] (dv K c_NoName)) : a7 P w K mg base (cB P w) 3 f fd ["self","good"] (me K c_Larder c_NoName) := by
 have sc := vM
 refine F.okX sc (fun vs H Q E h => ?_) (fun cdv A outer s H vs Q E hr h => ?_)
 ·obtain ⟨x,v,F0,rows,m,g,bs,ns,rfl,_⟩ := h
  rfl
 obtain ⟨x,v,F1,rows,m,g,bs,ns,rfl,lb,b200,nd,n79,hv,eN,qq⟩ := h
 refine ⟨_,(ae (aS (eQ XZ8 hr (by decide) rfl cp (aa (bw (aa (pv 1) ag)) ag))) (ae (aS (dR (pv 0) DZ14 hr (by decide) (aa (bw (aa (pv 1) ag)) ag))) (aj (cx (bK hr) (cf (pv 0) rfl) (pv 1) bD rfl)))),?_⟩
 have slt : (3000 : Nat) < sizeLine := by decide
 refine ⟨_,rfl,(by show 1 <= sizeLine; decide),fun l0 n0 => ?_⟩
 have g1 := ak n0 (.lst [v])
 refine ⟨l0,_,rfl,ac,(fun y hy => by rw [A3.mp hy]; exact hv.imp id (c7.same g1)),fun nn => ?_,fun nn H' gg => eN (fun z => nn fun y hy => by rw [A3.mp hy]; exact z) H' (g1.trans gg)⟩
 obtain ⟨z,rfl,mz⟩ := nn v (by simp)
 have qz := qq z rfl mz
 have lb1 := lb.same g1
 generalize aq H l0 (.lst [.str z]) = H1 at g1 lb1 ⊢
 obtain ⟨F0,la,sub,back⟩ := lb1.la
 obtain ⟨dx,s,b,fs,dk,ex,es,eb,bd,hb,fm,sF,bF,pb⟩ := lb1.at_
 refine ⟨_,rfl,x,_,dx,_,rfl,ex,B.cl_Larder,B.me_Z14,fm _ (by decide),_,rfl,(by show 1 <= sizeLine; decide),fun l4 n4 => ?_⟩
 have g4 := ak n4 (.lst [.str z])
 obtain ⟨F0,la,sub,back⟩ := (lb1.same g4).la
 refine ⟨x,l4,F0,rows,ns,[z],rfl,la,ac,(by simp; omega),nd,fun H5 ms k5 la5 nd5 m5 => ?_⟩
 have lb5 := back _ _ _ la5 k5
 have kF : KF F1 H H5 := (KF.of (g1.trans g4)).trans fun a o n e => k5 a o (fun z => n (sub a z)) e
 obtain ⟨dx,s,b,fs,dk,ex,es,eb,bd,hb,fm,sF,bF,pb⟩ := lb5.at_
 refine ⟨_,rfl,x,_,dx,_,_,rfl,ex,B.cl_Larder,B.na_Larder_bars,eb,_,rfl,b,_,rfl,d4.k (k := .inr z) hb (by rw [bQ]; omega),?_⟩
 rw [dJ]
 obtain ⟨lb6,k6⟩ := pb (bI bs z)
 exact qz _ ms (kF.trans k6) lb6 nd5 fun y => (m5 y).trans (by simp)
theorem vO : az ["self","good"] ["self","good"] (ap sA) := ⟨rfl,rfl,rfl,by decide +kernel,rfl,by decide +kernel,by decide +kernel⟩
set_option maxHeartbeats 4000000 in
theorem vP {dV : Value} (F : bG K "allow" "Larder.allow" sA dV f fd) (B : Bn K mg c_InRing c_Larder c_NoName c_NoNumber c_NoStand c_NoStandIn c_StoveError f_Z13 f_Z14 f_Z15 f_Z16 f_Z17 f_Z18 f_Z19 f_Z20 f_Z21 f_Z22) (XZ8 : Dx P w K mg base (cB P w) 2 "refuse_no_names" ["things"] [] (dv K c_NoName)) : a7 P w K mg base (cB P w) 3 f fd ["self","good"] (ig K c_Larder c_NoName) := by
 have sc := vO
 refine F.okX sc (fun vs H Q E h => ?_) (fun cdv A outer s H vs Q E hr h => ?_)
 ·obtain ⟨x,v,F0,rows,m,g,bs,ns,rfl,_⟩ := h
  rfl
 obtain ⟨x,v,F1,rows,m,g,bs,ns,rfl,lb,hv,eN,qq⟩ := h
 refine ⟨_,(ae (aS (eQ XZ8 hr (by decide) rfl cp (aa (bw (aa (pv 1) ag)) ag))) (aj (aS (kc (cf (pv 0) rfl) (pv 1) bR ⟨rfl,rfl,rfl,rfl⟩)))),?_⟩
 refine ⟨_,rfl,(by show 1 <= sizeLine; decide),fun l0 n0 => ?_⟩
 have g1 := ak n0 (.lst [v])
 refine ⟨l0,_,rfl,ac,(fun y hy => by rw [A3.mp hy]; exact hv.imp id (c7.same g1)),fun nn => ?_,fun nn H' gg => eN (fun z => nn fun y hy => by rw [A3.mp hy]; exact z) H' (g1.trans gg)⟩
 obtain ⟨z,rfl,mz⟩ := nn v (by simp)
 have qz := qq z rfl mz
 have lb1 := lb.same g1
 generalize aq H l0 (.lst [.str z]) = H1 at g1 lb1 ⊢
 obtain ⟨dx,s,b,fs,dk,ex,es,eb,bd,hb,fm,sF,bF,pb⟩ := lb1.at_
 refine ⟨_,rfl,x,_,dx,_,_,rfl,ex,B.cl_Larder,B.na_Larder_bars,eb,b,rfl,.inl ⟨_,.inl hb⟩,_,rfl,_,.inr z,hb,rfl,fun w hw => ?_,fun hw => ?_⟩
 ·rw [i9]
  obtain ⟨lb6,k6⟩ := pb (ie bs z)
  exact qz _ ((KF.of g1).trans k6) lb6
 ·rw [cD] at hw
  have nz : z ∉ bs := fun h => by rw [if_pos h] at hw; cases hw
  exact qz _ (KF.of g1) (by rw [ja nz]; exact lb1)
theorem vQ : az ["self","good","other","ratio","others"] ["self","good","other","ratio"] (ap sB) := ⟨rfl,rfl,rfl,by decide +kernel,rfl,by decide +kernel,by decide +kernel⟩
set_option maxHeartbeats 4000000 in
theorem vR {dV : Value} (F : bG K "stand" "Larder.stand" sB dV f fd) (B : Bn K mg c_InRing c_Larder c_NoName c_NoNumber c_NoStand c_NoStandIn c_StoveError f_Z13 f_Z14 f_Z15 f_Z16 f_Z17 f_Z18 f_Z19 f_Z20 f_Z21 f_Z22) (Dis_Z3 : Dx P w K mg base aZ 2 "is_fraction" ["thing"] [] (lQ K)) (DZ14 : dw P w K mg base aZ 1 f_Z14 ["self","told"] [] (fB c_Larder)) (XZ3 : Dx P w K mg base (cB P w) 2 "fraction" ["top","bottom"] [.int 1] (mT c_NoNumber)) (XZ8 : Dx P w K mg base (cB P w) 2 "refuse_no_names" ["things"] [] (dv K c_NoName)) : a7 P w K mg base (cB P w) 3 f fd ["self","good","other","ratio"] (fG K c_Larder c_NoName c_NoStand) := by
 have sc := vQ
 refine F.okX sc (fun vs H Q E h => ?_) (fun cdv A outer s H vs Q E hr h => ?_)
 ·obtain ⟨x,v,w,r,F0,rows,m,g,bs,ns,rfl,_⟩ := h
  rfl
 obtain ⟨x,v,w,r,F1,rows,m,g,bs,ns,rfl,lb,m1000,nd,n78,hv,hw,hr0,eN,qq⟩ := h
 refine ⟨_,(ae (aS (eQ XZ8 hr (by decide) rfl cp (aa (bw (aa (pv 1) (aa (pv 2) ag))) ag))) (ae (aU (ax gH (pv 3) bR (aE _)) (aj (ar (i := 3) sc.nd rfl (Or.inl rfl) (rj XZ3 hr (by decide) rfl cp (aa am ag)))) aH) (ae (aU (ax dE (pv 1) (pv 2) (aE _)) (aj (dI B.x_NoStand rfl B.m_NoStand rfl cp (aa cJ ag))) aH) (ae (aU (dN (gQ (bK hr) (pv 2) (gT (bK hr) (cf (pv 0) rfl) (pv 1) bV ⟨rfl,rfl,rfl,rfl⟩)) (by with_unfolding_all rfl)) (aj (dI B.x_NoStand rfl B.m_NoStand rfl cp (aa cJ ag))) aH) (ae (aU (PW.pt (cU (b7 (bZ (aT Dis_Z3 hr (by decide) rfl (aa (pv 3) ag)))) (dq (ax sT (aI bL (pv 3) am (fun _ _ => rfl)) am (aE _))))) (aj (dI B.x_NoStand rfl B.m_NoStand rfl cp (aa cJ ag))) aH) (ae (aS (dR (pv 0) DZ14 hr (by decide) (aa (bw (aa (pv 1) (aa (pv 2) ag))) ag))) (ae (ar (i := 4) sc.nd rfl (Or.inl rfl) (dG BP PySem.F.slot_dict_setdefault PySem.F.type_dict_setdefault iV (cf (pv 0) rfl) (aa (pv 1) (aa bV ag)))) (aj (cx (bK hr) (pv 4) (pv 2) (pv 3) rfl))))))))),?_⟩
 have slt : (3000 : Nat) < sizeLine := by decide
 refine ⟨_,rfl,_,rfl,(by show 2 <= sizeLine; decide),fun l0 n0 => ?_⟩
 have g1 := ak n0 (.lst [v,w])
 refine ⟨l0,_,rfl,ac,(fun y hy => ?_),fun nn => ?_,fun nn H' gg => eN (fun z => nn fun y hy => ?_) H' (g1.trans gg)⟩
 ·rcases A8.mp hy with rfl | hy
  ·exact hv.imp id (c7.same g1)
  ·rw [A3.mp hy]
   exact hw.imp id (c7.same g1)
 rotate_left
 ·rcases A8.mp hy with rfl | hy
  ·exact z.1
  ·rw [A3.mp hy]
   exact z.2
 obtain ⟨zg,rfl,mg'⟩ := nn v (by simp)
 obtain ⟨zo,rfl,mo'⟩ := nn w (by simp)
 obtain ⟨qS,qD⟩ := qq zg zo rfl rfl mg' mo'
 have lb1 := lb.same g1
 generalize aq H l0 (.lst [.str zg,.str zo]) = H1 at g1 lb1 ⊢
 try dsimp only [bu,bx]
 refine cut (fun σ H' => ∃ r' : V,σ = [some (.ref x),some (.str zg),some (.str zo),some r',none] /\ ay H1 H' /\ ((∃ (p q : Int) (t : Addr),r' = .ref t /\ H' t = some (.tup [.int p,.int q]) /\ 0 < p /\ nO p q /\ Bd 200 p /\ Bd 200 q /\ iA H r p q /\ ∀ r2,r = .ref r2 -> t = r2) ∨ (gc K H' r' /\ gc K H r))) (fun N hN => ?_) ?_
 ·rcases hr0 with ⟨p,q,⟨rfl,rfl,rfl⟩ | ⟨t,rfl,et,p0,lo,bp,bq⟩⟩ | bad
  ·refine ⟨_,rfl,rfl,_,rfl,dT rfl ⟨1,1,rfl,Bd.one.mono (by decide),fun _ p' q' f t H2 g2 e2 => ?_,fun z => absurd z (by decide)⟩⟩
   obtain ⟨rfl,rfl⟩ := pZ f
   exact hN _ _ ⟨_,rfl,g2,.inl ⟨1,1,t,rfl,e2,by decide,⟨by decide,rfl⟩,Bd.one.mono (by decide),Bd.one.mono (by decide),.inl ⟨rfl,rfl,rfl⟩,fun r2 z => (by cases z)⟩⟩
  ·exact ⟨_,rfl,rfl,_,rfl,dF nofun (hN _ _ ⟨.ref t,rfl,.refl _,.inl ⟨p,q,t,rfl,g1 _ _ et,p0,lo,bp,bq,.inr ⟨t,rfl,et,p0,lo,bp,bq⟩,fun r2 z => (by cases z; rfl)⟩⟩)⟩
  ·exact ⟨_,rfl,rfl,_,rfl,dF bad.1 (hN _ _ ⟨r,rfl,.refl _,.inr ⟨bad.same g1,bad⟩⟩)⟩
 rintro σ H2 ⟨r',rfl,g2,hr2⟩
 have k2 := g1.trans g2
 have lb2 := lb1.same g2
 refine ⟨_,rfl,_,rfl,rfl,_,rfl,d2 (fun c => ⟨(by show 1 <= sizeLine; decide),qS (.inl (by injection c)) _ k2⟩) (fun c => ?_)⟩
 have zne : zg ≠ zo := fun z => c (by rw [z])
 obtain ⟨dx,s,b,fs,dk,ex,es,eb,bd,hb,fm,sF,bF,pb⟩ := lb2.at_
 try dsimp only [bu,bx]
 refine cut (fun σ H' => σ = [some (.ref x),some (.str zg),some (.str zo),some r',none] /\ ay H2 H' /\ ¬ kX g zg zo) (fun N hN => ?_) ?_
 ·refine ⟨_,rfl,_,rfl,x,_,dx,_,_,rfl,ex,B.cl_Larder,B.na_Larder_stands,es,s,rfl,.inl ⟨_,.inl bd.at_⟩,_,rfl,fun pn hn => ?_⟩
  have g3 := ak hn (.dK [])
  refine ⟨_,b5.k (k := .inr zg) (g3 _ _ bd.at_),?_⟩
  rcases bd.ex zg with ⟨e1,e2⟩ | ⟨a,row,e1,e2,e3,e4,e5,e6,e7⟩
  ·rw [e1]
   exact ⟨pn,_,rfl,b5.k (k := .inr zo) ac,_,rfl,bM (hN _ _ ⟨rfl,g3,fun ⟨t,z⟩ => (by rw [e2] at z; cases z)⟩)⟩
  ·rw [e1]
   refine ⟨a,_,rfl,b5.k (k := .inr zo) (g3 _ _ e2),_,rfl,?_⟩
   cases hg : g zg zo with
   | none =>
    have : aK (cH row) (.inr zo) = none := by
     cases hx : aK (cH row) (.inr zo) with
     | none => rfl
     | some u =>
      obtain ⟨⟨y,t⟩,hm,e⟩ := AF.mp (show (.inr zo,u) ∈ cH row from fF hx)
      cases e
      have := (e7 _ _).mpr hm
      rw [hg] at this
      cases this
    rw [this]
    exact bM (hN _ _ ⟨rfl,g3,fun ⟨t,z⟩ => (by rw [hg] at z; cases z)⟩)
   | some t =>
    rw [hV e5 ((e7 zo t).mp hg)]
    exact cW ⟨(by show 1 <= sizeLine; decide),qS (.inr (.inl ⟨t,hg⟩)) _ (k2.trans g3)⟩
 rintro σ H3 ⟨rfl,g3,nst⟩
 have k3 := k2.trans g3
 have lb3 := lb2.same g3
 clear ex es eb bd hb fm sF bF pb
 rcases hr2 with ⟨p,q,t,rfl,et,p0,lo,bp,bq,rok,tr⟩ | ⟨bad,bad0⟩
 rotate_left
 ·have bad3 := bad.same g3
  obtain ⟨_,f | ⟨t,p,q,rfl,et,f,pz⟩⟩ := bad3
  ·exact ⟨_,rfl,r',false,rfl,f,_,rfl,cW ⟨(by show 1 <= sizeLine; decide),qS (.inr (.inr bad0)) _ k3⟩⟩
  ·exact ⟨_,rfl,_,true,rfl,f,_,rfl,bM ⟨_,rfl,t,_,_,_,rfl,rfl,cQ.of et,rfl,_,_,rfl,rfl,_,rfl,dT pz ⟨(by show 1 <= sizeLine; decide),qS (.inr (.inr bad0)) _ k3⟩⟩⟩
 have et3 := g3 _ _ et
 refine ⟨_,rfl,_,true,rfl,ud et3 (by rw [decide_eq_true (show 1 <= q by have := lo.pos; omega),decide_eq_true lo.low]; rfl),_,rfl,bM ⟨_,rfl,t,_,_,_,rfl,rfl,cQ.of et3,rfl,_,_,rfl,rfl,_,rfl,dF (by omega) ?_⟩⟩
 obtain ⟨dx,s,b,fs,dk,ex,es,eb,bd,hb,fm,sF,bF,pb⟩ := lb3.at_
 refine ⟨_,rfl,x,_,dx,_,rfl,ex,B.cl_Larder,B.me_Z14,fm _ (by decide),_,rfl,_,rfl,(by show 2 <= sizeLine; decide),fun l4 n4 => ?_⟩
 have g4 := ak n4 (.lst [.str zg,.str zo])
 obtain ⟨F0,la,sub,back⟩ := (lb3.same g4).la
 refine ⟨x,l4,F0,rows,ns,[zg,zo],rfl,la,ac,(by simp; omega),nd,fun H5 ms k5 la5 nd5 m5 => ?_⟩
 have lb5 := back _ _ _ la5 k5
 have kF : KF F1 H H5 := (KF.of (k3.trans g4)).trans fun a o n e => k5 a o (fun z => n (sub a z)) e
 have et5 : H5 t = some (.tup [.int p,.int q]) := k5 _ _ (fun z => (lb3.same g4).not (g4 _ _ et3) (fun _ z => nomatch z) (sub t z)) (g4 _ _ et3)
 clear ex es eb bd hb fm sF bF pb
 obtain ⟨dx,s,b,fs,dk,ex,es,eb,bd,hb,fm,sF,bF,pb⟩ := lb5.at_
 have dF : ∀ a ∈ F1,∃ kv,H5 a = some (.dK kv) := fun a ha => by
  obtain ⟨_,_,_,_,_,_,_,_,_,_,_,_,_,_,_,_,_,_,_,q8,_⟩ := lb5.ex
  exact q8 a ha
 refine ⟨_,rfl,x,_,dx,_,_,rfl,ex,B.cl_Larder,B.na_Larder_stands,es,.inr (.inr (.inl ⟨rfl,.inl ⟨_,bd.at_⟩⟩)),_,rfl,fun pn hn => ?_⟩
 have g6 := ak hn (.dK [])
 have dkl := bd.few
 have m5' : ∀ y,y ∈ ms ↔ y ∈ ns ∨ y = zg ∨ y = zo := fun y => (m5 y).trans (by simp)
 refine ⟨s,_,.inr zg,.ref pn,rfl,rfl,g6 _ _ bd.at_,by omega,fun w hw => ?_,fun hw => ?_⟩
 ·rcases bd.ex zg with ⟨e1,_⟩ | ⟨a,row,e1,e2,e3,e4,e5,e6,e7⟩
  ·rw [hw] at e1; cases e1
  rw [hw] at e1
  cases e1
  have aF := dj.mp e3
  have lb6 := lb5.same g6
  have bd6 := bd.same g6
  have bd7 := BD.put (g' := iB g zg zo t) bd6 hw (g6 _ _ e2) (fun _ _ => rfl)
  refine ⟨_,rfl,_,rfl,_,rfl,a,_,rfl,d4.k (k := .inr zo) (g6 _ _ e2) (by unfold cH; rw [A2]; omega),?_⟩
  refine qD zne nst p q rok F1 _ ms t ((kF.trans (KF.of g6)).trans (KF.put _ aF)) FG.refl (LB.stands (r := a) (u := .dK []) lb6 (g6 _ _ ex) es (fun _ h => h) (fun b' o n e => KF.put _ aF b' o n e) (fun b' o e ns' ni => ?_) (bd7.mono (by omega)) (fun dk2 e y b' z => ?_) (fun b' hb' => ?_)) (by rw [af (fun z => by rw [z] at et5; rw [et5] at e2; cases e2)]; exact g6 _ _ et5) tr nd5 m5'
  ·rw [af (fun z => ni dk bd6.at_ zg (by rw [z]; exact hw))]
   exact e
  ·rw [bd6.at_] at e
   cases e
   exact .inl z
  ·by_cases c : b' = a
   ·exact ⟨_,by rw [c]; exact ac⟩
   ·obtain ⟨kv,e⟩ := dF b' hb'
    exact ⟨kv,by rw [af c]; exact g6 _ _ e⟩
 ·have ps : pn ≠ s := fun z => by rw [z,bd.at_] at hn; cases hn
  have pF : pn ∉ F1 := lb5.free hn
  have new : ∀ y,aK dk (.inr y) ≠ some (.ref pn) := fun y => bd.new hn y
  have bd6 := rQ (F' := F1 ++ [pn]) (bd.same g6) (fun a h => Ao _ h)
  have bd7 := BD.open (x0 := zg) bd6 hw (show aq H5 pn (.dK []) pn = some (.dK (cH [])) from ac) (dj.mpr (by simp)) ps new
  have hv7 : aK (putK dk (.inr zg) (.ref pn)) (.inr zg) = some (V.ref pn) := by rw [fi,if_pos rfl]
  have ep7 : aq (aq H5 pn (.dK [])) s (.dK (putK dk (.inr zg) (.ref pn))) pn = some (.dK (cH [])) := by rw [af ps]; exact ac
  have bd8 := BD.put (g' := iB g zg zo t) bd7 hv7 ep7 (fun _ _ => rfl)
  refine ⟨_,rfl,_,rfl,_,rfl,pn,_,rfl,d4.k (k := .inr zo) (kvs := []) ep7 (by show 0 < sizeLine; omega),?_⟩
  have tp : t ≠ pn := fun z => by rw [z,hn] at et5; cases et5
  have ts : t ≠ s := fun z => by rw [z,bd.at_] at et5; cases et5
  refine qD zne nst p q rok (F1 ++ [pn]) _ ms t (kF.trans fun b' o n e => ?_) (fun a ha => ?_) (LB.stands (r := s) (u := .dK []) lb5 ex es (fun a h => Ao _ h) (fun b' o n e => ?_) (fun b' o e ns' ni => ?_) bd8 (fun dk2 e y b' z => ?_) (fun b' hb' => ?_)) (by rw [af tp,af ts,af tp]; exact et5) tr nd5 m5'
  ·rw [af (fun z => by rw [z,hn] at e; cases e),af (fun z => n (by rw [z]; exact sF)),af (fun z => by rw [z,hn] at e; cases e)]
   exact e
  ·rcases AY.mp ha with h | h
   ·exact .inl h
   ·rw [A3.mp h]
    refine .inr ?_
    cases hp : H pn with
    | none => rfl
    | some ob => rw [kF _ _ pF hp] at hn; cases hn
  ·rw [af (fun z => by rw [z,hn] at e; cases e),af (fun z => n (Ao _ (by rw [z]; exact sF))),af (fun z => by rw [z,hn] at e; cases e)]
   exact e
  ·rw [af (fun z => by rw [z,hn] at e; cases e),af ns',af (fun z => by rw [z,hn] at e; cases e)]
   exact e
  ·rw [bd.at_] at e
   cases e
   rw [fi] at z
   split at z
   ·cases z
    exact .inr hn
   ·exact .inl z
  ·by_cases c1 : b' = pn
   ·exact ⟨_,by rw [c1]; exact ac⟩
   ·by_cases c2 : b' = s
    ·exact ⟨_,by rw [af c1,c2]; exact ac⟩
    ·rcases AY.mp hb' with h | h
     ·obtain ⟨kv,e⟩ := dF b' h
      exact ⟨kv,by rw [af c1,af c2,af c1]; exact e⟩
     ·exact absurd (A3.mp h) c1
theorem vS : az ["self","good","pair"] ["self","good"] (ap sC) := ⟨rfl,rfl,rfl,by decide +kernel,rfl,by decide +kernel,by decide +kernel⟩
set_option maxHeartbeats 4000000 in
theorem vT {dV : Value} (F : bG K "stand_in" "Larder.stand_in" sC dV f fd) (B : Bn K mg c_InRing c_Larder c_NoName c_NoNumber c_NoStand c_NoStandIn c_StoveError f_Z13 f_Z14 f_Z15 f_Z16 f_Z17 f_Z18 f_Z19 f_Z20 f_Z21 f_Z22) (DZ6 : Dx P w K mg base aZ 4 "ways_out" ["stands","good"] [] (qf K)) (XZ8 : Dx P w K mg base (cB P w) 2 "refuse_no_names" ["things"] [] (dv K c_NoName)) (XZ18 : dw P w K mg base (cB P w) 3 f_Z18 ["self","good"] [] (eE K c_Larder c_NoName)) (I_NoStandIn : u8 P w K mg base 1 c_NoStandIn ["self","good"] (eT c_NoStandIn "good")) : a7 P w K mg base (cB P w) 5 f fd ["self","good"] (qo K c_Larder c_NoName c_NoStandIn) := by
 have sc := vS
 refine F.okX sc (fun vs H Q E h => ?_) (fun cdv A outer s H vs Q E hr h => ?_)
 ·obtain ⟨x,v,F0,rows,m,g,bs,ns,ps,vw,U,Rt,rfl,_⟩ := h
  rfl
 obtain ⟨x,v,F1,rows,m,g,bs,ns,ps,vw,U,Rt,rfl,lb,m200,ok,few,hv,ra,hU,u17,rt0,rts,eN,qq⟩ := h
 refine ⟨_,(ae (aS (eQ XZ8 hr (by decide) rfl cp (aa (bw (aa (pv 1) ag)) ag))) (ae (b4 (pH rfl rfl) rfl (c8 (aT DZ6 hr (by decide) rfl (aa (cf (pv 0) rfl) (aa (pv 1) ag)))) (bz (i := 2) sc.nd rfl (Or.inl rfl)) (aj (aU (ax gH (pO XZ18 hr (by decide) cp (pv 0) (aa (aI aB (aI bL (pv 2) am (fun _ _ => rfl)) (iF fN am) (fun _ _ => rfl)) ag)) bR (aE _)) (aj (aC (pv 2))) aH))) (aj (mU I_NoStandIn hr (by decide) rfl B.m_NoStandIn rfl cp (aa (pv 1) ag))))),?_⟩
 refine ⟨_,rfl,(by show 1 <= sizeLine; decide),fun l0 n0 => ?_⟩
 have g1 := ak n0 (.lst [v])
 refine ⟨l0,_,rfl,ac,(fun y hy => by rw [A3.mp hy]; exact hv.imp id (c7.same g1)),fun nn => ?_,fun nn H' gg => eN (fun z => nn fun y hy => by rw [A3.mp hy]; exact z) H' (g1.trans gg)⟩
 obtain ⟨z,rfl,mz⟩ := nn v (by simp)
 have qz := qq z rfl mz
 have lb1 := lb.same g1
 generalize aq H l0 (.lst [.str z]) = H1 at g1 lb1 ⊢
 have ra1 : ∀ a b t,g a b = some t -> eI K 200 H1 t (vw a b).1 (vw a b).2 := fun a b t e => ⟨cQ.of (g1 _ _ (ra.fr a b t e).1),(ra.fr a b t e).2.2.1.pos,(ra.fr a b t e).2.2.2.1,(ra.fr a b t e).2.2.2.2⟩
 obtain ⟨dx,s,b,fs,dk,ex,es,eb,bd,hb,fm,sF,bF,pb⟩ := lb1.at_
 refine ⟨_,rfl,x,_,dx,_,_,rfl,ex,B.cl_Larder,B.na_Larder_stands,es,_,rfl,s,z,200,17,vw,g,U,Rt,rfl,bd.done m200 ra1,hU,u17,by decide,by decide,by decide,rt0 z rfl,rts,fun l cs H2 g2 nl wo bf => ?_⟩
 obtain ⟨q1,q2⟩ := qz cs bf
 obtain ⟨ts,el,lt,each⟩ := wo.ex
 have lst : ∀ (j : Nat) (d : List Str),cs[j]? = some d -> Nm (aM d) := fun j d hd => by
  by_cases c0 : j = 0
  ·subst c0
   rw [bf.first] at hd
   cases hd
   exact mz
  ·obtain ⟨i,c,y,_,_,_,e,⟨t,ht⟩,_⟩ := bf.from_ j d (by omega) hd
   rw [e]
   have : aM (c ++ [y]) = y := by unfold aM; simp
   rw [this]
   exact (ra.nm _ _ _ ht).2
 refine ⟨l,rfl,⟨_,bc.of el⟩,dB (xs := ts.map V.ref) (fun k σ H' => (∃ o2 : Option V,σ = [some (.ref x),some (.str z),o2]) /\ ay H2 H' /\ ∀ (j : Nat) (d : List Str),j < k -> cs[j]? = some d -> Blk ps bs (aM d)) ⟨⟨none,rfl⟩,.refl _,fun j d h => absurd h (Nat.not_lt_zero _)⟩ (fun k σ H' _ h => bc.of (h.2.1 _ _ el)) ?_ ?_⟩
 ·rintro k y σ H3 hy ⟨⟨o2,rfl⟩,g3,bl⟩
  rw [AI] at hy
  obtain ⟨t,ht,rfl⟩ := Ah.mp hy
  have kl : k < cs.length := by rw [<- lt]; exact (A1.mp ht).1
  have hc := AD kl
  generalize cs[k] = c at hc
  obtain ⟨cl,rl,p,q,e1,e2,_,rt,ncl,e3⟩ := each k t c ht hc
  have nl := lst k c hc
  have k3 := g2.trans g3
  have c1 : 1 <= c.length := by
   cases c with
   | nil => exact absurd nl.1 (by show ¬ 1 <= (sL "").length; decide)
   | cons _ _ => simp
  have al : eO (c.map V.str) (-1) = some (.str (aM c)) := fS (fun z => by rw [z] at c1; simp at c1)
  have lb3 := lb1.same k3
  obtain ⟨dx3,s3,b3,fs3,dk3,ex3,es3,eb3,bd3,hb3,fm3,sF3,bF3,pb3⟩ := lb3.at_
  refine ⟨_,rfl,x,_,dx3,_,rfl,ex3,B.cl_Larder,B.me_Z18,fm3 _ (by decide),_,rfl,t,_,_,_,rfl,rfl,cQ.of (g3 _ _ e1),rfl,_,rfl,cl,_,_,_,rfl,rfl,bc.of (g3 _ _ e2),al,x,.str (aM c),F1,rows,m,g,bs,ns,ps,rfl,lb3,ok,few,.inl ⟨_,rfl,nl⟩,fun z' => absurd ⟨_,rfl,nl⟩ z',fun z' ez' mz' => ?_⟩
  injection ez' with ez'
  subst ez'
  refine ⟨fun H4 g4 nb => ?_,fun lw H4 cw goal g4 nlw ew wy gm gl ga => ?_⟩
  ·exact ⟨rfl,_,rfl,dT rfl ⟨_,rfl,q1 k c t cl rl p q H4 ((g1.trans k3).trans g4) (g1.free ncl) hc bl (fun ⟨b',h1,h2⟩ => nb b' h1 h2) (g4 _ _ (g3 _ _ e1)) (g4 _ _ (g3 _ _ e2)) (g4 _ _ (g3 _ _ e3)) rt⟩⟩
  ·refine ⟨rfl,_,rfl,dF nofun ⟨⟨_,rfl⟩,g3.trans g4,fun j d hj hd => ?_⟩⟩
   by_cases cj : j = k
   ·subst cj
    rw [hc] at hd
    cases hd
    exact ⟨goal,gm,gl⟩
   ·exact bl j d (by omega) hd
 ·rintro σ H3 ⟨⟨o2,rfl⟩,g3,bl⟩
  rw [A2,lt] at bl
  refine ⟨_,rfl,(by show 1 <= sizeLine; decide),fun xa na => mV na fun d H4 gx ea ed ne gd edd => ⟨rfl,d,ea,?_⟩⟩
  exact q2 (fun j d hd => bl j d (A1.mp hd).1 hd) d _ (((g1.trans g2).trans g3).trans gd) edd
theorem vU : az ["_law_script","_law_k"] ["_law_script","_law_k"] (ap sD) := ⟨rfl,rfl,rfl,by decide +kernel,rfl,by decide +kernel,by decide +kernel⟩
set_option maxHeartbeats 4000000 in
theorem vV {dV : Value} (F : bG K "_law_cell_at" "_law_cell_at" sD dV f fd) (B : Bn K mg c_InRing c_Larder c_NoName c_NoNumber c_NoStand c_NoStandIn c_StoveError f_Z13 f_Z14 f_Z15 f_Z16 f_Z17 f_Z18 f_Z19 f_Z20 f_Z21 f_Z22)  : a7 P w K mg base aZ 1 f fd ["_law_script","_law_k"] (lK K) := by
 have sc := vU
 refine F.ok sc (fun vs H Q E h => ?_) (fun cdv A outer s H vs Q E hr h => ?_)
 ·obtain ⟨a,ns,k,rfl,_⟩ := h
  rfl
 obtain ⟨a,ns,k,rfl,hS,h0,q⟩ := h
 refine ⟨_,(ae (aU (ax gG (pv 1) (aD aW rfl B.b_len boot_len (aa (pv 0) ag)) (aE _)) (aj (aC (aI aB (pv 0) (pv 1) (fun _ _ => rfl)))) aH) (aj (aC am))),?_⟩
 refine ⟨_,rfl,_,rfl,a,_,rfl,.inl hS,_,_,rfl,rfl,_,rfl,d2 (fun c => ?_) (fun c => ?_)⟩
 ·obtain ⟨v,hv⟩ := qU h0 c
  exact ⟨_,rfl,_,rfl,a,_,_,_,rfl,rfl,hS,hv,q v⟩
 ·exact q 0
theorem vW : az ["_law_number","_law_many","_law_cell","_law_letters","_law_base","_law_k","_law_at","_law_size","_law_step","_law_core","_law_names_here","_law_sign"] ["_law_number","_law_many"] (ap sE) := ⟨rfl,rfl,rfl,by decide +kernel,rfl,by decide +kernel,by decide +kernel⟩
set_option maxHeartbeats 4000000 in
theorem vX {dV : Value} (F : bG K "_law_names" "_law_names" sE dV f fd) (B : Bn K mg c_InRing c_Larder c_NoName c_NoNumber c_NoStand c_NoStandIn c_StoveError f_Z13 f_Z14 f_Z15 f_Z16 f_Z17 f_Z18 f_Z19 f_Z20 f_Z21 f_Z22)  : a7 P w K mg base aZ 1 f fd ["_law_number","_law_many"] ik := by
 have sc := vW
 refine F.ok sc (fun vs H Q E h => ?_) (fun cdv A outer s H vs Q E hr h => ?_)
 ·obtain ⟨n,m,rfl,_⟩ := h
  rfl
 obtain ⟨nb,many,rfl,m0,m1,q⟩ := h
 refine ⟨_,(ae (ar (i := 2) sc.nd rfl (Or.inl rfl) (av aV (pv 0) am)) (ae (ar (i := 3) sc.nd rfl (Or.inl rfl) cJ) (ae (ar (i := 4) sc.nd rfl (Or.inl rfl) cJ) (ae (b4 PassesOwn.never rfl (dA rfl B.b_range (aa am ag)) (bz (i := 5) sc.nd rfl (Or.inl rfl)) (aj (ar (i := 4) sc.nd rfl (Or.inl rfl) (av b8 (pv 4) (aI lA (pv 3) (av aV (av aV (av cA (av cr (pv 2) am) (av cr (av cr (av cA (pv 5) (pv 5)) (av cA am (pv 5))) am)) am) am) (fun _ _ => rfl)))))) (ae (ar (i := 6) sc.nd rfl (Or.inl rfl) (av aV (av bj (pv 2) am) am)) (ae (ar (i := 7) sc.nd rfl (Or.inl rfl) (av aV (av bj (pv 2) am) am)) (ae (ar (i := 8) sc.nd rfl (Or.inl rfl) (aI aB (bw (aa am (aa am (aa am (aa am (aa am (aa am (aa am (aa am ag))))))))) (av aV (av bj (pv 2) am) am) (fun _ _ => rfl))) (ae (ar (i := 9) sc.nd rfl (Or.inl rfl) (cg eU (pv 4) df (cv (pv 7)))) (ae (ar (i := 10) sc.nd rfl (Or.inl rfl) (bw ag)) (ae (b4 PassesOwn.never rfl (dA rfl B.b_range (aa (pv 1) ag)) (bz (i := 5) sc.nd rfl (Or.inl rfl)) (ae (ar (i := 11) sc.nd rfl (Or.inl rfl) (aI lA (pv 3) (av aV (av cr (av bj (pv 2) am) (av cA (pv 5) (pv 8))) am) (fun _ _ => rfl))) (aj (aU (ax j5 (pv 1) am (aE _)) (aj (aS (dG AV AX AW bE (pv 10) (aa (av b8 (av b8 (av b8 (cg eU (pv 9) df (cv (pv 6))) (aI lA (pv 3) (av bj (pv 5) am) (fun _ _ => rfl))) (pv 11)) (cg eU (pv 9) (cv (pv 6)) df)) ag)))) (aj (aU (PW.pt (oN (ax dE (av aV (pv 2) am) am (aE _)) (mw (ax sT (pv 1) am (aE _))))) (aj (aS (dG AV AX AW bE (pv 10) (aa (cg eU (pv 4) df (cv (av cr (pv 5) am))) ag)))) (aj (aU (ax dE (av aV (pv 2) am) am (aE _)) (aj (aS (dG AV AX AW bE (pv 10) (aa (av b8 (cg eU (pv 4) df (cv (av aV (pv 5) am))) (pv 11)) ag)))) (aj (aS (dG AV AX AW bE (pv 10) (aa (av b8 (av b8 (cg eU (pv 9) df (cv (pv 6))) (pv 11)) (cg eU (pv 9) (cv (pv 6)) df)) ag)))))))))))) (aj (aC (pv 10))))))))))))),?_⟩
 refine ⟨_,rfl,_,_,rfl,rfl,(by show (1000003 : Int) ≠ 0; decide),?_⟩
 have c0 := AG nb (show (0 : Int) < 1000003 by decide)
 have c1 := AU nb (show (0 : Int) < 1000003 by decide)
 have s9 : (9000 : Nat) <= sizeLine := by decide
 have one : ∀ c : Nat,(⟨#[c]⟩ : Str).length = 1 := fun _ => rfl
 have sm : ∀ (x : Int),0 <= x -> x < 2 ^ 30 -> Bd 30 x := fun x h0 h1 => by unfold Bd; omega
 have bd3 : Bd 30 (3 : Int) := by unfold Bd; decide
 try dsimp only [bu,bx]
 refine cut (fun σ H' => H = H' /\ ∃ c : Int,0 <= c /\ c < 1000003 /\ σ = [some (.int nb),some (.int many),some (.int c),some (.str cY),none,none,none,none,none,none,none,none]) (fun N hN => hN _ _ ⟨rfl,_,c0,c1,rfl⟩) ?_
 clear c0 c1
 rintro σ _ ⟨rfl,c,c0,c1,rfl⟩
 refine cut (fun σ H' => H = H' /\ σ = [some (.int nb),some (.int many),some (.int c),some (.str cY),some (.str ""),none,none,none,none,none,none,none]) (fun N hN => hN _ _ ⟨rfl,rfl⟩) ?_
 rintro σ _ ⟨rfl,rfl⟩
 refine cut (fun σ H' => H = H' /\ ∃ (b : Str) (o5 : Option V),σ = [some (.int nb),some (.int many),some (.int c),some (.str cY),some (.str b),o5,none,none,none,none,none,none] /\ b.length = 12 /\ Lt b) (fun N hN => ?_) ?_
 ·refine ⟨_,rfl,(by decide),(by decide),dC (fun i σ H' => H = H' /\ ∃ (b : Str) (o5 : Option V),σ = [some (.int nb),some (.int many),some (.int c),some (.str cY),some (.str b),o5,none,none,none,none,none,none] /\ b.length = i /\ Lt b) ⟨rfl,_,none,rfl,rfl,Lt.nil⟩ (fun i σ H' hi hP => ?_) (fun σ H' hP => ?_)⟩
  ·obtain ⟨rfl,b,o5,rfl,hb,hL⟩ := hP
   have hi' : i < 12 := hi
   have bk : Bd 30 (0 + (i : Int)) := sm _ (by omega) (by omega)
   have b1 : Bd 60 ((0 + (i : Int)) * (0 + (i : Int))) := bk.mul bk
   have b2 : Bd 60 (3 * (0 + (i : Int))) := bd3.mul bk
   have b3 : Bd 62 ((0 + (i : Int)) * (0 + (i : Int)) + 3 * (0 + (i : Int)) + 7) := (b1.add b2).add ((show Bd 61 (7 : Int) by unfold Bd; decide))
   have i0 := AG (((c + 1) * ((0 + (i : Int)) * (0 + (i : Int)) + 3 * (0 + (i : Int)) + 7)).fmod 1013) (show (0 : Int) < 26 by decide)
   have i1 := AU (((c + 1) * ((0 + (i : Int)) * (0 + (i : Int)) + 3 * (0 + (i : Int)) + 7)).fmod 1013) (show (0 : Int) < 26 by decide)
   obtain ⟨ch,hch,hq⟩ := p4 i0 i1
   refine ⟨_,rfl,_,rfl,_,rfl,_,_,rfl,rfl,_,rfl,_,rfl,_,_,rfl,rfl,bk.ok bk,_,rfl,_,_,rfl,rfl,bd3.ok bk,_,_,rfl,rfl,_,_,rfl,rfl,_,_,rfl,rfl,(sm (c + 1) (by omega) (by omega)).ok b3,_,_,rfl,rfl,(by show (1013 : Int) ≠ 0; decide),_,_,rfl,rfl,(by show (26 : Int) ≠ 0; decide),cY,_,ch,rfl,rfl,(by decide),hch,_,_,rfl,rfl,?_,?_⟩
   ·rw [one]; omega
   ·exact ⟨rfl,_,_,rfl,by rw [Str.length_append,one,hb],hL.app (Lt.one hq)⟩
  ·obtain ⟨rfl,b,o5,rfl,hb,hL⟩ := hP
   exact hN _ _ ⟨rfl,b,o5,rfl,by rw [hb]; rfl,hL⟩
 rintro σ _ ⟨rfl,b,o5,rfl,hb12,hL⟩
 have hb : b.length <= 12 := by omega
 have hz : b.length <= sizeLine := by omega
 have a0 := AG (c.fdiv 3) (show (0 : Int) < 11 by decide)
 have z0 := AG (c.fdiv 40) (show (0 : Int) < 11 by decide)
 have t0 := AG (c.fdiv 500) (show (0 : Int) < 8 by decide)
 have t1 := AU (c.fdiv 500) (show (0 : Int) < 8 by decide)
 refine ⟨_,rfl,_,_,rfl,rfl,⟨by show (3 : Int) ≠ 0; decide,AM (by decide)⟩,_,_,rfl,rfl,(by show (11 : Int) ≠ 0; decide),?_⟩
 refine ⟨_,rfl,_,_,rfl,rfl,⟨by show (40 : Int) ≠ 0; decide,AM (by decide)⟩,_,_,rfl,rfl,(by show (11 : Int) ≠ 0; decide),?_⟩
 refine ⟨(by show 8 <= sizeLine; decide),fun ls ns => ?_⟩
 have g1 := ak ns (.lst [.int 1,.int 3,.int 5,.int 7,.int 9,.int 11,.int 15,.int 17])
 obtain ⟨v,hv,ev⟩ := ui (xs := [V.int 1,V.int 3,V.int 5,V.int 7,V.int 9,V.int 11,V.int 15,V.int 17]) t0 (by show (c.fdiv 500).fmod 8 < ((8 : Nat) : Int); exact t1)
 obtain ⟨st,rfl,st0,st1,sto⟩ : ∃ y : Int,v = .int y /\ 0 <= y /\ y < 20 /\ jJ y := by
  simp at hv
  rcases hv with rfl | rfl | rfl | rfl | rfl | rfl | rfl | rfl
  all_goals exact ⟨_,rfl,by decide,by decide,by unfold jJ; decide⟩
 refine ⟨_,rfl,_,_,rfl,rfl,⟨by show (500 : Int) ≠ 0; decide,AM (by decide)⟩,_,_,rfl,rfl,(by show (8 : Int) ≠ 0; decide),ls,_,_,_,rfl,rfl,bc.of ac,ev,?_⟩
 refine ⟨_,rfl,_,rfl,_,rfl,b,rfl,hz,?_⟩
 have hc : (cO b none (some ((c.fdiv 40).fmod 11))).length <= 12 := AT (dh _ _ _) hb
 refine ⟨(by show 0 <= sizeLine; decide),fun lp np => ?_⟩
 have z1 := AU (c.fdiv 40) (show (0 : Int) < 11 by decide)
 have a1 := AU (c.fdiv 3) (show (0 : Int) < 11 by decide)
 have hc10 : (cO b none (some ((c.fdiv 40).fmod 11))).length <= 10 := by rw [fD z0]; omega
 have hcL := hL.cut none (some ((c.fdiv 40).fmod 11))
 generalize cO b none (some ((c.fdiv 40).fmod 11)) = core at *
 have cz : core.length <= sizeLine := by omega
 have g2 := g1.trans (ak np (.lst []))
 have cl : ∀ lo hi,(cO core lo hi).length <= 12 := fun lo hi => AT (dh _ _ _) hc
 have bl : ∀ lo hi,(cO b lo hi).length <= 12 := fun lo hi => AT (dh _ _ _) hb
 try dsimp only [bu,bx]
 refine cut (fun σ H' => ay H H' /\ ∃ (zs : List Str) (o5 o11 : Option V),σ = [some (.int nb),some (.int many),some (.int c),some (.str cY),some (.str b),o5,some (.int ((c.fdiv 3).fmod 11)),some (.int ((c.fdiv 40).fmod 11)),some (.int st),some (.str core),some (.ref lp),o11] /\ (zs.length : Int) = many /\ H' lp = some (.lst (zs.map V.str)) /\ ∀ (k : Nat) (z : Str),zs[k]? = some z -> Nm z /\ rV (c.fmod 3) (cO core none (some ((c.fdiv 3).fmod 11))).cps.toList (cO core (some ((c.fdiv 3).fmod 11)) none).cps.toList k (sgn (c.fdiv 7) st k) z) (fun N hN => ?_) ?_
 ·refine ⟨_,rfl,_,rfl,(by omega),(by omega),dC (fun i σ H' => ay H H' /\ ∃ (zs : List Str) (o5 o11 : Option V),σ = [some (.int nb),some (.int many),some (.int c),some (.str cY),some (.str b),o5,some (.int ((c.fdiv 3).fmod 11)),some (.int ((c.fdiv 40).fmod 11)),some (.int st),some (.str core),some (.ref lp),o11] /\ zs.length = i /\ H' lp = some (.lst (zs.map V.str)) /\ ∀ (k : Nat) (z : Str),zs[k]? = some z -> Nm z /\ rV (c.fmod 3) (cO core none (some ((c.fdiv 3).fmod 11))).cps.toList (cO core (some ((c.fdiv 3).fmod 11)) none).cps.toList k (sgn (c.fdiv 7) st k) z) ⟨g2,[],o5,none,rfl,rfl,ac,fun k z h => by simp at h⟩ (fun i σ H' hi hP => ?_) (fun σ H' hP => ?_)⟩
  ·obtain ⟨g,zs,o5,o11,rfl,hl,e,nz⟩ := hP
   have hi' : (i : Int) < many := by have : i < many.toNat := hi; omega
   have i0 := AG (c.fdiv 7 + (0 + (i : Int)) * st) (show (0 : Int) < 26 by decide)
   have i1 := AU (c.fdiv 7 + (0 + (i : Int)) * st) (show (0 : Int) < 26 by decide)
   have hch := rS i0 i1
   have hq : 97 <= sgn (c.fdiv 7) st i /\ sgn (c.fdiv 7) st i <= 122 := by unfold sgn; omega
   rw [show 97 + ((c.fdiv 7 + (0 + (i : Int)) * st).fmod 26).toNat = sgn (c.fdiv 7) st i from rfl] at hch
   have k0 : 0 <= (0 + (i : Int)).fdiv 26 := by rw [Int.fdiv_eq_ediv_of_nonneg _ (by decide)]; omega
   have k1 : (0 + (i : Int)).fdiv 26 < 26 := by rw [Int.fdiv_eq_ediv_of_nonneg _ (by decide)]; omega
   obtain ⟨ch2,hch2⟩ := mY k0 k1
   have app : ∀ (z : Str),ay H (aq H' lp (.lst (zs.map V.str ++ [.str z]))) /\ aq H' lp (.lst (zs.map V.str ++ [.str z])) lp = some (.lst ((zs ++ [z]).map V.str)) := fun z => ⟨em g (g1.free np) _,by rw [ac,Ab]; rfl⟩
   have lnp : (zs.map V.str).length < sizeLine := by rw [A2,hl]; omega
   refine ⟨_,rfl,_,rfl,_,_,rfl,rfl,⟨by show (7 : Int) ≠ 0; decide,AM (by decide)⟩,_,rfl,_,rfl,_,_,rfl,rfl,(sm _ (by omega) (by omega)).ok (sm st (by omega) (by omega)),_,_,rfl,rfl,_,_,rfl,rfl,(by show (26 : Int) ≠ 0; decide),cY,_,sgn (c.fdiv 7) st i,rfl,rfl,(by decide),hch,?_⟩
   have sn : ∀ z,Nm z /\ rV (c.fmod 3) (cO core none (some ((c.fdiv 3).fmod 11))).cps.toList (cO core (some ((c.fdiv 3).fmod 11)) none).cps.toList i (sgn (c.fdiv 7) st i) z -> ∀ (k : Nat) (y : Str),(zs ++ [z])[k]? = some y -> Nm y /\ rV (c.fmod 3) (cO core none (some ((c.fdiv 3).fmod 11))).cps.toList (cO core (some ((c.fdiv 3).fmod 11)) none).cps.toList k (sgn (c.fdiv 7) st k) y := fun z hz' k y hy => by
    by_cases ck : k < zs.length
    ·rw [A5 ck] at hy
     exact nz k y hy
    ·rw [AS (by omega)] at hy
     have : k - zs.length = 0 := by
      cases hk : k - zs.length with
      | zero => rfl
      | succ n => rw [hk] at hy; simp at hy
     rw [this] at hy
     cases hy
     have : k = i := by omega
     rw [this]
     exact hz'
   have q0 := AG (0 + (i : Int)) (show (0 : Int) < 11 by decide)
   have q1 := AU (0 + (i : Int)) (show (0 : Int) < 11 by decide)
   refine ⟨_,rfl,_,_,rfl,rfl,_,rfl,d2 (fun z26 => absurd m1 (by omega)) (fun _ => ?_)⟩
   ·refine ⟨_,rfl,_,_,rfl,rfl,(by show (3 : Int) ≠ 0; decide),rfl,_,rfl,tV (fun m1c => ⟨_,rfl,_,_,rfl,rfl,_,rfl,d2 (fun _ => ?_) (fun z12 => absurd m1 (by omega))⟩) (fun m1n => ?_)⟩
    ·refine ⟨_,rfl,.inl ⟨rfl,_,bc.of e⟩,_,rfl,_,rfl,_,_,rfl,rfl,_,rfl,b,rfl,hz,lp,_,_,rfl,rfl,e,lnp,(app _).1,_,_,_,rfl,by rw [A6,hl]; rfl,(app _).2,sn _ ?_⟩
     refine ⟨(hL.cut _ _).nm ?_ ?_,?_⟩
     ·rw [fD (by omega)]; omega
     ·exact bl _ _
     ·unfold rV
      rw [if_pos m1c,fD (by omega)]
      omega
    ·refine ⟨_,rfl,_,_,rfl,rfl,(by show (3 : Int) ≠ 0; decide),rfl,_,rfl,tV (fun m2c => ?_) (fun m2n => ?_)⟩
     ·refine ⟨_,rfl,.inl ⟨rfl,_,bc.of e⟩,_,rfl,_,rfl,_,_,rfl,rfl,(by show (11 : Int) ≠ 0; decide),_,rfl,b,rfl,hz,_,rfl,_,_,rfl,rfl,?_,lp,_,_,rfl,rfl,e,lnp,(app _).1,_,_,_,rfl,by rw [A6,hl]; rfl,(app _).2,sn _ ?_⟩
      ·(simp only [Str.length_append,one]; have l3 := bl none (some ((0 + (i : Int)).fmod 11)); omega)
      ·refine ⟨((hL.cut _ _).app (Lt.one hq)).nm ?_ ?_,?_⟩
       ·rw [Str.length_append,one]; omega
       ·rw [Str.length_append,one,fD q0]; omega
       ·unfold rV
        rw [if_neg m1n,if_pos m2c]
        exact ⟨_,jK _ _⟩
     ·refine ⟨_,rfl,.inl ⟨rfl,_,bc.of e⟩,_,rfl,_,rfl,_,rfl,core,rfl,cz,_,rfl,_,_,rfl,rfl,?_,_,rfl,_,rfl,_,rfl,core,rfl,cz,_,_,rfl,rfl,?_,lp,_,_,rfl,rfl,e,lnp,(app _).1,_,_,_,rfl,by rw [A6,hl]; rfl,(app _).2,sn _ ?_⟩
      ·(simp only [Str.length_append,one]; have l1 := cl none (some ((c.fdiv 3).fmod 11)); have l2 := cl (some ((c.fdiv 3).fmod 11)) none; omega)
      ·(simp only [Str.length_append,one]; have l1 := cl none (some ((c.fdiv 3).fmod 11)); have l2 := cl (some ((c.fdiv 3).fmod 11)) none; omega)
      ·refine ⟨(((hcL.cut _ _).app (Lt.one hq)).app (hcL.cut _ _)).nm ?_ ?_,?_⟩
       ·rw [Str.length_append,Str.length_append,one]; omega
       ·rw [Str.length_append,Str.length_append,one,fD a0,rJ a0]; omega
       ·unfold rV
        rw [if_neg m1n,if_neg m2n,jK,jK,List.append_assoc]
        rfl
  ·obtain ⟨g,zs,o5,o11,rfl,hl,e,nz⟩ := hP
   exact hN _ _ ⟨g,zs,o5,o11,rfl,by omega,e,nz⟩
 rintro σ H1 ⟨g,zs,o5',o11,rfl,hl,e,nz⟩
 exact ⟨_,rfl,q lp H1 zs g e hl (fun z hz => by obtain ⟨k,hk⟩ := Aa.mp hz; exact (nz k z hk).1) (oq sto (by omega) nz)⟩
theorem vY : az ["_law_one","_law_other"] ["_law_one","_law_other"] (ap sG) := ⟨rfl,rfl,rfl,by decide +kernel,rfl,by decide +kernel,by decide +kernel⟩
set_option maxHeartbeats 4000000 in
theorem vZ {dV : Value} (F : bG K "_law_divisor_of" "_law_divisor_of" sG dV f fd) (B : Bn K mg c_InRing c_Larder c_NoName c_NoNumber c_NoStand c_NoStandIn c_StoveError f_Z13 f_Z14 f_Z15 f_Z16 f_Z17 f_Z18 f_Z19 f_Z20 f_Z21 f_Z22)  : a7 P w K mg base aZ 1 f fd ["_law_one","_law_other"] mf := by
 have sc := vY
 refine F.ok sc (fun vs H Q E h => ?_) (fun cdv A outer s H vs Q E hr h => ?_)
 ·obtain ⟨a,b,rfl,_⟩ := h
  rfl
 obtain ⟨a,b,rfl,b0,q⟩ := h
 refine ⟨_,(ae (dz PassesOwn.never (ax iG (pv 1) am (aE _)) (aj (tG (i := 0) (j := 1) rfl sc.nd rfl rfl (by decide) rfl rfl (aa (pv 1) (aa (av aV (pv 0) (pv 1)) ag)) rfl))) (aj (aC (aD gK rfl B.b_abs boot_abs (aa (pv 0) ag))))),?_⟩
 refine dD (fun σ H' => H = H' /\ ∃ (g l : Int),σ = [some (.int g),some (.int l)] /\ (l = 0 -> 0 <= g) /\ 0 <= l /\ bA g l = bA a b)
  (fun (σ : L2.St) (_ : Hp) => match σ[1]? with | some (some (V.int l)) => l.toNat | _ => 0) ⟨rfl,_,_,rfl,fun z => by omega,by omega,rfl⟩ ?_ (fun σ H Q Q' m ⟨v,e,s,k,hk,h2⟩ => ⟨v,e,s,k,hk,m _ _ h2⟩)
 rintro σ H' ⟨rfl,g,l,rfl,g0,l0,inv⟩
 refine ⟨_,rfl,rfl,_,rfl,yc (fun c => ?_) (fun c => ?_)⟩
 ·have lp : 0 < l := by omega
  refine ⟨_,rfl,_,rfl,_,rfl,_,_,rfl,rfl,c,_,_,rfl,⟨rfl,l,g.fmod l,rfl,fun _ => l0,AG g lp,?_⟩,?_⟩
  ·rw [iP lp]; exact inv
  ·have h1 := AU g lp
   have h2 := AG g lp
   show (g.fmod l).toNat < l.toNat
   omega
 ·have g1 := g0 c
  subst c
  rw [iQ g1] at inv
  rw [<- inv] at q
  refine ⟨_,rfl,_,rfl,?_⟩
  rw [if_neg (show ¬ g < 0 by omega)]
  exact q
theorem v0 : az ["_law_top","_law_bottom","_law_by"] ["_law_top","_law_bottom"] (ap sH) := ⟨rfl,rfl,rfl,by decide +kernel,rfl,by decide +kernel,by decide +kernel⟩
set_option maxHeartbeats 4000000 in
theorem v1 {dV : Value} (F : bG K "_law_lowest" "_law_lowest" sH dV f fd) (B : Bn K mg c_InRing c_Larder c_NoName c_NoNumber c_NoStand c_NoStandIn c_StoveError f_Z13 f_Z14 f_Z15 f_Z16 f_Z17 f_Z18 f_Z19 f_Z20 f_Z21 f_Z22) (DZ25 : Dx P w K mg base aZ 1 "_law_divisor_of" ["_law_one","_law_other"] [] mf) : a7 P w K mg base aZ 2 f fd ["_law_top","_law_bottom"] mM := by
 have sc := v0
 refine F.ok sc (fun vs H Q E h => ?_) (fun cdv A outer s H vs Q E hr h => ?_)
 ·obtain ⟨a,b,rfl,_⟩ := h
  rfl
 obtain ⟨a,b,rfl,b0,hb,q⟩ := h
 refine ⟨_,(ae (ar (i := 2) sc.nd rfl (Or.inl rfl) (aT DZ25 hr (by decide) rfl (aa (pv 0) (aa (pv 1) ag)))) (aj (aC (cK (aa (av bj (pv 0) (pv 2)) (aa (av bj (pv 1) (pv 2)) ag)))))),?_⟩
 have c0 := lJ (a := a) (show b ≠ 0 by omega)
 have cb := pB (a := a) (show b ≠ 0 by omega) hb
 have f := sY (a := a) (show b ≠ 0 by omega)
 rw [qV b0] at c0 cb f
 exact ⟨_,rfl,_,rfl,a,b,rfl,b0,_,rfl,_,rfl,_,_,rfl,rfl,⟨c0,cb.div c0⟩,_,rfl,_,rfl,_,_,rfl,rfl,⟨c0,cb.div c0⟩,(by show 2 <= sizeLine; decide),fun t ht => q _ _ f t _ (ak ht _) ac⟩
theorem v2 : az ["_law_cell","_law_number"] ["_law_cell"] (ap sI) := ⟨rfl,rfl,rfl,by decide +kernel,rfl,by decide +kernel,by decide +kernel⟩
set_option maxHeartbeats 4000000 in
theorem v3 {dV : Value} (F : bG K "_law_ratio" "_law_ratio" sI dV f fd) (B : Bn K mg c_InRing c_Larder c_NoName c_NoNumber c_NoStand c_NoStandIn c_StoveError f_Z13 f_Z14 f_Z15 f_Z16 f_Z17 f_Z18 f_Z19 f_Z20 f_Z21 f_Z22) (DZ26 : Dx P w K mg base aZ 2 "_law_lowest" ["_law_top","_law_bottom"] [] mM) : a7 P w K mg base aZ 3 f fd ["_law_cell"] fW := by
 have sc := v2
 refine F.ok sc (fun vs H Q E h => ?_) (fun cdv A outer s H vs Q E hr h => ?_)
 ·obtain ⟨c,rfl,_⟩ := h
  rfl
 obtain ⟨c,rfl,q⟩ := h
 refine ⟨_,(ae (ar (i := 1) sc.nd rfl (Or.inl rfl) (av aV (av cA (av aV (pv 0) am) am) am)) (aj (aC (aT DZ26 hr (by decide) rfl (aa (av cr am (pv 1)) (aa (av cr am (av aV (av cA (pv 1) am) am)) ag)))))),?_⟩
 refine ⟨_,rfl,_,_,rfl,rfl,(by show (1000003 : Int) ≠ 0; decide),_,_,rfl,rfl,IntMulOk.of_right (by decide),_,_,rfl,rfl,(by show (999983 : Int) ≠ 0; decide),?_⟩
 have n0 := AG (c.fmod 1000003 * 48271) (show (0 : Int) < 999983 by decide)
 have n1 := AU (c.fmod 1000003 * 48271) (show (0 : Int) < 999983 by decide)
 have m0 := AG ((c.fmod 1000003 * 48271).fmod 999983 * 31) (show (0 : Int) < 997 by decide)
 have m1 := AU ((c.fmod 1000003 * 48271).fmod 999983 * 31) (show (0 : Int) < 997 by decide)
 refine ⟨_,rfl,_,_,rfl,rfl,_,rfl,_,_,rfl,rfl,IntMulOk.of_right (by decide),_,_,rfl,rfl,(by show (997 : Int) ≠ 0; decide),_,_,rfl,rfl,_,_,rfl,by omega,?_,fun p' q' f => q p' q' (rF f.same (by omega) f.pos (by omega)) f.to ?_ ?_⟩
 ·unfold Bd; omega
 ·have := f.bt; unfold Bd; omega
 ·have := f.bb; unfold Bd; omega
theorem v4 : az ["_law_pairs","_law_good","_law_known","_law_grows","_law_before","_law_one","_law_other"] ["_law_pairs","_law_good"] (ap sJ) := ⟨rfl,rfl,rfl,by decide +kernel,rfl,by decide +kernel,by decide +kernel⟩
set_option maxHeartbeats 4000000 in
theorem v5 {dV : Value} (F : bG K "_law_led_to" "_law_led_to" sJ dV f fd) (B : Bn K mg c_InRing c_Larder c_NoName c_NoNumber c_NoStand c_NoStandIn c_StoveError f_Z13 f_Z14 f_Z15 f_Z16 f_Z17 f_Z18 f_Z19 f_Z20 f_Z21 f_Z22)  : a7 P w K mg base aZ 1 f fd ["_law_pairs","_law_good"] gF := by
 have sc := v4
 refine F.ok sc (fun vs H Q E h => ?_) (fun cdv A outer s H vs Q E hr h => ?_)
 ·obtain ⟨dp,good,kvs,ps,rfl,_⟩ := h
  rfl
 obtain ⟨dp,good,kvs,ps,rfl,ep,ky,few,q⟩ := h
 refine ⟨_,(ae (ar (i := 2) sc.nd rfl (Or.inl rfl) (jp (gR (pv 1) bD jo) rfl rfl (by simp) (by decide))) (ae (ar (i := 3) sc.nd rfl (Or.inl rfl) bD) (ae (dz PassesOwn.never (bZ (pv 3)) (ae (ar (i := 4) sc.nd rfl (Or.inl rfl) (aD fQ rfl B.b_len boot_len (aa (pv 2) ag))) (ae (m7 (b4 PassesOwn.never rfl (kR (pv 0)) (oQ rfl (eY (bz (i := 5) sc.nd rfl (Or.inl rfl)) (eY (bz (i := 6) sc.nd rfl (Or.inl rfl)) mx))) (aj (aU (dN (gQ (bK hr) (pv 5) (pv 2)) (by with_unfolding_all rfl)) (aj (cx (bK hr) (pv 2) (pv 6) bD rfl)) aH)))) (aj (ar (i := 3) sc.nd rfl (Or.inl rfl) (dO j5 (aD fQ rfl B.b_len boot_len (aa (pv 2) ag)) (pv 4) (aE _))))))) (aj (aC (pv 2)))))),?_⟩
 refine fun d nd => ⟨_,rfl,ac,[(.inr good,.bl true)],rfl,(by show 1 <= 15; decide),?_⟩
 have g0 : ay H (aq (aq H d (.dK [])) d (.dK (cm [] [((.inr good : Key),V.bl true)]))) := by
  rw [jd]
  exact ak nd _
 have e0 : (aq (aq H d (.dK [])) d (.dK (cm [] [((.inr good : Key),V.bl true)]))) d = some (.dK (aN [good] (.bl true))) := ac
 generalize aq (aq H d (.dK [])) d (.dK (cm [] [((.inr good : Key),V.bl true)])) = H0 at g0 e0 ⊢
 have slt : (3000 : Nat) < sizeLine := by decide
 have dpd : d ≠ dp := fun z => by rw [z,ep] at nd; cases nd
 try dsimp only [bu,bx]
 refine cut (fun σ H' => H' = H0 /\ σ = [some (.ref dp),some (.str good),some (.ref d),some (.bl true),none,none,none]) (fun N hN => hN _ _ ⟨rfl,rfl⟩) ?_
 rintro σ _ ⟨rfl,rfl⟩
 refine cut (fun σ H' => ay H H' /\ ∃ (ks : List Str) (o4 o5 o6 : Option V),σ = [some (.ref dp),some (.str good),some (.ref d),some (.bl false),o4,o5,o6] /\ H' d = some (.dK (aN ks (.bl true))) /\ ks.Nodup /\ ks.length <= 1001 /\ ∀ y,y ∈ ks ↔ Led ps good y) (fun N hN => ?_) ?_
 ·refine dD (fun σ H' => ay H H' /\ ∃ (ks : List Str) (g : Bool) (o4 o5 o6 : Option V),σ = [some (.ref dp),some (.str good),some (.ref d),some (.bl g),o4,o5,o6] /\ H' d = some (.dK (aN ks (.bl true))) /\ ks.Nodup /\ good ∈ ks /\ (∀ y ∈ ks,Led ps good y) /\ ks.length + ft (ps.map (·.2)) ks <= 1001 /\ (g = false -> ∀ a b,a ∈ ks -> (a,b) ∈ ps -> b ∈ ks))
   (fun (σ : L2.St) (H' : Hp) => match σ[3]?,H' d with | some (some (V.bl g)),some (.dK kvs) => 2 * (1002 - kvs.length) + (if g = true then 1 else 0) | _,_ => 0)
   ⟨g0,[good],true,none,none,none,rfl,e0,by simp,by simp,fun y hy => by simp at hy; subst hy; exact .self,?_,fun z => nomatch z⟩ ?_ (fun σ H Q Q' m ⟨v,e,b,hb,h2⟩ => ⟨v,e,b,hb,m _ _ h2⟩)
  ·have := f8 (ps.map (·.2)) [good]
   rw [A2] at this
   show 1 + _ <= _
   omega
  rintro σ H1 ⟨g1,ks,gr,o4,o5,o6,rfl,e1,nd1,hg,hL,room,cl⟩
  refine ⟨_,rfl,gr,rfl,?_⟩
  cases gr with
  | false => exact bM (hN _ _ ⟨g1,ks,o4,o5,o6,rfl,e1,nd1,by omega,fun y => ⟨hL y,fun l => l.closed (S := fun y => y ∈ ks) hg (cl rfl)⟩⟩)
  | true =>
   refine cW ⟨_,rfl,d,_,rfl,.inl e1,?_⟩
   try dsimp only [bu,bx]
   refine cut (fun σ H' => ay H H' /\ ∃ (ks' : List Str) (o5 o6 : Option V),σ = [some (.ref dp),some (.str good),some (.ref d),some (.bl true),some (.int ((aN ks (V.bl true)).length)),o5,o6] /\ H' d = some (.dK (aN ks' (.bl true))) /\ ks'.Nodup /\ (∀ y ∈ ks,y ∈ ks') /\ (∀ y ∈ ks',Led ps good y) /\ ks'.length + ft (ps.map (·.2)) ks' <= 1001 /\ ks.length <= ks'.length /\ (ks'.length = ks.length -> ∀ y ∈ ks',y ∈ ks) /\ (∀ a b,a ∈ ks -> (a,b) ∈ ps -> b ∈ ks')) (fun N' hN' => ?_) ?_
   ·refine ⟨_,rfl,dp,_,rfl,g1 _ _ ep,fun o nf => ?_⟩
    have gf : ay (aq H dp (.frz o (.dT kvs))) (aq H1 dp (.frz o (.dT kvs))) := fun a u z => by
     by_cases c : a = dp
     ·rw [c,ac] at z
      cases z
      rw [c]
      exact ac
     ·rw [af c] at z ⊢
      exact g1 _ _ z
    have nf' : aq H dp (.frz o (.dT kvs)) d = none := by rw [af dpd]; exact nd
    refine i7 (fun i σ H' => ay (aq H dp (.frz o (.dT kvs))) H' /\ ∃ (ks' : List Str) (o5 o6 : Option V),σ = [some (.ref dp),some (.str good),some (.ref d),some (.bl true),some (.int ((aN ks (V.bl true)).length)),o5,o6] /\ H' d = some (.dK (aN ks' (.bl true))) /\ ks'.Nodup /\ (∀ y ∈ ks,y ∈ ks') /\ (∀ y ∈ ks',Led ps good y) /\ ks'.length + ft (ps.map (·.2)) ks' <= 1001 /\ ks.length <= ks'.length /\ (ks'.length = ks.length -> ∀ y ∈ ks',y ∈ ks) /\ (∀ (j : Nat) (a b : Str),j < i -> ps[j]? = some (a,b) -> a ∈ ks -> b ∈ ks'))
     ⟨gf,ks,o5,o6,rfl,by rw [af dpd]; exact e1,nd1,fun _ z => z,hL,room,A4 _,fun _ _ z => z,fun j a b h => absurd h (by omega)⟩ (fun i σ H' _ h => h.1 _ _ ac) ?_ ?_
    ·rintro i k v b σ H2 hk eb2 ⟨g2,ks',o5,o6,rfl,e2,nd2,sub,hL2,room2,le2,eq2,cl2⟩
     obtain ⟨p1,p2,rfl,hpi⟩ := ky.at_ hk
     have pm : (p1,p2) ∈ ps := AB hpi
     have pm2 : p2 ∈ ps.map (·.2) := AF.mpr ⟨_,pm,rfl⟩
     refine ⟨b,_,rfl,cQ.of eb2,rfl,_,_,rfl,_,_,rfl,rfl,?_⟩
     refine ⟨_,rfl,_,rfl,d,_,rfl,b5.k (k := .inr p1) e2,_,rfl,?_⟩
     rw [cD]
     by_cases hin : p1 ∈ ks'
     ·rw [if_pos hin]
      refine cW ⟨_,rfl,_,rfl,d,_,rfl,d4.k (k := .inr p2) e2 (by rw [bQ]; omega),?_⟩
      have gN := em (o := .dK (putK (aN ks' (.bl true)) (.inr p2) (.bl true))) g2 nf'
      refine ⟨gN,bI ks' p2,_,_,rfl,by rw [ac,dJ],cX nd2,fun y hy => bW.mpr (.inl (sub y hy)),fun y hy => ?_,AT (iW pm2) room2,AT le2 (cE ks' p2).1,fun e y hy => ?_,fun j u v hj hv hu => ?_⟩
      ·rcases bW.mp hy with k | rfl
       ·exact hL2 y k
       ·exact .step (hL2 _ hin) pm
      ·have k1 := (cE ks' p2).1
       have e' : ks'.length = ks.length := by omega
       rcases bW.mp hy with k | rfl
       ·exact eq2 e' y k
       ·exact eq2 e' _ ((cE ks' _).2.1 (by omega))
      ·rcases An.mp hj with k | rfl
       ·exact bW.mpr (.inl (cl2 j u v k hv hu))
       ·rw [hpi] at hv
        cases hv
        exact bW.mpr (.inr rfl)
     ·rw [if_neg hin]
      refine bM ⟨g2,ks',_,_,rfl,e2,nd2,sub,hL2,room2,le2,eq2,fun j u v hj hv hu => ?_⟩
      rcases An.mp hj with k | rfl
      ·exact cl2 j u v k hv hu
      ·rw [hpi] at hv
       cases hv
       exact absurd (sub _ hu) hin
    ·rintro σ H2 ⟨g2,ks',o5,o6,rfl,e2,nd2,sub,hL2,room2,le2,eq2,cl2⟩
     refine ⟨dp,o,_,g2 _ _ ac,nf,hN' _ _ ⟨p8 ep g2,ks',o5,o6,rfl,by rw [af dpd]; exact e2,nd2,sub,hL2,room2,le2,eq2,fun a b ha hab => ?_⟩⟩
     obtain ⟨j,hj⟩ := Aa.mp hab
     have jl := (A1.mp hj).1
     exact cl2 j a b (by rw [ky.len]; exact jl) hj ha
   rintro σ H2 ⟨g2,ks',o5,o6,rfl,e2,nd2,sub,hL2,room2,le2,eq2,cl2⟩
   refine ⟨_,rfl,d,_,rfl,.inl e2,_,rfl,_,_,rfl,rfl,⟨g2,ks',_,_,o5,o6,rfl,e2,nd2,sub good hg,hL2,room2,fun hf a b ha hab => ?_⟩,?_⟩
   ·have nlt := of_decide_eq_false hf
    rw [bQ,bQ] at nlt
    exact cl2 a b (eq2 (by omega) a ha) hab
   ·show (match (some (some (V.bl (decide (_ : Prop))))),H2 d with | some (some (V.bl g)),some (.dK kvs) => 2 * (1002 - kvs.length) + (if g = true then 1 else 0) | _,_ => 0) < (match (some (some (V.bl true))),H1 d with | some (some (V.bl g)),some (.dK kvs) => 2 * (1002 - kvs.length) + (if g = true then 1 else 0) | _,_ => 0)
    rw [e1,e2]
    show 2 * (1002 - (aN ks' (V.bl true)).length) + (if decide (_ : Prop) = true then 1 else 0) < 2 * (1002 - (aN ks (V.bl true)).length) + (if true = true then 1 else 0)
    rw [bQ,bQ,if_pos rfl]
    by_cases c : ((ks.length : Nat) : Int) < ((ks'.length : Nat) : Int)
    ·rw [decide_eq_true c,if_pos rfl]
     omega
    ·rw [decide_eq_false c,if_neg (by decide)]
     omega
 rintro σ H1 ⟨g1,ks,o4,o5,o6,rfl,e1,ndk,kl,mem⟩
 exact ⟨_,rfl,q d H1 ks g1 nd e1 ndk kl mem⟩
theorem v6 : az ["_law_larder","_law_pairs","_law_one","_law_other","_law_ringed","_law_refused"] ["_law_larder","_law_pairs","_law_one","_law_other"] (ap sK) := ⟨rfl,rfl,rfl,by decide +kernel,rfl,by decide +kernel,by decide +kernel⟩
set_option maxHeartbeats 4000000 in
theorem v7 {dV : Value} (F : bG K "_law_part" "_law_part" sK dV f fd) (B : Bn K mg c_InRing c_Larder c_NoName c_NoNumber c_NoStand c_NoStandIn c_StoveError f_Z13 f_Z14 f_Z15 f_Z16 f_Z17 f_Z18 f_Z19 f_Z20 f_Z21 f_Z22) (DZ28 : Dx P w K mg base aZ 1 "_law_led_to" ["_law_pairs","_law_good"] [] gF) (XZ16 : dw P w K mg base (cB P w) 3 f_Z16 ["self","good","other"] [] (gw K c_Larder c_NoName c_InRing)) : a7 P w K mg base aZ 4 f fd ["_law_larder","_law_pairs","_law_one","_law_other"] (jP K c_Larder) := by
 have sc := v6
 refine F.ok sc (fun vs H Q E h => ?_) (fun cdv A outer s H vs Q E hr h => ?_)
 ·obtain ⟨L,a,b,nm,n,F0,rfl,_⟩ := h
  rfl
 obtain ⟨L,a,b,nm,n,F1,rfl,⟨et,rows,m,g,bs,ns,ps,es,vw,s7⟩,n60,ai,bi,na,nb,q⟩ := h
 refine ⟨_,(ae (ar (i := 4) sc.nd rfl (Or.inl rfl) (oM (gQ (bK hr) (pv 2) (aT DZ28 hr (by decide) rfl (aa (pv 1) (aa (pv 3) ag)))) (by with_unfolding_all rfl))) (ae (ar (i := 5) sc.nd rfl (Or.inl rfl) bD) (ae (lN rfl rfl (fun pins E => (aj (aS (jE (K := K) rfl XZ16 hr (by decide) (pv 0) (aa (pv 2) (aa (pv 3) ag)))))) (pG B.t_InRing rfl B.m_InRing (fun pins a => (aj (ar (i := 5) sc.nd rfl (Or.inl rfl) bD))) lO)) (ae (aU (b7 (bZ (pv 4))) (aj (cx (bK hr) (pv 1) (cK (aa (pv 2) (aa (pv 3) ag))) bD rfl)) aH) (aj (aC (dO dE (pv 5) (pv 4) (aE _)))))))),?_⟩
 have cnt := s7.cnt
 have few := s7.d7.few
 have nl := s7.len
 refine ⟨_,rfl,_,rfl,_,rfl,L.dp,b,jb ps,ps,rfl,s7.d7.ep,yt ps,by omega,fun dk H1 ks g1 nd1 e1 _ _ mem => ⟨dk,_,rfl,b5.k (k := .inr a) e1,?_⟩⟩
 rw [cD]
 have s1 := s7.same g1
 try dsimp only [bu,bx]
 obtain ⟨F0,la,back⟩ := s1.lb.part
 obtain ⟨dx,s0,b0,fs,dk',ex,es0,eb,bd,hb,fm,sF,bF,pb⟩ := s1.lb.at_
 by_cases hl : Led ps b a
 ·rw [if_pos ((mem a).mpr hl)]
  refine cut (fun σ H' => H1 = H' /\ σ = [some (.ref L.x),some (.ref L.dp),some (.str a),some (.str b),some (.bl true),some (.bl false)]) (fun N hN => hN _ _ ⟨rfl,rfl⟩) ?_
  rintro σ _ ⟨rfl,rfl⟩
  refine ⟨_,rfl,L.x,_,dx,_,rfl,ex,B.cl_Larder,B.me_Z16,fm _ (by decide),_,rfl,_,rfl,L.x,.str a,.str b,F0,rows,ns,ps,rfl,la,s1.ok,by omega,s1.nn,by omega,.inl ⟨a,rfl,na⟩,.inl ⟨b,rfl,nb⟩,fun w => absurd ⟨⟨a,rfl,na⟩,⟨b,rfl,nb⟩⟩ w,fun zg zo e1 e2 _ _ => ?_⟩
  cases e1
  cases e2
  refine ⟨fun _ d l H2 c g2 el ed wy xa nxa => ⟨c_InRing,true,rfl,B.s_InRing_InRing,cW ?_⟩,fun w => absurd hl w⟩
  have g3 := (g1.trans g2).trans (ak nxa (tY xa (.ref c_InRing) (some d)))
  refine ⟨_,rfl,true,rfl,bM ⟨_,rfl,_,rfl,rfl,?_⟩⟩
  show Q (.bl (decide (V.bl true = V.bl true))) _
  rw [decide_eq_true rfl]
  exact q _ F1 (KF.of g3) FG.refl ⟨g3 _ _ et,rows,m,g,bs,ns,ps,es,vw,(s7.same g3).more⟩
 ·rw [if_neg (fun z => hl ((mem a).mp z))]
  refine cut (fun σ H' => H1 = H' /\ σ = [some (.ref L.x),some (.ref L.dp),some (.str a),some (.str b),some (.bl false),some (.bl false)]) (fun N hN => hN _ _ ⟨rfl,rfl⟩) ?_
  rintro σ _ ⟨rfl,rfl⟩
  refine ⟨_,rfl,L.x,_,dx,_,rfl,ex,B.cl_Larder,B.me_Z16,fm _ (by decide),_,rfl,_,rfl,L.x,.str a,.str b,F0,rows,ns,ps,rfl,la,s1.ok,by omega,s1.nn,by omega,.inl ⟨a,rfl,na⟩,.inl ⟨b,rfl,nb⟩,fun w => absurd ⟨⟨a,rfl,na⟩,⟨b,rfl,nb⟩⟩ w,fun zg zo e1 e2 _ _ => ?_⟩
  cases e1
  cases e2
  refine ⟨fun w => absurd w hl,fun _ F0' H2 ms k2 fg la2 nd hs => ?_⟩
  obtain ⟨F',lb2,k2',fg'⟩ := back H2 F0' _ ms k2 fg la2
  have d2' := s1.d7k k2'
  have kz : (jb ps).length < sizeLine := by rw [r6]; have : (3000 : Nat) < sizeLine := (by decide); omega
  refine ⟨_,rfl,false,rfl,cW ⟨_,rfl,_,rfl,_,rfl,(by show 2 <= sizeLine; decide),fun t1 m1 => ⟨L.dp,_,rfl,d4.t (k := [.inr a,.inr b]) (ak m1 _ _ _ d2'.ep) ac kz,_,rfl,_,rfl,rfl,?_⟩⟩⟩
  have kA : KF (Ow L.dp L.ds L.db F1) H (aq (aq H2 t1 (.tup [.str a,.str b])) L.dp (.dT (putK (jb ps) [.inr a,.inr b] (.bl true)))) := (((KF.of g1).trans k2'.ow).trans (KF.of (ak m1 _))).trans (KF.putD (by simp [Ow]) _)
  show Q (.bl (decide (V.bl false = V.bl false))) _
  rw [decide_eq_true rfl]
  exact q _ F' kA (fg'.same g1) ⟨kA _ _ (fun z => (s7.own _ z).not et (fun _ z => nomatch z) (fun _ z => nomatch z) rfl) et,_,m,g,bs,ms,_,es,vw,s1.part k2' fg' lb2 nd hs (ak m1 _) ai bi n60⟩
theorem v8 : az ["_law_larder","_law_stands","_law_one","_law_other","_law_cell","_law_again","_law_ratio_here","_law_refused"] ["_law_larder","_law_stands","_law_one","_law_other","_law_cell"] (ap sM) := ⟨rfl,rfl,rfl,by decide +kernel,rfl,by decide +kernel,by decide +kernel⟩
set_option maxHeartbeats 4000000 in
theorem v9 {dV : Value} (F : bG K "_law_stand" "_law_stand" sM dV f fd) (B : Bn K mg c_InRing c_Larder c_NoName c_NoNumber c_NoStand c_NoStandIn c_StoveError f_Z13 f_Z14 f_Z15 f_Z16 f_Z17 f_Z18 f_Z19 f_Z20 f_Z21 f_Z22) (DZ27 : Dx P w K mg base aZ 3 "_law_ratio" ["_law_cell"] [] fW) (XZ21 : dw P w K mg base (cB P w) 3 f_Z21 ["self","good","other","ratio"] [.non] (fG K c_Larder c_NoName c_NoStand)) : a7 P w K mg base aZ 4 f fd ["_law_larder","_law_stands","_law_one","_law_other","_law_cell"] (iq K c_Larder) := by
 have sc := v8
 refine F.ok sc (fun vs H Q E h => ?_) (fun cdv A outer s H vs Q E hr h => ?_)
 ·obtain ⟨L,a,b,c,nm,n,F0,rfl,_⟩ := h
  rfl
 obtain ⟨L,a,b,c,nm,n,F1,rfl,⟨et,rows,m,g,bs,ns,ps,es,vw,s7⟩,n60,ai,bi,na,nb,q⟩ := h
 refine ⟨_,(ae (ar (i := 5) sc.nd rfl (Or.inl rfl) (uF (dO dE (pv 2) (pv 3) (aE _)) (jf (oM (gQ (bK hr) (cK (aa (pv 2) (aa (pv 3) ag))) (pv 1)) (by with_unfolding_all rfl))))) (ae (ar (i := 6) sc.nd rfl (Or.inl rfl) (aT DZ27 hr (by decide) rfl (aa (pv 4) ag))) (ae (ar (i := 7) sc.nd rfl (Or.inl rfl) bD) (ae (lN rfl rfl (fun pins E => (aj (aU (ax dE (av aV (pv 4) am) am (aE _)) (ae (ar (i := 6) sc.nd rfl (Or.inl rfl) (cK (aa am (aa am ag)))) (aj (aS (qg (K := K) rfl XZ21 hr (by decide) (pv 0) (aa (pv 2) (aa (pv 3) ag)))))) (aj (aS (jE (K := K) rfl XZ21 hr (by decide) (pv 0) (aa (pv 2) (aa (pv 3) (aa (pv 6) ag))))))))) (pG B.t_NoStand rfl B.m_NoStand (fun pins a => (aj (ar (i := 7) sc.nd rfl (Or.inl rfl) bD))) lO)) (ae (aU (b7 (bZ (pv 5))) (aj (cx (bK hr) (pv 1) (cK (aa (pv 2) (aa (pv 3) ag))) (pv 6) rfl)) aH) (aj (aC (dO dE (pv 7) (pv 5) (aE _))))))))),?_⟩
 have cnt := s7.cnt
 have few := s7.d7.few
 have nl := s7.len
 have slt : (3000 : Nat) < sizeLine := by decide
 try dsimp only [bu,bx]
 refine cut (fun σ H' => ∃ rg : Bool,σ = [some (.ref L.x),some (.ref L.ds),some (.str a),some (.str b),some (.int c),some (.bl rg),none,none] /\ ay H H' /\ (rg = true ↔ a = b ∨ qu es a b)) (fun N hN => ?_) ?_
 ·refine ⟨_,rfl,_,rfl,rfl,_,rfl,?_⟩
  by_cases ab : a = b
  ·subst ab
   rw [decide_eq_true rfl]
   exact cW (hN _ _ ⟨true,rfl,.refl _,by simp⟩)
  ·rw [decide_eq_false (fun z => ab (by injection z))]
   refine bM ⟨_,rfl,_,rfl,(by show 2 <= sizeLine; decide),fun t0 n0 => ⟨_,rfl,L.ds,_,rfl,b5.t (k := [.inr a,.inr b]) (ak n0 _ _ _ s7.d7.ee) ac,hN _ _ ⟨_,rfl,ak n0 _,?_⟩⟩⟩
   rw [rX]
   exact ⟨fun z => .inr z,fun z => z.elim (fun w => absurd w ab) id⟩
 rintro σ H1 ⟨rg,rfl,g1,hrg⟩
 refine ⟨_,rfl,_,rfl,fun p q' p0 lo b1 b2 r H2 g2 er => ?_⟩
 have gA := g1.trans g2
 have s2 := s7.same gA
 try dsimp only [bu,bx]
 refine cut (fun σ H' => H2 = H' /\ σ = [some (.ref L.x),some (.ref L.ds),some (.str a),some (.str b),some (.int c),some (.bl rg),some (.ref r),some (.bl false)]) (fun N hN => hN _ _ ⟨rfl,rfl⟩) ?_
 rintro σ _ ⟨rfl,rfl⟩
 refine cut (fun σ H' => ∃ (rf : Bool) (r0 : Addr),σ = [some (.ref L.x),some (.ref L.ds),some (.str a),some (.str b),some (.int c),some (.bl rg),some (.ref r0),some (.bl rf)] /\ ((rg = true /\ rf = true /\ ay H H') ∨ (rg = false /\ rf = false /\ ∃ (F' : List Addr) (ms : List Str) (t : Addr) (p q : Int),KF F1 H H' /\ FG F1 F' H /\ LB c_Larder F' H' L.x rows (m + 2) (iB g a b t) bs ms /\ H' t = some (.tup [.int p,.int q]) /\ H' r0 = some (.tup [.int p,.int q]) /\ (0 < p /\ nO p q /\ Bd 200 p /\ Bd 200 q) /\ ms.Nodup /\ ∀ y,y ∈ ms ↔ y ∈ ns ∨ y = a ∨ y = b))) (fun N hN => ?_) ?_
 ·refine ⟨_,rfl,_,_,rfl,rfl,(by show (2 : Int) ≠ 0; decide),rfl,_,rfl,tV (fun _ => ?_) (fun _ => ?_)⟩
  ·refine ⟨(by show 2 <= sizeLine; decide),fun t0 n0 => ?_⟩
   have g3 := gA.trans (ak n0 (.tup [.int 1,.int 1]))
   have e0 : aq H2 t0 (.tup [.int 1,.int 1]) t0 = some (.tup [.int 1,.int 1]) := ac
   generalize aq H2 t0 (.tup [.int 1,.int 1]) = H3 at g3 e0 ⊢
   have s3 := s7.same g3
   obtain ⟨dx,s0,b0,fs,dk',ex,es0,eb,bd,hb,fm,sF,bF,pb⟩ := s3.lb.at_
   have ok : iA H3 .non 1 1 := .inl ⟨rfl,rfl,rfl⟩
   refine ⟨_,rfl,L.x,_,dx,_,rfl,ex,B.cl_Larder,B.me_Z21,fm _ (by decide),_,rfl,_,rfl,L.x,.str a,.str b,.non,F1,rows,m,g,bs,ns,rfl,s3.lb,by omega,s3.nn,by omega,.inl ⟨a,rfl,na⟩,.inl ⟨b,rfl,nb⟩,.inl ⟨_,_,ok⟩,fun w => absurd ⟨⟨a,rfl,na⟩,⟨b,rfl,nb⟩⟩ w,fun zg zo e1 e2 _ _ => ?_⟩
   cases e1
   cases e2
   refine ⟨fun w H4 g4 xa nxa => ⟨c_NoStand,true,rfl,B.s_NoStand_NoStand,cW ?_⟩,fun ne nst p2 q2 ok2 F' H4 ms t k4 fg lb4 et4 hr' nd hs => ?_⟩
   ·refine hN _ _ ⟨true,_,rfl,.inl ⟨hrg.mpr ?_,rfl,(g3.trans g4).trans (ak nxa _)⟩⟩
    rcases w with w | w | w
    ·exact .inl w
    ·exact .inr ((s7.st a b).mp w)
    ·exact (mh ok w).elim
   ·obtain ⟨rfl,rfl⟩ := fV ok ok2
    have rgf : rg = false := by
     cases hh : rg with
     | false => rfl
     | true =>
      rcases hrg.mp hh with w | w
      ·exact absurd w ne
      ·exact absurd ((s7.st a b).mpr w) nst
    exact hN _ _ ⟨false,_,rfl,.inr ⟨rgf,rfl,F',ms,t,_,_,(KF.of g3).trans k4,fg.same g3,lb4,et4,k4 _ _ (s3.lb.not e0 (fun _ z => nomatch z)) e0,⟨by decide,(im ok).2.1,(im ok).2.2.1,(im ok).2.2.2⟩,nd,hs⟩⟩
  ·obtain ⟨dx,s0,b0,fs,dk',ex,es0,eb,bd,hb,fm,sF,bF,pb⟩ := s2.lb.at_
   have ok : iA H2 (.ref r) p q' := .inr ⟨r,rfl,er,p0,lo,b1,b2⟩
   refine ⟨_,rfl,L.x,_,dx,_,rfl,ex,B.cl_Larder,B.me_Z21,fm _ (by decide),_,rfl,_,rfl,_,rfl,L.x,.str a,.str b,.ref r,F1,rows,m,g,bs,ns,rfl,s2.lb,by omega,s2.nn,by omega,.inl ⟨a,rfl,na⟩,.inl ⟨b,rfl,nb⟩,.inl ⟨_,_,ok⟩,fun w => absurd ⟨⟨a,rfl,na⟩,⟨b,rfl,nb⟩⟩ w,fun zg zo e1 e2 _ _ => ?_⟩
   cases e1
   cases e2
   refine ⟨fun w H4 g4 xa nxa => ⟨c_NoStand,true,rfl,B.s_NoStand_NoStand,cW ?_⟩,fun ne nst p2 q2 ok2 F' H4 ms t k4 fg lb4 et4 hr' nd hs => ?_⟩
   ·refine hN _ _ ⟨true,_,rfl,.inl ⟨hrg.mpr ?_,rfl,(gA.trans g4).trans (ak nxa _)⟩⟩
    rcases w with w | w | w
    ·exact .inl w
    ·exact .inr ((s7.st a b).mp w)
    ·exact (mh ok w).elim
   ·obtain ⟨rfl,rfl⟩ := fV ok ok2
    have rgf : rg = false := by
     cases hh : rg with
     | false => rfl
     | true =>
      rcases hrg.mp hh with w | w
      ·exact absurd w ne
      ·exact absurd ((s7.st a b).mpr w) nst
    exact hN _ _ ⟨false,_,rfl,.inr ⟨rgf,rfl,F',ms,t,_,_,(KF.of gA).trans k4,fg.same gA,lb4,et4,k4 _ _ (s2.lb.not er (fun _ z => nomatch z)) er,⟨p0,lo,b1,b2⟩,nd,hs⟩⟩
 clear er lo b1 b2 p0 p q'
 rintro σ H3 ⟨rf,r0,rfl,h3⟩
 rcases h3 with ⟨rfl,rfl,g3⟩ | ⟨rfl,rfl,F',ms,t,p,q',k3,fg,lb3,et3,er3,⟨p0,lo,b1,b2⟩,nd,hs⟩
 ·refine ⟨_,rfl,true,rfl,bM ⟨_,rfl,_,rfl,rfl,?_⟩⟩
  rw [decide_eq_true rfl]
  exact q _ F1 (KF.of g3) FG.refl ⟨g3 _ _ et,rows,m,g,bs,ns,ps,es,vw,(s7.same g3).more⟩
 ·have new : ∀ t,(a,b,t) ∉ es := fun t z => by
   have := hrg.mpr (.inr ⟨t,z⟩)
   cases this
  have ab : a ≠ b := fun z => by
   have := hrg.mpr (.inl z)
   cases this
  have d3 := s7.d7k k3
  have kz : (jX es).length < sizeLine := by rw [rW]; omega
  refine ⟨_,rfl,false,rfl,cW ⟨_,rfl,_,rfl,_,rfl,_,rfl,(by show 2 <= sizeLine; decide),fun t1 m1 => ⟨L.ds,_,rfl,d4.t (k := [.inr a,.inr b]) (ak m1 _ _ _ d3.ee) ac kz,_,rfl,_,rfl,rfl,?_⟩⟩⟩
  have kA : KF (Ow L.dp L.ds L.db F1) H (aq (aq H3 t1 (.tup [.str a,.str b])) L.ds (.dT (putK (jX es) [.inr a,.inr b] (.ref r0)))) := (k3.ow.trans (KF.of (ak m1 _))).trans (KF.putD (by simp [Ow]) _)
  rw [decide_eq_true rfl]
  exact q _ F' kA fg ⟨kA _ _ (fun z => (s7.own _ z).not et (fun _ z => nomatch z) (fun _ z => nomatch z) rfl) et,rows,m + 2,_,bs,ms,ps,_,_,s7.stand k3 fg lb3 et3 er3 p0 lo b1 b2 na nb nd hs (ak m1 _) ai bi ab new n60⟩
theorem wa : az ["_law_larder","_law_told","_law_names_here","_law_cell","_law_one","_law_other","_law_way"] ["_law_larder","_law_told","_law_names_here","_law_cell"] (ap sN) := ⟨rfl,rfl,rfl,by decide +kernel,rfl,by decide +kernel,by decide +kernel⟩
set_option maxHeartbeats 4000000 in
theorem wb {dV : Value} (F : bG K "_law_deed" "_law_deed" sN dV f fd) (B : Bn K mg c_InRing c_Larder c_NoName c_NoNumber c_NoStand c_NoStandIn c_StoveError f_Z13 f_Z14 f_Z15 f_Z16 f_Z17 f_Z18 f_Z19 f_Z20 f_Z21 f_Z22) (DZ19 : dw P w K mg base aZ 3 f_Z19 ["self","good"] [] (mi c_Larder)) (DZ20 : dw P w K mg base aZ 3 f_Z20 ["self","good"] [] (io c_Larder)) (DZ29 : Dx P w K mg base aZ 4 "_law_part" ["_law_larder","_law_pairs","_law_one","_law_other"] [] (jP K c_Larder)) (DZ30 : Dx P w K mg base aZ 4 "_law_stand" ["_law_larder","_law_stands","_law_one","_law_other","_law_cell"] [] (iq K c_Larder)) : a7 P w K mg base aZ 5 f fd ["_law_larder","_law_told","_law_names_here","_law_cell"] (jQ K c_Larder) := by
 have sc := wa
 refine F.ok sc (fun vs H Q E h => ?_) (fun cdv A outer s H vs Q E hr h => ?_)
 ·obtain ⟨L,l,c,nm,n,F0,rfl,_⟩ := h
  rfl
 obtain ⟨L,l,c,nm,n,F1,rfl,l7,n60,el,n2,nmz,q⟩ := h
 refine ⟨_,(ae (ar (i := 4) sc.nd rfl (Or.inl rfl) (aI aB (pv 2) (av aV (av bj (pv 3) am) (aD aW rfl B.b_len boot_len (aa (pv 2) ag))) (fun _ _ => rfl))) (ae (ar (i := 5) sc.nd rfl (Or.inl rfl) (aI aB (pv 2) (av aV (av bj (av bj (pv 3) am) (aD aW rfl B.b_len boot_len (aa (pv 2) ag))) (aD aW rfl B.b_len boot_len (aa (pv 2) ag))) (fun _ _ => rfl))) (ae (ar (i := 6) sc.nd rfl (Or.inl rfl) (av aV (av bj (pv 3) am) am)) (ae (aU (ax gG (pv 6) am (aE _)) (aj (aC (aT DZ29 hr (by decide) rfl (aa (pv 0) (aa (aI aB (pv 1) am (fun _ _ => rfl)) (aa (pv 4) (aa (pv 5) ag))))))) aH) (ae (aU (ax gG (pv 6) am (aE _)) (aj (aC (aT DZ30 hr (by decide) rfl (aa (pv 0) (aa (aI aB (pv 1) am (fun _ _ => rfl)) (aa (pv 4) (aa (pv 5) (aa (av bj (pv 3) am) ag)))))))) aH) (ae (aU (ax gG (pv 6) am (aE _)) (ae (aS (dR (pv 0) DZ19 hr (by decide) (aa (pv 4) ag))) (aj (cx (bK hr) (aI aB (pv 1) am (fun _ _ => rfl)) (pv 4) bD rfl))) (ae (aS (dR (pv 0) DZ20 hr (by decide) (aa (pv 4) ag))) (aj (aS (kc (aI aB (pv 1) am (fun _ _ => rfl)) (pv 4) bR ⟨rfl,rfl,rfl,rfl⟩))))) (aj (aC bD)))))))),?_⟩
 have slt : (3000 : Nat) < sizeLine := by decide
 obtain ⟨et,rows,m,g,bs,ns,ps,es,vw,s7⟩ := id l7
 have cnt := s7.cnt
 have few := s7.d7.few
 have nl := s7.len
 have b12 := s7.d7.bars
 have ll : (nm.map V.str).length = nm.length := A2 _
 have lp : (0 : Int) < ((nm.map V.str).length : Int) := by omega
 have ln : ((nm.map V.str).length : Int) ≠ 0 := by omega
 have i0 : ∀ e : Int,0 <= e.fmod ((nm.map V.str).length : Int) /\ e.fmod ((nm.map V.str).length : Int) < (nm.length : Int) := fun e => ⟨AG _ lp,by have := AU e lp; omega⟩
 obtain ⟨a,ea,ain⟩ := hW (i0 (c.fdiv 16)).1 (i0 (c.fdiv 16)).2
 obtain ⟨b,eb,bin⟩ := hW (i0 ((c.fdiv 16).fdiv ((nm.map V.str).length : Int))).1 (i0 ((c.fdiv 16).fdiv ((nm.map V.str).length : Int))).2
 have na := nmz a ain
 have nb := nmz b bin
 have w0 := AG (c.fdiv 2) (show (0 : Int) < 8 by decide)
 have w1 := AU (c.fdiv 2) (show (0 : Int) < 8 by decide)
 refine ⟨_,rfl,_,rfl,_,_,rfl,rfl,⟨by decide,AM (by decide)⟩,_,rfl,l,_,rfl,.inl (bc.of el),_,_,rfl,rfl,ln,l,_,_,_,rfl,rfl,bc.of el,ea,?_⟩
 refine ⟨_,rfl,_,rfl,_,_,rfl,rfl,⟨by decide,AM (by decide)⟩,_,rfl,l,_,rfl,.inl (bc.of el),_,_,rfl,rfl,⟨ln,AM (by omega)⟩,_,rfl,l,_,rfl,.inl (bc.of el),_,_,rfl,rfl,ln,l,_,_,_,rfl,rfl,bc.of el,eb,?_⟩
 refine ⟨_,rfl,_,_,rfl,rfl,⟨by decide,AM (by decide)⟩,_,_,rfl,rfl,(by show (8 : Int) ≠ 0; decide),?_⟩
 try dsimp only [bu,bx]
 generalize (c.fdiv 2).fmod 8 = ww at w0 w1 ⊢
 refine ⟨_,rfl,_,_,rfl,rfl,_,rfl,d2 (fun _ => ?_) (fun _ => ?_)⟩
 ·exact ⟨_,rfl,_,rfl,L.t,_,_,_,rfl,rfl,bc.of et,rfl,_,rfl,_,rfl,L,a,b,nm,n,F1,rfl,l7,n60,ain,bin,na,nb,q⟩
 refine ⟨_,rfl,_,_,rfl,rfl,_,rfl,d2 (fun _ => ?_) (fun _ => ?_)⟩
 ·exact ⟨_,rfl,_,rfl,L.t,_,_,_,rfl,rfl,bc.of et,rfl,_,rfl,_,rfl,_,rfl,_,_,rfl,rfl,⟨by decide,AM (by decide)⟩,L,a,b,_,nm,n,F1,rfl,l7,n60,ain,bin,na,nb,q⟩
 obtain ⟨dx,s0,b0,fs,dk',ex,es0,eb0,bd,hb,fm,sF,bF,pb⟩ := s7.lb.at_
 refine ⟨_,rfl,_,_,rfl,rfl,_,rfl,d2 (fun _ => ?_) (fun _ => ?_)⟩
 ·have kz : (aN bs (.bl true)).length < sizeLine := by rw [bQ]; omega
  refine ⟨_,rfl,L.x,_,dx,_,rfl,ex,B.cl_Larder,B.me_Z19,fm _ (by decide),_,rfl,L.x,a,F1,rows,m,g,bs,ns,rfl,s7.lb,by omega,s7.nn,by omega,na,fun H1 ms k1 lb1 nd hs => ?_⟩
  have et1 := k1 _ _ (s7.lb.not et (fun _ z => nomatch z)) et
  have d1 := s7.d7k k1
  refine ⟨_,rfl,L.t,_,_,_,rfl,rfl,bc.of et1,rfl,_,rfl,L.db,_,rfl,d4.k (k := .inr a) d1.eb kz,?_⟩
  rw [dJ]
  have kA : KF (Ow L.dp L.ds L.db F1) H (aq H1 L.db (.dK (aN (bI bs a) (.bl true)))) := k1.ow.trans (KF.putD (by simp [Ow]) _)
  refine q _ F1 kA FG.refl ⟨kA _ _ (fun z => (s7.own _ z).not et (fun _ z => nomatch z) (fun _ z => nomatch z) rfl) et,rows,m,g,_,ms,ps,es,vw,(s7.barred k1 lb1 nd (fun y hy => ?_) (cX s7.d7.bnd) (fun y hy => ?_)).more⟩
  ·rcases (hs y).mp hy with w | rfl
   ·exact s7.nsm y w
   ·exact ain
  ·rcases bW.mp hy with w | rfl
   ·exact s7.d7.binn y w
   ·exact ain
 ·refine ⟨_,rfl,L.x,_,dx,_,rfl,ex,B.cl_Larder,B.me_Z20,fm _ (by decide),_,rfl,L.x,a,F1,rows,m,g,bs,ns,rfl,s7.lb,na,fun H1 k1 lb1 => ?_⟩
  have et1 := k1 _ _ (s7.lb.not et (fun _ z => nomatch z)) et
  have d1 := s7.d7k k1
  have fin := s7.barred k1 lb1 s7.nn s7.nsm (ml s7.d7.bnd) (fun y hy => s7.d7.binn y (ql.mp hy).1)
  refine ⟨_,rfl,L.t,_,_,_,rfl,rfl,bc.of et1,rfl,L.db,rfl,.inl ⟨_,.inl d1.eb⟩,_,rfl,_,.inr a,d1.eb,rfl,fun w hw => ?_,fun hw => ?_⟩
  ·rw [i9]
   have kA : KF (Ow L.dp L.ds L.db F1) H (aq H1 L.db (.dK (aN (ie bs a) (.bl true)))) := k1.ow.trans (KF.putD (by simp [Ow]) _)
   exact q _ F1 kA FG.refl ⟨kA _ _ (fun z => (s7.own _ z).not et (fun _ z => nomatch z) (fun _ z => nomatch z) rfl) et,rows,m,g,_,ns,ps,es,vw,fin.more⟩
  ·rw [cD] at hw
   have nz : a ∉ bs := fun h => by rw [if_pos h] at hw; cases hw
   have e9 := d1.eb
   rw [ja nz] at fin
   have same : aq H1 L.db (.dK (aN bs (.bl true))) = H1 := by
    funext a
    by_cases z : a = L.db
    ·rw [z,ac,e9]
    ·rw [af z]
   rw [same] at fin
   exact q _ F1 k1.ow FG.refl ⟨et1,rows,m,g,bs,ns,ps,es,vw,fin.more⟩
theorem wc : az ["_law_larder","_law_told","_law_good","_law_found","_law_held","_law_one","_law_other","_law_k"] ["_law_larder","_law_told","_law_good"] (ap sO) := ⟨rfl,rfl,rfl,by decide +kernel,rfl,by decide +kernel,by decide +kernel⟩
set_option maxHeartbeats 4000000 in
theorem wd {dV : Value} (F : bG K "_law_barred" "_law_barred" sO dV f fd) (B : Bn K mg c_InRing c_Larder c_NoName c_NoNumber c_NoStand c_NoStandIn c_StoveError f_Z13 f_Z14 f_Z15 f_Z16 f_Z17 f_Z18 f_Z19 f_Z20 f_Z21 f_Z22) (DZ17 : dw P w K mg base aZ 3 f_Z17 ["self","good"] [] (fJ c_Larder)) (DZ18 : dw P w K mg base aZ 3 f_Z18 ["self","good"] [] (dY c_Larder)) : a7 P w K mg base aZ 4 f fd ["_law_larder","_law_told","_law_good"] (eG K c_Larder) := by
 have sc := wc
 refine F.ok sc (fun vs H Q E h => ?_) (fun cdv A outer s H vs Q E hr h => ?_)
 ·obtain ⟨L,z,nm,n,F0,rows,m,g,bs,ns,ps,es,vw,rfl,_⟩ := h
  rfl
 obtain ⟨L,z,nm,n,F1,rows,m,g,bs,ns,ps,es,vw,rfl,et,s7,nz,qF,qT⟩ := h
 refine ⟨_,(ae (ar (i := 3) sc.nd rfl (Or.inl rfl) (dR (pv 0) DZ18 hr (by decide) (aa (pv 2) ag))) (ae (aU (ax gH (pv 3) bR (aE _)) (ae (ar (i := 4) sc.nd rfl (Or.inl rfl) (dR (pv 0) DZ17 hr (by decide) (aa (pv 2) ag))) (ae (aU (PW.pt (cU (ax ff (pv 2) (pv 4) (by with_unfolding_all rfl)) (dq (ax (qb hr.units0) (nY (own := "_law_name") (ys := ["_law_told"]) (js := [1]) rfl (xG (xF xE) (.cons rfl .nil) (by decide) rfl rfl rfl rfl rfl rfl rfl rfl) (c8 (pv 4)) (fun C fp s H => (dN (gQ (by exact bK hr) (pv 0) (aI (qc (K := K) rfl) (pv 1) am (fun _ _ => rfl))) (by with_unfolding_all rfl))) (fun C fp s H => (pv 0))) (bw ag) (aE _))))) (aj (aC bR)) aH) (ae (m7 (b4 PassesOwn.never rfl (kR (aI aB (pv 1) am (fun _ _ => rfl))) (oQ rfl (eY (bz (i := 5) sc.nd rfl (Or.inl rfl)) (eY (bz (i := 6) sc.nd rfl (Or.inl rfl)) mx))) (aj (aU (PW.pt (oN (ax iL (pv 5) (pv 4) (by with_unfolding_all rfl)) (mw (ax ff (pv 6) (pv 4) (by with_unfolding_all rfl))))) (aj (aC bR)) aH)))) (aj (aC bD))))) aH) (ae (aU (PW.pt (cU (b7 (bZ (aD (cu (K := K) rfl) rfl B.b_isinstance boot_isinstance (aa (pv 3) (aa (cM (v := .ty "list") rfl B.b_list boot_list rfl) ag))))) (cU (ax (kJ hr.units0) (pv 3) (bw ag) (aE _)) (cU (ax iG (aI aB (pv 3) am (fun _ _ => rfl)) (pv 2) (aE _)) (dq (dN (cR (bK hr) (aI aB (pv 3) (iF fN am) (fun _ _ => rfl)) (aI aB (pv 1) am (fun _ _ => rfl))) (by with_unfolding_all rfl))))))) (aj (aC bR)) aH) (ae (b4 PassesOwn.never rfl (dA rfl B.b_range (aa (av oU (aD aW rfl B.b_len boot_len (aa (pv 3) ag)) am) ag)) (bz (i := 7) sc.nd rfl (Or.inl rfl)) (aj (aU (dN (cR (bK hr) (cK (aa (aI aB (pv 3) (pv 7) (fun _ _ => rfl)) (aa (aI aB (pv 3) (av cr (pv 7) am) (fun _ _ => rfl)) ag))) (aI aB (pv 1) am (fun _ _ => rfl))) (by with_unfolding_all rfl)) (aj (aC bR)) aH))) (aj (aC bD)))))),?_⟩
 have slt : (3000 : Nat) < sizeLine := by decide
 have cnt := s7.cnt
 have few := s7.d7.few
 have b12 := s7.d7.bars
 obtain ⟨dx,s0,b0,fs,dk,ex,es0,eb,bd,hb,fm,sF,bF,pb⟩ := s7.lb.at_
 refine ⟨_,rfl,L.x,_,dx,_,rfl,ex,B.cl_Larder,B.me_Z18,fm _ (by decide),_,rfl,L.x,z,F1,rows,m,g,bs,ns,ps,rfl,s7.lb,s7.ok,by omega,nz,fun H3 g3 nl => ?_,fun l H3 c goal g3 nl el wy gm gl => ?_⟩
 ·have s3 := s7.same g3
  have et3 := g3 _ _ et
  refine ⟨_,rfl,rfl,_,rfl,d2 (fun _ => ?_) (fun w => absurd rfl w)⟩
  obtain ⟨dx,s0,b0,fs,dk,ex,es0,eb,bd,hb,fm,sF,bF,pb⟩ := s3.lb.at_
  refine ⟨_,rfl,L.x,_,dx,_,rfl,ex,B.cl_Larder,B.me_Z17,fm _ (by decide),_,rfl,L.x,z,F1,rows,m,g,bs,ns,ps,rfl,s3.lb,s3.ok,by omega,nz,fun lh H4 ys g4 nlh eh ndy my => ?_⟩
  have s4 := s3.same g4
  have et4 := g4 _ _ et3
  have inn : ∀ y,y ∈ ys -> tL (.str y) (ys.map V.str) = true := fun y hy => by rw [jB]; exact decide_eq_true hy
  try dsimp only [bu,bx]
  refine cut (fun σ H' => σ = [some (.ref L.x),some (.ref L.t),some (.str z),some .non,some (.ref lh),none,none,none] /\ ay H4 H') (fun N hN => ?_) ?_
  ·refine ⟨_,rfl,_,rfl,lh,_,rfl,.inl (bc.of eh),rfl,eC ys,_,rfl,?_⟩
   rw [inn z ((my z).mpr .self)]
   refine bM ⟨_,rfl,lh,rfl,⟨_,bc.of eh⟩,f9 (K := K) (fun _ => false) (bc.of eh) (by rw [A2]; have := jC ndy my; omega) (fun v hv H5 g5 R hR => ?_) (fun p H5 g5 ep => ?_)⟩
   ·obtain ⟨y,hy,rfl⟩ := AF.mp hv
    ·refine ⟨_,rfl,_,rfl,L.t,_,_,_,rfl,rfl,bc.of (g5 _ _ et4),rfl,L.db,_,rfl,b5.k (k := .inr y) (g5 _ _ s4.d7.eb),_,rfl,?_⟩
     rw [cD,if_neg (fun w => nl y w ((my y).mp hy))]
     exact hR
   ·rw [List.filter_eq_nil_iff.mpr (fun _ _ => by decide)] at ep
    exact ⟨(by show 0 <= sizeLine; decide),fun le ne => ⟨p,le,[],rfl,rfl,bc.of (ak ne _ _ _ ep),bc.of ac,_,rfl,bM (hN _ _ ⟨rfl,g5.trans (ak ne _)⟩)⟩⟩
  rintro σ H5 ⟨rfl,g5⟩
  have s5 := s4.same g5
  have eh5 := g5 _ _ eh
  have dpl : lh ≠ L.dp := fun w => by rw [w,s5.d7.ep] at eh5; cases eh5
  refine ⟨_,rfl,L.t,_,_,_,rfl,rfl,bc.of (g5 _ _ et4),rfl,L.dp,_,rfl,s5.d7.ep,fun o nf => ?_⟩
  refine i7 (fun i σ H' => ay (aq H5 L.dp (.frz o (.dT (jb ps)))) H' /\ ∃ (o5 o6 : Option V),σ = [some (.ref L.x),some (.ref L.t),some (.str z),some .non,some (.ref lh),o5,o6,none]) ⟨.refl _,none,none,rfl⟩ (fun i σ H' _ h => h.1 _ _ ac) ?_ ?_
  ·rintro i k v b σ H6 hk eb6 ⟨g6,o5,o6,rfl⟩
   obtain ⟨p1,p2,rfl,hpi⟩ := uw hk
   have eb7 : H6 b = some (.tup [.str p1,.str p2]) := eb6
   have eh6 := g6 lh _ (by rw [af dpl]; exact eh5)
   refine ⟨b,_,rfl,cQ.of eb7,rfl,_,_,rfl,_,_,rfl,rfl,?_⟩
   refine ⟨_,rfl,_,rfl,lh,_,rfl,.inl (bc.of eh6),rfl,eC ys,_,rfl,?_⟩
   by_cases h1 : p1 ∈ ys
   ·rw [inn p1 h1]
    refine cW ⟨_,rfl,_,rfl,lh,_,rfl,.inl (bc.of eh6),rfl,eC ys,_,rfl,?_⟩
    rw [inn p2 ((my p2).mpr (.step ((my p1).mp h1) (AB hpi)))]
    exact bM ⟨g6,_,_,rfl⟩
   ·rw [show tL (.str p1) (ys.map V.str) = false by rw [jB]; exact decide_eq_false h1]
    exact bM ⟨g6,_,_,rfl⟩
  ·rintro σ H6 ⟨g6,o5,o6,rfl⟩
   exact ⟨L.dp,o,_,g6 _ _ ac,nf,qF _ (((g3.trans g4).trans g5).trans (p8 s5.d7.ep g6)) (fun ⟨b',h1,h2⟩ => nl b' h1 h2)⟩
 ·have s4 := s7.same g3
  have et4 := g3 _ _ et
  have cn : c ≠ [] := fun e => by have := wy.first; rw [e] at this; cases this
  have c1 := BL.mpr cn
  have c9 := wy.few
  have lcm : (c.map V.str).length = c.length := A2 _
  have hE : (c.map V.str).isEmpty = false := by
   cases c with
   | nil => exact absurd rfl cn
   | cons x r => rfl
  have atl : eO (c.map V.str) (-1) = some (.str goal) := by
   obtain ⟨ys,e⟩ := List.getLast?_eq_some_iff.mp wy.last
   rw [e,Ab]
   exact j8 _ _
  try dsimp only [bu,bx]
  refine ⟨_,rfl,rfl,_,rfl,d2 (fun w => nomatch w) (fun _ => ?_)⟩
  try dsimp only [bu,bx]
  refine cut (fun σ H' => σ = [some (.ref L.x),some (.ref L.t),some (.str z),some (.ref l),none,none,none,none] /\ ay H3 H') (fun N hN => ?_) ?_
  ·refine ⟨_,rfl,_,_,_,true,rfl,.lst el,rfl,_,rfl,bM ⟨_,rfl,(by show 0 <= sizeLine; decide),fun l0 n0 => ⟨l,l0,_,rfl,rfl,bc.of (ak n0 _ _ _ el),bc.of ac,_,rfl,?_⟩⟩⟩
   have k0 := ak n0 (.lst [])
   generalize aq H3 l0 (.lst []) = H5 at k0 ⊢
   rw [hE]
   refine bM ⟨_,rfl,l,_,_,_,rfl,rfl,bc.of (k0 _ _ el),bY (j := 0) (eW wy.first),_,rfl,rfl,_,rfl,nF rfl ?_⟩
   refine ⟨_,rfl,_,rfl,l,_,_,_,rfl,rfl,bc.of (k0 _ _ el),atl,_,rfl,L.t,_,_,_,rfl,rfl,bc.of (k0 _ _ et4),rfl,L.db,_,rfl,b5.k (k := .inr goal) (k0 _ _ s4.d7.eb),_,rfl,?_⟩
   rw [cD,if_pos gm]
   exact bM (hN _ _ ⟨rfl,k0⟩)
  rintro σ H5 ⟨rfl,g5⟩
  have el5 := g5 _ _ el
  refine ⟨_,rfl,l,_,rfl,.inl (bc.of el5),_,_,rfl,rfl,_,rfl,by omega,by omega,dC (fun i σ H' => ∃ o5 : Option V,σ = [some (.ref L.x),some (.ref L.t),some (.str z),some (.ref l),none,none,none,o5] /\ ay H3 H') ⟨none,rfl,g5⟩ ?_ ?_⟩
  ·rintro i σ H6 hi ⟨o5,rfl,g6⟩
   have i1 : i + 1 < c.length := by omega
   have hx := AD (show i < c.length by omega)
   have hy := AD i1
   generalize c[i] = u at hx
   generalize c[i + 1] = v at hy
   have pm := wy.pair i u v hx hy
   have at1 : eO (c.map V.str) (0 + (i : Int)) = some (.str u) := by rw [show 0 + (i : Int) = (i : Int) by omega]; exact bY (eW hx)
   have at2 : eO (c.map V.str) (0 + (i : Int) + 1) = some (.str v) := by rw [show 0 + (i : Int) + 1 = ((i + 1 : Nat) : Int) by omega]; exact bY (eW hy)
   refine ⟨_,rfl,_,rfl,l,_,_,_,rfl,rfl,bc.of (g6 _ _ el),at1,_,rfl,_,rfl,_,_,rfl,rfl,l,_,_,_,rfl,rfl,bc.of (g6 _ _ el),at2,(by show 2 <= sizeLine; decide),fun tt ntt => ?_⟩
   have k2 := ak ntt (.tup [.str u,.str v])
   refine ⟨_,rfl,L.t,_,_,_,rfl,rfl,bc.of (k2 _ _ (g6 _ _ et4)),rfl,L.dp,_,rfl,b5.t (k := [.inr u,.inr v]) (k2 _ _ (g6 _ _ s4.d7.ep)) ac,_,rfl,?_⟩
   rw [nc,decide_eq_true pm]
   exact bM ⟨_,rfl,g6.trans k2⟩
  ·rintro σ H6 ⟨o5,rfl,g6⟩
   exact qT _ (g3.trans g6) ⟨goal,gm,gl⟩
theorem we : az ["_law_larder","_law_good","_law_found"] ["_law_larder","_law_good"] (ap sP) := ⟨rfl,rfl,rfl,by decide +kernel,rfl,by decide +kernel,by decide +kernel⟩
set_option maxHeartbeats 4000000 in
theorem wf {dV : Value} (F : bG K "_law_asked" "_law_asked" sP dV f fd) (B : Bn K mg c_InRing c_Larder c_NoName c_NoNumber c_NoStand c_NoStandIn c_StoveError f_Z13 f_Z14 f_Z15 f_Z16 f_Z17 f_Z18 f_Z19 f_Z20 f_Z21 f_Z22) (XZ22 : dw P w K mg base (cB P w) 5 f_Z22 ["self","good"] [] (qo K c_Larder c_NoName c_NoStandIn)) : a7 P w K mg base aZ 6 f fd ["_law_larder","_law_good"] (fK K c_Larder) := by
 have sc := we
 refine F.ok sc (fun vs H Q E h => ?_) (fun cdv A outer s H vs Q E hr h => ?_)
 ·obtain ⟨L,z,nm,n,F0,rows,m,g,bs,ns,ps,es,vw,rfl,_⟩ := h
  rfl
 obtain ⟨L,z,nm,n,F1,rows,m,g,bs,ns,ps,es,vw,rfl,s7,n50,nz,q⟩ := h
 refine ⟨_,(ae (lN rfl rfl (fun pins E => (aj (ar (i := 2) sc.nd rfl (Or.inl rfl) (jE (K := K) rfl XZ22 hr (by decide) (pv 0) (aa (pv 1) ag))))) (pG B.t_NoStandIn rfl B.m_NoStandIn (fun pins a => (aj (aC bR))) lO)) (aj (aC (pv 2)))),?_⟩
 have cnt := s7.cnt
 have few := s7.d7.few
 obtain ⟨dx,s0,b0,fs,dk,ex,es0,eb,bd,hb,fm,sF,bF,pb⟩ := s7.lb.at_
 refine ⟨_,rfl,L.x,_,dx,_,rfl,ex,B.cl_Larder,B.me_Z22,fm _ (by decide),_,rfl,L.x,.str z,F1,rows,m,g,bs,ns,ps,vw,nm,uB vw,rfl,s7.lb,by omega,s7.ok,by omega,.inl ⟨z,rfl,nz⟩,s7.ra,s7.hU,by omega,fun y ey => uu _ _,fun c p q y t r s h1 h2 h3 => rO h1 h3,fun nn => absurd ⟨z,rfl,nz⟩ nn,fun y ey _ cs hbf => ?_⟩
 cases ey
 obtain ⟨q1,q2⟩ := q cs hbf
 refine ⟨fun k c t cl rl p q' H3 g3 ncl hk bl nb e1 e2 e3 hRt => ?_,fun all dd H3 g3 ed a na => ⟨c_NoStandIn,true,rfl,B.s_NoStandIn_NoStandIn,cW ?_⟩⟩
 ·exact ⟨_,rfl,q1 k c t cl rl p q' H3 g3 ncl hk bl nb e1 e2 e3 hRt⟩
 ·exact q2 all _ (g3.trans (ak na _))
theorem wg : az ["_law_larder","_law_told","_law_good","_law_found","_law_name","_law_chain","_law_top","_law_bottom","_law_k"] ["_law_larder","_law_told","_law_good"] (ap sQ) := ⟨rfl,rfl,rfl,by decide +kernel,rfl,by decide +kernel,by decide +kernel⟩
set_option maxHeartbeats 4000000 in
theorem wj {dV : Value} (F : bG K "_law_right" "_law_right" sQ dV f fd) (B : Bn K mg c_InRing c_Larder c_NoName c_NoNumber c_NoStand c_NoStandIn c_StoveError f_Z13 f_Z14 f_Z15 f_Z16 f_Z17 f_Z18 f_Z19 f_Z20 f_Z21 f_Z22) (DZ26 : Dx P w K mg base aZ 2 "_law_lowest" ["_law_top","_law_bottom"] [] mM) (DZ28 : Dx P w K mg base aZ 1 "_law_led_to" ["_law_pairs","_law_good"] [] gF) (DZ32 : Dx P w K mg base aZ 4 "_law_barred" ["_law_larder","_law_told","_law_good"] [] (eG K c_Larder)) (DZ33 : Dx P w K mg base aZ 6 "_law_asked" ["_law_larder","_law_good"] [] (fK K c_Larder)) : a7 P w K mg base aZ 7 f fd ["_law_larder","_law_told","_law_good"] (ir K c_Larder) := by
 have sc := wg
 refine F.ok sc (fun vs H Q E h => ?_) (fun cdv A outer s H vs Q E hr h => ?_)
 ·obtain ⟨L,z,nm,n,F0,rfl,_⟩ := h
  rfl
 obtain ⟨L,z,nm,n,F1,rfl,⟨et,rows,m,g,bs,ns,ps,es,vw,s7⟩,n60,nz,q⟩ := h
 refine ⟨_,(ae (ar (i := 3) sc.nd rfl (Or.inl rfl) (aT DZ33 hr (by decide) rfl (aa (pv 0) (aa (pv 2) ag)))) (ae (aU (ax gH (pv 3) bR (aE _)) (ae (lS (b4 PassesOwn.never rfl (jA (aT DZ28 hr (by decide) rfl (aa (aI aB (pv 1) am (fun _ _ => rfl)) (aa (pv 2) ag)))) (bz (i := 4) sc.nd rfl (Or.inl rfl)) (aj (aU (ax rn (aT DZ32 hr (by decide) rfl (aa (pv 0) (aa (pv 1) (aa (pv 4) ag)))) bD (aE _)) (aj (aC bD)) aH)))) (aj (aC bD))) aH) (ae (aU (PW.pt (cU (b7 (bZ (aD (cu (K := K) rfl) rfl B.b_isinstance boot_isinstance (aa (pv 3) (aa (cM (v := .ty "tuple") rfl B.b_tuple boot_tuple rfl) ag))))) (cU (ax iG (aD aW rfl B.b_len boot_len (aa (pv 3) ag)) am (aE _)) (cU (b7 (bZ (aD (cu (K := K) rfl) rfl B.b_isinstance boot_isinstance (aa (aI bL (pv 3) am (fun _ _ => rfl)) (aa (cM (v := .ty "list") rfl B.b_list boot_list rfl) ag))))) (dq (ax (kJ hr.units0) (aI bL (pv 3) am (fun _ _ => rfl)) (bw ag) (aE _))))))) (aj (aC bD)) aH) (ae (ar (i := 5) sc.nd rfl (Or.inl rfl) (aI bL (pv 3) am (fun _ _ => rfl))) (ae (ar (i := 6) sc.nd rfl (Or.inl rfl) am) (ae (ar (i := 7) sc.nd rfl (Or.inl rfl) am) (ae (b4 PassesOwn.never rfl (dA rfl B.b_range (aa (av oU (aD aW rfl B.b_len boot_len (aa (pv 5) ag)) am) ag)) (bz (i := 8) sc.nd rfl (Or.inl rfl)) (ae (aU (dN (cR (bK hr) (cK (aa (aI aB (pv 5) (pv 8) (fun _ _ => rfl)) (aa (aI aB (pv 5) (av cr (pv 8) am) (fun _ _ => rfl)) ag))) (aI aB (pv 1) am (fun _ _ => rfl))) (by with_unfolding_all rfl)) (aj (aC bD)) aH) (ae (ar (i := 6) sc.nd rfl (Or.inl rfl) (av cA (pv 6) (aI bL (gq (bK hr) (aI aB (pv 1) am (fun _ _ => rfl)) (cK (aa (aI aB (pv 5) (pv 8) (fun _ _ => rfl)) (aa (aI aB (pv 5) (av cr (pv 8) am) (fun _ _ => rfl)) ag))) (fun _ _ => rfl)) am (fun _ _ => rfl)))) (aj (ar (i := 7) sc.nd rfl (Or.inl rfl) (av cA (pv 7) (aI bL (gq (bK hr) (aI aB (pv 1) am (fun _ _ => rfl)) (cK (aa (aI aB (pv 5) (pv 8) (fun _ _ => rfl)) (aa (aI aB (pv 5) (av cr (pv 8) am) (fun _ _ => rfl)) ag))) (fun _ _ => rfl)) am (fun _ _ => rfl)))))))) (ae (aU (PW.pt (cU (ax iG (aI aB (pv 5) am (fun _ _ => rfl)) (pv 2) (aE _)) (dq (ax (rG hr.units0) (aI bL (pv 3) am (fun _ _ => rfl)) (aT DZ26 hr (by decide) rfl (aa (pv 6) (aa (pv 7) ag))) (aE _))))) (aj (aC bD)) aH) (aj (aC (dO ub (aT DZ32 hr (by decide) rfl (aa (pv 0) (aa (pv 1) (aa (aI aB (pv 5) (iF fN am) (fun _ _ => rfl)) ag)))) bD (aE _)))))))))))),?_⟩
 have slt : (3000 : Nat) < sizeLine := by decide
 have cnt := s7.cnt
 have few := s7.d7.few
 refine ⟨_,rfl,_,rfl,L,z,nm,n,F1,rows,m,g,bs,ns,ps,es,vw,rfl,s7,n60,nz,fun cs hbf => ⟨fun k c t cl rl p q' H3 g3 ncl hk bl nb e1 e2 e3 hRt => ?_,fun all H3 g3 => ?_⟩⟩
 ·have s3 := s7.same g3
  have et3 := g3 _ _ et
  try dsimp only [bu,bx]
  refine ⟨_,rfl,rfl,_,rfl,d2 (fun w => nomatch w) (fun _ => ?_)⟩
  try dsimp only [bu,bx]
  have eR : kX g = qu es := by funext a b; exact propext (s7.st a b)
  have pc : oC (qu es) z c := eA.path (eR ▸ hbf) k c hk
  have clen := hbf.long k c hk
  have cfew := hbf.few s7.hU
  have kl := (A1.mp hk).1
  have cn := pc.ne
  have c1 := BL.mpr cn
  obtain ⟨c0,lnk⟩ := pc.link
  have lcm : (c.map V.str).length = c.length := A2 _
  have hE : (c.map V.str).isEmpty = false := by
   cases c with
   | nil => exact absurd rfl cn
   | cons x r => rfl
  refine cut (fun σ H' => σ = [some (.ref L.x),some (.ref L.t),some (.str z),some (.ref t),none,none,none,none,none] /\ ay H3 H') (fun N hN => ?_) ?_
  ·refine ⟨_,rfl,_,_,_,true,rfl,.tup e1,rfl,_,rfl,bM ⟨_,rfl,t,_,rfl,.inr (cQ.of e1),rfl,_,rfl,wC rfl ⟨_,rfl,t,_,_,_,rfl,rfl,cQ.of e1,rfl,_,_,_,true,rfl,.lst e2,rfl,_,rfl,bM ⟨_,rfl,t,_,_,_,rfl,rfl,cQ.of e1,rfl,(by show 0 <= sizeLine; decide),fun l0 n0 => ⟨cl,l0,_,rfl,rfl,bc.of (ak n0 _ _ _ e2),bc.of ac,_,rfl,?_⟩⟩⟩⟩⟩
   rw [hE]
   exact bM (hN _ _ ⟨rfl,ak n0 _⟩)
  rintro σ H4 ⟨rfl,g4⟩
  have s4 := s3.same g4
  have et4 := g4 _ _ et3
  have e14 := g4 _ _ e1
  have ec := g4 _ _ e2
  have er := g4 _ _ e3
  refine ⟨_,rfl,t,_,_,_,rfl,rfl,cQ.of e14,rfl,?_⟩
  have bd1 : Bd (200 * 0 + 1) 1 := by rw [Nat.mul_zero]; unfold Bd; decide
  try dsimp only [bu,bx]
  refine cut (fun σ H' => H4 = H' /\ σ = [some (.ref L.x),some (.ref L.t),some (.str z),some (.ref t),none,some (.ref cl),some (.int 1),none,none]) (fun N hN => hN _ _ ⟨rfl,rfl⟩) ?_
  rintro σ _ ⟨rfl,rfl⟩
  refine cut (fun σ H' => H4 = H' /\ σ = [some (.ref L.x),some (.ref L.t),some (.str z),some (.ref t),none,some (.ref cl),some (.int 1),some (.int 1),none]) (fun N hN => hN _ _ ⟨rfl,rfl⟩) ?_
  rintro σ _ ⟨rfl,rfl⟩
  refine cut (fun σ H' => ∃ o8 : Option V,σ = [some (.ref L.x),some (.ref L.t),some (.str z),some (.ref t),none,some (.ref cl),some (.int (eD vw c (c.length - 1)).1),some (.int (eD vw c (c.length - 1)).2),o8] /\ ay H4 H' /\ Bd (200 * (c.length - 1) + 1) (eD vw c (c.length - 1)).2 /\ 0 < (eD vw c (c.length - 1)).2) (fun N hN => ?_) ?_
  ·refine ⟨_,rfl,cl,_,rfl,.inl (bc.of ec),_,_,rfl,rfl,_,rfl,by omega,by omega,dC (fun i σ H' => ∃ o8 : Option V,σ = [some (.ref L.x),some (.ref L.t),some (.str z),some (.ref t),none,some (.ref cl),some (.int (eD vw c i).1),some (.int (eD vw c i).2),o8] /\ ay H4 H' /\ Bd (200 * i + 1) (eD vw c i).1 /\ Bd (200 * i + 1) (eD vw c i).2 /\ 0 < (eD vw c i).2) ⟨none,rfl,.refl _,bd1,bd1,(by show (0 : Int) < 1; decide)⟩ ?_ ?_⟩
   ·rintro i σ H5 hi ⟨o8,rfl,g5,bT,bB,B0⟩
    have i1 : i + 1 < c.length := by omega
    have hx := AD (show i < c.length by omega)
    have hy := AD i1
    generalize c[i] = x at hx
    generalize c[i + 1] = y at hy
    obtain ⟨t',ht'⟩ := lnk i x y hx hy
    obtain ⟨tr,hv,ht⟩ := kS ht'
    obtain ⟨etr,p0,lo,bp,bq⟩ := s4.d7.val x y tr ht
    have at1 : eO (c.map V.str) (0 + (i : Int)) = some (.str x) := by rw [show 0 + (i : Int) = (i : Int) by omega]; exact bY (eW hx)
    have at2 : eO (c.map V.str) (0 + (i : Int) + 1) = some (.str y) := by rw [show 0 + (i : Int) + 1 = ((i + 1 : Nat) : Int) by omega]; exact bY (eW hy)
    refine ⟨_,rfl,_,rfl,cl,_,_,_,rfl,rfl,bc.of (g5 _ _ ec),at1,_,rfl,_,rfl,_,_,rfl,rfl,cl,_,_,_,rfl,rfl,bc.of (g5 _ _ ec),at2,(by show 2 <= sizeLine; decide),fun tt ntt => ?_⟩
    have k2 := g5.trans (ak ntt (.tup [.str x,.str y]))
    refine ⟨_,rfl,L.t,_,_,_,rfl,rfl,bc.of (k2 _ _ et4),rfl,L.ds,_,rfl,b5.t (k := [.inr x,.inr y]) (k2 _ _ s4.d7.ee) ac,_,rfl,?_⟩
    rw [hv]
    generalize aq H5 tt (.tup [.str x,.str y]) = H6 at k2 ⊢
    refine bM ?_
    have big : 200 * i + 1 + 200 <= 134217728 := by omega
    try dsimp only [bu,bx]
    refine ⟨_,rfl,_,rfl,L.t,_,_,_,rfl,rfl,bc.of (k2 _ _ et4),rfl,_,rfl,_,rfl,cl,_,_,_,rfl,rfl,bc.of (k2 _ _ ec),at1,_,rfl,_,rfl,_,_,rfl,rfl,cl,_,_,_,rfl,rfl,bc.of (k2 _ _ ec),at2,(by show 2 <= sizeLine; decide),fun t6 n6 => ?_⟩
    have k6 := k2.trans (ak n6 (.tup [.str x,.str y]))
    refine ⟨L.ds,.ref tr,rfl,(by rw [<- hv]; exact b5.t (k := [.inr x,.inr y]) (k6 _ _ s4.d7.ee) ac),tr,_,_,_,rfl,rfl,cQ.of (k6 _ _ etr),rfl,_,_,rfl,rfl,bT.ok bp big,?_⟩
    generalize aq H6 t6 (.tup [.str x,.str y]) = H7 at k6 ⊢
    try dsimp only [bu,bx]
    refine ⟨_,rfl,_,rfl,L.t,_,_,_,rfl,rfl,bc.of (k6 _ _ et4),rfl,_,rfl,_,rfl,cl,_,_,_,rfl,rfl,bc.of (k6 _ _ ec),at1,_,rfl,_,rfl,_,_,rfl,rfl,cl,_,_,_,rfl,rfl,bc.of (k6 _ _ ec),at2,(by show 2 <= sizeLine; decide),fun t7 n7 => ?_⟩
    have k7 := k6.trans (ak n7 (.tup [.str x,.str y]))
    refine ⟨L.ds,.ref tr,rfl,(by rw [<- hv]; exact b5.t (k := [.inr x,.inr y]) (k7 _ _ s4.d7.ee) ac),tr,_,_,_,rfl,rfl,cQ.of (k7 _ _ etr),rfl,_,_,rfl,rfl,bB.ok bq big,?_⟩
    have pr : eD vw c (i + 1) = ((eD vw c i).1 * (vw x y).1,(eD vw c i).2 * (vw x y).2) := by
     show ((eD vw c i).1 * (vw (c.getD i "") (c.getD (i + 1) "")).1,(eD vw c i).2 * (vw (c.getD i "") (c.getD (i + 1) "")).2) = _
     rw [Ad,Ad,hx,hy]
     rfl
    have bi' : 200 * (i + 1) + 1 = 200 * i + 1 + 200 := by omega
    refine ⟨some (.int (0 + (i : Int))),(by rw [pr]; rfl),k7,?_,?_,?_⟩
    ·rw [pr,bi']; exact bT.mul bp
    ·rw [pr,bi']; exact bB.mul bq
    ·rw [pr]; exact Int.mul_pos B0 lo.pos
   ·rintro σ H5 ⟨o8,rfl,g5,bT,bB,B0⟩
    have e : ((((c.map V.str).length : Nat) : Int) - 1).toNat = c.length - 1 := by omega
    rw [e] at bT bB B0
    rw [e]
    exact hN _ _ ⟨o8,rfl,g5,bB,B0⟩
  rintro σ H5 ⟨o8,rfl,g5,bB,B0⟩
  try dsimp only [bu,bx]
  refine ⟨_,rfl,cl,_,_,_,rfl,rfl,bc.of (g5 _ _ ec),bY (j := 0) (eW c0),_,rfl,rfl,_,rfl,nF rfl ?_⟩
  refine ⟨_,rfl,t,_,_,_,rfl,rfl,cQ.of (g5 _ _ e14),rfl,_,rfl,_,rfl,_,_,rfl,B0,bB.mono (by omega),fun p2 q2 f2 t2 H6 g6 e6 => ?_⟩
  obtain ⟨rfl,rfl⟩ := rP hRt f2 B0
  have g56 := g5.trans g6
  refine ⟨rl,t2,_,_,rfl,rfl,cQ.of (g56 _ _ er),cQ.of e6,_,rfl,bM ?_⟩
  have nlast : Nm (aM c) := by
   rcases Ay k with w | w
   ·subst w
    rw [hbf.first] at hk
    cases hk
    exact nz
   ·obtain ⟨j,c',y,_,_,_,rfl,⟨tt,htt⟩,_⟩ := hbf.from_ k c w hk
    rw [bO]
    exact (s7.ra.nm _ _ _ htt).2
  refine ⟨_,rfl,_,rfl,_,rfl,_,rfl,cl,_,_,_,rfl,rfl,bc.of (g56 _ _ ec),fS cn,L,aM c,nm,n,F1,rows,m,g,bs,ns,ps,es,vw,rfl,g56 _ _ et4,s4.same g56,nlast,fun H7 g7 _ => ⟨false,false,rfl,rfl,?_⟩,fun H7 g7 bk => absurd bk nb⟩
  exact q _ (((g3.trans g4).trans g56).trans g7)
 ·have s3 := s7.same g3
  have et3 := g3 _ _ et
  try dsimp only [bu,bx]
  refine ⟨_,rfl,rfl,_,rfl,d2 (fun _ => ?_) (fun w => absurd rfl w)⟩
  have led : ∀ y,Led (tm es) z y -> Nm y /\ Blk ps bs y := fun y hy => by
   refine ⟨hy.closed (S := Nm) nz fun a b _ hab => ?_,?_⟩
   ·obtain ⟨t,ht⟩ := (s7.st a b).mpr (nj.mp hab)
    exact (s7.ra.nm _ _ _ ht).2
   ·obtain ⟨p,hp,e⟩ := sg hy
    rw [<- e]
    exact qj (fun a b => s7.st a b) hbf all p hp
  refine ⟨_,rfl,L.t,_,_,_,rfl,rfl,bc.of et3,rfl,_,rfl,L.ds,z,jX es,tm es,rfl,s3.d7.ee,yu es,by rw [sd]; omega,fun dk H4 ks g4 ndk edk _ kl mem => ⟨dk,_,rfl,edk,fun o nf => ?_⟩⟩
  have s4 := s3.keep1 g4 ndk edk (.frz o (.dK (aN ks (.bl true))))
  have et4 : aq H4 dk (.frz o (.dK (aN ks (.bl true)))) L.t = some (.lst [.ref L.dp,.ref L.ds,.ref L.db]) := fH edk (g4 _ _ et3) (fun w => nomatch w)
  refine kE (fun i σ H' => ay (aq H4 dk (.frz o (.dK (aN ks (.bl true))))) H' /\ ∃ o4 : Option V,σ = [some (.ref L.x),some (.ref L.t),some (.str z),some .non,o4,none,none,none,none]) ⟨.refl _,none,rfl⟩ (fun i σ H' _ h => h.1 _ _ ac) ?_ ?_
  ·rintro i kk v σ H5 hk ⟨g5,o4,rfl⟩
   obtain ⟨y,rfl,hy⟩ := se hk
   obtain ⟨ny,by'⟩ := led y ((mem y).mp hy)
   exact ⟨_,rfl,_,rfl,_,rfl,L,y,nm,n,F1,rows,m,g,bs,ns,ps,es,vw,rfl,g5 _ _ et4,s4.same g5,ny,fun H6 g6 nb => absurd by' nb,fun H6 g6 _ => ⟨true,true,rfl,rfl,_,rfl,bM ⟨g5.trans g6,_,rfl⟩⟩⟩
  ·rintro σ H5 ⟨g5,o4,rfl⟩
   exact ⟨dk,o,_,g5 _ _ ac,nf,q _ ((g3.trans g4).trans (p8 edk g5))⟩
theorem wk : az ["_law_larder","_law_good","_law_cell","_law_found"] ["_law_larder","_law_good","_law_cell"] (ap sR) := ⟨rfl,rfl,rfl,by decide +kernel,rfl,by decide +kernel,by decide +kernel⟩
set_option maxHeartbeats 4000000 in
theorem wm {dV : Value} (F : bG K "_law_look" "_law_look" sR dV f fd) (B : Bn K mg c_InRing c_Larder c_NoName c_NoNumber c_NoStand c_NoStandIn c_StoveError f_Z13 f_Z14 f_Z15 f_Z16 f_Z17 f_Z18 f_Z19 f_Z20 f_Z21 f_Z22) (DZ15 : dw P w K mg base aZ 1 f_Z15 ["self"] [] (ip c_Larder)) (DZ17 : dw P w K mg base aZ 3 f_Z17 ["self","good"] [] (fJ c_Larder)) (DZ18 : dw P w K mg base aZ 3 f_Z18 ["self","good"] [] (dY c_Larder)) (DZ33 : Dx P w K mg base aZ 6 "_law_asked" ["_law_larder","_law_good"] [] (fK K c_Larder)) : a7 P w K mg base aZ 7 f fd ["_law_larder","_law_good","_law_cell"] (jR K c_Larder) := by
 have sc := wk
 refine F.ok sc (fun vs H Q E h => ?_) (fun cdv A outer s H vs Q E hr h => ?_)
 ·obtain ⟨L,z,c,nm,n,F0,rfl,_⟩ := h
  rfl
 obtain ⟨L,z,c,nm,n,F1,rfl,⟨et,rows,m,g,bs,ns,ps,es,vw,s7⟩,n60,nz,q⟩ := h
 refine ⟨_,(aj (aU (ax dE (av aV (av bj (pv 2) am) am) am (aE _)) (aj (aS (dG AV AX AW bE (dR (pv 0) DZ17 hr (by decide) (aa (pv 1) ag)) (aa cJ ag)))) (aj (aU (ax dE (av aV (av bj (pv 2) am) am) am (aE _)) (aj (aS (dG AV AX AW bE (ue (pv 0) DZ15 hr (by decide)) (aa cJ ag)))) (aj (aU (ax dE (av aV (av bj (pv 2) am) am) am (aE _)) (ae (ar (i := 3) sc.nd rfl (Or.inl rfl) (dR (pv 0) DZ18 hr (by decide) (aa (pv 1) ag))) (aj (aU (ax gn (pv 3) bR (aE _)) (aj (aS (dG AV AX AW bE (pv 3) (aa cJ ag)))) aH))) (ae (ar (i := 3) sc.nd rfl (Or.inl rfl) (aT DZ33 hr (by decide) rfl (aa (pv 0) (aa (pv 1) ag)))) (aj (aU (ax gn (pv 3) bR (aE _)) (aj (aS (dG AV AX AW bE (aI bL (pv 3) am (fun _ _ => rfl)) (aa cJ ag)))) aH))))))))),?_⟩
 have slt : (3000 : Nat) < sizeLine := by decide
 have cnt := s7.cnt
 have few := s7.d7.few
 have nl := s7.len
 obtain ⟨dx,s0,b0,fs,dk,ex,es0,eb,bd,hb,fm,sF,bF,pb⟩ := s7.lb.at_
 refine ⟨_,rfl,_,_,rfl,rfl,⟨by decide,AM (by decide)⟩,_,_,rfl,rfl,(by show (4 : Int) ≠ 0; decide),rfl,_,rfl,tV (fun _ => ?_) (fun _ => ⟨_,rfl,_,_,rfl,rfl,⟨by decide,AM (by decide)⟩,_,_,rfl,rfl,(by show (4 : Int) ≠ 0; decide),rfl,_,rfl,tV (fun _ => ?_) (fun _ => ⟨_,rfl,_,_,rfl,rfl,⟨by decide,AM (by decide)⟩,_,_,rfl,rfl,(by show (4 : Int) ≠ 0; decide),rfl,_,rfl,tV (fun _ => ?_) (fun _ => ?_)⟩)⟩)⟩
 ·refine ⟨_,rfl,L.x,_,dx,_,rfl,ex,B.cl_Larder,B.me_Z17,fm _ (by decide),_,rfl,L.x,z,F1,rows,m,g,bs,ns,ps,rfl,s7.lb,s7.ok,by omega,nz,fun l H1 ys g1 nw e1 nd my => ?_⟩
  have yl := jC nd my
  exact ⟨.inl ⟨rfl,_,bc.of e1⟩,l,_,_,rfl,rfl,e1,by rw [A2]; omega,q _ (em g1 nw _)⟩
 ·obtain ⟨F0,la,_,_⟩ := s7.lb.la
  refine ⟨_,rfl,L.x,_,dx,_,rfl,ex,B.cl_Larder,B.me_Z15,fm _ (by decide),L.x,F0,rows,ns,rfl,la,s7.nn,by omega,fun l H1 ys g1 nw e1 pm => ?_⟩
  have yl := pm.length_eq
  exact ⟨.inl ⟨rfl,_,bc.of e1⟩,l,_,_,rfl,rfl,e1,by rw [A2]; omega,q _ (em g1 nw _)⟩
 ·refine ⟨_,rfl,L.x,_,dx,_,rfl,ex,B.cl_Larder,B.me_Z18,fm _ (by decide),_,rfl,L.x,z,F1,rows,m,g,bs,ns,ps,rfl,s7.lb,s7.ok,by omega,nz,fun H1 g1 _ => ?_,fun l H1 cc goal g1 nw e1 wy _ _ => ?_⟩
  ·exact ⟨_,rfl,rfl,_,rfl,nF rfl (q _ g1)⟩
  ·have yl := wy.few
   exact ⟨_,rfl,rfl,_,rfl,nT (fun w => nomatch w) ⟨_,rfl,.inl ⟨rfl,_,bc.of e1⟩,l,_,_,rfl,rfl,e1,by rw [A2]; omega,q _ (em g1 nw _)⟩⟩
 ·refine ⟨_,rfl,_,rfl,L,z,nm,n,F1,rows,m,g,bs,ns,ps,es,vw,rfl,s7,n60,nz,fun cs hbf => ⟨fun k cc t cl rl p q' H1 g1 ncl hk bl nb e1 e2 e3 hRt => ?_,fun all H1 g1 => ?_⟩⟩
  ·have clen := hbf.long k cc hk
   have cfew := hbf.few s7.hU
   have kl := (A1.mp hk).1
   exact ⟨_,rfl,rfl,_,rfl,nT (fun w => nomatch w) ⟨_,rfl,t,_,_,_,rfl,rfl,cQ.of e1,rfl,.inl ⟨rfl,_,bc.of e2⟩,cl,_,_,rfl,rfl,e2,by rw [A2]; omega,q _ (em g1 ncl _)⟩⟩
  ·exact ⟨_,rfl,rfl,_,rfl,nF rfl (q _ g1)⟩
theorem wn : az ["_law_script","_law_names_here","_law_larders","_law_told","_law_cell","_law_k","_law_good"] ["_law_script"] (ap jT) := ⟨rfl,rfl,rfl,by decide +kernel,rfl,by decide +kernel,by decide +kernel⟩
set_option maxHeartbeats 4000000 in
theorem wp {dV : Value} (F : bG K "law" "law" jT dV f fd) (B : Bn K mg c_InRing c_Larder c_NoName c_NoNumber c_NoStand c_NoStandIn c_StoveError f_Z13 f_Z14 f_Z15 f_Z16 f_Z17 f_Z18 f_Z19 f_Z20 f_Z21 f_Z22) (DZ13 : dw P w K mg base aZ 1 f_Z13 ["self"] [] (fU c_Larder)) (DZ23 : Dx P w K mg base aZ 1 "_law_cell_at" ["_law_script","_law_k"] [] (lK K)) (DZ24 : Dx P w K mg base aZ 1 "_law_names" ["_law_number","_law_many"] [] ik) (DZ31 : Dx P w K mg base aZ 5 "_law_deed" ["_law_larder","_law_told","_law_names_here","_law_cell"] [] (jQ K c_Larder)) (DZ32 : Dx P w K mg base aZ 4 "_law_barred" ["_law_larder","_law_told","_law_good"] [] (eG K c_Larder)) (DZ34 : Dx P w K mg base aZ 7 "_law_right" ["_law_larder","_law_told","_law_good"] [] (ir K c_Larder)) (DZ35 : Dx P w K mg base aZ 7 "_law_look" ["_law_larder","_law_good","_law_cell"] [] (jR K c_Larder)) : a7 P w K mg base aZ 8 f fd ["_law_script"] (mL K) := by
 have sc := wn
 refine F.ok sc (fun vs H Q E h => ?_) (fun cdv A outer s H vs Q E hr h => ?_)
 ·obtain ⟨a,ns,rfl,_⟩ := h
  rfl
 obtain ⟨a,ns,rfl,hS,h63,q⟩ := h
 refine ⟨_,(ae (ar (i := 1) sc.nd rfl (Or.inl rfl) (aT DZ24 hr (by decide) rfl (aa (aT DZ23 hr (by decide) rfl (aa (pv 0) (aa am ag))) (aa (av cr am (av aV (aT DZ23 hr (by decide) rfl (aa (pv 0) (aa am ag))) am)) ag)))) (ae (ar (i := 2) sc.nd rfl (Or.inl rfl) (bw (aa (pM B.mk_Larder DZ13 hr (by decide) rfl B.m_Larder) (aa (pM B.mk_Larder DZ13 hr (by decide) rfl B.m_Larder) ag)))) (ae (ar (i := 3) sc.nd rfl (Or.inl rfl) (bw (aa (bw (aa fo (aa fo (aa bV ag)))) (aa (bw (aa fo (aa fo (aa bV ag)))) ag)))) (ae (b4 PassesOwn.never rfl (c8 (cg mI (pv 0) (cv am) (cv am))) (bz (i := 4) sc.nd rfl (Or.inl rfl)) (ae (aU (b7 (bZ (aT DZ31 hr (by decide) rfl (aa (aI aB (pv 2) (av aV (pv 4) am) (fun _ _ => rfl)) (aa (aI aB (pv 3) (av aV (pv 4) am) (fun _ _ => rfl)) (aa (pv 1) (aa (pv 4) ag))))))) (aj (aC bD)) aH) (aj (aS (aT DZ35 hr (by decide) rfl (aa (aI aB (pv 2) (av aV (av bj (pv 4) am) am) (fun _ _ => rfl)) (aa (aI aB (pv 1) (av aV (av bj (pv 4) am) (aD aW rfl B.b_len boot_len (aa (pv 1) ag))) (fun _ _ => rfl)) (aa (pv 4) ag)))))))) (ae (b4 PassesOwn.never rfl (dA rfl B.b_range (aa am ag)) (bz (i := 5) sc.nd rfl (Or.inl rfl)) (aj (b4 PassesOwn.never rfl (c8 (pv 1)) (bz (i := 6) sc.nd rfl (Or.inl rfl)) (aj (aU (PW.pt (cU (ax gH (aT DZ32 hr (by decide) rfl (aa (aI aB (pv 2) (pv 5) (fun _ _ => rfl)) (aa (aI aB (pv 3) (pv 5) (fun _ _ => rfl)) (aa (pv 6) ag)))) bR (aE _)) (dq (b7 (bZ (aT DZ34 hr (by decide) rfl (aa (aI aB (pv 2) (pv 5) (fun _ _ => rfl)) (aa (aI aB (pv 3) (pv 5) (fun _ _ => rfl)) (aa (pv 6) ag))))))))) (aj (aC bD)) aH))))) (aj (aC bD))))))),?_⟩
 have slt : (3000 : Nat) < sizeLine := by decide
 refine ⟨_,rfl,a,ns,1,rfl,hS,(by decide),fun c1 => ⟨_,rfl,a,ns,0,rfl,hS,(by decide),fun hd => ⟨_,_,rfl,rfl,(by show (11 : Int) ≠ 0; decide),_,_,rfl,rfl,?_⟩⟩⟩
 have m0 := AG hd (show (0 : Int) < 11 by decide)
 have m1 := AU hd (show (0 : Int) < 11 by decide)
 refine ⟨c1,_,rfl,(by omega),(by omega),fun ln H1 zs g1 en zl nz ndz => ?_⟩
 have z2 : 2 <= zs.length := by omega
 have z12 : zs.length <= 12 := by omega
 clear zl m0 m1 hd c1
 try dsimp only [bu,bx]
 refine cut (fun σ H' => ∃ (ll x0 x1 : Addr) (FA FB : List Addr),σ = [some (.ref a),some (.ref ln),some (.ref ll),none,none,none,none] /\ H' ll = some (.lst [.ref x0,.ref x1]) /\ LB c_Larder FA H' x0 [] 0 (fun _ _ => none) [] [] /\ LB c_Larder FB H' x1 [] 0 (fun _ _ => none) [] [] /\ (∀ y ∈ FA,y ∉ FB) /\ H' ln = some (.lst (zs.map V.str)) /\ bc K H' a (ns.map V.int)) (fun N hN => ?_) ?_
 ·skip
  intro x0 dx0 nx0 ndx0 ne0
  refine ⟨x0,dx0,rfl,ac,fun H2 FA k2 f0 lbA => ⟨rfl,?_⟩⟩
  have g2 : ay H1 H2 := fun b o e => k2 b o (fun z => by rw [z,nx0] at e; cases e) (by rw [af (fun z => by rw [z,nx0] at e; cases e),af (fun z => by rw [z,ndx0] at e; cases e)]; exact e)
  clear k2 f0 ne0 ndx0 nx0 dx0
  intro x1 dx1 nx1 ndx1 ne1
  refine ⟨x1,dx1,rfl,ac,fun H3 FB k3 f1 lbB => ⟨rfl,?_⟩⟩
  have g3 : ay H2 H3 := fun b o e => k3 b o (fun z => by rw [z,nx1] at e; cases e) (by rw [af (fun z => by rw [z,nx1] at e; cases e),af (fun z => by rw [z,ndx1] at e; cases e)]; exact e)
  have dAB : ∀ y ∈ FA,y ∉ FB := fun y h1 h2 => by
   obtain ⟨F0',dx',s',b',fs',dk',la',ex',es',eb',bd',hb',q1,q2,q3,q4,q5,q6,q7,q8,q9⟩ := lbA.ex
   obtain ⟨kv,e⟩ := q8 y h1
   have := f1 y h2
   rw [af (fun z => by rw [z,nx1] at e; cases e),af (fun z => by rw [z,ndx1] at e; cases e),e] at this
   cases this
  replace lbA := lbA.same g3
  replace hS := ((g1.trans g2).trans g3).seq hS
  replace en := (g2.trans g3) _ _ en
  clear k3 f1 ne1 ndx1 nx1 dx1 g1 g2 g3 H1 H2
  refine ⟨(by show 2 <= sizeLine; decide),fun ll nll => ?_⟩
  have gll := ak nll (.lst [.ref x0,.ref x1])
  replace en := gll _ _ en
  replace hS := gll.seq hS
  replace lbA := lbA.same gll
  replace lbB := lbB.same gll
  have ell : aq H3 ll (.lst [.ref x0,.ref x1]) ll = some (.lst [.ref x0,.ref x1]) := ac
  generalize aq H3 ll (.lst [.ref x0,.ref x1]) = G0 at gll en hS lbA lbB ell ⊢
  clear gll nll H3
  exact hN _ _ ⟨ll,x0,x1,FA,FB,rfl,ell,lbA,lbB,dAB,en,hS⟩
 clear en hS g1 H1
 rintro σ G0 ⟨ll,x0,x1,FA,FB,rfl,ell,lbA,lbB,dAB,en,hS⟩
 try dsimp only [bu,bx]
 refine cut (fun σ H' => ∃ (lt : Addr) (A9 B9 : Ld),σ = [some (.ref a),some (.ref ln),some (.ref ll),some (.ref lt),none,none,none] /\ jO K c_Larder H' zs 0 A9 B9 /\ H' ll = some (.lst [.ref A9.x,.ref B9.x]) /\ H' lt = some (.lst [.ref A9.t,.ref B9.t]) /\ H' ln = some (.lst (zs.map V.str)) /\ bc K H' a (ns.map V.int)) (fun N hN => ?_) ?_
 ·skip
  refine fun dp0 ndp0 => ?_
  have fadp0 : dp0 ∉ FA := lbA.free ndp0
  have fbdp0 : dp0 ∉ FB := lbB.free ndp0
  have gdp0 := ak ndp0 (.dT [])
  replace ell := gdp0 _ _ ell
  replace en := gdp0 _ _ en
  replace lbA := lbA.same gdp0
  replace lbB := lbB.same gdp0
  replace hS := gdp0.seq hS
  have edp0 : aq G0 dp0 (.dT []) dp0 = some (.dT []) := ac
  generalize aq G0 dp0 (.dT []) = G1 at gdp0 ell en lbA lbB hS edp0 ⊢
  clear gdp0 ndp0
  refine fun ds0 nds0 => ?_
  have ddp0_ds0 : dp0 ≠ ds0 := fun z => by rw [z,nds0] at edp0; cases edp0
  have fads0 : ds0 ∉ FA := lbA.free nds0
  have fbds0 : ds0 ∉ FB := lbB.free nds0
  have gds0 := ak nds0 (.dT [])
  replace ell := gds0 _ _ ell
  replace en := gds0 _ _ en
  replace edp0 := gds0 _ _ edp0
  replace lbA := lbA.same gds0
  replace lbB := lbB.same gds0
  replace hS := gds0.seq hS
  have eds0 : aq G1 ds0 (.dT []) ds0 = some (.dT []) := ac
  generalize aq G1 ds0 (.dT []) = G2 at gds0 ell en edp0 lbA lbB hS eds0 ⊢
  clear gds0 nds0
  refine fun db0 ndb0 => ?_
  have ddp0_db0 : dp0 ≠ db0 := fun z => by rw [z,ndb0] at edp0; cases edp0
  have dds0_db0 : ds0 ≠ db0 := fun z => by rw [z,ndb0] at eds0; cases eds0
  have fadb0 : db0 ∉ FA := lbA.free ndb0
  have fbdb0 : db0 ∉ FB := lbB.free ndb0
  have gdb0 := ak ndb0 (.dK [])
  replace ell := gdb0 _ _ ell
  replace en := gdb0 _ _ en
  replace edp0 := gdb0 _ _ edp0
  replace eds0 := gdb0 _ _ eds0
  replace lbA := lbA.same gdb0
  replace lbB := lbB.same gdb0
  replace hS := gdb0.seq hS
  have edb0 : aq G2 db0 (.dK []) db0 = some (.dK []) := ac
  generalize aq G2 db0 (.dK []) = G3 at gdb0 ell en edp0 eds0 lbA lbB hS edb0 ⊢
  clear gdb0 ndb0
  refine ⟨(by show 3 <= sizeLine; decide),fun t0 nt0 => ?_⟩
  have ddp0_t0 : dp0 ≠ t0 := fun z => by rw [z,nt0] at edp0; cases edp0
  have dds0_t0 : ds0 ≠ t0 := fun z => by rw [z,nt0] at eds0; cases eds0
  have ddb0_t0 : db0 ≠ t0 := fun z => by rw [z,nt0] at edb0; cases edb0
  have fat0 : t0 ∉ FA := lbA.free nt0
  have fbt0 : t0 ∉ FB := lbB.free nt0
  have gt0 := ak nt0 (.lst [.ref dp0,.ref ds0,.ref db0])
  replace ell := gt0 _ _ ell
  replace en := gt0 _ _ en
  replace edp0 := gt0 _ _ edp0
  replace eds0 := gt0 _ _ eds0
  replace edb0 := gt0 _ _ edb0
  replace lbA := lbA.same gt0
  replace lbB := lbB.same gt0
  replace hS := gt0.seq hS
  have et0 : aq G3 t0 (.lst [.ref dp0,.ref ds0,.ref db0]) t0 = some (.lst [.ref dp0,.ref ds0,.ref db0]) := ac
  generalize aq G3 t0 (.lst [.ref dp0,.ref ds0,.ref db0]) = G4 at gt0 ell en edp0 eds0 edb0 lbA lbB hS et0 ⊢
  clear gt0 nt0
  refine fun dp1 ndp1 => ?_
  have ddp0_dp1 : dp0 ≠ dp1 := fun z => by rw [z,ndp1] at edp0; cases edp0
  have dds0_dp1 : ds0 ≠ dp1 := fun z => by rw [z,ndp1] at eds0; cases eds0
  have ddb0_dp1 : db0 ≠ dp1 := fun z => by rw [z,ndp1] at edb0; cases edb0
  have dt0_dp1 : t0 ≠ dp1 := fun z => by rw [z,ndp1] at et0; cases et0
  have fadp1 : dp1 ∉ FA := lbA.free ndp1
  have fbdp1 : dp1 ∉ FB := lbB.free ndp1
  have gdp1 := ak ndp1 (.dT [])
  replace ell := gdp1 _ _ ell
  replace en := gdp1 _ _ en
  replace edp0 := gdp1 _ _ edp0
  replace eds0 := gdp1 _ _ eds0
  replace edb0 := gdp1 _ _ edb0
  replace et0 := gdp1 _ _ et0
  replace lbA := lbA.same gdp1
  replace lbB := lbB.same gdp1
  replace hS := gdp1.seq hS
  have edp1 : aq G4 dp1 (.dT []) dp1 = some (.dT []) := ac
  generalize aq G4 dp1 (.dT []) = G5 at gdp1 ell en edp0 eds0 edb0 et0 lbA lbB hS edp1 ⊢
  clear gdp1 ndp1
  refine fun ds1 nds1 => ?_
  have ddp0_ds1 : dp0 ≠ ds1 := fun z => by rw [z,nds1] at edp0; cases edp0
  have dds0_ds1 : ds0 ≠ ds1 := fun z => by rw [z,nds1] at eds0; cases eds0
  have ddb0_ds1 : db0 ≠ ds1 := fun z => by rw [z,nds1] at edb0; cases edb0
  have dt0_ds1 : t0 ≠ ds1 := fun z => by rw [z,nds1] at et0; cases et0
  have ddp1_ds1 : dp1 ≠ ds1 := fun z => by rw [z,nds1] at edp1; cases edp1
  have fads1 : ds1 ∉ FA := lbA.free nds1
  have fbds1 : ds1 ∉ FB := lbB.free nds1
  have gds1 := ak nds1 (.dT [])
  replace ell := gds1 _ _ ell
  replace en := gds1 _ _ en
  replace edp0 := gds1 _ _ edp0
  replace eds0 := gds1 _ _ eds0
  replace edb0 := gds1 _ _ edb0
  replace et0 := gds1 _ _ et0
  replace edp1 := gds1 _ _ edp1
  replace lbA := lbA.same gds1
  replace lbB := lbB.same gds1
  replace hS := gds1.seq hS
  have eds1 : aq G5 ds1 (.dT []) ds1 = some (.dT []) := ac
  generalize aq G5 ds1 (.dT []) = G6 at gds1 ell en edp0 eds0 edb0 et0 edp1 lbA lbB hS eds1 ⊢
  clear gds1 nds1
  refine fun db1 ndb1 => ?_
  have ddp0_db1 : dp0 ≠ db1 := fun z => by rw [z,ndb1] at edp0; cases edp0
  have dds0_db1 : ds0 ≠ db1 := fun z => by rw [z,ndb1] at eds0; cases eds0
  have ddb0_db1 : db0 ≠ db1 := fun z => by rw [z,ndb1] at edb0; cases edb0
  have dt0_db1 : t0 ≠ db1 := fun z => by rw [z,ndb1] at et0; cases et0
  have ddp1_db1 : dp1 ≠ db1 := fun z => by rw [z,ndb1] at edp1; cases edp1
  have dds1_db1 : ds1 ≠ db1 := fun z => by rw [z,ndb1] at eds1; cases eds1
  have fadb1 : db1 ∉ FA := lbA.free ndb1
  have fbdb1 : db1 ∉ FB := lbB.free ndb1
  have gdb1 := ak ndb1 (.dK [])
  replace ell := gdb1 _ _ ell
  replace en := gdb1 _ _ en
  replace edp0 := gdb1 _ _ edp0
  replace eds0 := gdb1 _ _ eds0
  replace edb0 := gdb1 _ _ edb0
  replace et0 := gdb1 _ _ et0
  replace edp1 := gdb1 _ _ edp1
  replace eds1 := gdb1 _ _ eds1
  replace lbA := lbA.same gdb1
  replace lbB := lbB.same gdb1
  replace hS := gdb1.seq hS
  have edb1 : aq G6 db1 (.dK []) db1 = some (.dK []) := ac
  generalize aq G6 db1 (.dK []) = G7 at gdb1 ell en edp0 eds0 edb0 et0 edp1 eds1 lbA lbB hS edb1 ⊢
  clear gdb1 ndb1
  refine ⟨(by show 3 <= sizeLine; decide),fun t1 nt1 => ?_⟩
  have ddp0_t1 : dp0 ≠ t1 := fun z => by rw [z,nt1] at edp0; cases edp0
  have dds0_t1 : ds0 ≠ t1 := fun z => by rw [z,nt1] at eds0; cases eds0
  have ddb0_t1 : db0 ≠ t1 := fun z => by rw [z,nt1] at edb0; cases edb0
  have dt0_t1 : t0 ≠ t1 := fun z => by rw [z,nt1] at et0; cases et0
  have ddp1_t1 : dp1 ≠ t1 := fun z => by rw [z,nt1] at edp1; cases edp1
  have dds1_t1 : ds1 ≠ t1 := fun z => by rw [z,nt1] at eds1; cases eds1
  have ddb1_t1 : db1 ≠ t1 := fun z => by rw [z,nt1] at edb1; cases edb1
  have fat1 : t1 ∉ FA := lbA.free nt1
  have fbt1 : t1 ∉ FB := lbB.free nt1
  have gt1 := ak nt1 (.lst [.ref dp1,.ref ds1,.ref db1])
  replace ell := gt1 _ _ ell
  replace en := gt1 _ _ en
  replace edp0 := gt1 _ _ edp0
  replace eds0 := gt1 _ _ eds0
  replace edb0 := gt1 _ _ edb0
  replace et0 := gt1 _ _ et0
  replace edp1 := gt1 _ _ edp1
  replace eds1 := gt1 _ _ eds1
  replace edb1 := gt1 _ _ edb1
  replace lbA := lbA.same gt1
  replace lbB := lbB.same gt1
  replace hS := gt1.seq hS
  have et1 : aq G7 t1 (.lst [.ref dp1,.ref ds1,.ref db1]) t1 = some (.lst [.ref dp1,.ref ds1,.ref db1]) := ac
  generalize aq G7 t1 (.lst [.ref dp1,.ref ds1,.ref db1]) = G8 at gt1 ell en edp0 eds0 edb0 et0 edp1 eds1 edb1 lbA lbB hS et1 ⊢
  clear gt1 nt1
  refine ⟨(by show 2 <= sizeLine; decide),fun lt nlt => ?_⟩
  have ddp0_lt : dp0 ≠ lt := fun z => by rw [z,nlt] at edp0; cases edp0
  have dds0_lt : ds0 ≠ lt := fun z => by rw [z,nlt] at eds0; cases eds0
  have ddb0_lt : db0 ≠ lt := fun z => by rw [z,nlt] at edb0; cases edb0
  have dt0_lt : t0 ≠ lt := fun z => by rw [z,nlt] at et0; cases et0
  have ddp1_lt : dp1 ≠ lt := fun z => by rw [z,nlt] at edp1; cases edp1
  have dds1_lt : ds1 ≠ lt := fun z => by rw [z,nlt] at eds1; cases eds1
  have ddb1_lt : db1 ≠ lt := fun z => by rw [z,nlt] at edb1; cases edb1
  have dt1_lt : t1 ≠ lt := fun z => by rw [z,nlt] at et1; cases et1
  have falt : lt ∉ FA := lbA.free nlt
  have fblt : lt ∉ FB := lbB.free nlt
  have glt := ak nlt (.lst [.ref t0,.ref t1])
  replace ell := glt _ _ ell
  replace en := glt _ _ en
  replace edp0 := glt _ _ edp0
  replace eds0 := glt _ _ eds0
  replace edb0 := glt _ _ edb0
  replace et0 := glt _ _ et0
  replace edp1 := glt _ _ edp1
  replace eds1 := glt _ _ eds1
  replace edb1 := glt _ _ edb1
  replace et1 := glt _ _ et1
  replace lbA := lbA.same glt
  replace lbB := lbB.same glt
  replace hS := glt.seq hS
  have elt : aq G8 lt (.lst [.ref t0,.ref t1]) lt = some (.lst [.ref t0,.ref t1]) := ac
  generalize aq G8 lt (.lst [.ref t0,.ref t1]) = G9 at glt ell en edp0 eds0 edb0 et0 edp1 eds1 edb1 et1 lbA lbB hS elt ⊢
  clear glt nlt
  have two : jO K c_Larder G9 zs 0 ⟨x0,t0,dp0,ds0,db0⟩ ⟨x1,t1,dp1,ds1,db1⟩ := by
   refine ⟨FA,FB,L7.start lbA edp0 eds0 edb0 et0 fadb0 ddp0_ds0 z12,L7.start lbB edp1 eds1 edb1 et1 fbdb1 ddp1_ds1 z12,fun y h1 h2 => ?_⟩
   simp only [Ow,A8] at h1 h2
   rcases h1 with rfl | rfl | rfl | h1 <;> rcases h2 with h2 | h2 | h2 | h2
   ·exact ddp0_dp1 h2
   ·exact ddp0_ds1 h2
   ·exact ddp0_db1 h2
   ·exact fbdp0 h2
   ·exact dds0_dp1 h2
   ·exact dds0_ds1 h2
   ·exact dds0_db1 h2
   ·exact fbds0 h2
   ·exact ddb0_dp1 h2
   ·exact ddb0_ds1 h2
   ·exact ddb0_db1 h2
   ·exact fbdb0 h2
   ·exact fadp1 (by rw [<- h2]; exact h1)
   ·exact fads1 (by rw [<- h2]; exact h1)
   ·exact fadb1 (by rw [<- h2]; exact h1)
   ·exact dAB y h1 h2
  exact hN _ _ ⟨lt,_,_,rfl,two,ell,elt,en,hS⟩
 clear en hS ell lbA lbB dAB G0 FA FB x0 x1
 rintro σ G9 ⟨lt,A9,B9,rfl,two9,ell9,elt9,en,hS⟩
 have zl : (zs.map V.str).length = zs.length := A2 _
 have zp : (0 : Int) < ((zs.map V.str).length : Int) := by omega
 have zn : ((zs.map V.str).length : Int) ≠ 0 := by omega
 have i0 : ∀ e : Int,0 <= e.fmod ((zs.map V.str).length : Int) /\ e.fmod ((zs.map V.str).length : Int) < (zs.length : Int) := fun e => ⟨AG _ zp,by have := AU e zp; omega⟩
 have j0 : ∀ e : Int,0 <= e.fmod 2 /\ e.fmod 2 < 2 := fun e => ⟨AG _ (by decide),AU _ (by decide)⟩
 try dsimp only [bu,bx]
 refine cut (fun σ H' => ∃ (N : Nat) (o4 : Option V),σ = [some (.ref a),some (.ref ln),some (.ref ll),some (.ref lt),o4,none,none] /\ jO K c_Larder H' zs N A9 B9 /\ N <= 60 /\ H' ln = some (.lst (zs.map V.str)) /\ H' ll = some (.lst [.ref A9.x,.ref B9.x]) /\ H' lt = some (.lst [.ref A9.t,.ref B9.t])) (fun N hN => ?_) ?_
 ·refine ⟨_,rfl,_,rfl,_,rfl,a,_,rfl,hS,fun ls nls => ⟨ls,rfl,⟨_,bc.of ac⟩,?_⟩⟩
  have cl := vo ns
  have ci : ∀ v ∈ iw (ns.map V.int) (some 2) (some 62),∃ c : Int,v = .int c := fun v hv => by
   obtain ⟨c,_,e⟩ := AF.mp (List.mem_of_mem_drop (List.mem_of_mem_take hv))
   exact ⟨c,e.symm⟩
  generalize iw (ns.map V.int) (some 2) (some 62) = cells at cl ci
  have g4 := ak nls (.lst cells)
  refine dB (xs := cells) (fun i σ H' => H' ls = some (.lst cells) /\ H' ln = some (.lst (zs.map V.str)) /\ H' ll = some (.lst [.ref A9.x,.ref B9.x]) /\ H' lt = some (.lst [.ref A9.t,.ref B9.t]) /\ jO K c_Larder H' zs i A9 B9 /\ ∃ o4 : Option V,σ = [some (.ref a),some (.ref ln),some (.ref ll),some (.ref lt),o4,none,none]) ⟨ac,g4 _ _ en,g4 _ _ ell9,g4 _ _ elt9,two9.same g4,none,rfl⟩ (fun i σ H' _ h => bc.of h.1) ?_ ?_
  ·rintro i v σ H4 hv ⟨el,en4,ell4,elt4,two4,o4,rfl⟩
   have il := (A1.mp hv).1
   obtain ⟨c,rfl⟩ := ci v (AB hv)
   obtain ⟨P,FP,hx,ht,l7P,back⟩ := two4.pick (j0 c).1 (j0 c).2
   refine ⟨_,rfl,_,rfl,_,_,rfl,rfl,(by show (2 : Int) ≠ 0; decide),ll,_,_,_,rfl,rfl,bc.of ell4,hx,_,rfl,_,rfl,_,_,rfl,rfl,(by show (2 : Int) ≠ 0; decide),lt,_,_,_,rfl,rfl,bc.of elt4,ht,_,rfl,_,rfl,P,ln,c,zs,i,FP,rfl,l7P,by omega,en4,z2,nz,fun H5 F5 k5 fg l75 => ⟨true,rfl,bM ?_⟩⟩
   have two5 := back H5 F5 k5 fg l75
   have kd := l7P.kd k5
   have el5 := kd _ _ (fun _ z => by cases z) (fun _ z => by cases z) el
   have en5 := kd _ _ (fun _ z => by cases z) (fun _ z => by cases z) en4
   have ell5 := kd _ _ (fun _ z => by cases z) (fun _ z => by cases z) ell4
   have elt5 := kd _ _ (fun _ z => by cases z) (fun _ z => by cases z) elt4
   obtain ⟨zg,eg,gin⟩ := hW (i0 (c.fdiv 5)).1 (i0 (c.fdiv 5)).2
   obtain ⟨P2,F2,hx2,ht2,l72,_⟩ := two5.pick (j0 (c.fdiv 3)).1 (j0 (c.fdiv 3)).2
   try dsimp only [bu,bx]
   exact ⟨_,rfl,_,rfl,_,_,rfl,rfl,⟨by decide,AM (by decide)⟩,_,_,rfl,rfl,(by show (2 : Int) ≠ 0; decide),ll,_,_,_,rfl,rfl,bc.of ell5,hx2,_,rfl,_,rfl,_,_,rfl,rfl,⟨by decide,AM (by decide)⟩,_,rfl,ln,_,rfl,.inl (bc.of en5),_,_,rfl,rfl,zn,ln,_,_,_,rfl,rfl,bc.of en5,eg,_,rfl,P2,zg,c,zs,i + 1,F2,rfl,l72,by omega,nz zg gin,fun H6 g6 => ⟨g6 _ _ el5,g6 _ _ en5,g6 _ _ ell5,g6 _ _ elt5,two5.same g6,_,rfl⟩⟩
  ·rintro σ H4 ⟨el,en4,ell4,elt4,two4,o4,rfl⟩
   exact hN _ _ ⟨_,o4,rfl,two4,cl,en4,ell4,elt4⟩
 clear two9 ell9 elt9 en hS G9
 rintro σ H3 ⟨N,o4,rfl,two3,N60,en3,ell3,elt3⟩
 refine cut (fun σ H' => True) (fun N' hN' => ?_) (fun σ H' _ => q _)
 refine ⟨2,rfl,(by decide),(by decide),dC (fun k σ H' => H' ln = some (.lst (zs.map V.str)) /\ H' ll = some (.lst [.ref A9.x,.ref B9.x]) /\ H' lt = some (.lst [.ref A9.t,.ref B9.t]) /\ jO K c_Larder H' zs N A9 B9 /\ ∃ o5 o6 : Option V,σ = [some (.ref a),some (.ref ln),some (.ref ll),some (.ref lt),o4,o5,o6]) ⟨en3,ell3,elt3,two3,none,none,rfl⟩ ?_ (fun σ H' _ => hN' _ _ trivial)⟩
 rintro k σ H4 hk ⟨en4,ell4,elt4,two4,o5,o6,rfl⟩
 have k2 : k < 2 := hk
 refine ⟨_,rfl,ln,rfl,⟨_,bc.of en4⟩,dB (xs := zs.map V.str) (fun i σ H' => H' ln = some (.lst (zs.map V.str)) /\ H' ll = some (.lst [.ref A9.x,.ref B9.x]) /\ H' lt = some (.lst [.ref A9.t,.ref B9.t]) /\ jO K c_Larder H' zs N A9 B9 /\ ∃ o6 : Option V,σ = [some (.ref a),some (.ref ln),some (.ref ll),some (.ref lt),o4,some (.int (0 + (k : Int))),o6]) ⟨en4,ell4,elt4,two4,o6,rfl⟩ (fun i σ H' _ h => bc.of h.1) ?_ ?_⟩
 ·rintro i v σ H5 hv ⟨en5,ell5,elt5,two5,o6,rfl⟩
  rw [AI] at hv
  cases hz : zs[i]? with
  | none => rw [hz] at hv; cases hv
  | some z =>
   rw [hz] at hv
   cases hv
   obtain ⟨P,F9,hx,ht,l7P,_⟩ := two5.pick (e := 0 + (k : Int)) (by omega) (by omega)
   obtain ⟨rows,m,g,bs,ns',ps,es,vw,s7⟩ := l7P.2
   refine ⟨_,rfl,_,rfl,ll,_,_,_,rfl,rfl,bc.of ell5,hx,_,rfl,_,rfl,lt,_,_,_,rfl,rfl,bc.of elt5,ht,_,rfl,P,z,zs,N,F9,rows,m,g,bs,ns',ps,es,vw,rfl,l7P.1,s7,nz z (AB hz),fun H6 g6 _ => ?_,fun H6 g6 _ => ?_⟩
   ·exact ⟨rfl,_,rfl,dF (fun w => nomatch w) ⟨_,rfl,_,rfl,ll,_,_,_,rfl,rfl,bc.of (g6 _ _ ell5),hx,_,rfl,_,rfl,lt,_,_,_,rfl,rfl,bc.of (g6 _ _ elt5),ht,_,rfl,P,z,zs,N,F9,rfl,l7P.same g6,N60,nz z (AB hz),fun H7 g7 => ⟨true,rfl,bM ⟨(g6.trans g7) _ _ en5,(g6.trans g7) _ _ ell5,(g6.trans g7) _ _ elt5,two5.same (g6.trans g7),_,rfl⟩⟩⟩⟩
   ·exact ⟨rfl,_,rfl,dF (fun w => nomatch w) ⟨_,rfl,_,rfl,ll,_,_,_,rfl,rfl,bc.of (g6 _ _ ell5),hx,_,rfl,_,rfl,lt,_,_,_,rfl,rfl,bc.of (g6 _ _ elt5),ht,_,rfl,P,z,zs,N,F9,rfl,l7P.same g6,N60,nz z (AB hz),fun H7 g7 => ⟨true,rfl,bM ⟨(g6.trans g7) _ _ en5,(g6.trans g7) _ _ ell5,(g6.trans g7) _ _ elt5,two5.same (g6.trans g7),_,rfl⟩⟩⟩⟩
 ·rintro σ H5 ⟨en5,ell5,elt5,two5,o6,rfl⟩
  exact ⟨en5,ell5,elt5,two5,_,_,rfl⟩
end
abbrev FnAt (K : A0) (f : Addr) (n q : Str) (st : Stmt) (dV : Value) : Prop := ∃ (oc : Value) (od : Option Addr) (kV dc pm : Value) (an : Option Addr) (cd ct : Value) (sl : Array (Option Value)),K.lookup f = some ⟨oc,od,.func (Al n q (cy st) (b6 st) (ap st) dV kV dc pm an cd ct),sl⟩ /\ B5 K cd q = true /\ Aj K (.ref f) = true
set_option maxHeartbeats 4000000 in
theorem ux {l : PySem.W.OpenLaw} {w : World} {K : A0} {h : Heap} {mg : Str -> Option Value} {fa fZ0 fZ2 fZ3 fis_Z3 fZ5 fZ6 fZ7 fZ8 fZ9 fZ10 fZ11 fZ12 fZ23 fZ24 fZ25 fZ26 fZ27 fZ28 fZ29 fZ30 fZ31 fZ32 fZ33 fZ34 fZ35 flaw c_InRing c_Larder c_NoName c_NoNumber c_NoStand c_NoStandIn c_StoveError f_Z13 f_Z14 f_Z15 f_Z16 f_Z17 f_Z18 f_Z19 f_Z20 f_Z21 f_Z22 f_NoStandIn f_InRing : Addr} (X : K.In h) (G : h.Ns mainGlobals mg) (hfa : mg "law" = some (.ref fa))
  {od_NoStandIn an_NoStandIn od_InRing an_InRing odlaw anlaw : Option Addr} {sl_NoStandIn sl_InRing sllaw : Array (Option Value)} {oc_NoStandIn kV_NoStandIn dc_NoStandIn pm_NoStandIn cd_NoStandIn ct_NoStandIn oc_InRing kV_InRing dc_InRing pm_InRing cd_InRing ct_InRing oclaw kVlaw dclaw pmlaw cdlaw ctlaw : Value}
  {tk_LETTERS : Tok}
  {tk_MOST_LETTERS : Tok}
  {tk_MOST_NAMES : Tok}
  {TZ3 : Addr} {ToZ3 : Value} {TdZ3 : Option Addr} {TnZ3 : Nat} {TsZ3 : Array (Option Value)} {TtZ3 : Tok}
  {TZ21 : Addr} {ToZ21 : Value} {TdZ21 : Option Addr} {TnZ21 : Nat} {TsZ21 : Array (Option Value)}
  (aZ0 : A7 K mainGlobals "is_whole" = some (some (.ref fZ0)))
  (qZ0 : FnAt K fZ0 "is_whole" "is_whole" wF .none)
  (aZ2 : A7 K mainGlobals "divisor" = some (some (.ref fZ2)))
  (qZ2 : FnAt K fZ2 "divisor" "divisor" wG .none)
  (aZ3 : A7 K mainGlobals "fraction" = some (some (.ref fZ3)))
  (qZ3 : FnAt K fZ3 "fraction" "fraction" wH (.ref TZ3))
  (ais_Z3 : A7 K mainGlobals "is_fraction" = some (some (.ref fis_Z3)))
  (qis_Z3 : FnAt K fis_Z3 "is_fraction" "is_fraction" jS .none)
  (aZ5 : A7 K mainGlobals "product" = some (some (.ref fZ5)))
  (qZ5 : FnAt K fZ5 "product" "product" wI .none)
  (aZ6 : A7 K mainGlobals "ways_out" = some (some (.ref fZ6)))
  (qZ6 : FnAt K fZ6 "ways_out" "ways_out" wJ .none)
  (aZ7 : A7 K mainGlobals "is_name" = some (some (.ref fZ7)))
  (qZ7 : FnAt K fZ7 "is_name" "is_name" wK .none)
  (aZ8 : A7 K mainGlobals "refuse_no_names" = some (some (.ref fZ8)))
  (qZ8 : FnAt K fZ8 "refuse_no_names" "refuse_no_names" wL .none)
  (aZ9 : A7 K mainGlobals "names_ahead" = some (some (.ref fZ9)))
  (qZ9 : FnAt K fZ9 "names_ahead" "names_ahead" wM .none)
  (aZ10 : A7 K mainGlobals "chain_to" = some (some (.ref fZ10)))
  (qZ10 : FnAt K fZ10 "chain_to" "chain_to" si .none)
  (aZ11 : A7 K mainGlobals "chain_down" = some (some (.ref fZ11)))
  (qZ11 : FnAt K fZ11 "chain_down" "chain_down" sj .none)
  (aZ12 : A7 K mainGlobals "all_inside" = some (some (.ref fZ12)))
  (qZ12 : FnAt K fZ12 "all_inside" "all_inside" sk .none)
  (aZ23 : A7 K mainGlobals "_law_cell_at" = some (some (.ref fZ23)))
  (qZ23 : FnAt K fZ23 "_law_cell_at" "_law_cell_at" sD .none)
  (aZ24 : A7 K mainGlobals "_law_names" = some (some (.ref fZ24)))
  (qZ24 : FnAt K fZ24 "_law_names" "_law_names" sE .none)
  (aZ25 : A7 K mainGlobals "_law_divisor_of" = some (some (.ref fZ25)))
  (qZ25 : FnAt K fZ25 "_law_divisor_of" "_law_divisor_of" sG .none)
  (aZ26 : A7 K mainGlobals "_law_lowest" = some (some (.ref fZ26)))
  (qZ26 : FnAt K fZ26 "_law_lowest" "_law_lowest" sH .none)
  (aZ27 : A7 K mainGlobals "_law_ratio" = some (some (.ref fZ27)))
  (qZ27 : FnAt K fZ27 "_law_ratio" "_law_ratio" sI .none)
  (aZ28 : A7 K mainGlobals "_law_led_to" = some (some (.ref fZ28)))
  (qZ28 : FnAt K fZ28 "_law_led_to" "_law_led_to" sJ .none)
  (aZ29 : A7 K mainGlobals "_law_part" = some (some (.ref fZ29)))
  (qZ29 : FnAt K fZ29 "_law_part" "_law_part" sK .none)
  (aZ30 : A7 K mainGlobals "_law_stand" = some (some (.ref fZ30)))
  (qZ30 : FnAt K fZ30 "_law_stand" "_law_stand" sM .none)
  (aZ31 : A7 K mainGlobals "_law_deed" = some (some (.ref fZ31)))
  (qZ31 : FnAt K fZ31 "_law_deed" "_law_deed" sN .none)
  (aZ32 : A7 K mainGlobals "_law_barred" = some (some (.ref fZ32)))
  (qZ32 : FnAt K fZ32 "_law_barred" "_law_barred" sO .none)
  (aZ33 : A7 K mainGlobals "_law_asked" = some (some (.ref fZ33)))
  (qZ33 : FnAt K fZ33 "_law_asked" "_law_asked" sP .none)
  (aZ34 : A7 K mainGlobals "_law_right" = some (some (.ref fZ34)))
  (qZ34 : FnAt K fZ34 "_law_right" "_law_right" sQ .none)
  (aZ35 : A7 K mainGlobals "_law_look" = some (some (.ref fZ35)))
  (qZ35 : FnAt K fZ35 "_law_look" "_law_look" sR .none)
  (alaw : A7 K mainGlobals "law" = some (some (.ref flaw)))
  (llaw : K.lookup flaw = some ⟨oclaw,odlaw,.func (Al "law" "law" (cy jT) (b6 jT) (ap jT) .none kVlaw dclaw pmlaw anlaw cdlaw ctlaw),sllaw⟩) (claw : B5 K cdlaw "law" = true) (klaw : Aj K (.ref flaw) = true)
  (zg_LETTERS : A7 K mainGlobals "LETTERS" = some (some (.str "abcdefghijklmnopqrstuvwxyz" tk_LETTERS)))
  (zg_MOST_LETTERS : A7 K mainGlobals "MOST_LETTERS" = some (some (.int 12 tk_MOST_LETTERS)))
  (zg_MOST_NAMES : A7 K mainGlobals "MOST_NAMES" = some (some (.int 80 tk_MOST_NAMES)))
  (zb_abs : A7 K mainGlobals "abs" = some none)
  (zb_bool : A7 K mainGlobals "bool" = some none)
  (zb_int : A7 K mainGlobals "int" = some none)
  (zb_isinstance : A7 K mainGlobals "isinstance" = some none)
  (zb_len : A7 K mainGlobals "len" = some none)
  (zb_list : A7 K mainGlobals "list" = some none)
  (zb_range : A7 K mainGlobals "range" = some none)
  (zb_reversed : A7 K mainGlobals "reversed" = some none)
  (zb_sorted : A7 K mainGlobals "sorted" = some none)
  (zb_str : A7 K mainGlobals "str" = some none)
  (zb_tuple : A7 K mainGlobals "tuple" = some none)
  (zm_InRing : A7 K mainGlobals "InRing" = some (some (.ref c_InRing)))
  (zm_Larder : A7 K mainGlobals "Larder" = some (some (.ref c_Larder)))
  (zm_NoName : A7 K mainGlobals "NoName" = some (some (.ref c_NoName)))
  (zm_NoNumber : A7 K mainGlobals "NoNumber" = some (some (.ref c_NoNumber)))
  (zm_NoStand : A7 K mainGlobals "NoStand" = some (some (.ref c_NoStand)))
  (zm_NoStandIn : A7 K mainGlobals "NoStandIn" = some (some (.ref c_NoStandIn)))
  (zm_StoveError : A7 K mainGlobals "StoveError" = some (some (.ref c_StoveError)))
  (atZ13 : AE K (.ref c_Larder) "__init__" = some (some (.ref f_Z13)))
  (qZ13 : FnAt K f_Z13 "__init__" "Larder.__init__" sq .none)
  (atZ14 : AE K (.ref c_Larder) "learn" = some (some (.ref f_Z14)))
  (qZ14 : FnAt K f_Z14 "learn" "Larder.learn" ss .none)
  (atZ15 : AE K (.ref c_Larder) "known" = some (some (.ref f_Z15)))
  (qZ15 : FnAt K f_Z15 "known" "Larder.known" su .none)
  (atZ16 : AE K (.ref c_Larder) "part" = some (some (.ref f_Z16)))
  (qZ16 : FnAt K f_Z16 "part" "Larder.part" sv .none)
  (atZ17 : AE K (.ref c_Larder) "held" = some (some (.ref f_Z17)))
  (qZ17 : FnAt K f_Z17 "held" "Larder.held" sw .none)
  (atZ18 : AE K (.ref c_Larder) "barred" = some (some (.ref f_Z18)))
  (qZ18 : FnAt K f_Z18 "barred" "Larder.barred" sx .none)
  (atZ19 : AE K (.ref c_Larder) "bar" = some (some (.ref f_Z19)))
  (qZ19 : FnAt K f_Z19 "bar" "Larder.bar" sy .none)
  (atZ20 : AE K (.ref c_Larder) "allow" = some (some (.ref f_Z20)))
  (qZ20 : FnAt K f_Z20 "allow" "Larder.allow" sA .none)
  (atZ21 : AE K (.ref c_Larder) "stand" = some (some (.ref f_Z21)))
  (qZ21 : FnAt K f_Z21 "stand" "Larder.stand" sB (.ref TZ21))
  (atZ22 : AE K (.ref c_Larder) "stand_in" = some (some (.ref f_Z22)))
  (qZ22 : FnAt K f_Z22 "stand_in" "Larder.stand_in" sC .none)
  (dZ3 : K.lookup TZ3 = some ⟨ToZ3,TdZ3,.seq #[.int 1 TtZ3] TnZ3,TsZ3⟩)
  (dZ21 : K.lookup TZ21 = some ⟨ToZ21,TdZ21,.seq #[.none] TnZ21,TsZ21⟩)
  (zx_NoName : B2 K c_NoName oB "ValueError.__new__" = true)
  (zi_NoName : XI K c_NoName)
  (zx_NoStand : B2 K c_NoStand oB "ValueError.__new__" = true)
  (zi_NoStand : XI K c_NoStand)
  (zx_NoNumber : B2 K c_NoNumber oB "ValueError.__new__" = true)
  (zi_NoNumber : XI K c_NoNumber)
  (zt_InRing : XT K c_InRing)
  (zt_NoStand : XT K c_NoStand)
  (zt_NoStandIn : XT K c_NoStandIn)
  (zs_NoStandIn_NoStandIn : B1 K (.ref c_NoStandIn) (.ref c_NoStandIn) = some true)
  (zs_InRing_InRing : B1 K (.ref c_InRing) (.ref c_InRing) = some true)
  (zs_NoStand_NoStand : B1 K (.ref c_NoStand) (.ref c_NoStand) = some true)
  (za_NoStandIn : XA K c_NoStandIn c_StoveError)
  (zn_NoStandIn : AE K (.ref c_NoStandIn) "good" = some none)
  (za_InRing : XA K c_InRing c_StoveError)
  (zn_InRing : AE K (.ref c_InRing) "ring" = some none)
  (zi_NoStandIn : XI K c_NoStandIn)
  (zi_InRing : XI K c_InRing)
  (zcl_Larder : mE K c_Larder)
  (zmk_Larder : Mk K c_Larder f_Z13)
  (zme_Z16 : cV K c_Larder "part" f_Z16)
  (zme_Z21 : cV K c_Larder "stand" f_Z21)
  (zme_Z19 : cV K c_Larder "bar" f_Z19)
  (zme_Z20 : cV K c_Larder "allow" f_Z20)
  (zme_Z15 : cV K c_Larder "known" f_Z15)
  (zme_Z17 : cV K c_Larder "held" f_Z17)
  (zme_Z18 : cV K c_Larder "barred" f_Z18)
  (zme_Z22 : cV K c_Larder "stand_in" f_Z22)
  (zme_Z14 : cV K c_Larder "learn" f_Z14)
  (zna_Larder_parts : bS K c_Larder "parts")
  (zna_Larder_stands : bS K c_Larder "stands")
  (zna_Larder_bars : bS K c_Larder "bars")
  (zna_Larder_names : bS K c_Larder "names")
  (ci_NoStandIn : u7 K c_NoStandIn f_NoStandIn)
  (l_NoStandIn : K.lookup f_NoStandIn = some ⟨oc_NoStandIn,od_NoStandIn,.func (Al "__init__" "NoStandIn.__init__" (cy ce) (b6 ce) (ap ce) .none kV_NoStandIn dc_NoStandIn pm_NoStandIn an_NoStandIn cd_NoStandIn ct_NoStandIn),sl_NoStandIn⟩) (cc_NoStandIn : B5 K cd_NoStandIn "NoStandIn.__init__" = true) (k_NoStandIn : Aj K (.ref f_NoStandIn) = true)
  (ci_InRing : u7 K c_InRing f_InRing)
  (l_InRing : K.lookup f_InRing = some ⟨oc_InRing,od_InRing,.func (Al "__init__" "InRing.__init__" (cy dL) (b6 dL) (ap dL) .none kV_InRing dc_InRing pm_InRing an_InRing cd_InRing ct_InRing),sl_InRing⟩) (cc_InRing : B5 K cd_InRing "InRing.__init__" = true) (k_InRing : Aj K (.ref f_InRing) = true)
  : ∃ fd : FuncData,(∀ (s : Shared) (v : Value),BindsTo s fd ⟨[v],[]⟩ [("_law_script",v)]) /\ ∀ base : Heap,K.In base -> base.Ns mainGlobals mg -> a7 l.prog w K mg base aZ 8 fa fd ["_law_script"] (mL K) := by
 have e := hfa.symm.trans (AA X G alaw)
 cases e
 have B : Bn K mg c_InRing c_Larder c_NoName c_NoNumber c_NoStand c_NoStandIn c_StoveError f_Z13 f_Z14 f_Z15 f_Z16 f_Z17 f_Z18 f_Z19 f_Z20 f_Z21 f_Z22 := ⟨Exists.intro _ <| AA X G zg_LETTERS,Exists.intro _ <| AA X G zg_MOST_LETTERS,Exists.intro _ <| AA X G zg_MOST_NAMES,Ae X G zb_abs,Ae X G zb_bool,Ae X G zb_int,Ae X G zb_isinstance,Ae X G zb_len,Ae X G zb_list,Ae X G zb_range,Ae X G zb_reversed,Ae X G zb_sorted,Ae X G zb_str,Ae X G zb_tuple,AA X G zm_InRing,AA X G zm_Larder,AA X G zm_NoName,AA X G zm_NoNumber,AA X G zm_NoStand,AA X G zm_NoStandIn,AA X G zm_StoveError,zx_NoName,zi_NoName,zx_NoStand,zi_NoStand,zx_NoNumber,zi_NoNumber,zt_InRing,zt_NoStand,zt_NoStandIn,zs_NoStandIn_NoStandIn,zs_InRing_InRing,zs_NoStand_NoStand,za_NoStandIn,zn_NoStandIn,za_InRing,zn_InRing,zi_NoStandIn,zi_InRing,zcl_Larder,zmk_Larder,zme_Z16,zme_Z21,zme_Z19,zme_Z20,zme_Z15,zme_Z17,zme_Z18,zme_Z22,zme_Z14,zna_Larder_parts,zna_Larder_stands,zna_Larder_bars,zna_Larder_names⟩
 obtain ⟨_,_,_,_,_,_,_,_,_,lZ0,cZ0,kZ0⟩ := qZ0
 obtain ⟨_,_,_,_,_,_,_,_,_,lZ2,cZ2,kZ2⟩ := qZ2
 obtain ⟨_,_,_,_,_,_,_,_,_,lZ3,cZ3,kZ3⟩ := qZ3
 obtain ⟨_,_,_,_,_,_,_,_,_,lis_Z3,cis_Z3,kis_Z3⟩ := qis_Z3
 obtain ⟨_,_,_,_,_,_,_,_,_,lZ5,cZ5,kZ5⟩ := qZ5
 obtain ⟨_,_,_,_,_,_,_,_,_,lZ6,cZ6,kZ6⟩ := qZ6
 obtain ⟨_,_,_,_,_,_,_,_,_,lZ7,cZ7,kZ7⟩ := qZ7
 obtain ⟨_,_,_,_,_,_,_,_,_,lZ8,cZ8,kZ8⟩ := qZ8
 obtain ⟨_,_,_,_,_,_,_,_,_,lZ9,cZ9,kZ9⟩ := qZ9
 obtain ⟨_,_,_,_,_,_,_,_,_,lZ10,cZ10,kZ10⟩ := qZ10
 obtain ⟨_,_,_,_,_,_,_,_,_,lZ11,cZ11,kZ11⟩ := qZ11
 obtain ⟨_,_,_,_,_,_,_,_,_,lZ12,cZ12,kZ12⟩ := qZ12
 obtain ⟨_,_,_,_,_,_,_,_,_,lZ23,cZ23,kZ23⟩ := qZ23
 obtain ⟨_,_,_,_,_,_,_,_,_,lZ24,cZ24,kZ24⟩ := qZ24
 obtain ⟨_,_,_,_,_,_,_,_,_,lZ25,cZ25,kZ25⟩ := qZ25
 obtain ⟨_,_,_,_,_,_,_,_,_,lZ26,cZ26,kZ26⟩ := qZ26
 obtain ⟨_,_,_,_,_,_,_,_,_,lZ27,cZ27,kZ27⟩ := qZ27
 obtain ⟨_,_,_,_,_,_,_,_,_,lZ28,cZ28,kZ28⟩ := qZ28
 obtain ⟨_,_,_,_,_,_,_,_,_,lZ29,cZ29,kZ29⟩ := qZ29
 obtain ⟨_,_,_,_,_,_,_,_,_,lZ30,cZ30,kZ30⟩ := qZ30
 obtain ⟨_,_,_,_,_,_,_,_,_,lZ31,cZ31,kZ31⟩ := qZ31
 obtain ⟨_,_,_,_,_,_,_,_,_,lZ32,cZ32,kZ32⟩ := qZ32
 obtain ⟨_,_,_,_,_,_,_,_,_,lZ33,cZ33,kZ33⟩ := qZ33
 obtain ⟨_,_,_,_,_,_,_,_,_,lZ34,cZ34,kZ34⟩ := qZ34
 obtain ⟨_,_,_,_,_,_,_,_,_,lZ35,cZ35,kZ35⟩ := qZ35
 obtain ⟨_,_,_,_,_,_,_,_,_,lZ13,cZ13,kZ13⟩ := qZ13
 obtain ⟨_,_,_,_,_,_,_,_,_,lZ14,cZ14,kZ14⟩ := qZ14
 obtain ⟨_,_,_,_,_,_,_,_,_,lZ15,cZ15,kZ15⟩ := qZ15
 obtain ⟨_,_,_,_,_,_,_,_,_,lZ16,cZ16,kZ16⟩ := qZ16
 obtain ⟨_,_,_,_,_,_,_,_,_,lZ17,cZ17,kZ17⟩ := qZ17
 obtain ⟨_,_,_,_,_,_,_,_,_,lZ18,cZ18,kZ18⟩ := qZ18
 obtain ⟨_,_,_,_,_,_,_,_,_,lZ19,cZ19,kZ19⟩ := qZ19
 obtain ⟨_,_,_,_,_,_,_,_,_,lZ20,cZ20,kZ20⟩ := qZ20
 obtain ⟨_,_,_,_,_,_,_,_,_,lZ21,cZ21,kZ21⟩ := qZ21
 obtain ⟨_,_,_,_,_,_,_,_,_,lZ22,cZ22,kZ22⟩ := qZ22
 have FZ0 := aG (st := wF) lZ0 cZ0 kZ0
 have FZ1 := aG (st := xL) lZ0 cZ0 kZ0
 have FZ2 := aG (st := wG) lZ2 cZ2 kZ2
 have FZ3 := aG (st := wH) lZ3 cZ3 kZ3
 have Fis_Z3 := aG (st := jS) lis_Z3 cis_Z3 kis_Z3
 have FZ5 := aG (st := wI) lZ5 cZ5 kZ5
 have FZ6 := aG (st := wJ) lZ6 cZ6 kZ6
 have FZ7 := aG (st := wK) lZ7 cZ7 kZ7
 have FZ8 := aG (st := wL) lZ8 cZ8 kZ8
 have FZ9 := aG (st := wM) lZ9 cZ9 kZ9
 have FZ10 := aG (st := si) lZ10 cZ10 kZ10
 have FZ11 := aG (st := sj) lZ11 cZ11 kZ11
 have FZ12 := aG (st := sk) lZ12 cZ12 kZ12
 have FZ13 := aG (st := sq) lZ13 cZ13 kZ13
 have FZ14 := aG (st := ss) lZ14 cZ14 kZ14
 have FZ15 := aG (st := su) lZ15 cZ15 kZ15
 have FZ16 := aG (st := sv) lZ16 cZ16 kZ16
 have FZ17 := aG (st := sw) lZ17 cZ17 kZ17
 have FZ18 := aG (st := sx) lZ18 cZ18 kZ18
 have FZ19 := aG (st := sy) lZ19 cZ19 kZ19
 have FZ20 := aG (st := sA) lZ20 cZ20 kZ20
 have FZ21 := aG (st := sB) lZ21 cZ21 kZ21
 have FZ22 := aG (st := sC) lZ22 cZ22 kZ22
 have FZ23 := aG (st := sD) lZ23 cZ23 kZ23
 have FZ24 := aG (st := sE) lZ24 cZ24 kZ24
 have FZ25 := aG (st := sG) lZ25 cZ25 kZ25
 have FZ26 := aG (st := sH) lZ26 cZ26 kZ26
 have FZ27 := aG (st := sI) lZ27 cZ27 kZ27
 have FZ28 := aG (st := sJ) lZ28 cZ28 kZ28
 have FZ29 := aG (st := sK) lZ29 cZ29 kZ29
 have FZ30 := aG (st := sM) lZ30 cZ30 kZ30
 have FZ31 := aG (st := sN) lZ31 cZ31 kZ31
 have FZ32 := aG (st := sO) lZ32 cZ32 kZ32
 have FZ33 := aG (st := sP) lZ33 cZ33 kZ33
 have FZ34 := aG (st := sQ) lZ34 cZ34 kZ34
 have FZ35 := aG (st := sR) lZ35 cZ35 kZ35
 have Flaw := aG (st := jT) llaw claw klaw
 have F_NoStandIn := aG (st := ce) l_NoStandIn cc_NoStandIn k_NoStandIn
 have F_InRing := aG (st := dL) l_InRing cc_InRing k_InRing
 refine ⟨Al "law" "law" (cy jT) (b6 jT) (ap jT) .none kVlaw dclaw pmlaw anlaw cdlaw ctlaw,?bind,fun base _ _ => ?ok⟩
 case bind => exact fun s v => .of_eq rfl
 case ok =>
  have I_NoStandIn : u8 l.prog w K mg base 1 c_NoStandIn ["self","good"] (eT c_NoStandIn "good") := ⟨f_NoStandIn,_,jV F_NoStandIn B,ci_NoStandIn,F_NoStandIn.binds0 (ps := ["self","good"]) fun _ _ _ _ _ _ us hl => match us,hl with | [_,_],_ => rfl⟩
  have I_InRing : u8 l.prog w K mg base 1 c_InRing ["self","ring"] (eT c_InRing "ring") := ⟨f_InRing,_,oA F_InRing B,ci_InRing,F_InRing.binds0 (ps := ["self","ring"]) fun _ _ _ _ _ _ us hl => match us,hl with | [_,_],_ => rfl⟩
  have bZ0 := FZ0.binds0 (ps := ["thing"]) fun _ _ _ _ _ _ us hl => match us,hl with | [_],_ => rfl
  have DZ0 : Dx l.prog w K mg base aZ 1 "is_whole" ["thing"] [] jr := ⟨fZ0,_,xN FZ0 B ,AA X G aZ0,kZ0,bZ0,⟨[],bZ0,.nil⟩⟩
  have bZ1 := FZ1.binds0 (ps := ["thing"]) fun _ _ _ _ _ _ us hl => match us,hl with | [_],_ => rfl
  have DZ1 : Dx l.prog w K mg base aZ 1 "is_whole" ["thing"] [] (uc K) := ⟨fZ0,_,xP FZ1 B ,AA X G aZ0,kZ0,bZ1,⟨[],bZ1,.nil⟩⟩
  have bZ2 := FZ2.binds0 (ps := ["one","other"]) fun _ _ _ _ _ _ us hl => match us,hl with | [_,_],_ => rfl
  have DZ2 : Dx l.prog w K mg base aZ 1 "divisor" ["one","other"] [] mK := ⟨fZ2,_,xR FZ2 B ,AA X G aZ2,kZ2,bZ2,⟨[],bZ2,.nil⟩⟩
  have XZ3 : Dx l.prog w K mg base (cB l.prog w) 2 "fraction" ["top","bottom"] [.int 1] (mT c_NoNumber) := ⟨fZ3,_,xT FZ3 B DZ0 DZ2,AA X G aZ3,kZ3,FZ3.binds (ps := ["top","bottom"]) (ds := []) dZ3 rfl fun _ _ _ _ _ _ us hl => match us,hl with | [_,_],_ => ⟨_,rfl,rfl⟩,⟨[.int 1 TtZ3],FZ3.binds (ps := ["top","bottom"]) (ds := [.int 1 TtZ3]) dZ3 rfl fun _ _ _ _ _ _ us hl => match us,hl with | [_],_ => ⟨_,rfl,rfl⟩ | [],h => absurd h (by simp) | _ :: _ :: _,h => absurd h (by simp),.cons ⟨_,rfl⟩ .nil⟩⟩
  have DZ3 : Dx l.prog w K mg base aZ 2 "fraction" ["top","bottom"] [.int 1] qW := XZ3.calm ua
  have bis_Z3 := Fis_Z3.binds0 (ps := ["thing"]) fun _ _ _ _ _ _ us hl => match us,hl with | [_],_ => rfl
  have Dis_Z3 : Dx l.prog w K mg base aZ 2 "is_fraction" ["thing"] [] (lQ K) := ⟨fis_Z3,_,xV Fis_Z3 B DZ1 DZ2,AA X G ais_Z3,kis_Z3,bis_Z3,⟨[],bis_Z3,.nil⟩⟩
  have bZ5 := FZ5.binds0 (ps := ["one","other"]) fun _ _ _ _ _ _ us hl => match us,hl with | [_,_],_ => rfl
  have DZ5 : Dx l.prog w K mg base aZ 3 "product" ["one","other"] [] (lL K) := ⟨fZ5,_,xX FZ5 B DZ3,AA X G aZ5,kZ5,bZ5,⟨[],bZ5,.nil⟩⟩
  have bZ6 := FZ6.binds0 (ps := ["stands","good"]) fun _ _ _ _ _ _ us hl => match us,hl with | [_,_],_ => rfl
  have DZ6 : Dx l.prog w K mg base aZ 4 "ways_out" ["stands","good"] [] (qf K) := ⟨fZ6,_,xZ FZ6 B DZ3 DZ5,AA X G aZ6,kZ6,bZ6,⟨[],bZ6,.nil⟩⟩
  have bZ7 := FZ7.binds0 (ps := ["thing"]) fun _ _ _ _ _ _ us hl => match us,hl with | [_],_ => rfl
  have DZ7 : Dx l.prog w K mg base aZ 1 "is_name" ["thing"] [] (gZ K) := ⟨fZ7,_,x3 FZ7 B ,AA X G aZ7,kZ7,bZ7,⟨[],bZ7,.nil⟩⟩
  have bZ8 := FZ8.binds0 (ps := ["things"]) fun _ _ _ _ _ _ us hl => match us,hl with | [_],_ => rfl
  have XZ8 : Dx l.prog w K mg base (cB l.prog w) 2 "refuse_no_names" ["things"] [] (dv K c_NoName) := ⟨fZ8,_,x5 FZ8 B DZ7,AA X G aZ8,kZ8,bZ8,⟨[],bZ8,.nil⟩⟩
  have DZ8 : Dx l.prog w K mg base aZ 2 "refuse_no_names" ["things"] [] tj := XZ8.calm (fun _ _ _ _ => ul)
  have bZ9 := FZ9.binds0 (ps := ["parts","good"]) fun _ _ _ _ _ _ us hl => match us,hl with | [_,_],_ => rfl
  have DZ9 : Dx l.prog w K mg base aZ 1 "names_ahead" ["parts","good"] [] gv := ⟨fZ9,_,x8 FZ9 B ,AA X G aZ9,kZ9,bZ9,⟨[],bZ9,.nil⟩⟩
  have bZ10 := FZ10.binds0 (ps := ["ahead","goal"]) fun _ _ _ _ _ _ us hl => match us,hl with | [_,_],_ => rfl
  have DZ10 : Dx l.prog w K mg base aZ 1 "chain_to" ["ahead","goal"] [] qm := ⟨fZ10,_,vt FZ10 B ,AA X G aZ10,kZ10,bZ10,⟨[],bZ10,.nil⟩⟩
  have bZ11 := FZ11.binds0 (ps := ["parts","good","goals"]) fun _ _ _ _ _ _ us hl => match us,hl with | [_,_,_],_ => rfl
  have DZ11 : Dx l.prog w K mg base aZ 2 "chain_down" ["parts","good","goals"] [] dX := ⟨fZ11,_,vx FZ11 B DZ9 DZ10,AA X G aZ11,kZ11,bZ11,⟨[],bZ11,.nil⟩⟩
  have bZ12 := FZ12.binds0 (ps := ["parts","good"]) fun _ _ _ _ _ _ us hl => match us,hl with | [_,_],_ => rfl
  have DZ12 : Dx l.prog w K mg base aZ 2 "all_inside" ["parts","good"] [] fT := ⟨fZ12,_,vz FZ12 B DZ9,AA X G aZ12,kZ12,bZ12,⟨[],bZ12,.nil⟩⟩
  have bZ13 := FZ13.binds0 (ps := ["self"]) fun _ _ _ _ _ _ us hl => match us,hl with | [_],_ => rfl
  have DZ13 : dw l.prog w K mg base aZ 1 f_Z13 ["self"] [] (fU c_Larder) := ⟨_,vB FZ13 B ,bZ13,⟨[],bZ13,.nil⟩⟩
  have bZ14 := FZ14.binds0 (ps := ["self","told"]) fun _ _ _ _ _ _ us hl => match us,hl with | [_,_],_ => rfl
  have DZ14 : dw l.prog w K mg base aZ 1 f_Z14 ["self","told"] [] (fB c_Larder) := ⟨_,vD FZ14 B ,bZ14,⟨[],bZ14,.nil⟩⟩
  have bZ15 := FZ15.binds0 (ps := ["self"]) fun _ _ _ _ _ _ us hl => match us,hl with | [_],_ => rfl
  have DZ15 : dw l.prog w K mg base aZ 1 f_Z15 ["self"] [] (ip c_Larder) := ⟨_,vF FZ15 B ,bZ15,⟨[],bZ15,.nil⟩⟩
  have bZ16 := FZ16.binds0 (ps := ["self","good","other"]) fun _ _ _ _ _ _ us hl => match us,hl with | [_,_,_],_ => rfl
  have XZ16 : dw l.prog w K mg base (cB l.prog w) 3 f_Z16 ["self","good","other"] [] (gw K c_Larder c_NoName c_InRing) := ⟨_,vH FZ16 B DZ11 DZ14 XZ8 I_InRing,bZ16,⟨[],bZ16,.nil⟩⟩
  have DZ16 : dw l.prog w K mg base aZ 3 f_Z16 ["self","good","other"] [] (nh c_Larder) := XZ16.calm qk
  have bZ17 := FZ17.binds0 (ps := ["self","good"]) fun _ _ _ _ _ _ us hl => match us,hl with | [_,_],_ => rfl
  have XZ17 : dw l.prog w K mg base (cB l.prog w) 3 f_Z17 ["self","good"] [] (jN K c_Larder c_NoName) := ⟨_,vJ FZ17 B DZ12 XZ8,bZ17,⟨[],bZ17,.nil⟩⟩
  have DZ17 : dw l.prog w K mg base aZ 3 f_Z17 ["self","good"] [] (fJ c_Larder) := XZ17.calm qp
  have bZ18 := FZ18.binds0 (ps := ["self","good"]) fun _ _ _ _ _ _ us hl => match us,hl with | [_,_],_ => rfl
  have XZ18 : dw l.prog w K mg base (cB l.prog w) 3 f_Z18 ["self","good"] [] (eE K c_Larder c_NoName) := ⟨_,vL FZ18 B DZ11 XZ8,bZ18,⟨[],bZ18,.nil⟩⟩
  have DZ18 : dw l.prog w K mg base aZ 3 f_Z18 ["self","good"] [] (dY c_Larder) := XZ18.calm mn
  have bZ19 := FZ19.binds0 (ps := ["self","good"]) fun _ _ _ _ _ _ us hl => match us,hl with | [_,_],_ => rfl
  have XZ19 : dw l.prog w K mg base (cB l.prog w) 3 f_Z19 ["self","good"] [] (me K c_Larder c_NoName) := ⟨_,vN FZ19 B DZ14 XZ8,bZ19,⟨[],bZ19,.nil⟩⟩
  have DZ19 : dw l.prog w K mg base aZ 3 f_Z19 ["self","good"] [] (mi c_Larder) := XZ19.calm rZ
  have bZ20 := FZ20.binds0 (ps := ["self","good"]) fun _ _ _ _ _ _ us hl => match us,hl with | [_,_],_ => rfl
  have XZ20 : dw l.prog w K mg base (cB l.prog w) 3 f_Z20 ["self","good"] [] (ig K c_Larder c_NoName) := ⟨_,vP FZ20 B XZ8,bZ20,⟨[],bZ20,.nil⟩⟩
  have DZ20 : dw l.prog w K mg base aZ 3 f_Z20 ["self","good"] [] (io c_Larder) := XZ20.calm ot
  have XZ21 : dw l.prog w K mg base (cB l.prog w) 3 f_Z21 ["self","good","other","ratio"] [.non] (fG K c_Larder c_NoName c_NoStand) := ⟨_,vR FZ21 B Dis_Z3 DZ14 XZ3 XZ8,FZ21.binds (ps := ["self","good","other","ratio"]) (ds := []) dZ21 rfl fun _ _ _ _ _ _ us hl => match us,hl with | [_,_,_,_],_ => ⟨_,rfl,rfl⟩,⟨[.none],FZ21.binds (ps := ["self","good","other","ratio"]) (ds := [.none]) dZ21 rfl fun _ _ _ _ _ _ us hl => match us,hl with | [_,_,_],_ => ⟨_,rfl,rfl⟩ | [],h => absurd h (by simp) | [_],h => absurd h (by simp) | [_,_],h => absurd h (by simp) | _ :: _ :: _ :: _ :: _,h => absurd h (by simp),.cons rfl .nil⟩⟩
  have DZ21 : dw l.prog w K mg base aZ 3 f_Z21 ["self","good","other","ratio"] [.non] (kU c_Larder) := XZ21.calm ou
  have bZ22 := FZ22.binds0 (ps := ["self","good"]) fun _ _ _ _ _ _ us hl => match us,hl with | [_,_],_ => rfl
  have XZ22 : dw l.prog w K mg base (cB l.prog w) 5 f_Z22 ["self","good"] [] (qo K c_Larder c_NoName c_NoStandIn) := ⟨_,vT FZ22 B DZ6 XZ8 XZ18 I_NoStandIn,bZ22,⟨[],bZ22,.nil⟩⟩
  have DZ22 : dw l.prog w K mg base aZ 5 f_Z22 ["self","good"] [] vc := XZ22.calm (fun _ _ _ _ h => h.elim)
  have bZ23 := FZ23.binds0 (ps := ["_law_script","_law_k"]) fun _ _ _ _ _ _ us hl => match us,hl with | [_,_],_ => rfl
  have DZ23 : Dx l.prog w K mg base aZ 1 "_law_cell_at" ["_law_script","_law_k"] [] (lK K) := ⟨fZ23,_,vV FZ23 B ,AA X G aZ23,kZ23,bZ23,⟨[],bZ23,.nil⟩⟩
  have bZ24 := FZ24.binds0 (ps := ["_law_number","_law_many"]) fun _ _ _ _ _ _ us hl => match us,hl with | [_,_],_ => rfl
  have DZ24 : Dx l.prog w K mg base aZ 1 "_law_names" ["_law_number","_law_many"] [] ik := ⟨fZ24,_,vX FZ24 B ,AA X G aZ24,kZ24,bZ24,⟨[],bZ24,.nil⟩⟩
  have bZ25 := FZ25.binds0 (ps := ["_law_one","_law_other"]) fun _ _ _ _ _ _ us hl => match us,hl with | [_,_],_ => rfl
  have DZ25 : Dx l.prog w K mg base aZ 1 "_law_divisor_of" ["_law_one","_law_other"] [] mf := ⟨fZ25,_,vZ FZ25 B ,AA X G aZ25,kZ25,bZ25,⟨[],bZ25,.nil⟩⟩
  have bZ26 := FZ26.binds0 (ps := ["_law_top","_law_bottom"]) fun _ _ _ _ _ _ us hl => match us,hl with | [_,_],_ => rfl
  have DZ26 : Dx l.prog w K mg base aZ 2 "_law_lowest" ["_law_top","_law_bottom"] [] mM := ⟨fZ26,_,v1 FZ26 B DZ25,AA X G aZ26,kZ26,bZ26,⟨[],bZ26,.nil⟩⟩
  have bZ27 := FZ27.binds0 (ps := ["_law_cell"]) fun _ _ _ _ _ _ us hl => match us,hl with | [_],_ => rfl
  have DZ27 : Dx l.prog w K mg base aZ 3 "_law_ratio" ["_law_cell"] [] fW := ⟨fZ27,_,v3 FZ27 B DZ26,AA X G aZ27,kZ27,bZ27,⟨[],bZ27,.nil⟩⟩
  have bZ28 := FZ28.binds0 (ps := ["_law_pairs","_law_good"]) fun _ _ _ _ _ _ us hl => match us,hl with | [_,_],_ => rfl
  have DZ28 : Dx l.prog w K mg base aZ 1 "_law_led_to" ["_law_pairs","_law_good"] [] gF := ⟨fZ28,_,v5 FZ28 B ,AA X G aZ28,kZ28,bZ28,⟨[],bZ28,.nil⟩⟩
  have bZ29 := FZ29.binds0 (ps := ["_law_larder","_law_pairs","_law_one","_law_other"]) fun _ _ _ _ _ _ us hl => match us,hl with | [_,_,_,_],_ => rfl
  have DZ29 : Dx l.prog w K mg base aZ 4 "_law_part" ["_law_larder","_law_pairs","_law_one","_law_other"] [] (jP K c_Larder) := ⟨fZ29,_,v7 FZ29 B DZ28 XZ16,AA X G aZ29,kZ29,bZ29,⟨[],bZ29,.nil⟩⟩
  have bZ30 := FZ30.binds0 (ps := ["_law_larder","_law_stands","_law_one","_law_other","_law_cell"]) fun _ _ _ _ _ _ us hl => match us,hl with | [_,_,_,_,_],_ => rfl
  have DZ30 : Dx l.prog w K mg base aZ 4 "_law_stand" ["_law_larder","_law_stands","_law_one","_law_other","_law_cell"] [] (iq K c_Larder) := ⟨fZ30,_,v9 FZ30 B DZ27 XZ21,AA X G aZ30,kZ30,bZ30,⟨[],bZ30,.nil⟩⟩
  have bZ31 := FZ31.binds0 (ps := ["_law_larder","_law_told","_law_names_here","_law_cell"]) fun _ _ _ _ _ _ us hl => match us,hl with | [_,_,_,_],_ => rfl
  have DZ31 : Dx l.prog w K mg base aZ 5 "_law_deed" ["_law_larder","_law_told","_law_names_here","_law_cell"] [] (jQ K c_Larder) := ⟨fZ31,_,wb FZ31 B DZ19 DZ20 DZ29 DZ30,AA X G aZ31,kZ31,bZ31,⟨[],bZ31,.nil⟩⟩
  have bZ32 := FZ32.binds0 (ps := ["_law_larder","_law_told","_law_good"]) fun _ _ _ _ _ _ us hl => match us,hl with | [_,_,_],_ => rfl
  have DZ32 : Dx l.prog w K mg base aZ 4 "_law_barred" ["_law_larder","_law_told","_law_good"] [] (eG K c_Larder) := ⟨fZ32,_,wd FZ32 B DZ17 DZ18,AA X G aZ32,kZ32,bZ32,⟨[],bZ32,.nil⟩⟩
  have bZ33 := FZ33.binds0 (ps := ["_law_larder","_law_good"]) fun _ _ _ _ _ _ us hl => match us,hl with | [_,_],_ => rfl
  have DZ33 : Dx l.prog w K mg base aZ 6 "_law_asked" ["_law_larder","_law_good"] [] (fK K c_Larder) := ⟨fZ33,_,wf FZ33 B XZ22,AA X G aZ33,kZ33,bZ33,⟨[],bZ33,.nil⟩⟩
  have bZ34 := FZ34.binds0 (ps := ["_law_larder","_law_told","_law_good"]) fun _ _ _ _ _ _ us hl => match us,hl with | [_,_,_],_ => rfl
  have DZ34 : Dx l.prog w K mg base aZ 7 "_law_right" ["_law_larder","_law_told","_law_good"] [] (ir K c_Larder) := ⟨fZ34,_,wj FZ34 B DZ26 DZ28 DZ32 DZ33,AA X G aZ34,kZ34,bZ34,⟨[],bZ34,.nil⟩⟩
  have bZ35 := FZ35.binds0 (ps := ["_law_larder","_law_good","_law_cell"]) fun _ _ _ _ _ _ us hl => match us,hl with | [_,_,_],_ => rfl
  have DZ35 : Dx l.prog w K mg base aZ 7 "_law_look" ["_law_larder","_law_good","_law_cell"] [] (jR K c_Larder) := ⟨fZ35,_,wm FZ35 B DZ15 DZ17 DZ18 DZ33,AA X G aZ35,kZ35,bZ35,⟨[],bZ35,.nil⟩⟩
  exact wp Flaw B DZ13 DZ23 DZ24 DZ31 DZ32 DZ34 DZ35
theorem walk {l : PySem.W.OpenLaw} {q : Program} {loose : List Str} {XP : (Str -> Option Value) -> Heap -> Prop} {YP : World -> Heap -> Prop} {d : DefRec} {K : Params -> A0} (hn : l.most = some 63) (hdf : d.params.defaults = [])
  (hY : ∀ (w : World) (h : Heap),YP w h -> (K w.params).In h)
  (F : ∀ (w : World) (mg : Str -> Option Value) (fa : Addr) (h : Heap),(K w.params).In h -> h.Ns mainGlobals mg -> mg d.name = some (.ref fa) ->
   ∃ fd : FuncData,(∀ (s : Shared) (u : Value),BindsTo s fd ⟨[u],[]⟩ [("_law_script",u)]) /\ ∀ base : Heap,(K w.params).In base -> base.Ns mainGlobals mg -> a7 l.prog w (K w.params) mg base aZ 8 fa fd ["_law_script"] (mL (K w.params))) :
  PySem.W.WalkO q loose XP YP l.row.toRowW d [] (fun f vs => PySem.call f vs) :=
 L2.qP (n := 63) (k := 8) (x := "_law_script") (CX := fun _ => aZ) (sp := fun w => mL (K w.params)) hn (by decide) hdf ⟨rfl,by decide,by decide⟩ hY F (fun _ _ a ns hl _ hS => ⟨a,ns,rfl,hS,hl,fun _ => rfl⟩) fun _ _ _ _ _ z => z
end Lk27
open PySem PySem.W PyProof.Rows
set_option maxRecDepth 100000 in
set_option maxHeartbeats 0 in
theorem PySem.Challenge.cw_stovework_k27_whole_larders_holds : PySem.Challenge.rw_stovework_k27_whole_larders.Holds := by
 refine Lk27.hd ?_
 k_fill
 refine Lk27.walk (l := PySem.Challenge.rw_stovework_k27_whole_larders) rfl rfl (fun w h Y => PySem.W.kIn_of Y) ?F
 case F =>
  intro w mg fa h KX G hmg
  refine' Lk27.ux KX G hmg ?h0 ?h1 ?h2 ?h3 ?h4 ?h5 ?h6 ?h7 ?h8 ?h9 ?h10 ?h11 ?h12 ?h13 ?h14 ?h15 ?h16 ?h17 ?h18 ?h19 ?h20 ?h21 ?h22 ?h23 ?h24 ?h25 ?h26 ?h27 ?h28 ?h29 ?h30 ?h31 ?h32 ?h33 ?h34 ?h35 ?h36 ?h37 ?h38 ?h39 ?h40 ?h41 ?h42 ?h43 ?h44 ?h45 ?h46 ?h47 ?h48 ?h49 ?h50 ?h51 ?h52 ?h53 ?h54 ?h55 ?h56 ?h57 ?h58 ?h59 ?h60 ?h61 ?h62 ?h63 ?h64 ?h65 ?h66 ?h67 ?h68 ?h69 ?h70 ?h71 ?h72 ?h73 ?h74 ?h75 ?h76 ?h77 ?h78 ?h79 ?h80 ?h81 ?h82 ?h83 ?h84 ?h85 ?h86 ?h87 ?h88 ?h89 ?h90 ?h91 ?h92 ?h93 ?h94 ?h95 ?h96 ?h97 ?h98 ?h99 ?h100 ?h101 ?h102 ?h103 ?h104 ?h105 ?h106 ?h107 ?h108 ?h109 ?h110 ?h111 ?h112 ?h113 ?h114 ?h115 ?h116 ?h117 ?h118 ?h119 ?h120 ?h121 ?h122 ?h123 ?h124 ?h125 ?h126 ?h127 ?h128 ?h129 ?h130 ?h131 ?h132 ?h133 ?h134 ?h135 ?h136 ?h137
  case h0 => k_is
  (case h1 => exact ⟨_,_,_,_,_,_,_,_,_,by k_is,by k_is,by k_is⟩)
  (case h2 => k_is)
  (case h3 => exact ⟨_,_,_,_,_,_,_,_,_,by k_is,by k_is,by k_is⟩)
  (case h4 => k_is)
  (case h5 => exact ⟨_,_,_,_,_,_,_,_,_,by k_is,by k_is,by k_is⟩)
  (case h6 => k_is)
  (case h7 => exact ⟨_,_,_,_,_,_,_,_,_,by k_is,by k_is,by k_is⟩)
  (case h8 => k_is)
  (case h9 => exact ⟨_,_,_,_,_,_,_,_,_,by k_is,by k_is,by k_is⟩)
  (case h10 => k_is)
  (case h11 => exact ⟨_,_,_,_,_,_,_,_,_,by k_is,by k_is,by k_is⟩)
  (case h12 => k_is)
  (case h13 => exact ⟨_,_,_,_,_,_,_,_,_,by k_is,by k_is,by k_is⟩)
  (case h14 => k_is)
  (case h15 => exact ⟨_,_,_,_,_,_,_,_,_,by k_is,by k_is,by k_is⟩)
  (case h16 => k_is)
  (case h17 => exact ⟨_,_,_,_,_,_,_,_,_,by k_is,by k_is,by k_is⟩)
  (case h18 => k_is)
  (case h19 => exact ⟨_,_,_,_,_,_,_,_,_,by k_is,by k_is,by k_is⟩)
  (case h20 => k_is)
  (case h21 => exact ⟨_,_,_,_,_,_,_,_,_,by k_is,by k_is,by k_is⟩)
  (case h22 => k_is)
  (case h23 => exact ⟨_,_,_,_,_,_,_,_,_,by k_is,by k_is,by k_is⟩)
  (case h24 => k_is)
  (case h25 => exact ⟨_,_,_,_,_,_,_,_,_,by k_is,by k_is,by k_is⟩)
  (case h26 => k_is)
  (case h27 => exact ⟨_,_,_,_,_,_,_,_,_,by k_is,by k_is,by k_is⟩)
  (case h28 => k_is)
  (case h29 => exact ⟨_,_,_,_,_,_,_,_,_,by k_is,by k_is,by k_is⟩)
  (case h30 => k_is)
  (case h31 => exact ⟨_,_,_,_,_,_,_,_,_,by k_is,by k_is,by k_is⟩)
  (case h32 => k_is)
  (case h33 => exact ⟨_,_,_,_,_,_,_,_,_,by k_is,by k_is,by k_is⟩)
  (case h34 => k_is)
  (case h35 => exact ⟨_,_,_,_,_,_,_,_,_,by k_is,by k_is,by k_is⟩)
  (case h36 => k_is)
  (case h37 => exact ⟨_,_,_,_,_,_,_,_,_,by k_is,by k_is,by k_is⟩)
  (case h38 => k_is)
  (case h39 => exact ⟨_,_,_,_,_,_,_,_,_,by k_is,by k_is,by k_is⟩)
  (case h40 => k_is)
  (case h41 => exact ⟨_,_,_,_,_,_,_,_,_,by k_is,by k_is,by k_is⟩)
  (case h42 => k_is)
  (case h43 => exact ⟨_,_,_,_,_,_,_,_,_,by k_is,by k_is,by k_is⟩)
  (case h44 => k_is)
  (case h45 => exact ⟨_,_,_,_,_,_,_,_,_,by k_is,by k_is,by k_is⟩)
  (case h46 => k_is)
  (case h47 => exact ⟨_,_,_,_,_,_,_,_,_,by k_is,by k_is,by k_is⟩)
  (case h48 => k_is)
  (case h49 => exact ⟨_,_,_,_,_,_,_,_,_,by k_is,by k_is,by k_is⟩)
  (case h50 => k_is)
  (case h51 => k_is)
  (case h52 => k_is)
  (case h53 => k_is)
  (case h54 => k_is)
  (case h55 => k_is)
  (case h56 => k_is)
  (case h57 => k_is)
  (case h58 => k_is)
  (case h59 => k_is)
  (case h60 => k_is)
  (case h61 => k_is)
  (case h62 => k_is)
  (case h63 => k_is)
  (case h64 => k_is)
  (case h65 => k_is)
  (case h66 => k_is)
  (case h67 => k_is)
  (case h68 => k_is)
  (case h69 => k_is)
  (case h70 => k_is)
  (case h71 => k_is)
  (case h72 => k_is)
  (case h73 => k_is)
  (case h74 => k_is)
  (case h75 => k_is)
  (case h76 => exact ⟨_,_,_,_,_,_,_,_,_,by k_is,by k_is,by k_is⟩)
  (case h77 => k_is)
  (case h78 => exact ⟨_,_,_,_,_,_,_,_,_,by k_is,by k_is,by k_is⟩)
  (case h79 => k_is)
  (case h80 => exact ⟨_,_,_,_,_,_,_,_,_,by k_is,by k_is,by k_is⟩)
  (case h81 => k_is)
  (case h82 => exact ⟨_,_,_,_,_,_,_,_,_,by k_is,by k_is,by k_is⟩)
  (case h83 => k_is)
  (case h84 => exact ⟨_,_,_,_,_,_,_,_,_,by k_is,by k_is,by k_is⟩)
  (case h85 => k_is)
  (case h86 => exact ⟨_,_,_,_,_,_,_,_,_,by k_is,by k_is,by k_is⟩)
  (case h87 => k_is)
  (case h88 => exact ⟨_,_,_,_,_,_,_,_,_,by k_is,by k_is,by k_is⟩)
  (case h89 => k_is)
  (case h90 => exact ⟨_,_,_,_,_,_,_,_,_,by k_is,by k_is,by k_is⟩)
  (case h91 => k_is)
  (case h92 => exact ⟨_,_,_,_,_,_,_,_,_,by k_is,by k_is,by k_is⟩)
  (case h93 => k_is)
  (case h94 => exact ⟨_,_,_,_,_,_,_,_,_,by k_is,by k_is,by k_is⟩)
  (case h95 => k_is)
  (case h96 => k_is)
  (case h97 => kernel_rfl)
  (case h98 => exact ⟨⟨by k_is,by k_is,by k_is⟩,by kernel_rfl,by k_is,by k_is,by k_is,by k_is⟩)
  (case h99 => kernel_rfl)
  (case h100 => exact ⟨⟨by k_is,by k_is,by k_is⟩,by kernel_rfl,by k_is,by k_is,by k_is,by k_is⟩)
  (case h101 => kernel_rfl)
  (case h102 => exact ⟨⟨by k_is,by k_is,by k_is⟩,by kernel_rfl,by k_is,by k_is,by k_is,by k_is⟩)
  (case h103 => exact ⟨by k_is,by kernel_rfl,by k_is⟩)
  (case h104 => exact ⟨by k_is,by kernel_rfl,by k_is⟩)
  (case h105 => exact ⟨by k_is,by kernel_rfl,by k_is⟩)
  (case h106 => k_is)
  (case h107 => k_is)
  (case h108 => k_is)
  (case h109 => exact ⟨by k_is,by kernel_rfl,by kernel_rfl,by k_is⟩)
  (case h110 => k_is)
  (case h111 => exact ⟨by k_is,by kernel_rfl,by kernel_rfl,by k_is⟩)
  (case h112 => k_is)
  (case h113 => exact ⟨⟨by k_is,by k_is,by k_is⟩,by kernel_rfl,by k_is,by k_is,by k_is,by k_is⟩)
  (case h114 => exact ⟨⟨by k_is,by k_is,by k_is⟩,by kernel_rfl,by k_is,by k_is,by k_is,by k_is⟩)
  (case h115 => exact ⟨by k_is,by k_is,by k_is,by k_is⟩)
  (case h116 => exact ⟨by k_is,by k_is,by k_is,by k_is⟩)
  (case h117 => exact ⟨by k_is,by k_is,by k_is⟩)
  (case h118 => exact ⟨by k_is,by k_is,by k_is⟩)
  (case h119 => exact ⟨by k_is,by k_is,by k_is⟩)
  (case h120 => exact ⟨by k_is,by k_is,by k_is⟩)
  (case h121 => exact ⟨by k_is,by k_is,by k_is⟩)
  (case h122 => exact ⟨by k_is,by k_is,by k_is⟩)
  (case h123 => exact ⟨by k_is,by k_is,by k_is⟩)
  (case h124 => exact ⟨by k_is,by k_is,by k_is⟩)
  (case h125 => exact ⟨by k_is,by k_is,by k_is⟩)
  (case h126 => unfold L2.bS; k_is)
  (case h127 => unfold L2.bS; k_is)
  (case h128 => unfold L2.bS; k_is)
  (case h129 => unfold L2.bS; k_is)
  (case h130 => exact ⟨⟨_,_,_,_,_,_,_,_,_,_,_,_,_,_,_,_,by k_is,by kernel_rfl,by k_is,by kernel_rfl⟩,by k_is,by k_is⟩)
  (case h131 => k_is)
  (case h132 => k_is)
  (case h133 => k_is)
  (case h134 => exact ⟨⟨_,_,_,_,_,_,_,_,_,_,_,_,_,_,_,_,by k_is,by kernel_rfl,by k_is,by kernel_rfl⟩,by k_is,by k_is⟩)
  (case h135 => k_is)
  (case h136 => k_is)
  (case h137 => k_is)
