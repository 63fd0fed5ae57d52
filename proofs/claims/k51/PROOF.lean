import PyProof.Rows.All
import Wide.All
import OpenK.AllK
import Wide.FinOn
import Lean
import PyProof.EqAt
import PyProof.EqKinds
import PyProof.TupleCall
import PyProof.NeKinds
import PyProof.StationsW
import PyProof.RulesAs
import PyProof.ExcArgsOwn
import PyProof.CompFree
import PyProof.ExcInit
import PyProof.ConsumeWalk
import PyProof.Rows.SeqGen
import PyProof.StrWalks
import PyProof.SliceStr2
import PyProof.MeetsStr
import KE.KIntText
import PyProof.Rows.FStr
import PyProof.StrCalls6
import PyProof.StrBlockL
import PyProof.ToksMono
import PyProof.WalkInts
import PyProof.Rows.MinMaxN
import PyProof.StrLawsReplace
import PyProof.StrLawsTight
import PyProof.Rows.StrLawsPart
import PyProof.DictWalks
import KE.KEqDict
import KE.KDictLaws
import KE.KRevIter
import PyProof.ListCopy
import PyProof.CollectIter
import PyProof.Rows.SetFrom
import PyProof.Rows.SortShellK
import PyProof.Rows.SortStr
import PyProof.Rows.SortWalk
import KE.KDictSum
import KE.KSortTup
import PyProof.TupleOfSeq
import PyProof.Rows.SortRuns
import PyProof.FactsAll.tuple_2
import PyProof.WalksEnum
import PyProof.EnumMake
import PyProof.EnumFor
import PyProof.ZipIter
import KE.KDictOf
import PyProof.DictItems
import PyProof.FactsAll.dict_itemiterator_1
import PyProof.MeetsSeq3
import PyProof.FactsAll.list_2
import PyProof.Rows.StrRules
import PyProof.Rows.StrMul
import KE.KDictList
import PyProof.Rows.SumAny
import PySem.Challenge.RW_stovework_k51_net_kept
/-! The run of a law's top over a tree in the heap's place, at once: then the heap that it stands for is what the head asks. Own work. -/
namespace Ht
open PySem PySem.W PyProof.Rows
/-- steps till the top is through -/
noncomputable def runT (ok : Thread → Bool) (st : SharedT → Thread → Option (SharedT × Thread)) (n : Nat) : SharedT → Thread → Option SharedT :=
  Nat.rec (motive := fun _ => SharedT → Thread → Option SharedT) (fun _ _ => none) (fun _ ih s t =>
    Bool.rec (motive := fun _ => Option SharedT)
      (Bool.rec (motive := fun _ => Option SharedT) none (Option.rec (motive := fun _ => Option SharedT) none (fun r => Prod.rec (motive := fun _ => Option SharedT) (fun s' t' => ih s' t') r) (st s t)) (ok t))
      (some s) (through t)) n
theorem runT_of {tb : String → Option Builtin} {p : Program} {w : World} {m : Nat} {ann : Option Value} : ∀ {n : Nat} {s s' : SharedT} {t : Thread}, runT (stepOk m ann) (stepT (denote tb) p w) n s t = some s' → topRun tb p w m ann n s.abs t = some s'.abs
  | 0, _, _, _, h => by cases h
  | n + 1, s, s', t, h => by
    unfold topRun
    have h' : Bool.rec (motive := fun _ => Option SharedT)
      (Bool.rec (motive := fun _ => Option SharedT) none (Option.rec (motive := fun _ => Option SharedT) none (fun r => Prod.rec (motive := fun _ => Option SharedT) (fun s' t' => runT (stepOk m ann) (stepT (denote tb) p w) n s' t') r) (stepT (denote tb) p w s t)) (stepOk m ann t))
      (some s) (through t) = some s' := h
    cases ht : through t with
    | true => rw [ht] at h'; cases h'; rfl
    | false =>
      rw [ht] at h'
      cases hk : stepOk m ann t with
      | false => rw [hk] at h'; cases h'
      | true =>
        rw [hk] at h'
        cases hs : stepT (denote tb) p w s t with
        | none => rw [hs] at h'; cases h'
        | some r =>
          obtain ⟨s₂, t₂⟩ := r
          rw [hs] at h'
          dsimp only
          rw [stepT_spec hs]
          exact runT_of h'
/-- a tree of a list's things -/
noncomputable def grow (l : List Obj) : Nat → BT → Option BT :=
  List.rec (motive := fun _ => Nat → BT → Option BT) (fun _ t => some t) (fun o _ ih n t =>
    Bool.rec (motive := fun _ => Option BT) none (ih (n + 1) (t.ins n o)) ((t.ins n o).get n).isSome) l
theorem grow_of {life : Life} : ∀ {l : List Obj} {n : Nat} {t t' : BT}, grow l n t = some t' → absHeap t' (n + l.length) life = ⟨(absHeap t n life).objs ++ l.toArray, life⟩
  | [], n, t, t', h => by
    cases h
    simp [absHeap]
  | o :: l, n, t, t', h => by
    have h' : Bool.rec (motive := fun _ => Option BT) none (grow l (n + 1) (t.ins n o)) ((t.ins n o).get n).isSome = some t' := h
    cases e : ((t.ins n o).get n).isSome with
    | false => rw [e] at h'; cases h'
    | true =>
      rw [e] at h'
      have z := grow_of (life := life) h'
      rw [absHeap_ins e] at z
      rw [show n + (o :: l).length = n + 1 + l.length by rw [List.length_cons]; omega, z]
      simp [Heap.push]
noncomputable def treeOf (s : Shared) : Option SharedT :=
  Option.rec (motive := fun _ => Option SharedT) none (fun t => some ⟨t, s.heap.objs.size, s.heap.life, s.gens, s.drawn, s.toks, s.os⟩) (grow s.heap.objs.toList 0 .nil)
theorem treeOf_abs {s : Shared} {s' : SharedT} (h : treeOf s = some s') : s'.abs = s := by
  have h' : Option.rec (motive := fun _ => Option SharedT) none (fun t => some ⟨t, s.heap.objs.size, s.heap.life, s.gens, s.drawn, s.toks, s.os⟩) (grow s.heap.objs.toList 0 .nil) = some s' := h
  cases e : grow s.heap.objs.toList 0 .nil with
  | none => rw [e] at h'; cases h'
  | some t =>
    rw [e] at h'
    cases h'
    have z := grow_of (life := s.heap.life) e
    obtain ⟨⟨objs, life⟩, gens, drawn, toks, os⟩ := s
    simp only [SharedT.abs]
    have z' : absHeap t objs.size life = ⟨objs, life⟩ := by
      simpa [absHeap, BT.list] using z
    rw [z']
/-- the top's run from what the opening left -/
noncomputable def endsT (ok : Nat → Option Value → Thread → Bool) (st : SharedT → Thread → Option (SharedT × Thread)) (p : Program) (N : Nat) (s₀ : Shared) : Option Shared :=
  Bool.rec (motive := fun _ => Option Shared) none
    ((treeOf s₀).bind fun t₀ => (runT (ok s₀.heap.objs.size (s₀.heap.nsMap mainGlobals "__annotations__")) st N t₀ (topStub p)).bind fun t₁ =>
      (fun s₁ => Bool.rec (motive := fun _ => Option Shared) none (some s₁) (staticsOk (importedModules p.main.body) s₀.heap s₁.heap && namesBound p s₁.heap && gensDone s₁ && laidKept s₀.heap s₁.heap)) t₁.abs)
    (s₀.heap.isNs mainGlobals && s₀.gens.size == 0)
theorem endsT_of {tb : String → Option Builtin} {p : Program} {w : World} {N : Nat} {s₀ s : Shared} (h : endsT stepOk (stepT (denote tb) p w) p N s₀ = some s) : topFrom tb p w N s₀ = some s := by
  unfold endsT at h
  unfold topFrom
  cases e : s₀.heap.isNs mainGlobals && s₀.gens.size == 0 with
  | false => rw [e] at h; cases h
  | true =>
    rw [e] at h
    obtain ⟨t₀, e0, h⟩ := Option.bind_eq_some_iff.mp h
    obtain ⟨t₁, e1, h⟩ := Option.bind_eq_some_iff.mp h
    have r := runT_of e1
    rw [treeOf_abs e0] at r
    dsimp only
    rw [r]
    dsimp only at h
    show (match staticsOk (importedModules p.main.body) s₀.heap t₁.abs.heap && namesBound p t₁.abs.heap && gensDone t₁.abs && laidKept s₀.heap t₁.abs.heap with | true => some t₁.abs | false => none) = some s
    cases q : staticsOk (importedModules p.main.body) s₀.heap t₁.abs.heap && namesBound p t₁.abs.heap && gensDone t₁.abs && laidKept s₀.heap t₁.abs.heap with
    | false => rw [q] at h; cases h
    | true => rw [q] at h; exact h
end Ht
/-! The head's run looked at in parts, each by itself: less memory. Own work. -/
namespace Ht
open PySem PySem.W PyProof.Rows
noncomputable def rawT (ok : Nat → Option Value → Thread → Bool) (st : SharedT → Thread → Option (SharedT × Thread)) (p : Program) (N : Nat) (s₀ : Shared) : Option Shared :=
  (treeOf s₀).bind fun t₀ => (runT (ok s₀.heap.objs.size (s₀.heap.nsMap mainGlobals "__annotations__")) st N t₀ (topStub p)).map fun t₁ => t₁.abs
def chkT (p : Program) (s₀ s₁ : Shared) : Bool := (s₀.heap.isNs mainGlobals && s₀.gens.size == 0) && (staticsOk (importedModules p.main.body) s₀.heap s₁.heap && namesBound p s₁.heap && gensDone s₁ && laidKept s₀.heap s₁.heap)
theorem ends_raw {tb : String → Option Builtin} {p : Program} {w : World} {N : Nat} {s₀ s : Shared} (h : rawT stepOk (stepT (denote tb) p w) p N s₀ = some s) (c : chkT p s₀ s = true) : topFrom tb p w N s₀ = some s := by
  apply endsT_of
  unfold rawT at h
  obtain ⟨t₀, e0, h⟩ := Option.bind_eq_some_iff.mp h
  obtain ⟨t₁, e1, rfl⟩ := Option.map_eq_some_iff.mp h
  unfold chkT at c
  rw [Bool.and_eq_true] at c
  unfold endsT
  rw [c.1]
  show ((treeOf s₀).bind fun t₀ => _) = _
  rw [e0]
  show ((runT _ _ N t₀ (topStub p)).bind fun t₁ => _) = _
  rw [e1]
  show (Bool.rec (motive := fun _ => Option Shared) none (some t₁.abs) (staticsOk (importedModules p.main.body) s₀.heap t₁.abs.heap && namesBound p t₁.abs.heap && gensDone t₁.abs && laidKept s₀.heap t₁.abs.heap) : Option Shared) = _
  rw [c.2]
/-- a look at the end of the run -/
abbrev Look (p : Program) (N : Nat) {α : Type} (f : Shared → Shared → α) (v : World → α) : Prop := ∀ w : World, ((importEnds treeTable (opening p) w N (start (opening p)).1 (start (opening p)).2).bind fun s => (fenceModules? p s).bind fun s₀ => (rawT stepOk (stepT (denote treeTable) p w) p N s₀).map fun s₁ => f s₀ s₁) = some (v w)
theorem Look.at_ {p : Program} {N : Nat} {α : Type} {f : Shared → Shared → α} {v : World → α} (h : Look p N f v) (w : World) {s s₀ s₁ : Shared} (a : importEnds treeTable (opening p) w N (start (opening p)).1 (start (opening p)).2 = some s) (b : fenceModules? p s = some s₀) (c : rawT stepOk (stepT (denote treeTable) p w) p N s₀ = some s₁) : f s₀ s₁ = v w := by
  have := h w
  rw [a] at this
  replace this : ((fenceModules? p s).bind fun s₀ => (rawT stepOk (stepT (denote treeTable) p w) p N s₀).map fun s₁ => f s₀ s₁) = some (v w) := this
  rw [b] at this
  replace this : ((rawT stepOk (stepT (denote treeTable) p w) p N s₀).map fun s₁ => f s₀ s₁) = some (v w) := this
  rw [c] at this
  injection this
theorem left_of3 {p q : Program} {loose : List Str} {Xt : Shared → Bool} {α : Type} {Yf : Shared → α} {Ya : World → α} {N : Nat} {g0 : Bool} (hc : Look p N (fun s₀ s₁ => chkT p s₀ s₁) fun _ => true)
    (h1 : Look p N (fun _ s => openSeen q loose (importedModules p.main.body) Xt g0 s) fun _ => openGood q loose) (h2 : Look p N (fun _ s => Yf s) Ya) : LeftO p q loose Xt Yf Ya N g0 := fun w => by
  obtain ⟨s, a, e⟩ := Option.bind_eq_some_iff.mp (hc w)
  obtain ⟨s₀, b, e⟩ := Option.bind_eq_some_iff.mp e
  obtain ⟨s₁, c, e⟩ := Option.map_eq_some_iff.mp e
  have z : openEnds treeTable p w N = some s₁ := by
    unfold openEnds fencedOpening
    rw [a]
    show (fenceModules? p s).bind _ = _
    rw [b]
    exact ends_raw c e
  rw [z]
  show some (_, _) = some (_, _)
  rw [h1.at_ w a b c, h2.at_ w a b c]
end Ht
set_option Elab.async false
set_option linter.all false
set_option maxRecDepth 100000
namespace Lk51
open PySem PySem.W PyProof.Rows
def qv : Program := { PySem.Challenge.pw_stovework_k51_net_kept with main := { PySem.Challenge.pw_stovework_k51_net_kept.main with body := ([1, 2, 3, 4, 5, 6, 7, 8, 10, 11, 12, 14, 15, 16, 17, 18, 19, 20, 21, 22, 23, 24, 25, 26, 27, 28, 30, 31, 32, 33, 34, 35, 36, 37, 38, 39, 40, 41, 42, 43, 44, 45, 46, 47] : List Nat).filterMap fun i => PySem.Challenge.pw_stovework_k51_net_kept.main.body[i]? } }
def lo : List Str := []
/-- what the head asks of the text, but the run of its top -/
theorem head {α : Type} {Yf : Shared → α} {Ya : World → α} {YP : World → Heap → Prop} {d : DefRec} {kwd : List (Str × Expr)} (left : LeftO PySem.Challenge.pw_stovework_k51_net_kept qv lo (fun s => xlAt qv [] s && recOk [] s) Yf Ya 5444)
    (hY : ∀ w s, Yf s = Ya w → YP w s.heap) (hYk : ∀ w h h', YP w h → (∀ b o, h.get? b = some o → h'.get? b = some o) → YP w h') (hd : defOf qv PySem.Challenge.rw_stovework_k51_net_kept.row.name = some (d, kwd))
    (hp : PySem.Challenge.rw_stovework_k51_net_kept.row.prog.theDef PySem.Challenge.rw_stovework_k51_net_kept.row.name = some (d.params, d.body, d.scope)) (hk : kwWritten? d.params.kwonlyargs d.params.kw_defaults = some kwd)
    (said : PySem.Challenge.rw_stovework_k51_net_kept.row.wellSaid = true) (hw : PySem.Challenge.rw_stovework_k51_net_kept.row.toRowW.promised) (call : WalkO qv lo (XL qv []) YP PySem.Challenge.rw_stovework_k51_net_kept.row.toRowW d kwd fun f vs => PySem.call f vs) : PySem.Challenge.rw_stovework_k51_net_kept.row.Holds :=
  holds_open left hY hYk (fun s e => xl_of s (Bool.and_eq_true_iff.mp e).1) XL.keeps hd hp hk (fun s e => recFacts_of (Bool.and_eq_true_iff.mp e).2) rfl said (by decide +kernel) ⟨rfl, rfl, rfl, rfl, rfl, by decide +kernel⟩ hw call
end Lk51
namespace Lk51
open PySem PySem.W PyProof.Rows
set_option maxHeartbeats 0 in
theorem la : Ht.Look PySem.Challenge.pw_stovework_k51_net_kept 5444 (fun s₀ s₁ => Ht.chkT PySem.Challenge.pw_stovework_k51_net_kept s₀ s₁) (fun _ => true) := by
  intro w
  rw [PySem.W.Fast.te10274390034422433532, PySem.W.Fast.te14289696077712309145, PySem.W.Fast.te6613529449190102663, PySem.W.Fast.te10156331382660048174, PySem.W.Fast.te11892475500146522536, PySem.W.Fast.te14364793385576792824]
  kernel_rfl
set_option maxHeartbeats 0 in
theorem lb : Ht.Look PySem.Challenge.pw_stovework_k51_net_kept 5444 (fun _ s => openSeen qv lo (importedModules PySem.Challenge.pw_stovework_k51_net_kept.main.body) (fun s => xlAt qv [] s && recOk [] s) true s) (fun _ => openGood qv lo) := by
  intro w
  rw [PySem.W.Fast.te10274390034422433532, PySem.W.Fast.te14289696077712309145, PySem.W.Fast.te6613529449190102663, PySem.W.Fast.te10156331382660048174, PySem.W.Fast.te11892475500146522536, PySem.W.Fast.te14364793385576792824, PySem.W.Fast.te4187177175401517315]
  kernel_rfl
end Lk51
local macro_rules | `(tactic| o_head $H) => `(tactic| (refine Lk51.head (Yf := PySem.W.Hook.obs $H) (Ya := PySem.W.Hook.val $H) (YP := PySem.W.Hook.says $H) ?hl (PySem.W.Hook.of $H) (PySem.W.Hook.keeps $H) (by rfl) (by rfl) (by rfl) (by assumption) ?hw ?hc; (case hl => (refine Ht.left_of3 Lk51.la Lk51.lb ?c; (case c => (intro w; rw [PySem.W.Fast.te10274390034422433532, PySem.W.Fast.te14289696077712309145, PySem.W.Fast.te6613529449190102663, PySem.W.Fast.te10156331382660048174, PySem.W.Fast.te11892475500146522536, PySem.W.Fast.te14364793385576792824]; kernel_rfl))))))
namespace PySem.W.Fast
def tw16342036651777912283 : PySem.Program := PySem.Challenge.pw_stovework_k51_net_kept
theorem te16342036651777912283 : PySem.Challenge.pw_stovework_k51_net_kept = tw16342036651777912283 := rfl
end PySem.W.Fast
set_option maxHeartbeats 0 in
open_top Lk51.hd for PySem.Challenge.rw_stovework_k51_net_kept
set_option Elab.async false
set_option linter.all false
set_option maxRecDepth 100000
/-! THE HAND LAYER, for ints, bools, texts, own classes, LISTS and tuples (index, slices, in, append, pop ..), calls, loops. Paste it whole ahead of your own text; what your proof does not reach may be deleted. -/
namespace L2
open PySem PySem.Spec PyProof.Rows

/-- a key: an int or a str -/
abbrev Key := Sum Int Str
def keyIs : Key → Value → Bool
  | .inl k, v => Value.isInt k v
  | .inr x, v => Value.isStrOf x v
def keyH (w : World) : Key → Int
  | .inl k => hashInt k
  | .inr x => hashStr w x
theorem keyIs_shape : ∀ {k : Key} {v : Value}, keyIs k v = true → (∃ i t, k = Sum.inl i ∧ v = Value.int i t) ∨ (∃ x t, k = Sum.inr x ∧ v = Value.str x t)
  | .inl i, v, h => by
    obtain ⟨t, e⟩ := Value.isInt_shape (k := i) (v := v) h
    exact .inl ⟨i, t, rfl, e⟩
  | .inr x, v, h => by
    obtain ⟨t, e⟩ := Value.isStrOf_shape (x := x) (v := v) h
    exact .inr ⟨x, t, rfl, e⟩
theorem keyIs_int (i : Int) (t : Tok) : keyIs (.inl i) (.int i t) = true := by simp [keyIs, Value.isInt]
theorem keyIs_str (x : Str) (t : Tok) : keyIs (.inr x) (.str x t) = true := by simp [keyIs, Value.isStrOf]
theorem key_ll (a b : Int) : decide ((Sum.inl a : Key) = Sum.inl b) = (a == b) := by
  by_cases e : a = b
  · subst e; simp
  · have h : ¬ (Sum.inl a : Key) = Sum.inl b := fun q => e (Sum.inl.inj q)
    rw [decide_eq_false h]
    exact (beq_eq_false_iff_ne.mpr e).symm
theorem key_rr (a b : Str) : decide ((Sum.inr a : Key) = Sum.inr b) = decide (a = b) := by
  by_cases e : a = b
  · subst e; simp
  · have h : ¬ (Sum.inr a : Key) = Sum.inr b := fun q => e (Sum.inr.inj q)
    rw [decide_eq_false h, decide_eq_false e]
theorem key_lr (a : Int) (b : Str) : decide ((Sum.inl a : Key) = Sum.inr b) = false := decide_eq_false (fun q => nomatch q)
theorem key_rl (a : Str) (b : Int) : decide ((Sum.inr a : Key) = Sum.inl b) = false := decide_eq_false (fun q => nomatch q)

def mixKind (prog : Program) (w : World) : PySem.KeyKind prog w Key where
  is := keyIs
  hash := keyH w
  inj := fun v a b ha hb => by
    rcases keyIs_shape ha with ⟨i, t, rfl, rfl⟩ | ⟨x, t, rfl, rfl⟩
    · rcases keyIs_shape hb with ⟨j, u, rfl, e⟩ | ⟨y, u, rfl, e⟩
      · injection e with e1 _; rw [e1]
      · exact nomatch e
    · rcases keyIs_shape hb with ⟨j, u, rfl, e⟩ | ⟨y, u, rfl, e⟩
      · exact nomatch e
      · injection e with e1 _; rw [e1]
  byValue := fun k v h => by
    rcases keyIs_shape h with ⟨i, t, rfl, rfl⟩ | ⟨x, t, rfl, rfl⟩ <;> rfl
  pyHash := fun hv h => by
    rcases keyIs_shape hv with ⟨i, t, rfl, rfl⟩ | ⟨x, t, rfl, rfl⟩
    · exact wpAny_pyHash_int h
    · exact wpAny_pyHash_str h
  eqBool := fun hu hv h => by
    rcases keyIs_shape hu with ⟨i, t, rfl, rfl⟩ | ⟨x, t, rfl, rfl⟩
    · rcases keyIs_shape hv with ⟨j, u, rfl, rfl⟩ | ⟨y, u, rfl, rfl⟩
      · rw [key_ll] at h; exact wpAny_eqBool_int h
      · rw [key_lr] at h; exact SeqAt.EqAt.int_str i t y u _ _ _ _ h
    · rcases keyIs_shape hv with ⟨j, u, rfl, rfl⟩ | ⟨y, u, rfl, rfl⟩
      · rw [key_rl] at h; exact SeqAt.EqAt.str_int x t j u _ _ _ _ h
      · rw [key_rr] at h; exact wpAny_eqBool_str h
  «strs» := fun k x t v h => by
    rcases keyIs_shape h with ⟨i, u, rfl, e⟩ | ⟨y, u, rfl, e⟩
    · exact nomatch e
    · injection e with e1 _
      subst e1
      cases v <;> rfl

theorem mixKind_int (prog : Program) (w : World) (i : Int) (t : Tok) : (mixKind prog w).is (.inl i) (.int i t) = true := keyIs_int i t
theorem mixKind_str (prog : Program) (w : World) (x : Str) (t : Tok) : (mixKind prog w).is (.inr x) (.str x t) = true := keyIs_str x t
end L2

namespace L2
open PySem PySem.Spec PyProof.Rows

/-- a value, without the heap -/
inductive V where
  | non | bl (b : Bool) | int (i : Int) | str (x : Str) | byt (b : Array UInt8) | flt (b : UInt64) | ref (a : Addr) | ty (n : String)
  deriving DecidableEq

def RelV : V → Value → Prop
  | .non, u => u = Value.none
  | .bl b, u => u = Value.bool b
  | .int i, u => ∃ t, u = Value.int i t
  | .str x, u => ∃ t, u = Value.str x t
  | .byt b, u => ∃ t, u = Value.bytes b t
  | .flt b, u => ∃ t, u = Value.float b t
  | .ref a, u => u = Value.ref a
  | .ty n, u => u = Value.type n

abbrev Vals : List V → List Value → Prop := Paired RelV
theorem Vals.length {xs : List V} {us : List Value} (r : Vals xs us) : xs.length = us.length := Paired.length r
theorem Vals.get : ∀ {xs : List V} {us : List Value} {i : Nat} {x : V}, Vals xs us → xs[i]? = some x → ∃ u, us[i]? = some u ∧ RelV x u
  | _, _, _, _, .nil, e => by simp at e
  | _, _, 0, _, .cons r _, e => by simp at e; subst e; exact ⟨_, rfl, r⟩
  | _, _, i + 1, x, .cons _ t, e => by
    obtain ⟨u, h1, h2⟩ := Vals.get (i := i) (x := x) t (by simpa using e)
    exact ⟨u, by simpa using h1, h2⟩
theorem Vals.append : ∀ {xs ys : List V} {us ws : List Value}, Vals xs us → Vals ys ws → Vals (xs ++ ys) (us ++ ws)
  | _, _, _, _, .nil, s => s
  | _, _, _, _, .cons r t, s => .cons r (Vals.append t s)
theorem Vals.take : ∀ {xs : List V} {us : List Value} (n : Nat), Vals xs us → Vals (xs.take n) (us.take n)
  | _, _, 0, _ => .nil
  | _, _, _ + 1, .nil => .nil
  | _, _, n + 1, .cons r t => .cons r (Vals.take n t)
theorem Vals.drop : ∀ {xs : List V} {us : List Value} (n : Nat), Vals xs us → Vals (xs.drop n) (us.drop n)
  | _, _, 0, r => r
  | _, _, _ + 1, .nil => .nil
  | _, _, n + 1, .cons _ t => Vals.drop n t
def RelO : Option V → Option Value → Prop
  | some v, some u => RelV v u
  | none, none => True
  | _, _ => False
def KV {κ : Type} : List (κ × V) → List (κ × Value) → Prop := Paired fun (p : κ × V) (q : κ × Value) => p.1 = q.1 ∧ RelV p.2 q.2

/-- a key of a dict (00_mix): an int or a text -/
def kV : Key → V
  | .inl i => .int i
  | .inr x => .str x

/-- what stands at a tracked address -/
inductive HO where
  /-- a list -/
  | lst (xs : List V)
  /-- a tuple (never changes) -/
  | tup (xs : List V)
  /-- a dict whose keys are ints and texts; one whose keys are tuples of ints and texts (the empty one is both) -/
  | dK (kvs : List (Key × V)) | dT (kvs : List (List Key × V))
  /-- a set of ints: its members, its size -/
  | set (S : Int → Bool) (n : Nat)
  /-- an instance of the class at C, its dict at dx, its attributes -/
  | ins (C dx : Addr) (fs : List (Str × V))
  /-- the dict of the instance at x -/
  | own (x : Addr)
  /-- the dict of an exception -/
  | xd (fs : List (Str × V))
  /-- a bound method, f of x -/
  | met (f x : Addr)
  /-- a range object lo, lo + 1, .. below hi -/
  | rng (lo hi : Int)
  /-- a thing that is known to the object (the script; a dict while a loop walks it): read, never written while it is so -/
  | frz (o : Obj) (u : HO)
  /-- a code object's table -/
  | tbl (ps : Array Value)
  /-- any other thing, by what is true of its one object (a def of one's own: SetO a S n := HO.ext fun h => ..) -/
  | ext (φ : Heap → Prop)

abbrev Hp := Addr → Option HO
def upd (H : Hp) (a : Addr) (o : HO) : Hp := fun b => if b = a then some o else H b
theorem upd_same {H : Hp} {a : Addr} {o : HO} : upd H a o a = some o := by unfold upd; rw [if_pos rfl]
theorem upd_ne {H : Hp} {a b : Addr} {o : HO} (h : b ≠ a) : upd H a o b = H b := by unfold upd; rw [if_neg h]
/-- two objects of different content stand apart -/
theorem ne_of {H : Hp} {a b : Addr} {o u : HO} (h : H a = some o) (h' : H b = some u) (d : o ≠ u) : a ≠ b := by
  intro e; subst e; rw [h] at h'; exact d (Option.some.inj h')
theorem ne_of_none {H : Hp} {a b : Addr} {o : HO} (h : H a = some o) (h' : H b = none) : a ≠ b := by
  intro e; subst e; rw [h] at h'; cases h'

section
variable (P : Program) (w : World)
def ObjOk (H : Hp) (h : Heap) (a : Addr) : HO → Prop
  | .lst xs => xs.length ≤ sizeLine ∧ ∃ (its : List Value) (n : Nat), Vals xs its ∧ h.get? a = some { cls := .type "list", data := .seq its.toArray n }
  | .tup xs => xs.length ≤ sizeLine ∧ ∃ its : List Value, Vals xs its ∧ IsTup h a its.toArray
  | .dK kvs => kvs.length ≤ sizeLine ∧ (a == sysModules) = false ∧ ∃ vs, KV kvs vs ∧ h.DictOf (mixKind P w) a vs
  | .dT kvs => kvs.length ≤ sizeLine ∧ (a == sysModules) = false ∧ ∃ xs : List (List Key × Addr × Value),
      Paired (fun (p : List Key × V) (q : List Key × Addr × Value) => p.1 = q.1 ∧ H q.2.1 = some (.tup (p.1.map kV)) ∧ RelV p.2 q.2.2) kvs xs ∧
      ∃ o es ep, h.get? a = some o ∧ o.ExactDict ∧ o.data = .dict es ep ∧ es.toList = xs.map (entryOfKey (tupleKind (mixKind P w))) ∧ (xs.map (·.1)).Nodup
  | .set S n => h.SetOf (intKind P w) a S n
  | .ins C dx fs => H dx = some (.own a) ∧ fs.length ≤ 1000 ∧ dx ≠ a ∧ h.get? a = some (PySem.W.instObj C dx) ∧
      ∃ mA, h.Ns1 dx mA ∧ (∀ f, RelO (fs.lookup f) (mA f)) ∧ PySem.Within mA (fs.map (·.1))
  | .own _ => ∃ o, h.get? a = some o
  | .xd fs => ∃ mA, h.Ns1 a mA ∧ ∀ f, RelO (fs.lookup f) (mA f)
  | .rng lo hi => ∃ t u v, h.get? a = some { cls := .type "range", data := .fields #[.int lo t, .int hi u, .int 1 v] }
  | .frz o u => h.get? a = some o ∧ ObjOk H h a u
  | .tbl ps => h.get? a = some { cls := .none, data := .fields ps }
  | .met f x => h.get? a = some (PySem.W.methodObj (.ref f) (.ref x))
  | .ext φ => φ h ∧ (∃ o, h.get? a = some o) ∧ ∀ h1 h2 : Heap, φ h1 → (∀ o, h1.get? a = some o → h2.get? a = some o) → φ h2
/-- the abstract heap is held -/
def HOk (H : Hp) (h : Heap) : Prop := ∀ a o, H a = some o → ObjOk P w H h a o
end

section
variable {P : Program} {w : World} {H H' : Hp} {h h' : Heap} {a : Addr} {o : HO}
theorem ObjOk.lt (x : ObjOk P w H h a o) : a < h.objs.size := by
  cases o with
  | lst xs => obtain ⟨_, _, _, _, e⟩ := x; exact Heap.lt_size e
  | tup xs => obtain ⟨_, _, _, p⟩ := x; exact p.lt
  | dK kvs => obtain ⟨_, _, _, _, o, _, _, e, _⟩ := x; exact Heap.lt_size e
  | dT kvs => obtain ⟨_, _, _, _, o, _, _, e, _⟩ := x; exact Heap.lt_size e
  | set S n => obtain ⟨o, _, _, _, e, _⟩ := x; exact Heap.lt_size e
  | ins C dx fs => obtain ⟨_, _, _, e, _⟩ := x; exact Heap.lt_size e
  | own y => obtain ⟨_, e⟩ := x; exact Heap.lt_size e
  | xd fs => obtain ⟨_, ⟨_, _, _, e, _⟩, _⟩ := x; exact Heap.lt_size e
  | rng lo hi => obtain ⟨_, _, _, e⟩ := x; exact Heap.lt_size e
  | frz ob u => obtain ⟨e, _⟩ := x; exact Heap.lt_size e
  | tbl ps => exact Heap.lt_size (show h.get? a = some _ from x)
  | met f y => exact Heap.lt_size (show h.get? a = some _ from x)
  | ext φ => obtain ⟨_, ⟨_, e⟩, _⟩ := x; exact Heap.lt_size e
theorem Paired.mapP {α β : Type} {F G : α → β → Prop} : ∀ {l₁ : List α} {l₂ : List β}, Paired F l₁ l₂ → (∀ a b, F a b → G a b) → Paired G l₁ l₂
  | _, _, .nil, _ => .nil
  | _, _, .cons r t, f => .cons (f _ _ r) (Paired.mapP t f)
/-- what an object's description leans on: its own object, its own dict, the tuples -/
theorem ObjOk.stay (x : ObjOk P w H h a o) (k : ∀ b u, (b = a ∨ H b = some (.own a)) → h.get? b = some u → h'.get? b = some u)
    (ho : ∀ b, H b = some (.own a) → H' b = some (.own a)) (ht : ∀ b xs, H b = some (.tup xs) → H' b = some (.tup xs)) : ObjOk P w H' h' a o := by
  induction o with
  | lst xs => obtain ⟨z, its, n, r, e⟩ := x; exact ⟨z, its, n, r, k _ _ (.inl rfl) e⟩
  | tup xs => obtain ⟨z, its, r, ob, e, c⟩ := x; exact ⟨z, its, r, ob, k _ _ (.inl rfl) e, c⟩
  | dK kvs => obtain ⟨z, y, vs, r, ob, es, ep, e, c⟩ := x; exact ⟨z, y, vs, r, ob, es, ep, k _ _ (.inl rfl) e, c⟩
  | dT kvs =>
    obtain ⟨z, y, xs, r, ob, es, ep, e, c⟩ := x
    exact ⟨z, y, xs, Paired.mapP r fun p q z => ⟨z.1, ht _ _ z.2.1, z.2.2⟩, ob, es, ep, k _ _ (.inl rfl) e, c⟩
  | set S n => obtain ⟨ob, es, ep, t, e, c⟩ := x; exact ⟨ob, es, ep, t, k _ _ (.inl rfl) e, c⟩
  | ins C dx fs =>
    obtain ⟨d, z, ne, e, mA, ⟨od, es, ep, e2, c⟩, r⟩ := x
    exact ⟨ho _ d, z, ne, k _ _ (.inl rfl) e, mA, ⟨od, es, ep, k _ _ (.inr d) e2, c⟩, r⟩
  | own y => obtain ⟨ob, e⟩ := x; exact ⟨ob, k _ _ (.inl rfl) e⟩
  | xd fs => obtain ⟨mA, ⟨od, es, ep, e, c⟩, r⟩ := x; exact ⟨mA, ⟨od, es, ep, k _ _ (.inl rfl) e, c⟩, r⟩
  | rng lo hi => obtain ⟨t, u, v, e⟩ := x; exact ⟨t, u, v, k _ _ (.inl rfl) e⟩
  | frz ob u ih => obtain ⟨e, q⟩ := x; exact ⟨k _ _ (.inl rfl) e, ih q⟩
  | tbl ps =>
    have e : h.get? a = some { cls := .none, data := .fields ps } := x
    show h'.get? a = some { cls := .none, data := .fields ps }
    exact k a _ (.inl rfl) e
  | met f y =>
    have e : h.get? a = some (PySem.W.methodObj (.ref f) (.ref y)) := x
    show h'.get? a = some (PySem.W.methodObj (.ref f) (.ref y))
    exact k a _ (.inl rfl) e
  | ext φ => obtain ⟨p, ⟨o, e⟩, st⟩ := x; exact ⟨st _ _ p fun o q => k _ _ (.inl rfl) q, ⟨o, k _ _ (.inl rfl) e⟩, st⟩
theorem HOk.lt (x : HOk P w H h) (e : H a = some o) : a < h.objs.size := (x a o e).lt
theorem HOk.fresh (x : HOk P w H h) (e : h.objs.size ≤ a) : H a = none := by
  cases q : H a with
  | none => rfl
  | some u => exact absurd (Nat.lt_of_lt_of_le (x.lt q) e) (Nat.lt_irrefl _)
/-- every object of the heap is kept -/
theorem HOk.kept (x : HOk P w H h) (k : ∀ b u, h.get? b = some u → h'.get? b = some u) : HOk P w H h' := fun a o e =>
  (x a o e).stay (fun b u _ q => k b u q) (fun _ q => q) fun _ _ q => q
/-- a new object is laid and tracked -/
theorem HOk.laid (x : HOk P w H h) (k : ∀ b u, h.get? b = some u → h'.get? b = some u) (hp : h.objs.size ≤ a) (new : ObjOk P w (upd H a o) h' a o) : HOk P w (upd H a o) h' := fun b u e => by
  have hn := x.fresh hp
  by_cases hb : b = a
  · subst hb; rw [upd_same] at e; cases e; exact new
  · rw [upd_ne hb] at e
    exact (x b u e).stay (fun c v _ q => k c v q) (fun c q => by rw [upd_ne (ne_of_none q hn)]; exact q) fun c xs q => by rw [upd_ne (ne_of_none q hn)]; exact q
end

/-- what may be read as u: it is u, or a known u -/
def Rd (H : Hp) (a : Addr) (u : HO) : Prop := H a = some u ∨ ∃ o, H a = some (.frz o u)
theorem Rd.ok {P : Program} {w : World} {H : Hp} {h : Heap} {a : Addr} {u : HO} (r : Rd H a u) (x : HOk P w H h) : ObjOk P w H h a u := by
  rcases r with r | ⟨o, r⟩
  · exact x a u r
  · obtain ⟨_, q⟩ := x a _ r
    exact q
/-- what may be written -/
def Mut : Option HO → Prop
  | some (.lst _) => True
  | some (.dK _) => True
  | some (.dT _) => True
  | some (.set _ _) => True
  | some (.ins _ _ _) => True
  | some (.ext _) => True
  | _ => False
section
variable {P : Program} {w : World} {H : Hp} {h h' : Heap} {x e : Addr} {o' : HO}
/-- the object at e is changed: x itself, or the dict of the instance x -/
theorem HOk.write (ok : HOk P w H h) (mu : Mut (H x)) (he : e = x ∨ H e = some (.own x)) (k : ∀ b u, b ≠ e → h.get? b = some u → h'.get? b = some u) (heo : ∃ u, h'.get? e = some u)
    (new : ObjOk P w (upd H x o') h' x o') : HOk P w (upd H x o') h' := fun b u q => by
  have nown : ∀ c y, H c = some (.own y) → c ≠ x := fun c y r z => by subst z; rw [r] at mu; exact mu
  have ntup : ∀ c xs, H c = some (.tup xs) → c ≠ x := fun c xs r z => by subst z; rw [r] at mu; exact mu
  by_cases hb : b = x
  · subst hb; rw [upd_same] at q; cases q; exact new
  · rw [upd_ne hb] at q
    by_cases hbe : b = e
    · have q' : H b = some (.own x) := by
        rcases he with z | z
        · exact absurd (hbe.trans z) hb
        · rw [hbe]; exact z
      rw [q] at q'; cases q'
      obtain ⟨v, hv⟩ := heo
      exact ⟨v, by rw [hbe]; exact hv⟩
    · refine (ok b u q).stay (fun c v hc r => k c v ?_ r) (fun c r => by rw [upd_ne (nown c b r)]; exact r) fun c xs r => by rw [upd_ne (ntup c xs r)]; exact r
      rcases hc with rfl | hc
      · exact hbe
      · rintro rfl
        rcases he with z | z
        · exact nown c b hc z
        · rw [hc] at z; cases z; exact hb rfl
end

/-! ### kept unless tracked; of the frames at fs (the callers') the slots may change (an exception that passes writes there); of the records at ex (iterators) nothing is said -/
structure Un (fs ex : List Addr) (H H' : Hp) (h h' : Heap) : Prop where
  keep : ∀ b o, h.get? b = some o → H b = none → b ∉ fs → b ∉ ex → h'.get? b = some o
  slot : ∀ b o, h.get? b = some o → H b = none → b ∈ fs → b ∉ ex → ∃ sl, h'.get? b = some { o with slots := sl }
  free : ∀ b o, h.get? b = some o → H b = none → b ∉ ex → H' b = none
  there : ∀ b o, h.get? b = some o → b ∉ ex → ∃ o', h'.get? b = some o'
  tups : ∀ b xs, H b = some (.tup xs) → H' b = some (.tup xs)
  frzs : ∀ b o u, H b = some (.frz o u) → H' b = some (.frz o u)
  tbls : ∀ b ps, H b = some (.tbl ps) → ∃ more, H' b = some (.tbl (ps ++ more))
section
variable {fs fs' ex ex' : List Addr} {H H1 H2 : Hp} {h h1 h2 h' : Heap} {a x e : Addr} {o : HO}
theorem Un.any (u : Un fs ex H H1 h h1) {b : Addr} {ob : Obj} (q : h.get? b = some ob) (n : H b = none) (hx : b ∉ ex) : ∃ sl, h1.get? b = some { ob with slots := sl } := by
  by_cases hb : b ∈ fs
  · exact u.slot b ob q n hb hx
  · exact ⟨ob.slots, u.keep b ob q n hb hx⟩
theorem Un.kept (k : ∀ b u, h.get? b = some u → h'.get? b = some u) : Un fs ex H H h h' :=
  ⟨fun b ob q _ _ _ => k b ob q, fun b ob q _ _ _ => ⟨ob.slots, k b ob q⟩, fun _ _ _ n _ => n, fun b ob q _ => ⟨ob, k b ob q⟩, fun _ _ q => q, fun _ _ _ q => q, fun _ ps q => ⟨#[], by rw [q]; simp⟩⟩
theorem Un.refl : Un fs ex H H h h := Un.kept fun _ _ q => q
theorem Un.laid (k : ∀ b u, h.get? b = some u → h'.get? b = some u) (hp : h.objs.size ≤ a) (hn : H a = none) : Un fs ex H (upd H a o) h h' where
  keep := fun b u q _ _ _ => k b u q
  slot := fun b u q _ _ _ => ⟨u.slots, k b u q⟩
  free := fun b u q n _ => by rw [upd_ne (Nat.ne_of_lt (Nat.lt_of_lt_of_le (Heap.lt_size q) hp))]; exact n
  there := fun b u q _ => ⟨u, k b u q⟩
  tups := fun b xs q => by rw [upd_ne (ne_of_none q hn)]; exact q
  frzs := fun b u xs q => by rw [upd_ne (ne_of_none q hn)]; exact q
  tbls := fun b ps q => ⟨#[], by rw [upd_ne (ne_of_none q hn), q]; simp⟩
theorem Un.write (mu : Mut (H x)) (he : e = x ∨ H e = some (.own x)) (k : ∀ b u, b ≠ e → h.get? b = some u → h'.get? b = some u) (heo : ∃ u, h'.get? e = some u) : Un fs ex H (upd H x o) h h' := by
  have hx : ∀ b, H b = none → b ≠ x := fun b n z => by subst z; rw [n] at mu; exact mu
  have hb : ∀ b, H b = none → b ≠ e := fun b n z => by
    subst z
    rcases he with r | r
    · exact hx b n r
    · rw [n] at r; cases r
  have hm : ∀ b u, H b = some u → ¬ Mut (some u) → b ≠ x := fun b u q nm z => by subst z; rw [q] at mu; exact nm mu
  refine ⟨fun b u q n _ _ => k b u (hb b n) q, fun b u q n _ _ => ⟨u.slots, k b u (hb b n) q⟩, fun b u q n _ => by rw [upd_ne (hx b n)]; exact n, fun b u q _ => ?_,
    fun b xs q => by rw [upd_ne (hm b _ q fun z => z)]; exact q, fun b u xs q => by rw [upd_ne (hm b _ q fun z => z)]; exact q, fun b ps q => ⟨#[], by rw [upd_ne (hm b _ q fun z => z), q]; simp⟩⟩
  by_cases hbe : b = e
  · subst hbe; exact heo
  · exact ⟨u, k b u hbe q⟩
end

/-! ### the heap without what is tracked -/
def trk (h : Heap) (H : Hp) : List Addr := (List.range h.objs.size).filter fun a => (H a).isSome
def hidT (h : Heap) (H : Hp) : Heap := PySem.W.hideAll h (trk h H)
theorem hidT_size (h : Heap) (H : Hp) : (hidT h H).objs.size = h.objs.size := PySem.W.hideAll_size _ _
theorem hidT_get {h : Heap} {H : Hp} {b : Addr} {o : Obj} (e : h.get? b = some o) (n : H b = none) : (hidT h H).get? b = some o :=
  PySem.W.hideAll_get _ e fun hm => by
    have q : (H b).isSome = true := (List.mem_filter.mp hm).2
    rw [n] at q; simp at q
theorem of_hidT {h : Heap} {H : Hp} {b : Addr} {o : Obj} (e : (hidT h H).get? b = some o) : h.get? b = some o ∧ H b = none := by
  have e' : h.get? b = some o := PySem.W.of_hideAll (trk h H) e
  refine ⟨e', ?_⟩
  cases q : H b with
  | none => rfl
  | some x =>
    have hm : b ∈ trk h H := List.mem_filter.mpr ⟨List.mem_range.mpr (Heap.lt_size e'), by simp [q]⟩
    have z : (hidT h H).get? b = none := PySem.W.hideAll_none (trk h H) hm
    rw [z] at e; cases e

/-! ### OpenK's ledger, filled with every new object but one -/
end L2

namespace L2
open PySem PySem.Spec PyProof.Rows

/-- the module's facts, over the base: the heap at the law's entry without what is tracked there -/
structure Mod (K : PySem.W.Frag) (mg : Str → Option Value) (base : Heap) : Prop where
  kin : K.In base
  glob : base.Ns mainGlobals mg
  blt : ∃ mb, base.Ns builtinsNs mb ∧ ∀ x : Str, x ≠ "__name__" → mb x = bootBuiltins x
  nolimit : base.NoLimit

/-- the context: a def's body (or a comprehension's block) running. base: fixed through the whole law; s₀, H₀: the entry; outer: the frames whose slots others may change (a def's callers); stack: all frames that run;
   ex: iterators that were made ahead of the entry and are walked here (a comprehension's); fn: the names whose cells were made at the entry (a def: all; a comprehension's block: its own); calm: not within an except suite; pn: pins that every state bears; xe: what is wanted of an exception that leaves the code -/
structure Cx where
  prog : Program
  w : World
  K : PySem.W.Frag
  mg : Str → Option Value
  base : Heap
  A : Around
  N : List Str
  s₀ : Shared
  H₀ : Hp
  env : Env
  outer : List Env
  stack : List Env
  ex : List Addr
  fn : Str → Bool
  calm : Bool
  pn : List (Addr × Obj)
  xe : Value → Shared → Prop
/-- the callers' frames -/
def frs (l : List Env) : List Addr := l.filterMap (·.frame)
abbrev Cx.fs (X : Cx) : List Addr := frs X.outer

def Vis (sc : Scope) (x : Str) : Prop := sc.names.lookup x = some .local ∨ sc.names.lookup x = some .cell ∨ sc.names.lookup x = some .free
def Loc (sc : Scope) (x : Str) : Prop := sc.names.lookup x = some .local ∨ sc.names.lookup x = some .cell
def Look (env : Env) (h : Heap) (m : Str → Option Value) (x : Str) (u : Value) : Prop :=
  (env.kindOf x = some .local ∧ m x = some u) ∨ ((env.kindOf x = some .cell ∨ env.kindOf x = some .free) ∧ ∃ c, env.cells.lookup x = some c ∧ h.IsCell c (some u))

structure Cx.Ok (X : Cx) : Prop where
  mod : Mod X.K X.mg X.base
  kind : X.env.scope.kind = .function
  glob : X.env.globals = mainGlobals
  blt : X.env.builtins = builtinsNs
  above : X.s₀.heap.objs.size ≤ X.env.locals
  inj : ∀ x y c, X.env.cells.lookup x = some c → X.env.cells.lookup y = some c → x = y
  has : ∀ x, (X.env.kindOf x = some .cell ∨ X.env.kindOf x = some .free) → ∃ c, X.env.cells.lookup x = some c
  cab : ∀ x c, X.fn x = true → X.env.cells.lookup x = some c → X.s₀.heap.objs.size ≤ c
  hd : X.calm = true → X.A.handled = none
  frames : X.A.frames = some X.stack
  stk : X.stack = X.outer ∨ (X.stack = X.env :: X.outer ∧ X.env.frame = some X.env.locals)
  exf : ∀ b ∈ X.ex, b ≠ X.env.locals ∧ ∀ x c, X.env.cells.lookup x = some c → c ≠ b
  bs : ∀ b o, X.base.get? b = some o → X.s₀.heap.get? b = some o ∧ X.H₀ b = none
  bsz : X.base.objs.size ≤ X.s₀.heap.objs.size
  noex : ∀ b o, X.base.get? b = some o → b ∉ X.ex
  exfs : ∀ b ∈ X.ex, b ∉ X.fs
  funs : X.s₀.heap.FunFrames X.base X.outer
  frf : ∀ b ∈ X.fs, X.H₀ b = none

structure Inv (X : Cx) (pins : List (Addr × Obj)) (σ : List (Option V)) (H : Hp) (s : Shared) : Prop where
  ok : X.Ok
  os : s.os = X.s₀.os
  bare : AllBare s.gens
  base : Un X.fs X.ex X.H₀ H X.s₀.heap s.heap
  loc : ∃ m, s.heap.Ns X.env.locals m ∧ ∀ (i : Nat) (x : Str) (v : V), X.N[i]? = some x → σ[i]? = some (some v) → Vis X.env.scope x → ∃ u, RelV v u ∧ Look X.env s.heap m x u
  cell : ∀ x c, X.env.cells.lookup x = some c → ∃ v, s.heap.IsCell c v
  free : H X.env.locals = none
  freeC : ∀ x c, X.env.cells.lookup x = some c → H c = none
  pin : ∀ p ∈ X.pn ++ pins, s.heap.get? p.1 = some p.2 ∧ H p.1 = none ∧ p.1 ≠ X.env.locals ∧ p.1 ∉ X.fs ∧ ∀ v, p.2.data ≠ .cell v
  hok : HOk X.prog X.w H s.heap
  len : σ.length = X.N.length

section
variable {X : Cx} {pins : List (Addr × Obj)} {σ : List (Option V)} {H H' : Hp} {s : Shared} {h' : Heap}

theorem Cx.Ok.nofr (ok : X.Ok) {b : Addr} {o : Obj} (e : X.base.get? b = some o) : b ∉ X.fs := fun hb => by
  have := (ok.funs.mem hb).1
  rw [e] at this; cases this
theorem Inv.bs (I : Inv X pins σ H s) : ∀ b o, X.base.get? b = some o → s.heap.get? b = some o ∧ H b = none := fun b o e =>
  ⟨I.base.keep b o (I.ok.bs b o e).1 (I.ok.bs b o e).2 (I.ok.nofr e) (I.ok.noex b o e), I.base.free b o (I.ok.bs b o e).1 (I.ok.bs b o e).2 (I.ok.noex b o e)⟩
theorem Inv.bk (I : Inv X pins σ H s) : ∀ b o, X.base.get? b = some o → s.heap.get? b = some o := fun b o e => (I.bs b o e).1
theorem Inv.mod (I : Inv X pins σ H s) : Mod X.K X.mg X.base := I.ok.mod
theorem Inv.kIn (I : Inv X pins σ H s) : X.K.In s.heap := I.ok.mod.kin.keeps I.bk
theorem Inv.lt (I : Inv X pins σ H s) : X.env.locals < s.heap.objs.size := let ⟨_, hn, _⟩ := I.loc; hn.lt
theorem Inv.sz (I : Inv X pins σ H s) : X.s₀.heap.objs.size ≤ s.heap.objs.size := Nat.le_trans I.ok.above (Nat.le_of_lt I.lt)
theorem Inv.nofs (I : Inv X pins σ H s) {a : Addr} (h : s.heap.objs.size ≤ a) : a ∉ X.fs := fun hb => by
  obtain ⟨_, o, ho, _⟩ := I.ok.funs.mem hb
  exact absurd (Nat.lt_of_lt_of_le (Heap.lt_size ho) (Nat.le_trans I.sz h)) (Nat.lt_irrefl _)
theorem Inv.cne (I : Inv X pins σ H s) : ∀ x c, X.env.cells.lookup x = some c → c ≠ X.env.locals := fun x c e z => by
  obtain ⟨v, o, ho, hd⟩ := I.cell x c e
  obtain ⟨m, ⟨o', es, ep, ho', hd', _⟩, _⟩ := I.loc
  rw [z, ho'] at ho; cases ho; rw [hd'] at hd; cases hd
theorem Inv.funs (I : Inv X pins σ H s) : s.heap.FunFrames X.base X.outer := by
  have all : ∀ (l : List Env), (∀ b ∈ frs l, b ∈ X.fs) → X.s₀.heap.FunFrames X.base l → s.heap.FunFrames X.base l := by
    intro l
    induction l with
    | nil => intro _ _; trivial
    | cons env r ih =>
      intro hs hl
      obtain ⟨hk, ⟨L, o, hf, hn, ho, hd⟩, hr⟩ := hl
      have hL : L ∈ X.fs := hs L (by unfold frs; rw [List.filterMap_cons, hf]; exact List.mem_cons_self)
      obtain ⟨sl, e⟩ := I.base.slot L o ho (I.ok.frf L hL) hL fun z => I.ok.exfs L z hL
      exact ⟨hk, ⟨L, _, hf, hn, e, hd⟩, ih (fun b hb => hs b (by unfold frs; rw [List.filterMap_cons, hf]; exact List.mem_cons_of_mem _ hb)) hr⟩
  exact all X.outer (fun _ hb => hb) I.ok.funs

/-- the frames that run, for a call -/
theorem Inv.stack (I : Inv X pins σ H s) : s.heap.FunFrames X.base X.stack := by
  rcases I.ok.stk with e | ⟨e, hf⟩
  · rw [e]; exact I.funs
  · rw [e]
    obtain ⟨m, hn, _⟩ := I.loc
    refine .cons (by rw [I.ok.kind]; decide) hf hn ?_ I.funs
    exact Heap.get?_none_of_le (Nat.le_trans I.ok.bsz I.ok.above)
theorem Inv.stkSub (I : Inv X pins σ H s) : ∀ b ∈ frs X.stack, b ∈ X.env.locals :: X.fs := fun b hb => by
  rcases I.ok.stk with e | ⟨e, hf⟩
  · rw [e] at hb; exact List.mem_cons_of_mem _ hb
  · rw [e] at hb
    unfold frs at hb
    rw [List.filterMap_cons, hf] at hb
    exact hb
theorem Inv.stkFree (I : Inv X pins σ H s) : ∀ b ∈ frs X.stack, H b = none := fun b hb => by
  rcases List.mem_cons.mp (I.stkSub b hb) with e | hb
  · rw [e]; exact I.free
  · obtain ⟨_, o, ho, _⟩ := I.ok.funs.mem hb
    exact I.base.free b o ho (I.ok.frf b hb) fun z => I.ok.exfs b z hb

/-- THE STEP: the untracked objects but the frame and the records at ch are kept (the callers' frames up to slots), the frame's map is kept, the new abstract heap is held -/
theorem Inv.step {g' : Array GenState} {t' : Nat} {d' : Drawn} {ch : List Addr} (I : Inv X pins σ H s)
    (hch : ∀ b ∈ ch, (b ∈ X.ex ∨ X.s₀.heap.objs.size ≤ b) ∧ b ≠ X.env.locals ∧ (∀ x c, X.env.cells.lookup x = some c → c ≠ b) ∧ ∀ p ∈ X.pn ++ pins, p.1 ≠ b)
    (keep : ∀ b o, b ≠ X.env.locals → b ∉ X.fs → b ∉ ch → s.heap.get? b = some o → H b = none → h'.get? b = some o)
    (slot : ∀ b o, b ≠ X.env.locals → b ∈ X.fs → b ∉ ch → s.heap.get? b = some o → H b = none → ∃ sl, h'.get? b = some { o with slots := sl }) (free : ∀ b o, b ∉ ch → s.heap.get? b = some o → H b = none → H' b = none)
    (there : ∀ b o, b ∉ ch → s.heap.get? b = some o → ∃ o', h'.get? b = some o')
    (tups : ∀ b xs, H b = some (.tup xs) → H' b = some (.tup xs)) (frzs : ∀ b o u, H b = some (.frz o u) → H' b = some (.frz o u)) (tbls : ∀ b ps, H b = some (.tbl ps) → ∃ more, H' b = some (.tbl (ps ++ more)))
    (ns : ∀ m, s.heap.Ns X.env.locals m → h'.Ns X.env.locals m) (hok : HOk X.prog X.w H' h') (hg : AllBare g') :
    Inv X pins σ H' { s with heap := h', gens := g', drawn := d', toks := t' } := by
  have neL : ∀ b o, X.s₀.heap.get? b = some o → b ≠ X.env.locals := fun b o e => Nat.ne_of_lt (Nat.lt_of_lt_of_le (Heap.lt_size e) I.ok.above)
  have neC : ∀ b o, X.s₀.heap.get? b = some o → b ∉ X.ex → b ∉ ch := fun b o e hx hb => by
    rcases (hch b hb).1 with z | z
    · exact hx z
    · exact absurd (Nat.lt_of_lt_of_le (Heap.lt_size e) z) (Nat.lt_irrefl _)
  have cellK : ∀ x c, X.env.cells.lookup x = some c → ∀ v, s.heap.IsCell c v → h'.IsCell c v := fun x c e v ⟨o, ho, hd⟩ => by
    have nch : c ∉ ch := fun z => (hch c z).2.2.1 x c e rfl
    by_cases hc : c ∈ X.fs
    · obtain ⟨sl, q⟩ := slot c o (I.cne x c e) hc nch ho (I.freeC x c e)
      exact ⟨_, q, hd⟩
    · exact ⟨o, keep c o (I.cne x c e) hc nch ho (I.freeC x c e), hd⟩
  refine ⟨I.ok, I.os, hg, ⟨fun b o e n hb hx => ?_, fun b o e n hb hx => ?_, fun b o e n hx => ?_, fun b o e hx => ?_, fun b xs e => tups b xs (I.base.tups b xs e), fun b o xs e => frzs b o xs (I.base.frzs b o xs e), fun b ps e => ?_⟩, ?_, fun x c e => ?_, ?_, fun x c e => ?_, fun p hp => ?_, hok, I.len⟩
  · exact keep b o (neL b o e) hb (neC b o e hx) (I.base.keep b o e n hb hx) (I.base.free b o e n hx)
  · obtain ⟨sl, e1⟩ := I.base.slot b o e n hb hx
    obtain ⟨sl', e2⟩ := slot b _ (neL b o e) hb (neC b o e hx) e1 (I.base.free b o e n hx)
    exact ⟨sl', e2⟩
  · obtain ⟨o', e1⟩ := I.base.there b o e hx
    exact free b o' (neC b o e hx) e1 (I.base.free b o e n hx)
  · obtain ⟨o', e1⟩ := I.base.there b o e hx
    exact there b o' (neC b o e hx) e1
  · obtain ⟨m1, e1⟩ := I.base.tbls b ps e
    obtain ⟨m2, e2⟩ := tbls b _ e1
    exact ⟨m1 ++ m2, by rw [e2, Array.append_assoc]⟩
  · obtain ⟨m, hn, hl⟩ := I.loc
    refine ⟨m, ns m hn, fun i x v e1 e2 e3 => ?_⟩
    obtain ⟨u, r, l⟩ := hl i x v e1 e2 e3
    refine ⟨u, r, ?_⟩
    rcases l with l | ⟨k, c, e, z⟩
    · exact .inl l
    · exact .inr ⟨k, c, e, cellK x c e _ z⟩
  · obtain ⟨v, z⟩ := I.cell x c e
    exact ⟨v, cellK x c e v z⟩
  · obtain ⟨m, ⟨o, _, _, ho, _⟩, _⟩ := I.loc
    exact free _ o (fun z => (hch _ z).2.1 rfl) ho I.free
  · obtain ⟨v, o, ho, hd⟩ := I.cell x c e
    exact free c o (fun z => (hch c z).2.2.1 x c e rfl) ho (I.freeC x c e)
  · obtain ⟨e, n, ne, nf, d⟩ := I.pin p hp
    have nch : p.1 ∉ ch := fun z => (hch p.1 z).2.2.2 p hp rfl
    exact ⟨keep p.1 p.2 ne nf nch e n, free p.1 p.2 nch e n, ne, nf, d⟩
/-- .. where the frame's own object is kept too -/
theorem Inv.un {t' : Nat} (I : Inv X pins σ H s) (u : Un X.fs [] H H' s.heap h') (hok : HOk X.prog X.w H' h') : Inv X pins σ H' { s with heap := h', toks := t' } := by
  obtain ⟨m, ⟨o, es, ep, ho, r⟩, _⟩ := id I.loc
  obtain ⟨sl, hL⟩ := u.any ho I.free (by simp)
  exact I.step (g' := s.gens) (d' := s.drawn) (ch := []) (fun _ z => nomatch z) (fun b o _ hb _ e n => u.keep b o e n hb (by simp)) (fun b o _ hb _ e n => u.slot b o e n hb (by simp)) (fun b o _ e n => u.free b o e n (by simp)) (fun b o _ e => u.there b o e (by simp)) u.tups u.frzs u.tbls (fun m' hm => by
    obtain ⟨o', es', ep', ho', r'⟩ := hm
    rw [ho] at ho'; cases ho'
    exact ⟨_, es', ep', hL, r'⟩) hok I.bare
/-- behind a call (or a comprehension's block): the slots of this frame may have changed too, the records at ch may have turned -/
theorem Inv.call {g' : Array GenState} {t' : Nat} {d' : Drawn} {ch : List Addr} (I : Inv X pins σ H s) (u : Un (frs X.stack) ch H H' s.heap h') (hok : HOk X.prog X.w H' h') (hg : AllBare g')
    (hch : ∀ b ∈ ch, (b ∈ X.ex ∨ X.s₀.heap.objs.size ≤ b) ∧ b ≠ X.env.locals ∧ (∀ x c, X.env.cells.lookup x = some c → c ≠ b) ∧ ∀ p ∈ X.pn ++ pins, p.1 ≠ b) :
    Inv X pins σ H' { s with heap := h', gens := g', drawn := d', toks := t' } := by
  obtain ⟨m, ⟨o, es, ep, ho, r⟩, _⟩ := id I.loc
  obtain ⟨sl, hL⟩ := u.any ho I.free fun z => (hch _ z).2.1 rfl
  exact I.step (ch := ch) hch (fun b o hL hb hc e n => u.keep b o e n (fun z => (List.mem_cons.mp (I.stkSub b z)).elim hL hb) hc) (fun b o _ _ hc e n => u.any e n hc) (fun b o hc e n => u.free b o e n hc) (fun b o hc e => u.there b o e hc) u.tups u.frzs u.tbls (fun m' hm => by
    obtain ⟨o', es', ep', ho', r'⟩ := hm
    rw [ho] at ho'; cases ho'
    exact ⟨_, es', ep', hL, r'⟩) hok hg
/-- an untracked record of ours (an iterator) has turned -/
theorem Inv.turned {t' : Nat} {it : Addr} (I : Inv X pins σ H s) (k : ∀ b o, b ≠ it → s.heap.get? b = some o → h'.get? b = some o) (hn : H it = none) (hL : it ≠ X.env.locals)
    (h1 : it ∈ X.ex ∨ X.s₀.heap.objs.size ≤ it) (h2 : ∀ x c, X.env.cells.lookup x = some c → c ≠ it) (h3 : ∀ p ∈ X.pn ++ pins, p.1 ≠ it) : Inv X pins σ H { s with heap := h', toks := t' } := by
  have nit : ∀ b u, H b = some u → b ≠ it := fun b u e z => by rw [z, hn] at e; cases e
  refine I.step (g' := s.gens) (d' := s.drawn) (ch := [it]) (fun b hb => ?_) (fun b o _ _ hc e _ => k b o (fun z => hc (by simp [z])) e) (fun b o _ _ hc e _ => ⟨o.slots, k b o (fun z => hc (by simp [z])) e⟩) (fun _ _ _ _ n => n)
    (fun b o hc e => ⟨o, k b o (fun z => hc (by simp [z])) e⟩) (fun _ _ e => e) (fun _ _ _ e => e) (fun b ps e => ⟨#[], by rw [e]; simp⟩) (fun m hm => ?_) (fun b u e => ?_) I.bare
  · have e : b = it := by simpa using hb
    subst e
    exact ⟨h1, hL, h2, h3⟩
  · obtain ⟨o, es, ep, ho, r⟩ := hm
    exact ⟨o, es, ep, k _ o (Ne.symm hL) ho, r⟩
  · refine (I.hok b u e).stay (fun c v hc q => k c v ?_ q) (fun _ q => q) fun _ _ q => q
    rcases hc with z | z
    · rw [z]; exact nit b u e
    · exact nit c _ z
theorem Inv.tok (I : Inv X pins σ H s) (t : Nat) : Inv X pins σ H { s with toks := t } := I.un (h' := s.heap) (t' := t) Un.refl I.hok
/-- all objects kept -/
theorem Inv.kept {t' : Nat} (I : Inv X pins σ H s) (k : ∀ b u, s.heap.get? b = some u → h'.get? b = some u) : Inv X pins σ H { s with heap := h', toks := t' } := I.un (Un.kept k) (I.hok.kept k)
/-- a new object laid and tracked -/
theorem Inv.laid {a : Addr} {o : HO} {t' : Nat} (I : Inv X pins σ H s) (k : ∀ b u, s.heap.get? b = some u → h'.get? b = some u) (hp : s.heap.objs.size ≤ a) (new : ObjOk X.prog X.w (upd H a o) h' a o) :
    Inv X pins σ (upd H a o) { s with heap := h', toks := t' } := I.un (Un.laid k hp (I.hok.fresh hp)) (I.hok.laid k hp new)
/-- an object written -/
theorem Inv.write {x e : Addr} {o : HO} {t' : Nat} (I : Inv X pins σ H s) (mu : Mut (H x)) (he : e = x ∨ H e = some (.own x)) (k : ∀ b u, b ≠ e → s.heap.get? b = some u → h'.get? b = some u) (heo : ∃ u, h'.get? e = some u)
    (new : ObjOk X.prog X.w (upd H x o) h' x o) : Inv X pins σ (upd H x o) { s with heap := h', toks := t' } := I.un (Un.write mu he k heo) (I.hok.write mu he k heo new)
theorem Inv.pins_of {pins' : List (Addr × Obj)} (I : Inv X pins σ H s) (h : ∀ p ∈ pins', s.heap.get? p.1 = some p.2 ∧ H p.1 = none ∧ p.1 ≠ X.env.locals ∧ p.1 ∉ X.fs ∧ ∀ v, p.2.data ≠ .cell v) : Inv X pins' σ H s :=
  ⟨I.ok, I.os, I.bare, I.base, I.loc, I.cell, I.free, I.freeC, fun p hp => (List.mem_append.mp hp).elim (fun z => I.pin p (List.mem_append_left _ z)) (h p), I.hok, I.len⟩

theorem nodup_ix {N : List Str} (hN : N.Nodup) {i j : Nat} {x : Str} (a : N[i]? = some x) (b : N[j]? = some x) : i = j := by
  obtain ⟨h1, e1⟩ := List.getElem?_eq_some_iff.mp a
  obtain ⟨h2, e2⟩ := List.getElem?_eq_some_iff.mp b
  exact (List.getElem_inj hN).mp (e1.trans e2.symm)

/-- a name is stored; what changed -/
theorem store_ok2 {M : Model} {A : Around} {E : Value → Shared → Prop} {i : Nat} {x : Str} {v : V} {u : Value} {Q : Unit → Shared → Prop} (I : Inv X pins σ H s) (hN : X.N.Nodup) (hi : X.N[i]? = some x) (hx : Loc X.env.scope x) (r : RelV v u)
    (h : ∀ s', Inv X pins (σ.set i (some v)) H s' → (∃ a, Heap.SameBut a s.heap s'.heap ∧ (a = X.env.locals ∨ X.env.cells.lookup x = some a)) → Q () s') (hf : X.fn x = true ∨ X.env.scope.names.lookup x = some .local := by first | exact .inl rfl | exact .inr rfl | assumption) : wpAny M A (storeName X.env x u) Q E s := by
  obtain ⟨m, hn, hl⟩ := id I.loc
  have hcls : (X.env.scope.kind == .class || (X.env.scope.kind == .module && X.env.locals != X.env.globals)) = false := by rw [I.ok.kind]; rfl
  have hiσ : i < σ.length := by rw [I.len]; exact (List.getElem?_eq_some_iff.mp hi).1
  have cne := I.cne
  have tracked : ∀ {a : Addr} {h' : Heap}, (∃ o, s.heap.get? a = some o ∧ H a = none) → Heap.SameBut a s.heap h' → HOk X.prog X.w H h' := fun {a h'} ha hs b ob e => by
    obtain ⟨_, _, hfree⟩ := ha
    refine (I.hok b ob e).stay (fun c w' hc q => (hs.2 c ?_).trans q) (fun _ q => q) fun _ _ q => q
    rintro rfl
    rcases hc with rfl | hc
    · rw [hfree] at e; cases e
    · rw [hfree] at hc; cases hc
  rcases hx with hk | hk
  · refine wpAny_storeName_local hk hn (fun h' hn' hs => ?_) hcls
    obtain ⟨oL, _, _, hoL, _⟩ := id hn
    refine h _ ⟨I.ok, I.os, I.bare, ⟨fun b o e n hb hx => ?_, fun b o e n hb hx => ?_, I.base.free, fun b o e hx => ?_, I.base.tups, I.base.frzs, I.base.tbls⟩, ⟨_, hn', fun j y v' e1 e2 e3 => ?_⟩, fun y c e => ?_, I.free, I.freeC, fun p hp => ?_, tracked ⟨oL, hoL, I.free⟩ hs, by simpa using I.len⟩ ⟨_, hs, .inl rfl⟩
    · exact (hs.2 b (Nat.ne_of_lt (Nat.lt_of_lt_of_le (Heap.lt_size e) I.ok.above))).trans (I.base.keep b o e n hb hx)
    · obtain ⟨sl, e1⟩ := I.base.slot b o e n hb hx
      exact ⟨sl, (hs.2 b (Nat.ne_of_lt (Nat.lt_of_lt_of_le (Heap.lt_size e) I.ok.above))).trans e1⟩
    · obtain ⟨o', e1⟩ := I.base.there b o e hx
      exact ⟨o', (hs.2 b (Nat.ne_of_lt (Nat.lt_of_lt_of_le (Heap.lt_size e) I.ok.above))).trans e1⟩
    · by_cases hj : j = i
      · subst hj
        rw [hi] at e1; cases e1
        rw [List.getElem?_set_self hiσ] at e2
        cases e2
        exact ⟨u, r, .inl ⟨hk, by simp⟩⟩
      · rw [List.getElem?_set_ne (Ne.symm hj)] at e2
        obtain ⟨u', r', q⟩ := hl j y v' e1 e2 e3
        refine ⟨u', r', ?_⟩
        rcases q with ⟨k, e⟩ | ⟨k, c, e, z⟩
        · refine .inl ⟨k, ?_⟩
          have : y ≠ x := fun e => hj (nodup_ix hN e1 (e ▸ hi))
          simp [this, e]
        · exact .inr ⟨k, c, e, z.sameBut hs (cne y c e)⟩
    · obtain ⟨w', z⟩ := I.cell y c e
      exact ⟨w', z.sameBut hs (cne y c e)⟩
    · obtain ⟨e, n, ne, nf, d⟩ := I.pin p hp
      exact ⟨(hs.2 p.1 ne).trans e, n, ne, nf, d⟩
  · have hfn : X.fn x = true := by
      rcases hf with z | z
      · exact z
      · rw [z] at hk; cases hk
    obtain ⟨c, hc⟩ := I.ok.has x (.inl hk)
    obtain ⟨w', z⟩ := I.cell x c hc
    refine wpAny_storeName_cell I.ok.kind hk hc z (fun h' hc' hs => ?_)
    obtain ⟨oc, hoc, hocd⟩ := id z
    refine h { s with heap := h' } ⟨I.ok, I.os, I.bare, ⟨fun b o e n hb hx => ?_, fun b o e n hb hx => ?_, I.base.free, fun b o e hx => ?_, I.base.tups, I.base.frzs, I.base.tbls⟩, ⟨m, hn.sameBut hs (Ne.symm (cne x c hc)), fun j y v' e1 e2 e3 => ?_⟩, fun y c' e => ?_, I.free, I.freeC, fun p hp => ?_, tracked ⟨oc, hoc, I.freeC x c hc⟩ hs, by simpa using I.len⟩ ⟨c, hs, .inr hc⟩
    · exact (hs.2 b (Nat.ne_of_lt (Nat.lt_of_lt_of_le (Heap.lt_size e) (I.ok.cab x c hfn hc)))).trans (I.base.keep b o e n hb hx)
    · obtain ⟨sl, e1⟩ := I.base.slot b o e n hb hx
      exact ⟨sl, (hs.2 b (Nat.ne_of_lt (Nat.lt_of_lt_of_le (Heap.lt_size e) (I.ok.cab x c hfn hc)))).trans e1⟩
    · obtain ⟨o', e1⟩ := I.base.there b o e hx
      exact ⟨o', (hs.2 b (Nat.ne_of_lt (Nat.lt_of_lt_of_le (Heap.lt_size e) (I.ok.cab x c hfn hc)))).trans e1⟩
    · by_cases hj : j = i
      · subst hj
        rw [hi] at e1; cases e1
        rw [List.getElem?_set_self hiσ] at e2
        cases e2
        exact ⟨u, r, .inr ⟨.inl hk, c, hc, hc'⟩⟩
      · rw [List.getElem?_set_ne (Ne.symm hj)] at e2
        obtain ⟨u', r', q⟩ := hl j y v' e1 e2 e3
        refine ⟨u', r', ?_⟩
        rcases q with q | ⟨k, c', e, z'⟩
        · exact .inl q
        · refine .inr ⟨k, c', e, z'.sameBut hs ?_⟩
          rintro rfl
          exact hj (nodup_ix hN e1 (I.ok.inj _ _ _ e hc ▸ hi))
    · by_cases hcc : c' = c
      · subst hcc; exact ⟨_, hc'⟩
      · obtain ⟨w2, z2⟩ := I.cell y c' e
        exact ⟨w2, z2.sameBut hs hcc⟩
    · obtain ⟨e, n, ne, nf, d⟩ := I.pin p hp
      refine ⟨(hs.2 p.1 ?_).trans e, n, ne, nf, d⟩
      intro q
      rw [q, hoc] at e
      have q' : oc = p.2 := Option.some.inj e
      exact d w' (by rw [← q']; exact hocd)
theorem store_ok {M : Model} {A : Around} {E : Value → Shared → Prop} {i : Nat} {x : Str} {v : V} {u : Value} {Q : Unit → Shared → Prop} (I : Inv X pins σ H s) (hN : X.N.Nodup) (hi : X.N[i]? = some x) (hx : Loc X.env.scope x) (r : RelV v u)
    (h : ∀ s', Inv X pins (σ.set i (some v)) H s' → Q () s') (hf : X.fn x = true ∨ X.env.scope.names.lookup x = some .local := by first | exact .inl rfl | exact .inr rfl | assumption) : wpAny M A (storeName X.env x u) Q E s :=
  store_ok2 I hN hi hx r (fun s' I' _ => h s' I') hf
/-- behind a call or a block, the state as it is -/
theorem Inv.call' {s' : Shared} {ch : List Addr} (I : Inv X pins σ H s) (ho : s'.os = s.os) (u : Un (frs X.stack) ch H H' s.heap s'.heap) (hok : HOk X.prog X.w H' s'.heap) (hg : AllBare s'.gens)
    (hch : ∀ b ∈ ch, (b ∈ X.ex ∨ X.s₀.heap.objs.size ≤ b) ∧ b ≠ X.env.locals ∧ (∀ x c, X.env.cells.lookup x = some c → c ≠ b) ∧ ∀ p ∈ X.pn ++ pins, p.1 ≠ b) : Inv X pins σ H' s' := by
  obtain ⟨h', g', d', t', o'⟩ := s'
  have e : o' = s.os := ho
  subst e
  exact I.call (g' := g') (t' := t') (d' := d') u hok hg hch
end

/-! ### the judgements -/
/-- an exception: its class, its own dict's address (where it has one), the abstract heap behind it -/
abbrev XK := Value → Option Addr → Hp → Prop
abbrev St := List (Option V)
abbrev VK := V → Hp → Prop
/-- an expression's reading; a test's; an argument list's -/
abbrev TE := St → Hp → VK → Prop
abbrev TT := St → Hp → (Bool → Hp → Prop) → Prop
abbrev TA := St → Hp → (List V → Hp → Prop) → Prop
/-- what is wanted behind a statement -/
structure Ends where
  nx : St → Hp → Prop
  rt : VK
  bk : St → Hp → Prop := fun _ _ => False
  ct : St → Hp → Prop := fun _ _ => False
abbrev TS := Ends → St → Hp → Prop

def EP (X : Cx) (pins : List (Addr × Obj)) (σ : St) (Q : VK) (u : Value) (s' : Shared) : Prop := ∃ v H', Inv X pins σ H' s' ∧ RelV v u ∧ Q v H'
def TP (X : Cx) (pins : List (Addr × Obj)) (σ : St) (Q : Bool → Hp → Prop) (b : Bool) (s' : Shared) : Prop := ∃ H', Inv X pins σ H' s' ∧ Q b H'
def AP (X : Cx) (pins : List (Addr × Obj)) (σ : St) (Q : List V → Hp → Prop) (us : List Value) (s' : Shared) : Prop := ∃ vs H', Inv X pins σ H' s' ∧ Vals vs us ∧ Q vs H'
def SP (X : Cx) (pins : List (Addr × Obj)) (D : Ends) (f : Flow) (s' : Shared) : Prop :=
  match f with
  | .next => ∃ σ' H', Inv X pins σ' H' s' ∧ D.nx σ' H'
  | .brk => ∃ σ' H', Inv X pins σ' H' s' ∧ D.bk σ' H'
  | .cont => ∃ σ' H', Inv X pins σ' H' s' ∧ D.ct σ' H'
  | .ret u => ∃ v σ' H', Inv X pins σ' H' s' ∧ RelV v u ∧ D.rt v H'

def PE (X : Cx) (e : Expr) (t : TE) : Prop :=
  ∀ (pins : List (Addr × Obj)) (s : Shared) (σ : St) (H : Hp) (Q : VK), Inv X pins σ H s → t σ H Q → wpAny (model X.prog X.w) X.A (eval e X.env) (EP X pins σ Q) X.xe s
def PT (X : Cx) (e : Expr) (t : TT) : Prop :=
  ∀ (pins : List (Addr × Obj)) (s : Shared) (σ : St) (H : Hp) (Q : Bool → Hp → Prop), Inv X pins σ H s → t σ H Q → wpAny (model X.prog X.w) X.A (isTrue e X.env (eval e X.env)) (TP X pins σ Q) X.xe s
/-- a test whatever its 'whole' is (and, or) -/
def PW (X : Cx) (e : Expr) (t : TT) : Prop :=
  ∀ (whole : Sem Value) (pins : List (Addr × Obj)) (s : Shared) (σ : St) (H : Hp) (Q : Bool → Hp → Prop), Inv X pins σ H s → t σ H Q → wpAny (model X.prog X.w) X.A (isTrue e X.env whole) (TP X pins σ Q) X.xe s
theorem PW.pt {X : Cx} {e : Expr} {t : TT} (h : PW X e t) : PT X e t := h _
/-- an argument list (no star), from the left -/
def PA (X : Cx) (es : List Expr) (t : TA) : Prop :=
  ∀ (pos : Pos) (pins : List (Addr × Obj)) (s : Shared) (σ : St) (H : Hp) (Q : List V → Hp → Prop), Inv X pins σ H s → t σ H Q → wpAny (model X.prog X.w) X.A (spliced (backTo pos (starEach es X.env))) (AP X pins σ Q) X.xe s
def PS (X : Cx) (st : Stmt) (t : TS) : Prop :=
  ∀ (pins : List (Addr × Obj)) (s : Shared) (σ : St) (H : Hp) (D : Ends), Inv X pins σ H s → t D σ H → wpAny (model X.prog X.w) X.A (exec st X.env) (SP X pins D) X.xe s
def PSs (X : Cx) (st : List Stmt) (t : TS) : Prop :=
  ∀ (pins : List (Addr × Obj)) (s : Shared) (σ : St) (H : Hp) (D : Ends), Inv X pins σ H s → t D σ H → wpAny (model X.prog X.w) X.A (execs st X.env) (SP X pins D) X.xe s
/-- weaken the end -/
theorem thn {α : Type} {t : Sem α} {Q Q' : α → Shared → Prop} {M : Model} {A : Around} {E : Value → Shared → Prop} {s : Shared} (h : wpAny M A t Q E s) (hQ : ∀ a s, Q a s → Q' a s) : wpAny M A t Q' E s := wpAny_mono h hQ fun _ _ x => x
end L2

namespace L2
open PySem PySem.Spec PyProof.Rows
section
variable {X : Cx}

/-! ### names and constants -/
def tVar (i : Nat) : TE := fun σ H Q => ∃ v, σ[i]? = some (some v) ∧ Q v H
def tC (v : V) : TE := fun _ H Q => Q v H
theorem pe_var {i : Nat} {x : Str} {pos : Pos} (hN : X.N[i]? = some x) (hv : Vis X.env.scope x) (hd : (x == ("__debug__" : Str)) = false := by decide) (hcd : (x == ("__classdict__" : Str)) = false := by decide) : PE X (.Name x pos) (tVar i) := by
  intro pins s σ H Q I h
  obtain ⟨v, e, h⟩ := h
  obtain ⟨m, hn, hl⟩ := I.loc
  obtain ⟨u, r, l⟩ := hl i x v hN e hv
  have fin : EP X pins σ Q u s := ⟨v, H, I, r, h⟩
  rcases l with ⟨hk, hm⟩ | ⟨hk, c, hc, hcell⟩
  · exact wpAny_Name (wpAny_loadName_local I.ok.kind hk hn hm fin) hd
  · rcases hk with hk | hk
    · exact wpAny_Name (wpAny_loadName_cell I.ok.kind hk hc hcell fin) hd
    · exact wpAny_Name (wpAny_loadName_free I.ok.kind hk hc hcell fin hcd) hd
theorem pe_int {i j pos} : PE X (.Constant (.int i) j pos) (tC (.int i)) := fun _ _ _ H _ I h => wpAny_Constant_int ⟨.int i, H, I.tok _, ⟨_, rfl⟩, h⟩
theorem pe_bl {b j pos} : PE X (.Constant (.bool b) j pos) (tC (.bl b)) := fun _ _ _ H _ I h => Constant_bool ⟨.bl b, H, I, rfl, h⟩
theorem pe_non {j pos} : PE X (.Constant .none j pos) (tC .non) := fun _ _ _ H _ I h => Constant_none ⟨.non, H, I, rfl, h⟩
theorem pe_str {x j pos} : PE X (.Constant (.str x) j pos) (tC (.str x)) := fun _ _ _ H _ I h => Calls.Constant_str ⟨.str x, H, I.tok _, ⟨_, rfl⟩, h⟩

/-- a global name of the def -/
def Gl (X : Cx) (x : Str) : Prop := X.env.kindOf x = some .globalImplicit
theorem ld_glob {E : Value → Shared → Prop} {pins : List (Addr × Obj)} {s : Shared} {σ : St} {H : Hp} {x : Str} {u : Value} {pos : Pos} {Q : Value → Shared → Prop} (I : Inv X pins σ H s) (hg : Gl X x) (hm : X.mg x = some u) (h : Q u s)
    (hd : (x == ("__debug__" : Str)) = false := by decide) : wpAny (model X.prog X.w) X.A (eval (.Name x pos) X.env) Q E s :=
  Calls.Name_function_global I.ok.kind hg (Calls.loadGlobal_global (by rw [I.ok.glob]; exact I.mod.glob.keeps I.bk) hm h) hd
theorem ld_blt {E : Value → Shared → Prop} {pins : List (Addr × Obj)} {s : Shared} {σ : St} {H : Hp} {x : Str} {u : Value} {pos : Pos} {Q : Value → Shared → Prop} (I : Inv X pins σ H s) (hg : Gl X x) (hm : X.mg x = none) (hv : bootBuiltins x = some u) (h : Q u s)
    (hn : x ≠ "__name__" := by decide) (hd : (x == ("__debug__" : Str)) = false := by decide) : wpAny (model X.prog X.w) X.A (eval (.Name x pos) X.env) Q E s := by
  obtain ⟨mb, h1, h2⟩ := I.mod.blt
  exact Calls.Name_function_global I.ok.kind hg (Calls.loadGlobal_builtin (by rw [I.ok.glob]; exact I.mod.glob.keeps I.bk) hm (by rw [I.ok.blt]; exact h1.keeps I.bk) ((h2 x hn).trans hv) h) hd
/-- a module's constant, a class, a function, as a value -/
theorem pe_glob {x : Str} {v : V} {u : Value} {pos : Pos} (hg : Gl X x) (hm : X.mg x = some u) (r : RelV v u) (hd : (x == ("__debug__" : Str)) = false := by decide) : PE X (.Name x pos) (tC v) :=
  fun _ _ _ H _ I h => ld_glob I hg hm ⟨v, H, I, r, h⟩ hd
theorem pe_bltn {x : Str} {v : V} {u : Value} {pos : Pos} (hg : Gl X x) (hm : X.mg x = none) (hv : bootBuiltins x = some u) (r : RelV v u) (hn : x ≠ "__name__" := by decide) (hd : (x == ("__debug__" : Str)) = false := by decide) : PE X (.Name x pos) (tC v) :=
  fun _ _ _ H _ I h => ld_blt I hg hm hv ⟨v, H, I, r, h⟩ hn hd

/-! ### arithmetic -/
variable {a b : Expr} {ta tb : TE} {pos : Pos}
/-! ### comparisons -/
def PC (X : Cx) (op : CmpOp) (a b : Expr) (t : TE) : Prop :=
  ∀ (pins : List (Addr × Obj)) (s : Shared) (σ : St) (H : Hp) (Q : VK), Inv X pins σ H s → t σ H Q →
    wpAny (model X.prog X.w) X.A (eval a X.env) (fun v s₁ => wpAny (model X.prog X.w) X.A (eval b X.env) (fun u s₂ => wpAny (model X.prog X.w) X.A (compareOp op v u) (EP X pins σ Q) X.xe s₂) X.xe s₁) X.xe s
/-- a comparison as a value, as a test -/
def tB (t : TE) : TT := fun σ H Q => t σ H fun x H1 => ∃ c, x = .bl c ∧ Q c H1
theorem pt_cmp {op : CmpOp} {t : TE} (h : PC X op a b t) (h1 : behindInMarks op b = false := by first | exact nobehind _ (by decide) (by decide) | rfl) : PT X (.Compare a [op] [b] pos) (tB t) := by
  intro pins s σ H Q I hw
  refine wpAny_isTrue_Compare1 (thn (h pins s σ H _ I hw) fun v s1 h1 => thn h1 fun u s2 h2 => thn h2 fun c s3 ⟨x, H1, I1, r1, q1⟩ => ?_) h1
  obtain ⟨d, rfl, q⟩ := q1
  cases r1
  exact wpAny_truthy_bool ⟨H1, I1, q⟩
/-- an expression whose value is a bool, as a test -/
theorem pt_val {e : Expr} {t : TE} (h : PE X e t) (he : ∀ whole, isTrue e X.env whole = (do let v ← whole; standAt e.pos; holding [v] (truthy v)) := by intro _; rfl) : PT X e (tB t) := by
  intro pins s σ H Q I hw
  refine isTrue_plain (thn (h pins s σ H _ I hw) fun v s1 ⟨x, H1, I1, r1, q1⟩ => ?_) (he _)
  obtain ⟨d, rfl, q⟩ := q1
  cases r1
  exact wpAny_truthy_bool ⟨H1, I1, q⟩

/-! ### and, or, not -/
variable {tA tB' : TT} {rest : List Expr}
def tAnd (t u : TT) : TT := fun σ H Q => t σ H fun c H1 => if c = true then u σ H1 Q else Q false H1
def tOr (t u : TT) : TT := fun σ H Q => t σ H fun c H1 => if c = true then Q true H1 else u σ H1 Q
def tNot (t : TT) : TT := fun σ H Q => t σ H fun c H1 => Q (!c) H1
theorem pw_and1 (ha : PT X a tA) : PW X (.BoolOp .And [a] pos) tA := by
  intro wh pins s σ H Q I h
  refine isTrue_and (thn (ha pins s σ H Q I h) fun c s1 e => ?_)
  cases c with
  | true => exact isTrue_and_nil e
  | false => exact e
theorem pw_or1 (ha : PT X a tA) : PW X (.BoolOp .Or [a] pos) tA := by
  intro wh pins s σ H Q I h
  refine isTrue_or (thn (ha pins s σ H Q I h) fun c s1 e => ?_)
  cases c with
  | false => exact isTrue_or_nil e
  | true => exact e
theorem pw_and (ha : PT X a tA) (hb : PW X (.BoolOp .And (b :: rest) pos) tB') : PW X (.BoolOp .And (a :: b :: rest) pos) (tAnd tA tB') := by
  intro wh pins s σ H Q I h
  refine isTrue_and (thn (ha pins s σ H _ I h) fun c s1 ⟨H1, I1, q1⟩ => ?_)
  cases c with
  | true => exact hb wh pins s1 σ H1 Q I1 q1
  | false => exact ⟨H1, I1, q1⟩
theorem pw_or (ha : PT X a tA) (hb : PW X (.BoolOp .Or (b :: rest) pos) tB') : PW X (.BoolOp .Or (a :: b :: rest) pos) (tOr tA tB') := by
  intro wh pins s σ H Q I h
  refine isTrue_or (thn (ha pins s σ H _ I h) fun c s1 ⟨H1, I1, q1⟩ => ?_)
  cases c with
  | true => exact ⟨H1, I1, q1⟩
  | false => exact hb wh pins s1 σ H1 Q I1 q1
theorem pt_not (ha : PT X a tA) : PT X (.UnaryOp .Not a pos) (tNot tA) := by
  intro pins s σ H Q I h
  exact isTrue_not (ha pins s σ H (fun c H1 => Q (!c) H1) I h)
/-- .. as values (bools) -/
def tAndV (ta tb : TE) : TE := fun σ H Q => ta σ H fun x H1 => ∃ c, x = .bl c ∧ if c = true then tb σ H1 Q else Q (.bl false) H1
def tNotV (ta : TE) : TE := fun σ H Q => ta σ H fun x H1 => ∃ c, x = .bl c ∧ Q (.bl (!c)) H1
theorem pe_one {op} {t : TE} (h : PE X a t) : PE X (.BoolOp op [a] pos) t := fun pins s σ H Q I hw => BoolOp_one (h pins s σ H Q I hw)
theorem pe_and (ha : PE X a ta) (hb : PE X (.BoolOp .And (b :: rest) pos) tb) : PE X (.BoolOp .And (a :: b :: rest) pos) (tAndV ta tb) := by
  intro pins s σ H Q I h
  refine BoolOp_and (thn (ha pins s σ H _ I h) fun v s1 ⟨x, H1, I1, r1, q1⟩ => ?_)
  obtain ⟨c, rfl, q1⟩ := q1
  cases r1
  refine wpAny_truthy_bool ?_
  cases c with
  | true => exact hb pins s1 σ H1 Q I1 q1
  | false => exact ⟨.bl false, H1, I1, rfl, q1⟩
theorem pe_not (ha : PE X a ta) : PE X (.UnaryOp .Not a pos) (tNotV ta) := by
  intro pins s σ H Q I h
  refine UnaryOp_ (thn (ha pins s σ H _ I h) fun v s1 ⟨x, H1, I1, r1, q1⟩ => ?_)
  obtain ⟨c, rfl, q1⟩ := q1
  cases r1
  exact not_of (wpAny_truthy_bool ⟨.bl (!c), H1, I1, rfl, q1⟩)
/-- a if t else b -/
def tIf (t : TT) (ta tb : TE) : TE := fun σ H Q => t σ H fun c H1 => if c = true then ta σ H1 Q else tb σ H1 Q
theorem pe_ifExp {c : Expr} (hc : PT X c tA) (ha : PE X a ta) (hb : PE X b tb) : PE X (.IfExp c a b pos) (tIf tA ta tb) := by
  intro pins s σ H Q I h
  refine wpAny_IfExp (thn (hc pins s σ H _ I h) fun d s1 ⟨H1, I1, q1⟩ => ?_)
  cases d with
  | true => exact ha pins s1 σ H1 Q I1 q1
  | false => exact hb pins s1 σ H1 Q I1 q1
end
end L2

namespace L2
open PySem PySem.Spec PyProof.Rows

/-! ### a list, a tuple that is read: tracked, frozen, or an object of the module -/
def SqL (K : PySem.W.Frag) (H : Hp) (a : Addr) (xs : List V) : Prop :=
  Rd H a (.lst xs) ∨
    ∃ (o : Obj) (its : Array Value) (n : Nat), K.lookup a = some o ∧ o.cls = .type "list" ∧ o.dict = none ∧ o.data = .seq its n ∧ its.size ≤ sizeLine ∧ Vals xs its.toList
def SqT (K : PySem.W.Frag) (H : Hp) (a : Addr) (xs : List V) : Prop :=
  Rd H a (.tup xs) ∨
    ∃ (o : Obj) (its : Array Value) (n : Nat), K.lookup a = some o ∧ o.cls = .type "tuple" ∧ o.data = .seq its n ∧ its.size ≤ sizeLine ∧ Vals xs its.toList
def absV : Value → Option V
  | .none => some .non
  | .bool b => some (.bl b)
  | .int i _ => some (.int i)
  | .str x _ => some (.str x)
  | .bytes b _ => some (.byt b)
  | .float b _ => some (.flt b)
  | .ref a => some (.ref a)
  | .type n => some (.ty n)
  | _ => none
theorem RelV.abs {x : V} {u : Value} (r : RelV x u) : absV u = some x := by
  cases x with
  | non => cases r; rfl
  | bl _ => cases r; rfl
  | int _ => obtain ⟨t, rfl⟩ := r; rfl
  | str _ => obtain ⟨t, rfl⟩ := r; rfl
  | byt _ => obtain ⟨t, rfl⟩ := r; rfl
  | flt _ => obtain ⟨t, rfl⟩ := r; rfl
  | ref _ => cases r; rfl
  | ty _ => cases r; rfl
theorem RelV.inj {x y : V} {u : Value} (r : RelV x u) (q : RelV y u) : x = y := Option.some.inj (r.abs.symm.trans q.abs)
theorem Vals.inj : ∀ {xs ys : List V} {us : List Value}, Vals xs us → Vals ys us → xs = ys
  | _, _, _, .nil, .nil => rfl
  | _, _, _, .cons r t, .cons r' t' => by rw [r.inj r', Vals.inj t t']
section
variable {X : Cx} {pins : List (Addr × Obj)} {σ : St} {H : Hp} {s : Shared} {a : Addr} {xs ys : List V}
theorem SqL.of {K : PySem.W.Frag} (h : H a = some (.lst xs)) : SqL K H a xs := .inl (.inl h)
theorem SqT.of {K : PySem.W.Frag} (h : H a = some (.tup xs)) : SqT K H a xs := .inl (.inl h)
theorem Inv.list (I : Inv X pins σ H s) (h : SqL X.K H a xs) : ∃ its : List Value, Vals xs its ∧ PlainL s.heap a its.toArray ∧ xs.length ≤ sizeLine := by
  rcases h with h | ⟨o, its, n, hk, hc, hd, hs, hz, r⟩
  · obtain ⟨z, its, n, r, e⟩ := h.ok I.hok
    exact ⟨its, r, ⟨_, n, e, rfl, rfl, rfl⟩, z⟩
  · refine ⟨its.toList, r, ⟨o, n, I.kIn a o hk, hc, hd, by simpa using hs⟩, ?_⟩
    have e := r.length
    simp only [Array.length_toList] at e
    omega
theorem Inv.tuple (I : Inv X pins σ H s) (h : SqT X.K H a xs) : ∃ its : List Value, Vals xs its ∧ IsTup s.heap a its.toArray ∧ xs.length ≤ sizeLine := by
  rcases h with h | ⟨o, its, n, hk, hc, hs, hz, r⟩
  · obtain ⟨z, its, r, p⟩ := h.ok I.hok
    exact ⟨its, r, p, z⟩
  · refine ⟨its.toList, r, ⟨o, I.kIn a o hk, hc, n, by simpa using hs⟩, ?_⟩
    have e := r.length
    simp only [Array.length_toList] at e
    omega
theorem Inv.list_inj (I : Inv X pins σ H s) (h : SqL X.K H a xs) (h' : SqL X.K H a ys) : xs = ys := by
  obtain ⟨its, r, ⟨o, n, e, _, _, d⟩, _⟩ := I.list h
  obtain ⟨its', r', ⟨o', n', e', _, _, d'⟩, _⟩ := I.list h'
  rw [e] at e'; cases e'
  rw [d] at d'
  injection d' with d1 _
  have : its = its' := by simpa using congrArg Array.toList d1
  subst this
  exact r.inj r'
end

/-! ### another wish about exceptions -/
abbrev Cx.wish (X : Cx) (E : Value → Shared → Prop) : Cx := { X with xe := E }
/-- no exception leaves -/
abbrev Cx.nox (X : Cx) : Cx := X.wish fun _ _ => False
theorem Cx.Ok.wish {X : Cx} (ok : X.Ok) (E : Value → Shared → Prop) : (X.wish E).Ok :=
  ⟨ok.mod, ok.kind, ok.glob, ok.blt, ok.above, ok.inj, ok.has, ok.cab, ok.hd, ok.frames, ok.stk, ok.exf, ok.bs, ok.bsz, ok.noex, ok.exfs, ok.funs, ok.frf⟩
theorem Cx.Ok.unwish {X : Cx} {E : Value → Shared → Prop} (ok : (X.wish E).Ok) : X.Ok :=
  ⟨ok.mod, ok.kind, ok.glob, ok.blt, ok.above, ok.inj, ok.has, ok.cab, ok.hd, ok.frames, ok.stk, ok.exf, ok.bs, ok.bsz, ok.noex, ok.exfs, ok.funs, ok.frf⟩
section
variable {X : Cx} {pins : List (Addr × Obj)} {σ : St} {H : Hp} {s : Shared} {E : Value → Shared → Prop}
theorem Inv.wish (I : Inv X pins σ H s) (E : Value → Shared → Prop) : Inv (X.wish E) pins σ H s := ⟨I.ok.wish E, I.os, I.bare, I.base, I.loc, I.cell, I.free, I.freeC, I.pin, I.hok, I.len⟩
theorem Inv.unwish (I : Inv (X.wish E) pins σ H s) : Inv X pins σ H s := ⟨I.ok.unwish, I.os, I.bare, I.base, I.loc, I.cell, I.free, I.freeC, I.pin, I.hok, I.len⟩
theorem SP.unwish {D : Ends} {f : Flow} {s' : Shared} (h : SP (X.wish E) pins D f s') : SP X pins D f s' := by
  cases f with
  | next => obtain ⟨σ', H', I, q⟩ := h; exact ⟨σ', H', I.unwish, q⟩
  | brk => obtain ⟨σ', H', I, q⟩ := h; exact ⟨σ', H', I.unwish, q⟩
  | cont => obtain ⟨σ', H', I, q⟩ := h; exact ⟨σ', H', I.unwish, q⟩
  | ret u => obtain ⟨v, σ', H', I, r, q⟩ := h; exact ⟨v, σ', H', I.unwish, r, q⟩
theorem PSs.nox {st : List Stmt} {t : TS} (h : PSs X.nox st t) : PSs X st t := fun pins s σ H D I hw =>
  wpAny_mono (h pins s σ H D (I.wish _) hw) (fun _ _ q => q.unwish) fun _ _ z => False.elim z
end

/-! ### blocks and small statements -/
section
variable {X : Cx} {st : Stmt} {rest : List Stmt} {t u : TS} {e : Expr} {te : TE} {pos : Pos}
def tNext : TS := fun D σ H => D.nx σ H
def tSeq (t u : TS) : TS := fun D σ H => t { D with nx := u D } σ H
theorem pss_nil : PSs X [] tNext := fun _ _ σ H _ I h => wpAny_execs_nil ⟨σ, H, I, h⟩
theorem pss_cons (h1 : PS X st t) (h2 : PSs X rest u) : PSs X (st :: rest) (tSeq t u) := by
  intro pins s σ H D I h
  refine wpAny_execs_cons (thn (h1 pins s σ H { D with nx := u D } I h) fun f s1 q => ?_)
  cases f with
  | next =>
    obtain ⟨σ', H', I', q⟩ := q
    exact h2 pins s1 σ' H' D I' q
  | ret v => exact q
  | brk => exact q
  | cont => exact q
theorem pss_one (h1 : PS X st t) : PSs X [st] t := by
  intro pins s σ H D I h
  refine wpAny_execs_cons (thn (h1 pins s σ H D I h) fun f s1 q => ?_)
  cases f with
  | next => exact wpAny_execs_nil q
  | ret v => exact q
  | brk => exact q
  | cont => exact q
/-- in a def's body nothing is shown -/
theorem Inv.quiet {pins : List (Addr × Obj)} {σ : St} {H : Hp} {s : Shared} (I : Inv X pins σ H s) : interactive X.env = false := by simp [interactive, I.ok.kind]
/-- an expression whose value is dropped -/
def tDrop (te : TE) : TS := fun D σ H => te σ H fun _ H1 => D.nx σ H1
theorem ps_expr (he : PE X e te) (hs : swapsWith e none pos.line X.env = pure false := by rfl) : PS X (.Expr e pos) (tDrop te) := by
  intro pins s σ H D I h
  exact wpAny_Expr_any (thn (he pins s σ H _ I h) fun v s1 ⟨x, H1, I1, r1, q1⟩ => ⟨σ, H1, I1, q1⟩) I.quiet hs
def tRet (te : TE) : TS := fun D σ H => te σ H D.rt
theorem ps_ret (he : PE X e te) : PS X (.Return (some e) pos) (tRet te) := by
  intro pins s σ H D I h
  exact wpAny_Return_some (thn (he pins s σ H _ I h) fun v s1 ⟨x, H1, I1, r1, q1⟩ => ⟨x, σ, H1, I1, r1, q1⟩)
def tIfS (c : TT) (t u : TS) : TS := fun D σ H => c σ H fun b H1 => if b = true then t D σ H1 else u D σ H1
theorem ps_if {c : Expr} {a b : List Stmt} {tc : TT} (hc : PT X c tc) (ha : PSs X a t) (hb : PSs X b u) : PS X (.If c a b pos) (tIfS tc t u) := by
  intro pins s σ H D I h
  refine wpAny_If (thn (hc pins s σ H _ I h) fun d s1 ⟨H1, I1, q1⟩ => ?_)
  cases d with
  | true => exact ha pins s1 σ H1 D I1 q1
  | false => exact hb pins s1 σ H1 D I1 q1
end

/-! ### targets -/
abbrev TG := V → St → Hp → (St → Hp → Prop) → Prop
abbrev TGs := List V → St → Hp → (St → Hp → Prop) → Prop
def PG (X : Cx) (target : Expr) (t : TG) : Prop :=
  ∀ (pins : List (Addr × Obj)) (s : Shared) (σ : St) (H : Hp) (v : V) (u : Value) (Q : St → Hp → Prop), Inv X pins σ H s → RelV v u → t v σ H Q →
    wpAny (model X.prog X.w) X.A (assign target X.env u) (fun _ s' => ∃ σ' H', Inv X pins σ' H' s' ∧ Q σ' H') X.xe s
/-- several targets, one after another -/
def PGs (X : Cx) (ts : List Expr) (t : TGs) : Prop :=
  ∀ (pins : List (Addr × Obj)) (s : Shared) (σ : St) (H : Hp) (vs : List V) (us : List Value) (Q : St → Hp → Prop), Inv X pins σ H s → Vals vs us → t vs σ H Q →
    wpAny (model X.prog X.w) X.A (assignInOrder ((assignEach ts X.env).map (·.2)) us) (fun _ s' => ∃ σ' H', Inv X pins σ' H' s' ∧ Q σ' H') X.xe s
section
variable {X : Cx} {pos : Pos}
def gName (i : Nat) : TG := fun v σ H Q => Q (σ.set i (some v)) H
theorem pg_name {i : Nat} {x : Str} (hN : X.N.Nodup) (hi : X.N[i]? = some x) (hx : Loc X.env.scope x) (hf : X.fn x = true ∨ X.env.scope.names.lookup x = some .local := by first | exact .inl rfl | exact .inr rfl | assumption) : PG X (.Name x pos) (gName i) := by
  intro pins s σ H v u Q I r h
  exact wpAny_assign_Name (store_ok I hN hi hx r (fun s' I' => ⟨_, H, I', h⟩) hf)
def gNil : TGs := fun vs σ H Q => vs = [] ∧ Q σ H
def gCons (t : TG) (u : TGs) : TGs := fun vs σ H Q => ∃ v r, vs = v :: r ∧ t v σ H fun σ' H' => u r σ' H' Q
theorem pgs_nil : PGs X [] gNil := by
  intro pins s σ H vs us Q I r h
  obtain ⟨e, h⟩ := h
  subst e
  cases r
  exact assignInOrder_nil ⟨σ, H, I, h⟩
theorem pgs_cons {e : Expr} {es : List Expr} {t : TG} {u : TGs} (h1 : PG X e t) (h2 : PGs X es u)
    (hs : (assignEach (e :: es) X.env).map (·.2) = assign e X.env :: (assignEach es X.env).map (·.2) := by rfl) : PGs X (e :: es) (gCons t u) := by
  intro pins s σ H vs us Q I r h
  obtain ⟨v, vr, e1, h⟩ := h
  subst e1
  cases r with
  | cons r rr =>
    rw [hs]
    refine assignInOrder_cons (thn (h1 pins s σ H _ _ _ I r h) fun _ s1 ⟨σ1, H1, I1, q1⟩ => ?_)
    exact h2 pins s1 σ1 H1 _ _ Q I1 rr q1
/-- (a, b, ..) = a tuple of that length -/
def gTup (K : PySem.W.Frag) (n : Nat) (t : TGs) : TG := fun v σ H Q => ∃ a xs, v = .ref a ∧ SqT K H a xs ∧ xs.length = n ∧ t xs σ H Q
theorem pg_tup {es : List Expr} {k : Nat} {t : TGs} {n : Nat} (hc : X.calm = true) (h : PGs X es t)
    (hn : (assignEach es X.env).length = n := by rfl) (hst : (assignEach es X.env).findIdx? (·.1) = none := by rfl) : PG X (.Tuple es k pos) (gTup X.K n t) := by
  intro pins s σ H v u Q I r hw
  obtain ⟨a, xs, e1, hq, hl, hw⟩ := hw
  subst e1
  cases r
  obtain ⟨its, rv, ht, hz⟩ := I.tuple hq
  refine assign_Tuple_tuple (I.ok.hd hc) ht (by simp [hn, ← hl, rv.length]) hst fun h' hx => ?_
  have I1 : Inv X pins σ H { s with heap := h' } := I.kept (t' := s.toks) fun b o e => hx b o (Nat.ne_of_lt (Heap.lt_size e)) e
  exact h pins _ σ H xs _ Q I1 (by simpa using rv) hw
/-- target = value -/
def tAsg (te : TE) (g : TG) : TS := fun D σ H => te σ H fun x H1 => g x σ H1 D.nx
theorem ps_asg {tg e : Expr} {te : TE} {g : TG} (he : PE X e te) (hg : PG X tg g) (hs : swapsWithSole [tg] e pos.line X.env = pure false := by rfl) (hw : swappedStores [tg] e X.env = pure none := by rfl)
    (h1 : (assignEach [tg] X.env).map (·.2) = [assign tg X.env] := by rfl) : PS X (.Assign [tg] e pos) (tAsg te g) := by
  intro pins s σ H D I h
  refine wpAny_Assign_stores (thn (he pins s σ H _ I h) fun v s1 ⟨x, H1, I1, r1, q1⟩ => ?_) hs hw
  rw [h1]
  exact thn (hg pins s1 σ H1 x v _ I1 r1 q1) fun _ s2 q => q
/-- name = value -/
theorem ps_set {i : Nat} {x : Str} {e : Expr} {te : TE} {pos' : Pos} (hN : X.N.Nodup) (hi : X.N[i]? = some x) (hx : Loc X.env.scope x) (he : PE X e te) (hs : swapsWith e (some (.Name x pos')) pos.line X.env = pure false := by rfl) (hf : X.fn x = true ∨ X.env.scope.names.lookup x = some .local := by first | exact .inl rfl | exact .inr rfl | assumption) :
    PS X (.Assign [.Name x pos'] e pos) (tAsg te (gName i)) := by
  intro pins s σ H D I h
  refine wpAny_Assign_Name (thn (he pins s σ H _ I h) fun v s1 ⟨y, H1, I1, r1, q1⟩ => ?_) hs
  exact store_ok I1 hN hi hx r1 (fun s2 I2 => ⟨_, H1, I2, q1⟩) hf
end

/-! ### while -/
section
variable {X : Cx} {pos : Pos}
/-- the invariant W with its measure -/
def tWhile (c : TT) (tb : TS) : TS := fun D σ H => ∃ W : Nat → St → Hp → Prop, (∃ m, W m σ H) ∧ ∀ m σ H, W m σ H →
  c σ H fun b H1 => if b = true then ∃ N : St → Hp → Prop, (∀ σ' H', N σ' H' → ∃ m', m' < m ∧ W m' σ' H') ∧ tb { D with nx := N, ct := N, bk := D.nx } σ H1 else D.nx σ H1
theorem ps_while {c : Expr} {body : List Stmt} {tc : TT} {tb : TS} (hp : PassesOwn (model X.prog X.w) X.A X.env X.xe) (hc : PT X c tc) (hb : PSs X body tb) : PS X (.While c body [] pos) (tWhile tc tb) := by
  intro pins s σ H D I h
  obtain ⟨W, ⟨m0, w0⟩, turn⟩ := h
  refine wpAny_While (codeAny_whileLoop (fun n s' => ∃ σ' H', Inv X pins σ' H' s' ∧ W n σ' H') ?_ m0 ⟨σ, H, I, w0⟩)
  rintro n s1 ⟨σ1, H1, I1, w1⟩
  refine wpAny_passesOwn hp (thn (hc pins s1 σ1 H1 _ I1 (turn n σ1 H1 w1)) fun b s2 ⟨H2, I2, q2⟩ => ?_)
  cases b with
  | true =>
    obtain ⟨N, hN, q2⟩ := q2
    rw [if_pos rfl]
    refine wpAny_passesOwn hp (thn (hb pins s2 σ1 H2 _ I2 q2) fun f s3 q3 => ?_)
    cases f with
    | next =>
      obtain ⟨σ3, H3, I3, n3⟩ := q3
      obtain ⟨m', hm, w3⟩ := hN σ3 H3 n3
      exact ⟨m', hm, σ3, H3, I3, w3⟩
    | cont =>
      obtain ⟨σ3, H3, I3, n3⟩ := q3
      obtain ⟨m', hm, w3⟩ := hN σ3 H3 n3
      exact ⟨m', hm, σ3, H3, I3, w3⟩
    | brk => exact q3
    | ret v => exact q3
  | false =>
    rw [if_neg Bool.false_ne_true]
    exact wpAny_execs_nil ⟨σ1, H2, I2, q2⟩
end

/-! ### what a loop or a comprehension walks -/
/-- at turn i: it yields x (the heap may grow), or it stops -/
structure It where
  go : Nat → Hp → Prop
  yld : Nat → Hp → V → Hp → Prop
  stop : Nat → Hp → Prop
/-- the iterator's own objects may turn: they are not the frame's, not pinned, younger than the entry (or a comprehension's own) -/
def FpOk (X : Cx) (pins : List (Addr × Obj)) (H : Hp) (b : Addr) : Prop :=
  H b = none ∧ b ≠ X.env.locals ∧ b ∉ X.fs ∧ (b ∈ X.ex ∨ X.s₀.heap.objs.size ≤ b) ∧ (∀ x c, X.env.cells.lookup x = some c → c ≠ b) ∧ ∀ p ∈ X.pn ++ pins, p.1 ≠ b
theorem Inv.fpOk {X : Cx} {pins : List (Addr × Obj)} {σ : St} {H H' : Hp} {s : Shared} {b : Addr} (I : Inv X pins σ H s) (hb : s.heap.objs.size ≤ b) (hn : H' b = none) : FpOk X pins H' b := by
  refine ⟨hn, Nat.ne_of_gt (Nat.lt_of_lt_of_le I.lt hb), I.nofs hb, .inr (Nat.le_trans I.sz hb), fun x c e z => ?_, fun p hp z => ?_⟩
  · obtain ⟨v, q⟩ := I.cell x c e
    exact absurd (Nat.lt_of_lt_of_le q.lt (by rw [z]; exact hb)) (Nat.lt_irrefl _)
  · exact absurd (Nat.lt_of_lt_of_le (Heap.lt_size (I.pin p hp).1) (by rw [z]; exact hb)) (Nat.lt_irrefl _)
structure Turn (P : Program) (w : World) (K : PySem.W.Frag) (tg : Expr) (J : It) (fp : List Addr) (it : Addr) (tn : Nat → Heap → Prop) : Prop where
  mem : it ∈ fp
  obj : ∀ i h, tn i h → ∀ b ∈ fp, ∃ o, h.get? b = some o ∧ ∀ v, o.data ≠ .cell v
  keep : ∀ i h h', tn i h → (∀ b ∈ fp, ∀ o, h.get? b = some o → h'.get? b = some o) → tn i h'
  item : ∀ (X : Cx), X.prog = P → X.w = w → X.K = K → X.calm = true → ∀ (i : Nat) (pins : List (Addr × Obj)) (s : Shared) (σ : St) (H : Hp) (E : Value → Shared → Prop), Inv X pins σ H s → (∀ b ∈ fp, FpOk X pins H b) → tn i s.heap → J.go i H →
    wpAny (model P w) X.A (pyNext (.ref it)) (fun r s1 => ∃ u, r = some u ∧
      wpAny (model P w) X.A (letOwnedTupleGo tg (.ref it) u) (fun _ s2 => ∃ x H', Inv X pins σ H' s2 ∧ RelV x u ∧ J.yld i H x H' ∧ tn (i + 1) s2.heap ∧ ∀ b ∈ fp, H' b = none) E s1) E s
  done : ∀ (X : Cx), X.prog = P → X.w = w → X.K = K → X.calm = true → ∀ (i : Nat) (pins : List (Addr × Obj)) (s : Shared) (σ : St) (H : Hp) (E : Value → Shared → Prop), Inv X pins σ H s → (∀ b ∈ fp, FpOk X pins H b) → tn i s.heap → J.stop i H →
    wpAny (model P w) X.A (pyNext (.ref it)) (fun r s1 => r = none ∧ Inv X pins σ H s1) E s
  self : ∀ (A : Around) (i : Nat) (s : Shared) (Q : Value → Shared → Prop) (E : Value → Shared → Prop), tn i s.heap → Q (.ref it) s → wpAny (model P w) A (pyIter (.ref it)) Q E s
abbrev TI := St → Hp → (It → Hp → Prop) → Prop
/-- an iterator has come -/
def PIE (X : Cx) (pins : List (Addr × Obj)) (σ : St) (tg : Expr) (R : It → Hp → Prop) (itv : Value) (s2 : Shared) : Prop :=
  ∃ (it : Addr) (fp : List Addr) (tn : Nat → Heap → Prop) (J : It) (H' : Hp), itv = .ref it ∧ Inv X pins σ H' s2 ∧ Turn X.prog X.w X.K tg J fp it tn ∧ tn 0 s2.heap ∧ (∀ b ∈ fp, FpOk X pins H' b) ∧ R J H'
def PI (X : Cx) (tg iter : Expr) (wi : TI) : Prop :=
  ∀ (pins : List (Addr × Obj)) (s : Shared) (σ : St) (H : Hp) (R : It → Hp → Prop), Inv X pins σ H s → wi σ H R →
    wpAny (model X.prog X.w) X.A (eval iter X.env) (fun v s1 => wpAny (model X.prog X.w) X.A (pyIter v) (PIE X pins σ tg R) X.xe s1) X.xe s

/-- the step ahead of the store is nothing for an iterator that keeps no tuple -/
theorem go_of {M : Model} {A : Around} {E : Value → Shared → Prop} {s : Shared} {tg : Expr} {it : Addr} {u : Value} {o : Obj} {n : String} {vs : Array Value} {Q : Unit → Shared → Prop} (ho : s.heap.get? it = some o) (hc : o.cls = .type n) (hd : o.data = .fields vs)
    (hn : ["enumerate", "zip", "dict_itemiterator", "dict_reverseitemiterator", "odict_iterator", "itertools.zip_longest", "itertools.pairwise"].contains n = false) (hQ : Q () s) : wpAny M A (letOwnedTupleGo tg (.ref it) u) Q E s := by
  unfold letOwnedTupleGo
  cases tg <;> first
    | exact wpAny_pure hQ
    | (cases u <;> first
        | exact wpAny_pure hQ
        | (refine wpAny_bind (wpAny_load ho ?_)
           rw [hc, hd]
           show wpAny M A (if (["enumerate", "zip", "dict_itemiterator", "dict_reverseitemiterator", "odict_iterator", "itertools.zip_longest", "itertools.pairwise"].contains n && vs[0]? == some (rawInt _)) = true then _ else _) Q E s
           rw [if_neg (by intro h; rw [hn, Bool.false_and] at h; cases h)]
           exact wpAny_pure hQ))

/-- the list at a, as it stands at each turn (a loop may append to it) -/
def Itl (K : PySem.W.Frag) (a : Addr) : It :=
  ⟨fun i H => ∃ xs x, SqL K H a xs ∧ xs[i]? = some x, fun i H x H' => H' = H ∧ ∀ xs, SqL K H a xs → xs[i]? = some x, fun i H => ∃ xs, SqL K H a xs ∧ xs.length ≤ i⟩
/-- lo, lo + 1, .. (n of them) -/
def Itr (lo : Int) (n : Nat) : It := ⟨fun i _ => i < n, fun i H x H' => H' = H ∧ x = .int (lo + i), fun i _ => n ≤ i⟩
theorem turn_list {P : Program} {w : World} {K : PySem.W.Frag} {tg : Expr} (a it : Addr) : Turn P w K tg (Itl K a) [it] it (fun i h => h.IsListIter it a i) where
  mem := by simp
  obj := fun i h st b hb => by
    have e : b = it := by simpa using hb
    subst e
    obtain ⟨o, e, c, d⟩ := st
    exact ⟨o, e, fun v z => by rw [d] at z; cases z⟩
  keep := fun i h h' st k => st.at fun o e => k it (by simp) o e
  item := by
    intro X hP hw hK hc i pins s σ H E I hf st hg
    subst hP hw hK
    obtain ⟨xs, x, hq, hx⟩ := hg
    obtain ⟨its, rv, p, hz⟩ := I.list hq
    obtain ⟨u, hu, ru⟩ := rv.get hx
    obtain ⟨f0, f1, f2, f3, f4, f5⟩ := hf it (by simp)
    refine wpAny_pyNext_list_item st p.isList (x := u) (by simpa using hu) fun h' st' sb => ?_
    have I1 : Inv X pins σ H { s with heap := h' } := I.turned (t' := s.toks) (fun b o hb e => (sb.2 b hb).trans e) f0 f1 f3 f4 f5
    obtain ⟨o, e, c, d⟩ := id st'
    exact ⟨u, rfl, go_of (s := { s with heap := h' }) e c d (by decide) ⟨x, H, I1, ru, ⟨rfl, fun ys hy => by rw [I.list_inj hy hq]; exact hx⟩, st', fun b hb => (hf b hb).1⟩⟩
  done := by
    intro X hP hw hK hc i pins s σ H E I hf st hg
    subst hP hw hK
    obtain ⟨xs, hq, hx⟩ := hg
    obtain ⟨its, rv, p, hz⟩ := I.list hq
    obtain ⟨f0, f1, f2, f3, f4, f5⟩ := hf it (by simp)
    have hl := rv.length
    exact wpAny_pyNext_list_end (I.ok.hd hc) st p.isList (by simp; omega) fun h' eb => ⟨rfl, I.turned (t' := s.toks) (fun b o hb e => eb b o hb e) f0 f1 f3 f4 f5⟩
  self := fun _ _ _ _ _ st h => wpAny_pyIter_listiter st h
theorem turn_range {P : Program} {w : World} {K : PySem.W.Frag} {tg : Expr} (it : Addr) (lo : Int) (n : Nat) : Turn P w K tg (Itr lo n) [it] it (fun i h => IsRangeIter h it (lo + (i : Nat) * 1) ((n : Int) - (i : Nat)) 1) where
  mem := by simp
  obj := fun i h st b hb => by
    have e : b = it := by simpa using hb
    subst e
    exact ⟨_, st, fun v z => by
      have z' : Data.fields _ = Data.cell v := z
      cases z'⟩
  keep := fun i h h' st k => k it (by simp) _ st
  item := by
    intro X hP hw hK hc i pins s σ H E I hf st hg
    subst hP hw hK
    obtain ⟨f0, f1, f2, f3, f4, f5⟩ := hf it (by simp)
    have W := Walks.range (prog := X.prog) (w := X.w) (I.ok.hd hc) it lo 1 n
    refine W.item i s _ _ hg st fun v h' tk hv st' kk => ?_
    obtain ⟨t, rfl⟩ := hv
    have I1 : Inv X pins σ H { s with heap := h', toks := tk } := I.turned (fun b o hb e => kk b o (by simpa using hb) e) f0 f1 f3 f4 f5
    refine ⟨_, rfl, go_of (s := { s with heap := h', toks := tk }) (n := "range_iterator") st' rfl rfl (by decide) ⟨.int (lo + i), H, I1, ⟨t, ?_⟩, ⟨rfl, rfl⟩, st', fun b hb => (hf b hb).1⟩⟩
    rw [Int.mul_one]
  done := by
    intro X hP hw hK hc i pins s σ H E I hf st hg
    subst hP hw hK
    obtain ⟨f0, f1, f2, f3, f4, f5⟩ := hf it (by simp)
    exact wpAny_pyNext_range_end (I.ok.hd hc) st (by have : n ≤ i := hg; omega) fun h' eb => ⟨rfl, I.turned (t' := s.toks) (fun b o hb e => eb b o hb e) f0 f1 f3 f4 f5⟩
  self := fun _ _ _ _ _ st h => wpAny_pyIter_rangeiter st h
end L2

namespace L2
open PySem PySem.Spec PyProof.Rows
section
variable {X : Cx} {tg : Expr}
def iList (K : PySem.W.Frag) (tl : TE) : TI := fun σ H R => tl σ H fun x H1 => ∃ a, x = .ref a ∧ (∃ xs, SqL K H1 a xs) ∧ R (Itl K a) H1
theorem pi_list {l : Expr} {tl : TE} (hl : PE X l tl) : PI X tg l (iList X.K tl) := by
  intro pins s σ H R I h
  refine thn (hl pins s σ H _ I h) fun v s1 ⟨x, H1, I1, r1, q1⟩ => ?_
  obtain ⟨a, e, ⟨xs, hq⟩, q⟩ := q1
  subst e
  cases r1
  obtain ⟨its, rv, p, hz⟩ := I1.list hq
  refine wpAny_pyIter_list p.isList ?_
  refine ⟨s1.heap.objs.size, [s1.heap.objs.size], _, _, H1, rfl, I1.kept (t' := s1.toks) fun b o e => Heap.get?_push_of_some _ e, turn_list a _, ⟨_, Heap.get?_push_size _ rfl, rfl, rfl⟩, fun b hb => ?_, q⟩
  have e : b = s1.heap.objs.size := by simpa using hb
  subst e
  exact I1.fpOk (Nat.le_refl _) (I1.hok.fresh (Nat.le_refl _))
/-- a range object just made, walked -/
theorem range_it {pins : List (Addr × Obj)} {σ : St} {H : Hp} {s : Shared} {R : It → Hp → Prop} {E : Value → Shared → Prop} {lo hi : Int} {t u v : Tok} {tk : Nat} (I : Inv X pins σ H s) (h1 : -(2 ^ 62) ≤ lo) (h2 : lo < 2 ^ 62) (h3 : -(2 ^ 62) ≤ hi) (h4 : hi < 2 ^ 62)
    (q : R (Itr lo (hi - lo).toNat) H) : wpAny (model X.prog X.w) X.A (pyIter (.ref s.heap.objs.size)) (PIE X pins σ tg R) E { s with heap := s.heap.push { cls := .type "range", data := .fields #[.int lo t, .int hi u, .int 1 v] }, toks := tk } := by
  refine wpAny_pyIter_range (IsRange.new ..) (small_one h1 h2 h3 h4) ?_
  have I1 : Inv X pins σ H { s with heap := s.heap.push { cls := .type "range", data := .fields #[.int lo t, .int hi u, .int 1 v] }, toks := tk } := I.kept fun b o e => Heap.get?_push_of_some _ e
  refine ⟨(s.heap.push { cls := .type "range", data := .fields #[.int lo t, .int hi u, .int 1 v] }).objs.size, [(s.heap.push { cls := .type "range", data := .fields #[.int lo t, .int hi u, .int 1 v] }).objs.size], _, _, H, rfl,
    I1.kept (t' := tk) fun b o e => Heap.get?_push_of_some _ e, turn_range _ lo (hi - lo).toNat, ?_, fun b hb => ?_, q⟩
  · have e1 : lo + ((0 : Nat) : Int) * 1 = lo := by simp
    have e2 : (((hi - lo).toNat : Nat) : Int) - ((0 : Nat) : Int) = Builtin.Range.rangeSize lo hi 1 := by rw [rangeSize_one]; split <;> omega
    show IsRangeIter _ _ (lo + ((0 : Nat) : Int) * 1) ((((hi - lo).toNat : Nat) : Int) - ((0 : Nat) : Int)) 1
    rw [e1, e2]
    exact Heap.get?_push_size _ rfl
  · have e : b = (s.heap.push { cls := .type "range", data := .fields #[.int lo t, .int hi u, .int 1 v] }).objs.size := by simpa using hb
    subst e
    exact I1.fpOk (Nat.le_refl _) (I1.hok.fresh (Nat.le_refl _))
def iRng1 (ta : TA) : TI := fun σ H R => ta σ H fun vs H1 => ∃ j : Int, vs = [.int j] ∧ -(2 ^ 62) ≤ j ∧ j < 2 ^ 62 ∧ R (Itr 0 j.toNat) H1
theorem pi_range1 {a : Expr} {ta : TA} {p pos : Pos} (hg : Gl X "range") (hm : X.mg "range" = none) (ha : PA X [a] ta) (hs : starEach [a] X.env = [(false, eval a X.env)] := by rfl) : PI X tg (.Call (.Name "range" p) [a] [] pos) (iRng1 ta) := by
  intro pins s σ H R I h
  refine Call_ (ld_blt I hg hm boot_range (PyProof.Rows.callWith_type1 (thn (ha pos pins s σ H _ I h) fun us s1 ⟨vs, H1, I1, r1, q1⟩ => ?_) hs rfl))
  obtain ⟨j, e, q1, q2, q⟩ := q1
  subst e
  cases r1 with
  | cons r rr =>
    cases rr
    obtain ⟨t, rfl⟩ := r
    exact call_range_1 (range_it I1 (by omega) (by omega) q1 q2 (by simpa using q))
/-! ### for -/
/-- W: the invariant by the turn and a measure; N: what the body is to reach -/
def tFor (wi : TI) (g : TG) (tb : TS) : TS := fun D σ H => wi σ H fun J H1 => ∃ W : Nat → Nat → St → Hp → Prop, (∃ m, W 0 m σ H1) ∧ ∀ i m σ H, W i m σ H →
  (J.stop i H ∧ D.nx σ H) ∨ (J.go i H ∧ ∃ N : St → Hp → Prop, (∀ σ' H', N σ' H' → ∃ m', m' < m ∧ W (i + 1) m' σ' H') ∧ ∀ x H', J.yld i H x H' → g x σ H' fun σ2 H2 => tb { D with nx := N, ct := N, bk := D.nx } σ2 H2)
/-- the records at fp as they stand -/
def pinsAt (fp : List Addr) (h : Heap) : List (Addr × Obj) := fp.filterMap fun b => (h.get? b).map fun o => (b, o)
theorem mem_pinsAt {fp : List Addr} {h : Heap} {b : Addr} {o : Obj} (hb : b ∈ fp) (e : h.get? b = some o) : (b, o) ∈ pinsAt fp h := List.mem_filterMap.mpr ⟨b, hb, by rw [e]; rfl⟩
theorem of_pinsAt {fp : List Addr} {h : Heap} {p : Addr × Obj} (hp : p ∈ pinsAt fp h) : p.1 ∈ fp ∧ h.get? p.1 = some p.2 := by
  obtain ⟨b, hb, e⟩ := List.mem_filterMap.mp hp
  cases q : h.get? b with
  | none => rw [q] at e; cases e
  | some o =>
    rw [q] at e
    have e' : (b, o) = p := Option.some.inj e
    subst e'
    exact ⟨hb, q⟩
theorem Inv.pinned {pins : List (Addr × Obj)} {σ : St} {H : Hp} {s : Shared} {fp : List Addr} (I : Inv X pins σ H s) (hf : ∀ b ∈ fp, FpOk X pins H b) (ho : ∀ b ∈ fp, ∃ o, s.heap.get? b = some o ∧ ∀ v, o.data ≠ .cell v) : Inv X (pins ++ pinsAt fp s.heap) σ H s :=
  I.pins_of fun p hp => (List.mem_append.mp hp).elim (fun z => I.pin p (List.mem_append_right _ z)) fun z => by
    obtain ⟨hb, e⟩ := of_pinsAt z
    obtain ⟨f0, f1, f2, _⟩ := hf p.1 hb
    obtain ⟨o, e', d⟩ := ho p.1 hb
    rw [e] at e'; cases e'
    exact ⟨e, f0, f1, f2, d⟩
theorem Inv.unpinned {pins pl : List (Addr × Obj)} {σ : St} {H : Hp} {s : Shared} (I : Inv X (pins ++ pl) σ H s) : Inv X pins σ H s := I.pins_of fun p hp => I.pin p (List.mem_append_right _ (List.mem_append_left _ hp))
theorem ps_for {iter : Expr} {body : List Stmt} {wi : TI} {g : TG} {tb : TS} {pos : Pos} (hp : PassesOwn (model X.prog X.w) X.A X.env X.xe) (hc : X.calm = true) (hi : PI X tg iter wi) (hg : PG X tg g) (hb : PSs X body tb)
    (hs : ∀ x, foldedSetIterable iter X.env x = pure x := by intro _; rfl) : PS X (.For tg iter body [] pos) (tFor wi g tb) := by
  intro pins s σ H D I h
  refine wpAny_For (thn (hi pins s σ H _ I h) fun v s1 h1 => thn h1 fun itv s2 h2 => ?_) hs
  obtain ⟨it, fp, tn, J, H2, e, I2, T, st2, f2, W, ⟨m0, w0⟩, turn⟩ := h2
  subst e
  -- what stays true of the iterator's objects through the loop
  have stat : ∀ {H' : Hp}, (∀ b ∈ fp, H' b = none) → ∀ b ∈ fp, FpOk X pins H' b := fun hn b hb => ⟨hn b hb, (f2 b hb).2⟩
  refine codeAny_forLoop_any (fun n s' => ∃ i σ' H', Inv X pins σ' H' s' ∧ tn i s'.heap ∧ (∀ b ∈ fp, H' b = none) ∧ W i n σ' H') ?_ m0 ⟨0, σ, H2, I2, st2, fun b hb => (f2 b hb).1, w0⟩
  rintro n s3 ⟨i, σ3, H3, I3, st3, fr3, w3⟩
  rcases turn i n σ3 H3 w3 with ⟨stop, qn⟩ | ⟨go, N, hN, step⟩
  · refine wpAny_passesOwn hp (thn (T.done X rfl rfl rfl hc i pins s3 σ3 H3 X.xe I3 (stat fr3) st3 stop) fun r s4 ⟨hr, I4⟩ => ?_)
    subst hr
    exact wpAny_execs_nil ⟨σ3, H3, I4, qn⟩
  · refine wpAny_passesOwn hp (thn (T.item X rfl rfl rfl hc i pins s3 σ3 H3 X.xe I3 (stat fr3) st3 go) fun r s4 ⟨u, hr, h4⟩ => ?_)
    subst hr
    refine wpAny_passesOwn hp (thn h4 fun _ s5 ⟨x, H5, I5, r5, y5, st5, fr5⟩ => ?_)
    have I5' := I5.pinned (stat fr5) (T.obj _ _ st5)
    refine wpAny_passesOwn hp (thn (hg _ s5 σ3 H5 x u _ I5' r5 (step x H5 y5)) fun _ s6 ⟨σ6, H6, I6, q6⟩ => ?_)
    refine wpAny_passesOwn hp (thn (hb _ s6 σ6 H6 _ I6 q6) fun f s7 q7 => ?_)
    have again : ∀ {σ7 : St} {H7 : Hp}, Inv X (pins ++ pinsAt fp s5.heap) σ7 H7 s7 → N σ7 H7 → ∃ m, m < n ∧ ∃ i σ' H', Inv X pins σ' H' s7 ∧ tn i s7.heap ∧ (∀ b ∈ fp, H' b = none) ∧ W i m σ' H' := fun {σ7 H7} I7 n7 => by
      obtain ⟨m', hm, w7⟩ := hN σ7 H7 n7
      refine ⟨m', hm, i + 1, σ7, H7, I7.unpinned, T.keep _ _ _ st5 fun b hb o e => (I7.pin (b, o) (List.mem_append_right _ (List.mem_append_right _ (mem_pinsAt hb e)))).1, fun b hb => ?_, w7⟩
      obtain ⟨o, e, d⟩ := T.obj _ _ st5 b hb
      exact (I7.pin (b, o) (List.mem_append_right _ (List.mem_append_right _ (mem_pinsAt hb e)))).2.1
    cases f with
    | next => obtain ⟨σ7, H7, I7, n7⟩ := q7; exact again I7 n7
    | cont => obtain ⟨σ7, H7, I7, n7⟩ := q7; exact again I7 n7
    | brk => obtain ⟨σ7, H7, I7, q7⟩ := q7; exact ⟨σ7, H7, I7.unpinned, q7⟩
    | ret v => obtain ⟨x7, σ7, H7, I7, r7, q7⟩ := q7; exact ⟨x7, σ7, H7, I7.unpinned, r7, q7⟩
end

/-! ### the forms one uses -/
/-- over a list that the body leaves as it is -/
theorem for_list {K : PySem.W.Frag} {a : Addr} {xs : List V} {g : TG} {tb : TS} {D : Ends} {σ : St} {H : Hp} (Pv : Nat → St → Hp → Prop) (h0 : Pv 0 σ H) (hl : ∀ i σ H, i ≤ xs.length → Pv i σ H → SqL K H a xs)
    (hs : ∀ i x σ H, xs[i]? = some x → Pv i σ H → g x σ H fun σ2 H2 => tb { D with nx := Pv (i + 1), ct := Pv (i + 1), bk := D.nx } σ2 H2) (hd : ∀ σ H, Pv xs.length σ H → D.nx σ H) :
    ∃ W : Nat → Nat → St → Hp → Prop, (∃ m, W 0 m σ H) ∧ ∀ i m σ H, W i m σ H →
      ((Itl K a).stop i H ∧ D.nx σ H) ∨ ((Itl K a).go i H ∧ ∃ N : St → Hp → Prop, (∀ σ' H', N σ' H' → ∃ m', m' < m ∧ W (i + 1) m' σ' H') ∧ ∀ x H', (Itl K a).yld i H x H' → g x σ H' fun σ2 H2 => tb { D with nx := N, ct := N, bk := D.nx } σ2 H2) := by
  refine ⟨fun i m σ H => m = xs.length - i ∧ i ≤ xs.length ∧ Pv i σ H, ⟨xs.length, by simp, Nat.zero_le _, h0⟩, ?_⟩
  rintro i m σ H ⟨rfl, hi, p⟩
  have q := hl i σ H hi p
  by_cases hlt : i < xs.length
  · refine .inr ⟨⟨xs, xs[i], q, by simp [hlt]⟩, Pv (i + 1), fun σ' H' p' => ⟨xs.length - (i + 1), by omega, rfl, hlt, p'⟩, fun x H' y => ?_⟩
    obtain ⟨e, y⟩ := y
    subst e
    exact hs i x σ _ (y xs q) p
  · have e : i = xs.length := by omega
    subst e
    exact .inl ⟨⟨xs, q, Nat.le_refl _⟩, hd σ H p⟩
theorem for_range {lo : Int} {n : Nat} {g : TG} {tb : TS} {D : Ends} {σ : St} {H : Hp} (Pv : Nat → St → Hp → Prop) (h0 : Pv 0 σ H)
    (hs : ∀ i σ H, i < n → Pv i σ H → g (.int (lo + i)) σ H fun σ2 H2 => tb { D with nx := Pv (i + 1), ct := Pv (i + 1), bk := D.nx } σ2 H2) (hd : ∀ σ H, Pv n σ H → D.nx σ H) :
    ∃ W : Nat → Nat → St → Hp → Prop, (∃ m, W 0 m σ H) ∧ ∀ i m σ H, W i m σ H →
      ((Itr lo n).stop i H ∧ D.nx σ H) ∨ ((Itr lo n).go i H ∧ ∃ N : St → Hp → Prop, (∀ σ' H', N σ' H' → ∃ m', m' < m ∧ W (i + 1) m' σ' H') ∧ ∀ x H', (Itr lo n).yld i H x H' → g x σ H' fun σ2 H2 => tb { D with nx := N, ct := N, bk := D.nx } σ2 H2) := by
  refine ⟨fun i m σ H => m = n - i ∧ i ≤ n ∧ Pv i σ H, ⟨n, by simp, Nat.zero_le _, h0⟩, ?_⟩
  rintro i m σ H ⟨rfl, hi, p⟩
  by_cases hlt : i < n
  · refine .inr ⟨hlt, Pv (i + 1), fun σ' H' p' => ⟨n - (i + 1), by omega, rfl, hlt, p'⟩, fun x H' y => ?_⟩
    obtain ⟨e, y⟩ := y
    subst e y
    exact hs i σ _ hlt p
  · have e : i = n := by omega
    subst e
    exact .inl ⟨Nat.le_refl _, hd σ H p⟩
end L2

namespace L2
open PySem PySem.Spec PyProof.Rows

abbrev R2 := V → V → Hp → VK → Prop
/-- a two-place operation on values: f is binaryOp op, inplaceOp op or compareOp op -/
def OpR (X : Cx) (f : Value → Value → Sem Value) (r : R2) : Prop :=
  ∀ (pins : List (Addr × Obj)) (s : Shared) (σ : St) (H : Hp) (x y : V) (v u : Value) (Q : VK), Inv X pins σ H s → RelV x v → RelV y u → r x y H Q →
    wpAny (model X.prog X.w) X.A (f v u) (EP X pins σ Q) X.xe s
/-- a one-place operation -/
def UnR (X : Cx) (f : Value → Sem Value) (r : V → Hp → VK → Prop) : Prop :=
  ∀ (pins : List (Addr × Obj)) (s : Shared) (σ : St) (H : Hp) (x : V) (v : Value) (Q : VK), Inv X pins σ H s → RelV x v → r x H Q →
    wpAny (model X.prog X.w) X.A (f v) (EP X pins σ Q) X.xe s
/-- a call of a value that is known (a builtin, a type) with values -/
def CallR (X : Cx) (f : Value) (r : List V → Hp → VK → Prop) : Prop :=
  ∀ (pins : List (Addr × Obj)) (s : Shared) (σ : St) (H : Hp) (xs : List V) (us : List Value) (Q : VK), Inv X pins σ H s → Vals xs us → r xs H Q →
    wpAny (model X.prog X.w) X.A (call f us) (EP X pins σ Q) X.xe s
def tOp (r : R2) (ta tb : TE) : TE := fun σ H Q => ta σ H fun x H1 => tb σ H1 fun y H2 => r x y H2 Q
def tUn (r : V → Hp → VK → Prop) (ta : TE) : TE := fun σ H Q => ta σ H fun x H1 => r x H1 Q
/-- ints in, under C, and a value out -/
def rI (C : Int → Int → Prop) (g : Int → Int → V) : R2 := fun x y H Q => ∃ i j, x = .int i ∧ y = .int j ∧ C i j ∧ Q (g i j) H
def rI0 (g : Int → Int → V) : R2 := fun x y H Q => ∃ i j, x = .int i ∧ y = .int j ∧ Q (g i j) H
def rU (g : Int → V) : V → Hp → VK → Prop := fun x H Q => ∃ i, x = .int i ∧ Q (g i) H

section
variable {X : Cx} {a b c : Expr} {ta tb tc : TE} {pos : Pos}

theorem binT (ha : PE X a ta) (hb : PE X b tb) {pins : List (Addr × Obj)} {s : Shared} {σ : St} {H : Hp} {R : V → V → Hp → Prop} (I : Inv X pins σ H s)
    (h : ta σ H fun x H1 => tb σ H1 fun y H2 => R x y H2) {Q : Value → Shared → Prop} {f : Value → Value → Sem Value}
    (hf : ∀ v u s2 x y H2, Inv X pins σ H2 s2 → RelV x v → RelV y u → R x y H2 → wpAny (model X.prog X.w) X.A (f v u) Q X.xe s2) :
    wpAny (model X.prog X.w) X.A (eval a X.env) (fun v s₁ => wpAny (model X.prog X.w) X.A (eval b X.env) (fun u s₂ => wpAny (model X.prog X.w) X.A (f v u) Q X.xe s₂) X.xe s₁) X.xe s := by
  refine thn (ha pins s σ H _ I h) fun v s1 ⟨x, H1, I1, r1, q1⟩ => ?_
  refine thn (hb pins s1 σ H1 _ I1 q1) fun u s2 ⟨y, H2, I2, r2, q2⟩ => ?_
  exact hf v u s2 x y H2 I2 r1 r2 q2

theorem pe_op {op : Operator} {r : R2} (ho : OpR X (binaryOp op) r) (ha : PE X a ta) (hb : PE X b tb) : PE X (.BinOp a op b pos) (tOp r ta tb) := by
  intro pins s σ H Q I h
  exact wpAny_BinOp (binT ha hb I h fun v u s2 x y H2 I2 rx ry q => ho pins s2 σ H2 x y v u Q I2 rx ry q)
theorem pe_un {op : UnaryOp} {r : V → Hp → VK → Prop} (ho : UnR X (unaryOp op) r) (ha : PE X a ta) : PE X (.UnaryOp op a pos) (tUn r ta) := by
  intro pins s σ H Q I h
  exact UnaryOp_ (thn (ha pins s σ H _ I h) fun v s1 ⟨x, H1, I1, r1, q1⟩ => ho pins s1 σ H1 x v Q I1 r1 q1)
/-! ### ints -/
theorem opI {f : Value → Value → Sem Value} {C : Int → Int → Prop} {g : Int → Int → Int}
    (rule : ∀ (i j : Int) (t u : Tok) (s : Shared) (Q : Value → Shared → Prop) (E : Value → Shared → Prop), C i j → Q (.int (g i j) s.toks) { s with toks := s.toks + 1 } → wpAny (model X.prog X.w) X.A (f (.int i t) (.int j u)) Q E s) :
    OpR X f (rI C fun i j => .int (g i j)) := by
  intro pins s σ H x y v u Q I rx ry h
  obtain ⟨i, j, rfl, rfl, hc, q⟩ := h
  obtain ⟨t, rfl⟩ := rx
  obtain ⟨t', rfl⟩ := ry
  exact rule i j t t' s _ _ hc ⟨.int (g i j), H, I.tok _, ⟨_, rfl⟩, q⟩
theorem opI0 {f : Value → Value → Sem Value} {g : Int → Int → Int}
    (rule : ∀ (i j : Int) (t u : Tok) (s : Shared) (Q : Value → Shared → Prop) (E : Value → Shared → Prop), Q (.int (g i j) s.toks) { s with toks := s.toks + 1 } → wpAny (model X.prog X.w) X.A (f (.int i t) (.int j u)) Q E s) :
    OpR X f (rI0 fun i j => .int (g i j)) := by
  intro pins s σ H x y v u Q I rx ry h
  obtain ⟨i, j, rfl, rfl, q⟩ := h
  obtain ⟨t, rfl⟩ := rx
  obtain ⟨t', rfl⟩ := ry
  exact rule i j t t' s _ _ ⟨.int (g i j), H, I.tok _, ⟨_, rfl⟩, q⟩
theorem opB0 {f : Value → Value → Sem Value} {g : Int → Int → Bool}
    (rule : ∀ (i j : Int) (t u : Tok) (s : Shared) (Q : Value → Shared → Prop) (E : Value → Shared → Prop), Q (.bool (g i j)) s → wpAny (model X.prog X.w) X.A (f (.int i t) (.int j u)) Q E s) :
    OpR X f (rI0 fun i j => .bl (g i j)) := by
  intro pins s σ H x y v u Q I rx ry h
  obtain ⟨i, j, rfl, rfl, q⟩ := h
  obtain ⟨t, rfl⟩ := rx
  obtain ⟨t', rfl⟩ := ry
  exact rule i j t t' s _ _ ⟨.bl (g i j), H, I, rfl, q⟩

theorem op_add : OpR X (binaryOp .Add) (rI0 fun i j => .int (i + j)) := opI0 fun _ _ _ _ _ _ _ q => add_int q
theorem op_sub : OpR X (binaryOp .Sub) (rI0 fun i j => .int (i - j)) := opI0 fun _ _ _ _ _ _ _ q => sub_int q
theorem op_modN : OpR X (binaryOp .Mod) (rI (fun _ j => j ≠ 0) fun i j => .int (i.fmod j)) := opI fun _ _ _ _ _ _ _ hc q => mod_int' hc q
theorem unI {f : Value → Sem Value} {g : Int → Int}
    (rule : ∀ (i : Int) (t : Tok) (s : Shared) (Q : Value → Shared → Prop) (E : Value → Shared → Prop), Q (.int (g i) s.toks) { s with toks := s.toks + 1 } → wpAny (model X.prog X.w) X.A (f (.int i t)) Q E s) :
    UnR X f (rU fun i => .int (g i)) := by
  intro pins s σ H x v Q I rx h
  obtain ⟨i, rfl, q⟩ := h
  obtain ⟨t, rfl⟩ := rx
  exact rule i t s _ _ ⟨.int (g i), H, I.tok _, ⟨_, rfl⟩, q⟩
theorem un_neg : UnR X (unaryOp .USub) (rU fun i => .int (-i)) := unI fun _ _ _ _ _ q => neg_int q
/-! ### bools among ints: n += (a < b) -/
end

/-! ### comparisons -/
/-- the scalars that == tells apart as data does -/
def scal : V → V → Bool
  | .non, .non => true | .non, .int _ => true | .int _, .non => true | .non, .bl _ => true | .bl _, .non => true | .non, .str _ => true | .str _, .non => true
  | .int _, .int _ => true | .bl _, .bl _ => true | .str _, .str _ => true | .byt _, .byt _ => true
  | .int _, .str _ => true | .str _, .int _ => true | .bl _, .str _ => true | .str _, .bl _ => true
  | _, _ => false
def rEq : R2 := fun x y H Q => scal x y = true ∧ Q (.bl (decide (x = y))) H
def rNe : R2 := fun x y H Q => scal x y = true ∧ Q (.bl (!decide (x = y))) H

theorem dec_int {i j : Int} : decide (V.int i = V.int j) = (i == j) := by
  rw [Bool.eq_iff_iff]
  simp
theorem dec_bl {i j : Bool} : decide (V.bl i = V.bl j) = (i == j) := by
  rw [Bool.eq_iff_iff]
  simp
theorem dec_str {i j : Str} : decide (V.str i = V.str j) = (i == j) := by
  rw [Bool.eq_iff_iff]
  simp
theorem dec_byt {i j : Array UInt8} : decide (V.byt i = V.byt j) = (i.toList == j.toList) := by
  rw [Bool.eq_iff_iff]
  cases i
  cases j
  simp

section
variable {X : Cx} {a b c : Expr} {ta tb tc : TE} {pos : Pos}
theorem fin_bl {pins : List (Addr × Obj)} {σ : St} {H : Hp} {s : Shared} {Q : VK} {k k' : Bool} (I : Inv X pins σ H s) (q : Q (.bl k) H) (e : k = k') : EP X pins σ Q (.bool k') s := by
  subst e
  exact ⟨.bl k, H, I, rfl, q⟩
theorem op_eq : OpR X (compareOp .Eq) rEq := by
  intro pins s σ H x y v u Q I rx ry h
  obtain ⟨hs, q⟩ := h
  cases x with
  | non =>
    cases rx
    cases y with
    | non => cases ry; exact PySem.EqNone.eq_none_none (fin_bl I q (by simp))
    | bl j => cases ry; exact PySem.EqNone.eq_none_bool (fin_bl I q (by simp))
    | int j => obtain ⟨t', rfl⟩ := ry; exact PySem.EqNone.eq_none_int (fin_bl I q (by simp))
    | str j => obtain ⟨t', rfl⟩ := ry; exact PySem.EqNone.eq_none_str (fin_bl I q (by simp))
    | _ => exact absurd (show false = true from hs) Bool.false_ne_true
  | bl i =>
    cases rx
    cases y with
    | non => cases ry; exact PySem.EqNone.eq_bool_none (fin_bl I q (by simp))
    | bl j => cases ry; exact eq_bool (fin_bl I q dec_bl)
    | str j => obtain ⟨t', rfl⟩ := ry; exact PySem.EqMixed.eq_bool_str (fin_bl I q (by simp))
    | _ => exact absurd (show false = true from hs) Bool.false_ne_true
  | int i =>
    obtain ⟨t, rfl⟩ := rx
    cases y with
    | non => cases ry; exact PySem.EqNone.eq_int_none (fin_bl I q (by simp))
    | int j => obtain ⟨t', rfl⟩ := ry; exact eq_int (fin_bl I q dec_int)
    | str j => obtain ⟨t', rfl⟩ := ry; exact PySem.EqMixed.eq_int_str (fin_bl I q (by simp))
    | _ => exact absurd (show false = true from hs) Bool.false_ne_true
  | str i =>
    obtain ⟨t, rfl⟩ := rx
    cases y with
    | non => cases ry; exact PySem.EqNone.eq_str_none (fin_bl I q (by simp))
    | bl j => cases ry; exact PySem.EqMixed.eq_str_bool (fin_bl I q (by simp))
    | int j => obtain ⟨t', rfl⟩ := ry; exact PySem.EqMixed.eq_str_int (fin_bl I q (by simp))
    | str j => obtain ⟨t', rfl⟩ := ry; exact eq_str (fin_bl I q dec_str)
    | _ => exact absurd (show false = true from hs) Bool.false_ne_true
  | byt i =>
    obtain ⟨t, rfl⟩ := rx
    cases y with
    | byt j => obtain ⟨t', rfl⟩ := ry; exact PySem.W.eq_bytes (fin_bl I q dec_byt)
    | _ => exact absurd (show false = true from hs) Bool.false_ne_true
  | _ => cases y <;> exact absurd (show false = true from hs) Bool.false_ne_true
theorem op_ne : OpR X (compareOp .NotEq) rNe := by
  intro pins s σ H x y v u Q I rx ry h
  obtain ⟨hs, q⟩ := h
  cases x with
  | non =>
    cases rx
    cases y with
    | non => cases ry; exact PySem.EqNone.ne_none_none (fin_bl I q (by simp))
    | bl j => cases ry; exact PySem.EqNone.ne_none_bool (fin_bl I q (by simp))
    | int j => obtain ⟨t', rfl⟩ := ry; exact PySem.EqNone.ne_none_int (fin_bl I q (by simp))
    | str j => obtain ⟨t', rfl⟩ := ry; exact PySem.EqNone.ne_none_str (fin_bl I q (by simp))
    | _ => exact absurd (show false = true from hs) Bool.false_ne_true
  | bl i =>
    cases rx
    cases y with
    | non => cases ry; exact PySem.EqNone.ne_bool_none (fin_bl I q (by simp))
    | bl j => cases ry; exact ne_bool (fin_bl I q (congrArg not dec_bl))
    | str j => obtain ⟨t', rfl⟩ := ry; exact PySem.EqMixed.ne_bool_str (fin_bl I q (by simp))
    | _ => exact absurd (show false = true from hs) Bool.false_ne_true
  | int i =>
    obtain ⟨t, rfl⟩ := rx
    cases y with
    | non => cases ry; exact PySem.EqNone.ne_int_none (fin_bl I q (by simp))
    | int j => obtain ⟨t', rfl⟩ := ry; exact ne_int (fin_bl I q (congrArg not dec_int))
    | str j => obtain ⟨t', rfl⟩ := ry; exact PySem.EqMixed.ne_int_str (fin_bl I q (by simp))
    | _ => exact absurd (show false = true from hs) Bool.false_ne_true
  | str i =>
    obtain ⟨t, rfl⟩ := rx
    cases y with
    | non => cases ry; exact PySem.EqNone.ne_str_none (fin_bl I q (by simp))
    | bl j => cases ry; exact PySem.EqMixed.ne_str_bool (fin_bl I q (by simp))
    | int j => obtain ⟨t', rfl⟩ := ry; exact PySem.EqMixed.ne_str_int (fin_bl I q (by simp))
    | str j => obtain ⟨t', rfl⟩ := ry; exact ne_str (fin_bl I q (congrArg not dec_str))
    | _ => exact absurd (show false = true from hs) Bool.false_ne_true
  | byt i =>
    obtain ⟨t, rfl⟩ := rx
    cases y with
    | byt j => obtain ⟨t', rfl⟩ := ry; exact PySem.W.ne_bytes (fin_bl I q (congrArg not dec_byt))
    | _ => exact absurd (show false = true from hs) Bool.false_ne_true
  | _ => cases y <;> exact absurd (show false = true from hs) Bool.false_ne_true

theorem op_lt : OpR X (compareOp .Lt) (rI0 fun i j => .bl (decide (i < j))) := opB0 fun _ _ _ _ _ _ _ q => lt_int q
theorem op_le : OpR X (compareOp .LtE) (rI0 fun i j => .bl (decide (i ≤ j))) := opB0 fun _ _ _ _ _ _ _ q => le_int q
theorem op_gt : OpR X (compareOp .Gt) (rI0 fun i j => .bl (decide (j < i))) := opB0 fun _ _ _ _ _ _ _ q => gt_int q
/-- is None, is not None: the right side a value none -/
theorem op_isN : OpR X (compareOp .Is) (fun x y H Q => y = .non ∧ Q (.bl (decide (x = .non))) H) := by
  intro pins s σ H x y v u Q I rx ry h
  obtain ⟨rfl, q⟩ := h
  cases ry
  refine is_none_gen (fin_bl I q ?_)
  cases x <;> first
    | (cases rx; rfl)
    | (obtain ⟨t, rfl⟩ := rx; rfl)
theorem nomark (b : Expr) {op : CmpOp} (h : op ≠ .In := by decide) (h2 : op ≠ .NotIn := by decide) : behindInMarks op b = false := by
  have e1 : (op == CmpOp.In) = false := by cases op <;> first | rfl | exact absurd rfl h
  have e2 : (op == CmpOp.NotIn) = false := by cases op <;> first | rfl | exact absurd rfl h2
  cases b <;> simp [behindInMarks, e1, e2]
/-- a comparison as a value; hm: nomark b, or (for in, not in) by with_unfolding_all rfl -/
theorem pe_cmpR {op : CmpOp} {r : R2} (ho : OpR X (compareOp op) r) (ha : PE X a ta) (hb : PE X b tb) (hm : behindInMarks op b = false) : PE X (.Compare a [op] [b] pos) (tOp r ta tb) := by
  intro pins s σ H Q I h
  exact wpAny_Compare1 (binT ha hb I h fun v u s2 x y H2 I2 rx ry q => ho pins s2 σ H2 x y v u Q I2 rx ry q) hm
/-- a reading of a value as a test -/
def tTest (t : TE) : TT := fun σ H Q => t σ H fun x H' => ∃ k, x = .bl k ∧ Q k H'
theorem pt_cmpR {op : CmpOp} {r : R2} (ho : OpR X (compareOp op) r) (ha : PE X a ta) (hb : PE X b tb) (hm : behindInMarks op b = false) : PT X (.Compare a [op] [b] pos) (tTest (tOp r ta tb)) := by
  intro pins s σ H Q I h
  refine wpAny_isTrue_Compare1 (thn (ha pins s σ H _ I h) fun v s1 ⟨x, H1, I1, r1, q1⟩ => thn (hb pins s1 σ H1 _ I1 q1) fun u s2 ⟨y, H2, I2, r2, q2⟩ =>
    thn (ho pins s2 σ H2 x y v u _ I2 r1 r2 q2) fun c s3 ⟨z, H3, I3, r3, k, e, q3⟩ => ?_) hm
  subst e
  cases r3
  exact wpAny_truthy_bool ⟨H3, I3, q3⟩
/-- a op1 b op2 c -/
def tChain (r r' : R2) (ta tb tc : TE) : TE := fun σ H Q => ta σ H fun x H1 => tb σ H1 fun y H2 => r x y H2 fun z H3 => ∃ k, z = .bl k ∧
  (if k = true then tc σ H3 fun w' H4 => r' y w' H4 Q else Q (.bl false) H3)
theorem pt_chain {op op' : CmpOp} {r r' : R2} (ho : OpR X (compareOp op) r) (ho' : OpR X (compareOp op') r') (ha : PE X a ta) (hb : PE X b tb) (hc : PE X c tc)
    (hm : lastMarks [op, op'] [b, c] = false := by with_unfolding_all rfl) : PT X (.Compare a [op, op'] [b, c] pos) (tTest (tChain r r' ta tb tc)) := by
  intro pins s σ H Q I h
  refine isTrue_chain (thn (ha pins s σ H _ I h) fun v s1 ⟨x, H1, I1, r1, q1⟩ => test_link (thn (hb pins s1 σ H1 _ I1 q1) fun u s2 ⟨y, H2, I2, r2, q2⟩ =>
    thn (ho pins s2 σ H2 x y v u _ I2 r1 r2 q2) fun d s3 ⟨z, H3, I3, r3, k, e, q3⟩ => ?_)) hm
  subst e
  cases r3
  refine wpAny_truthy_bool ?_
  cases k with
  | false =>
    obtain ⟨k', e', q'⟩ := q3
    cases e'
    exact ite_ff ⟨H3, I3, q'⟩
  | true =>
    refine ite_tt (test_last (thn (hc pins s3 σ H3 _ I3 q3) fun w' s4 ⟨z', H4, I4, r4, q4⟩ => thn (ho' pins s4 σ H4 y z' u w' _ I4 r2 r4 q4) fun d' s5 ⟨z2, H5, I5, r5, k2, e2, q5⟩ => ?_))
    subst e2
    cases r5
    exact wpAny_truthy_bool ⟨H5, I5, q5⟩

/-! ### truth -/
theorem line63 : (sizeLine : Nat) < 2 ^ 63 := by rw [sizeLine_eq]; decide
/-! ### strs and bytes -/
theorem op_add_str : OpR X (binaryOp .Add) (fun x y H Q => ∃ i j, x = .str i ∧ y = .str j ∧ i.length + j.length ≤ sizeLine ∧ Q (.str (i ++ j)) H) := by
  intro pins s σ H x y v u Q I rx ry h
  obtain ⟨i, j, rfl, rfl, hz, q⟩ := h
  obtain ⟨t, rfl⟩ := rx
  obtain ⟨t', rfl⟩ := ry
  exact add_str (fun t' tk => ⟨.str (i ++ j), H, I.tok _, ⟨_, rfl⟩, q⟩) hz
/-! ### scalar builtins, by CallR -/
theorem vals1 {x : V} {us : List Value} (r : Vals [x] us) : ∃ u, us = [u] ∧ RelV x u := by
  cases r with
  | cons r1 r2 => cases r2; exact ⟨_, rfl, r1⟩
theorem vals2 {x y : V} {us : List Value} (r : Vals [x, y] us) : ∃ u w', us = [u, w'] ∧ RelV x u ∧ RelV y w' := by
  cases r with
  | cons r1 r2 =>
    cases r2 with
    | cons r3 r4 => cases r4; exact ⟨_, _, rfl, r1, r3⟩
theorem call_abs : CallR X (.builtin "abs") (fun xs H Q => ∃ i, xs = [.int i] ∧ Q (.int (if i < 0 then -i else i)) H) := by
  intro pins s σ H xs us Q I r h
  obtain ⟨i, rfl, q⟩ := h
  obtain ⟨u, rfl, t, rfl⟩ := vals1 r
  exact call_abs_int fun u tk => ⟨.int (if i < 0 then -i else i), H, I.tok _, ⟨_, rfl⟩, q⟩
end
end L2

namespace L2
open PySem PySem.Spec PyProof.Rows

/-! ### an instance, its attributes a map -/
structure ObjM (h : Heap) (x dx C : Addr) (mA : Str → Option Value) : Prop where
  obj : h.get? x = some (PySem.W.instObj C dx)
  ns : h.Ns1 dx mA
  ne : dx ≠ x

theorem lookIn_ns {h : Heap} {dx : Addr} {mA : Str → Option Value} (n : h.Ns1 dx mA) : ∃ od, h.get? dx = some od ∧ ∀ name, PySem.W.lookIn name od = some (mA name) := by
  obtain ⟨o, es, ep, ho, hd, hk, _, hm⟩ := n
  refine ⟨o, ho, fun name => ?_⟩
  have e := hm name
  unfold nsFind findBy at e
  rw [← Array.find?_toList] at e
  unfold PySem.W.lookIn
  rw [hd]
  dsimp only
  split
  · rename_i y q
    rw [q] at e
    exact congrArg some e
  · rename_i q
    rw [q] at e
    have a : es.toList.any (·.refKey) = false := by
      rw [List.any_eq_false]
      intro y hy
      obtain ⟨z, t, hkey⟩ := hk y (Array.mem_toList_iff.mp hy)
      simp [DictEntry.refKey, hkey]
    have a' : ¬ es.toList.any (·.refKey) = true := by rw [a]; exact Bool.false_ne_true
    rw [if_neg a']
    exact congrArg some e

theorem ObjM.look {h : Heap} {x dx C : Addr} {mA : Str → Option Value} (I : ObjM h x dx C mA) : ∃ od, PySem.W.InstAt h x (PySem.W.instObj C dx) C (some od) ∧ ∀ name, PySem.W.lookIn name od = some (mA name) :=
  let ⟨od, ho, hl⟩ := lookIn_ns I.ns
  ⟨od, ⟨I.obj, rfl, rfl, ho⟩, hl⟩

section
variable {prog : Program} {w : World} {A : Around} {E : Value → Shared → Prop} {s : Shared} {K : PySem.W.Frag} {x dx C f : Addr} {mA : Str → Option Value} {name : Str} {v : Value}

theorem get_map {expr : Bool} {Q : Value → Shared → Prop} (X : K.In s.heap) (I : ObjM s.heap x dx C mA) (hg : PySem.W.plainGet K C name = true) (hh : PySem.W.hasDictIn K C = true)
    (ha : PySem.W.findIn K (.ref C) name = some none) (hv : mA name = some v) (hv' : PySem.W.handedIn v = true) (h : Q v { s with toks := s.toks + 1 }) :
    wpAny (model prog w) A (getAttr (.ref x) name expr) Q E s := by
  obtain ⟨od, J, hl⟩ := I.look
  exact PySem.W.get_value X J (PySem.W.plainGet_of hg).1 (PySem.W.findObj_own hh ha rfl (by rw [hl, hv])) hv' h

theorem set_map {ns : List Str} {Q : Unit → Shared → Prop} (X : K.In s.heap) (I : ObjM s.heap x dx C mA)
    (hs : PySem.W.findIn K (.ref C) "__setattr__" = some (some (.builtin "object.__setattr__"))) (hp : PySem.W.plainOver K C = true) (ht : PySem.W.takerIn K C name = some none) (hh : PySem.W.hasDictIn K C = true)
    (hw : PySem.Within mA ns) (hsz : ns.length ≤ sizeLine)
    (h : ∀ h', ObjM h' x dx C (fun y => if y = name then some v else mA y) → Heap.SameBut dx s.heap h' → Q () { s with heap := h', toks := s.toks + 2 }) :
    wpAny (model prog w) A (setAttr (.ref x) name v) Q E s := by
  obtain ⟨od, J, hl⟩ := I.look
  refine PySem.W.set_plain X J hs (PySem.W.osa_open (s := { s with toks := s.toks + 1 }) (r := none) X J hp ht fun b => ?_)
  obtain ⟨cd, hc, hd'⟩ := PySem.W.any_some hh
  have hx : s.heap.get? x = some ⟨.ref C, some dx, .plain, #[]⟩ := I.obj
  refine wpAny_bind (wpAny_pure (wpAny_bind (wpAny_bind (wpAny_loadPart hx (wpAny_bind (PySem.W.Looks.here (s := { s with toks := s.toks + 1 }) (PySem.W.looks_clsIn X hc) ?_))))))
  rw [hd']
  refine wpAny_pure (a := some dx) (wpAny_bind (wpAny_pure (wpAny_bind ?_)))
  refine wpAny_nsSet1 (s := { s with toks := s.toks + 1 }) I.ns fun h' hn2 hs2 => ?_
  obtain ⟨oD, esD, epD, hoD, hdD, hcD⟩ := hn2.count (PySem.Within.cons name v hw)
  refine wpAny_bind (wpAny_lookBehind hoD (by rw [hdD]; exact pastItsLine_dict (Nat.le_trans hcD (by rw [List.length_cons]; omega))) ?_)
  exact wpAny_pure (h _ ⟨(hs2.2 _ (Ne.symm I.ne)).trans I.obj, hn2, I.ne⟩ hs2)

/-- C(..): the dict at the heap's end, the instance behind it; then its __init__ -/
theorem make_map {R : Result → Shared → Prop} {vs : List Value} {kw : List (Str × Value)} (X : K.In s.heap) (hm : PySem.W.makesIn K C = true)
    (hi : PySem.W.findIn K (.ref C) "__init__" = some (some (.ref f))) (hf : PySem.W.typeIn K (.ref f) = some (.type "function"))
    (h : codeAny (model prog w) (A.under (.builtin "type.__call__" ⟨.ref C :: vs, kw⟩)) (.call (.ref f) ⟨.ref (s.heap.objs.size + 1) :: vs, kw⟩) (PySem.W.InitBack (s.heap.objs.size + 1) R)
      { s with heap := (s.heap.push PySem.W.emptyDict).push (PySem.W.instObj C s.heap.objs.size) }) :
    codeAny (model prog w) A (.call (.ref C) ⟨vs, kw⟩) R s := by
  obtain ⟨hh, g, d, t, os⟩ := s
  exact PySem.W.make_core (PySem.W.makes_of X hm) (PySem.W.looks_findIn X hi) (fun self => PySem.W.bind_fn X self hf) (.inl rfl) h
end

/-! ### the attributes as a list of pairs -/
def putF (f : Str) (v : V) : List (Str × V) → List (Str × V)
  | [] => [(f, v)]
  | (g, x) :: r => if g = f then (g, v) :: r else (g, x) :: putF f v r
theorem lookup_putF (f g : Str) (v : V) : ∀ fs : List (Str × V), (putF f v fs).lookup g = if g = f then some v else fs.lookup g
  | [] => by
    show List.lookup g [(f, v)] = _
    by_cases h : g = f
    · have hb : (g == f) = true := beq_iff_eq.mpr h
      simp only [List.lookup, hb, if_pos h]
    · have hb : (g == f) = false := beq_eq_false_iff_ne.mpr h
      simp only [List.lookup, hb, if_neg h]
  | (k, x) :: r => by
    have ih := lookup_putF f g v r
    rw [show putF f v ((k, x) :: r) = (if k = f then (k, v) :: r else (k, x) :: putF f v r) from rfl]
    by_cases hk : k = f
    · rw [if_pos hk]
      by_cases h : g = k
      · have hb : (g == k) = true := beq_iff_eq.mpr h
        simp only [List.lookup, hb, if_pos (h.trans hk)]
      · have hb : (g == k) = false := beq_eq_false_iff_ne.mpr h
        simp only [List.lookup, hb, if_neg (fun e : g = f => h (e.trans hk.symm))]
    · rw [if_neg hk]
      by_cases h : g = k
      · have hb : (g == k) = true := beq_iff_eq.mpr h
        simp only [List.lookup, hb, if_neg (fun e : g = f => hk (h.symm.trans e))]
      · have hb : (g == k) = false := beq_eq_false_iff_ne.mpr h
        simp only [List.lookup, hb]
        exact ih
theorem keys_putF (f : Str) (v : V) : ∀ fs : List (Str × V), f ∈ (putF f v fs).map (·.1) ∧ ∀ g, g ∈ fs.map (·.1) → g ∈ (putF f v fs).map (·.1)
  | [] => ⟨by simp [putF], fun g h => by simp at h⟩
  | (k, x) :: r => by
    obtain ⟨i1, i2⟩ := keys_putF f v r
    rw [show putF f v ((k, x) :: r) = (if k = f then (k, v) :: r else (k, x) :: putF f v r) from rfl]
    by_cases hk : k = f
    · rw [if_pos hk]
      subst hk
      exact ⟨by simp, fun g h => by simpa using h⟩
    · rw [if_neg hk]
      refine ⟨?_, fun g h => ?_⟩
      · rw [List.map_cons]
        exact List.mem_cons_of_mem _ i1
      · rw [List.map_cons] at h ⊢
        rcases List.mem_cons.mp h with e | e
        · exact List.mem_cons.mpr (.inl e)
        · exact List.mem_cons_of_mem _ (i2 g e)
theorem length_putF (f : Str) (v : V) : ∀ fs : List (Str × V), (putF f v fs).length ≤ fs.length + 1
  | [] => by simp [putF]
  | (k, x) :: r => by
    have ih := length_putF f v r
    rw [show putF f v ((k, x) :: r) = (if k = f then (k, v) :: r else (k, x) :: putF f v r) from rfl]
    by_cases hk : k = f
    · rw [if_pos hk, List.length_cons, List.length_cons]; omega
    · rw [if_neg hk, List.length_cons, List.length_cons]; omega

theorem RelO.some_of {v : V} {o : Option Value} (r : RelO (some v) o) : ∃ u, o = some u ∧ RelV v u := by
  cases o with
  | none => exact (show False from r).elim
  | some u => exact ⟨u, rfl, r⟩
theorem handed_of {v : V} {u : Value} (r : RelV v u) : PySem.W.handedIn u = true := by
  cases v with
  | non => cases (show u = Value.none from r); rfl
  | bl b => cases (show u = Value.bool b from r); rfl
  | int i => obtain ⟨t, e⟩ := (show ∃ t, u = Value.int i t from r); cases e; rfl
  | str x => obtain ⟨t, e⟩ := (show ∃ t, u = Value.str x t from r); cases e; rfl
  | byt b => obtain ⟨t, e⟩ := (show ∃ t, u = Value.bytes b t from r); cases e; rfl
  | flt b => obtain ⟨t, e⟩ := (show ∃ t, u = Value.float b t from r); cases e; rfl
  | ref a => cases (show u = Value.ref a from r); rfl
  | ty n => cases (show u = Value.type n from r); rfl

section
variable {P : Program} {w : World} {H H' : Hp} {h h' : Heap} {a C dx : Addr} {fs fs' : List (Str × V)}
theorem ins_get (hok : HOk P w H h) (e : H a = some (.ins C dx fs)) : ∃ mA, ObjM h a dx C mA ∧ (∀ f, RelO (fs.lookup f) (mA f)) ∧ PySem.Within mA (fs.map (·.1)) ∧ fs.length ≤ 1000 ∧ H dx = some (.own a) := by
  obtain ⟨d, z, ne, ob, mA, n, r, q⟩ := (show ObjOk P w H h a (.ins C dx fs) from hok a _ e)
  exact ⟨mA, ⟨ob, n, ne⟩, r, q, z, d⟩
end

/-! ### what of the text a class must have -/
structure Cls (K : PySem.W.Frag) (C : Addr) : Prop where
  pg : PySem.W.plainGet K C Str.empty = true
  hd : PySem.W.hasDictIn K C = true
  po : PySem.W.plainOver K C = true
  sa : PySem.W.findIn K (.ref C) "__setattr__" = some (some (.builtin "object.__setattr__"))
theorem Cls.get {K : PySem.W.Frag} {C : Addr} (c : Cls K C) (f : Str) : PySem.W.plainGet K C f = true := c.pg
/-- no class of it has the name -/
def NoAttr (K : PySem.W.Frag) (C : Addr) (f : Str) : Prop := PySem.W.findIn K (.ref C) f = some none
theorem NoAttr.taker {K : PySem.W.Frag} {C : Addr} {f : Str} (n : NoAttr K C f) : PySem.W.takerIn K C f = some none := by
  unfold PySem.W.takerIn
  rw [show PySem.W.findIn K (.ref C) f = some none from n]
  rfl
section
variable {X : Cx} {pins : List (Addr × Obj)} {σ : St} {H : Hp} {s : Shared} {a C dx : Addr} {fs : List (Str × V)} {f : Str} {v : V} {A : Around} {E : Value → Shared → Prop}

theorem getattr_ok {b : Bool} {Q : Value → Shared → Prop} (I : Inv X pins σ H s) (e : H a = some (.ins C dx fs)) (c : Cls X.K C) (n : NoAttr X.K C f) (l : fs.lookup f = some v)
    (h : ∀ u s', Inv X pins σ H s' → RelV v u → Q u s') : wpAny (model X.prog X.w) A (getAttr (.ref a) f b) Q E s := by
  obtain ⟨mA, O, r, _, _, _⟩ := ins_get I.hok e
  obtain ⟨u, hu, ru⟩ := RelO.some_of (v := v) (o := mA f) (by rw [← l]; exact r f)
  exact get_map I.kIn O (c.get f) c.hd n hu (handed_of ru) (h u _ (I.tok _) ru)

theorem setattr_ok {y : V} {u : Value} {Q : Unit → Shared → Prop} (I : Inv X pins σ H s) (e : H a = some (.ins C dx fs)) (c : Cls X.K C) (n : NoAttr X.K C f) (hl : fs.length < 1000) (ry : RelV y u)
    (h : ∀ s', Inv X pins σ (upd H a (.ins C dx (putF f y fs))) s' → Q () s') : wpAny (model X.prog X.w) A (setAttr (.ref a) f u) Q E s := by
  obtain ⟨mA, O, r, wi, _, ho⟩ := ins_get I.hok e
  have hz : (fs.map (·.1)).length ≤ sizeLine := by rw [List.length_map, sizeLine_eq]; omega
  refine set_map I.kIn O c.sa c.po n.taker c.hd wi hz fun h' O' sb => h _ ?_
  have hd : ∃ o, h'.get? dx = some o := let ⟨o, _, _, e', _⟩ := O'.ns; ⟨o, e'⟩
  refine I.write (x := a) (e := dx) (by rw [e]; exact True.intro) (.inr ho) (fun b q hb z => (sb.2 b hb).trans z) hd ?_
  refine ⟨by rw [upd_ne O.ne]; exact ho, ?_, O.ne, O'.obj, _, O'.ns, fun g => ?_, fun g hg => ?_⟩
  · have := length_putF f y fs; omega
  · show RelO ((putF f y fs).lookup g) (if g = f then some u else mA g)
    rw [lookup_putF]
    by_cases q : g = f
    · rw [if_pos q, if_pos q]; exact ry
    · rw [if_neg q, if_neg q]; exact r g
  · by_cases q : g = f
    · rw [q]; exact (keys_putF f y fs).1
    · refine (keys_putF f y fs).2 g (wi g fun z => hg ?_)
      show (if g = f then some u else mA g) = none
      rw [if_neg q]; exact z

/-- a new instance, tracked, without attributes -/
theorem Inv.made (I : Inv X pins σ H s) : Inv X pins σ (upd (upd H s.heap.objs.size (.own (s.heap.objs.size + 1))) (s.heap.objs.size + 1) (.ins C s.heap.objs.size []))
    { s with heap := (s.heap.push PySem.W.emptyDict).push (PySem.W.instObj C s.heap.objs.size) } := by
  have e1 : (s.heap.push PySem.W.emptyDict).get? s.heap.objs.size = some PySem.W.emptyDict := Heap.get?_push_size s.heap rfl
  have e2 : ((s.heap.push PySem.W.emptyDict).push (PySem.W.instObj C s.heap.objs.size)).get? (s.heap.objs.size + 1) = some (PySem.W.instObj C s.heap.objs.size) := by
    have := Heap.get?_push_size (s.heap.push PySem.W.emptyDict) (o := PySem.W.instObj C s.heap.objs.size) rfl
    rwa [Heap.size_push] at this
  have e3 : (s.heap.push PySem.W.emptyDict).Ns s.heap.objs.size (fun _ => none) := ⟨PySem.W.emptyDict, #[], _, e1, rfl, (fun e he => absurd he (by simp)), fun _ => rfl⟩
  have I1 := I.laid (a := s.heap.objs.size) (o := .own (s.heap.objs.size + 1)) (h' := s.heap.push PySem.W.emptyDict) (t' := s.toks) (fun b u q => Heap.get?_push_of_some _ q) (Nat.le_refl _) ⟨_, e1⟩
  refine I1.laid (a := s.heap.objs.size + 1) (o := .ins C s.heap.objs.size []) (t' := s.toks) (fun b u q => Heap.get?_push_of_some _ q) (Nat.le_of_eq (Heap.size_push _ _)) ?_
  have ne : s.heap.objs.size ≠ s.heap.objs.size + 1 := Nat.ne_of_lt (Nat.lt_succ_self _)
  refine ⟨by rw [upd_ne ne, upd_same], Nat.zero_le _, ne, e2, fun _ => none, (Heap.Ns1.of_empty e3).at fun o q => Heap.get?_push_of_some _ q, fun _ => True.intro, fun y hy => absurd rfl hy⟩

/-- e.f where nothing but the object is asked: through attributeBase (super) and the last hold -/
theorem attr_of {prog : Program} {w : World} {env : Env} {e : Expr} {f : Str} {pos : Pos} {s : Shared} {Q : Value → Shared → Prop} (hb : attributeBase e f env (eval e env) = eval e env)
    (h : wpAny (model prog w) A (eval e env) (fun o s₁ => wpAny (model prog w) A (getAttr o f true) Q E s₁) E s) : wpAny (model prog w) A (eval (.Attribute e f pos) env) Q E s :=
  Attribute_any_ h (by rw [arm_eval_Attribute, hb])
end

/-! ### readings and rules -/
/-- e.f, an attribute of the instance -/
def tFld (K : PySem.W.Frag) (ta : TE) (f : Str) : TE := fun σ H Q => ta σ H fun x H1 => ∃ a C dx fs v, x = .ref a ∧ H1 a = some (.ins C dx fs) ∧ Cls K C ∧ NoAttr K C f ∧ fs.lookup f = some v ∧ Q v H1
/-- e.f = value -/
def sFld (K : PySem.W.Frag) (ta tv : TE) (f : Str) : TS := fun D σ H => tv σ H fun y H1 => ta σ H1 fun x H2 => ∃ a C dx fs, x = .ref a ∧ H2 a = some (.ins C dx fs) ∧ Cls K C ∧ NoAttr K C f ∧ fs.length < 1000 ∧
  D.nx σ (upd H2 a (.ins C dx (putF f y fs)))
section
variable {X : Cx} {o e value : Expr} {f : Str} {pos pos' tpos : Pos} {ta tv : TE}
theorem pe_fld (he : PE X e ta) (hb : attributeBase e f X.env (eval e X.env) = eval e X.env) : PE X (.Attribute e f pos) (tFld X.K ta f) := by
  intro pins s σ H Q I h
  refine attr_of hb (thn (he pins s σ H _ I h) fun u s1 ⟨x, H1, I1, rx, a, C, dx, fs, v, ex, ea, c, n, l, q⟩ => ?_)
  subst ex
  obtain rfl : u = Value.ref a := rx
  exact getattr_ok I1 ea c n l fun u' s2 I2 ru => ⟨v, H1, I2, ru, q⟩
theorem ps_fld (ha : PE X o ta) (hv : PE X value tv) (hs : swapsWith value (some (.Attribute o f pos')) pos.line X.env = pure false) : PS X (.Assign [.Attribute o f pos'] value pos) (sFld X.K ta tv f) := by
  intro pins s σ H D I h
  refine plainObj_wpAny_Assign_Attribute (thn (hv pins s σ H _ I h) fun u s1 ⟨y, H1, I1, ry, q⟩ => thn (ha pins s1 σ H1 _ I1 q) fun ov s2 ⟨x, H2, I2, rx, a, C, dx, fs, ex, ea, c, n, l, q2⟩ => ?_) hs
  subst ex
  obtain rfl : ov = Value.ref a := rx
  exact setattr_ok I2 ea c n l ry fun s3 I3 => ⟨σ, _, I3, q2⟩
end

/-! ### isinstance -/
section
variable {X : Cx} {pins : List (Addr × Obj)} {σ : St} {H : Hp} {s : Shared} {A : Around} {E : Value → Shared → Prop} {Q : Value → Shared → Prop} {c : Value} {b : Bool}
/-- the type of a value, as the fragment's deciders take it; for an instance its class -/
inductive TyOf (K : PySem.W.Frag) (H : Hp) : V → Value → Prop where
  | non : TyOf K H .non (.type "NoneType")
  | bl (x : Bool) : TyOf K H (.bl x) (.type "bool")
  | int (i : Int) : TyOf K H (.int i) (.type "int")
  | str (x : Str) : TyOf K H (.str x) (.type "str")
  | flt (x : UInt64) : TyOf K H (.flt x) (.type "float")
  | lst {a : Addr} {xs : List V} (e : H a = some (.lst xs)) : TyOf K H (.ref a) (.type "list")
  | frz {a : Addr} {o : Obj} {xs : List V} (e : H a = some (.frz o (.lst xs))) : TyOf K H (.ref a) (.type "list")
  | tup {a : Addr} {xs : List V} (e : H a = some (.tup xs)) : TyOf K H (.ref a) (.type "tuple")
  | dK {a : Addr} {kvs : List (Key × V)} (e : H a = some (.dK kvs)) : TyOf K H (.ref a) (.type "dict")
  | dT {a : Addr} {kvs : List (List Key × V)} (e : H a = some (.dT kvs)) : TyOf K H (.ref a) (.type "dict")
  | ins {a C dx : Addr} {fs : List (Str × V)} (e : H a = some (.ins C dx fs)) (cl : Cls K C) (ha : PySem.W.findIn K (.ref C) "__class__" = some (some (.builtin "object.__class__")))
      (hn : PySem.W.specialIn K (.builtin "object.__class__") "__get__" = some (some (.builtin "getset_descriptor.__get__"))) (htk : PySem.W.takesIn K (.builtin "object.__class__") = some true)
      (hm : PySem.W.mroIn K C (.type "object") = some true) : TyOf K H (.ref a) (.ref C)
/-- isinstance(x, c) for one class c, a built-in or an own one: kitOne's answer -/
theorem isinst_ok {x : V} {u t : Value} (I : Inv X pins σ H s) (rx : RelV x u) (ty : TyOf X.K H x t) (e : PySem.W.kitOne X.K t c = some b) (h : ∀ tk, Q (.bool b) { s with toks := tk }) :
    wpAny (model X.prog X.w) A (call (.builtin "isinstance") [u, c]) Q E s := by
  cases ty with
  | non => cases (show u = Value.none from rx); exact PySem.W.kia_one PySem.W.kitx_none I.kIn True.intro e (fun z => nomatch z) h
  | bl y => cases (show u = Value.bool y from rx); exact PySem.W.kia_one PySem.W.kitx_bool I.kIn True.intro e (fun z => nomatch z) h
  | int i => obtain ⟨t, q⟩ := (show ∃ t, u = Value.int i t from rx); cases q; exact PySem.W.kia_one PySem.W.kitx_int I.kIn True.intro e (fun z => nomatch z) h
  | str y => obtain ⟨t, q⟩ := (show ∃ t, u = Value.str y t from rx); cases q; exact PySem.W.kia_one PySem.W.kitx_str I.kIn True.intro e (fun z => nomatch z) h
  | flt y => obtain ⟨t, q⟩ := (show ∃ t, u = Value.float y t from rx); cases q; exact PySem.W.kia_one PySem.W.kitx_float I.kIn True.intro e (fun z => nomatch z) h
  | @lst a xs ea =>
    cases (show u = Value.ref a from rx)
    obtain ⟨_, _, n, _, h1⟩ := (show ObjOk X.prog X.w H s.heap a (.lst xs) from I.hok a _ ea)
    exact PySem.W.kia_one PySem.W.kitx_list I.kIn ⟨_, h1, rfl⟩ e (fun z => nomatch z) h
  | @frz a ob xs ea =>
    cases (show u = Value.ref a from rx)
    obtain ⟨_, _, _, n, _, h1⟩ := (show ObjOk X.prog X.w H s.heap a (.frz ob (.lst xs)) from I.hok a _ ea)
    exact PySem.W.kia_one PySem.W.kitx_list I.kIn ⟨_, h1, rfl⟩ e (fun z => nomatch z) h
  | @tup a xs ea =>
    cases (show u = Value.ref a from rx)
    obtain ⟨_, _, _, p⟩ := (show ObjOk X.prog X.w H s.heap a (.tup xs) from I.hok a _ ea)
    obtain ⟨o, h1, h2, _⟩ := p
    exact PySem.W.kia_one PySem.W.kitx_tuple I.kIn ⟨o, h1, h2⟩ e (fun z => nomatch z) h
  | @dK a kvs ea =>
    cases (show u = Value.ref a from rx)
    obtain ⟨_, _, vs, _, p⟩ := (show ObjOk X.prog X.w H s.heap a (.dK kvs) from I.hok a _ ea)
    obtain ⟨o, es, ep, h1, h2, _⟩ := p
    exact PySem.W.kia_one PySem.W.kitx_dict I.kIn ⟨o, h1, h2.1⟩ e (fun z => nomatch z) h
  | @dT a kvs ea =>
    cases (show u = Value.ref a from rx)
    obtain ⟨_, _, xs, _, o, es, ep, h1, h2, _⟩ := (show ObjOk X.prog X.w H s.heap a (.dT kvs) from I.hok a _ ea)
    exact PySem.W.kia_one PySem.W.kitx_dict I.kIn ⟨o, h1, h2.1⟩ e (fun z => nomatch z) h
  | @ins a C dx fs ea cl ha hn htk hm =>
    cases (show u = Value.ref a from rx)
    obtain ⟨mA, O, _⟩ := ins_get I.hok ea
    obtain ⟨od, J, _⟩ := O.look
    exact PySem.W.kia_one (PySem.W.kitx_own (cl.get _) cl.hd ha hn htk hm) I.kIn J e (fun z => nomatch z) h
end
end L2

namespace L2
open PySem PySem.Spec PyProof.Rows

/-! ### room -/
structure Room (k : Nat) (A : Around) : Prop where
  hd : A.handled = none
  dp : A.depth + 3 * k + 5 < recursionLimit
  un : A.units + 16 * k + 200 < cLine
theorem Room.mono {j k : Nat} {A : Around} (r : Room k A) (h : j ≤ k) : Room j A := ⟨r.hd, by have := r.dp; omega, by have := r.un; omega⟩
theorem Room.deeper {k : Nat} {A : Around} (r : Room (k + 1) A) (env : Env) : Room k (A.deeper env) :=
  ⟨r.hd, by have := r.dp; show A.depth + 1 + 3 * k + 5 < _; omega, by have := r.un; show A.units + 3 + 16 * k + 200 < _; omega⟩
theorem make_depth {A : Around} {C : Addr} {us : List Value} {kw : List (Str × Value)} : (A.under (.builtin "type.__call__" ⟨.ref C :: us, kw⟩)).depth = A.depth + 1 := by
  first | rfl | simp [Around.under, Code.weight, Code.isCreation, Code.isGuard, Code.isCaller, Code.frames, Code.isFrame, guardIds]
theorem make_units {A : Around} {C : Addr} {us : List Value} {kw : List (Str × Value)} : (A.under (.builtin "type.__call__" ⟨.ref C :: us, kw⟩)).units = A.units + 1 := by
  first | rfl | simp [Around.under, Code.cUnits, Code.frames, Code.isFrame]
theorem Room.make {k : Nat} {A : Around} (r : Room (k + 1) A) (C : Addr) (us : List Value) (kw : List (Str × Value)) : Room k (A.under (.builtin "type.__call__" ⟨.ref C :: us, kw⟩)) :=
  ⟨r.hd, by have := r.dp; rw [make_depth]; omega, by have := r.un; rw [make_units]; omega⟩
theorem Room.depth {k : Nat} {A : Around} (r : Room k A) : A.depth < recursionLimit := by have := r.dp; omega
theorem Room.units {k : Nat} {A : Around} (r : Room k A) : A.units + 64 < cLine := by have := r.un; omega
theorem Room.units0 {k : Nat} {A : Around} (r : Room k A) : A.units < cLine := by have := r.un; omega

/-! ### argument lists and displays -/
def tNil : TA := fun _ H Q => Q [] H
def tCons (ta : TE) (tr : TA) : TA := fun σ H Q => ta σ H fun x H1 => tr σ H1 fun xs H2 => Q (x :: xs) H2
section
variable {X : Cx} {e : Expr} {es : List Expr} {te : TE} {t : TA} {pos : Pos}
theorem pa_nil : PA X [] tNil := fun _ _ _ _ H Q I h => Calls.spliced_nil ⟨[], H, I, .nil, h⟩
theorem pa_cons (ha : PE X e te) (hr : PA X es t) (hs : starEach (e :: es) X.env = (false, eval e X.env) :: starEach es X.env := by rfl) : PA X (e :: es) (tCons te t) := by
  intro pos pins s σ H Q I h
  rw [hs]
  show wpAny _ _ (spliced ((false, eval e X.env) :: backTo pos (starEach es X.env))) _ _ s
  refine Calls.spliced_cons (thn (ha pins s σ H _ I h) fun u s1 ⟨x, H1, I1, r1, q1⟩ => ?_)
  exact thn (hr pos pins s1 σ H1 _ I1 q1) fun us s2 ⟨xs, H2, I2, r2, q2⟩ => ⟨x :: xs, H2, I2, .cons r1 r2, q2⟩

/-- a tuple, a list of written items -/
def tTup (t : TA) : TE := fun σ H Q => t σ H fun xs H1 => xs.length ≤ sizeLine ∧ ∀ p, H1 p = none → Q (.ref p) (upd H1 p (.tup xs))
def tLst (t : TA) : TE := fun σ H Q => t σ H fun xs H1 => xs.length ≤ sizeLine ∧ ∀ p, H1 p = none → Q (.ref p) (upd H1 p (.lst xs))
theorem pe_tup {x1} (h : PA X es t) : PE X (.Tuple es x1 pos) (tTup t) := by
  intro pins s σ H Q I hq
  refine wpAny_Tuple_spliced (thn (h pos pins s σ H _ I hq) fun us s1 ⟨xs, H1, I1, r, z, q⟩ => ⟨by rw [← r.length]; exact z, ?_⟩)
  have hf : H1 s1.heap.objs.size = none := I1.hok.fresh (Nat.le_refl _)
  refine ⟨.ref s1.heap.objs.size, upd H1 s1.heap.objs.size (.tup xs), I1.laid (t' := s1.toks) (fun b u e => Heap.get?_push_of_some _ e) (Nat.le_refl _) ?_, rfl, q _ hf⟩
  exact ⟨z, us, r, ⟨_, Heap.get?_push_size _ rfl, rfl, _, rfl⟩⟩
theorem pe_lst (h : PA X es t) : PE X (.List es pos) (tLst t) := by
  intro pins s σ H Q I hq
  refine wpAny_List_spliced (thn (h pos pins s σ H _ I hq) fun us s1 ⟨xs, H1, I1, r, z, q⟩ => ⟨by rw [← r.length]; exact z, ?_⟩)
  have hf : H1 s1.heap.objs.size = none := I1.hok.fresh (Nat.le_refl _)
  refine ⟨.ref s1.heap.objs.size, upd H1 s1.heap.objs.size (.lst xs), I1.laid (t' := s1.toks) (fun b u e => Heap.get?_push_of_some _ e) (Nat.le_refl _) ?_, rfl, q _ hf⟩
  exact ⟨z, us, 0, r, Heap.get?_push_size _ rfl⟩
end

/-! ### what a def promises -/
/-- a def's promise: the bound arguments in the parameters' order, the heap, the wanted end, the wanted exception -/
abbrev Sp := List V → Hp → VK → XK → Prop
/-- how an exception lies behind a call (file 08 gives it): the callers' frames, abstract heap and state ahead of the call, the wish, the exception, the state -/
abbrev CXT := List Env → Hp → Shared → XK → Value → Shared → Prop

/-- the state at a call -/
structure Env0 (P : Program) (w : World) (K : PySem.W.Frag) (mg : Str → Option Value) (base : Heap) (A : Around) (outer : List Env) (s : Shared) (H : Hp) : Prop where
  frames : A.frames = some outer
  mod : Mod K mg base
  bs : ∀ b o, base.get? b = some o → s.heap.get? b = some o ∧ H b = none
  bsz : base.objs.size ≤ s.heap.objs.size
  funs : s.heap.FunFrames base outer
  frf : ∀ b ∈ frs outer, H b = none
  hok : HOk P w H s.heap
  bare : AllBare s.gens
/-- a call's end -/
def CE (outer : List Env) (P : Program) (w : World) (H : Hp) (s : Shared) (Q : VK) (u : Value) (s' : Shared) : Prop :=
  ∃ v H', s'.os = s.os ∧ AllBare s'.gens ∧ Un (frs outer) [] H H' s.heap s'.heap ∧ HOk P w H' s'.heap ∧ RelV v u ∧ Q v H'
def CR (CX : CXT) (outer : List Env) (P : Program) (w : World) (H : Hp) (s : Shared) (Q : VK) (E : XK) (r : Result) (s' : Shared) : Prop :=
  match r with
  | .ok (.ret u) => CE outer P w H s Q u s'
  | .ok _ => False
  | .error e => CX outer H s E e s'
structure FnOk (P : Program) (w : World) (K : PySem.W.Frag) (mg : Str → Option Value) (base : Heap) (CX : CXT) (k : Nat) (f : Addr) (fd : FuncData) (ps : List Str) (sp : Sp) : Prop where
  len : ∀ vs H Q E, sp vs H Q E → vs.length = ps.length
  run : ∀ (A : Around) (outer : List Env) (s : Shared) (H : Hp) (args : Args) (us : List Value) (vs : List V) (Q : VK) (E : XK), Room k A → Env0 P w K mg base A outer s H → BindsTo s fd args (ps.zip us) → Vals vs us → sp vs H Q E →
    codeAny (model P w) A (.call (.ref f) args) (CR CX outer P w H s Q E) s
theorem Env0.make {P : Program} {w : World} {K : PySem.W.Frag} {mg : Str → Option Value} {base : Heap} {A : Around} {outer : List Env} {s : Shared} {H : Hp} (e : Env0 P w K mg base A outer s H) (C : Addr) (us : List Value) (kw : List (Str × Value)) :
    Env0 P w K mg base (A.under (.builtin "type.__call__" ⟨.ref C :: us, kw⟩)) outer s H := ⟨by first | exact e.frames | (simpa [Around.under, Code.envs, Code.isFrame, pushEnvs] using e.frames), e.mod, e.bs, e.bsz, e.funs, e.frf, e.hok, e.bare⟩
section
variable {X : Cx} {pins : List (Addr × Obj)} {σ : St} {H : Hp} {s s' : Shared}
/-- from a body: what a callee wants -/
theorem Inv.env0 (I : Inv X pins σ H s) : Env0 X.prog X.w X.K X.mg X.base X.A X.stack s H :=
  ⟨I.ok.frames, I.ok.mod, I.bs, Nat.le_trans I.ok.bsz I.sz, I.stack, I.stkFree, I.hok, I.bare⟩
/-- behind a call -/
theorem Inv.after {Q : VK} {u : Value} (I : Inv X pins σ H s) (h : CE X.stack X.prog X.w H s Q u s') : EP X pins σ Q u s' := by
  obtain ⟨v, H', os, bare, un, hok, r, q⟩ := h
  obtain ⟨hh, g, d, t, os'⟩ := s'
  obtain rfl : os' = s.os := os
  exact ⟨v, H', I.call (h' := hh) (g' := g) (d' := d) (t' := t) (ch := []) un hok bare (fun b z => absurd z (by simp)), r, q⟩
end

/-! ### calls -/
/-- f(..): the written arguments, then the defaults dvs; E: what is wanted of an exception -/
def tCall (sp : Sp) (dvs : List V) (E : XK) (t : TA) : TE := fun σ H Q => t σ H fun vs H1 => sp (vs ++ dvs) H1 Q E
/-- C(..): a new instance and its dict, then __init__ -/
def tMake (C : Addr) (sp : Sp) (dvs : List V) (E : XK) (t : TA) : TE := fun σ H Q => t σ H fun vs H1 => ∀ x dx, H1 x = none → H1 dx = none → dx ≠ x →
  sp (.ref x :: (vs ++ dvs)) (upd (upd H1 dx (.own x)) x (.ins C dx [])) (fun v H2 => v = .non ∧ Q (.ref x) H2) E

/-- how the parameters are bound: us the positional arguments, kw the keywords' values by name, ds the defaults that fill up -/
def Binds (K : PySem.W.Frag) (fd : FuncData) (ps : List Str) (ds : List Value) : Prop :=
  ∀ (s : Shared) (us : List Value), K.In s.heap → (us ++ ds).length = ps.length → BindsTo s fd ⟨us, []⟩ (ps.zip (us ++ ds))
/-- every parameter is given -/
theorem Binds.all {K : PySem.W.Frag} {fd : FuncData} {ps : List Str} (h : ∀ us : List Value, us.length = ps.length → bindArgs fd ⟨us, []⟩ = pure (ps.zip us)) : Binds K fd ps [] := fun s us _ hl => by
  rw [List.append_nil] at hl ⊢
  exact .of_eq (h us hl)

/-- an exception of a callee reaches what this body wants of exceptions -/
def Passes (CX : CXT) (X : Cx) (E : XK) : Prop := ∀ (pins : List (Addr × Obj)) (σ : St) (H : Hp) (s : Shared) (e : Value) (s' : Shared), Inv X pins σ H s → CX X.stack H s E e s' → X.xe e s'

section
variable {X : Cx} {CX : CXT} {k : Nat} {f C : Addr} {fd : FuncData} {ps : List Str} {sp : Sp} {dvs : List V} {ds : List Value} {E : XK} {x m : Str} {p pos apos : Pos} {e o : Expr} {es : List Expr} {ta : TE} {t : TA}

/-- the callee runs -/
theorem run_fn {pins : List (Addr × Obj)} {σ : St} {H : Hp} {s : Shared} {Q : VK} {us : List Value} {vs : List V} (F : FnOk X.prog X.w X.K X.mg X.base CX k f fd ps sp) (hr : Room k X.A) (hb : Binds X.K fd ps ds) (hd : Vals dvs ds) (hx : Passes CX X E)
    (I : Inv X pins σ H s) (r : Vals vs us) (h : sp (vs ++ dvs) H Q E) : wpAny (model X.prog X.w) X.A (call (.ref f) us) (EP X pins σ Q) X.xe s := by
  have r2 : Vals (vs ++ dvs) (us ++ ds) := r.append hd
  have hl : (us ++ ds).length = ps.length := by rw [← r2.length]; exact F.len _ _ _ _ h
  refine wpAny_call (codeAny_mono (F.run X.A X.stack s H ⟨us, []⟩ (us ++ ds) (vs ++ dvs) Q E hr I.env0 (hb s us I.kIn hl) r2 h) fun r s' hq => ?_)
  cases r with
  | error e => exact hx pins σ H s e s' I hq
  | ok fl =>
    cases fl with
    | ret u => exact I.after hq
    | next => exact False.elim hq
    | brk => exact False.elim hq
    | cont => exact False.elim hq

theorem pe_call (F : FnOk X.prog X.w X.K X.mg X.base CX k f fd ps sp) (hr : Room k X.A) (hg : Gl X x) (hm : X.mg x = some (.ref f)) (hk : PySem.W.keepIn X.K (.ref f) = true) (hb : Binds X.K fd ps ds) (hd : Vals dvs ds) (hx : Passes CX X E)
    (ha : PA X (e :: es) t) (hdb : (x == ("__debug__" : Str)) = false := by decide) (he : starEach (e :: es) X.env = (false, eval e X.env) :: starEach es X.env := by rfl) (hpl : (backTo pos (starEach es X.env)).any (·.1) = false := by rfl) :
    PE X (.Call (.Name x p) (e :: es) [] pos) (tCall sp dvs E t) := by
  intro pins s σ H Q I h
  refine wpAny_Call_Name_kw (ld_glob I hg hm ?_ hdb)
  refine PySem.W.callWith_K (h₀ := X.base) I.ok.mod.kin hk (thn (ha pos pins s σ H _ I h) fun us s1 ⟨vs, H1, I1, r, q⟩ => ⟨I1.kIn, ?_⟩) he hpl
  exact run_fn F hr hb hd hx I1 r q
/-- what a class must have to be made -/
structure Mk (K : PySem.W.Frag) (C f : Addr) : Prop where
  makes : PySem.W.makesIn K C = true
  init : PySem.W.findIn K (.ref C) "__init__" = some (some (.ref f))
  fn : PySem.W.isFn K (.ref f) = true
  kp : PySem.W.keepIn K (.ref C) = true

theorem run_make {pins : List (Addr × Obj)} {σ : St} {H : Hp} {s : Shared} {Q : VK} {us : List Value} {vs : List V} (M : Mk X.K C f) (F : FnOk X.prog X.w X.K X.mg X.base CX k f fd ps sp) (hr : Room (k + 1) X.A) (hb : Binds X.K fd ps ds) (hd : Vals dvs ds)
    (hx : Passes CX X E) (I : Inv X pins σ H s) (r : Vals vs us)
    (h : ∀ x dx, H x = none → H dx = none → dx ≠ x → sp (.ref x :: (vs ++ dvs)) (upd (upd H dx (.own x)) x (.ins C dx [])) (fun v H2 => v = .non ∧ Q (.ref x) H2) E) :
    wpAny (model X.prog X.w) X.A (call (.ref C) us) (EP X pins σ Q) X.xe s := by
  have hq := h (s.heap.objs.size + 1) s.heap.objs.size (I.hok.fresh (Nat.le_succ _)) (I.hok.fresh (Nat.le_refl _)) (Nat.ne_of_lt (Nat.lt_succ_self _))
  have I2 := Inv.made (C := C) I
  have r2 : Vals (V.ref (s.heap.objs.size + 1) :: (vs ++ dvs)) (Value.ref (s.heap.objs.size + 1) :: (us ++ ds)) := .cons rfl (r.append hd)
  have hl : (Value.ref (s.heap.objs.size + 1) :: us ++ ds).length = ps.length := by
    have e := r2.length
    rw [F.len _ _ _ _ hq] at e
    exact e.symm
  refine wpAny_call (make_map (f := f) I.kIn M.makes M.init (beq_iff_eq.mp M.fn) (codeAny_mono (F.run _ X.stack _ _ ⟨Value.ref (s.heap.objs.size + 1) :: us, []⟩ (Value.ref (s.heap.objs.size + 1) :: (us ++ ds)) _ _ E (hr.make C us [])
    (I2.env0.make C us []) (hb _ (Value.ref (s.heap.objs.size + 1) :: us) I2.kIn hl) r2 hq) fun r s' hq' => ?_))
  cases r with
  | error e => exact hx pins σ _ _ e s' I2 hq'
  | ok fl =>
    cases fl with
    | ret u =>
      obtain ⟨v, H', I3, rv, ev, q3⟩ := I2.after hq'
      subst ev
      exact ⟨rv, ⟨V.ref (s.heap.objs.size + 1), H', I3, rfl, q3⟩⟩
    | next => exact False.elim hq'
    | brk => exact False.elim hq'
    | cont => exact False.elim hq'
theorem pe_make (M : Mk X.K C f) (F : FnOk X.prog X.w X.K X.mg X.base CX k f fd ps sp) (hr : Room (k + 1) X.A) (hg : Gl X x) (hm : X.mg x = some (.ref C)) (hb : Binds X.K fd ps ds) (hd : Vals dvs ds) (hx : Passes CX X E)
    (ha : PA X (e :: es) t) (hdb : (x == ("__debug__" : Str)) = false := by decide) (he : starEach (e :: es) X.env = (false, eval e X.env) :: starEach es X.env := by rfl) (hpl : (backTo pos (starEach es X.env)).any (·.1) = false := by rfl) :
    PE X (.Call (.Name x p) (e :: es) [] pos) (tMake C sp dvs E t) := by
  intro pins s σ H Q I h
  refine wpAny_Call_Name_kw (ld_glob I hg hm ?_ hdb)
  refine PySem.W.callWith_K (h₀ := X.base) I.ok.mod.kin M.kp (thn (ha pos pins s σ H _ I h) fun us s1 ⟨vs, H1, I1, r, q⟩ => ⟨I1.kIn, ?_⟩) he hpl
  exact run_make M F hr hb hd hx I1 r q
end

/-! ### keywords -/
section
variable {X : Cx} {CX : CXT} {k : Nat} {f C : Addr} {fd : FuncData} {ps ks : List Str} {sp : Sp} {E : XK} {x m : Str} {p pos apos kpos : Pos} {e o : Expr} {es : List Expr} {kws : List Keyword} {te ta : TE} {t tk : TA} {nm : Option Str}
variable {g : List Value → List Value → List Value} {gV : List V → List V → List V}
end

/-! ### a def's body keeps its promise -/
/-- names: the parameters first -/
structure FnScope (N P : List Str) (sc : Scope) : Prop where
  kind : sc.kind = .function
  co : sc.isCoroutine = false
  gen : sc.isGenerator = false
  nd : N.Nodup
  pre : N.take P.length = P
  par : ∀ x ∈ P, sc.names.lookup x = some .local ∨ sc.names.lookup x = some .cell
  nofree : ∀ y ∈ sc.names, y.2 ≠ .free

theorem bindL_out {kindOf : Str → Option NameKind} {x : Str} : ∀ {binds : List (Str × Value)} {m : Str → Option Value}, (∀ v, (x, v) ∉ binds) → bindL kindOf binds m x = m x
  | [], _, _ => rfl
  | (n, v) :: r, m, h => by
    unfold bindL
    rw [bindL_out fun w hw => h w (List.mem_cons_of_mem _ hw)]
    split
    · have : x ≠ n := by rintro rfl; exact h v List.mem_cons_self
      simp [this]
    · rfl
theorem bindC_out {kindOf : Str → Option NameKind} {x : Str} : ∀ {binds : List (Str × Value)} {m : Str → Option Value}, (∀ v, (x, v) ∉ binds) → bindC kindOf binds m x = m x
  | [], _, _ => rfl
  | (n, v) :: r, m, h => by
    unfold bindC
    rw [bindC_out fun w hw => h w (List.mem_cons_of_mem _ hw)]
    split
    · rfl
    · have : x ≠ n := by rintro rfl; exact h v List.mem_cons_self
      simp [this]
theorem bindL_get {kindOf : Str → Option NameKind} {x : Str} {v : Value} : ∀ {P : List Str} {vs : List Value} {i : Nat} {m : Str → Option Value}, P.Nodup → P[i]? = some x → vs[i]? = some v → kindOf x = some .local →
    bindL kindOf (P.zip vs) m x = some v
  | [], _, _, _, _, h, _, _ => by simp at h
  | _ :: _, [], _, _, _, _, h, _ => by simp at h
  | p :: P, w :: vs, 0, m, nd, h1, h2, hk => by
    simp at h1 h2; subst h1; subst h2
    show bindL kindOf ((p, w) :: P.zip vs) m p = _
    unfold bindL
    rw [bindL_out fun v hv => (List.nodup_cons.mp nd).1 (List.of_mem_zip hv).1, if_pos hk]
    simp
  | p :: P, w :: vs, i + 1, m, nd, h1, h2, hk => by
    show bindL kindOf ((p, w) :: P.zip vs) m x = _
    unfold bindL
    exact bindL_get (i := i) (List.nodup_cons.mp nd).2 (by simpa using h1) (by simpa using h2) hk
theorem bindC_get {kindOf : Str → Option NameKind} {x : Str} {v : Value} : ∀ {P : List Str} {vs : List Value} {i : Nat} {m : Str → Option Value}, P.Nodup → P[i]? = some x → vs[i]? = some v → kindOf x ≠ some .local →
    bindC kindOf (P.zip vs) m x = some v
  | [], _, _, _, _, h, _, _ => by simp at h
  | _ :: _, [], _, _, _, _, h, _ => by simp at h
  | p :: P, w :: vs, 0, m, nd, h1, h2, hk => by
    simp at h1 h2; subst h1; subst h2
    show bindC kindOf ((p, w) :: P.zip vs) m p = _
    unfold bindC
    rw [bindC_out fun v hv => (List.nodup_cons.mp nd).1 (List.of_mem_zip hv).1, if_neg hk]
    simp
  | p :: P, w :: vs, i + 1, m, nd, h1, h2, hk => by
    show bindC kindOf ((p, w) :: P.zip vs) m x = _
    unfold bindC
    exact bindC_get (i := i) (List.nodup_cons.mp nd).2 (by simpa using h1) (by simpa using h2) hk

/-- the names' values at the entry -/
def start (N : List Str) (vs : List V) : St := vs.map some ++ List.replicate (N.length - vs.length) none

/-- the context of a def's body, at its entry; an exception leaves the frame, then lies as CX says -/
def cxOf (CX : CXT) (P : Program) (w : World) (K : PySem.W.Frag) (mg : Str → Option Value) (base : Heap) (N : List Str) (qual : Str) (scope : Scope) (f : Addr) (cd : Value) (A : Around) (outer : List Env) (s : Shared) (H : Hp) (E : XK) : Cx where
  prog := P
  w := w
  K := K
  mg := mg
  base := base
  A := A.deeper (envOfC qual scope s.heap.objs.size f cd)
  N := N
  s₀ := s
  H₀ := H
  env := envOfC qual scope s.heap.objs.size f cd
  outer := outer
  stack := envOfC qual scope s.heap.objs.size f cd :: outer
  ex := []
  calm := true
  fn := fun _ => true
  pn := []
  xe := fun e s' => wpAny (model P w) (A.deeper (envOfC qual scope s.heap.objs.size f cd)) (leaving (envOfC qual scope s.heap.objs.size f cd) e) (fun _ s'' => CX outer H s E e s'') (fun e' s'' => CX outer H s E e' s'') s'

theorem cell_has {sc : Scope} {n : Nat} {x : Str} (h : sc.names.lookup x = some .cell) : ∃ c, (cellsFrom n sc.names []).lookup x = some c := by
  have q := PySem.W.cellsFrom_some sc.names n [] (.inl h)
  exact Option.isSome_iff_exists.mp q

theorem inv_start {CX : CXT} {P : Program} {w : World} {K : PySem.W.Frag} {mg : Str → Option Value} {base : Heap} {N ps : List Str} {qual : Str} {scope : Scope} {f : Addr} {cd : Value} {A : Around} {outer : List Env} {s s1 : Shared} {H : Hp} {E : XK} {us : List Value} {vs : List V}
    (S : FnScope N ps scope) (hd : A.handled = none) (e0 : Env0 P w K mg base A outer s H) (hl : vs.length = ps.length) (r : Vals vs us)
    (x : InCallC s s.heap.objs.size (bindL (envOfC qual scope s.heap.objs.size f cd).kindOf (ps.zip us) fun _ => none) (cellsFrom (s.heap.objs.size + 1) scope.names []) (bindC (envOfC qual scope s.heap.objs.size f cd).kindOf (ps.zip us) fun _ => none) s1) :
    Inv (cxOf CX P w K mg base N qual scope f cd A outer s H E) [] (start N vs) H s1 := by
  have hpl : ps.length ≤ N.length := by have := congrArg List.length S.pre; rw [List.length_take] at this; omega
  obtain ⟨h1, tk, rfl, hk⟩ := x.done
  have noA : ∀ b : Addr, b ∉ (cxOf CX P w K mg base N qual scope f cd A outer s H E).ex := fun b z => absurd (show b ∈ ([] : List Addr) from z) (by simp)
  refine ⟨⟨e0.mod, S.kind, rfl, rfl, Nat.le_refl _, fun y z c h1 h2 => ?_, fun y hy => ?_, fun y c _ h => ?_, fun _ => hd, Around.frames_deeper e0.frames, .inr ⟨rfl, rfl⟩, fun b z => absurd z (noA b), e0.bs, e0.bsz, fun b _ _ => noA b, fun b z => absurd z (noA b), e0.funs, e0.frf⟩,
    rfl, e0.bare, Un.kept hk, ⟨_, x.toInCall.ns, fun i y v h1 h2 h3 => ?_⟩, fun y c h => ⟨_, x.cell y c h⟩, e0.hok.fresh (Nat.le_refl _), fun y c h => ?_, fun p hp => absurd (show p ∈ ([] : List (Addr × Obj)) from hp) (by simp), e0.hok.kept hk, ?_⟩
  · exact name_of_addr x.apart (PySem.mem_of_lookup h1) (PySem.mem_of_lookup h2)
  · have hy : scope.names.lookup y = some .cell ∨ scope.names.lookup y = some .free := hy
    rcases hy with hy | hy
    · exact cell_has hy
    · exact absurd rfl (S.nofree _ (PySem.mem_of_lookup hy))
  · exact Nat.le_of_lt (x.above y c (PySem.mem_of_lookup h))
  · have hi : i < vs.length := by
      unfold start at h2
      by_cases hi : i < vs.length
      · exact hi
      · rw [List.getElem?_append_right (by simpa using hi)] at h2
        rw [List.getElem?_replicate] at h2
        split at h2 <;> cases h2
    have ha : vs[i]? = some v := by
      unfold start at h2
      rw [List.getElem?_append_left (by simpa using hi), List.getElem?_map] at h2
      cases e : vs[i]? with
      | none => rw [e] at h2; cases h2
      | some a => rw [e] at h2; cases h2; rfl
    obtain ⟨u, hu, rv⟩ := r.get ha
    have hp : ps[i]? = some y := by
      rw [← S.pre, List.getElem?_take_of_lt (by omega)]; exact h1
    have ndP : ps.Nodup := by rw [← S.pre]; exact S.nd.sublist (List.take_sublist _ _)
    refine ⟨u, rv, ?_⟩
    rcases S.par y (List.mem_of_getElem? hp) with k | k
    · exact .inl ⟨k, bindL_get ndP hp hu k⟩
    · obtain ⟨c, e⟩ := cell_has (n := s.heap.objs.size + 1) k
      refine .inr ⟨.inl k, c, e, ?_⟩
      have q := x.cell y c e
      rw [bindC_get ndP hp hu (by show scope.names.lookup y ≠ _; rw [k]; decide)] at q
      exact q
  · exact e0.hok.fresh (Nat.le_of_lt (x.above y c (PySem.mem_of_lookup h)))
  · unfold start
    show _ = N.length
    rw [List.length_append, List.length_map, List.length_replicate]
    omega

/-- THE RULE: a def (or a method) of the text, by its body. The body's reading t is chosen for each entry; it is run at the parameters' values -/
theorem fn_of {CX : CXT} {P : Program} {w : World} {K : PySem.W.Frag} {mg : Str → Option Value} {base : Heap} {k : Nat} {f : Addr} {name qual : Str} {params : Arguments} {body : List Stmt} {scope : Scope} {dV kV doc pm cdv ct oc : Value} {an od : Option Addr}
    {osl : Array (Option Value)} {N ps : List Str} {sp : Sp} (lk : K.lookup f = some ⟨oc, od, .func (PySem.W.fnOf name qual params body scope dV kV doc pm an cdv ct), osl⟩) (hcd : PySem.W.codeIn K cdv qual = true) (S : FnScope N ps scope)
    (len : ∀ vs H Q E, sp vs H Q E → vs.length = ps.length)
    (hbody : ∀ (A : Around) (outer : List Env) (s : Shared) (H : Hp) (vs : List V) (Q : VK) (E : XK), Room k (A.deeper (envOfC qual scope s.heap.objs.size f cdv)) → sp vs H Q E →
      ∃ t, PSs (cxOf CX P w K mg base N qual scope f cdv A outer s H E) body t ∧ t { nx := fun _ H' => Q .non H', rt := Q } (start N vs) H) :
    FnOk P w K mg base CX (k + 1) f (PySem.W.fnOf name qual params body scope dV kV doc pm an cdv ct) ps sp := by
  refine ⟨len, fun A outer s H args us vs Q E hr e0 hb r hsp => ?_⟩
  have hl := len _ _ _ _ hsp
  have KX : K.In s.heap := e0.mod.kin.keeps fun b o e => (e0.bs b o e).1
  have lim : s.heap.NoLimit := e0.mod.nolimit.keeps fun b o e => (e0.bs b o e).1
  have hkind : ∀ y ∈ ps.zip us, scope.names.lookup y.1 = some .local ∨ (scope.names.lookup y.1 = some .cell ∧ ((cellsFrom (s.heap.objs.size + 1) scope.names []).lookup y.1).isSome = true) := fun ⟨n, v⟩ hy => by
    rcases S.par n (List.of_mem_zip hy).1 with q | q
    · exact .inl q
    · exact .inr ⟨q, PySem.W.cellsFrom_some _ _ _ (.inl q)⟩
  refine codeAny_call_function hr.depth (KX _ _ lk) rfl S.co S.gen rfl (PySem.W.codeRec_of KX hcd) (hb _ _ _ _ ?_)
  refine wpAny_newFunctionEnv_cells S.kind hkind fun env he s1 x => ?_
  subst he
  refine ⟨lim.keeps x.toInCall.keep, codeAny_func ?_⟩
  obtain ⟨t, ht, hq⟩ := hbody A outer s H vs Q E (hr.deeper _) hsp
  have I : Inv (cxOf CX P w K mg base N qual scope f cdv A outer s H E) [] (start N vs) H s1 := inv_start S hr.hd e0 hl r x
  refine wpAny_mono (ht [] s1 (start N vs) H _ I hq) (fun fl s' hs => ?_) fun e s' hs => hs
  have fin : ∀ {σ' : St} {H' : Hp} {v : V} {u : Value}, Inv (cxOf CX P w K mg base N qual scope f cdv A outer s H E) [] σ' H' s' → RelV v u → Q v H' → CE outer P w H s Q u s' :=
    fun {σ' H' v u} J rv q => ⟨v, H', J.os, J.bare, J.base, J.hok, rv, q⟩
  cases fl with
  | ret u =>
    obtain ⟨v, σ', H', J, rv, q⟩ := hs
    exact fin J rv q
  | next =>
    obtain ⟨σ', H', J, q⟩ := hs
    exact fin (v := V.non) (u := Value.none) J rfl q
  | brk =>
    obtain ⟨_, _, _, q⟩ := hs
    exact False.elim q
  | cont =>
    obtain ⟨_, _, _, q⟩ := hs
    exact False.elim q
end L2

namespace L2
open PySem PySem.Spec PyProof.Rows
section
variable {X : Cx} {x : Str} {p pos : Pos} {e : Expr} {es : List Expr} {t : TA} {id T : String} {r : List V → Hp → VK → Prop}

def tCB (r : List V → Hp → VK → Prop) (t : TA) : TE := fun σ H Q => t σ H fun vs H1 => r vs H1 Q
/-- f(e, ..), f a built-in function -/
theorem pe_callB (hc : CallR X (.builtin id) r) (hg : Gl X x) (hm : X.mg x = none) (hv : bootBuiltins x = some (.builtin id)) (ha : PA X (e :: es) t) (hn : x ≠ "__name__" := by decide) (hdb : (x == ("__debug__" : Str)) = false := by decide)
    (he : starEach (e :: es) X.env = (false, eval e X.env) :: starEach es X.env := by rfl) (hpl : (backTo pos (starEach es X.env)).any (·.1) = false := by rfl) : PE X (.Call (.Name x p) (e :: es) [] pos) (tCB r t) := by
  intro pins s σ H Q I h
  refine wpAny_Call_Name_kw (ld_blt I hg hm hv ?_ hn hdb)
  exact PyProof.Rows.callWith_builtin1 (thn (ha pos pins s σ H _ I h) fun us s1 ⟨vs, H1, I1, r1, q1⟩ => hc pins s1 σ H1 vs us Q I1 r1 q1) he hpl
/-- T(e, ..), T a built-in type -/
theorem pe_callTy (hc : CallR X (.type T) r) (hg : Gl X x) (hm : X.mg x = none) (hv : bootBuiltins x = some (.type T)) (ha : PA X (e :: es) t) (hn : x ≠ "__name__" := by decide) (hdb : (x == ("__debug__" : Str)) = false := by decide)
    (he : starEach (e :: es) X.env = (false, eval e X.env) :: starEach es X.env := by rfl) (hpl : (backTo pos (starEach es X.env)).any (·.1) = false := by rfl) : PE X (.Call (.Name x p) (e :: es) [] pos) (tCB r t) := by
  intro pins s σ H Q I h
  refine wpAny_Call_Name_kw (ld_blt I hg hm hv ?_ hn hdb)
  exact PyProof.Rows.callWith_type1 (thn (ha pos pins s σ H _ I h) fun us s1 ⟨vs, H1, I1, r1, q1⟩ => hc pins s1 σ H1 vs us Q I1 r1 q1) he hpl
end
end L2

namespace HT
open PySem PyProof.Rows

section
open PySem.SeqAt
open PySem.AutoSeq1 (wpAny_loadPart')
open PySem.MeetsSeq PySem.MeetsSeq2 PySem.MeetsSeq3

end

section
variable {prog : Program} {w : World} {A : Around} {E : Value → Shared → Prop} {s : Shared}

/-! ### t[a:b], not the whole -/
/-- a slice's bound as a place among n (d where it is left out) -/
def sIx (n d : Nat) : Option Int → Nat
  | none => d
  | some v => if v < 0 then (v + (n : Int)).toNat else min v.toNat n
theorem sIx_none (n d : Nat) : sIx n d none = d := rfl
theorem sIx_nat (n d k : Nat) : sIx n d (some (k : Int)) = min k n := by
  show (if (k : Int) < 0 then ((k : Int) + (n : Int)).toNat else min (k : Int).toNat n) = min k n
  rw [if_neg (by omega), Int.toNat_natCast]
end
end HT

namespace L2
open PySem PySem.Spec PyProof.Rows

/-! ### the parts of a slice -/
abbrev TO := St → Hp → (Option Int → Hp → Prop) → Prop
/-- a slice's part (left out, or an int) -/
def PO (X : Cx) (e : Option Expr) (t : TO) : Prop :=
  ∀ (pins : List (Addr × Obj)) (s : Shared) (σ : St) (H : Hp) (Q : Option Int → Hp → Prop), Inv X pins σ H s → t σ H Q →
    wpAny (model X.prog X.w) X.A (evalPart e X.env) (fun u s' => ∃ o H', Inv X pins σ H' s' ∧ IsPart u o ∧ Q o H') X.xe s
def tNoPart : TO := fun _ H Q => Q none H
def tPart (t : TE) : TO := fun σ H Q => t σ H fun x H1 => ∃ i, x = .int i ∧ Q (some i) H1

section
variable {X : Cx} {e : Expr} {te : TE} {lo hi : Option Expr} {tl th : TO} {pos p2 : Pos}

theorem po_none : PO X none tNoPart := by
  intro pins s σ H Q I h
  rw [evalPart_none]
  exact wpAny_pure ⟨none, H, I, .none, h⟩
theorem po_some (h : PE X e te) : PO X (some e) (tPart te) := by
  intro pins s σ H Q I hw
  rw [evalPart_some]
  refine thn (h pins s σ H _ I hw) fun u s1 ⟨x, H1, I1, r1, q1⟩ => ?_
  obtain ⟨i, rfl, q⟩ := q1
  obtain ⟨t, rfl⟩ := r1
  exact ⟨some i, H1, I1, .int i t, q⟩

/-- what a slice of a value is, by values: the slice object stands at sl -/
def SlR (X : Cx) (r : V → Option Int → Option Int → Hp → VK → Prop) : Prop :=
  ∀ (pins : List (Addr × Obj)) (s : Shared) (σ : St) (H : Hp) (x : V) (v vl vu : Value) (lo hi : Option Int) (sl : Addr) (Q : VK), Inv X pins σ H s → RelV x v → s.heap.IsSliceOf sl vl vu .none → IsPart vl lo → IsPart vu hi → r x lo hi H Q →
    ∃ T id, typeLookup (.type T) "__getitem__" = pure (some (.builtin id)) ∧ s.TypeIs v T ∧ wpAny (model X.prog X.w) X.A (getItem v (.ref sl)) (EP X pins σ Q) X.xe s
def tSl (r : V → Option Int → Option Int → Hp → VK → Prop) (te : TE) (tl th : TO) : TE := fun σ H Q => te σ H fun x H1 => tl σ H1 fun l H2 => th σ H2 fun u H3 => r x l u H3 Q
/-- a[lo:hi], any a -/
theorem pe_slice {r : V → Option Int → Option Int → Hp → VK → Prop} (hr : SlR X r) (he : PE X e te) (hl : PO X lo tl) (hu : PO X hi th) : PE X (.Subscript e (.Slice lo hi none p2) pos) (tSl r te tl th) := by
  intro pins s σ H Q I h
  refine Subscript_ (thn (he pins s σ H _ I h) fun v s1 ⟨x, H1, I1, r1, q1⟩ => ?_)
  refine wpAny_Slice (thn (hl pins s1 σ H1 _ I1 q1) fun vl s2 ⟨l, H2, I2, pl, q2⟩ => thn (hu pins s2 σ H2 _ I2 q2) fun vu s3 ⟨u, H3, I3, pu, q3⟩ => ?_)
  rw [evalPart_none]
  refine wpAny_pure ?_
  have I4 : Inv X pins σ H3 { s3 with heap := s3.heap.push { cls := .type "slice", data := .fields #[vl, vu, .none] } } := I3.kept (t' := s3.toks) fun b ob q => Heap.get?_push_of_some _ q
  obtain ⟨T, id, hT, ht, hg⟩ := hr pins { s3 with heap := s3.heap.push { cls := .type "slice", data := .fields #[vl, vu, .none] } } σ H3 x v vl vu l u s3.heap.objs.size Q I4 r1 (Heap.IsSliceOf.new ..) pl pu q3
  show wpAny (model X.prog X.w) X.A (subscriptTail e (.Slice lo hi none p2) v (.ref s3.heap.objs.size)) (EP X pins σ Q) X.xe { s3 with heap := s3.heap.push { cls := .type "slice", data := .fields #[vl, vu, .none] } }
  exact tail_any (ops := [.ref s3.heap.objs.size, v]) ht hT hg (by with_unfolding_all rfl)

/-- the items of xs[lo:hi] -/
def cutV (xs : List V) (lo hi : Option Int) : List V := (xs.drop (HT.sIx xs.length 0 lo)).take (HT.sIx xs.length xs.length hi - HT.sIx xs.length 0 lo)
theorem cutV_length (xs : List V) (lo hi : Option Int) : (cutV xs lo hi).length ≤ xs.length := by
  unfold cutV
  rw [List.length_take, List.length_drop]
  omega
/-! ### t < u, t + u -/
end
end L2

namespace L2
open PySem PySem.Spec PyProof.Rows

/-! ### places -/
/-- the place that an index of any sign means -/
def ixN (n : Nat) (i : Int) : Option Nat := if 0 ≤ i then (if i < n then some i.toNat else none) else if -(n : Int) ≤ i then some (i + n).toNat else none
def atI {α : Type} (xs : List α) (i : Int) : Option α := (ixN xs.length i).bind fun j => xs[j]?
theorem ixN_seq {n : Nat} {i : Int} {j : Nat} (h : ixN n i = some j) : seqIndex? i n = some j ∧ j < n ∧ -(n : Int) ≤ i ∧ i < n := by
  unfold ixN at h
  by_cases h0 : 0 ≤ i
  · rw [if_pos h0] at h
    by_cases h1 : i < n
    · rw [if_pos h1] at h
      have e : i.toNat = j := Option.some.inj h
      exact ⟨by rw [seqIndex_of h0 h1, e], by omega, by omega, h1⟩
    · rw [if_neg h1] at h; cases h
  · rw [if_neg h0] at h
    by_cases h1 : -(n : Int) ≤ i
    · rw [if_pos h1] at h
      have e : (i + n).toNat = j := Option.some.inj h
      exact ⟨by rw [seqIndex_neg (by omega) h1, e], by omega, h1, by omega⟩
    · rw [if_neg h1] at h; cases h
theorem atI_get {α : Type} {xs : List α} {i : Int} {v : α} (h : atI xs i = some v) : ∃ j, seqIndex? i xs.length = some j ∧ xs[j]? = some v ∧ j < xs.length ∧ -(xs.length : Int) ≤ i ∧ i < xs.length := by
  unfold atI at h
  cases e : ixN xs.length i with
  | none => rw [e] at h; cases h
  | some j =>
    rw [e] at h
    obtain ⟨h1, h2, h3, h4⟩ := ixN_seq e
    exact ⟨j, h1, h, h2, h3, h4⟩
theorem atI_nat {α : Type} {xs : List α} {j : Nat} {v : α} (h : xs[j]? = some v) : atI xs (j : Int) = some v := by
  have hj : j < xs.length := (List.getElem?_eq_some_iff.mp h).1
  have e : ixN xs.length (j : Int) = some j := by
    unfold ixN
    rw [if_pos (by omega), if_pos (by omega)]; simp
  unfold atI; rw [e]; exact h
/-! ### what may be subscripted -/
/-- what stands as an index of a plain subscript -/
def PlainIx (b : Expr) : Prop := ∀ o i, subscripted b false o i = operate [o, i] (getItem o i)
/-- a subscript by values -/
def IxR (X : Cx) (r : R2) : Prop :=
  ∀ (value slice : Expr) (pins : List (Addr × Obj)) (s : Shared) (σ : St) (H : Hp) (x y : V) (v u : Value) (Q : VK), Inv X pins σ H s → RelV x v → RelV y u → r x y H Q →
    subscripted slice false v u = operate [v, u] (getItem v u) → wpAny (model X.prog X.w) X.A (subscriptTail value slice v u) (EP X pins σ Q) X.xe s
/-- a call of a builtin's method by values: the receiver, the arguments -/
def MtR (X : Cx) (id : String) (r : V → List V → Hp → VK → Prop) : Prop :=
  ∀ (pins : List (Addr × Obj)) (s : Shared) (σ : St) (H : Hp) (x : V) (xs : List V) (v : Value) (us : List Value) (Q : VK), Inv X pins σ H s → RelV x v → Vals xs us → r x xs H Q →
    wpAny (model X.prog X.w) X.A (call (.builtin id) (v :: us)) (EP X pins σ Q) X.xe s
section
variable {X : Cx} {a b : Expr} {ta tb : TE} {pos : Pos}
/-- a[b] -/
theorem pe_ix {r : R2} (hr : IxR X r) (ha : PE X a ta) (hb : PE X b tb) (hs : PlainIx b) : PE X (.Subscript a b pos) (tOp r ta tb) := by
  intro pins s σ H Q I h
  exact Subscript_ (binT ha hb I h fun v u s2 x y H2 I2 rx ry q => hr a b pins s2 σ H2 x y v u Q I2 rx ry q (hs _ _))

def rIxL (K : PySem.W.Frag) : R2 := fun x y H Q => ∃ p xs i v, x = .ref p ∧ y = .int i ∧ SqL K H p xs ∧ atI xs i = some v ∧ Q v H
def rIxT (K : PySem.W.Frag) : R2 := fun x y H Q => ∃ p xs i v, x = .ref p ∧ y = .int i ∧ SqT K H p xs ∧ atI xs i = some v ∧ Q v H
def rIxS : R2 := fun x y H Q => ∃ z i c, x = .str z ∧ y = .int i ∧ z.length ≤ sizeLine ∧ atI z.cps.toList i = some c ∧ Q (.str ⟨#[c]⟩) H
theorem ix_list : IxR X (rIxL X.K) := by
  intro value slice pins s σ H x y v u Q I rx ry h hs
  obtain ⟨p, xs, i, z, rfl, rfl, hq, he, q⟩ := h
  cases rx
  obtain ⟨t, rfl⟩ := ry
  obtain ⟨its, r, pl, hz⟩ := I.list hq
  obtain ⟨j, h1, h2, h3, h4, h5⟩ := atI_get he
  obtain ⟨w, ew, rw'⟩ := r.get h2
  have hl := r.length
  have hn := line63
  have fin : EP X pins σ Q w s := ⟨z, H, I, rw', q⟩
  by_cases h0 : 0 ≤ i
  · have hj : i.toNat = j := by
      rw [seqIndex_of h0 h5] at h1
      exact Option.some.inj h1
    exact item_listR pl.isList h0 (by omega) (by rw [hj]; simpa using ew) fin hs
  · have hj : (i + (its.toArray.size : Int)).toNat = j := by
      rw [seqIndex_neg (by omega) h4] at h1
      rw [List.size_toArray, ← hl]
      exact Option.some.inj h1
    exact subscriptTail_builtinR (x := w) pl.isList.typeIs slot_list_getitem.lookup
      (wpAny_getItem_list_neg (Q := fun r s' => r = w ∧ EP X pins σ Q r s') pl.isList (by omega) (by rw [List.size_toArray] <;> omega) (by omega) (by rw [hj]; simpa using ew) ⟨rfl, fin⟩) hs
theorem ix_tup : IxR X (rIxT X.K) := by
  intro value slice pins s σ H x y v u Q I rx ry h hs
  obtain ⟨p, xs, i, z, rfl, rfl, hq, he, q⟩ := h
  cases rx
  obtain ⟨t, rfl⟩ := ry
  obtain ⟨its, r, pl, hz⟩ := I.tuple hq
  obtain ⟨j, h1, h2, h3, h4, h5⟩ := atI_get he
  obtain ⟨w, ew, rw'⟩ := r.get h2
  have hl := r.length
  have hn := line63
  have fin : EP X pins σ Q w s := ⟨z, H, I, rw', q⟩
  exact subscriptTail_builtinR (x := w) pl.typeIs slot_tuple_getitem.lookup
    (getItem_tuple (j := j) (Q := fun r s' => r = w ∧ EP X pins σ Q r s') pl (by omega) (by omega) (by rw [List.size_toArray, ← hl]; exact h1) (by simpa using ew) ⟨rfl, fin⟩) hs
theorem ix_str : IxR X rIxS := by
  intro value slice pins s σ H x y v u Q I rx ry h hs
  obtain ⟨z, i, c, rfl, rfl, hz, he, q⟩ := h
  obtain ⟨t, rfl⟩ := rx
  obtain ⟨t', rfl⟩ := ry
  obtain ⟨j, h1, h2, h3, h4, h5⟩ := atI_get he
  have hl : z.cps.toList.length = z.length := by simp [Str.length]
  rw [hl] at h1 h4 h5
  have hn := line63
  exact tail_any (typeIs_str s z t) slot_str_getitem.lookup (getItem_str (c := c) (by
    have e1 : decide (i < -(2 ^ 63 : Int)) = false := decide_eq_false (by omega)
    have e2 : decide (i ≥ 2 ^ 63) = false := decide_eq_false (by omega)
    rw [e1, e2, Bool.or_false]) (by rw [h1]; simpa using h2) ⟨.str ⟨#[c]⟩, H, I.tok _, ⟨_, rfl⟩, q⟩) hs
/-! ### xs[i] = v, any sign -/
/-! ### slices -/
theorem slice_bounds (lo hi : Option Int) (n : Nat) : (sliceBounds lo hi none n).1 = ((HT.sIx n 0 lo : Nat) : Int) ∧ (sliceBounds lo hi none n).2.1 = ((HT.sIx n n hi : Nat) : Int) ∧ (sliceBounds lo hi none n).2.2 = 1 := by
  refine ⟨?_, ?_, rfl⟩
  · cases lo with
    | none => simp [sliceBounds, HT.sIx]
    | some i =>
      simp only [sliceBounds, HT.sIx, Option.getD_none, show (1 : Int) > 0 by decide, if_true]
      by_cases h : i < 0
      · simp only [h, if_true] <;> omega
      · simp only [h, if_false] <;> omega
  · cases hi with
    | none => simp [sliceBounds, HT.sIx]
    | some i =>
      simp only [sliceBounds, HT.sIx, Option.getD_none, show (1 : Int) > 0 by decide, if_true]
      by_cases h : i < 0
      · simp only [h, if_true] <;> omega
      · simp only [h, if_false] <;> omega
theorem slicePick_cut (its : List Value) (lo hi : Option Int) : slicePick its.toArray lo hi none = ((its.drop (HT.sIx its.length 0 lo)).take (HT.sIx its.length its.length hi - HT.sIx its.length 0 lo)).toArray := by
  obtain ⟨h1, h2, h3⟩ := slice_bounds lo hi its.toArray.size
  unfold slicePick
  rw [h1, h2, h3]
  simp only [sliceRange_one, pick_run, List.size_toArray] <;> rfl
/-- xs[lo:hi] of a list: a new list -/
def rSlL (K : PySem.W.Frag) : V → Option Int → Option Int → Hp → VK → Prop := fun x lo hi H Q => ∃ a xs, x = .ref a ∧ SqL K H a xs ∧ ∀ p, H p = none → Q (.ref p) (upd H p (.lst (cutV xs lo hi)))
theorem sl_list : SlR X (rSlL X.K) := by
  intro pins s σ H x v vl vu lo hi sl Q I rx hs pl pu h
  obtain ⟨a, xs, rfl, hx, q⟩ := h
  cases rx
  obtain ⟨its, r, ht, hz⟩ := I.list hx
  have hlen := r.length
  refine ⟨"list", _, slot_list_getitem.lookup, ht.isList.typeIs, ?_⟩
  refine wpAny_getItem_list_slice ht.isList hs pl pu .none (by simp) ?_ (by rw [List.size_toArray] <;> omega)
  rw [slicePick_cut, ← hlen]
  refine ⟨.ref s.heap.objs.size, _, I.laid (t' := s.toks) (o := .lst (cutV xs lo hi)) (fun b ob q => Heap.get?_push_of_some _ q) (Nat.le_refl _) ?_, rfl, q _ (I.hok.fresh (Nat.le_refl _))⟩
  exact ⟨Nat.le_trans (cutV_length xs lo hi) hz, _, 0, (r.drop (HT.sIx xs.length 0 lo)).take (HT.sIx xs.length xs.length hi - HT.sIx xs.length 0 lo), Heap.get?_push_size _ rfl⟩

/-! ### in, not in: flat items -/
theorem op_notIn_str : OpR X (compareOp .NotIn) (fun x y H Q => ∃ i j, x = .str i ∧ y = .str j ∧ Q (.bl (!(!(Builtin.Str.occurrences j i 0 j.length 1).isEmpty))) H) := by
  intro pins s σ H x y v u Q I rx ry h
  obtain ⟨i, j, rfl, rfl, q⟩ := h
  obtain ⟨t, rfl⟩ := rx
  obtain ⟨t', rfl⟩ := ry
  exact notIn_str ⟨.bl _, H, I, rfl, q⟩

/-! ### len, list(x), tuple(x) of any list or tuple that is read -/
theorem call_len_seq : CallR X (.builtin "len") (fun xs H Q => ∃ p ys, xs = [.ref p] ∧ (SqL X.K H p ys ∨ SqT X.K H p ys) ∧ Q (.int ys.length) H) := by
  intro pins s σ H xs us Q I r h
  obtain ⟨p, ys, rfl, hq, q⟩ := h
  obtain ⟨u, rfl, rx⟩ := vals1 r
  cases rx
  have hn := line63
  rcases hq with hq | hq
  · obtain ⟨its, r', pl, hz⟩ := I.list hq
    have hlen := r'.length
    exact Calls.call_len_list pl.isList (by simp only [List.size_toArray] <;> omega) ⟨.int ys.length, H, I.tok _, ⟨s.toks + 1, by rw [List.size_toArray, hlen]⟩, q⟩
  · obtain ⟨its, r', pl, hz⟩ := I.tuple hq
    have hlen := r'.length
    exact len_tuple pl (by simp only [List.size_toArray] <;> omega) ⟨.int ys.length, H, I.tok _, ⟨s.toks + 1, by rw [List.size_toArray, hlen]⟩, q⟩
theorem call_len_str : CallR X (.builtin "len") (fun xs H Q => ∃ z, xs = [.str z] ∧ z.length ≤ sizeLine ∧ Q (.int z.length) H) := by
  intro pins s σ H xs us Q I r h
  obtain ⟨z, rfl, hz, q⟩ := h
  obtain ⟨u, rfl, t, rfl⟩ := vals1 r
  have hn := line63
  exact len_str (by omega) ⟨.int z.length, H, I.tok _, ⟨_, rfl⟩, q⟩
theorem call_list_of : CallR X (.type "list") (fun xs H Q => ∃ p ys, xs = [.ref p] ∧ (SqL X.K H p ys ∨ SqT X.K H p ys) ∧ ∀ l, H l = none → Q (.ref l) (upd H l (.lst ys))) := by
  intro pins s σ H xs us Q I r h
  obtain ⟨p, ys, rfl, hq, q⟩ := h
  obtain ⟨u, rfl, rx⟩ := vals1 r
  cases rx
  have fin : ∀ (its : List Value), Vals ys its → ys.length ≤ sizeLine → ∀ (h' : Heap) (c' : Nat), (∀ b o', s.heap.get? b = some o' → h'.get? b = some o') →
      h'.get? s.heap.objs.size = some { cls := .type "list", dict := none, data := .seq its.toArray c', slots := #[] } → EP X pins σ Q (.ref s.heap.objs.size) { s with heap := h' } := fun its r' hz h' c' kp e =>
    ⟨.ref s.heap.objs.size, _, I.laid (t' := s.toks) kp (Nat.le_refl _) (show ObjOk X.prog X.w _ h' _ (.lst ys) from ⟨hz, its, c', r', e⟩), rfl, q _ (I.hok.fresh (Nat.le_refl _))⟩
  rcases hq with hq | hq
  · obtain ⟨its, r', pl, hz⟩ := I.list hq
    have hlen := r'.length
    obtain ⟨o, ho, hc, n, hd⟩ := pl.isList
    exact call_list_seq p (.inl rfl) ho hc hd (fun h' c' kp e => fin its r' hz h' c' kp e) (by simp only [List.size_toArray] <;> omega)
  · obtain ⟨its, r', pl, hz⟩ := I.tuple hq
    have hlen := r'.length
    obtain ⟨o, ho, hc, n, hd⟩ := pl
    exact call_list_seq p (.inr rfl) ho hc hd (fun h' c' kp e => fin its r' hz h' c' kp e) (by simp only [List.size_toArray] <;> omega)
/-! ### the call of a builtin's method: o.m(..) -/
/-- the value is of that builtin type -/
def tyV (K : PySem.W.Frag) (T : String) (x : V) (H : Hp) : Prop := match x with
  | .str _ => T = "str"
  | .int _ => T = "int"
  | .ref p => (T = "list" ∧ ∃ xs, SqL K H p xs) ∨ (T = "tuple" ∧ ∃ o, K.lookup p = some o ∧ o.cls = .type "tuple" ∧ o.dict = none) ∨
      (T = "dict" ∧ ((∃ kvs, H p = some (.dK kvs)) ∨ ∃ kvs, H p = some (.dT kvs))) ∨ (T = "set" ∧ ∃ S n, H p = some (.set S n))
  | _ => False
theorem tyV_is {pins : List (Addr × Obj)} {σ : St} {H : Hp} {s : Shared} {T : String} {x : V} {v : Value} (I : Inv X pins σ H s) (r : RelV x v) (ty : tyV X.K T x H) :
    s.TypeIs v T ∧ ∀ a, v = .ref a → ∃ ob, s.heap.get? a = some ob ∧ ob.dict = none := by
  cases x with
  | str z =>
    obtain ⟨t, rfl⟩ := r
    cases (show T = "str" from ty)
    exact ⟨typeIs_str s z t, fun _ e => nomatch e⟩
  | int i =>
    obtain ⟨t, rfl⟩ := r
    cases (show T = "int" from ty)
    exact ⟨typeIs_int s i t, fun _ e => nomatch e⟩
  | ref p =>
    cases r
    rcases ty with ⟨rfl, xs, hq⟩ | ⟨rfl, o, hk, hc, hd⟩ | ⟨rfl, hk⟩ | ⟨rfl, S, n, hk⟩
    · obtain ⟨its, _, pl, _⟩ := I.list hq
      refine ⟨pl.isList.typeIs, fun a e => ?_⟩
      cases e
      obtain ⟨o, n, e, c, hd, _⟩ := pl
      exact ⟨o, e, hd⟩
    · refine ⟨⟨o, I.kIn p o hk, hc⟩, fun a e => ?_⟩
      cases e
      exact ⟨o, I.kIn _ o hk, hd⟩
    · have z : ∃ o, s.heap.get? p = some o ∧ o.ExactDict := by
        rcases hk with ⟨kvs, hk⟩ | ⟨kvs, hk⟩
        · obtain ⟨_, _, _, _, o, _, _, e, ex, _⟩ := I.hok p _ hk
          exact ⟨o, e, ex⟩
        · obtain ⟨_, _, _, _, o, _, _, e, ex, _⟩ := I.hok p _ hk
          exact ⟨o, e, ex⟩
      obtain ⟨o, e, ex⟩ := z
      refine ⟨⟨o, e, ex.1⟩, fun a e2 => ?_⟩
      cases e2
      exact ⟨o, e, ex.2.1⟩
    · obtain ⟨o, _, _, _, e, ex, _⟩ := I.hok p _ hk
      refine ⟨⟨o, e, ex.1⟩, fun a e2 => ?_⟩
      cases e2
      exact ⟨o, e, ex.2.1⟩
  | _ => exact False.elim ty
def tBM0 (K : PySem.W.Frag) (T : String) (r : V → List V → Hp → VK → Prop) (to : TE) : TE := fun σ H Q => to σ H fun x H1 => tyV K T x H1 ∧ r x [] H1 Q
def tBM (K : PySem.W.Frag) (T : String) (r : V → List V → Hp → VK → Prop) (to : TE) (t : TA) : TE := fun σ H Q => to σ H fun x H1 => tyV K T x H1 ∧ t σ H1 fun xs H2 => r x xs H2 Q
variable {o e : Expr} {es : List Expr} {to : TE} {t : TA} {name : Str} {apos cpos : Pos} {T id : String} {r : V → List V → Hp → VK → Prop}
theorem pe_bm0 (pa : PlainAttrs T) (slot : Slot T name id) (hty : typeOf (.builtin id) = pure (.type "method_descriptor")) (hm : MtR X id r) (ho : PE X o to)
    (hbase : attributeBase o name X.env (eval o X.env) = eval o X.env := by rfl) (hline : (apos.endLine == cpos.line) = true := by rfl) : PE X (.Call (.Attribute o name apos) [] [] cpos) (tBM0 X.K T r to) := by
  intro pins s σ H Q I h
  refine wpAny_Call_method0_late hbase hline (thn (ho pins s σ H _ I h) fun v s1 ⟨x, H1, I1, r1, ty, q1⟩ => ?_)
  obtain ⟨h1, h2⟩ := tyV_is I1 r1 ty
  exact ⟨T, id, pa, slot, hty, h1, h2, Calls.callWith_builtin rfl (PySem.evalArgs_none (hm pins s1 σ H1 x [] v [] Q I1 r1 .nil q1))⟩
theorem pe_bm (pa : PlainAttrs T) (slot : Slot T name id) (hty : typeOf (.builtin id) = pure (.type "method_descriptor")) (hm : MtR X id r) (ho : PE X o to) (ha : PA X (e :: es) t)
    (hbase : attributeBase o name X.env (eval o X.env) = eval o X.env := by rfl)
    (hfew : ((backTo cpos (starEach (e :: es) X.env)).all (fun x => !x.1) && (backToKw cpos (keywordEach [] X.env)).all (fun x => x.1.isSome)
      && decide ((e :: es).length + ([] : List Keyword).length + (if ([] : List Keyword).isEmpty then 0 else 1) < 30)) = true := by rfl)
    (hline : (apos.endLine == cpos.line) = true := by rfl) (hs : starEach (e :: es) X.env = (false, eval e X.env) :: starEach es X.env := by rfl) (hplain : (backTo cpos (starEach es X.env)).any (·.1) = false := by rfl) :
    PE X (.Call (.Attribute o name apos) (e :: es) [] cpos) (tBM X.K T r to t) := by
  intro pins s σ H Q I h
  refine wpAny_Call_method_late hbase hfew hline rfl (thn (ho pins s σ H _ I h) fun v s1 ⟨x, H1, I1, r1, ty, q1⟩ => ?_)
  obtain ⟨h1, h2⟩ := tyV_is I1 r1 ty
  refine ⟨T, id, pa, slot, hty, h1, h2, ?_⟩
  have hA := ha cpos pins s1 σ H1 _ I1 q1
  rw [hs] at hA ⊢
  refine Calls.callWith_builtin (by show (false || (backTo cpos (starEach es X.env)).any (·.1)) = false; rw [hplain] <;> rfl) (Calls.evalArgs_plain ?_)
  exact thn hA fun us s2 ⟨vs, H2, I2, r2, q2⟩ => hm pins s2 σ H2 x vs v us Q I2 r1 r2 q2
/- xs.append(e), list.index on a module's tuple .. are MtR facts of 06m -/
end
end L2

namespace L2
open PySem PySem.Spec PyProof.Rows

def MtM (X : Cx) (id : String) (r : V → List V → Hp → VK → Prop) : Prop :=
  ∀ (pins : List (Addr × Obj)) (s : Shared) (σ : St) (H : Hp) (x : V) (xs : List V) (v : Value) (us : List Value) (Q : VK), Inv X pins σ H s → RelV x v → Vals xs us → r x xs H Q →
    wpAny (model X.prog X.w) X.A (call (.builtin id) (v :: us)) (EP X pins σ Q) X.xe s

/-! ### lists of values -/
theorem Vals.one : ∀ {x : V} {us : List Value}, Vals [x] us → ∃ u, us = [u] ∧ RelV x u
  | _, _, .cons r .nil => ⟨_, rfl, r⟩
theorem Vals.zero : ∀ {us : List Value}, Vals [] us → us = []
  | _, .nil => rfl
section
variable {X : Cx} {pins : List (Addr × Obj)} {σ : St} {H : Hp} {s : Shared} {l b : Addr} {xs ys zs : List V}

/-! ### the two steps: a tracked list is rewritten, a new list is laid -/
theorem Inv.lset {its its' : List Value} {n : Nat} {f : Array Value → Array Value} {t' : Nat} (I : Inv X pins σ H s) (hH : H l = some (.lst xs))
    (e : s.heap.get? l = some { cls := .type "list", data := .seq its.toArray n }) (hf : f its.toArray = its'.toArray) (hv : Vals ys its') (hz : ys.length ≤ sizeLine) :
    Inv X pins σ (upd H l (.lst ys)) { s with heap := s.heap.update l (Obj.mapSeq f), toks := t' } := by
  have q := PySem.IsL.update e f
  rw [hf] at q
  refine I.write (x := l) (e := l) (by rw [hH]; exact trivial) (.inl rfl) (fun b' u hb hu => (Heap.get?_update_other s.heap (Obj.mapSeq f) (Ne.symm hb)).trans hu) ⟨_, q⟩ ?_
  exact ⟨hz, its', _, hv, q⟩
theorem Inv.lnew {its : List Value} {t' : Nat} (I : Inv X pins σ H s) (hv : Vals ys its) (hz : ys.length ≤ sizeLine) :
    Inv X pins σ (upd H s.heap.objs.size (.lst ys)) { s with heap := s.heap.push { cls := .type "list", data := .seq its.toArray }, toks := t' } :=
  I.laid (fun _ _ q => Heap.get?_push_of_some _ q) (Nat.le_refl _) ⟨hz, its, 0, hv, Heap.get?_push_size _ rfl⟩
theorem Inv.fresh (I : Inv X pins σ H s) : H s.heap.objs.size = none := I.hok.fresh (Nat.le_refl _)
theorem Inv.lstM (I : Inv X pins σ H s) (hH : H l = some (.lst xs)) : xs.length ≤ sizeLine ∧ ∃ (its : List Value) (n : Nat), Vals xs its ∧ xs.length = its.length ∧ s.heap.get? l = some { cls := .type "list", data := .seq its.toArray n } := by
  obtain ⟨z, its, n, r, e⟩ := I.hok l _ hH
  exact ⟨z, its, n, r, r.length, e⟩

end

section
variable {X : Cx}

/-! ### methods -/
def rAppend : V → List V → Hp → VK → Prop := fun x vs H Q => ∃ l xs y, x = .ref l ∧ vs = [y] ∧ H l = some (.lst xs) ∧ xs.length < sizeLine ∧ Q .non (upd H l (.lst (xs ++ [y])))
theorem mt_append : MtM X "list.append" rAppend := by
  intro pins s σ H x vs v us Q I rx rv h
  obtain ⟨l, xs, y, rfl, rfl, hH, hz, q⟩ := h
  cases rx
  obtain ⟨u, rfl, ru⟩ := rv.one
  obtain ⟨z, its, n, r, hl, e⟩ := I.lstM hH
  refine call_meets F.slot_list_append ⟨_, e, rfl⟩ F.entry_list_append (F.args_list_append_2 _ _) (PySem.list_append l its.toArray n u (by rw [List.size_toArray]; omega)) ⟨e, ?_⟩
  refine ⟨.non, _, I.lset (its' := its ++ [u]) hH e (by simp) (r.append (.cons ru .nil)) ?_, rfl, q⟩
  rw [List.length_append, List.length_singleton]
  omega

/-! ### list + list, list += list, list * int -/
def rCat : R2 := fun x y H Q => ∃ l b xs zs, x = .ref l ∧ y = .ref b ∧ H l = some (.lst xs) ∧ H b = some (.lst zs) ∧ xs.length + zs.length ≤ sizeLine ∧ ∀ p, H p = none → Q (.ref p) (upd H p (.lst (xs ++ zs)))
theorem op_cat : OpR X (binaryOp .Add) rCat := by
  intro pins s σ H x y v u Q I rx ry h
  obtain ⟨l, b, xs, zs, rfl, rfl, hH, hB, hz, q⟩ := h
  cases rx
  cases ry
  obtain ⟨z, its, n, r, hl, e⟩ := I.lstM hH
  obtain ⟨z2, its2, n2, r2, hl2, e2⟩ := I.lstM hB
  refine PySem.P.add_list e e2 ?_ (by rw [List.size_toArray, List.size_toArray]; omega)
  have ea : its.toArray ++ its2.toArray = (its ++ its2).toArray := by simp
  rw [ea]
  exact ⟨.ref _, _, I.lnew (t' := s.toks) (r.append r2) (by rw [List.length_append]; omega), rfl, q _ I.fresh⟩
/-! ### del xs[i] -/
end

/-! ### xs[a:b] = ys -/
section
variable {prog : Program} {w : World} {A : Around} {E : Value → Shared → Prop} {s : Shared}
end

section
variable {X : Cx}
end
end L2

namespace L2
open PySem PySem.Spec PyProof.Rows

/-! ### lists of pairs as tables -/
section
variable {κ : Type} [DecidableEq κ]
def valV (kvs : List (κ × V)) (k : κ) : Option V := (kvs.find? fun kv => decide (kv.1 = k)).map (·.2)
/-- in its place, or at the end -/
def putK (kvs : List (κ × V)) (k : κ) (v : V) : List (κ × V) :=
  if (kvs.any fun kv => decide (kv.1 = k)) = true then kvs.map (fun kv => if kv.1 = k then (kv.1, v) else kv) else kvs ++ [(k, v)]
theorem valV_pos {p : κ × V} {r : List (κ × V)} {k : κ} (e : p.1 = k) : valV (p :: r) k = some p.2 := by simp [valV, List.find?_cons, e]
theorem valV_neg {p : κ × V} {r : List (κ × V)} {k : κ} (e : ¬ p.1 = k) : valV (p :: r) k = valV r k := by simp [valV, List.find?_cons, e]
theorem valV_any (k : κ) : ∀ kvs : List (κ × V), (kvs.any fun kv => decide (kv.1 = k)) = (valV kvs k).isSome
  | [] => rfl
  | p :: r => by
    rw [List.any_cons]
    by_cases e : p.1 = k
    · simp only [valV_pos e, decide_eq_true e, Bool.true_or, Option.isSome_some]
    · rw [valV_neg e, decide_eq_false e, Bool.false_or]; exact valV_any k r
theorem valV_map (k j : κ) (y : V) : ∀ kvs : List (κ × V), valV (kvs.map fun kv => if kv.1 = k then (kv.1, y) else kv) j = (valV kvs j).map fun x => if j = k then y else x
  | [] => rfl
  | p :: r => by
    have ih := valV_map k j y r
    rw [List.map_cons]
    by_cases h : p.1 = k
    · rw [if_pos h]
      by_cases e : p.1 = j
      · rw [valV_pos (p := (p.1, y)) e, valV_pos e, Option.map_some, if_pos (e.symm.trans h)]
      · rw [valV_neg (p := (p.1, y)) e, valV_neg e, ih]
    · rw [if_neg h]
      by_cases e : p.1 = j
      · rw [valV_pos (p := p) e, valV_pos e, Option.map_some, if_neg (fun z => h (e.trans z))]
      · rw [valV_neg (p := p) e, valV_neg e, ih]
theorem valV_snoc (k j : κ) (y : V) : ∀ kvs : List (κ × V), valV kvs k = none → valV (kvs ++ [(k, y)]) j = if j = k then some y else valV kvs j
  | [], _ => by
    by_cases e : k = j
    · rw [if_pos e.symm]; exact valV_pos (p := (k, y)) e
    · rw [if_neg (fun z => e z.symm)]; exact valV_neg (p := (k, y)) e
  | p :: r, hn => by
    rw [List.cons_append]
    have hk : ¬ p.1 = k := fun z => by rw [valV_pos z] at hn; cases hn
    rw [valV_neg hk] at hn
    have ih := valV_snoc k j y r hn
    by_cases e : p.1 = j
    · rw [valV_pos e, valV_pos e, if_neg (fun z => hk (e.trans z))]
    · rw [valV_neg e, valV_neg e, ih]
theorem valV_put (kvs : List (κ × V)) (k j : κ) (y : V) : valV (putK kvs k y) j = if j = k then some y else valV kvs j := by
  unfold putK
  by_cases a : (kvs.any fun kv => decide (kv.1 = k)) = true
  · rw [if_pos a, valV_map]
    rw [valV_any] at a
    by_cases e : j = k
    · obtain ⟨x, hx⟩ := Option.isSome_iff_exists.mp a
      rw [if_pos e, e, hx, Option.map_some, if_pos rfl]
    · rw [if_neg e]
      cases valV kvs j with
      | none => rfl
      | some x => rw [Option.map_some, if_neg e]
  · rw [if_neg a]
    refine valV_snoc k j y kvs ?_
    rw [valV_any] at a
    cases q : valV kvs k with
    | none => rfl
    | some x => rw [q] at a; exact (a rfl).elim
theorem length_putK (kvs : List (κ × V)) (k : κ) (v : V) : (putK kvs k v).length ≤ kvs.length + 1 := by
  unfold putK
  split
  · rw [List.length_map]; omega
  · rw [List.length_append, List.length_cons, List.length_nil]; omega
theorem RelO.isSome_eq {o : Option V} {u : Option Value} (r : RelO o u) : o.isSome = u.isSome := by
  cases o with
  | none => cases u with
    | none => rfl
    | some _ => exact (show False from r).elim
  | some _ => cases u with
    | none => exact (show False from r).elim
    | some _ => rfl
/-- raw tables of the same keys -/
theorem KV.val {kvs : List (κ × V)} {vs : List (κ × Value)} (r : KV kvs vs) (k : κ) : RelO (valV kvs k) (valueAt vs k) := by
  unfold KV at r
  induction r with
  | nil => exact True.intro
  | @cons p q ps qs h t ih =>
    obtain ⟨h1, h2⟩ := h
    by_cases e : p.1 = k
    · have e' : q.1 = k := h1.symm.trans e
      have b : valueAt (q :: qs) k = some q.2 := by simp [valueAt, List.find?_cons, e']
      rw [valV_pos e, b]; exact h2
    · have e' : ¬ q.1 = k := fun z => e (h1.trans z)
      have b : valueAt (q :: qs) k = valueAt qs k := by simp [valueAt, List.find?_cons, e']
      rw [valV_neg e, b]; exact ih
theorem KV.any {kvs : List (κ × V)} {vs : List (κ × Value)} (r : KV kvs vs) (k : κ) : (kvs.any fun kv => decide (kv.1 = k)) = vs.any fun kv => decide (kv.1 = k) := by
  unfold KV at r
  induction r with
  | nil => rfl
  | cons h t ih => rw [List.any_cons, List.any_cons, ih, h.1]
theorem KV.repl {kvs : List (κ × V)} {vs : List (κ × Value)} (r : KV kvs vs) (k : κ) {y : V} {u : Value} (ry : RelV y u) :
    KV (kvs.map fun kv => if kv.1 = k then (kv.1, y) else kv) (vs.map fun kv => if kv.1 = k then (kv.1, u) else kv) := by
  unfold KV at r ⊢
  induction r with
  | nil => exact .nil
  | @cons p q ps qs h t ih =>
    rw [List.map_cons, List.map_cons]
    refine .cons ?_ ih
    obtain ⟨h1, h2⟩ := h
    by_cases e : p.1 = k
    · rw [if_pos e, if_pos (h1.symm.trans e)]; exact ⟨h1, ry⟩
    · rw [if_neg e, if_neg (fun z => e (h1.trans z))]; exact ⟨h1, h2⟩
theorem KV.put {kvs : List (κ × V)} {vs : List (κ × Value)} (r : KV kvs vs) (k : κ) {y : V} {u : Value} (ry : RelV y u) : KV (putK kvs k y) (stored vs k u) := by
  unfold putK stored
  rw [r.any k]
  by_cases e : (vs.any fun kv => decide (kv.1 = k)) = true
  · rw [if_pos e, if_pos e]; exact r.repl k ry
  · rw [if_neg e, if_neg e]; exact Paired.snoc r ⟨rfl, ry⟩
theorem KV.length {kvs : List (κ × V)} {vs : List (κ × Value)} (r : KV kvs vs) : kvs.length = vs.length := Paired.length r
end


/-! ### a tracked dict, its keys ints and texts or tuples of these -/
theorem kV_is {P : Program} {w : World} {k : Key} {u : Value} (r : RelV (kV k) u) : (mixKind P w).is k u = true := by
  cases k with
  | inl i => obtain ⟨t, e⟩ := (show ∃ t, u = Value.int i t from r); subst e; exact mixKind_int P w i t
  | inr x => obtain ⟨t, e⟩ := (show ∃ t, u = Value.str x t from r); subst e; exact mixKind_str P w x t
theorem items_are {P : Program} {w : World} : ∀ {ks : List Key} {us : List Value}, Vals (ks.map kV) us → ItemsAre (mixKind P w) ks us
  | [], _, r => by rw [List.map_nil] at r; cases r; exact .nil
  | k :: ks, _, r => by
    rw [List.map_cons] at r
    cases r with
    | cons h t => exact .cons (kV_is h) (items_are t)

/-- raw entries of a dict with tuple keys -/
abbrev KT (H : Hp) : List (List Key × V) → List (List Key × Addr × Value) → Prop := Paired fun p q => p.1 = q.1 ∧ H q.2.1 = some (.tup (p.1.map kV)) ∧ RelV p.2 q.2.2
theorem KT.val {H : Hp} {kvs : List (List Key × V)} {xs : List (List Key × Addr × Value)} (r : KT H kvs xs) (k : List Key) : RelO (valV kvs k) ((atKey xs k).map (·.2)) := by
  induction r with
  | nil => exact True.intro
  | @cons p q ps qs h t ih =>
    obtain ⟨h1, _, h2⟩ := h
    by_cases e : p.1 = k
    · have e' : q.1 = k := h1.symm.trans e
      have b : atKey (q :: qs) k = some q.2 := by simp [atKey, List.find?_cons, e']
      rw [valV_pos e, b]; exact h2
    · have e' : ¬ q.1 = k := fun z => e (h1.trans z)
      have b : atKey (q :: qs) k = atKey qs k := by simp [atKey, List.find?_cons, e']
      rw [valV_neg e, b]; exact ih
theorem KT.repl {H : Hp} {kvs : List (List Key × V)} {xs : List (List Key × Addr × Value)} (r : KT H kvs xs) (k : List Key) {y : V} {u : Value} (ry : RelV y u) :
    KT H (kvs.map fun kv => if kv.1 = k then (kv.1, y) else kv) (xs.map (putAt k u)) := by
  induction r with
  | nil => exact .nil
  | @cons p q ps qs h t ih =>
    rw [List.map_cons, List.map_cons]
    refine .cons ?_ ih
    obtain ⟨h1, h2, h3⟩ := h
    unfold putAt
    by_cases e : p.1 = k
    · rw [if_pos e, if_pos (h1.symm.trans e)]; exact ⟨h1, h2, ry⟩
    · rw [if_neg e, if_neg (fun z => e (h1.trans z))]; exact ⟨h1, h2, h3⟩
theorem KT.put {H : Hp} {kvs : List (List Key × V)} {xs : List (List Key × Addr × Value)} (r : KT H kvs xs) (k : List Key) {b : Addr} {y : V} {u : Value} (hb : H b = some (.tup (k.map kV))) (ry : RelV y u) :
    KT H (putK kvs k y) (storedH xs k b u) := by
  have e : (kvs.any fun kv => decide (kv.1 = k)) = (atKey xs k).isSome := by
    rw [valV_any, (r.val k).isSome_eq, Option.isSome_map]
  unfold putK storedH
  rw [e]
  by_cases q : (atKey xs k).isSome = true
  · rw [if_pos q, if_pos q]; exact r.repl k ry
  · rw [if_neg q, if_neg q]; exact Paired.snoc r ⟨rfl, hb, ry⟩
theorem KT.keeps {H H' : Hp} {kvs : List (List Key × V)} {xs : List (List Key × Addr × Value)} (r : KT H kvs xs) (ht : ∀ b ys, H b = some (.tup ys) → H' b = some (.tup ys)) : KT H' kvs xs :=
  Paired.mapP r fun _ _ z => ⟨z.1, ht _ _ z.2.1, z.2.2⟩

section
variable {P : Program} {w : World} {H : Hp} {h : Heap} {a : Addr}
theorem rd_of {u : HO} (ok : HOk P w H h) (e : Rd H a u) : ObjOk P w H h a u := e.ok ok
theorem dk_rd {kvs : List (Key × V)} (ok : HOk P w H h) (e : Rd H a (.dK kvs)) : kvs.length ≤ sizeLine ∧ (a == sysModules) = false ∧ ∃ vs, KV kvs vs ∧ h.DictOf (mixKind P w) a vs :=
  show ObjOk P w H h a (.dK kvs) from rd_of ok e
theorem dk_of {kvs : List (Key × V)} (ok : HOk P w H h) (e : H a = some (.dK kvs)) : kvs.length ≤ sizeLine ∧ (a == sysModules) = false ∧ ∃ vs, KV kvs vs ∧ h.DictOf (mixKind P w) a vs := dk_rd ok (.inl e)
/-- a tracked tuple of ints and texts is a key -/
theorem key_of {ks : List Key} (ok : HOk P w H h) (e : H a = some (.tup (ks.map kV))) : (tupleKind (mixKind P w)).is h ks a := by
  obtain ⟨_, its, r, o, h1, h2, n, h3⟩ := (show ObjOk P w H h a (.tup (ks.map kV)) from ok a _ e)
  exact ⟨o, its.toArray, n, h1, h2, h3, by simpa using items_are r⟩
theorem dt_rd {kvs : List (List Key × V)} (ok : HOk P w H h) (e : Rd H a (.dT kvs)) : kvs.length ≤ sizeLine ∧ (a == sysModules) = false ∧
    ∃ xs, KT H kvs xs ∧ h.DictOfH (tupleKind (mixKind P w)) a xs := by
  obtain ⟨z, y, xs, r, o, es, ep, h1, h2, h3, h4, h5⟩ := (show ObjOk P w H h a (.dT kvs) from rd_of ok e)
  refine ⟨z, y, xs, r, o, es, ep, h1, h2, h3, h4, fun x hx => ?_, h5⟩
  have all : ∀ {l : List (List Key × V)} {m : List (List Key × Addr × Value)}, KT H l m → ∀ x ∈ m, (tupleKind (mixKind P w)).is h x.1 x.2.1 := by
    intro l m q
    induction q with
    | nil => intro x hx; exact nomatch hx
    | @cons p q ps qs hq t ih =>
      intro x hx
      rcases List.mem_cons.mp hx with e | hx
      · subst e
        exact key_of ok (by rw [← hq.1]; exact hq.2.1)
      · exact ih x hx
  exact all r x hx
theorem dt_of {kvs : List (List Key × V)} (ok : HOk P w H h) (e : H a = some (.dT kvs)) : kvs.length ≤ sizeLine ∧ (a == sysModules) = false ∧
    ∃ xs, KT H kvs xs ∧ h.DictOfH (tupleKind (mixKind P w)) a xs := dt_rd ok (.inl e)
end

/-- what the dict at a holds at the key y -/
def DGet (H : Hp) (a : Addr) (y : V) (r : Option V) : Prop :=
  (∃ kvs k, Rd H a (.dK kvs) ∧ y = kV k ∧ r = valV kvs k) ∨ ∃ kvs k b, Rd H a (.dT kvs) ∧ y = .ref b ∧ H b = some (.tup (k.map kV)) ∧ r = valV kvs k
/-- the heap behind a[y] = v -/
def DPut (H : Hp) (a : Addr) (y v : V) (H' : Hp) : Prop :=
  (∃ kvs k, H a = some (.dK kvs) ∧ y = kV k ∧ kvs.length < sizeLine ∧ H' = upd H a (.dK (putK kvs k v))) ∨
  ∃ kvs k b, H a = some (.dT kvs) ∧ y = .ref b ∧ H b = some (.tup (k.map kV)) ∧ kvs.length < sizeLine ∧ H' = upd H a (.dT (putK kvs k v))
theorem DPut.k {H : Hp} {a : Addr} {kvs : List (Key × V)} {k : Key} {v : V} (e : H a = some (.dK kvs)) (hl : kvs.length < sizeLine) : DPut H a (kV k) v (upd H a (.dK (putK kvs k v))) := .inl ⟨kvs, k, e, rfl, hl, rfl⟩
section
variable {X : Cx} {pins : List (Addr × Obj)} {σ : St} {H : Hp} {s : Shared} {a : Addr} {y v : V} {u r : Value} {o : Option V} {A : Around} {E : Value → Shared → Prop}

theorem Inv.big (I : Inv X pins σ H s) : sysModules < s.heap.objs.size := by
  have h : mainGlobals < s.heap.objs.size := (I.mod.glob.keeps I.bk).lt
  exact Nat.lt_trans (by decide) h

/-- d[y], there -/
theorem d_getItem {Q : Value → Shared → Prop} (hu : A.units + 1 < cLine) (I : Inv X pins σ H s) (g : DGet H a y (some v)) (ry : RelV y u) (h : ∀ w' s', Inv X pins σ H s' → RelV v w' → Q w' s') :
    wpAny (model X.prog X.w) A (getItem (.ref a) u) Q E s := by
  rcases g with ⟨kvs, k, e, ey, l⟩ | ⟨kvs, k, b, e, ey, eb, l⟩
  · subst ey
    obtain ⟨z, hd, vs, rel, dd⟩ := dk_rd I.hok e
    obtain ⟨w', hw, rw'⟩ := RelO.some_of (v := v) (o := valueAt vs k) (by rw [l]; exact rel.val k)
    exact wpAny_getItem_of (kV_is ry) dd.mapOf hw (h w' _ (I.tok _) rw')
  · subst ey
    cases (show u = Value.ref b from ry)
    obtain ⟨z, hd, xs, rel, dd⟩ := dt_rd I.hok e
    obtain ⟨w', hw, rw'⟩ := RelO.some_of (v := v) (o := (atKey xs k).map (·.2)) (by rw [l]; exact rel.val k)
    obtain ⟨p, hp, hp2⟩ := Option.map_eq_some_iff.mp hw
    refine wpAny_getItem_heap (tupleKind_room_in1 hu) (key_of I.hok eb) dd hp ?_
    rw [hp2]
    exact h w' _ (I.tok _) rw'
theorem d_notIn {Q : Value → Shared → Prop} (hu : A.units + 1 < cLine) (I : Inv X pins σ H s) (g : DGet H a y o) (ry : RelV y u) (h : ∀ s', Inv X pins σ H s' → Q (.bool (!o.isSome)) s') :
    wpAny (model X.prog X.w) A (compareOp .NotIn u (.ref a)) Q E s := by
  rcases g with ⟨kvs, k, e, ey, l⟩ | ⟨kvs, k, b, e, ey, eb, l⟩
  · subst ey
    obtain ⟨z, hd, vs, rel, dd⟩ := dk_rd I.hok e
    refine wpAny_notIn_of (kV_is ry) hd dd.mapOf ?_
    rw [← (rel.val k).isSome_eq, ← l]
    exact h _ (I.tok _)
  · subst ey
    cases (show u = Value.ref b from ry)
    obtain ⟨z, hd, xs, rel, dd⟩ := dt_rd I.hok e
    refine wpAny_notIn_heap (tupleKind_room_in1 hu) (key_of I.hok eb) hd dd ?_
    have q := (rel.val k).isSome_eq
    rw [Option.isSome_map] at q
    rw [← q, ← l]
    exact h _ (I.tok _)
/-- a dict's object is replaced -/
theorem d_write {h' : Heap} {t' : Nat} {ob : HO} (I : Inv X pins σ H s) (mu : Mut (H a)) (hs : Heap.SameBut a s.heap h') (he : ∃ q, h'.get? a = some q) (new : ObjOk X.prog X.w (upd H a ob) h' a ob) :
    Inv X pins σ (upd H a ob) { s with heap := h', toks := t' } :=
  I.write (x := a) (e := a) mu (.inl rfl) (fun b q hb z => (hs.2 b hb).trans z) he new
theorem dk_new {P : Program} {w : World} {H' : Hp} {h' : Heap} {kvs : List (Key × V)} {vs : List (Key × Value)} (z : kvs.length ≤ sizeLine) (hd : (a == sysModules) = false) (rel : KV kvs vs) (dd : h'.DictOf (mixKind P w) a vs) :
    ObjOk P w H' h' a (.dK kvs) := ⟨z, hd, vs, rel, dd⟩
/-- d[y] = v -/
theorem d_setItem {H' : Hp} {Q : Unit → Shared → Prop} (hu : A.units + 1 < cLine) (I : Inv X pins σ H s) (g : DPut H a y v H') (ry : RelV y u) (rv : RelV v r) (h : ∀ s', Inv X pins σ H' s' → Q () s') :
    wpAny (model X.prog X.w) A (setItem (.ref a) u r) Q E s := by
  rcases g with ⟨kvs, k, e, ey, l, eH⟩ | ⟨kvs, k, b, e, ey, eb, l, eH⟩
  · subst ey eH
    obtain ⟨z, hd, vs, rel, dd⟩ := dk_of I.hok e
    have hz : vs.length ≤ sizeLine := by rw [← rel.length]; exact z
    have hl : (putK kvs k v).length ≤ sizeLine := by have := length_putK kvs k v; omega
    refine wpAny_setItem_pairs (hsz := hz) (kV_is ry) dd fun h' dd' hs => h _ ?_
    have he : ∃ q, h'.get? a = some q := let ⟨q, _, _, hq, _⟩ := dd'; ⟨q, hq⟩
    exact d_write I (by rw [e]; exact True.intro) hs he (dk_new hl hd (rel.put k rv) dd')
  · subst ey eH
    cases (show u = Value.ref b from ry)
    obtain ⟨z, hd, xs, rel, dd⟩ := dt_of I.hok e
    have hz : xs.length ≤ sizeLine := by rw [← Paired.length rel]; exact z
    have hl : (putK kvs k v).length ≤ sizeLine := by have := length_putK kvs k v; omega
    refine wpAny_setItem_heap (hsz := hz) (tupleKind_room_in1 hu) (key_of I.hok eb) dd fun h' dd' hs => h _ ?_
    obtain ⟨q, es, ep, hq, h2, h3, h4, _, h5⟩ := dd'
    refine d_write I (by rw [e]; exact True.intro) hs ⟨q, hq⟩ ⟨hl, hd, _, (rel.put k eb rv).keeps fun c ys ec => ?_, q, es, ep, hq, h2, h3, h4, h5⟩
    rw [upd_ne (ne_of ec e (fun z => nomatch z))]
    exact ec
end

section
variable {X : Cx} {pins : List (Addr × Obj)} {σ : St} {H : Hp} {s : Shared} {a : Addr} {kvs : List (Key × V)} {k : Key} {u : Value} {A : Around} {E : Value → Shared → Prop}
/-- len(d) -/
theorem d_len {Q : Value → Shared → Prop} (I : Inv X pins σ H s) (e : Rd H a (.dK kvs)) (h : ∀ t s', Inv X pins σ H s' → Q (.int kvs.length t) s') : wpAny (model X.prog X.w) A (call (.builtin "len") [.ref a]) Q E s := by
  obtain ⟨z, hd, vs, rel, dd⟩ := dk_rd I.hok e
  refine call_len_dict hd dd (by rw [← rel.length]; rw [sizeLine_eq] at z; omega) ?_
  rw [← rel.length]
  exact h _ _ (I.tok _)
end


/-! ### readings and rules -/
/-- the element of a subscription, not a slice -/
def NoSl (i : Expr) : Prop := ∀ ov iv, subscripted i false ov iv = operate [ov, iv] (getItem ov iv)
theorem subD_of {prog : Program} {w : World} {A : Around} {E : Value → Shared → Prop} {s : Shared} {env : Env} {value slice : Expr} {pos : Pos} {T id : String} {Q : Value → Shared → Prop}
    (hl : typeLookup (.type T) "__getitem__" = pure (some (.builtin id))) (hs : NoSl slice)
    (h : wpAny (model prog w) A (eval value env) (fun o s₁ => wpAny (model prog w) A (eval slice env) (fun i s₂ => s₂.TypeIs o T ∧ wpAny (model prog w) A (getItem o i) Q E s₂) E s₁) E s) :
    wpAny (model prog w) A (eval (.Subscript value slice pos) env) Q E s := by
  refine Subscript_ (wpAny_mono h (fun o s₁ h₁ => wpAny_mono h₁ (fun i s₂ h₂ => ?_) fun _ _ x => x) fun _ _ x => x)
  obtain ⟨hT, h₂⟩ := h₂
  unfold subscriptTail
  refine wpAny_bind ?_
  rw [getitemInPython_of_ne hT.not_modules]
  refine wpAny_bind (wpAny_specialOf hT hl ?_)
  have fin : wpAny (model prog w) A (subscripted slice false o i) (fun r s₃ => wpAny (model prog w) A (letTemporaryGo value o r >>= fun _ => pure r) Q E s₃) E s₂ := by
    rw [hs o i]
    exact wpAny_operating (wpAny_mono h₂ (fun r s₃ h₃ => wpAny_bind (wpAny_letTemporaryGo (wpAny_pure h₃))) fun _ _ x => x)
  first
    | exact wpAny_pure (wpAny_bind fin)
    | exact wpAny_bind (wpAny_pure (wpAny_bind fin))
    | exact wpAny_bind fin

theorem dict_typeIs {X : Cx} {pins : List (Addr × Obj)} {σ : St} {H : Hp} {s : Shared} {a : Addr} {y : V} {o : Option V} (I : Inv X pins σ H s) (g : DGet H a y o) : s.TypeIs (.ref a) "dict" := by
  rcases g with ⟨kvs, k, e, _, _⟩ | ⟨kvs, k, b, e, _, _, _⟩
  · obtain ⟨_, _, vs, _, dd⟩ := dk_rd I.hok e
    exact dd.typeIs
  · obtain ⟨_, _, xs, _, dd⟩ := dt_rd I.hok e
    exact dd.typeIs
/-- d[y] -/
def tDGet (td ty : TE) : TE := fun σ H Q => td σ H fun x H1 => ty σ H1 fun y H2 => ∃ a v, x = .ref a ∧ DGet H2 a y (some v) ∧ Q v H2
def tDNotIn (ty td : TE) : TE := fun σ H Q => ty σ H fun y H1 => td σ H1 fun x H2 => ∃ a o, x = .ref a ∧ DGet H2 a y o ∧ Q (.bl (!o.isSome)) H2
/-- d[y] = v -/
def sDPut (td ty tv : TE) : TS := fun D σ H => tv σ H fun v H1 => td σ H1 fun x H2 => ty σ H2 fun y H3 => ∃ a H4, x = .ref a ∧ DPut H3 a y v H4 ∧ D.nx σ H4
section
variable {X : Cx} {o i e value : Expr} {pos pos' tpos : Pos} {td ty tv : TE}
theorem pe_dget (hu : X.A.units + 1 < cLine) (ho : PE X o td) (hi : PE X i ty) (hs : NoSl i) : PE X (.Subscript o i pos) (tDGet td ty) := by
  intro pins s σ H Q I h
  refine subD_of PySem.F.slot_dict_getitem.lookup hs (thn (ho pins s σ H _ I h) fun u s1 ⟨x, H1, I1, rx, q1⟩ => thn (hi pins s1 σ H1 _ I1 q1) fun iv s2 ⟨y, H2, I2, ry, a, v, ex, g, q2⟩ => ?_)
  subst ex
  obtain rfl : u = Value.ref a := rx
  exact ⟨dict_typeIs I2 g, d_getItem hu I2 g ry fun w' s3 I3 rw' => ⟨v, H2, I3, rw', q2⟩⟩
theorem pc_dnotin (hu : X.A.units + 1 < cLine) (hi : PE X i ty) (ho : PE X o td) : PC X .NotIn i o (tDNotIn ty td) := by
  intro pins s σ H Q I h
  refine thn (hi pins s σ H _ I h) fun iv s1 ⟨y, H1, I1, ry, q1⟩ => thn (ho pins s1 σ H1 _ I1 q1) fun u s2 ⟨x, H2, I2, rx, a, ov, ex, g, q2⟩ => ?_
  subst ex
  obtain rfl : u = Value.ref a := rx
  exact d_notIn hu I2 g ry fun s3 I3 => ⟨.bl (!ov.isSome), H2, I3, rfl, q2⟩
theorem ps_dput (hu : X.A.units + 1 < cLine) (ho : PE X o td) (hi : PE X i ty) (hv : PE X value tv) (hs : swapsWith value (some (.Subscript o i pos')) pos.line X.env = pure false) :
    PS X (.Assign [.Subscript o i pos'] value pos) (sDPut td ty tv) := by
  intro pins s σ H D I h
  refine wpAny_Assign_Subscript (thn (hv pins s σ H _ I h) fun r s1 ⟨v, H1, I1, rv, q1⟩ => thn (ho pins s1 σ H1 _ I1 q1) fun u s2 ⟨x, H2, I2, rx, q2⟩ => thn (hi pins s2 σ H2 _ I2 q2) fun iv s3 ⟨y, H3, I3, ry, a, H4, ex, g, q3⟩ => ?_) hs
  subst ex
  obtain rfl : u = Value.ref a := rx
  exact d_setItem hu I3 g ry rv fun s4 I4 => ⟨σ, H4, I4, q3⟩
end


/-! ### displays -/
theorem dk_empty {P : Program} {w : World} {H : Hp} (h : Heap) (hb : sysModules < h.objs.size) : ObjOk P w H (h.push { cls := .type "dict", data := .dict #[] }) h.objs.size (.dK []) :=
  ⟨Nat.zero_le _, beq_eq_false_iff_ne.mpr (Ne.symm (Nat.ne_of_lt hb)), [], .nil, Heap.DictOf.new h⟩
/-- {}, to be a dict of the kind that is wanted -/
def tDNewK : TE := fun _ H Q => ∀ p, H p = none → Q (.ref p) (upd H p (.dK []))
section
variable {X : Cx} {pos : Pos}
theorem pe_dnewK : PE X (.Dict [] [] pos) tDNewK := fun pins s σ H Q I h =>
  wpAny_Dict_empty ⟨.ref s.heap.objs.size, _, I.laid (a := s.heap.objs.size) (o := .dK []) (t' := s.toks) (fun _ _ q => Heap.get?_push_of_some _ q) (Nat.le_refl _) (dk_empty s.heap I.big), rfl, h _ (I.hok.fresh (Nat.le_refl _))⟩
end

/-! ### methods -/
section
variable {X : Cx} {pins : List (Addr × Obj)} {σ : St} {H : Hp} {s : Shared} {a : Addr} {y d : V} {u r : Value} {o : Option V} {A : Around} {E : Value → Shared → Prop}
end

section
variable {X : Cx} {o e f : Expr} {apos cpos : Pos} {td ty tx : TE}
end

/-! ### dict(d): a copy -/
section
variable {X : Cx} {pins : List (Addr × Obj)} {σ : St} {H : Hp} {s : Shared} {a : Addr} {kvs : List (Key × V)} {A : Around} {E : Value → Shared → Prop}
end


section
variable {X : Cx} {pins : List (Addr × Obj)} {σ : St} {H : Hp} {s : Shared} {a : Addr} {y : V} {u : Value} {A : Around} {E : Value → Shared → Prop}
end
end L2

namespace Att
open PySem PySem.W PySem.Calls PyProof.Rows

/-! ### the script -/
theorem ints_of_wellAll {P : Params} {h : Heap} : ∀ (ns : List Int) (vs : List Value), WellAll P h vs (ns.map WData.int) → IntsAre vs ns := by
  intro ns
  induction ns with
  | nil =>
    intro vs w
    rw [List.map_nil] at w
    cases w
    exact .nil
  | cons n ns ih =>
    intro vs w
    rw [List.map_cons] at w
    cases w with
    | cons a b =>
      cases a
      exact .cons _ _ (ih _ b)

theorem script_of {l : OpenLaw} {n : Nat} (hn : l.most = some n) {P : Params} {h : Heap} {args : List WData} {vals : List Value}
    (hpre : l.row.toRowW.claim.pre args = true) (hwl : WellAll P h vals args) :
    ∃ a vs ns, vals = [Value.ref a] ∧ args = [WData.list (ns.map WData.int)] ∧ h.get? a = some { cls := .type "list", data := .seq vs.toArray } ∧ IntsAre vs ns ∧ ns.length ≤ n := by
  have hsh : WShape.hasAll [] args [.list .int] = true := (pre_splitW hpre).1
  have hc : l.pre.holds [] { args := args } = true := (pre_splitW hpre).2
  obtain ⟨d, r, rfl, h1, h2⟩ := hasAllW_cons hsh
  obtain rfl := hasAllW_nil h2
  obtain ⟨xs, rfl, h3⟩ := hasW_list h1
  obtain ⟨ns, rfl⟩ := items_int h3
  have hlen : ns.length ≤ n := by
    unfold OpenLaw.pre at hc
    have h4 : (WTm.not (.lt (.lit (.int (n : Int))) (.len (.arg 0)))).holds [] { args := [.list (ns.map .int)] } = true := by
      have h4 := (holds_andW hc).1
      rw [hn] at h4
      exact h4
    have h5 := condW_of h4 (w_not (w_lt w_lit (w_len_list (w_arg rfl))))
    rw [List.length_map] at h5
    refine Nat.le_of_not_lt fun q => ?_
    have q' : (n : Int) < ((ns.length : Nat) : Int) := by omega
    first
      | (rw [decide_eq_true q'] at h5; exact absurd h5 (by decide))
      | (simp at h5; omega)
  cases hwl with
  | cons w1 w2 =>
    cases w2
    cases w1 with
    | list ho hall => exact ⟨_, _, ns, rfl, rfl, ho, ints_of_wellAll ns _ hall, hlen⟩

theorem post_true (l : OpenLaw) (args : List WData) : l.row.toRowW.claim.post args (.bool true) args = true :=
  postW_of (r := l.row.toRowW) (X := (true == true))
    (show WShape.has [] (.bool true) .bool = true by first | rfl | decide | simp [WShape.has, WShape.arms, WShape.armsAll])
    (show (WTm.eq .res (.lit (.bool true))).value [] { args := args, res := some (.bool true), after := args } = some (.bool (true == true)) from w_eq_bool (w_res rfl) w_lit) rfl

/-! ### the attachment: holds_open's last premise (the goal 'hc' behind k_head) from a wpAny of the law's body -/
/-- the same from a codeAny of the CALL (for a layer whose function contracts speak of calls) -/
theorem attach_call {l : OpenLaw} {n : Nat} {q : Program} {loose : List Str} {XP : (Str → Option Value) → Heap → Prop} {YP : World → Heap → Prop} {d : DefRec}
    (hn : l.most = some n) (hdf : d.params.defaults = [])
    (call : ∀ (w : World) (s₀ s₁ : Shared) (mg mb : Str → Option Value) (fa : Addr) (o : Obj) (pm cd doc : Value) (a : Addr) (vs : List Value) (ns : List Int),
      Ground q loose [] XP w s₀ mg mb s₁.heap → YP w s₁.heap →
      s₁.heap.get? fa = some o → o.data = .func (docDef d.name d.params d.body d.scope pm cd doc) → s₁.heap.CodeRec cd d.name → mg d.name = some (.ref fa) →
      s₁.heap.get? a = some { cls := .type "list", data := .seq vs.toArray } → IntsAre vs ns → ns.length ≤ n → s₁.gens = #[] →
      codeAny (model l.prog w) callerA (.call (.ref fa) ⟨[.ref a], []⟩) (fun r s' => r = .ok (.ret (.bool true)) ∧ OldK s₁.heap s'.heap ∧ s'.os = s₁.os ∧ AllBare s'.gens) s₁) :
    WalkO q loose XP YP l.row.toRowW d [] (fun f vs => PySem.call f vs) := by
  intro w s₀ s₁ mg mb G Y fa o pm cd doc dV kV ho hd hcd hD hmg hg args vals as hpre hlay hrd hwl hlo
  obtain rfl : dV = .none := Dflts.none hD hdf
  obtain rfl : kV = .none := Dflts.noKw hD
  obtain ⟨a, vs, ns, rfl, rfl, hobj, hints, hlen⟩ := script_of hn hpre hwl
  refine enter_call (codeAny_mono (call w s₀ s₁ mg mb fa o pm cd doc a vs ns G Y ho (fd_plain hd) hcd hmg hobj hints hlen hg) fun r s' hq => ?_)
  obtain ⟨rfl, h2, h3, h4⟩ := hq
  exact ⟨.inl ⟨.bool true, .bool true, [], rfl, fun _ => rfl, .bool true, post_true l _, fun _ => ⟨List.Pairwise.nil, fun _ hm => (nomatch hm)⟩⟩, h2, h3, h4⟩

/-! ### rules over ANY heap (no ledger) from facts about the written part K: the library's own take a ledger (News) for what they write -/
section
variable {prog : Program} {w : World} {A : Around} {E : Value → Shared → Prop} {s : Shared} {K : Frag}

/-! the whole heap as the ledger: makes every rule that writes through a ledger a rule over any heap -/
end
end Att

namespace L2
open PySem PySem.Spec PyProof.Rows

theorem vals_ints : ∀ {vs : List Value} {ns : List Int}, IntsAre vs ns → Vals (ns.map V.int) vs
  | _, _, .nil => .nil
  | _, _, .cons n t h => .cons ⟨t, rfl⟩ (vals_ints h)

/-- nothing is tracked but the script, known to the object (or it is an object of the module) -/
def Only (H : Hp) : Prop := ∀ b, H b = none ∨ ∃ o xs, H b = some (.frz o (.lst xs))

/-- THE HEAD: the law's promise, at the heap behind the top. F, the promise of the law's def, may use that base is part of the heap (so K.In base, base.Ns mainGlobals mg stand in Mod) -/
theorem law_call {P : Program} {w : World} {K : PySem.W.Frag} {mg mb : Str → Option Value} {CX : CXT} {k : Nat} {fa a : Addr} {fd : FuncData} {x : Str} {sp : Sp} {s₁ : Shared} {vs : List Value} {ns : List Int}
    (KX : K.In s₁.heap) (hns : s₁.heap.Ns mainGlobals mg) (hb : s₁.heap.Ns builtinsNs mb) (hbb : ∀ x : Str, x ≠ "__name__" → mb x = bootBuiltins x) (hlim : s₁.heap.NoLimit) (hg : s₁.gens = #[])
    (ha : s₁.heap.get? a = some { cls := .type "list", data := .seq vs.toArray }) (hi : IntsAre vs ns) (hl : ns.length ≤ sizeLine) (hr : Room k callerA)
    (F : ∀ base : Heap, K.In base → base.Ns mainGlobals mg → FnOk P w K mg base CX k fa fd [x] sp) (hbind : ∀ (s : Shared) (u : Value), BindsTo s fd ⟨[u], []⟩ [(x, u)])
    (hsp : ∀ H : Hp, Only H → SqL K H a (ns.map V.int) → sp [.ref a] H (fun v _ => v = .bl true) fun _ _ _ => False)
    (hCX : ∀ H e s', CX [] H s₁ (fun _ _ _ => False) e s' → False) :
    codeAny (model P w) callerA (.call (.ref fa) ⟨[.ref a], []⟩) (fun r s' => r = .ok (.ret (.bool true)) ∧ OldK s₁.heap s'.heap ∧ s'.os = s₁.os ∧ AllBare s'.gens) s₁ := by
  have rv := vals_ints hi
  have lenV := hi.length
  -- from an abstract heap in which nothing but the script may be tracked
  have core : ∀ H : Hp, Only H → SqL K H a (ns.map V.int) → HOk P w H s₁.heap → (∀ b, H b ≠ none → b = a) → (H a ≠ none → K.lookup a = none) →
      codeAny (model P w) callerA (.call (.ref fa) ⟨[.ref a], []⟩) (fun r s' => r = .ok (.ret (.bool true)) ∧ OldK s₁.heap s'.heap ∧ s'.os = s₁.os ∧ AllBare s'.gens) s₁ := by
    intro H hO hS hok hA hK
    have base_of : ∀ {b : Addr} {o : Obj}, s₁.heap.get? b = some o → H b = none → (hidT s₁.heap H).get? b = some o := fun e n => hidT_get e n
    have noA : ∀ {b : Addr} {o : Obj} {es : Array DictEntry} {ep : Nat}, s₁.heap.get? b = some o → o.data = .dict es ep → H b = none := fun {b o es ep} e d => by
      cases q : H b with
      | none => rfl
      | some u =>
        have e' : b = a := hA b (by rw [q]; simp)
        subst e'
        rw [ha] at e; cases e
        have d' : Data.seq vs.toArray _ = Data.dict es ep := d
        cases d'
    have nsK : ∀ {b : Addr} {m : Str → Option Value}, s₁.heap.Ns b m → (hidT s₁.heap H).Ns b m := fun {b m} ⟨o, es, ep, e, d, r⟩ => ⟨o, es, ep, base_of e (noA e d), d, r⟩
    have hKb : K.In (hidT s₁.heap H) := fun b o e => base_of (KX b o e) (by
      cases q : H b with
      | none => rfl
      | some u =>
        have e' : b = a := hA b (by rw [q]; simp)
        subst e'
        rw [hK (by rw [q]; simp)] at e; cases e)
    have hM : Mod K mg (hidT s₁.heap H) := ⟨hKb, nsK hns, ⟨mb, nsK hb, hbb⟩, let ⟨mc, h1, h2⟩ := hlim; ⟨mc, nsK h1, h2⟩⟩
    have e0 : Env0 P w K mg (hidT s₁.heap H) callerA [] s₁ H := ⟨rfl, hM, fun b o e => of_hidT e, Nat.le_of_eq (hidT_size _ _), trivial, fun b hb => absurd (show b ∈ ([] : List Addr) from hb) (by simp), hok, .of_eq hg⟩
    refine codeAny_mono ((F _ hKb (nsK hns)).run callerA [] s₁ H ⟨[.ref a], []⟩ [.ref a] [.ref a] _ _ hr e0 (hbind s₁ (.ref a)) (.cons rfl .nil) (hsp H hO hS)) fun r s' h => ?_
    cases r with
    | error e => exact (hCX H e s' h).elim
    | ok fl =>
      cases fl with
      | next => exact False.elim h
      | brk => exact False.elim h
      | cont => exact False.elim h
      | ret u =>
        obtain ⟨v, H', os, bare, un, hok', r', q⟩ := h
        have q' : v = .bl true := q
        subst q'
        obtain rfl : u = Value.bool true := r'
        refine ⟨rfl, OldK.of_keep fun b o e => ?_, os, bare⟩
        cases q : H b with
        | none => exact un.keep b o e q (by intro z; exact absurd (show b ∈ ([] : List Addr) from z) (by simp)) (by simp)
        | some u =>
          rcases hO b with z | ⟨ob, xs, z⟩
          · rw [q] at z; cases z
          · have z2 := un.frzs b ob _ z
            obtain ⟨e1, _⟩ := hok b _ z
            obtain ⟨e2, _⟩ := hok' b _ z2
            rw [e] at e1; cases e1
            exact e2
  cases hk : K.lookup a with
  | some o =>
    -- the script is one of the module's own objects
    have e := KX a o hk
    rw [ha] at e
    cases e
    refine core (fun _ => none) (fun _ => .inl rfl) (.inr ⟨_, vs.toArray, _, hk, rfl, rfl, rfl, by rw [List.size_toArray, lenV]; exact hl, by simpa using rv⟩) (fun b u z => by have z' : (none : Option HO) = some u := z; cases z') (fun b z => absurd rfl z) fun z => absurd rfl z
  | none =>
    refine core (fun b => if b = a then some (.frz { cls := .type "list", data := .seq vs.toArray } (.lst (ns.map V.int))) else none) (fun b => ?_) (.inl (.inr ⟨{ cls := .type "list", data := .seq vs.toArray }, if_pos rfl⟩)) (fun b u z => ?_) (fun b z => ?_) fun _ => hk
    · by_cases hb : b = a
      · exact .inr ⟨_, _, if_pos hb⟩
      · exact .inl (if_neg hb)
    · by_cases hb : b = a
      · have z' := (if_pos hb).symm.trans z
        cases z'
        subst hb
        exact ⟨ha, by rw [List.length_map]; exact hl, vs, _, rv, ha⟩
      · have z' := (if_neg hb).symm.trans z
        cases z'
    · by_cases hb : b = a
      · exact hb
      · exact absurd (if_neg hb) z
end L2

namespace L2
open PySem PySem.Spec PyProof.Rows

/-- the goal that k_head leaves (case hc), from the law's promise. F gives the function object fd (K's own) once, then the promise over every base -/
theorem walk_of {l : PySem.W.OpenLaw} {n k : Nat} {q : Program} {loose : List Str} {XP : (Str → Option Value) → Heap → Prop} {YP : World → Heap → Prop} {d : DefRec} {K : Params → PySem.W.Frag} {CX : World → CXT} {sp : World → Sp} {x : Str}
    (hn : l.most = some n) (hn2 : n ≤ sizeLine) (hdf : d.params.defaults = []) (hr : Room k callerA)
    (hY : ∀ (w : World) (h : Heap), YP w h → (K w.params).In h)
    (F : ∀ (w : World) (mg : Str → Option Value) (fa : Addr) (h : Heap), (K w.params).In h → h.Ns mainGlobals mg → mg d.name = some (.ref fa) →
      ∃ fd : FuncData, (∀ (s : Shared) (u : Value), BindsTo s fd ⟨[u], []⟩ [(x, u)]) ∧
        ∀ base : Heap, (K w.params).In base → base.Ns mainGlobals mg → FnOk l.prog w (K w.params) mg base (CX w) k fa fd [x] (sp w))
    (hsp : ∀ (w : World) (H : Hp) (a : Addr) (ns : List Int), ns.length ≤ n → Only H → SqL (K w.params) H a (ns.map V.int) → sp w [.ref a] H (fun v _ => v = .bl true) fun _ _ _ => False)
    (hCX : ∀ (w : World) (H : Hp) (s : Shared) (e : Value) (s' : Shared), CX w [] H s (fun _ _ _ => False) e s' → False) :
    PySem.W.WalkO q loose XP YP l.row.toRowW d [] (fun f vs => PySem.call f vs) := by
  refine Att.attach_call hn hdf fun w s₀ s₁ mg mb fa o pm cd doc a vs ns G Y ho hd hcd hmg hobj hints hlen hg => ?_
  have KX := hY w _ Y
  obtain ⟨fd, hb, hF⟩ := F w mg fa _ KX G.T.g hmg
  exact law_call KX G.T.g G.T.b G.T.builtins G.T.nolimit hg hobj hints (Nat.le_trans hlen hn2) hr hF hb (fun H hO hS => hsp w H a ns hlen hO hS) fun H e s' => hCX w H s₁ e s'
end L2

/- THE LAST THEOREM (shape; LID, My.* are yours):
   My.Adr: a structure of the addresses that your layer names (classes, functions); My.Txt K t: a structure (Prop) of the equations over K;
   My.txt_mk : {K} {implicit addresses ..} (e1 : nsIn K mainGlobals "law" = some (some (.ref f))) (e2 : K.lookup f = some ⟨oc, od, .func (fnOf "law" "law" params body scope dV kV doc pm an cdv ct), sl⟩) (e3 : codeIn K cdv "law" = true) .. : ∃ t, My.Txt K t

set_option maxRecDepth 100000 in
set_option maxHeartbeats 0 in
theorem PySem.Challenge.cw_LID_holds : PySem.Challenge.rw_LID.Holds := by
  w_on; o_law; k_head; (case hw => w_witness2)
  k_fill
  refine L2.walk_of (l := PySem.Challenge.rw_LID) (n := 63) (k := 40) (x := "script") (CX := fun w => ..) (sp := fun _ => My.sp_law) rfl (by decide) rfl ⟨rfl, by decide, by decide⟩ (fun w h Y => PySem.W.kIn_of Y) ?F ?S ?C
  case F =>
    intro w mg fa h KX G hmg
    have T : ∃ t, My.Txt (L2.KOf KX) t := by
      dsimp only [L2.KOf]                          -- K must stand as «<heap const> w.params» for k_is
      refine' My.txt_mk ?e1 ?e2 ?e3 ..
      (case e1 => PySem.W.k_is)                    -- in the order: a name -> its address -> its object -> its parts
      (case e2 => PySem.W.k_is)
      ..
    obtain ⟨t, T⟩ := T
    have e0 := hmg.symm.trans (PySem.W.mg_of KX G T.law)
    cases e0                                       -- fa is the law's own address
    exact ⟨_, fun s u => .of_eq rfl, fun base kb nb => My.law_fn T kb nb⟩     -- if «.of_eq rfl» comes too early: refine' ⟨_, ?b, fun base kb nb => My.law_fn T kb nb⟩; exact fun s u => .of_eq rfl
  case S => exact fun w H a ns hl hO hS => ..
  case C => exact ..
(the tactic k_is has no namespace: write k_is) -/

/-! SHORT WORDS over the layer: a def of the text, its body, what a loop and a test want. -/
namespace L2
open PySem PySem.Spec PyProof.Rows

/-! ### the text by places -/
def defArgs (s : Stmt) : Arguments := match s with
  | .FunctionDef _ a _ _ _ _ _ _ _ _ => a
  | _ => { posonlyargs := [], args := [], vararg := none, kwonlyargs := [], kw_defaults := [], kwarg := none, defaults := [] }
def defBody (s : Stmt) : List Stmt := match s with
  | .FunctionDef _ _ b _ _ _ _ _ _ _ => b
  | _ => []
def defScope (s : Stmt) : Scope := match s with
  | .FunctionDef _ _ _ _ _ _ sc _ _ _ => sc
  | _ => { kind := .function, names := [], isGenerator := false, isCoroutine := false }

/-! ### no exception leaves a def -/
abbrev CX0 : CXT := fun _ _ _ _ _ _ => False
abbrev E0 : XK := fun _ _ _ => False
theorem pass0 {X : Cx} : Passes CX0 X E0 := fun _ _ _ _ _ _ _ h => h.elim

/-! ### a def (or method) of the text as it stands behind the top -/
section
variable {P : Program} {w : World} {K : PySem.W.Frag} {mg : Str → Option Value} {base : Heap}
end
theorem hu_of {A : Around} {k : Nat} (hr : Room k A) : A.units + 1 < cLine := Nat.lt_of_le_of_lt (Nat.add_le_add_left (by decide : 1 ≤ 64) _) hr.units
/-! ### expressions in short: the name that stands in the i-th slot -/
section
variable {X : Cx}
theorem pv (i : Nat) {x : Str} {pos : Pos} (hN : X.N[i]? = some x := by rfl) (hv : Vis X.env.scope x := by first | exact Or.inl rfl | exact Or.inr (Or.inl rfl) | exact Or.inr (Or.inr rfl)) (hd : (x == ("__debug__" : Str)) = false := by decide)
    (hcd : (x == ("__classdict__" : Str)) = false := by decide) : PE X (.Name x pos) (tVar i) := pe_var hN hv hd hcd
end

/-! ### tests -/
theorem iteF {A B : Prop} (h : B) : if false = true then A else B := by
  rw [if_neg Bool.false_ne_true]
  exact h
theorem iteT {A B : Prop} (h : A) : if true = true then A else B := by
  rw [if_pos rfl]
  exact h
/-! ### heaps -/
/-- all that was tracked is as it was -/
def Same (H H' : Hp) : Prop := ∀ b o, H b = some o → H' b = some o
theorem Same.refl (H : Hp) : Same H H := fun _ _ h => h
theorem Same.trans {H H1 H2 : Hp} (a : Same H H1) (b : Same H1 H2) : Same H H2 := fun c o h => b c o (a c o h)
theorem Same.free {H H' : Hp} (e : Same H H') {l : Addr} (h : H' l = Option.none) : H l = Option.none := by
  cases q : H l with
  | none => rfl
  | some o =>
    rw [e l o q] at h
    cases h
theorem Same.seq {K : PySem.W.Frag} {H H' : Hp} {a : Addr} {xs : List V} (e : Same H H') (h : SqL K H a xs) : SqL K H' a xs := by
  rcases h with (h | ⟨o, h⟩) | h
  · exact .inl (.inl (e _ _ h))
  · exact .inl (.inr ⟨o, e _ _ h⟩)
  · exact .inr h

end L2
set_option Elab.async false
set_option linter.all false
set_option maxRecDepth 100000
namespace L2
open PySem PySem.Spec PyProof.Rows
section
variable {X : Cx}
theorem op_mulB : OpR X (binaryOp .Mult) (rI (fun i j => IntMulOk i j) fun i j => .int (i * j)) := opI fun _ _ _ _ _ _ _ hc q => mul_int q hc
theorem op_fdivB : OpR X (binaryOp .FloorDiv) (rI (fun i j => j ≠ 0 ∧ Builtin.divisionGoesByPylong i j = false) fun i j => .int (i.fdiv j)) := opI fun _ _ _ _ _ _ _ hc q => floordiv_int hc.1 q (.inl hc.2)
theorem op_powB : OpR X (binaryOp .Pow) (rI (fun i j => 0 ≤ j ∧ (Builtin.Int.intBits i : Int) * j ≤ 2 ^ 27) fun i j => .int (i ^ j.toNat)) := opI fun _ _ _ _ _ _ _ hc q => pow_int hc.1 hc.2 q
theorem isi_int_int : CallR X (.builtin "isinstance") (fun xs H Q => ∃ i, xs = [.int i, .ty "int"] ∧ Q (.bl true) H) := by
  intro pins s σ H xs us Q I r h
  obtain ⟨i, rfl, q⟩ := h
  obtain ⟨u, w', rfl, ⟨t, rfl⟩, e2⟩ := vals2 r
  cases e2
  exact PySem.call_isinstance (PySem.isinstance_true (Tx := "int") PySem.F.isi_meta_int PySem.F.isi_self_int) ⟨rfl, ⟨.bl true, H, I, rfl, q⟩⟩
theorem isi_int_bool : CallR X (.builtin "isinstance") (fun xs H Q => ∃ i, xs = [.int i, .ty "bool"] ∧ Q (.bl false) H) := by
  intro pins s σ H xs us Q I r h
  obtain ⟨i, rfl, q⟩ := h
  obtain ⟨u, w', rfl, ⟨t, rfl⟩, e2⟩ := vals2 r
  cases e2
  exact PySem.call_isinstance (PySem.isinstance_false_int (T := "bool") (by decide) PySem.F.isi_meta_bool PySem.F.sub_int_bool) ⟨.bl false, H, I.tok _, rfl, q⟩
theorem isi_bl_bool : CallR X (.builtin "isinstance") (fun xs H Q => ∃ i, xs = [.bl i, .ty "bool"] ∧ Q (.bl true) H) := by
  intro pins s σ H xs us Q I r h
  obtain ⟨i, rfl, q⟩ := h
  obtain ⟨u, w', rfl, e1, e2⟩ := vals2 r
  cases e1
  cases e2
  exact PySem.call_isinstance (PySem.isinstance_true (Tx := "bool") PySem.F.isi_meta_bool PySem.F.isi_self_bool) ⟨rfl, ⟨.bl true, H, I, rfl, q⟩⟩
theorem isi_tup_tup : CallR X (.builtin "isinstance") (fun xs H Q => ∃ a ys, xs = [.ref a, .ty "tuple"] ∧ SqT X.K H a ys ∧ Q (.bl true) H) := by
  intro pins s σ H xs us Q I r h
  obtain ⟨a, ys, rfl, hs, q⟩ := h
  obtain ⟨u, w', rfl, e1, e2⟩ := vals2 r
  cases e1
  cases e2
  obtain ⟨its, _, p1, _⟩ := I.tuple hs
  exact PySem.call_isinstance (PySem.isinstance_true (Tx := "tuple") PySem.F.isi_meta_tuple PySem.F.isi_self_tuple) ⟨p1.typeIs, ⟨.bl true, H, I, rfl, q⟩⟩
end
end L2
set_option Elab.async false
set_option linter.all false
set_option maxRecDepth 100000
namespace Sw
open PySem
/-! ### sizes -/
/-! ### divisors -/
/-! ### fractions -/
end Sw
set_option Elab.async false
set_option linter.all false
set_option maxRecDepth 100000
namespace L2
open PySem
inductive Isi (K : PySem.W.Frag) (H : Hp) : V → String → Bool → Prop where
  | ii (i : Int) : Isi K H (.int i) "int" true
  | ib (i : Int) : Isi K H (.int i) "bool" false
  | bb (b : Bool) : Isi K H (.bl b) "bool" true
  | tt (a : Addr) (ys : List V) (h : SqT K H a ys) : Isi K H (.ref a) "tuple" true
theorem call_isi {X : Cx} : CallR X (.builtin "isinstance") (fun xs H Q => ∃ x T b, xs = [x, .ty T] ∧ Isi X.K H x T b ∧ Q (.bl b) H) := by
  intro pins s σ H xs us Q I r h
  obtain ⟨x, T, b, rfl, i, q⟩ := h
  cases i with
  | ii i => exact isi_int_int pins s σ H _ us Q I r ⟨i, rfl, q⟩
  | ib i => exact isi_int_bool pins s σ H _ us Q I r ⟨i, rfl, q⟩
  | bb i => exact isi_bl_bool pins s σ H _ us Q I r ⟨i, rfl, q⟩
  | tt a ys h => exact isi_tup_tup pins s σ H _ us Q I r ⟨a, ys, rfl, h, q⟩
end L2
namespace Sw
open PySem L2
theorem dT {p A B : Prop} [Decidable p] (h : p) (a : A) : if decide p = true then A else B := by rw [if_pos (decide_eq_true h)]; exact a
theorem dF {p A B : Prop} [Decidable p] (h : ¬ p) (b : B) : if decide p = true then A else B := by rw [if_neg (by simp [h])]; exact b
theorem d2 {p A B : Prop} [Decidable p] (h1 : p → A) (h2 : ¬ p → B) : if decide p = true then A else B := by
  by_cases h : p
  · exact dT h (h1 h)
  · exact dF h (h2 h)
theorem nT {p A B : Prop} [Decidable p] (h : ¬ p) (a : A) : if (!decide p) = true then A else B := by rw [if_pos (by simp [h])]; exact a
theorem nF {p A B : Prop} [Decidable p] (h : p) (b : B) : if (!decide p) = true then A else B := by rw [if_neg (by simp [h])]; exact b
theorem vi {a b : Int} (h : a = b) : V.int a = V.int b := by rw [h]
theorem vj {a b : Int} (h : V.int a = V.int b) : a = b := by cases h; rfl
theorem d2I {a b : Int} {A B : Prop} (h1 : a = b → A) (h2 : a ≠ b → B) : if decide (V.int a = V.int b) = true then A else B := d2 (fun h => h1 (vj h)) fun h => h2 fun e => h (vi e)
theorem nTI {a b : Int} {A B : Prop} (h : a ≠ b) (x : A) : if (!decide (V.int a = V.int b)) = true then A else B := nT (fun e => h (vj e)) x
theorem nFI {a b : Int} {A B : Prop} (h : a = b) (x : B) : if (!decide (V.int a = V.int b)) = true then A else B := nF (vi h) x
section
variable {X : Cx} {k j : Nat} {x : Str} {ps : List Str} {sp : Sp} {p pos : Pos} {e : Expr} {es : List Expr} {t : TA}
end
/-! ### promises -/
def spWhole : Sp := fun vs H Q _ => ∃ v : Int, vs = [.int v] ∧ Q (.bl true) H
def spLaw (K : PySem.W.Frag) : Sp := fun vs H Q _ => ∃ (a : Addr) (ns : List Int), vs = [.ref a] ∧ SqL K H a (ns.map V.int) ∧ ns.length ≤ 63 ∧ ∀ H', Q (.bl true) H'
end Sw
set_option Elab.async false
set_option linter.all false
set_option maxRecDepth 100000
namespace Sw
open PySem L2
theorem cut {t u : TS} {D : Ends} {σ : L2.St} {H : Hp} (I : L2.St → Hp → Prop) (h1 : ∀ N : L2.St → Hp → Prop, (∀ σ H, I σ H → N σ H) → t { D with nx := N } σ H) (h2 : ∀ σ H, I σ H → u D σ H) : tSeq t u D σ H := h1 _ h2
theorem same_new {H : Hp} {p : Addr} (h : H p = none) (o : HO) : Same H (upd H p o) := fun b u q => by rw [upd_ne (ne_of_none q h)]; exact q
end Sw
set_option Elab.async false
set_option linter.all false
set_option maxRecDepth 100000
namespace Sw
open PySem L2
structure FunD (K : PySem.W.Frag) (x qual : Str) (st : Stmt) (dV : Value) (f : Addr) (fd : FuncData) : Prop where
  ex : ∃ (oc : Value) (od : Option Addr) (kV doc pm : Value) (an : Option Addr) (cdv ct : Value) (osl : Array (Option Value)),
    fd = PySem.W.fnOf x qual (defArgs st) (defBody st) (defScope st) dV kV doc pm an cdv ct ∧ K.lookup f = some ⟨oc, od, .func fd, osl⟩ ∧ PySem.W.codeIn K cdv qual = true
  kp : PySem.W.keepIn K (.ref f) = true
section
variable {P : Program} {w : World} {K : PySem.W.Frag} {mg : Str → Option Value} {base : Heap}
theorem FunD.ok {x qual : Str} {st : Stmt} {dV : Value} {f : Addr} {fd : FuncData} {N ps : List Str} {k : Nat} {sp : Sp} (F : FunD K x qual st dV f fd) (S : FnScope N ps (defScope st)) (len : ∀ vs H Q E, sp vs H Q E → vs.length = ps.length)
    (hbody : ∀ (cdv : Value) (A : Around) (outer : List Env) (s : Shared) (H : Hp) (vs : List V) (Q : VK) (E : XK), Room k (A.deeper (PyProof.Rows.envOfC qual (defScope st) s.heap.objs.size f cdv)) → sp vs H Q E →
      ∃ t, PSs (cxOf CX0 P w K mg base N qual (defScope st) f cdv A outer s H E).nox (defBody st) t ∧ t { nx := fun _ H' => Q .non H', rt := Q } (start N vs) H) : FnOk P w K mg base CX0 (k + 1) f fd ps sp := by
  obtain ⟨oc, od, kV, doc, pm, an, cdv, ct, osl, rfl, lk, hcd⟩ := F.ex
  refine fn_of lk hcd S len fun A outer s H vs Q E hr hsp => ?_
  obtain ⟨t, h, q⟩ := hbody cdv A outer s H vs Q E hr hsp
  exact ⟨t, h.nox, q⟩
theorem FunD.binds {x qual : Str} {st : Stmt} {T : Addr} {f : Addr} {fd : FuncData} {ps : List Str} {o : Obj} {items : Array Value} {n : Nat} {ds : List Value} (F : FunD K x qual st (.ref T) f fd) (ho : K.lookup T = some o) (hs : o.data = .seq items n)
    (h : ∀ (kV doc pm : Value) (an : Option Addr) (cdv ct : Value) (us : List Value), (us ++ ds).length = ps.length → ∃ k : Option (Array Value) → Sem (List (Str × Value)), bindArgs (PySem.W.fnOf x qual (defArgs st) (defBody st) (defScope st) (.ref T) kV doc pm an cdv ct) ⟨us, []⟩ = seqItems? (.ref T) >>= k ∧ k (some items) = pure (ps.zip (us ++ ds))) : Binds K fd ps ds := by
  obtain ⟨oc, od, kV, doc, pm, an, cdv, ct, osl, rfl, lk, hcd⟩ := F.ex
  intro s us KX hl
  obtain ⟨k, h1, h2⟩ := h kV doc pm an cdv ct us hl
  exact PySem.W.binds_K KX rfl ho hs h1 h2
theorem FunD.binds0 {x qual : Str} {st : Stmt} {dV : Value} {f : Addr} {fd : FuncData} {ps : List Str} (F : FunD K x qual st dV f fd)
    (h : ∀ (kV doc pm : Value) (an : Option Addr) (cdv ct : Value) (us : List Value), us.length = ps.length → bindArgs (PySem.W.fnOf x qual (defArgs st) (defBody st) (defScope st) dV kV doc pm an cdv ct) ⟨us, []⟩ = pure (ps.zip us)) : Binds K fd ps [] := by
  obtain ⟨oc, od, kV, doc, pm, an, cdv, ct, osl, rfl, lk, hcd⟩ := F.ex
  exact .all (h kV doc pm an cdv ct)
theorem funD_mk {x qual : Str} {st : Stmt} {f : Addr} {oc dV : Value} {od an : Option Addr} {osl : Array (Option Value)} {kV doc pm cdv ct : Value} (l : K.lookup f = some ⟨oc, od, .func (PySem.W.fnOf x qual (defArgs st) (defBody st) (defScope st) dV kV doc pm an cdv ct), osl⟩)
    (c : PySem.W.codeIn K cdv qual = true) (k : PySem.W.keepIn K (.ref f) = true) : FunD K x qual st dV f (PySem.W.fnOf x qual (defArgs st) (defBody st) (defScope st) dV kV doc pm an cdv ct) := ⟨⟨oc, od, kV, doc, pm, an, cdv, ct, osl, rfl, l, c⟩, k⟩
end
section
variable {X : Cx} {k j : Nat} {x : Str} {ps : List Str} {sp : Sp} {p pos : Pos} {e : Expr} {es : List Expr} {t : TA} {dvs : List V}
end
/-! ### the mathematics of sums -/
end Sw
set_option Elab.async false
set_option linter.all false
set_option maxRecDepth 100000
namespace XH
open PySem
/-! ### what a frame's note and the flight of an exception change -/
structure Mv (fs ch : List Addr) (h h' : Heap) : Prop where
  keep : ∀ b o, b ∉ fs → b ∉ ch → h.get? b = some o → h'.get? b = some o
  slot : ∀ b o, b ∈ fs → b ∉ ch → h.get? b = some o → ∃ sl, h'.get? b = some { o with slots := sl }
  there : ∀ b o, h.get? b = some o → ∃ o', h'.get? b = some o'
theorem Mv.refl (fs ch : List Addr) (h : Heap) : Mv fs ch h h := ⟨fun _ _ _ _ q => q, fun _ o _ _ q => ⟨o.slots, q⟩, fun _ o q => ⟨o, q⟩⟩
theorem Mv.trans {fs c1 c2 ch : List Addr} {h h1 h2 : Heap} (x : Mv fs c1 h h1) (y : Mv fs c2 h1 h2) (k1 : ∀ b, b ∈ c1 → b ∈ ch) (k2 : ∀ b, b ∈ c2 → b ∈ ch) : Mv fs ch h h2 where
  keep := fun b o hf hc q => y.keep b o hf (fun z => hc (k2 b z)) (x.keep b o hf (fun z => hc (k1 b z)) q)
  slot := fun b o hf hc q => by
    obtain ⟨sl, q1⟩ := x.slot b o hf (fun z => hc (k1 b z)) q
    obtain ⟨sl2, q2⟩ := y.slot b _ hf (fun z => hc (k2 b z)) q1
    exact ⟨sl2, q2⟩
  there := fun b o q => by
    obtain ⟨o1, q1⟩ := x.there b o q
    exact y.there b o1 q1
/-- the note in an exception's traceback: none yet, or an entry in such a flight -/
inductive XSt where
  | new
  | fl (v : Value)
def XSt.Is (F : Addr → Prop) (h : Heap) (e : Addr) (vs : Array Value) : XSt → Prop
  | .new => vs[1]? = some .none
  | .fl v => ∃ T oT ts, vs[1]? = some (.ref T) ∧ F T ∧ T ≠ e ∧ h.get? T = some oT ∧ oT.data = .fields ts ∧ ts[3]? = some v
/-- room for its entries, and it came with no other one handled -/
def Fz (vs : Array Value) : Prop := 1 < vs.size ∧ vs[2]? = some .none
theorem Fz.set {vs : Array Value} (h : Fz vs) (v : Value) : Fz (vs.setIfInBounds 1 v) := ⟨by simpa using h.1, by rw [Array.getElem?_setIfInBounds]; simp [h.2]⟩
structure XO (F : Addr → Prop) (h : Heap) (e : Addr) (cls : Value) (dx : Option Addr) (st : XSt) : Prop where
  ex : ∃ oe vs, h.get? e = some oe ∧ oe.cls = cls ∧ oe.dict = dx ∧ oe.data = .fields vs ∧ Fz vs ∧ st.Is F h e vs
  fr : F e
theorem XO.mono {F G : Addr → Prop} {h : Heap} {e : Addr} {cls : Value} {dx : Option Addr} {st : XSt} (x : XO F h e cls dx st) (k : ∀ b, F b → G b) : XO G h e cls dx st := by
  obtain ⟨⟨oe, vs, a, b, c, d, f, g⟩, fr⟩ := x
  refine ⟨⟨oe, vs, a, b, c, d, f, ?_⟩, k _ fr⟩
  cases st with
  | new => exact g
  | fl v =>
    obtain ⟨T, oT, ts, g1, g2, g3⟩ := g
    exact ⟨T, oT, ts, g1, k _ g2, g3⟩
theorem mapf_dict (o : Obj) (f : Array Value → Array Value) : (o.mapFields f).dict = o.dict := by
  obtain ⟨c, d, dt, sl⟩ := o
  cases dt <;> rfl
section
variable {M : Model} {A : Around} {E : Value → Shared → Prop} {s : Shared}
theorem entry_ok {base : Heap} {env : Env} {outer : List Env} {L e : Addr} {oe : Obj} {vs : Array Value} {head : Value} {had : Bool} {Q : Unit → Shared → Prop}
    (hfr : A.frames = some (env :: outer)) (hl : s.heap.FunFrames base (env :: outer)) (hf : env.frame = some L) (he : s.heap.get? e = some oe) (hd : oe.data = .fields vs) (hsz : 1 < vs.size)
    (h : ∀ h' T, Mv ((env :: outer).filterMap (·.frame)) [e] s.heap h' → s.heap.get? T = none → T ≠ e → h'.get? e = some (oe.mapFields (·.setIfInBounds 1 (.ref T))) →
      (∃ oT ts, h'.get? T = some oT ∧ oT.data = .fields ts ∧ ts[3]? = some (rawInt L)) → Q () { s with heap := h' }) :
    wpAny M A (do let a ← frameOf env; let pl ← entryPlaceOf L had; let b ← EntryCells.newEntry head a .none (rawInt L) .none pl; setField (.ref e) 1 b) Q E s := by
  have hne : e ∉ (env :: outer).filterMap (·.frame) := by
    intro hm
    obtain ⟨_, o, ho, hnf⟩ := hl.mem hm
    rw [he] at ho
    cases ho
    exact hnf vs hd
  apply wpAny_bind
  apply wpAny_frameOf_fun hfr hl hf
  intro h1 hs
  apply wpAny_bind
  apply wpAny_entryPlaceOf
  intro pl hpl
  unfold EntryCells.newEntry newFields
  apply wpAny_bind
  refine wpAny_newObj_type ?_ (hpl.sizeOk5 ..)
  have e1 : h1.get? e = some oe := (hs.2.1 e hne).trans he
  generalize hob : ({ cls := .type "traceback", dict := none, data := .fields ([head, .ref L, .none, rawInt L, .none] ++ (if pl.isEmpty then List.replicate 6 Value.none else pl)).toArray } : Obj) = ob
  have e2 := Heap.get?_push_of_some (h := h1) ob e1
  refine wpAny_setField e2 hd hsz ?_
  have hTe : h1.objs.size ≠ e := Nat.ne_of_gt (Heap.lt_size e1)
  have d3 := Obj.data_mapFields hd (·.setIfInBounds 1 (Value.ref h1.objs.size))
  have e3 := Heap.get?_update_self (Obj.mapFields (·.setIfInBounds 1 (Value.ref h1.objs.size))) e2 (Obj.isFreed_of_fields d3)
  have kp : ∀ b o, b ≠ e → h1.get? b = some o → ((h1.push ob).update e (Obj.mapFields (·.setIfInBounds 1 (Value.ref h1.objs.size)))).get? b = some o := by
    intro b o hb q
    rw [Heap.get?_update_other _ _ (Ne.symm hb)]
    exact Heap.get?_push_of_some _ q
  have t3 : ((h1.push ob).update e (Obj.mapFields (·.setIfInBounds 1 (Value.ref h1.objs.size)))).get? h1.objs.size = some ob := by
    rw [Heap.get?_update_other _ _ (Ne.symm hTe)]
    exact Heap.get?_push_size h1 (by rw [← hob]; rfl)
  refine h _ h1.objs.size ⟨?_, ?_, ?_⟩ ?_ hTe e3 ?_
  · intro b o hb hc q
    exact kp b o (fun z => hc (by rw [z]; exact List.mem_singleton.mpr rfl)) ((hs.2.1 b hb).trans q)
  · intro b o hb hc q
    obtain ⟨sl, q1⟩ := hs.2.2 b o q
    exact ⟨sl, kp b _ (fun z => hc (by rw [z]; exact List.mem_singleton.mpr rfl)) q1⟩
  · intro b o q
    by_cases hb : b = e
    · subst hb
      exact ⟨_, e3⟩
    · obtain ⟨sl, q1⟩ := hs.2.2 b o q
      exact ⟨_, kp b _ hb q1⟩
  · exact Heap.get?_none_of_le (by rw [hs.1]; exact Nat.le_refl _)
  · subst hob
    refine ⟨_, _, t3, rfl, ?_⟩
    rcases hpl with rfl | ⟨_, _, _, _, _, _, _, rfl⟩ <;> simp
theorem flight_ok {F : Addr → Prop} {e : Addr} {cls v : Value} {dx fl : Option Addr} {Q : Unit → Shared → Prop} (x : XO F s.heap e cls dx (.fl v))
    (h : ∀ h' T, F T → Mv [] [T] s.heap h' → XO F h' e cls dx (.fl (fl.elim .none fun f => rawInt f)) → Q () { s with heap := h' }) : wpAny M A (setFlight (.ref e) fl) Q E s := by
  obtain ⟨⟨oe, vs, he, hc, hdx, hd, hsz, T, oT, ts, h1, hF, hTe, hT, hdT, h3⟩, fr⟩ := x
  have z3 : 3 < ts.size := (Array.getElem?_eq_some_iff.mp h3).1
  have oth : ∀ b, b ≠ T → (s.heap.update T (Obj.mapFields (·.setIfInBounds 3 (fl.elim Value.none fun f => rawInt f)))).get? b = s.heap.get? b := fun b hb => Heap.get?_update_other _ _ (Ne.symm hb)
  have t4 := Heap.get?_update_self (Obj.mapFields (·.setIfInBounds 3 (fl.elim Value.none fun f => rawInt f))) hT (Obj.isFreed_of_fields (Obj.data_mapFields hdT _))
  unfold setFlight
  apply wpAny_bind
  apply wpAny_field he hd h1
  rw [if_pos (by simp)]
  apply wpAny_setField hT hdT z3
  refine h _ T hF ⟨?_, fun b o hb => absurd hb (by simp), ?_⟩ ⟨⟨oe, vs, (oth e (Ne.symm hTe)).trans he, hc, hdx, hd, hsz, T, _, _, h1, hF, hTe, t4, Obj.data_mapFields hdT _, by simp [z3]⟩, fr⟩
  · intro b o _ hb q
    exact (oth b (fun z => hb (by rw [z]; exact List.mem_singleton.mpr rfl))).trans q
  · intro b o q
    by_cases hb : b = T
    · subst hb
      exact ⟨_, t4⟩
    · exact ⟨o, (oth b hb).trans q⟩
theorem note_ok {F : Addr → Prop} {base : Heap} {env : Env} {outer : List Env} {L e : Addr} {cls : Value} {dx : Option Addr} {st : XSt} {Q : Unit → Shared → Prop}
    (hfr : A.frames = some (env :: outer)) (hl : s.heap.FunFrames base (env :: outer)) (hf : env.frame = some L) (x : XO F s.heap e cls dx st)
    (h : ∀ h' ch, (∀ b ∈ ch, F b) → Mv ((env :: outer).filterMap (·.frame)) ch s.heap h' → XO (fun b => F b ∨ s.heap.get? b = none) h' e cls dx (.fl (rawInt L)) → Q () { s with heap := h' }) : wpAny M A (noteFrame (.ref e) env) Q E s := by
  obtain ⟨⟨oe, vs, he, hc, hdx, hd, hsz, hst⟩, fr⟩ := x
  unfold noteFrame
  simp only [hf]
  cases st with
  | new =>
    apply wpAny_bind
    apply wpAny_field he hd hst
    rw [if_neg (by decide)]
    refine entry_ok hfr hl hf he hd hsz.1 fun h' T mv tn tne he' ⟨oT, ts, hT, hdT, h3⟩ => ?_
    refine h h' [e] (fun b hb => by rw [List.mem_singleton.mp hb]; exact fr) mv ⟨⟨_, _, he', ?_, ?_, Obj.data_mapFields hd _, hsz.set _, T, oT, ts, by simp [hsz.1], .inr tn, tne, hT, hdT, h3⟩, .inl fr⟩
    · rw [Obj.cls_mapFields]; exact hc
    · rw [mapf_dict]; exact hdx
  | fl v =>
    obtain ⟨T, oT, ts, h1, hF, hTe, hT, hdT, h3⟩ := hst
    have z3 : 3 < ts.size := (Array.getElem?_eq_some_iff.mp h3).1
    apply wpAny_bind
    apply wpAny_field he hd h1
    rw [if_pos (by simp)]
    apply wpAny_bind
    apply wpAny_field hT hdT h3
    by_cases hv : (v == rawInt L) = true
    · rw [if_pos hv]
      have ev : v = rawInt L := beq_iff_eq.mp hv
      subst ev
      refine wpAny_pure (h s.heap [] (fun b hb => absurd hb (by simp)) (.refl ..) ⟨⟨oe, vs, he, hc, hdx, hd, hsz, T, oT, ts, h1, .inl hF, hTe, hT, hdT, h3⟩, .inl fr⟩)
    · rw [if_neg hv]
      apply wpAny_bind
      apply wpAny_setField hT hdT z3
      have oth : ∀ b, b ≠ T → (s.heap.update T (Obj.mapFields (·.setIfInBounds 3 Value.none))).get? b = s.heap.get? b := fun b hb => Heap.get?_update_other _ _ (Ne.symm hb)
      have t4 := Heap.get?_update_self (Obj.mapFields (·.setIfInBounds 3 Value.none)) hT (Obj.isFreed_of_fields (Obj.data_mapFields hdT _))
      have nrec : ∀ b o, s.heap.get? b = some o → (∀ vs, o.data ≠ .fields vs) → b ≠ T := by
        intro b o hb hn z
        rw [z, hT] at hb
        cases hb
        exact hn ts hdT
      have mv1 : Mv ((env :: outer).filterMap (·.frame)) [T] s.heap (s.heap.update T (Obj.mapFields (·.setIfInBounds 3 Value.none))) := by
        refine ⟨fun b o _ hb q => (oth b (fun z => hb (by rw [z]; exact List.mem_singleton.mpr rfl))).trans q, fun b o _ hb q => ⟨o.slots, (oth b (fun z => hb (by rw [z]; exact List.mem_singleton.mpr rfl))).trans q⟩, fun b o q => ?_⟩
        by_cases hb : b = T
        · subst hb
          exact ⟨_, t4⟩
        · exact ⟨o, (oth b hb).trans q⟩
      refine entry_ok (s := { s with heap := s.heap.update T (Obj.mapFields (·.setIfInBounds 3 Value.none)) }) hfr (hl.of_keeps fun b o hb hn => ⟨o, (oth b (nrec b o hb hn)).trans hb, rfl⟩) hf ((oth e (Ne.symm hTe)).trans he) hd hsz.1 fun h' T2 mv tn tne he' ⟨oT2, ts2, hT2, hdT2, h32⟩ => ?_
      refine h h' [T, e] ?_ (mv1.trans mv (fun b hb => by simp at hb; simp [hb]) (fun b hb => by simp at hb; simp [hb])) ⟨⟨_, _, he', ?_, ?_, Obj.data_mapFields hd _, hsz.set _, T2, oT2, ts2, by simp [hsz.1], .inr ?_, tne, hT2, hdT2, h32⟩, .inl fr⟩
      · intro b hb
        simp at hb
        rcases hb with rfl | rfl
        · exact hF
        · exact fr
      · rw [Obj.cls_mapFields]; exact hc
      · rw [mapf_dict]; exact hdx
      · cases q : s.heap.get? T2 with
        | none => rfl
        | some o =>
          obtain ⟨o', q'⟩ := mv1.there T2 o q
          rw [q'] at tn
          cases tn
end
end XH
set_option Elab.async false
set_option linter.all false
set_option maxRecDepth 100000
namespace L2
open PySem PySem.Spec PyProof.Rows XH
/-! ### an exception behind a call, in flight: it and its notes are untracked, and were not there ahead of the call -/
structure CXat (P : Program) (w : World) (outer : List Env) (H : Hp) (s : Shared) (a : Addr) (H' : Hp) (cls : Value) (dx : Option Addr) (st : XSt) (s' : Shared) : Prop where
  os : s'.os = s.os
  bare : AllBare s'.gens
  un : Un (frs outer) [] H H' s.heap s'.heap
  hok : HOk P w H' s'.heap
  xo : XO (fun b => s.heap.get? b = none ∧ H' b = none) s'.heap a cls dx st
def CX1 (P : Program) (w : World) : CXT := fun outer H s E e s' => ∃ a H' cls dx st, e = .ref a ∧ CXat P w outer H s a H' cls dx st s' ∧ E cls dx H'
section
variable {P : Program} {w : World} {H H' : Hp} {h h' h0 : Heap} {fs ch : List Addr} {a : Addr} {o : HO}
theorem ObjOk.there (x : ObjOk P w H h a o) : ∃ u, h.get? a = some u := by
  cases o with
  | lst xs => obtain ⟨_, _, _, _, e⟩ := x; exact ⟨_, e⟩
  | tup xs => obtain ⟨_, _, _, _, e, _⟩ := x; exact ⟨_, e⟩
  | dK kvs => obtain ⟨_, _, _, _, _, _, _, e, _⟩ := x; exact ⟨_, e⟩
  | dT kvs => obtain ⟨_, _, _, _, _, _, _, e, _⟩ := x; exact ⟨_, e⟩
  | set S n => obtain ⟨_, _, _, _, e, _⟩ := x; exact ⟨_, e⟩
  | ins C dx fs => obtain ⟨_, _, _, e, _⟩ := x; exact ⟨_, e⟩
  | own y => exact x
  | xd fs => obtain ⟨_, ⟨_, _, _, e, _⟩, _⟩ := x; exact ⟨_, e⟩
  | rng lo hi => obtain ⟨_, _, _, e⟩ := x; exact ⟨_, e⟩
  | frz ob u => obtain ⟨e, _⟩ := x; exact ⟨_, e⟩
  | tbl ps => exact ⟨_, show h.get? a = some _ from x⟩
  | met f y => exact ⟨_, show h.get? a = some _ from x⟩
  | ext φ => obtain ⟨_, ⟨_, e⟩, _⟩ := x; exact ⟨_, e⟩
theorem HOk.none_of (k : HOk P w H h) (q : h.get? a = none) : H a = none := by
  cases r : H a with
  | none => rfl
  | some o =>
    obtain ⟨u, e⟩ := (k a o r).there
    rw [q] at e
    cases e
theorem un_mv (u : Un fs [] H H' h0 h) (m : Mv fs ch h h') (hc : ∀ b ∈ ch, h0.get? b = none) : Un fs [] H H' h0 h' where
  keep := fun b o q n hb hx => m.keep b o hb (fun z => by rw [hc b z] at q; cases q) (u.keep b o q n hb hx)
  slot := fun b o q n hb hx => by
    obtain ⟨sl, q1⟩ := u.slot b o q n hb hx
    obtain ⟨sl2, q2⟩ := m.slot b _ hb (fun z => by rw [hc b z] at q; cases q) q1
    exact ⟨sl2, q2⟩
  free := u.free
  there := fun b o q hx => by
    obtain ⟨o1, q1⟩ := u.there b o q hx
    exact m.there b o1 q1
  tups := u.tups
  frzs := u.frzs
  tbls := u.tbls
theorem hok_mv (k : HOk P w H h) (m : Mv fs ch h h') (hc : ∀ b ∈ ch, H b = none) (hf : ∀ b ∈ fs, H b = none) : HOk P w H h' := fun a o e =>
  (k a o e).stay (fun b u hb q => by
    have t : H b ≠ none := by
      rcases hb with z | z
      · rw [z, e]; exact fun y => nomatch y
      · rw [z]; exact fun y => nomatch y
    exact m.keep b u (fun z => t (hf b z)) (fun z => t (hc b z)) q) (fun _ q => q) fun _ _ q => q
theorem _root_.XH.Mv.wider (m : Mv [] ch h h') : Mv fs ch h h' := ⟨fun b o _ hc q => m.keep b o (by simp) hc q, fun b o _ hc q => ⟨o.slots, m.keep b o (by simp) hc q⟩, m.there⟩
theorem funs_un {base : Heap} (u : Un fs [] H H' h h') : ∀ {l : List Env}, h.FunFrames base l → (∀ b ∈ frs l, b ∈ fs ∧ H b = none) → h'.FunFrames base l
  | [], _, _ => trivial
  | env :: r, ⟨hk, ⟨L, o, hf, hn, ho, hd⟩, hr⟩, hs => by
    have hL : L ∈ frs (env :: r) := by unfold frs; rw [List.filterMap_cons, hf]; exact List.mem_cons_self
    obtain ⟨sl, e⟩ := u.slot L o ho (hs L hL).2 (hs L hL).1 (by simp)
    exact ⟨hk, ⟨L, _, hf, hn, e, hd⟩, funs_un u hr fun b hb => hs b (by unfold frs; rw [List.filterMap_cons, hf]; exact List.mem_cons_of_mem _ hb)⟩
end
section
variable {P : Program} {w : World} {H H' : Hp} {s s' : Shared} {a L : Addr} {cls v : Value} {dx : Option Addr} {st : XSt} {env : Env} {outer : List Env} {base : Heap} {M : Model} {A : Around} {Z : Value → Shared → Prop} {Q : Unit → Shared → Prop}
theorem CXat.frees (c : CXat P w outer H s a H' cls dx st s') (hl : s.heap.FunFrames base outer) (hH : ∀ b ∈ frs outer, H b = none) : ∀ b ∈ frs outer, H' b = none := fun b hb => by
  obtain ⟨_, o, ho, _⟩ := hl.mem hb
  exact c.un.free b o ho (hH b hb) (by simp)
theorem CXat.note (c : CXat P w (env :: outer) H s a H' cls dx st s') (hfr : A.frames = some (env :: outer)) (hf : env.frame = some L) (hl : s.heap.FunFrames base (env :: outer)) (hH : ∀ b ∈ frs (env :: outer), H b = none)
    (h : ∀ s'', CXat P w (env :: outer) H s a H' cls dx (.fl (rawInt L)) s'' → Q () s'') : wpAny M A (noteFrame (.ref a) env) Q Z s' := by
  refine note_ok hfr (funs_un c.un hl fun b hb => ⟨hb, hH b hb⟩) hf c.xo fun h' ch hch mv x => h _ ?_
  refine ⟨c.os, c.bare, un_mv c.un mv fun b hb => (hch b hb).1, hok_mv c.hok mv (fun b hb => (hch b hb).2) (c.frees hl hH), x.mono ?_⟩
  rintro b (q | q)
  · exact q
  · refine ⟨?_, c.hok.none_of q⟩
    cases r : s.heap.get? b with
    | none => rfl
    | some o =>
      obtain ⟨o', r'⟩ := c.un.there b o r (by simp)
      rw [r'] at q
      cases q
theorem CXat.flight {fl : Option Addr} (c : CXat P w outer H s a H' cls dx (.fl v) s') (hl : s.heap.FunFrames base outer) (hH : ∀ b ∈ frs outer, H b = none)
    (h : ∀ s'', CXat P w outer H s a H' cls dx (.fl (fl.elim .none fun f => rawInt f)) s'' → Q () s'') : wpAny M A (setFlight (.ref a) fl) Q Z s' := by
  refine flight_ok c.xo fun h' T hT mv x => h _ ⟨c.os, c.bare, un_mv c.un mv.wider fun b hb => ?_, hok_mv c.hok (mv.wider (fs := frs outer)) (fun b hb => ?_) (c.frees hl hH), x⟩
  · rw [List.mem_singleton.mp hb]; exact hT.1
  · rw [List.mem_singleton.mp hb]; exact hT.2
end
/-- what is wanted of an exception in a body: E speaks of the names, its class, its dict, the heap -/
def XS (X : Cx) (E : St → XK) : Value → Shared → Prop := fun e s' => ∃ σ H0 s0, Inv X [] σ H0 s0 ∧ CX1 X.prog X.w X.stack H0 s0 (E σ) e s'
def PassX (X : Cx) (E : St → XK) : Prop := ∀ (pins : List (Addr × Obj)) (σ : St) (H : Hp) (s : Shared) (e : Value) (s' : Shared), Inv X pins σ H s → CX1 X.prog X.w X.stack H s (E σ) e s' → X.xe e s'
theorem passX {X : Cx} {E : St → XK} : PassX (X.wish (XS X E)) E := fun pins σ H s e s' I c => ⟨σ, H, s, I.unwish.pins_of (fun p hp => absurd hp (by simp)), c⟩
def tCallX (sp : Sp) (dvs : List V) (E : St → XK) (t : TA) : TE := fun σ H Q => t σ H fun vs H1 => sp (vs ++ dvs) H1 Q (E σ)
section
variable {X : Cx} {k : Nat} {f C : Addr} {fd : FuncData} {ps : List Str} {sp : Sp} {dvs : List V} {ds : List Value} {E : St → XK} {x m : Str} {p pos apos : Pos} {e o : Expr} {es : List Expr} {ta : TE} {t : TA}
theorem run_fnX {pins : List (Addr × Obj)} {σ : St} {H : Hp} {s : Shared} {Q : VK} {us : List Value} {vs : List V} (F : FnOk X.prog X.w X.K X.mg X.base (CX1 X.prog X.w) k f fd ps sp) (hr : Room k X.A) (hb : Binds X.K fd ps ds) (hd : Vals dvs ds) (hx : PassX X E)
    (I : Inv X pins σ H s) (r : Vals vs us) (h : sp (vs ++ dvs) H Q (E σ)) : wpAny (model X.prog X.w) X.A (call (.ref f) us) (EP X pins σ Q) X.xe s := by
  have r2 : Vals (vs ++ dvs) (us ++ ds) := r.append hd
  have hl : (us ++ ds).length = ps.length := by rw [← r2.length]; exact F.len _ _ _ _ h
  refine wpAny_call (codeAny_mono (F.run X.A X.stack s H ⟨us, []⟩ (us ++ ds) (vs ++ dvs) Q (E σ) hr I.env0 (hb s us I.kIn hl) r2 h) fun r s' hq => ?_)
  cases r with
  | error e => exact hx pins σ H s e s' I hq
  | ok fl =>
    cases fl with
    | ret u => exact I.after hq
    | next => exact False.elim hq
    | brk => exact False.elim hq
    | cont => exact False.elim hq
theorem pe_callX (F : FnOk X.prog X.w X.K X.mg X.base (CX1 X.prog X.w) k f fd ps sp) (hr : Room k X.A) (hg : Gl X x) (hm : X.mg x = some (.ref f)) (hk : PySem.W.keepIn X.K (.ref f) = true) (hb : Binds X.K fd ps ds) (hd : Vals dvs ds) (hx : PassX X E)
    (ha : PA X (e :: es) t) (hdb : (x == ("__debug__" : Str)) = false := by decide) (he : starEach (e :: es) X.env = (false, eval e X.env) :: starEach es X.env := by rfl) (hpl : (backTo pos (starEach es X.env)).any (·.1) = false := by rfl) :
    PE X (.Call (.Name x p) (e :: es) [] pos) (tCallX sp dvs E t) := by
  intro pins s σ H Q I h
  refine wpAny_Call_Name_kw (ld_glob I hg hm ?_ hdb)
  refine PySem.W.callWith_K (h₀ := X.base) I.ok.mod.kin hk (thn (ha pos pins s σ H _ I h) fun us s1 ⟨vs, H1, I1, r, q⟩ => ⟨I1.kIn, ?_⟩) he hpl
  exact run_fnX F hr hb hd hx I1 r q
end
theorem PSs.toX {X : Cx} {E' : Value → Shared → Prop} {st : List Stmt} {t : TS} (h : PSs (X.wish E') st t) (k : ∀ e s, E' e s → X.xe e s) : PSs X st t := fun pins s σ H D I hw =>
  wpAny_mono (h pins s σ H D (I.wish _) hw) (fun _ _ q => q.unwish) fun e s z => k e s z
section
variable {P : Program} {w : World} {K : PySem.W.Frag} {mg : Str → Option Value} {base : Heap}
theorem leave_ok {N : List Str} {qual : Str} {scope : Scope} {f : Addr} {cd : Value} {A : Around} {outer : List Env} {s : Shared} {H : Hp} {E : XK} {e : Value} {s' : Shared}
    (h : XS (cxOf (CX1 P w) P w K mg base N qual scope f cd A outer s H E) (fun _ => E) e s') : (cxOf (CX1 P w) P w K mg base N qual scope f cd A outer s H E).xe e s' := by
  obtain ⟨σ, H0, s0, I, a, H', cls, dx, st, rfl, c, hE⟩ := h
  show wpAny (model P w) (A.deeper (envOfC qual scope s.heap.objs.size f cd)) (leaving (envOfC qual scope s.heap.objs.size f cd) (.ref a)) (fun _ s'' => CX1 P w outer H s E (.ref a) s'') (fun e' s'' => CX1 P w outer H s E e' s'') s'
  unfold leaving
  apply wpAny_bind
  refine c.note (L := s.heap.objs.size) I.ok.frames rfl I.stack I.stkFree fun s1 c1 => ?_
  refine c1.flight I.stack I.stkFree fun s2 c2 => ?_
  have J := I.call' c2.os c2.un c2.hok c2.bare (fun b z => absurd z (by simp))
  refine ⟨a, H', cls, dx, _, rfl, ⟨J.os, c2.bare, J.base, c2.hok, c2.xo.mono fun b q => ⟨?_, q.2⟩⟩, hE⟩
  cases r : s.heap.get? b with
  | none => rfl
  | some o =>
    obtain ⟨o', r'⟩ := I.base.there b o r (fun z => absurd (show b ∈ ([] : List Addr) from z) (by simp))
    rw [q.1] at r'
    cases r'
/-- THE RULE for a def that may refuse -/
theorem fn_ofX {k : Nat} {f : Addr} {name qual : Str} {params : Arguments} {body : List Stmt} {scope : Scope} {dV kV doc pm cdv ct oc : Value} {an od : Option Addr}
    {osl : Array (Option Value)} {N ps : List Str} {sp : Sp} (lk : K.lookup f = some ⟨oc, od, .func (PySem.W.fnOf name qual params body scope dV kV doc pm an cdv ct), osl⟩) (hcd : PySem.W.codeIn K cdv qual = true) (S : FnScope N ps scope)
    (len : ∀ vs H Q E, sp vs H Q E → vs.length = ps.length)
    (hbody : ∀ (A : Around) (outer : List Env) (s : Shared) (H : Hp) (vs : List V) (Q : VK) (E : XK), Room k (A.deeper (envOfC qual scope s.heap.objs.size f cdv)) → sp vs H Q E →
      ∃ t, PSs ((cxOf (CX1 P w) P w K mg base N qual scope f cdv A outer s H E).wish (XS (cxOf (CX1 P w) P w K mg base N qual scope f cdv A outer s H E) fun _ => E)) body t ∧ t { nx := fun _ H' => Q .non H', rt := Q } (start N vs) H) :
    FnOk P w K mg base (CX1 P w) (k + 1) f (PySem.W.fnOf name qual params body scope dV kV doc pm an cdv ct) ps sp := by
  refine fn_of lk hcd S len fun A outer s H vs Q E hr hsp => ?_
  obtain ⟨t, h, q⟩ := hbody A outer s H vs Q E hr hsp
  exact ⟨t, h.toX fun e s' z => leave_ok z, q⟩
/-- a promise under which it refuses nothing -/
theorem FnOk.noraise {k : Nat} {f : Addr} {fd : FuncData} {ps : List Str} {sp sp0 : Sp} (F : FnOk P w K mg base (CX1 P w) k f fd ps sp) (h : ∀ vs H Q E, sp0 vs H Q E → sp vs H Q E0) : FnOk P w K mg base CX0 k f fd ps sp0 :=
  ⟨fun vs H Q E q => F.len vs H Q E0 (h _ _ _ _ q), fun A outer s H args us vs Q E hr he hb hv hs => codeAny_mono (F.run A outer s H args us vs Q E0 hr he hb hv (h _ _ _ _ hs)) fun r s' hq => by
    cases r with
    | error e => obtain ⟨_, _, _, _, _, _, _, z⟩ := hq; exact z.elim
    | ok fl => cases fl <;> exact hq⟩
end
/-! ### try -/
abbrev Cx.tried (X : Cx) (pins : List (Addr × Obj)) : Cx := { X with pn := X.pn ++ pins }
abbrev Cx.suite (X : Cx) (pins : List (Addr × Obj)) (a : Addr) : Cx := { X with A := X.A.mark (some (.ref a)), calm := false, pn := X.pn ++ pins, xe := fun _ _ => False }
/-- an exception that was caught or made, tracked -/
def excB (n : Bool) (a : Addr) (cls : Value) (dx : Option Addr) : HO := .ext fun h => ∃ ox vs, h.get? a = some ox ∧ ox.cls = cls ∧ ox.dict = dx ∧ ox.data = .fields vs ∧ vs[2]? = some .none ∧ (n = true → 1 < vs.size ∧ vs[1]? = some .none)
abbrev excO := excB false
theorem excB_ok {P : Program} {w : World} {H : Hp} {h : Heap} {n : Bool} {a : Addr} {cls : Value} {dx : Option Addr} {ox : Obj} {vs : Array Value} (h1 : h.get? a = some ox) (h2 : ox.cls = cls) (h3 : ox.dict = dx) (h4 : ox.data = .fields vs) (h6 : vs[2]? = some .none) (h5 : n = true → 1 < vs.size ∧ vs[1]? = some .none) : ObjOk P w H h a (excB n a cls dx) :=
  ⟨⟨ox, vs, h1, h2, h3, h4, h6, h5⟩, ⟨ox, h1⟩, fun _ _ ⟨oy, ws, q, r⟩ kp => ⟨oy, ws, kp _ q, r⟩⟩
abbrev TH := Ends → St → Value → Option Addr → Hp → Addr → Prop
def PH (X : Cx) (hs : List ExceptHandler) (th : TH) : Prop :=
  ∀ (pins : List (Addr × Obj)) (σ : St) (H0 : Hp) (s0 : Shared) (D : Ends) (a : Addr) (H' : Hp) (cls v : Value) (dx : Option Addr) (s' : Shared), Inv X pins σ H0 s0 → CXat X.prog X.w X.stack H0 s0 a H' cls dx (.fl v) s' → th D σ cls dx H' a →
    wpAny (model X.prog X.w) X.A (handleBy (.ref a) X.env hs) (SP X pins D) X.xe s'
section
variable {X : Cx} {pins : List (Addr × Obj)} {σ : St} {H H' : Hp} {s s' : Shared}
theorem Inv.tried (I : Inv X pins σ H s) : Inv (X.tried pins) [] σ H s :=
  ⟨⟨I.ok.mod, I.ok.kind, I.ok.glob, I.ok.blt, I.ok.above, I.ok.inj, I.ok.has, I.ok.cab, I.ok.hd, I.ok.frames, I.ok.stk, I.ok.exf, I.ok.bs, I.ok.bsz, I.ok.noex, I.ok.exfs, I.ok.funs, I.ok.frf⟩,
    I.os, I.bare, I.base, I.loc, I.cell, I.free, I.freeC, fun p hp => I.pin p (by simpa using hp), I.hok, I.len⟩
theorem Inv.untried (I : Inv (X.tried pins) [] σ H s) : Inv X pins σ H s :=
  ⟨⟨I.ok.mod, I.ok.kind, I.ok.glob, I.ok.blt, I.ok.above, I.ok.inj, I.ok.has, I.ok.cab, I.ok.hd, I.ok.frames, I.ok.stk, I.ok.exf, I.ok.bs, I.ok.bsz, I.ok.noex, I.ok.exfs, I.ok.funs, I.ok.frf⟩,
    I.os, I.bare, I.base, I.loc, I.cell, I.free, I.freeC, fun p hp => I.pin p (by simpa using hp), I.hok, I.len⟩
theorem Inv.insuite (I : Inv X pins σ H s) (a : Addr) : Inv (X.suite pins a) [] σ H s :=
  ⟨⟨I.ok.mod, I.ok.kind, I.ok.glob, I.ok.blt, I.ok.above, I.ok.inj, I.ok.has, I.ok.cab, fun z => (Bool.noConfusion z), I.ok.frames, I.ok.stk, I.ok.exf, I.ok.bs, I.ok.bsz, I.ok.noex, I.ok.exfs, I.ok.funs, I.ok.frf⟩,
    I.os, I.bare, I.base, I.loc, I.cell, I.free, I.freeC, fun p hp => I.pin p (by simpa using hp), I.hok, I.len⟩
theorem Inv.outsuite {a : Addr} (ok : X.Ok) (I : Inv (X.suite pins a) [] σ H s) : Inv X pins σ H s :=
  ⟨ok, I.os, I.bare, I.base, I.loc, I.cell, I.free, I.freeC, fun p hp => I.pin p (by simpa using hp), I.hok, I.len⟩
/-- a name that goes -/
theorem Inv.unbound {n : Str} {i : Nat} {h' : Heap} {m : Str → Option Value} {v : Option Value} {t' : Nat} (I : Inv X pins σ H s) (hi : X.N[i]? = some n) (hN : X.N.Nodup)
    (hm : ∀ (j : Nat) (x : Str) (v : V), X.N[j]? = some x → σ[j]? = some (some v) → Vis X.env.scope x → ∃ u, RelV v u ∧ Look X.env s.heap m x u)
    (hn : h'.Ns X.env.locals (fun x => if x = n then v else m x)) (hs : Heap.SameBut X.env.locals s.heap h') : Inv X pins (σ.set i none) H { s with heap := h', toks := t' } := by
  obtain ⟨m0, hn0, _⟩ := id I.loc
  obtain ⟨oL, _, _, hoL, _⟩ := id hn0
  have cne := I.cne
  have low : ∀ b o, X.s₀.heap.get? b = some o → b ≠ X.env.locals := fun b o e => Nat.ne_of_lt (Nat.lt_of_lt_of_le (Heap.lt_size e) I.ok.above)
  refine ⟨I.ok, I.os, I.bare, ⟨fun b o e n hb hx => ?_, fun b o e n hb hx => ?_, I.base.free, fun b o e hx => ?_, I.base.tups, I.base.frzs, I.base.tbls⟩, ⟨_, hn, fun j y v' e1 e2 e3 => ?_⟩, fun y c e => ?_, I.free, I.freeC, fun p hp => ?_, fun b ob e => ?_, by simpa using I.len⟩
  · exact (hs.2 b (low b o e)).trans (I.base.keep b o e n hb hx)
  · obtain ⟨sl, e1⟩ := I.base.slot b o e n hb hx
    exact ⟨sl, (hs.2 b (low b o e)).trans e1⟩
  · obtain ⟨o', e1⟩ := I.base.there b o e hx
    exact ⟨o', (hs.2 b (low b o e)).trans e1⟩
  · by_cases hj : j = i
    · subst hj
      rw [List.getElem?_set] at e2
      simp at e2
    · rw [List.getElem?_set_ne (Ne.symm hj)] at e2
      obtain ⟨u', r', q⟩ := hm j y v' e1 e2 e3
      refine ⟨u', r', ?_⟩
      rcases q with ⟨k, e⟩ | ⟨k, c, e, z⟩
      · refine .inl ⟨k, ?_⟩
        have : y ≠ n := fun e => hj (nodup_ix hN e1 (e ▸ hi))
        simp [this, e]
      · exact .inr ⟨k, c, e, z.sameBut hs (cne y c e)⟩
  · obtain ⟨w', z⟩ := I.cell y c e
    exact ⟨w', z.sameBut hs (cne y c e)⟩
  · obtain ⟨e, n, ne, nf, d⟩ := I.pin p hp
    exact ⟨(hs.2 p.1 ne).trans e, n, ne, nf, d⟩
  · refine (I.hok b ob e).stay (fun c w' hc q => (hs.2 c ?_).trans q) (fun _ q => q) fun _ _ q => q
    rintro rfl
    rcases hc with rfl | hc
    · rw [I.free] at e; cases e
    · rw [I.free] at hc; cases hc
/-- the exception is tracked from here on -/
theorem un_track {fs : List Addr} {h0 h : Heap} {a : Addr} {o : HO} (u : Un fs [] H H' h0 h) (n0 : h0.get? a = none) (na : H' a = none) : Un fs [] H (upd H' a o) h0 h where
  keep := u.keep
  slot := u.slot
  free := fun b ob q n hx => by
    have : b ≠ a := fun z => by rw [z, n0] at q; cases q
    rw [upd_ne this]
    exact u.free b ob q n hx
  there := u.there
  tups := fun b xs e => by
    have q := u.tups b xs e
    rw [upd_ne (ne_of_none q na)]
    exact q
  frzs := fun b o' w' e => by
    have q := u.frzs b o' w' e
    rw [upd_ne (ne_of_none q na)]
    exact q
  tbls := fun b ps e => by
    obtain ⟨mo, q⟩ := u.tbls b ps e
    exact ⟨mo, by rw [upd_ne (ne_of_none q na)]; exact q⟩
theorem hok_track {P : Program} {w : World} {h : Heap} {a : Addr} {o : HO} (k : HOk P w H h) (na : H a = none) (new : ObjOk P w (upd H a o) h a o) : HOk P w (upd H a o) h := fun b u e => by
  by_cases hb : b = a
  · subst hb; rw [upd_same] at e; cases e; exact new
  · rw [upd_ne hb] at e
    exact (k b u e).stay (fun c v _ q => q) (fun c q => by rw [upd_ne (ne_of_none q na)]; exact q) fun c xs q => by rw [upd_ne (ne_of_none q na)]; exact q
theorem CXat.caught {a : Addr} {cls : Value} {dx : Option Addr} {st : XSt} (I : Inv X pins σ H s) (c : CXat X.prog X.w X.stack H s a H' cls dx st s') : Inv X pins σ (upd H' a (excO a cls dx)) s' := by
  obtain ⟨⟨oe, vs, he, hc, hd, hda, hz, _⟩, n0, na⟩ := c.xo
  refine I.call' c.os (un_track c.un n0 na) (hok_track c.hok na (excB_ok he hc hd hda hz.2 fun z => nomatch z)) c.bare fun b z => absurd z (by simp)
end
section
variable {X : Cx} {body : List Stmt} {h₀ : ExceptHandler} {hs : List ExceptHandler} {pos : Pos} {th : TH}
def tTry (tb : (St → XK) → TS) (th : TH) : TS := fun D σ H => tb (fun σ' cls dx H' => ∀ a, H' a = none → th D σ' cls dx H' a) D σ H
theorem SP.untried {pins : List (Addr × Obj)} {E : Value → Shared → Prop} {D : Ends} {f : Flow} {s' : Shared} (h : SP ((X.tried pins).wish E) [] D f s') : SP X pins D f s' := by
  cases f with
  | next => obtain ⟨σ', H', I, q⟩ := h; exact ⟨σ', H', I.unwish.untried, q⟩
  | brk => obtain ⟨σ', H', I, q⟩ := h; exact ⟨σ', H', I.unwish.untried, q⟩
  | cont => obtain ⟨σ', H', I, q⟩ := h; exact ⟨σ', H', I.unwish.untried, q⟩
  | ret u => obtain ⟨v, σ', H', I, r, q⟩ := h; exact ⟨v, σ', H', I.unwish.untried, r, q⟩
theorem ps_try {tb : (St → XK) → TS} (hstk : X.stack = X.env :: X.outer) (hfm : X.env.frame = some X.env.locals)
    (hb : ∀ (pins : List (Addr × Obj)) (E : St → XK), PSs ((X.tried pins).wish (XS (X.tried pins) E)) body (tb E)) (hh : PH X (h₀ :: hs) th) : PS X (.Try body (h₀ :: hs) [] [] pos) (tTry tb th) := by
  intro pins s σ H D I h
  refine wpAny_Try_except ?_
  refine wpAny_mono (hb pins _ [] s σ H D (I.tried.wish _) h) (fun f s1 q => ?_) fun e s1 hx => ?_
  · have q := q.untried
    cases f with
    | next => exact wpAny_execs_nil q
    | brk => exact q
    | cont => exact q
    | ret u => exact q
  · obtain ⟨σ', H0, s0, I0, a, H', cls, dx, st, rfl, c, hE⟩ := hx
    have c' : CXat X.prog X.w (X.env :: X.outer) H0 s0 a H' cls dx st s1 := hstk ▸ c
    have J := I0.untried
    have fr : X.A.frames = some (X.env :: X.outer) := by rw [← hstk]; exact J.ok.frames
    have st1 : s0.heap.FunFrames X.base (X.env :: X.outer) := by rw [← hstk]; exact J.stack
    have sf : ∀ b ∈ frs (X.env :: X.outer), H0 b = none := by rw [← hstk]; exact J.stkFree
    refine c'.note fr hfm st1 sf fun s2 c2 => ?_
    refine c2.flight st1 sf fun s3 c3 => ?_
    exact hh pins σ' H0 s0 D a H' cls _ dx s3 J (hstk ▸ c3) (hE a c3.xo.fr.2)
theorem ph_nil : PH X [] (fun _ _ _ _ _ _ => False) := fun _ _ _ _ _ _ _ _ _ _ _ _ _ h => h.elim
end
/-- what an except clause asks of its class -/
structure XT (K : PySem.W.Frag) (C : Addr) : Prop where
  ty : PySem.W.typeIn K (.ref C) = some (.type "type")
  cl : (PySem.W.clsIn K C).isSome = true
  ex : PySem.W.subIn K (.ref C) (.type "BaseException") = some true
theorem looks_isType {K : PySem.W.Frag} {M : Model} {h : Heap} {C : Addr} (X : K.In h) (e : (PySem.W.clsIn K C).isSome = true) : PySem.W.Looks M h (isType (.ref C)) true := by
  unfold PySem.W.clsIn at e
  split at e
  · rename_i ho
    intro A' Q' E' s' k q
    unfold isType loadHead
    exact wpAny_bind (wpAny_loadPart (k _ _ (X _ _ ho)) (wpAny_pure q))
  · cases e
end L2
set_option Elab.async false
set_option linter.all false
set_option maxRecDepth 100000
namespace L2
open PySem PySem.Spec PyProof.Rows XH
structure XG (K : PySem.W.Frag) (C : Addr) : Prop where
  ga : PySem.W.findIn K (.ref C) "__getattribute__" = some (some (.builtin "BaseException.__getattribute__"))
  gt : PySem.W.findIn K (.ref C) "__getattr__" = some none
  be : PySem.W.mroIn K C (.type "BaseException") = some true
section
variable {prog : Program} {w : World} {A : Around} {E : Value → Shared → Prop} {K : PySem.W.Frag} {h : Heap} {g : Array GenState} {d : Drawn} {t : Nat} {os : OsState} {x C : Addr} {ox : Obj} {od : Option Obj} {name : Str}
open PySem.W in
theorem exc_check {nameV : Value} {Q : Unit → Shared → Prop} (X : K.In h) (I : InstAt h x ox C od) (G : XG K C) (hq : Q () ⟨h, g, d, t, os⟩) :
    wpAny (model prog w) A (checkBuiltinCall "BaseException.__getattribute__" ⟨[.ref x, nameV], []⟩) Q E ⟨h, g, d, t, os⟩ := by
  have hk : builtinKind "BaseException.__getattribute__" = some .slot := by decide +kernel
  have hs : splitId "BaseException.__getattribute__" = some ("BaseException", "__getattribute__") := by decide +kernel
  have l0 := I.type (M := model prog w)
  have l1 := looks_mroIn (M := model prog w) X G.be
  have ha := F.args_bexc_ga (.ref x) nameV
  have l2 : Looks (model prog w) h (isInstance (.ref x) (.type "BaseException")) true := l0.andThen l1
  simp only [checkBuiltinCall, hk, hs]
  refine wpAny_bind ?_
  unfold isInstance
  have hx := I.at_
  have hc := I.cls
  repeat (first | (with_reducible refine wpAny_loadPart_at hx ?_; rw [hc]) | with_reducible refine l1.at ?_ | wp_step)
  exact hq
open PySem.W in
theorem exc_entry_bind {tk : Tok} {gv a : Value} {Q : Fin → Shared → Prop} (X : K.In h) (I : InstAt h x ox C od) (hf : findObj K C od name = some (.bind gv a))
    (hq : wpAny (model prog w) A (call gv [a, .ref x, .ref C]) (fun v s' => Q (.done (.ret v)) s') E ⟨h, g, d, t, os⟩) :
    wpAny (model prog w) A (Builtin.«object.__getattribute__» ⟨[.ref x, .str name tk], []⟩) Q E ⟨h, g, d, t, os⟩ := by
  have l0 := I.type (M := model prog w)
  have l1 := looks_find (M := model prog w) X I hf
  unfold Builtin.«object.__getattribute__»
  refine wpAny_bind (wpAny_pure (wpAny_bind (wpAny_pure (wpAny_bind (l0.at (wpAny_bind (l1.at ?_)))))))
  show wpAny _ _ (holding [a] (call gv [a, .ref x, .ref C]) >>= ret) _ _ _
  exact wpAny_bind (wpAny_holding (wpAny_mono hq (fun v s' z => wpAny_pure z) fun _ _ z => z))
open PySem.W in
theorem exc_by {tk : Tok} {fill expr : Bool} {Q : Value → Shared → Prop} (X : K.In h) (I : InstAt h x ox C od) (G : XG K C)
    (hq : ∀ A' : Around, wpAny (model prog w) A' (Builtin.«object.__getattribute__» ⟨[.ref x, .str name tk], []⟩) (fun fin s' => match fin with | .done (.ret v) => wpAny (model prog w) A (handedOut v) Q E s' | _ => False) (fun _ _ => False) ⟨h, g, d, t, os⟩) :
    wpAny (model prog w) A (getAttrBy (.ref x) (.str name tk) fill expr) Q E ⟨h, g, d, t, os⟩ := by
  have l0 := I.type (M := model prog w)
  have l1 := looks_findIn (M := model prog w) X G.ga
  have l2 := looks_findIn (M := model prog w) X G.gt
  have fb := F.attrBase_ValueError
  have f3 := fb.ga.bind (.ref x)
  unfold getAttrBy
  refine wpAny_holding (wpAny_bind (l0.at (wpAny_bind (l1.at ?_))))
  have hx2 : (Value.builtin "BaseException.__getattribute__" == Value.builtin "object.__getattribute__") = false := by decide +kernel
  simp only [hx2, Bool.and_false, Bool.false_eq_true, if_false]
  unfold getAttrByItsOwn hookBefore
  refine wpAny_bind ?_
  rw [if_pos (show onTheHeap (.ref C) = true from rfl)]
  refine l2.at ?_
  refine wpAny_bind (wpAny_attempt (wpAny_holding ?_))
  unfold callGetattribute
  rw [if_neg (by cases expr <;> exact Bool.false_ne_true)]
  unfold boundAndCalled
  refine wpAny_bind (wpAny_of_eq f3 ?_)
  refine wpAny_call (codeAny_call_builtin fb.ga.plain F.entry_bexc_ga (exc_check X I G (wpAny_mono (hq _) (fun fin s' z => ?_) fun _ _ z => z.elim)))
  rcases fin with (_ | _ | _ | _) | _ <;> first | exact z.elim | exact z
end
end L2
set_option Elab.async false
set_option linter.all false
set_option maxRecDepth 100000
namespace L2
open PySem PySem.Spec PyProof.Rows XH
section
variable {prog : Program} {w : World} {A : Around} {E : Value → Shared → Prop} {K : PySem.W.Frag}
theorem matches_ok {h : Heap} {g : Array GenState} {d : Drawn} {t : Nat} {os : OsState} {e C C' : Addr} {oe : Obj} {b : Bool} {Q : Bool → Shared → Prop} (KX : K.In h) (he : h.get? e = some oe) (hc : oe.cls = .ref C) (T : XT K C')
    (hsub : PySem.W.subIn K (.ref C) (.ref C') = some b) (hq : Q b ⟨h, g, d, t, os⟩) : wpAny (model prog w) A (excMatches (.ref e) (.ref C')) Q E ⟨h, g, d, t, os⟩ := by
  have l1 := PySem.W.looks_typeIn (M := model prog w) KX T.ty
  have l2 := PySem.W.looks_subIn (M := model prog w) KX T.ex
  have l3 := PySem.W.looks_subIn (M := model prog w) KX hsub
  have l4 := looks_isType (M := model prog w) KX T.cl
  have l5 : PySem.W.Looks (model prog w) h (isInstance (.ref C') (.type "tuple")) false := l1.andThen (PySem.W.Looks.of_pure tc_notTuple)
  have l6 : PySem.W.Looks (model prog w) h (isExcClass (.ref C')) true := by
    unfold isExcClass
    refine l4.andThen ?_
    exact l2
  unfold excMatches
  repeat (first | with_reducible refine wpAny_bind (l5.at ?_) | with_reducible refine wpAny_bind (l6.at ?_) | with_reducible refine wpAny_bind (l3.at ?_) | (with_reducible refine wpAny_loadPart_at he ?_; rw [hc]) | wp_step)
  cases b <;> (wp_walk; exact hq)
end
/-- a name that goes behind its suite -/
def offE (i : Nat) (D : Ends) : Ends := { nx := fun σ H => D.nx (σ.set i none) H, rt := D.rt, bk := fun σ H => D.bk (σ.set i none) H, ct := fun σ H => D.ct (σ.set i none) H }
section
variable {X : Cx} {x n : Str} {np pos : Pos} {b0 : Stmt} {suite : List Stmt} {rest : List ExceptHandler} {i : Nat} {C' : Addr} {t : TS} {th : TH}
theorem gone_ok {pins : List (Addr × Obj)} {a : Addr} {D : Ends} {f : Flow} {s : Shared} {M : Model} {A : Around} {E : Value → Shared → Prop} (ok : X.Ok) (hN : X.N.Nodup) (hi : X.N[i]? = some n) (hloc : X.env.scope.names.lookup n = some .local)
    (q : SP (X.suite pins a) [] (offE i D) f s) : wpAny M A (do bindName X.env n .none; unbindBehindTheSuite X.env n pos) (fun _ s' => SP X pins D f s') E s := by
  have hcls : (X.env.scope.kind == .class || (X.env.scope.kind == .module && X.env.locals != X.env.globals)) = false := by rw [ok.kind]; rfl
  cases f with
  | next =>
    obtain ⟨σ, H, I, q⟩ := q
    have J := I.outsuite ok
    obtain ⟨m, hn, hl⟩ := id J.loc
    exact wpAny_nameGoes_keeps hloc hn hcls fun h' v hn' hs => ⟨_, H, J.unbound hi hN hl hn' hs, q⟩
  | brk =>
    obtain ⟨σ, H, I, q⟩ := q
    have J := I.outsuite ok
    obtain ⟨m, hn, hl⟩ := id J.loc
    exact wpAny_nameGoes_keeps hloc hn hcls fun h' v hn' hs => ⟨_, H, J.unbound hi hN hl hn' hs, q⟩
  | cont =>
    obtain ⟨σ, H, I, q⟩ := q
    have J := I.outsuite ok
    obtain ⟨m, hn, hl⟩ := id J.loc
    exact wpAny_nameGoes_keeps hloc hn hcls fun h' v hn' hs => ⟨_, H, J.unbound hi hN hl hn' hs, q⟩
  | ret u =>
    obtain ⟨v, σ, H, I, r, q⟩ := q
    have J := I.outsuite ok
    obtain ⟨m, hn, hl⟩ := id J.loc
    exact wpAny_nameGoes_keeps hloc hn hcls fun h' v' hn' hs => ⟨v, _, H, J.unbound hi hN hl hn' hs, r, q⟩
/-- an exception that passes a loop of this body -/
theorem own_XS {E : St → XK} (hstk : X.stack = X.env :: X.outer) (hfm : X.env.frame = some X.env.locals) : PassesOwn (model X.prog X.w) X.A X.env (XS X E) := by
  intro e s1 hx
  obtain ⟨σ', H0, s0, J, a, H', cls, dx, st, rfl, c, hE⟩ := hx
  have c' : CXat X.prog X.w (X.env :: X.outer) H0 s0 a H' cls dx st s1 := hstk ▸ c
  have fr : X.A.frames = some (X.env :: X.outer) := by rw [← hstk]; exact J.ok.frames
  have st1 : s0.heap.FunFrames X.base (X.env :: X.outer) := by rw [← hstk]; exact J.stack
  have sf : ∀ b ∈ frs (X.env :: X.outer), H0 b = none := by rw [← hstk]; exact J.stkFree
  unfold notedBy
  refine c'.note fr hfm st1 sf fun s2 c2 => ?_
  unfold cameBackBy
  obtain ⟨oe, vs, he, _, _, hd, _, T, _, _, h1, _⟩ := c2.xo.ex
  apply wpAny_bind
  apply wpAny_field he hd h1
  rw [if_neg (by simp)]
  refine c2.flight st1 sf fun s3 c3 => ?_
  exact ⟨σ', H0, s0, J, a, H', cls, dx, _, rfl, hstk ▸ c3, hE⟩
end
/-! ### raise -/
def bmV : List Value := [.type "ValueError", .type "Exception", .type "BaseException", .type "object"]
theorem exc_of {K : PySem.W.Frag} {h : Heap} {C : Addr} {bmB : List Value} {nw : String} (X : K.In h) (q : PySem.W.excIn K C bmB nw = true) :
    ∃ bm N nm qn bs hdct sn sub ab col dd k0 k1 k2 k3 k5 mN, h.get? C = some (excClassObj nm qn C N bs bm hdct sn sub ab col dd k0 k1 k2 k3 k5 nw) ∧ h.Ns N mN ∧ mN "__init__" = none ∧ OwnTail h bmB bm := by
  unfold PySem.W.excIn at q
  split at q
  · rename_i dd cd sl ho
    split at q
    · rename_i C' bm k0 k1 k2 k3 n k5 hm hs
      simp only [Bool.and_eq_true, beq_iff_eq, Bool.not_eq_true'] at q
      obtain ⟨⟨⟨⟨⟨e1, e2⟩, hdel⟩, ht⟩, hok⟩, hni⟩ := q
      subst e1 e2
      obtain ⟨nm, bs, mro, ns, qn, hd, sn, sub, ab, col, del⟩ := cd
      dsimp only at hm hdel hok hni
      subst hm hdel
      obtain ⟨l⟩ := sl
      have hl : l = [k0, k1, k2, k3, some (.builtin n), k5] := hs
      subst hl
      exact ⟨bm, ns, nm, qn, bs, hd, sn, sub, ab, col, dd, k0, k1, k2, k3, k5, _, X _ _ ho, .of_isNs (PySem.W.isNs_of_in X hok), PySem.W.nsMap_none_of_in X hok hni, PySem.W.tail_of_in X ht⟩
    · cases q
  · cases q
def tRaise (C : Addr) (E : St → XK) (t : TA) : TS := fun _ σ H => t σ H fun vs H1 => vs.length ≤ sizeLine ∧ E σ (.ref C) none H1
section
variable {X : Cx} {x : Str} {np cpos pos : Pos} {e₀ : Expr} {rest : List Expr} {C : Addr} {t : TA} {E : St → XK}
theorem made_cx {pins : List (Addr × Obj)} {σ : St} {H : Hp} {s : Shared} {h' : Heap} {e : Addr} {us : List Value} (I : Inv X pins σ H s) (mk : Heap.MadeExcOf s.heap h' e (.ref C) us) : CXat X.prog X.w X.stack H s e H (.ref C) none .new { s with heap := h' } := by
  obtain ⟨t, ht, _, _⟩ := mk.there
  exact ⟨rfl, I.bare, Un.kept mk.keeps, I.hok.kept mk.keeps, ⟨⟨_, _, ht, rfl, rfl, rfl, ⟨by show 1 < 6; decide, rfl⟩, rfl⟩, mk.new, I.hok.none_of mk.new⟩⟩
theorem ps_raise (q : PySem.W.excIn X.K C bmV "ValueError.__new__" = true) (hg : Gl X x) (hm : X.mg x = some (.ref C)) (hc : X.calm = true) (hp : PassX X E) (ha : PA X (e₀ :: rest) t) (hd : (x == ("__debug__" : Str)) = false := by decide)
    (he : starEach (e₀ :: rest) X.env = (false, eval e₀ X.env) :: starEach rest X.env := by rfl) (hpl : (backTo cpos (starEach rest X.env)).any (·.1) = false := by rfl) :
    PS X (.Raise (some (.Call (.Name x np) (e₀ :: rest) [] cpos)) none pos) (tRaise C E t) := by
  intro pins s σ H D I h
  obtain ⟨bm, N, nm, qn, bs, hdct, sn, sub, ab, col, dd, k0, k1, k2, k3, k5, mN, hC, hN, hni, TL⟩ := exc_of I.ok.mod.kin q
  have F := PySem.F.excBase_ValueError
  have W := ha cpos pins s σ H _ I h
  refine wpAny_Raise_call_subT (C := C) (nm := nm) (q := qn) (N := N) (bs := bs) (bm := bm) (hdct := hdct) (sn := sn) (sub := sub) (ab := ab) (col := col) (dd := dd) (k0 := k0) (k1 := k1) (k2 := k2) (k3 := k3) (k5 := k5) (mN := mN)
    F (TL.hasType F.hasBase) (I.ok.hd hc) (by rw [he]; exact hpl) hni (ld_glob I hg hm ⟨rfl, ?_⟩ hd)
  rw [he] at W ⊢
  refine Calls.evalArgs_plain (thn W fun us s2 ⟨vs, H1, I1, r, hl, z⟩ => ⟨rfl, by rw [← r.length]; exact hl, I1.bk _ _ hC, hN.keeps I1.bk, TL.keeps I1.bk, fun h' e mk => ?_⟩)
  exact hp pins σ H1 s2 _ _ I1 ⟨e, H1, .ref C, none, .new, rfl, made_cx I1 mk, z⟩
end
/-! ### isinstance of an exception -/
structure XI (K : PySem.W.Frag) (C : Addr) : Prop where
  gg : XG K C
  cl : (PySem.W.clsIn K C).isSome = true
  at_ : PySem.W.findIn K (.ref C) "__class__" = some (some (.builtin "object.__class__"))
  gt : PySem.W.specialIn K (.builtin "object.__class__") "__get__" = some (some (.builtin "getset_descriptor.__get__"))
  tk : PySem.W.takesIn K (.builtin "object.__class__") = some true
  ob : PySem.W.mroIn K C (.type "object") = some true
theorem findObj_cls {K : PySem.W.Frag} {C : Addr} {od : Option Obj} (x : XI K C) : PySem.W.findObj K C od "__class__" = some (.bind (.builtin "getset_descriptor.__get__") (.builtin "object.__class__")) := by
  obtain ⟨cd, hc⟩ := Option.isSome_iff_exists.mp x.cl
  unfold PySem.W.findObj
  rw [hc, Option.bind_some, x.at_, Option.bind_some]
  simp [x.gt, x.tk]
theorem kitx_exc {K : PySem.W.Frag} {a C : Addr} (x : XI K C) : PySem.W.KitX K (.ref a) (.ref C) (fun h => ∃ ox od, PySem.W.InstAt h a ox C od) where
  ty := fun _ _ _ ⟨_, _, I⟩ => I.type
  it := fun _ _ X _ => looks_isType X x.cl
  ne := fun h tp dd its n sl X htp => by
    refine Bool.eq_false_iff.mpr fun q => ?_
    have e : C = tp := Value.ref.inj (beq_iff_eq.mp q)
    subst e
    have c := x.cl
    unfold PySem.W.clsIn at c
    split at c
    · rename_i ho
      have z := (X _ _ ho).symm.trans htp
      cases z
    · cases c
  ca := fun {_ _ _ _ _ s} X I k => by
    obtain ⟨ox, od, I⟩ := I
    obtain ⟨hh, g, d, t, os⟩ := s
    unfold getAttr? getAttrBy?
    refine wpAny_bind (wpAny_mkText (wpAny_bind (wpAny_attempt (exc_by (h := hh) X I x.gg fun A' => exc_entry_bind X I (findObj_cls x) ?_))))
    exact wpAny_call (PySem.W.class_get (s := ⟨hh, g, d, t + 1, os⟩) (ox := ox) (od := od) X I x.ob (PySem.W.handed_on rfl (wpAny_pure k)))
def XDict (H : Hp) (dx : Option Addr) : Prop := match dx with
  | none => True
  | some d => ∃ fs, H d = some (.xd fs)
theorem inst_of {X : Cx} {pins : List (Addr × Obj)} {σ : St} {H : Hp} {s : Shared} {a C : Addr} {n : Bool} {dx : Option Addr} (I : Inv X pins σ H s) (e : H a = some (excB n a (.ref C) dx)) (d : XDict H dx) : ∃ ox od, PySem.W.InstAt s.heap a ox C od := by
  obtain ⟨⟨ox, vs, h1, h2, h3, h4, _⟩, _⟩ := (show ObjOk X.prog X.w H s.heap a (excB n a (.ref C) dx) from I.hok a _ e)
  have nc : PySem.W.notCls ox = true := by unfold PySem.W.notCls; rw [h4]
  cases dx with
  | none => exact ⟨ox, none, h1, h2, nc, by rw [h3]; trivial⟩
  | some d' =>
    obtain ⟨fs, hd⟩ := d
    obtain ⟨mA, ⟨o, es, ep, e', _⟩, _⟩ := (show ObjOk X.prog X.w H s.heap d' (.xd fs) from I.hok d' _ hd)
    exact ⟨ox, some o, h1, h2, nc, by rw [h3]; exact e'⟩
/-- the answer for a class of the text, for one of Python's own -/
inductive XIs (K : PySem.W.Frag) (C : Addr) : V → Bool → Prop where
  | own {D : Addr} {b : Bool} (h : PySem.W.kitOne K (.ref C) (.ref D) = some b) : XIs K C (.ref D) b
  | ty {T : String} {b : Bool} (h : PySem.W.kitOne K (.ref C) (.type T) = some b) : XIs K C (.ty T) b
theorem call_isiX {X : Cx} {K : PySem.W.Frag} (hK : X.K = K) : CallR X (.builtin "isinstance") (fun xs H Q => ∃ a C dx c b, xs = [.ref a, c] ∧ (∃ n, H a = some (excB n a (.ref C) dx)) ∧ XDict H dx ∧ XI K C ∧ XIs K C c b ∧ Q (.bl b) H) := by
  subst hK
  intro pins s σ H xs us Q I r h
  obtain ⟨a, C, dx, c, b, rfl, ⟨n, e⟩, d, xi, xs, q⟩ := h
  obtain ⟨u, w', rfl, e1, e2⟩ := vals2 r
  cases e1
  cases xs with
  | own h =>
    cases e2
    exact PySem.W.kia_one (kitx_exc xi) I.kIn (inst_of I e d) h (fun z => nomatch z) fun tk => ⟨.bl b, H, I.tok tk, rfl, q⟩
  | ty h =>
    cases e2
    exact PySem.W.kia_one (kitx_exc xi) I.kIn (inst_of I e d) h (fun z => nomatch z) fun tk => ⟨.bl b, H, I.tok tk, rfl, q⟩
end L2
set_option Elab.async false
set_option linter.all false
set_option maxRecDepth 100000
namespace L2
open PySem PySem.Spec PyProof.Rows XH
/-! ### list comprehensions -/
abbrev Cx.block (X : Cx) (scope : Scope) (cl : List (Str × Addr)) (C : Addr) (N : List Str) (own : Str) (fp : List Addr) (s : Shared) (H : Hp) : Cx :=
  { X with env := compEnvC scope cl C X.env, N := N, s₀ := s, H₀ := H, outer := X.stack, stack := X.stack, ex := fp, fn := fun y => y == own, pn := [], xe := fun _ _ => False }
/-- what a comprehension's scope must have; ys: the names it takes from around, at the slots js there -/
structure CompOk (X : Cx) (scope : Scope) (cl : List (Str × Addr)) (own : Str) (ys : List Str) (js : List Nat) : Prop where
  clos : closureFor scope X.env = pure cl
  nocell : (scope.names.all fun p => !(p.2 == .cell)) = true
  kind : scope.kind = .function
  loc : (scope.names.all fun p => !(p.2 == .local) || scope.names.lookup p.1 == some .local) = true
  ownL : scope.names.lookup own = some .local
  sub : ∀ p ∈ cl, X.env.cells.lookup p.1 = some p.2
  has : ((relabel scope X.env).names.all fun p => !(p.2 == .cell || p.2 == .free) || (cl.lookup p.1).isSome) = true
  noown : cl.lookup own = none
  nd : (own :: ys).Nodup
  at_ : ∀ (i : Nat) (y : Str), ys[i]? = some y → ∃ j : Nat, js[i]? = some j ∧ X.N[j]? = some y ∧ (X.env.scope.names.lookup y = some .cell ∨ X.env.scope.names.lookup y = some .free) ∧ ((relabel scope X.env).names.lookup y = some .cell ∨ (relabel scope X.env).names.lookup y = some .free)
  len : js.length = ys.length
def freesOf (js : List Nat) (σ : St) : St := js.map fun j => (σ[j]?).getD none
def compR (js : List Nat) (te : TE) (σ : St) (Q : VK) : It → Hp → Prop := fun J H1 => ∀ p, H1 p = none → ∃ W : Nat → Nat → List V → Hp → Prop, (∃ m, W 0 m [] (upd H1 p (.lst []))) ∧
  ∀ i m ys H2, W i m ys H2 → H2 p = some (.lst ys) ∧ ((J.stop i H2 ∧ Q (.ref p) H2) ∨ (J.go i H2 ∧ ys.length < sizeLine ∧ ∀ x H3, J.yld i H2 x H3 → te (some x :: freesOf js σ) H3 fun y H4 => H4 p = some (.lst ys) ∧ ∃ m', m' < m ∧ W (i + 1) m' (ys ++ [y]) (upd H4 p (.lst (ys ++ [y])))))
def tComp (wi : TI) (js : List Nat) (te : TE) : TE := fun σ H Q => wi σ H (compR js te σ Q)
theorem lookup_all {α : Type} {f : Str × α → Bool} {x : Str} {a : α} : ∀ {l : List (Str × α)}, l.all f = true → l.lookup x = some a → f (x, a) = true := by
  intro l h e
  exact List.all_eq_true.mp h _ (PySem.mem_of_lookup e)
section
variable {prog : Program} {w : World} {A : Around} {R : Result → Shared → Prop} {s : Shared}
theorem compLoop_own {elt target iter : Expr} {scope : Scope} {pos : Pos} {it acc : Value} {env : Env} (I : Nat → Shared → Prop)
    (turn : ∀ n s, I n s → wpAny (model prog w) A (pyNext it) (fun r s1 => match r with
      | none => R (.ok .next) s1
      | some v => wpAny (model prog w) A (letOwnedTupleGo target it v) (fun _ s2 => wpAny (model prog w) A (assign target env v) (fun _ s3 => wpAny (model prog w) A (eval elt env) (fun x s4 =>
          wpAny (model prog w) A (call (.builtin "list.append") [acc, x]) (fun _ s5 => ∃ m, m < n ∧ I m s5) (fun _ _ => False) s4) (fun _ _ => False) s3) (fun _ _ => False) s2) (fun _ _ => False) s1) (fun _ _ => False) s)
    (n : Nat) (h : I n s) : codeAny (model prog w) A (.compLoop (.ListComp elt [⟨target, iter, [], 0⟩] scope pos) 0 it acc env) R s := by
  apply codeAny_loop rfl I ?_ n h
  intro n s hI
  show wpAny _ _ ((compTurn (.ListComp elt [⟨target, iter, [], 0⟩] scope pos) 0 it acc env).onRaise _) _ _ s
  apply wpAny_noted
  rw [compTurn_list1]
  apply wpAny_bind
  apply wpAny_standAt
  apply wpAny_bind
  refine wpAny_mono (turn n s hI) (fun r s1 h1 => ?_) fun _ _ z => z.elim
  cases r with
  | none => exact wpAny_pure h1
  | some v =>
    apply wpAny_bind
    refine wpAny_mono h1 (fun _ s2 h2 => ?_) fun _ _ z => z.elim
    apply wpAny_bind
    refine wpAny_mono h2 (fun _ s3 h3 => ?_) fun _ _ z => z.elim
    apply wpAny_bind
    apply wpAny_bind
    refine wpAny_mono h3 (fun x s4 h4 => ?_) fun _ _ z => z.elim
    apply wpAny_bind
    refine wpAny_mono h4 (fun _ s5 h5 => ?_) fun _ _ z => z.elim
    exact wpAny_pure (wpAny_pure ⟨rfl, h5⟩)
end
section
variable {X : Cx} {scope : Scope} {cl : List (Str × Addr)} {own : Str} {ys : List Str} {js : List Nat} {fp : List Addr} {pins : List (Addr × Obj)} {σ : St} {H : Hp} {s s4 : Shared}
theorem block_start {h1 : Heap} (ok : CompOk X scope cl own ys js) (I : Inv X pins σ H s) (hf : ∀ b ∈ fp, FpOk X pins H b) (hlt : ∀ b ∈ fp, b < s.heap.objs.size) (hns : h1.Ns s.heap.objs.size (fun _ => none))
    (hk : ∀ b o, s.heap.get? b = some o → h1.get? b = some o) (tk : Nat) :
    Inv (X.block scope cl s.heap.objs.size (own :: ys) own fp s H) [] (none :: freesOf js σ) H { s with heap := h1, toks := tk } := by
  have sub : ∀ y c, cl.lookup y = some c → X.env.cells.lookup y = some c := fun y c e => ok.sub (y, c) (PySem.mem_of_lookup e)
  refine ⟨⟨I.ok.mod, ok.kind, I.ok.glob, I.ok.blt, Nat.le_refl _, fun x y c e1 e2 => I.ok.inj x y c (sub x c e1) (sub y c e2), fun x hx => ?_, fun x c e1 e2 => ?_, I.ok.hd, I.ok.frames, .inl rfl, fun b hb => ⟨Nat.ne_of_lt (hlt b hb), fun x c e => (hf b hb).2.2.2.2.1 x c (sub x c e)⟩,
    I.bs, Nat.le_trans I.ok.bsz I.sz, fun b o e hb => ?_, fun b hb z => ?_, I.stack, I.stkFree⟩, rfl, I.bare, Un.kept hk, ⟨_, hns, fun i y v e1 e2 e3 => ?_⟩, fun y c e => ?_, I.hok.fresh (Nat.le_refl _), fun y c e => I.freeC y c (sub y c e), fun p hp => absurd (show p ∈ ([] : List (Addr × Obj)) from hp) (by simp), I.hok.kept hk, ?_⟩
  · have hx' : (relabel scope X.env).names.lookup x = some .cell ∨ (relabel scope X.env).names.lookup x = some .free := hx
    rcases hx' with z | z
    · have q := lookup_all ok.has z
      simp only [beq_self_eq_true, Bool.true_or, Bool.not_true, Bool.false_or] at q
      exact Option.isSome_iff_exists.mp q
    · have q := lookup_all ok.has z
      simp only [beq_self_eq_true, Bool.or_true, Bool.not_true, Bool.false_or] at q
      exact Option.isSome_iff_exists.mp q
  · have e1' : (x == own) = true := e1
    have e : x = own := beq_iff_eq.mp e1'
    have e2' : cl.lookup x = some c := e2
    rw [e, ok.noown] at e2'
    cases e2'
  · rcases (hf b hb).2.2.2.1 with z | z
    · exact I.ok.noex b o e z
    · exact absurd (Nat.lt_of_lt_of_le (Heap.lt_size (I.ok.bs b o e).1) z) (Nat.lt_irrefl _)
  · rcases List.mem_cons.mp (I.stkSub b z) with q | q
    · exact (hf b hb).2.1 q
    · exact (hf b hb).2.2.1 q
  · cases i with
    | zero => cases e2
    | succ i =>
      have e1' : ys[i]? = some y := e1
      obtain ⟨j, hj, hN, hX, hc⟩ := ok.at_ i y e1'
      have e2' : (freesOf js σ)[i]? = some (some v) := e2
      unfold freesOf at e2'
      rw [List.getElem?_map, hj] at e2'
      have hs : σ[j]? = some (some v) := by
        cases q : σ[j]? with
        | none => rw [Option.map_some, q] at e2'; cases e2'
        | some o => rw [Option.map_some, q] at e2'; exact e2'
      obtain ⟨m, hn, hl⟩ := I.loc
      obtain ⟨u, r, l⟩ := hl j y v hN hs (hX.elim (fun z => .inr (.inl z)) fun z => .inr (.inr z))
      refine ⟨u, r, .inr ⟨hc, ?_⟩⟩
      rcases l with ⟨k, _⟩ | ⟨k, c, hcl, hcell⟩
      · have k' : X.env.scope.names.lookup y = some .local := k
        rcases hX with z | z <;> (rw [z] at k'; cases k')
      · have ex : ∃ c', cl.lookup y = some c' := by
          rcases hc with z | z
          · have q := lookup_all ok.has z
            simp only [beq_self_eq_true, Bool.true_or, Bool.not_true, Bool.false_or] at q
            exact Option.isSome_iff_exists.mp q
          · have q := lookup_all ok.has z
            simp only [beq_self_eq_true, Bool.or_true, Bool.not_true, Bool.false_or] at q
            exact Option.isSome_iff_exists.mp q
        obtain ⟨c', hc'⟩ := ex
        have e := sub y c' hc'
        rw [hcl] at e
        cases e
        obtain ⟨oc, hoc, hd⟩ := hcell
        exact ⟨c, hc', oc, hk _ _ hoc, hd⟩
  · obtain ⟨v, oc, hoc, hd⟩ := I.cell y c (sub y c e)
    exact ⟨v, oc, hk _ _ hoc, hd⟩
  · show (none :: freesOf js σ).length = (own :: ys).length
    simp [freesOf, ok.len]
theorem block_end {H' : Hp} {h' : Heap} {σ' : St} (I : Inv X pins σ H s) (hf : ∀ b ∈ fp, FpOk X pins H b) (J : Inv (X.block scope cl s.heap.objs.size (own :: ys) own fp s H) [] σ' H' s4) (hs : Heap.SameBut s.heap.objs.size s4.heap h') :
    Inv X pins σ H' { s4 with heap := h' } := by
  have low : ∀ b o, s.heap.get? b = some o → b ≠ s.heap.objs.size := fun b o e => Nat.ne_of_lt (Heap.lt_size e)
  have B := J.base
  have u : Un (frs X.stack) fp H H' s.heap h' := {
    keep := fun b o q n hb hx => (hs.2 b (low b o q)).trans (B.keep b o q n hb hx)
    slot := fun b o q n hb hx => by
      obtain ⟨sl, e⟩ := B.slot b o q n hb hx
      exact ⟨sl, (hs.2 b (low b o q)).trans e⟩
    free := B.free
    there := fun b o q hx => by
      obtain ⟨o', e⟩ := B.there b o q hx
      exact ⟨o', (hs.2 b (low b o q)).trans e⟩
    tups := B.tups
    frzs := B.frzs
    tbls := B.tbls }
  have hn : H' s.heap.objs.size = none := J.free
  have hk : HOk X.prog X.w H' h' := fun a o e => (J.hok a o e).stay (fun b v hb q => (hs.2 b (by
    intro z
    rcases hb with z' | z'
    · rw [← z', z, hn] at e; cases e
    · rw [z, hn] at z'; cases z')).trans q) (fun _ q => q) fun _ _ q => q
  exact I.call' (s' := { s4 with heap := h' }) (ch := fp) J.os u hk J.bare fun b hb => ⟨(hf b hb).2.2.2.1, (hf b hb).2.1, (hf b hb).2.2.2.2.1, (hf b hb).2.2.2.2.2⟩
end
section
variable {X : Cx} {scope : Scope} {cl : List (Str × Addr)} {own : Str} {ys : List Str} {js : List Nat} {elt iter : Expr} {px pos : Pos} {wi : TI} {te : TE}
theorem pe_comp (hc : X.calm = true) (ok : CompOk X scope cl own ys js) (hi : PI X (.Name own px) iter wi)
    (he : ∀ (C : Addr) (fp : List Addr) (s : Shared) (H : Hp), PE (X.block scope cl C (own :: ys) own fp s H) elt te)
    (hs : ∀ x, foldedSetIterable iter X.env x = pure x := by intro _; rfl) : PE X (.ListComp elt [⟨.Name own px, iter, [], 0⟩] scope pos) (tComp wi js te) := by
  intro pins s σ H Q I h
  rw [eval_ListComp]
  have ncell : ∀ y ∈ scope.names, y.2 ≠ .cell := fun y hy z => by
    have q := List.all_eq_true.mp ok.nocell y hy
    rw [z] at q
    simp at q
  have nloc : ∀ y ∈ scope.names, y.2 = .local → scope.names.lookup y.1 = some .local := fun y hy z => by
    have q := List.all_eq_true.mp ok.loc y hy
    rw [z] at q
    simpa using q
  refine wpAny_comprehension_free (use := none) rfl hs ok.clos ok.kind nloc (thn (hi pins s σ H _ I h) fun v s1 h1 => thn h1 fun itv s2 h2 => ?_)
  obtain ⟨it, fp, tn, J, H2, rfl, I2, T, st2, f2, q2⟩ := h2
  obtain ⟨W, ⟨m0, w0⟩, turn⟩ := q2 s2.heap.objs.size (I2.hok.fresh (Nat.le_refl _))
  refine wpAny_newObj_type (wpAny_newFunctionEnv ncell (by intro y hy; simp at hy) (fun h1 hns hsb => ?_) ok.kind)
  have I3 := I2.laid (a := s2.heap.objs.size) (o := .lst []) (h' := s2.heap.push { cls := .type "list", dict := none, data := .seq ([] : List Value).toArray }) (t' := s2.toks) (fun b u q => Heap.get?_push_of_some _ q) (Nat.le_refl _)
    ⟨Nat.zero_le _, [], 0, .nil, Heap.get?_push_size _ rfl⟩
  have fpo : ∀ b ∈ fp, b < s2.heap.objs.size := fun b hb => by
    obtain ⟨o, e, _⟩ := T.obj 0 _ st2 b hb
    exact Heap.lt_size e
  have f3 : ∀ b ∈ fp, FpOk X pins (upd H2 s2.heap.objs.size (.lst [])) b := fun b hb => ⟨by rw [upd_ne (Nat.ne_of_lt (fpo b hb))]; exact (f2 b hb).1, (f2 b hb).2⟩
  generalize hs3 : ({ s2 with heap := s2.heap.push { cls := .type "list", dict := none, data := .seq ([] : List Value).toArray }, toks := s2.toks } : Shared) = s3 at I3
  have e3 : s3.heap = s2.heap.push { cls := .type "list", dict := none, data := .seq ([] : List Value).toArray } := by rw [← hs3]
  have lt3 : ∀ b ∈ fp, b < s3.heap.objs.size := fun b hb => by rw [e3, Heap.size_push]; exact Nat.lt_succ_of_lt (fpo b hb)
  dsimp only at hns hsb ⊢
  rw [← e3] at hns hsb
  have hk : ∀ b o, s3.heap.get? b = some o → h1.get? b = some o := fun b o e => hsb.extBut b o (Nat.ne_of_lt (Heap.lt_size e)) (Heap.get?_push_of_some _ e)
  have J0 := block_start (h1 := h1) ok I3 f3 lt3 hns hk (s2.toks + 0)
  have t0 : tn 0 h1 := T.keep 0 _ _ st2 fun b hb o e => hk b o (by rw [e3]; exact Heap.get?_push_of_some _ e)
  have fpB : ∀ {H' : Hp}, (∀ b ∈ fp, H' b = none) → ∀ b ∈ fp, FpOk (X.block scope cl s3.heap.objs.size (own :: ys) own fp s3 (upd H2 s2.heap.objs.size (.lst []))) [] H' b := fun {H'} hn b hb =>
    ⟨hn b hb, Nat.ne_of_lt (lt3 b hb), fun z => (List.mem_cons.mp (I3.stkSub b z)).elim (f3 b hb).2.1 (f3 b hb).2.2.1, .inl hb, fun x c e => (f3 b hb).2.2.2.2.1 x c (ok.sub (x, c) (PySem.mem_of_lookup e)), fun p hp => absurd (show p ∈ ([] : List (Addr × Obj)) from hp) (by simp)⟩
  have loop : codeAny (model X.prog X.w) X.A (.compLoop (.ListComp elt [⟨.Name own px, iter, [], 0⟩] scope pos) 0 (.ref it) (.ref s2.heap.objs.size) (compEnvC scope cl s3.heap.objs.size X.env))
      (compPost (model X.prog X.w) X.A X.xe none (EP X pins σ Q) (.ref s2.heap.objs.size) s3.heap.objs.size) { s3 with heap := h1, toks := s2.toks + 0 } := by
    refine compLoop_own (fun n s' => ∃ i zs o0 H', Inv (X.block scope cl s3.heap.objs.size (own :: ys) own fp s3 (upd H2 s2.heap.objs.size (.lst []))) [] (o0 :: freesOf js σ) H' s' ∧ tn i s'.heap ∧ (∀ b ∈ fp, H' b = none) ∧ W i n zs H') ?_ m0
      ⟨0, [], none, _, J0, t0, fun b hb => (f3 b hb).1, w0⟩
    rintro n s5 ⟨i, zs, o0, H5, I5, t5, n5, w5⟩
    obtain ⟨hD, hw⟩ := turn i n zs H5 w5
    rcases hw with ⟨stop, qn⟩ | ⟨go, hz, step⟩
    · refine thn (T.done (X.block scope cl s3.heap.objs.size (own :: ys) own fp s3 (upd H2 s2.heap.objs.size (.lst []))) rfl rfl rfl hc i [] s5 _ H5 (fun _ _ => False) I5 (fpB n5) t5 stop) fun r s6 ⟨hr, I6⟩ => ?_
      subst hr
      obtain ⟨m, hn, _⟩ := id I6.loc
      exact ⟨m, hn, fun h' hs' => ⟨V.ref s2.heap.objs.size, H5, block_end I3 f3 I6 hs', rfl, qn⟩⟩
    · refine thn (T.item (X.block scope cl s3.heap.objs.size (own :: ys) own fp s3 (upd H2 s2.heap.objs.size (.lst []))) rfl rfl rfl hc i [] s5 _ H5 (fun _ _ => False) I5 (fpB n5) t5 go) fun r s6 ⟨u, hr, h6⟩ => ?_
      subst hr
      refine thn h6 fun _ s7 ⟨x, H7, I7, r7, y7, t7, n7⟩ => ?_
      have I7' := I7.pinned (fpB n7) (T.obj _ _ t7)
      have hst := step x H7 y7
      have own' : (relabel scope X.env).names.lookup own = some .local := lookup_relabel_local ok.ownL
      refine thn (pg_name (X := X.block scope cl s3.heap.objs.size (own :: ys) own fp s3 (upd H2 s2.heap.objs.size (.lst []))) (i := 0) (x := own) (pos := px) ok.nd rfl (.inl own') (.inr own') _ s7 _ H7 x u (fun σ' H' => σ' = some x :: freesOf js σ ∧ H' = H7) I7' r7 ⟨rfl, rfl⟩) fun _ s8 ⟨σ8, H8, I8, e8, eH8⟩ => ?_
      subst e8 eH8
      refine thn (he _ _ _ _ _ s8 _ H8 _ I8 hst) fun yv s9 ⟨y, H9, I9, r9, hD9, m', hm, w9⟩ => ?_
      refine thn (mt_append _ s9 _ H9 (.ref s2.heap.objs.size) [y] (.ref s2.heap.objs.size) [yv] (fun _ H' => H' = upd H9 s2.heap.objs.size (.lst (zs ++ [y]))) I9 rfl (.cons r9 .nil) ⟨_, zs, y, rfl, rfl, hD9, hz, rfl⟩) fun _ s10 ⟨_, H10, I10, _, e10⟩ => ?_
      subst e10
      refine ⟨m', hm, i + 1, zs ++ [y], some x, _, I10.unpinned, T.keep _ _ _ t7 fun b hb o e => (I10.pin (b, o) (List.mem_append_right _ (List.mem_append_right _ (mem_pinsAt hb e)))).1, fun b hb => ?_, w9⟩
      obtain ⟨o, e, d⟩ := T.obj _ _ t7 b hb
      exact (I10.pin (b, o) (List.mem_append_right _ (List.mem_append_right _ (mem_pinsAt hb e)))).2.1
  subst hs3
  exact codeAny_compStart_list loop (T.self _ 0 _ _ _ t0 loop)
end
end L2
set_option Elab.async false
set_option linter.all false
set_option maxRecDepth 100000
namespace L2
open PySem PySem.Spec PyProof.Rows XH PySem.Builtin PySem.Builtin.ObjectAttr
/-! ### an own refusal's __init__: its field -/
section
variable {prog : Program} {w : World} {A : Around} {E : Value → Shared → Prop} {s : Shared} {K : PySem.W.Frag} {x C S : Addr} {ox : Obj} {od : Option Obj} {name : Str} {v : Value}
end
section
variable {X : Cx} {o value : Expr} {f : Str} {pos pos' : Pos} {ta tv : TE}
end
end L2
set_option Elab.async false
set_option linter.all false
set_option maxRecDepth 100000
namespace L2
open PySem PySem.Spec PyProof.Rows XH
section
variable {X : Cx} {o e value : Expr} {f : Str} {pos pos' : Pos} {ta tv : TE}
end
/-! ### a refusal with an __init__ is made -/
section
variable {prog : Program} {w : World} {A : Around} {E : Value → Shared → Prop} {h : Heap} {g : Array GenState} {d : Drawn} {t : Nat} {os : OsState}
variable {nm q : Str} {C N : Addr} {bs bm : List Value} {hdct : Bool} {sn : List Str} {sub : List Value} {ab : Bool} {col : Option Bool} {dd : Option Addr} {k0 k1 k2 k3 k5 : Option Value}
end
section
variable {X : Cx} {x : Str} {p pos : Pos} {e : Expr} {es : List Expr} {C fI : Addr} {t : TA} {k : Nat} {fd : FuncData} {ps : List Str} {sp : Sp}
end
end L2
set_option Elab.async false
set_option linter.all false
set_option maxRecDepth 100000
namespace L2
open PySem PySem.Spec PyProof.Rows XH
section
variable {M : Model} {A : Around} {E : Value → Shared → Prop} {env : Env}
variable {nm q : Str} {C N : Addr} {bs bm : List Value} {hdct : Bool} {sn : List Str} {sub : List Value} {ab : Bool} {col : Option Bool} {dd : Option Addr} {k0 k1 k2 k3 k5 : Option Value} {nw : String}
end
section
variable {X : Cx} {x : Str} {np cpos pos : Pos} {e₀ : Expr} {rest : List Expr} {C fI : Addr} {t : TA} {k : Nat} {fd : FuncData} {ps : List Str} {sp : Sp} {E : St → XK}
end
end L2
set_option Elab.async false
set_option linter.all false
set_option maxRecDepth 100000
namespace L2
open PySem PySem.Spec PyProof.Rows XH
/-! ### within an except suite, and in what is called there -/
theorem entry_unchain : entryFor table "proto.unchain" = some Builtin.«proto.unchain» := entryFor_of_fast (by kernel_rfl)
/-- what is known of the handled exception, if there is one -/
def HdOk (hd : Option Value) (H : Hp) : Prop := ∀ v, hd = some v → ∃ a n cls dx, v = .ref a ∧ H a = some (excB n a cls dx)
theorem HdOk.no {H : Hp} : HdOk none H := fun _ z => nomatch z
section
variable {prog : Program} {w : World} {A : Around} {E : Value → Shared → Prop} {s : Shared}
theorem range_endH {it hx : Addr} {ox : Obj} {vs : Array Value} {x left step : Int} {Q : Option Value → Shared → Prop} (hh : A.handled = some (.ref hx)) (ho : s.heap.get? hx = some ox) (hd : ox.data = .fields vs) (h2 : vs[2]? = some .none)
    (hit : IsRangeIter s.heap it x left step) (hleft : left ≤ 0) (hQ : ∀ h', Heap.ExtBut it s.heap h' → Q none { s with heap := h' }) : wpAny (model prog w) A (pyNext (.ref it)) Q E s := by
  have hT : s.TypeIs (.ref it) "range_iterator" := ⟨_, hit, rfl⟩
  unfold pyNext
  refine wpAny_bind (wpAny_attempt (wpAny_callSpecial?_slot (name := Str.ofString "__next__") hT F.slot_range_iterator_next
    (wpAny_call_entry F.slot_range_iterator_next hT F.entry_range_iterator_next ?_ (F.args_range_iterator_next_1 _))))
  show wpAny _ _ (field (.ref it) 0 >>= _) _ _ s
  refine wpAny_bind (wpAny_field hit rfl (x := rawInt x) rfl ?_)
  show wpAny _ _ (field (.ref it) 1 >>= _) _ _ s
  refine wpAny_bind (wpAny_field hit rfl (x := rawInt left) rfl ?_)
  show wpAny _ _ (field (.ref it) 2 >>= _) _ _ s
  refine wpAny_bind (wpAny_field hit rfl (x := rawInt step) rfl ?_)
  show wpAny _ _ (if left ≤ 0 then _ else _) _ _ s
  rw [if_pos hleft]
  refine wpAny_bind (wpAny_rule ?_)
  refine wpAny_bind ?_
  show wpAny _ _ (newExc (.type "StopIteration") [] >>= _) _ _ _
  refine wpAny_bind ?_
  simp only [newExc, newTuple]
  refine wpAny_bind (wpAny_newObj_type ?_ (by size_fits))
  refine wpAny_bind (m := firstArgMember _ _) (wpAny_of_eq (a := Value.none) (by first | rfl | (simp only [firstArgMember]; rfl)) ?_)
  refine wpAny_newObj_type ?_ (by size_fits)
  simp only [raiseNew]
  refine wpAny_bind (wpAny_handled ?_)
  rw [show A.in1.handled = some (.ref hx) from hh]
  have g0 : s.heap.get? (s.heap.push { cls := .type "tuple", dict := none, data := .seq ([] : List Value).toArray }).objs.size = none := Heap.get?_none_of_le (by rw [Heap.size_push]; omega)
  have ne : hx ≠ (s.heap.push { cls := .type "tuple", dict := none, data := .seq ([] : List Value).toArray }).objs.size := fun z => by
    rw [z, g0] at ho
    cases ho
  dsimp only
  rw [if_pos (bne_iff_ne.mpr fun z => ne (Value.ref.inj z))]
  refine wpAny_bind (wpAny_holding (wpAny_runValue (codeAny_builtin entry_unchain ?_)))
  show wpAny _ _ (field (.ref hx) 2 >>= _) _ _ _
  refine wpAny_bind (wpAny_field (Heap.get?_push_of_some _ (Heap.get?_push_of_some _ ho)) hd h2 ?_)
  rw [if_pos (by rfl)]
  refine wpAny_bind (wpAny_pure (wpAny_pure ?_))
  refine wpAny_bind (m := updateField _ 2 _) (wpAny_setField (Heap.get?_push_size _ rfl) rfl (by show 2 < 6; decide) ?_)
  refine wpAny_throw ?_
  refine wpAny_bind (wpAny_isInstance (T := "StopIteration") (b := true) ⟨_, Heap.get?_update_self _ (Heap.get?_push_size _ rfl) rfl, rfl⟩ isSubtype_stop ?_)
  refine wpAny_pure (hQ _ fun b o hb e => ?_)
  rw [Heap.get?_update_other _ _ (by
    intro z
    rw [z] at g0
    rw [g0] at e
    cases e)]
  exact Heap.get?_push_of_some _ (Heap.get?_push_of_some _ e)
end
/-! ### iterators under a handled exception -/
structure TurnH (hd : Option Value) (P : Program) (w : World) (K : PySem.W.Frag) (tg : Expr) (J : It) (fp : List Addr) (it : Addr) (tn : Nat → Heap → Prop) : Prop where
  mem : it ∈ fp
  obj : ∀ i h, tn i h → ∀ b ∈ fp, ∃ o, h.get? b = some o ∧ ∀ v, o.data ≠ .cell v
  keep : ∀ i h h', tn i h → (∀ b ∈ fp, ∀ o, h.get? b = some o → h'.get? b = some o) → tn i h'
  item : ∀ (X : Cx), X.prog = P → X.w = w → X.K = K → X.A.handled = hd → ∀ (i : Nat) (pins : List (Addr × Obj)) (s : Shared) (σ : St) (H : Hp) (E : Value → Shared → Prop), Inv X pins σ H s → (∀ b ∈ fp, FpOk X pins H b) → tn i s.heap → J.go i H →
    wpAny (model P w) X.A (pyNext (.ref it)) (fun r s1 => ∃ u, r = some u ∧
      wpAny (model P w) X.A (letOwnedTupleGo tg (.ref it) u) (fun _ s2 => ∃ x H', Inv X pins σ H' s2 ∧ RelV x u ∧ J.yld i H x H' ∧ tn (i + 1) s2.heap ∧ ∀ b ∈ fp, H' b = none) E s1) E s
  done : ∀ (X : Cx), X.prog = P → X.w = w → X.K = K → X.A.handled = hd → ∀ (i : Nat) (pins : List (Addr × Obj)) (s : Shared) (σ : St) (H : Hp) (E : Value → Shared → Prop), Inv X pins σ H s → (∀ b ∈ fp, FpOk X pins H b) → tn i s.heap → J.stop i H →
    wpAny (model P w) X.A (pyNext (.ref it)) (fun r s1 => r = none ∧ Inv X pins σ H s1) E s
  self : ∀ (A : Around) (i : Nat) (s : Shared) (Q : Value → Shared → Prop) (E : Value → Shared → Prop), tn i s.heap → Q (.ref it) s → wpAny (model P w) A (pyIter (.ref it)) Q E s
def PIEH (hd : Option Value) (X : Cx) (pins : List (Addr × Obj)) (σ : St) (tg : Expr) (R : It → Hp → Prop) (itv : Value) (s2 : Shared) : Prop :=
  ∃ (it : Addr) (fp : List Addr) (tn : Nat → Heap → Prop) (J : It) (H' : Hp), itv = .ref it ∧ Inv X pins σ H' s2 ∧ TurnH hd X.prog X.w X.K tg J fp it tn ∧ tn 0 s2.heap ∧ (∀ b ∈ fp, FpOk X pins H' b) ∧ R J H'
def PIH (hd : Option Value) (X : Cx) (tg iter : Expr) (wi : TI) : Prop :=
  ∀ (pins : List (Addr × Obj)) (s : Shared) (σ : St) (H : Hp) (R : It → Hp → Prop), Inv X pins σ H s → wi σ H R →
    wpAny (model X.prog X.w) X.A (eval iter X.env) (fun v s1 => wpAny (model X.prog X.w) X.A (pyIter v) (PIEH hd X pins σ tg R) X.xe s1) X.xe s
def ItrH (hd : Option Value) (lo : Int) (n : Nat) : It := ⟨fun i _ => i < n, fun i H x H' => H' = H ∧ x = .int (lo + i), fun i H => n ≤ i ∧ HdOk hd H⟩
theorem turn_rangeH {hd : Option Value} {P : Program} {w : World} {K : PySem.W.Frag} {tg : Expr} (it : Addr) (lo : Int) (n : Nat) : TurnH hd P w K tg (ItrH hd lo n) [it] it (fun i h => IsRangeIter h it (lo + (i : Nat) * 1) ((n : Int) - (i : Nat)) 1) where
  mem := by simp
  obj := fun i h st b hb => by
    have e : b = it := by simpa using hb
    subst e
    exact ⟨_, st, fun v z => by
      have z' : Data.fields _ = Data.cell v := z
      cases z'⟩
  keep := fun i h h' st k => k it (by simp) _ st
  item := by
    intro X hP hw hK hA i pins s σ H E I hf st hg
    subst hP hw hK
    obtain ⟨f0, f1, f2, f3, f4, f5⟩ := hf it (by simp)
    have hg' : i < n := hg
    refine wpAny_pyNext_range_item st (by omega) fun h' st' sb => ?_
    have I1 : Inv X pins σ H { s with heap := h', toks := s.toks + 1 } := I.turned (fun b o hb e => (sb.2 b hb).trans e) f0 f1 f3 f4 f5
    have st2 : IsRangeIter h' it (lo + ((i + 1 : Nat) : Int) * 1) ((n : Int) - ((i + 1 : Nat) : Int)) 1 := by
      have e1 : lo + ((i + 1 : Nat) : Int) * 1 = lo + (i : Int) * 1 + 1 := by push_cast; omega
      have e2 : (n : Int) - ((i + 1 : Nat) : Int) = (n : Int) - (i : Int) - 1 := by push_cast; omega
      rw [e1, e2]
      exact st'
    refine ⟨_, rfl, go_of (s := { s with heap := h', toks := s.toks + 1 }) (n := "range_iterator") st2 rfl rfl (by decide) ⟨.int (lo + i), H, I1, ⟨s.toks, ?_⟩, ⟨rfl, rfl⟩, st2, fun b hb => (hf b hb).1⟩⟩
    rw [Int.mul_one]
  done := by
    intro X hP hw hK hA i pins s σ H E I hf st hg
    subst hP hw hK
    obtain ⟨f0, f1, f2, f3, f4, f5⟩ := hf it (by simp)
    obtain ⟨hl, hk⟩ := hg
    cases hd with
    | none => exact wpAny_pyNext_range_end hA st (by omega) fun h' eb => ⟨rfl, I.turned (t' := s.toks) (fun b o hb e => eb b o hb e) f0 f1 f3 f4 f5⟩
    | some v =>
      obtain ⟨a, m, cls, dx, rfl, e⟩ := hk v rfl
      obtain ⟨⟨ox, vs, h1, h2, h3, h4, h6, h5⟩, _⟩ := (show ObjOk X.prog X.w H s.heap a (excB m a cls dx) from I.hok a _ e)
      exact range_endH hA h1 h4 h6 st (by omega) fun h' eb => ⟨rfl, I.turned (t' := s.toks) (fun b o hb e => eb b o hb e) f0 f1 f3 f4 f5⟩
  self := fun _ _ _ _ _ st h => wpAny_pyIter_rangeiter st h
def iRngH (hd : Option Value) (ta : TA) : TI := fun σ H R => ta σ H fun vs H1 => ∃ j : Int, vs = [.int j] ∧ -(2 ^ 62) ≤ j ∧ j < 2 ^ 62 ∧ R (ItrH hd 0 j.toNat) H1
section
variable {X : Cx} {tg : Expr} {hd : Option Value}
theorem range_itH {pins : List (Addr × Obj)} {σ : St} {H : Hp} {s : Shared} {R : It → Hp → Prop} {E : Value → Shared → Prop} {lo hi : Int} {t u v : Tok} {tk : Nat} (I : Inv X pins σ H s) (h1 : -(2 ^ 62) ≤ lo) (h2 : lo < 2 ^ 62) (h3 : -(2 ^ 62) ≤ hi) (h4 : hi < 2 ^ 62)
    (q : R (ItrH hd lo (hi - lo).toNat) H) : wpAny (model X.prog X.w) X.A (pyIter (.ref s.heap.objs.size)) (PIEH hd X pins σ tg R) E { s with heap := s.heap.push { cls := .type "range", data := .fields #[.int lo t, .int hi u, .int 1 v] }, toks := tk } := by
  refine wpAny_pyIter_range (IsRange.new ..) (small_one h1 h2 h3 h4) ?_
  have I1 : Inv X pins σ H { s with heap := s.heap.push { cls := .type "range", data := .fields #[.int lo t, .int hi u, .int 1 v] }, toks := tk } := I.kept fun b o e => Heap.get?_push_of_some _ e
  refine ⟨(s.heap.push { cls := .type "range", data := .fields #[.int lo t, .int hi u, .int 1 v] }).objs.size, [(s.heap.push { cls := .type "range", data := .fields #[.int lo t, .int hi u, .int 1 v] }).objs.size], _, _, H, rfl,
    I1.kept (t' := tk) fun b o e => Heap.get?_push_of_some _ e, turn_rangeH _ lo (hi - lo).toNat, ?_, fun b hb => ?_, q⟩
  · have e1 : lo + ((0 : Nat) : Int) * 1 = lo := by simp
    have e2 : (((hi - lo).toNat : Nat) : Int) - ((0 : Nat) : Int) = Builtin.Range.rangeSize lo hi 1 := by rw [rangeSize_one]; split <;> omega
    show IsRangeIter _ _ (lo + ((0 : Nat) : Int) * 1) ((((hi - lo).toNat : Nat) : Int) - ((0 : Nat) : Int)) 1
    rw [e1, e2]
    exact Heap.get?_push_size _ rfl
  · have e : b = (s.heap.push { cls := .type "range", data := .fields #[.int lo t, .int hi u, .int 1 v] }).objs.size := by simpa using hb
    subst e
    exact I1.fpOk (Nat.le_refl _) (I1.hok.fresh (Nat.le_refl _))
theorem pi_rangeH {a : Expr} {ta : TA} {p pos : Pos} (hg : Gl X "range") (hm : X.mg "range" = none) (ha : PA X [a] ta) (hs : starEach [a] X.env = [(false, eval a X.env)] := by rfl) : PIH hd X tg (.Call (.Name "range" p) [a] [] pos) (iRngH hd ta) := by
  intro pins s σ H R I h
  refine Call_ (ld_blt I hg hm boot_range (PyProof.Rows.callWith_type1 (thn (ha pos pins s σ H _ I h) fun us s1 ⟨vs, H1, I1, r1, q1⟩ => ?_) hs rfl))
  obtain ⟨j, e, q1, q2, q⟩ := q1
  subst e
  cases r1 with
  | cons r rr =>
    cases rr
    obtain ⟨t, rfl⟩ := r
    exact call_range_1 (range_itH I1 (by omega) (by omega) q1 q2 (by simpa using q))
end
section
variable {X : Cx} {scope : Scope} {cl : List (Str × Addr)} {own : Str} {ys : List Str} {js : List Nat} {elt iter : Expr} {px pos : Pos} {wi : TI} {te : TE} {hd : Option Value}
theorem pe_compH (hA : X.A.handled = hd) (ok : CompOk X scope cl own ys js) (hi : PIH hd X (.Name own px) iter wi)
    (he : ∀ (C : Addr) (fp : List Addr) (s : Shared) (H : Hp), PE (X.block scope cl C (own :: ys) own fp s H) elt te)
    (hs : ∀ x, foldedSetIterable iter X.env x = pure x := by intro _; rfl) : PE X (.ListComp elt [⟨.Name own px, iter, [], 0⟩] scope pos) (tComp wi js te) := by
  intro pins s σ H Q I h
  rw [eval_ListComp]
  have ncell : ∀ y ∈ scope.names, y.2 ≠ .cell := fun y hy z => by
    have q := List.all_eq_true.mp ok.nocell y hy
    rw [z] at q
    simp at q
  have nloc : ∀ y ∈ scope.names, y.2 = .local → scope.names.lookup y.1 = some .local := fun y hy z => by
    have q := List.all_eq_true.mp ok.loc y hy
    rw [z] at q
    simpa using q
  refine wpAny_comprehension_free (use := none) rfl hs ok.clos ok.kind nloc (thn (hi pins s σ H _ I h) fun v s1 h1 => thn h1 fun itv s2 h2 => ?_)
  obtain ⟨it, fp, tn, J, H2, rfl, I2, T, st2, f2, q2⟩ := h2
  obtain ⟨W, ⟨m0, w0⟩, turn⟩ := q2 s2.heap.objs.size (I2.hok.fresh (Nat.le_refl _))
  refine wpAny_newObj_type (wpAny_newFunctionEnv ncell (by intro y hy; simp at hy) (fun h1 hns hsb => ?_) ok.kind)
  have I3 := I2.laid (a := s2.heap.objs.size) (o := .lst []) (h' := s2.heap.push { cls := .type "list", dict := none, data := .seq ([] : List Value).toArray }) (t' := s2.toks) (fun b u q => Heap.get?_push_of_some _ q) (Nat.le_refl _)
    ⟨Nat.zero_le _, [], 0, .nil, Heap.get?_push_size _ rfl⟩
  have fpo : ∀ b ∈ fp, b < s2.heap.objs.size := fun b hb => by
    obtain ⟨o, e, _⟩ := T.obj 0 _ st2 b hb
    exact Heap.lt_size e
  have f3 : ∀ b ∈ fp, FpOk X pins (upd H2 s2.heap.objs.size (.lst [])) b := fun b hb => ⟨by rw [upd_ne (Nat.ne_of_lt (fpo b hb))]; exact (f2 b hb).1, (f2 b hb).2⟩
  generalize hs3 : ({ s2 with heap := s2.heap.push { cls := .type "list", dict := none, data := .seq ([] : List Value).toArray }, toks := s2.toks } : Shared) = s3 at I3
  have e3 : s3.heap = s2.heap.push { cls := .type "list", dict := none, data := .seq ([] : List Value).toArray } := by rw [← hs3]
  have lt3 : ∀ b ∈ fp, b < s3.heap.objs.size := fun b hb => by rw [e3, Heap.size_push]; exact Nat.lt_succ_of_lt (fpo b hb)
  dsimp only at hns hsb ⊢
  rw [← e3] at hns hsb
  have hk : ∀ b o, s3.heap.get? b = some o → h1.get? b = some o := fun b o e => hsb.extBut b o (Nat.ne_of_lt (Heap.lt_size e)) (Heap.get?_push_of_some _ e)
  have J0 := block_start (h1 := h1) ok I3 f3 lt3 hns hk (s2.toks + 0)
  have t0 : tn 0 h1 := T.keep 0 _ _ st2 fun b hb o e => hk b o (by rw [e3]; exact Heap.get?_push_of_some _ e)
  have fpB : ∀ {H' : Hp}, (∀ b ∈ fp, H' b = none) → ∀ b ∈ fp, FpOk (X.block scope cl s3.heap.objs.size (own :: ys) own fp s3 (upd H2 s2.heap.objs.size (.lst []))) [] H' b := fun {H'} hn b hb =>
    ⟨hn b hb, Nat.ne_of_lt (lt3 b hb), fun z => (List.mem_cons.mp (I3.stkSub b z)).elim (f3 b hb).2.1 (f3 b hb).2.2.1, .inl hb, fun x c e => (f3 b hb).2.2.2.2.1 x c (ok.sub (x, c) (PySem.mem_of_lookup e)), fun p hp => absurd (show p ∈ ([] : List (Addr × Obj)) from hp) (by simp)⟩
  have loop : codeAny (model X.prog X.w) X.A (.compLoop (.ListComp elt [⟨.Name own px, iter, [], 0⟩] scope pos) 0 (.ref it) (.ref s2.heap.objs.size) (compEnvC scope cl s3.heap.objs.size X.env))
      (compPost (model X.prog X.w) X.A X.xe none (EP X pins σ Q) (.ref s2.heap.objs.size) s3.heap.objs.size) { s3 with heap := h1, toks := s2.toks + 0 } := by
    refine compLoop_own (fun n s' => ∃ i zs o0 H', Inv (X.block scope cl s3.heap.objs.size (own :: ys) own fp s3 (upd H2 s2.heap.objs.size (.lst []))) [] (o0 :: freesOf js σ) H' s' ∧ tn i s'.heap ∧ (∀ b ∈ fp, H' b = none) ∧ W i n zs H') ?_ m0
      ⟨0, [], none, _, J0, t0, fun b hb => (f3 b hb).1, w0⟩
    rintro n s5 ⟨i, zs, o0, H5, I5, t5, n5, w5⟩
    obtain ⟨hD, hw⟩ := turn i n zs H5 w5
    rcases hw with ⟨stop, qn⟩ | ⟨go, hz, step⟩
    · refine thn (T.done (X.block scope cl s3.heap.objs.size (own :: ys) own fp s3 (upd H2 s2.heap.objs.size (.lst []))) rfl rfl rfl hA i [] s5 _ H5 (fun _ _ => False) I5 (fpB n5) t5 stop) fun r s6 ⟨hr, I6⟩ => ?_
      subst hr
      obtain ⟨m, hn, _⟩ := id I6.loc
      exact ⟨m, hn, fun h' hs' => ⟨V.ref s2.heap.objs.size, H5, block_end I3 f3 I6 hs', rfl, qn⟩⟩
    · refine thn (T.item (X.block scope cl s3.heap.objs.size (own :: ys) own fp s3 (upd H2 s2.heap.objs.size (.lst []))) rfl rfl rfl hA i [] s5 _ H5 (fun _ _ => False) I5 (fpB n5) t5 go) fun r s6 ⟨u, hr, h6⟩ => ?_
      subst hr
      refine thn h6 fun _ s7 ⟨x, H7, I7, r7, y7, t7, n7⟩ => ?_
      have I7' := I7.pinned (fpB n7) (T.obj _ _ t7)
      have hst := step x H7 y7
      have own' : (relabel scope X.env).names.lookup own = some .local := lookup_relabel_local ok.ownL
      refine thn (pg_name (X := X.block scope cl s3.heap.objs.size (own :: ys) own fp s3 (upd H2 s2.heap.objs.size (.lst []))) (i := 0) (x := own) (pos := px) ok.nd rfl (.inl own') (.inr own') _ s7 _ H7 x u (fun σ' H' => σ' = some x :: freesOf js σ ∧ H' = H7) I7' r7 ⟨rfl, rfl⟩) fun _ s8 ⟨σ8, H8, I8, e8, eH8⟩ => ?_
      subst e8 eH8
      refine thn (he _ _ _ _ _ s8 _ H8 _ I8 hst) fun yv s9 ⟨y, H9, I9, r9, hD9, m', hm, w9⟩ => ?_
      refine thn (mt_append _ s9 _ H9 (.ref s2.heap.objs.size) [y] (.ref s2.heap.objs.size) [yv] (fun _ H' => H' = upd H9 s2.heap.objs.size (.lst (zs ++ [y]))) I9 rfl (.cons r9 .nil) ⟨_, zs, y, rfl, rfl, hD9, hz, rfl⟩) fun _ s10 ⟨_, H10, I10, _, e10⟩ => ?_
      subst e10
      refine ⟨m', hm, i + 1, zs ++ [y], some x, _, I10.unpinned, T.keep _ _ _ t7 fun b hb o e => (I10.pin (b, o) (List.mem_append_right _ (List.mem_append_right _ (mem_pinsAt hb e)))).1, fun b hb => ?_, w9⟩
      obtain ⟨o, e, d⟩ := T.obj _ _ t7 b hb
      exact (I10.pin (b, o) (List.mem_append_right _ (List.mem_append_right _ (mem_pinsAt hb e)))).2.1
  subst hs3
  exact codeAny_compStart_list loop (T.self _ 0 _ _ _ t0 loop)
end
/-! ### an except suite whose reading knows the exception -/
def tHasA (K : PySem.W.Frag) (C' : Addr) (i : Nat) (t : Addr → TS) (r : TH) : TH := fun D σ cls dx H a => ∃ C b, cls = .ref C ∧ PySem.W.subIn K (.ref C) (.ref C') = some b ∧
  if b = true then t a (offE i D) (σ.set i (some (.ref a))) (upd H a (excO a cls dx)) else r D σ cls dx H a
section
variable {X : Cx} {x n : Str} {np pos : Pos} {b0 : Stmt} {suite : List Stmt} {rest : List ExceptHandler} {i : Nat} {C' : Addr} {tA : Addr → TS} {th : TH}
theorem ph_asA (T : XT X.K C') (hg : Gl X x) (hm : X.mg x = some (.ref C')) (hN : X.N.Nodup) (hi : X.N[i]? = some n) (hloc : X.env.scope.names.lookup n = some .local)
    (hs : ∀ (pins : List (Addr × Obj)) (a : Addr), PSs (X.suite pins a) (b0 :: suite) (tA a)) (hrest : PH X rest th) (hd : (x == ("__debug__" : Str)) = false := by decide) :
    PH X (.ExceptHandler (some (.Name x np)) (some n) (b0 :: suite) pos :: rest) (tHasA X.K C' i tA th) := by
  intro pins σ H0 s0 D a H' cls v dx s' I c h
  obtain ⟨C, b, rfl, hsub, h⟩ := h
  have J : Inv X pins σ H' s' := I.call' c.os c.un c.hok c.bare (fun b z => absurd z (by simp))
  obtain ⟨oe, vs, he, hc, _, _, _⟩ := c.xo.ex
  refine wpAny_handleBy_cons (codeAny_handlers_test (ld_glob (X := X.suite pins a) (J.insuite a) hg hm ?_ hd)) (by intro q; cases q)
  have KX := J.kIn
  obtain ⟨hh, g, d, tk, os⟩ := s'
  refine matches_ok KX he hc T hsub ?_
  cases b with
  | false => exact hrest pins σ H0 s0 D a H' _ v dx _ I c h
  | true =>
    refine codeAny_handlers_suite_as ?_
    refine c.flight I.stack I.stkFree fun s2 c2 => ?_
    have J2 := (c2.caught I).insuite a
    refine store_ok (X := X.suite pins a) (v := V.ref a) J2 hN hi (.inl hloc) (show RelV (V.ref a) (Value.ref a) from rfl) (fun s3 I3 => ?_) (.inr hloc)
    refine wpAny_mono (hs pins a [] s3 _ _ _ I3 h) (fun f s4 q => ?_) fun _ _ z => z.elim
    exact gone_ok I.ok hN hi hloc q
end
/-! ### calls, whatever is handled -/
section
variable {P : Program} {w : World} {K : PySem.W.Frag} {mg : Str → Option Value} {base : Heap} {hd : Option Value}
end
section
variable {X : Cx} {k : Nat} {f : Addr} {fd : FuncData} {ps : List Str} {sp : Sp} {dvs : List V} {ds : List Value} {x : Str} {p pos : Pos} {e : Expr} {es : List Expr} {t : TA} {hd : Option Value}
end
end L2
set_option Elab.async false
set_option linter.all false
set_option maxRecDepth 100000
namespace Sw
open PySem L2 XH
/-- a def as its callers see it -/
structure Dx (P : Program) (w : World) (K : PySem.W.Frag) (mg : Str → Option Value) (base : Heap) (CX : CXT) (k : Nat) (x : Str) (ps : List Str) (dvs : List V) (sp : Sp) where
  f : Addr
  fd : FuncData
  ok : FnOk P w K mg base CX k f fd ps sp
  m : mg x = some (.ref f)
  q : PySem.W.keepIn K (.ref f) = true
  b : Binds K fd ps []
  bd : ∃ ds, Binds K fd ps ds ∧ Vals dvs ds
def Dx.calm {P : Program} {w : World} {K : PySem.W.Frag} {mg : Str → Option Value} {base : Heap} {k : Nat} {x : Str} {ps : List Str} {dvs : List V} {sp sp0 : Sp} (D : Dx P w K mg base (CX1 P w) k x ps dvs sp) (h : ∀ vs H Q E, sp0 vs H Q E → sp vs H Q E0) : Dx P w K mg base CX0 k x ps dvs sp0 :=
  ⟨D.f, D.fd, D.ok.noraise h, D.m, D.q, D.b, D.bd⟩
section
variable {X : Cx} {k j : Nat} {x : Str} {ps : List Str} {sp : Sp} {p pos : Pos} {e : Expr} {es : List Expr} {t : TA} {dvs : List V} {E : St → XK}
theorem pcall0 (D : Dx X.prog X.w X.K X.mg X.base CX0 k x ps dvs sp) (hr : Room j X.A) (hk : k ≤ j) (hg : Gl X x) (ha : PA X (e :: es) t) (hdb : (x == ("__debug__" : Str)) = false := by decide)
    (he : starEach (e :: es) X.env = (false, eval e X.env) :: starEach es X.env := by rfl) (hpl : (backTo pos (starEach es X.env)).any (·.1) = false := by rfl) :
    PE X (.Call (.Name x p) (e :: es) [] pos) (tCall sp [] E0 t) :=
  pe_call D.ok (hr.mono hk) hg D.m D.q D.b .nil pass0 ha hdb he hpl
theorem pcall1 (D : Dx X.prog X.w X.K X.mg X.base (CX1 X.prog X.w) k x ps dvs sp) (hr : Room j X.A) (hk : k ≤ j) (hg : Gl X x) (hx : PassX X E) (ha : PA X (e :: es) t) (hdb : (x == ("__debug__" : Str)) = false := by decide)
    (he : starEach (e :: es) X.env = (false, eval e X.env) :: starEach es X.env := by rfl) (hpl : (backTo pos (starEach es X.env)).any (·.1) = false := by rfl) :
    PE X (.Call (.Name x p) (e :: es) [] pos) (tCallX sp [] E t) :=
  pe_callX D.ok (hr.mono hk) hg D.m D.q D.b .nil hx ha hdb he hpl
end
theorem FunD.okX {P : Program} {w : World} {K : PySem.W.Frag} {mg : Str → Option Value} {base : Heap} {x qual : Str} {st : Stmt} {dV : Value} {f : Addr} {fd : FuncData} {N ps : List Str} {k : Nat} {sp : Sp} (F : FunD K x qual st dV f fd) (S : FnScope N ps (defScope st)) (len : ∀ vs H Q E, sp vs H Q E → vs.length = ps.length)
    (hbody : ∀ (cdv : Value) (A : Around) (outer : List Env) (s : Shared) (H : Hp) (vs : List V) (Q : VK) (E : XK), Room k (A.deeper (PyProof.Rows.envOfC qual (defScope st) s.heap.objs.size f cdv)) → sp vs H Q E →
      ∃ t, PSs ((cxOf (CX1 P w) P w K mg base N qual (defScope st) f cdv A outer s H E).wish (XS (cxOf (CX1 P w) P w K mg base N qual (defScope st) f cdv A outer s H E) fun _ => E)) (defBody st) t ∧ t { nx := fun _ H' => Q .non H', rt := Q } (start N vs) H) : FnOk P w K mg base (CX1 P w) (k + 1) f fd ps sp := by
  obtain ⟨oc, od, kV, doc, pm, an, cdv, ct, osl, rfl, lk, hcd⟩ := F.ex
  exact fn_ofX lk hcd S len fun A outer s H vs Q E hr hsp => hbody cdv A outer s H vs Q E hr hsp
end Sw
set_option Elab.async false
set_option linter.all false
set_option maxRecDepth 100000
namespace Sw
open PySem L2 XH
end Sw
set_option Elab.async false
set_option linter.all false
set_option maxRecDepth 100000
namespace L2
open PySem PySem.Spec PyProof.Rows XH
theorem call_isiT {X : Cx} {K : PySem.W.Frag} (hK : X.K = K) : CallR X (.builtin "isinstance") (fun xs H Q => ∃ x t T b, xs = [x, .ty T] ∧ TyOf K H x t ∧ PySem.W.kitOne K t (.type T) = some b ∧ Q (.bl b) H) := by
  subst hK
  intro pins s σ H xs us Q I r h
  obtain ⟨x, t, T, b, rfl, ty, e, q⟩ := h
  obtain ⟨u, w', rfl, e1, e2⟩ := vals2 r
  cases e2
  exact isinst_ok I e1 ty e fun tk => ⟨.bl b, H, I.tok tk, rfl, q⟩
end L2
namespace Sw
open PySem L2 XH
/-! ### whatever is handed in: is it a whole number, is it a fraction -/
section
variable {K : PySem.W.Frag} {H : Hp}
end
end Sw
set_option Elab.async false
set_option linter.all false
set_option maxRecDepth 100000
namespace L2
open PySem PySem.Spec PyProof.Rows XH
/-- a truth, a number, a text -/
def Smp : V → Prop
  | .bl _ => True
  | .int _ => True
  | .str _ => True
  | .non => True
  | _ => False
theorem eqat_smp {A : Around} {s : Shared} {v : V} {u w : Value} (h : Smp v) (r1 : RelV v u) (r2 : RelV v w) : SeqAt.EqAt A s u w true := by
  cases v with
  | bl b =>
    cases r1
    cases r2
    have z := SeqAt.EqAt.bool_bool (A := A) (s := s) b b
    rw [beq_self_eq_true] at z
    exact z
  | int i =>
    obtain ⟨t, rfl⟩ := r1
    obtain ⟨t', rfl⟩ := r2
    have z := SeqAt.EqAt.int_int (A := A) (s := s) i t i t'
    rw [beq_self_eq_true] at z
    exact z
  | str i =>
    obtain ⟨t, rfl⟩ := r1
    obtain ⟨t', rfl⟩ := r2
    have z := SeqAt.EqAt.str_str (A := A) (s := s) i t i t'
    rw [beq_self_eq_true] at z
    exact z
  | non =>
    cases r1
    cases r2
    exact SeqAt.EqAt.same _
  | _ => exact absurd h (fun z => z)
end L2
set_option Elab.async false
set_option linter.all false
set_option maxRecDepth 100000
namespace Sw
open PySem L2 XH PyProof.Rows
/-! ### defs that are called from a handler too, and refusals' __init__ -/
section
variable {X : Cx} {k j : Nat} {x : Str} {ps : List Str} {sp : Sp} {p np pos cpos : Pos} {e : Expr} {es : List Expr} {t : TA} {hd : Option Value} {C : Addr} {E : L2.St → XK}
end
theorem hdSame {hd : Option Value} {H H' : Hp} (h : HdOk hd H) (g : Same H H') : HdOk hd H' := fun v e => by
  obtain ⟨a, n, cls, dx, e1, e2⟩ := h v e
  exact ⟨a, n, cls, dx, e1, g _ _ e2⟩
theorem sUpd {H H' : Hp} {p : Addr} (g : Same H H') (h : H p = none) (o : HO) : Same H (upd H' p o) := fun b u q => by
  rw [upd_ne (ne_of_none q h)]
  exact g b u q
def CompAt (X : Cx) (scope : Scope) (ys : List Str) (js : List Nat) : Prop := ∀ (i : Nat) (y : Str), ys[i]? = some y → ∃ j : Nat, js[i]? = some j ∧ X.N[j]? = some y ∧ (X.env.scope.names.lookup y = some .cell ∨ X.env.scope.names.lookup y = some .free) ∧ ((relabel scope X.env).names.lookup y = some .cell ∨ (relabel scope X.env).names.lookup y = some .free)
theorem atn {X : Cx} {scope : Scope} : CompAt X scope [] [] := fun i y h => by simp at h
theorem atc {X : Cx} {scope : Scope} {ys : List Str} {js : List Nat} {y : Str} {j : Nat} (t : CompAt X scope ys js) (h1 : X.N[j]? = some y := by rfl) (h2 : X.env.scope.names.lookup y = some .cell ∨ X.env.scope.names.lookup y = some .free := by first | exact Or.inl rfl | exact Or.inr rfl)
    (h3 : (relabel scope X.env).names.lookup y = some .cell ∨ (relabel scope X.env).names.lookup y = some .free := by first | exact Or.inl rfl | exact Or.inr rfl) : CompAt X scope (y :: ys) (j :: js) := fun i z h => by
  cases i with
  | zero =>
    cases h
    exact ⟨j, rfl, h1, h2, h3⟩
  | succ i => exact t i z h
/-- the names that a comprehension takes from around -/
inductive Subs (X : Cx) : List (Str × Addr) → Prop where
  | nil : Subs X []
  | cons {y : Str} {c : Addr} {cl : List (Str × Addr)} (h : X.env.cells.lookup y = some c) (t : Subs X cl) : Subs X ((y, c) :: cl)
theorem Subs.all {X : Cx} {cl : List (Str × Addr)} (h : Subs X cl) : ∀ p ∈ cl, X.env.cells.lookup p.1 = some p.2 := by
  induction h with
  | nil => intro p hp; simp at hp
  | cons h _ ih =>
    intro p hp
    rcases List.mem_cons.mp hp with e | e
    · rw [e]; exact h
    · exact ih p e
theorem cok {X : Cx} {scope : Scope} {cl : List (Str × Addr)} {own : Str} {ys : List Str} {js : List Nat} (a : CompAt X scope ys js) (s : Subs X cl) (nd : (own :: ys).Nodup) (len : js.length = ys.length) (clos : closureFor scope X.env = pure cl) (nocell : (scope.names.all fun p => !(p.2 == .cell)) = true) (kind : scope.kind = .function)
    (loc : (scope.names.all fun p => !(p.2 == .local) || scope.names.lookup p.1 == some .local) = true) (ownL : scope.names.lookup own = some .local) (has : ((relabel scope X.env).names.all fun p => !(p.2 == .cell || p.2 == .free) || (cl.lookup p.1).isSome) = true) (noown : cl.lookup own = none) : CompOk X scope cl own ys js :=
  ⟨clos, nocell, kind, loc, ownL, s.all, has, noown, nd, a, len⟩
/-! ### the sixteen refusals -/
section
variable {K : PySem.W.Frag} {cs : List Addr} {S C D : Addr} {i j : Nat}
end
end Sw
set_option Elab.async false
set_option linter.all false
set_option maxRecDepth 100000
namespace Sw
open PySem L2 XH
/-! ### own classes: their defs as callers see them -/
structure DxM (P : Program) (w : World) (K : PySem.W.Frag) (mg : Str → Option Value) (base : Heap) (CX : CXT) (k : Nat) (f : Addr) (ps : List Str) (dvs : List V) (sp : Sp) where
  fd : FuncData
  ok : FnOk P w K mg base CX k f fd ps sp
  b : Binds K fd ps []
  bd : ∃ ds, Binds K fd ps ds ∧ Vals dvs ds
def DxM.calm {P : Program} {w : World} {K : PySem.W.Frag} {mg : Str → Option Value} {base : Heap} {k : Nat} {f : Addr} {ps : List Str} {dvs : List V} {sp sp0 : Sp} (D : DxM P w K mg base (CX1 P w) k f ps dvs sp) (h : ∀ vs H Q E, sp0 vs H Q E → sp vs H Q E0) : DxM P w K mg base CX0 k f ps dvs sp0 :=
  ⟨D.fd, D.ok.noraise h, D.b, D.bd⟩
section
variable {X : Cx} {k j : Nat} {f C : Addr} {ps : List Str} {sp : Sp} {dvs : List V} {x m : Str} {p pos apos : Pos} {e o : Expr} {es : List Expr} {ta tb : TE} {t : TA}
theorem pmake0 (M : Mk X.K C f) (D : DxM X.prog X.w X.K X.mg X.base CX0 k f ps dvs sp) (hr : Room j X.A) (hk : k + 1 ≤ j) (hg : Gl X x) (hm : X.mg x = some (.ref C)) (ha : PA X (e :: es) t) (hdb : (x == ("__debug__" : Str)) = false := by decide)
    (he : starEach (e :: es) X.env = (false, eval e X.env) :: starEach es X.env := by rfl) (hpl : (backTo pos (starEach es X.env)).any (·.1) = false := by rfl) : PE X (.Call (.Name x p) (e :: es) [] pos) (tMake C sp [] E0 t) :=
  pe_make M D.ok (hr.mono hk) hg hm D.b .nil pass0 ha hdb he hpl
theorem pmake0d (M : Mk X.K C f) (D : DxM X.prog X.w X.K X.mg X.base CX0 k f ps dvs sp) (hr : Room j X.A) (hk : k + 1 ≤ j) (hg : Gl X x) (hm : X.mg x = some (.ref C)) (ha : PA X (e :: es) t) (hdb : (x == ("__debug__" : Str)) = false := by decide)
    (he : starEach (e :: es) X.env = (false, eval e X.env) :: starEach es X.env := by rfl) (hpl : (backTo pos (starEach es X.env)).any (·.1) = false := by rfl) : PE X (.Call (.Name x p) (e :: es) [] pos) (tMake C sp dvs E0 t) := by
  obtain ⟨ds, hb, hv⟩ := D.bd
  exact pe_make M D.ok (hr.mono hk) hg hm hb hv pass0 ha hdb he hpl
end
end Sw
set_option Elab.async false
set_option linter.all false
set_option maxRecDepth 100000
namespace Sw
open PySem L2 XH
/-! ### defs of own classes that may refuse -/
section
variable {X : Cx} {k j : Nat} {f C : Addr} {ps : List Str} {sp : Sp} {dvs : List V} {x m : Str} {p pos apos : Pos} {e o : Expr} {es : List Expr} {ta tb : TE} {t : TA} {E : L2.St → XK}
end
end Sw
set_option Elab.async false
set_option linter.all false
set_option maxRecDepth 100000
namespace L2
open PySem PySem.Spec PyProof.Rows
section
variable {X : Cx} {pins : List (Addr × Obj)} {σ : St} {H : Hp} {s : Shared} {h' : Heap}
/-- records of ours have turned, and a new thing was laid -/
theorem Inv.turnedNew {ch : List Addr} {T : Addr} {o : HO} {t' : Nat} (I : Inv X pins σ H s) (hf : ∀ b ∈ ch, FpOk X pins H b) (k : ∀ b u, b ∉ ch → s.heap.get? b = some u → h'.get? b = some u) (hp : s.heap.objs.size ≤ T) (new : ObjOk X.prog X.w (upd H T o) h' T o) :
    Inv X pins σ (upd H T o) { s with heap := h', toks := t' } := by
  have nT : H T = none := I.hok.fresh hp
  have ne : ∀ b u, H b = some u → b ≠ T := fun b u e z => by rw [z, nT] at e; cases e
  have nch : ∀ b u, H b = some u → b ∉ ch := fun b u e z => by rw [(hf b z).1] at e; cases e
  have up : ∀ b u, H b = some u → upd H T o b = some u := fun b u e => by rw [upd_ne (ne b u e)]; exact e
  refine I.step (g' := s.gens) (d' := s.drawn) (ch := ch) (fun b hb => ?_) (fun b u _ _ hc e _ => k b u hc e) (fun b u _ _ hc e _ => ⟨u.slots, k b u hc e⟩) (fun b u _ e n => ?_)
    (fun b u hc e => ⟨u, k b u hc e⟩) (fun b xs e => up b _ e) (fun b u v e => up b _ e) (fun b ps e => ⟨#[], by rw [up b _ e]; simp⟩) (fun m hm => ?_) (fun b u e => ?_) I.bare
  · obtain ⟨f0, f1, f2, f3, f4, f5⟩ := hf b hb
    exact ⟨f3, f1, f4, f5⟩
  · have : b ≠ T := Nat.ne_of_lt (Nat.lt_of_lt_of_le (Heap.lt_size e) hp)
    rw [upd_ne this]
    exact n
  · obtain ⟨u, es, ep, ho, r⟩ := hm
    exact ⟨u, es, ep, k _ u (fun z => (hf _ z).2.1 rfl) ho, r⟩
  · by_cases c : b = T
    · subst c
      rw [upd_same] at e
      cases e
      exact new
    · rw [upd_ne c] at e
      refine (I.hok b u e).stay (fun c' v hc q => k c' v ?_ q) (fun _ q => up _ _ q) fun _ _ q => up _ _ q
      rcases hc with z | z
      · rw [z]; exact nch b u e
      · exact nch c' _ z
theorem Inv.turnedAll {ch : List Addr} {t' : Nat} (I : Inv X pins σ H s) (hf : ∀ b ∈ ch, FpOk X pins H b) (k : ∀ b u, b ∉ ch → s.heap.get? b = some u → h'.get? b = some u) : Inv X pins σ H { s with heap := h', toks := t' } := by
  have nch : ∀ b u, H b = some u → b ∉ ch := fun b u e z => by rw [(hf b z).1] at e; cases e
  refine I.step (g' := s.gens) (d' := s.drawn) (ch := ch) (fun b hb => ?_) (fun b u _ _ hc e _ => k b u hc e) (fun b u _ _ hc e _ => ⟨u.slots, k b u hc e⟩) (fun b u _ e n => n)
    (fun b u hc e => ⟨u, k b u hc e⟩) (fun b xs e => e) (fun b u v e => e) (fun b ps e => ⟨#[], by rw [e]; simp⟩) (fun m hm => ?_) (fun b u e => ?_) I.bare
  · obtain ⟨f0, f1, f2, f3, f4, f5⟩ := hf b hb
    exact ⟨f3, f1, f4, f5⟩
  · obtain ⟨u, es, ep, ho, r⟩ := hm
    exact ⟨u, es, ep, k _ u (fun z => (hf _ z).2.1 rfl) ho, r⟩
  · refine (I.hok b u e).stay (fun c' v hc q => k c' v ?_ q) (fun _ q => q) fun _ _ q => q
    rcases hc with z | z
    · rw [z]; exact nch b u e
    · exact nch c' _ z
end
end L2
set_option Elab.async false
set_option linter.all false
set_option maxRecDepth 100000
namespace L2
open PySem PySem.Spec PyProof.Rows
end L2
set_option Elab.async false
set_option linter.all false
set_option maxRecDepth 100000
namespace L2
open PySem PySem.Spec PyProof.Rows XH
/-! ### a text, walked sign by sign -/
def Its (x : Str) : It := ⟨fun i _ => i < x.cps.size, fun i H v H' => H' = H ∧ ∃ c, x.cps[i]? = some c ∧ v = .str ⟨#[c]⟩, fun i _ => i = x.cps.size⟩
theorem turn_str {P : Program} {w : World} {K : PySem.W.Frag} {tg : Expr} {ty : String} (hty : ty = "str_ascii_iterator" ∨ ty = "str_iterator") (it : Addr) (x : Str) (t : Tok) : Turn P w K tg (Its x) [it] it (fun i h => h.IsStrIter it ty x t i) where
  mem := by simp
  obj := fun i h st b hb => by
    have e : b = it := by simpa using hb
    subst e
    obtain ⟨o, e, c, d⟩ := st
    exact ⟨o, e, fun v z => by rw [d] at z; cases z⟩
  keep := fun i h h' st k => by
    obtain ⟨o, e, c, d⟩ := st
    exact ⟨o, k it (by simp) o e, c, d⟩
  item := by
    intro X hP hw hK hc i pins s σ H E I hf st hg
    subst hP hw hK
    obtain ⟨f0, f1, f2, f3, f4, f5⟩ := hf it (by simp)
    have W : Walks X.prog X.w X.A it [it] [it] x.cps.size (SignAt x) (fun i h => h.IsStrIter it ty x t i) := by
      rcases hty with rfl | rfl
      · exact Walks.strAscii (I.ok.hd hc) it x t
      · exact Walks.strWide (I.ok.hd hc) it x t
    refine W.item i s _ _ hg st fun v h' tk hv st' kk => ?_
    obtain ⟨c, u, hc', rfl⟩ := hv
    have I1 : Inv X pins σ H { s with heap := h', toks := tk } := I.turned (fun b o hb e => kk b o (by simpa using hb) e) f0 f1 f3 f4 f5
    obtain ⟨o, e, c1, d1⟩ := id st'
    refine ⟨_, rfl, go_of (s := { s with heap := h', toks := tk }) (n := ty) e c1 d1 (by rcases hty with rfl | rfl <;> decide) ⟨.str ⟨#[c]⟩, H, I1, ⟨u, rfl⟩, ⟨rfl, c, hc', rfl⟩, st', fun b hb => (hf b hb).1⟩⟩
  done := by
    intro X hP hw hK hc i pins s σ H E I hf st hg
    subst hP hw hK
    obtain ⟨f0, f1, f2, f3, f4, f5⟩ := hf it (by simp)
    have W : Walks X.prog X.w X.A it [it] [it] x.cps.size (SignAt x) (fun i h => h.IsStrIter it ty x t i) := by
      rcases hty with rfl | rfl
      · exact Walks.strAscii (I.ok.hd hc) it x t
      · exact Walks.strWide (I.ok.hd hc) it x t
    have hg' : i = x.cps.size := hg
    subst hg'
    exact W.done s _ _ st fun h' tk kk => ⟨rfl, I.turned (fun b o hb e => kk b o (by simpa using hb) e) f0 f1 f3 f4 f5⟩
  self := fun _ _ _ _ _ st h => by
    rcases hty with rfl | rfl
    · exact wpAny_pyIter_striter_ascii st h
    · exact wpAny_pyIter_striter_wide st h
def iStr (tl : TE) : TI := fun σ H R => tl σ H fun x H1 => ∃ z, x = .str z ∧ R (Its z) H1
section
variable {X : Cx} {tg : Expr}
theorem pi_str {l : Expr} {tl : TE} (hl : PE X l tl) : PI X tg l (iStr tl) := by
  intro pins s σ H R I h
  refine thn (hl pins s σ H _ I h) fun v s1 ⟨x, H1, I1, r1, q1⟩ => ?_
  obtain ⟨z, rfl, q⟩ := q1
  obtain ⟨t, rfl⟩ := r1
  have fin : ∀ {ty : String} {o : Obj}, (ty = "str_ascii_iterator" ∨ ty = "str_iterator") → (s1.heap.push o).IsStrIter s1.heap.objs.size ty z t 0 → PIE X pins σ tg R (.ref s1.heap.objs.size) { s1 with heap := s1.heap.push o } := fun {ty o} hty st => by
    refine ⟨s1.heap.objs.size, [s1.heap.objs.size], _, _, H1, rfl, I1.kept (t' := s1.toks) fun b o e => Heap.get?_push_of_some _ e, turn_str hty _ z t, st, fun b hb => ?_, q⟩
    have e : b = s1.heap.objs.size := by simpa using hb
    subst e
    exact I1.fpOk (Nat.le_refl _) (I1.hok.fresh (Nat.le_refl _))
  cases ha : z.cps.all (· < 128)
  · exact wpAny_pyIter_wide ha (fin (.inr rfl) ⟨_, Heap.get?_push_size _ rfl, rfl, rfl⟩)
  · exact wpAny_pyIter_ascii ha (fin (.inl rfl) ⟨_, Heap.get?_push_size _ rfl, rfl, rfl⟩)
end
/-- for, over a text -/
theorem for_str {z : Str} {g : TG} {tb : TS} {D : Ends} {σ : St} {H : Hp} (Pv : Nat → St → Hp → Prop) (h0 : Pv 0 σ H)
    (hs : ∀ i c σ H, z.cps[i]? = some c → Pv i σ H → g (.str ⟨#[c]⟩) σ H fun σ2 H2 => tb { D with nx := Pv (i + 1), ct := Pv (i + 1), bk := D.nx } σ2 H2) (hd : ∀ σ H, Pv z.cps.size σ H → D.nx σ H) :
    ∃ W : Nat → Nat → St → Hp → Prop, (∃ m, W 0 m σ H) ∧ ∀ i m σ H, W i m σ H →
      ((Its z).stop i H ∧ D.nx σ H) ∨ ((Its z).go i H ∧ ∃ N : St → Hp → Prop, (∀ σ' H', N σ' H' → ∃ m', m' < m ∧ W (i + 1) m' σ' H') ∧ ∀ x H', (Its z).yld i H x H' → g x σ H' fun σ2 H2 => tb { D with nx := N, ct := N, bk := D.nx } σ2 H2) := by
  refine ⟨fun i m σ H => m = z.cps.size - i ∧ i ≤ z.cps.size ∧ Pv i σ H, ⟨z.cps.size, by simp, Nat.zero_le _, h0⟩, ?_⟩
  rintro i m σ H ⟨rfl, hi, p⟩
  by_cases hlt : i < z.cps.size
  · refine .inr ⟨hlt, Pv (i + 1), fun σ' H' p' => ⟨z.cps.size - (i + 1), by omega, rfl, hlt, p'⟩, fun x H' y => ?_⟩
    obtain ⟨e, c, hc, rfl⟩ := y
    subst e
    exact hs i c σ _ hc p
  · have e : i = z.cps.size := by omega
    subst e
    exact .inl ⟨rfl, hd σ H p⟩
/-! ### x[lo:hi] of a text -/
def cutS (x : Str) (lo hi : Option Int) : Str := ⟨((x.cps.toList.drop (HT.sIx x.length 0 lo)).take (HT.sIx x.length x.length hi - HT.sIx x.length 0 lo)).toArray⟩
theorem sIdx (lo hi : Option Int) (n : Nat) : Builtin.Str.strSliceIndices lo hi 1 n = (List.range (HT.sIx n n hi - HT.sIx n 0 lo)).map (HT.sIx n 0 lo + ·) := by
  have h1 : (match lo with | none => (0 : Int) | some i => max 0 (min (if i < 0 then i + (n : Int) else i) n)) = ((HT.sIx n 0 lo : Nat) : Int) := by
    cases lo with
    | none => simp [HT.sIx]
    | some i =>
      simp only [HT.sIx]
      by_cases h : i < 0
      · simp only [h, if_true] <;> omega
      · simp only [h, if_false] <;> omega
  have h2 : (match hi with | none => (n : Int) | some i => max 0 (min (if i < 0 then i + (n : Int) else i) n)) = ((HT.sIx n n hi : Nat) : Int) := by
    cases hi with
    | none => simp [HT.sIx]
    | some i =>
      simp only [HT.sIx]
      by_cases h : i < 0
      · simp only [h, if_true] <;> omega
      · simp only [h, if_false] <;> omega
  rw [← sliceRange_one, ← h1, ← h2]
  cases lo <;> cases hi <;> rfl
theorem cutS_picked (x : Str) (l u : Option (Int × Tok)) : (⟨((slicePicked x l u none).filterMap (x.cps[·]?)).toArray⟩ : Str) = cutS x (l.map (·.1)) (u.map (·.1)) := by
  show (⟨((Builtin.Str.strSliceIndices (l.map (·.1)) (u.map (·.1)) 1 x.length).filterMap (x.cps[·]?)).toArray⟩ : Str) = _
  rw [sIdx, pick_run]
  rfl
theorem cutS_length (x : Str) (lo hi : Option Int) : (cutS x lo hi).length ≤ x.length := by
  show ((x.cps.toList.drop _).take _).toArray.size ≤ x.cps.size
  rw [List.size_toArray, List.length_take, List.length_drop]
  simp only [Array.length_toList]
  omega
theorem cutS_whole (x : Str) (l u : Option (Int × Tok)) (h : (slicePicked x l u none).length = x.length) : cutS x (l.map (·.1)) (u.map (·.1)) = x := by
  have h' : (Builtin.Str.strSliceIndices (l.map (·.1)) (u.map (·.1)) 1 x.length).length = x.length := h
  rw [sIdx, List.length_map, List.length_range] at h'
  have hs : HT.sIx x.length x.length (u.map (·.1)) ≤ x.length ∨ x.length < HT.sIx x.length x.length (u.map (·.1)) := by omega
  have hu : HT.sIx x.length x.length (u.map (·.1)) ≤ x.length := by
    cases u with
    | none => exact Nat.le_refl _
    | some p =>
      show (if p.1 < 0 then (p.1 + (x.length : Int)).toNat else min p.1.toNat x.length) ≤ x.length
      by_cases hp : p.1 < 0
      · rw [if_pos hp]; omega
      · rw [if_neg hp]; omega
  unfold cutS
  by_cases hx : x.length = 0
  · have e : x.cps.toList = [] := by
      have : x.cps.toList.length = 0 := by rw [Array.length_toList]; exact hx
      exact List.eq_nil_of_length_eq_zero this
    rw [e, List.drop_nil, List.take_nil]
    obtain ⟨c⟩ := x
    have e' : c = #[] := Array.toList_inj.mp (by simpa using e)
    rw [e']
  · have h0 : HT.sIx x.length 0 (l.map (·.1)) = 0 := by omega
    rw [h0, List.drop_zero, List.take_of_length_le (by rw [Array.length_toList]; show x.length ≤ _; omega)]
theorem part_of {v : Value} {o : Option Int} (p : IsPart v o) : ∃ l : Option (Int × Tok), partValue l = v ∧ l.map (·.1) = o := by
  cases p with
  | none => exact ⟨none, rfl, rfl⟩
  | int i t => exact ⟨some (i, t), rfl, rfl⟩
theorem sl_str {X : Cx} : SlR X (fun x lo hi H Q => ∃ z, x = .str z ∧ z.length ≤ sizeLine ∧ Q (.str (cutS z lo hi)) H) := by
  intro pins s σ H x v vl vu lo hi sl Q I rx hs pl pu h
  obtain ⟨z, rfl, hz, q⟩ := h
  obtain ⟨t, rfl⟩ := rx
  obtain ⟨l, rfl, rfl⟩ := part_of pl
  obtain ⟨u, rfl, rfl⟩ := part_of pu
  refine ⟨"str", _, slot_str_getitem.lookup, typeIs_str s z t, ?_⟩
  refine wpAny_getItem_str_slice (l := l) (u := u) (st := none) hs rfl ?_
  unfold sliceMade
  by_cases hw : (slicePicked z l u none).length = z.length
  · rw [if_pos (by simp [hw])]
    refine ⟨.str (cutS z (l.map (·.1)) (u.map (·.1))), H, I, ⟨t, by rw [cutS_whole z l u hw]⟩, q⟩
  · rw [if_neg (by simp [hw])]
    rw [cutS_picked]
    exact ⟨Nat.le_trans (cutS_length _ _ _) hz, .str (cutS z (l.map (·.1)) (u.map (·.1))), H, I.tok _, ⟨_, rfl⟩, q⟩
/-! ### methods of texts -/
end L2
set_option Elab.async false
set_option linter.all false
set_option maxRecDepth 100000
namespace Sw
open PySem PySem.NumText
/-! ### the figures of a number -/
/-! ### a number of a text -/
/-! ### a text cut at a sign -/
/-! ### what is read -/
end Sw
set_option Elab.async false
set_option linter.all false
set_option maxRecDepth 100000
namespace L2
open PySem PySem.Spec PyProof.Rows XH
section
variable {X : Cx} {a b e o : Expr} {es : List Expr} {t te to : TE} {ta : TA} {pos apos cpos : Pos} {x y : Str}
/-! ### a text with numbers and texts put in -/
/-! ### int(text), max(list), values of the file's top -/
theorem pe_globS {z : Str} {p : Pos} (hg : Gl X x) (h : ∃ t, X.mg x = some (.str z t)) (hd : (x == ("__debug__" : Str)) = false := by decide) : PE X (.Name x p) (tC (.str z)) := by
  obtain ⟨t, h⟩ := h
  exact pe_glob hg h ⟨t, rfl⟩ hd
theorem pe_globI {i : Int} {p : Pos} (hg : Gl X x) (h : ∃ t, X.mg x = some (.int i t)) (hd : (x == ("__debug__" : Str)) = false := by decide) : PE X (.Name x p) (tC (.int i)) := by
  obtain ⟨t, h⟩ := h
  exact pe_glob hg h ⟨t, rfl⟩ hd
/-! ### tuples of numbers that are alike -/
/-! ### a list walked in a comprehension -/
/-! ### split -/
/-! ### replace: the two texts must be made behind something else -/
end
end L2
set_option Elab.async false
set_option linter.all false
set_option maxRecDepth 100000
namespace L2
open PySem PySem.Spec PyProof.Rows XH
/-! ### a dict, walked key by key; while it is walked it is known to the object -/
theorem is_kV {P : Program} {w : World} {k : Key} {u : Value} (h : (mixKind P w).is k u = true) : RelV (kV k) u := by
  rcases keyIs_shape h with ⟨i, t, rfl, rfl⟩ | ⟨x, t, rfl, rfl⟩
  · exact ⟨t, rfl⟩
  · exact ⟨t, rfl⟩
theorem kv_at {κ : Type} : ∀ {kvs : List (κ × V)} {vs : List (κ × Value)} (r : KV kvs vs) (i : Nat) {k : κ} {x : V}, kvs[i]? = some (k, x) → ∃ u, vs[i]? = some (k, u) ∧ RelV x u
  | _, _, .nil, i, k, x, h => by simp at h
  | _, _, .cons (b := q) r t, 0, k, x, h => by
    simp at h
    subst h
    obtain ⟨q1, q2⟩ := q
    have e : k = q1 := r.1
    subst e
    exact ⟨q2, by simp, r.2⟩
  | _, _, .cons r t, i + 1, k, x, h => by
    obtain ⟨u, e, rx⟩ := kv_at t i (by simpa using h)
    exact ⟨u, by simpa using e, rx⟩
theorem frz_dict {X : Cx} {pins : List (Addr × Obj)} {σ : St} {H : Hp} {s : Shared} {a : Addr} {o : Obj} {kvs : List (Key × V)} {es0 : Array DictEntry} {ep : Nat} (I : Inv X pins σ H s) (h : H a = some (.frz o (.dK kvs))) (hd : o.data = .dict es0 ep) :
    ∃ vs, KV kvs vs ∧ s.heap.DictAt (mixKind X.prog X.w) a vs ep := by
  obtain ⟨ho, z, y, vs, rel, ob, es, ep', e, c, d, rest⟩ := (show ObjOk X.prog X.w H s.heap a (.frz o (.dK kvs)) from I.hok a _ h)
  rw [ho] at e
  cases e
  have e2 : ep' = ep := by rw [hd] at d; cases d; rfl
  subst e2
  exact ⟨vs, rel, o, es, ho, c, d, rest⟩
/-- nothing of the kind was known there at the entry -/
def NF (X : Cx) (a : Addr) : Prop := ∀ o u, X.H₀ a ≠ some (.frz o u)
theorem Inv.nf {X : Cx} {pins : List (Addr × Obj)} {σ : St} {H : Hp} {s : Shared} {a : Addr} {kvs : List (Key × V)} (I : Inv X pins σ H s) (h : H a = some (.dK kvs)) : NF X a := fun o u e => by
  have := I.base.frzs a o u e
  rw [h] at this
  cases this
theorem Inv.freeze {X : Cx} {pins : List (Addr × Obj)} {σ : St} {H : Hp} {s : Shared} {a : Addr} {kvs : List (Key × V)} {o : Obj} (I : Inv X pins σ H s) (h : H a = some (.dK kvs)) (ho : s.heap.get? a = some o) : Inv X pins σ (upd H a (.frz o (.dK kvs))) s := by
  refine I.un (H' := upd H a (.frz o (.dK kvs))) (h' := s.heap) (t' := s.toks) ⟨fun b ob q n _ _ => q, fun b ob q n _ _ => ⟨ob.slots, q⟩, fun b ob q n _ => ?_, fun b ob q _ => ⟨ob, q⟩, fun b xs q => ?_, fun b ob u q => ?_, fun b ps q => ⟨#[], ?_⟩⟩ ?_
  · rw [upd_ne (fun z => by subst z; rw [h] at n; cases n)]; exact n
  · rw [upd_ne (fun z => by subst z; rw [h] at q; cases q)]; exact q
  · rw [upd_ne (fun z => by subst z; rw [h] at q; cases q)]; exact q
  · rw [upd_ne (fun z => by subst z; rw [h] at q; cases q), q]; simp
  · intro b u q
    by_cases hb : b = a
    · subst hb
      rw [upd_same] at q
      cases q
      exact ⟨ho, (I.hok b _ h).stay (fun _ _ _ q => q) (fun c q => by rw [upd_ne (fun z => by subst z; rw [h] at q; cases q)]; exact q) fun c xs q => by rw [upd_ne (fun z => by subst z; rw [h] at q; cases q)]; exact q⟩
    · rw [upd_ne hb] at q
      exact (I.hok b _ q).stay (fun _ _ _ q => q) (fun c q => by rw [upd_ne (fun z => by subst z; rw [h] at q; cases q)]; exact q) fun c xs q => by rw [upd_ne (fun z => by subst z; rw [h] at q; cases q)]; exact q
theorem Inv.thaw {X : Cx} {pins : List (Addr × Obj)} {σ : St} {H : Hp} {s : Shared} {a : Addr} {kvs : List (Key × V)} {o : Obj} (I : Inv X pins σ H s) (h : H a = some (.frz o (.dK kvs))) (nf : NF X a) : Inv X pins σ (upd H a (.dK kvs)) s := by
  have hn : ∀ {b : Addr} {u : HO}, H b = some u → (∀ o' v, u ≠ .frz o' v) → upd H a (.dK kvs) b = some u := fun {b u} q n => by
    rw [upd_ne (fun z => by subst z; rw [h] at q; cases q; exact n _ _ rfl)]; exact q
  have hf : ∀ {b : Addr}, H b = none → upd H a (.dK kvs) b = none := fun {b} n => by
    rw [upd_ne (fun z => by subst z; rw [h] at n; cases n)]; exact n
  refine ⟨I.ok, I.os, I.bare, ⟨I.base.keep, I.base.slot, fun b ob q n hx => hf (I.base.free b ob q n hx), I.base.there, fun b xs q => hn (I.base.tups b xs q) (fun _ _ z => nomatch z), fun b ob u q => ?_, fun b ps q => ?_⟩, I.loc, I.cell, hf I.free, fun y c e => hf (I.freeC y c e), fun p hp => ?_, ?_, I.len⟩
  · have q' := I.base.frzs b ob u q
    rw [upd_ne (fun z => by subst z; exact nf _ _ q)]
    exact q'
  · obtain ⟨more, q'⟩ := I.base.tbls b ps q
    exact ⟨more, hn q' (fun _ _ z => nomatch z)⟩
  · obtain ⟨p1, p2, p3⟩ := I.pin p hp
    exact ⟨p1, hf p2, p3⟩
  · intro b u q
    by_cases hb : b = a
    · subst hb
      rw [upd_same] at q
      cases q
      obtain ⟨_, q2⟩ := (show ObjOk X.prog X.w H s.heap b (.frz o (.dK kvs)) from I.hok b _ h)
      exact ObjOk.stay (o := .dK kvs) q2 (fun _ _ _ q => q) (fun c q => hn q (fun _ _ z => nomatch z)) fun c xs q => hn q (fun _ _ z => nomatch z)
    · rw [upd_ne hb] at q
      exact (I.hok b _ q).stay (fun _ _ _ q => q) (fun c q => hn q (fun _ _ z => nomatch z)) fun c xs q => hn q (fun _ _ z => nomatch z)
section
variable {X : Cx} {tg : Expr}
end
def unf (X : Cx) (P : Hp → Prop) (H : Hp) : Prop := ∃ a o kvs, H a = some (.frz o (.dK kvs)) ∧ NF X a ∧ P (upd H a (.dK kvs))
def unfD (X : Cx) (D : Ends) : Ends := { nx := fun σ => unf X (D.nx σ), bk := fun σ => unf X (D.bk σ), ct := fun σ => unf X (D.ct σ), rt := fun v => unf X (D.rt v) }
/-- a loop over a dict -/
theorem ps_unf {X : Cx} {st : Stmt} {t : TS} (h : PS X st t) : PS X st (fun D σ H => t (unfD X D) σ H) := by
  intro pins s σ H D I q
  refine thn (h pins s σ H _ I q) fun f s1 q1 => ?_
  cases f with
  | next =>
    obtain ⟨σ', H', I', a, o, kvs, e, nf, p⟩ := q1
    exact ⟨σ', _, I'.thaw e nf, p⟩
  | brk =>
    obtain ⟨σ', H', I', a, o, kvs, e, nf, p⟩ := q1
    exact ⟨σ', _, I'.thaw e nf, p⟩
  | cont =>
    obtain ⟨σ', H', I', a, o, kvs, e, nf, p⟩ := q1
    exact ⟨σ', _, I'.thaw e nf, p⟩
  | ret u =>
    obtain ⟨v, σ', H', I', r, a, o, kvs, e, nf, p⟩ := q1
    exact ⟨v, σ', _, I'.thaw e nf, r, p⟩
end L2
set_option Elab.async false
set_option linter.all false
set_option maxRecDepth 100000
namespace L2
open PySem PySem.Spec PyProof.Rows XH
section
variable {X : Cx} {a b c d : Expr} {ta tb tc td : TE} {pos : Pos}
/-- a op1 b op2 c op3 d -/
def tChain3 (r r' r'' : R2) (ta tb tc td : TE) : TE := fun σ H Q => ta σ H fun x H1 => tb σ H1 fun y H2 => r x y H2 fun z H3 => ∃ k, z = .bl k ∧
  (if k = true then tc σ H3 fun w H4 => r' y w H4 fun z' H5 => ∃ k', z' = .bl k' ∧ (if k' = true then td σ H5 fun v H6 => r'' w v H6 Q else Q (.bl false) H5) else Q (.bl false) H3)
theorem pt_chain3 {o1 o2 o3 : CmpOp} {r r' r'' : R2} (h1 : OpR X (compareOp o1) r) (h2 : OpR X (compareOp o2) r') (h3 : OpR X (compareOp o3) r'') (ha : PE X a ta) (hb : PE X b tb) (hc : PE X c tc) (hd : PE X d td)
    (hm : lastMarks [o1, o2, o3] [b, c, d] = false := by with_unfolding_all rfl) : PT X (.Compare a [o1, o2, o3] [b, c, d] pos) (tTest (tChain3 r r' r'' ta tb tc td)) := by
  intro pins s σ H Q I h
  refine isTrue_chain (thn (ha pins s σ H _ I h) fun v s1 ⟨x, H1, I1, r1, q1⟩ => test_link (thn (hb pins s1 σ H1 _ I1 q1) fun u s2 ⟨y, H2, I2, r2, q2⟩ =>
    thn (h1 pins s2 σ H2 x y v u _ I2 r1 r2 q2) fun e1 s3 ⟨z, H3, I3, r3, k, e, q3⟩ => ?_)) hm
  subst e
  cases r3
  refine wpAny_truthy_bool ?_
  cases k with
  | false =>
    obtain ⟨k', e', q'⟩ := q3
    cases e'
    exact ite_ff ⟨H3, I3, q'⟩
  | true =>
    refine ite_tt (test_link (thn (hc pins s3 σ H3 _ I3 q3) fun w' s4 ⟨z', H4, I4, r4, q4⟩ => thn (h2 pins s4 σ H4 y z' u w' _ I4 r2 r4 q4) fun d' s5 ⟨z2, H5, I5, r5, k2, e2, q5⟩ => ?_))
    subst e2
    cases r5
    refine wpAny_truthy_bool ?_
    cases k2 with
    | false =>
      obtain ⟨k', e', q'⟩ := q5
      cases e'
      exact ite_ff ⟨H5, I5, q'⟩
    | true =>
      refine ite_tt (test_last (thn (hd pins s5 σ H5 _ I5 q5) fun w2 s6 ⟨z3, H6, I6, r6, q6⟩ => thn (h3 pins s6 σ H6 z' z3 w' w2 _ I6 r4 r6 q6) fun d2 s7 ⟨z4, H7, I7, r7, k3, e3, q7⟩ => ?_))
      subst e3
      cases r7
      exact wpAny_truthy_bool ⟨H7, I7, q7⟩
end
/-- dict(d) -/
theorem call_dictD {X : Cx} : CallR X (.type "dict") (fun xs H Q => ∃ (d : Addr) (kvs : List (Key × V)), xs = [.ref d] ∧ H d = some (.dK kvs) ∧ ∀ p, H p = none → Q (.ref p) (upd H p (.dK kvs))) := by
  intro pins s σ H xs us Q I r h
  obtain ⟨d, kvs, rfl, hd, q⟩ := h
  cases r with
  | cons r rr =>
    cases rr
    cases r
    obtain ⟨z, y, vs, rel, D⟩ := dk_of I.hok hd
    refine kt_call_dict y D (by rw [← rel.length]; exact z) fun h' hm hs => ?_
    have kp : ∀ b o, s.heap.get? b = some o → h'.get? b = some o := fun b o e => (hs.2 b (Nat.ne_of_lt (Heap.lt_size e))).trans (Heap.get?_push_of_some _ e)
    have big : (s.heap.objs.size == sysModules) = false := by
      have := I.big
      exact beq_eq_false_iff_ne.mpr (Nat.ne_of_gt this)
    exact ⟨.ref s.heap.objs.size, _, I.laid (o := .dK kvs) (t' := s.toks) kp (Nat.le_refl _) ⟨z, big, vs, rel, hm⟩, rfl, q _ I.fresh⟩
/-- d.items() -/
def rItems : V → List V → Hp → VK → Prop := fun x vs H Q => ∃ (d : Addr) (kvs : List (Key × V)), x = .ref d ∧ vs = [] ∧ H d = some (.dK kvs) ∧ ∀ v, H v = none → Q (.ref v) (upd H v (.ext fun h => h.IsItemsView v d))
theorem mt_items {X : Cx} : MtM X "dict.items" rItems := by
  intro pins s σ H x vs v us Q I rx rv h
  obtain ⟨d, kvs, rfl, rfl, hd, q⟩ := h
  cases rx
  have hus := rv.zero
  subst hus
  obtain ⟨z, y, ws, rel, D⟩ := dk_of I.hok hd
  refine call_meetsIn PySem.F.slot_dict_items D.typeIs PySem.F.entry_dict_items (PySem.F.args_dict_items_1 _) (meets_dict_items (mixKind X.prog X.w) d y) ⟨⟨ws, D⟩, ?_⟩
  refine ⟨.ref s.heap.objs.size, _, I.laid (o := .ext fun h => h.IsItemsView s.heap.objs.size d) (t' := s.toks) (fun b o e => Heap.get?_push_of_some _ e) (Nat.le_refl _) ⟨⟨_, Heap.get?_push_size _ rfl, rfl, rfl⟩, ⟨_, Heap.get?_push_size _ rfl⟩, fun h1 h2 ⟨o, e, c, f⟩ k => ⟨o, k o e, c, f⟩⟩, rfl, q _ I.fresh⟩
/-- the pairs of a dict, walked; while it is walked the dict is known to the object -/
def Itm (a : Addr) (o : Obj) (kvs : List (Key × V)) : It :=
  ⟨fun i H => H a = some (.frz o (.dK kvs)) ∧ i < kvs.length, fun i H v H' => ∃ (T : Addr) (k : Key) (x : V), v = .ref T ∧ H T = none ∧ kvs[i]? = some (k, x) ∧ H' = upd H T (.tup [kV k, x]), fun i H => H a = some (.frz o (.dK kvs)) ∧ i = kvs.length⟩
theorem entry_itemiter : entryFor table "dict_itemiterator.__iter__" = some Builtin.«dict_keyiterator.__iter__» :=
  entryFor_alias (id' := "dict_keyiterator.__iter__") (by kernel_rfl) rfl (by decide +kernel) (by kernel_rfl)
theorem iter_itemiter {prog : Program} {w : World} {A : Around} {E : Value → Shared → Prop} {s : Shared} {it d : Addr} {i n ep : Nat} {ok ov : Value} {Q : Value → Shared → Prop} (e : IsItemIter s.heap it d i n ep ok ov) (h : Q (.ref it) s) : wpAny (model prog w) A (pyIter (.ref it)) Q E s := by
  have T : s.TypeIs (.ref it) "dict_itemiterator" := ⟨_, e, rfl⟩
  refine wpAny_pyIter_slot T PySem.F.slot_dict_itemiterator_iter (wpAny_call_entry PySem.F.slot_dict_itemiterator_iter T entry_itemiter ?_ (PySem.F.args_dict_itemiterator_iter_1 _))
  exact (show wpAny _ _ (ret (.ref it)) _ _ s from wpAny_pure ⟨_, rfl, "dict_itemiterator", _, T, PySem.F.slot_dict_itemiterator_next.lookup, h⟩)
theorem turn_items {P : Program} {w : World} {K : PySem.W.Frag} {elts : List Expr} {kk : Nat} {pos : Pos} (it a : Addr) (o : Obj) (kvs : List (Key × V)) {es0 : Array DictEntry} {ep : Nat} (hd : o.data = .dict es0 ep) : Turn P w K (.Tuple elts kk pos) (Itm a o kvs) [it] it (fun i h => ∃ ok ov, IsItemIter h it a i kvs.length ep ok ov) where
  mem := by simp
  obj := fun i h st b hb => by
    have e : b = it := by simpa using hb
    subst e
    obtain ⟨ok, ov, e⟩ := st
    exact ⟨_, e, fun v z => by cases z⟩
  keep := fun i h h' st k => by
    obtain ⟨ok, ov, e⟩ := st
    exact ⟨ok, ov, k it (by simp) _ e⟩
  item := by
    intro X hP hw hK hc i pins s σ H E I hf st hg
    subst hP hw hK
    obtain ⟨hz, hlt⟩ := hg
    obtain ⟨vs, rel, D⟩ := frz_dict I hz hd
    obtain ⟨⟨k, x⟩, hx⟩ : ∃ p, kvs[i]? = some p := ⟨kvs[i], List.getElem?_eq_getElem hlt⟩
    obtain ⟨u, hu, ru⟩ := kv_at rel i hx
    obtain ⟨ok, ov, st'⟩ := st
    rw [rel.length] at st'
    refine wpAny_pyNext_items_item st' D hu fun key h1 hkey ho hT hsz hk => ?_
    refine ⟨_, rfl, wpAny_letOwnedTupleGo_items (s := { s with heap := h1 }) ho fun h2 he2 hs2 => ?_⟩
    have nT : H s.heap.objs.size = none := I.hok.fresh (Nat.le_refl _)
    have il : it < s.heap.objs.size := Heap.lt_size st'
    have hT2 : h2.get? s.heap.objs.size = some { cls := .type "tuple", data := .seq #[key, u] } := (hs2.2 _ (Nat.ne_of_gt il)).trans hT
    have kp : ∀ b o, b ∉ [it] → s.heap.get? b = some o → h2.get? b = some o := fun b o hb q => by
      simp at hb
      exact (hs2.2 b hb).trans (hk b o hb q)
    rw [← rel.length] at he2
    refine ⟨.ref s.heap.objs.size, upd H s.heap.objs.size (.tup [kV k, x]), I.turnedNew (t' := s.toks) (ch := [it]) hf kp (Nat.le_refl _) ⟨by show 2 ≤ sizeLine; decide, [key, u], .cons (is_kV hkey) (.cons ru .nil), ⟨_, hT2, rfl, 0, rfl⟩⟩, rfl,
      ⟨_, k, x, rfl, nT, hx, rfl⟩, ⟨_, _, he2⟩, fun b hb => ?_⟩
    have bl : b ≠ s.heap.objs.size := by
      rw [List.mem_singleton.mp hb]; exact Nat.ne_of_lt il
    rw [upd_ne bl]
    exact (hf b hb).1
  done := by
    intro X hP hw hK hc i pins s σ H E I hf st hg
    subst hP hw hK
    obtain ⟨hz, rfl⟩ := hg
    obtain ⟨vs, rel, D⟩ := frz_dict I hz hd
    obtain ⟨ok, ov, st'⟩ := st
    rw [rel.length] at st'
    refine wpAny_pyNext_items_end (I.ok.hd hc) st' D (by simp) fun h' he' => ⟨rfl, I.turnedAll (t' := s.toks) (ch := [it]) hf fun b o hb q => he' b o (fun z => hb (by simp [z])) q⟩
  self := fun A i s Q E st h => by
    obtain ⟨ok, ov, e⟩ := st
    exact iter_itemiter e h
def iItems (X : Cx) (tl : TE) : TI := fun σ H R => tl σ H fun x H1 => ∃ (v d : Addr) (kvs : List (Key × V)), x = .ref v ∧ H1 v = some (.ext fun h => h.IsItemsView v d) ∧ H1 d = some (.dK kvs) ∧ ∀ o, NF X d → R (Itm d o kvs) (upd H1 d (.frz o (.dK kvs)))
theorem pi_items {X : Cx} {l : Expr} {tl : TE} {elts : List Expr} {kk : Nat} {tp : Pos} (hl : PE X l tl) : PI X (.Tuple elts kk tp) l (iItems X tl) := by
  intro pins s σ H R I h
  refine thn (hl pins s σ H _ I h) fun u s1 ⟨x, H1, I1, r1, q1⟩ => ?_
  obtain ⟨v, a, kvs, rfl, hv, hk, q⟩ := q1
  cases r1
  obtain ⟨z, y, vs, rel, ob, es, ep, e, c, d, rest⟩ := (show ObjOk X.prog X.w H1 s1.heap a (.dK kvs) from I1.hok a _ hk)
  have D : s1.heap.DictAt (mixKind X.prog X.w) a vs ep := ⟨ob, es, e, c, d, rest⟩
  have I2 := I1.freeze hk e
  obtain ⟨view, _⟩ := (show ObjOk X.prog X.w H1 s1.heap v (.ext fun h => h.IsItemsView v a) from I1.hok v _ hv)
  refine wpAny_pyIter_items view D ?_
  refine ⟨s1.heap.objs.size, [s1.heap.objs.size], _, _, _, rfl, I2.kept (t' := s1.toks) fun b o e => Heap.get?_push_of_some _ e, turn_items _ a ob kvs d, ⟨_, _, by rw [rel.length]; exact Heap.get?_push_size _ rfl⟩, fun b hb => ?_, q ob (I1.nf hk)⟩
  have e : b = s1.heap.objs.size := by simpa using hb
  subst e
  exact I2.fpOk (Nat.le_refl _) (I2.hok.fresh (Nat.le_refl _))
end L2
set_option Elab.async false
set_option linter.all false
set_option maxRecDepth 100000
namespace So
open PySem PyProof.Rows
section
variable {prog : Program} {w : World} {A : Around} {E : Value → Shared → Prop} {s : Shared} {κ : KeyKind} {kd : SortKind}
end
end So
set_option Elab.async false
set_option linter.all false
set_option maxRecDepth 100000
namespace So
open PySem PyProof.Rows
section
variable {κ : KeyKind} {kd : SortKind} {a b out : Array Keyed} {ia ib : Nat}
end
end So
set_option Elab.async false
set_option linter.all false
set_option maxRecDepth 100000
namespace So
open PySem PyProof.Rows
section
variable {prog : Program} {w : World} {A : Around} {E : Value → Shared → Prop} {s : Shared} {κ : KeyKind} {kd : SortKind}
end
end So
set_option Elab.async false
set_option linter.all false
set_option maxRecDepth 100000
namespace So
open PySem PyProof.Rows
section
variable {κ : KeyKind} {kd : SortKind} {a b out : Array Keyed} {na nb : Nat}
end
section
variable {prog : Program} {w : World} {A : Around} {E : Value → Shared → Prop} {s : Shared} {κ : KeyKind} {kd : SortKind}
end
end So
set_option Elab.async false
set_option linter.all false
set_option maxRecDepth 100000
namespace So
open PySem PyProof.Rows
section
variable {prog : Program} {w : World} {A : Around} {E : Value → Shared → Prop} {s : Shared} {κ : KeyKind} {kd : SortKind}
end
section
variable {prog : Program} {w : World} {A : Around} {E : Value → Shared → Prop} {s : Shared} {κ : KeyKind} {kd : SortKind}
end
end So
set_option Elab.async false
set_option linter.all false
set_option maxRecDepth 100000
namespace So
open PySem PyProof.Rows
section
variable {prog : Program} {w : World} {A : Around} {E : Value → Shared → Prop} {s : Shared} {κ : KeyKind} {kd : SortKind}
end
end So
set_option Elab.async false
set_option linter.all false
set_option maxRecDepth 100000
namespace So
open PySem PyProof.Rows
section
variable {prog : Program} {w : World} {A : Around} {E : Value → Shared → Prop} {s : Shared} {κ : KeyKind} {kd : SortKind}
end
end So
set_option Elab.async false
set_option linter.all false
set_option maxRecDepth 100000
namespace So
open PySem PyProof.Rows
/-! ### the runs that wait -/
section
variable {κ : KeyKind} {kd : SortKind}
end
section
variable {prog : Program} {w : World} {A : Around} {E : Value → Shared → Prop} {s : Shared} {κ : KeyKind} {kd : SortKind}
end
end So
set_option Elab.async false
set_option linter.all false
set_option maxRecDepth 100000
namespace So
open PySem PyProof.Rows
section
variable {prog : Program} {w : World} {A : Around} {E : Value → Shared → Prop} {s : Shared} {κ : KeyKind} {kd : SortKind}
end
end So
set_option Elab.async false
set_option linter.all false
set_option maxRecDepth 100000
namespace So
open PySem PyProof.Rows
section
variable {prog : Program} {w : World} {A : Around} {E : Value → Shared → Prop} {s : Shared} {κ : KeyKind}
end
end So
set_option Elab.async false
set_option linter.all false
set_option maxRecDepth 100000
namespace Sw
open PySem L2 XH PySem.NumText
/-! ### texts and their signs -/
def sL (z : Str) : List Nat := z.cps.toList
def mkS (l : List Nat) : Str := ⟨l.toArray⟩
theorem sL_len (z : Str) : (sL z).length = z.length := by simp [sL, Str.length]
theorem sL_app (x y : Str) : sL (x ++ y) = sL x ++ sL y := by
  show (x.cps ++ y.cps).toList = _
  rw [Array.toList_append]
  rfl
theorem in_one (z : Str) (c : Nat) : (!(Builtin.Str.occurrences z (mkS [c]) 0 z.length 1).isEmpty) = decide (c ∈ sL z) := StrLaws.found_one z c
/-! ### a text split at a sign -/
/-! ### promises -/
end Sw
namespace Sw
open PySem L2 XH PySem.NumText
theorem nnT {b : Bool} {A B : Prop} (h1 : b = false → A) (h2 : b = true → B) : if (!b) = true then A else B := by
  cases b with
  | false => exact iteT (h1 rfl)
  | true => exact iteF (h2 rfl)
end Sw
namespace Sw
open PySem L2 XH PySem.NumText
end Sw
namespace Sw
open PySem L2 XH PySem.NumText
end Sw
namespace Sw
open PySem L2 XH PySem.NumText
end Sw
namespace Sw
open PySem L2 XH PySem.NumText
end Sw
set_option Elab.async false
set_option linter.all false
set_option maxRecDepth 100000
namespace L2
open PySem PySem.Spec PyProof.Rows XH
/-! ### list comprehensions with one test -/
def compIR (js : List Nat) (tc : TT) (te : TE) (σ : St) (Q : VK) : It → Hp → Prop := fun J H1 => ∀ p, H1 p = none → ∃ W : Nat → Nat → List V → Hp → Prop, (∃ m, W 0 m [] (upd H1 p (.lst []))) ∧
  ∀ i m ys H2, W i m ys H2 → H2 p = some (.lst ys) ∧ ((J.stop i H2 ∧ Q (.ref p) H2) ∨ (J.go i H2 ∧ ys.length < sizeLine ∧ ∀ x H3, J.yld i H2 x H3 → tc (some x :: freesOf js σ) H3 fun b H4 =>
    if b = true then te (some x :: freesOf js σ) H4 fun y H5 => H5 p = some (.lst ys) ∧ ∃ m', m' < m ∧ W (i + 1) m' (ys ++ [y]) (upd H5 p (.lst (ys ++ [y]))) else ∃ m', m' < m ∧ W (i + 1) m' ys H4))
def tCompIf (wi : TI) (js : List Nat) (tc : TT) (te : TE) : TE := fun σ H Q => wi σ H (compIR js tc te σ Q)
section
variable {prog : Program} {w : World} {A : Around} {R : Result → Shared → Prop} {s : Shared}
theorem compLoop_if {elt target iter cond : Expr} {scope : Scope} {pos : Pos} {it acc : Value} {env : Env} (I : Nat → Shared → Prop)
    (turn : ∀ n s, I n s → wpAny (model prog w) A (pyNext it) (fun r s1 => match r with
      | none => R (.ok .next) s1
      | some v => wpAny (model prog w) A (letOwnedTupleGo target it v) (fun _ s2 => wpAny (model prog w) A (assign target env v) (fun _ s3 => wpAny (model prog w) A (isTrue cond env (eval cond env)) (fun ok s4 =>
          if ok = true then wpAny (model prog w) A (eval elt env) (fun x s5 => wpAny (model prog w) A (call (.builtin "list.append") [acc, x]) (fun _ s6 => ∃ m, m < n ∧ I m s6) (fun _ _ => False) s5) (fun _ _ => False) s4
          else ∃ m, m < n ∧ I m s4) (fun _ _ => False) s3) (fun _ _ => False) s2) (fun _ _ => False) s1) (fun _ _ => False) s)
    (n : Nat) (h : I n s) : codeAny (model prog w) A (.compLoop (.ListComp elt [⟨target, iter, [cond], 0⟩] scope pos) 0 it acc env) R s := by
  apply codeAny_loop rfl I ?_ n h
  intro n s hI
  show wpAny _ _ ((compTurn (.ListComp elt [⟨target, iter, [cond], 0⟩] scope pos) 0 it acc env).onRaise _) _ _ s
  apply wpAny_noted
  rw [compTurn_list]
  apply wpAny_bind
  apply wpAny_standAt
  apply wpAny_bind
  refine wpAny_mono (turn n s hI) (fun r s1 h1 => ?_) fun _ _ z => z.elim
  cases r with
  | none => exact wpAny_pure h1
  | some v =>
    apply wpAny_bind
    refine wpAny_mono h1 (fun _ s2 h2 => ?_) fun _ _ z => z.elim
    apply wpAny_bind
    refine wpAny_mono h2 (fun _ s3 h3 => ?_) fun _ _ z => z.elim
    apply wpAny_bind
    refine wpAny_mono (wpAny_tests_one h3) (fun ok s4 h4 => ?_) fun _ _ z => z.elim
    cases ok with
    | true =>
      apply wpAny_bind
      apply wpAny_bind
      refine wpAny_mono h4 (fun x s5 h5 => ?_) fun _ _ z => z.elim
      apply wpAny_bind
      refine wpAny_mono h5 (fun _ s6 h6 => ?_) fun _ _ z => z.elim
      exact wpAny_pure (wpAny_pure ⟨rfl, h6⟩)
    | false =>
      have h4' : ∃ m, m < n ∧ I m s4 := h4
      exact wpAny_pure ⟨rfl, h4'⟩
end
section
variable {X : Cx} {scope : Scope} {cl : List (Str × Addr)} {own : Str} {ys : List Str} {js : List Nat} {elt iter cond : Expr} {px pos : Pos} {wi : TI} {te : TE} {tc : TT}
end
end L2
set_option Elab.async false
set_option linter.all false
set_option maxRecDepth 100000
namespace L2
open PySem PySem.Spec PyProof.Rows XH
/-! ### setdefault -/
section
variable {X : Cx}
end
/-! ### dicts that are alike -/
section
variable {prog : Program} {w : World} {κ : Type} [DecidableEq κ] {knd : KeyKind prog w κ} {A : Around} {E : Value → Shared → Prop} {s : Shared}
def LEq (prog : Program) (w : World) (A : Around) (s : Shared) (v y : Value) : Prop := ∀ (E : Value → Shared → Prop) (Q : Bool → Shared → Prop), Q true s → wpAny (model prog w) A (eqBool v y) Q E s
theorem same_all {nm : String} {a b : Addr} {ka kb : List (κ × Value)} {Q : Bool → Shared → Prop} (na : (a == sysModules) = false) (nb : (b == sysModules) = false)
    (da : s.heap.DictOf knd a ka) (db : s.heap.DictOf knd b kb) (hl : ka.length = kb.length) (hits : ∀ (i : Nat) (k : κ) (v : Value), ka[i]? = some (k, v) → ∃ y, valueAt kb k = some y ∧ LEq prog w A s v y) (q : Q true s) :
    wpAny (model prog w) A (Builtin.Dict.samePairs nm a b) Q E s := by
  obtain ⟨o1, t1, e1, g1, _, d1, k1, p1, _⟩ := da
  obtain ⟨o2, t2, e2, g2, _, d2, k2, p2, _⟩ := db
  have n1 : ka.length = t1.size := p1.length.symm.trans Array.length_toList
  have n2 : kb.length = t2.size := p2.length.symm.trans Array.length_toList
  have look : ∀ k, findBy knd.is t2 k = valueAt kb k := by
    intro k
    rw [← p2.find k]
    clear n2 p2 k2 d2 g2
    rcases t2 with ⟨l⟩
    simp [findBy]
  have sz : t1.size = t2.size := by rw [← n1, ← n2, hl]
  simp only [Builtin.Dict.samePairs, Builtin.Dict.showsAll, na, nb, Bool.false_eq_true, if_false]
  apply wpAny_bind
  apply wpAny_pure
  apply wpAny_bind
  apply wpAny_pure
  apply wpAny_bind
  apply wpAny_dictEntries g1 d1
  apply wpAny_bind
  apply wpAny_dictEntries g2 d2
  have ns : (t1.size != t2.size) = false := by simp [sz]
  rw [ns]
  apply wpAny_bind
  apply wpAny_dictEpoch g1 d1
  apply wpAny_bind
  rewrite [Std.Legacy.Range.forIn_eq_forIn_range']
  simp only [Nat.sub_zero, Nat.div_one, Nat.add_sub_cancel, Std.Legacy.Range.size]
  apply wpAny_forIn_list _ (fun rest r s' => s' = s ∧ r = (none, ()) ∧ ∃ i, rest = List.range' i (t1.size - i) ∧ i ≤ t1.size)
  case h => exact ⟨rfl, rfl, 0, by simp, Nat.zero_le _⟩
  case fin =>
    rintro r s' ⟨rfl, rfl, _⟩
    exact wpAny_pure q
  case turn =>
    rintro x rest r s' ⟨rfl, rfl, i, er, hi⟩
    have hlt : i < t1.size := by
      apply Nat.lt_of_not_le
      intro c
      rw [Nat.sub_eq_zero_of_le c] at er
      simp at er
    have one : t1.size - i = (t1.size - (i + 1)) + 1 := by omega
    rw [one, List.range'_succ] at er
    injection er with ex erest
    subst ex
    apply wpAny_bind
    apply wpAny_dictEntries g1 d1
    rw [Array.getElem?_eq_getElem hlt]
    have hlk : x < ka.length := by rw [n1]; exact hlt
    have hat : ka[x]? = some (ka[x].1, ka[x].2) := List.getElem?_eq_getElem hlk
    obtain ⟨y, hy, le⟩ := hits x _ _ hat
    obtain ⟨ky, vy⟩ := p1.get? (i := x) (e := t1[x]) (by rw [Array.getElem?_toList]; exact Array.getElem?_eq_getElem hlt) hat
    obtain ⟨k', hk', hh⟩ := k1 t1[x] (Array.getElem_mem hlt)
    rw [knd.inj _ _ _ hk' ky] at hh
    show wpAny _ _ (holding [t1[x].key, t1[x].val] _ >>= _) _ _ _
    rw [hh]
    apply wpAny_bind
    apply wpAny_holding
    apply wpAny_bind
    apply wpAny_dictFind_of ky g2 d2 k2
    have fnd := look ka[x].1
    rw [hy, findBy_of_findIdx?] at fnd
    cases hj : t2.findIdx? fun e => knd.is ka[x].1 e.key with
    | none => rw [hj] at fnd; cases fnd
    | some j =>
      obtain ⟨jlt, _⟩ := Array.findIdx?_eq_some_iff_getElem.mp hj
      rw [hj] at fnd
      have ev : t2[j].val = y := by simpa [Array.getElem?_eq_getElem jlt] using fnd
      apply wpAny_bind
      apply wpAny_dictEntries g2 d2
      rw [Array.getElem?_eq_getElem jlt]
      apply wpAny_holding
      rw [ev, vy]
      apply le
      apply wpAny_bind
      apply wpAny_dictEpoch g1 d1
      rw [if_neg (by simp)]
      exact wpAny_pure ⟨rfl, rfl, x + 1, erest, hlt⟩
theorem dict_eq {c d : Addr} {ka kb : List (κ × Value)} {Q : Value → Shared → Prop} (na : (c == sysModules) = false) (nb : (d == sysModules) = false) (da : s.heap.DictOf knd c ka) (db : s.heap.DictOf knd d kb) (hu : A.units < cLine)
    (hl : ka.length = kb.length) (hits : ∀ (i : Nat) (k : κ) (v : Value), ka[i]? = some (k, v) → ∃ y, valueAt kb k = some y ∧ LEq prog w A.in1 s v y) (q : Q (.bool true) s) : wpAny (model prog w) A (compareOp .Eq (.ref c) (.ref d)) Q E s := by
  apply wpAny_richCompare_same_room (op := .Eq) da.typeIs db.typeIs PySem.F.slot_dict_eq ?_ hu
  apply wpAny_call_entry PySem.F.slot_dict_eq da.typeIs PySem.F.entry_dict_eq ?_ (PySem.F.args_dict_eq_2 _ _)
  show wpAny _ _ (Builtin.Dict.dictSlotArgs "__eq__" ⟨[.ref c, .ref d], []⟩ >>= _) _ _ s
  apply wpAny_bind
  unfold Builtin.Dict.dictSlotArgs
  apply wpAny_bind
  apply wpAny_notOrdered_dict da.typeIs
  show wpAny _ _ (pure (Value.ref c, Value.ref d)) _ _ s
  apply wpAny_pure
  apply wpAny_bind
  apply wpAny_isInstance (T := "dict") db.typeIs PySem.F.sub_dict_dict
  simp only [if_false, Bool.not_true, Bool.false_eq_true]
  apply wpAny_bind
  apply wpAny_pure
  apply wpAny_bind
  apply wpAny_pure
  apply wpAny_bind
  apply same_all na nb da db hl hits
  exact wpAny_pure ⟨_, rfl, (fun z => nomatch z), q⟩
theorem dict_ne {c d : Addr} {ka kb : List (κ × Value)} {Q : Value → Shared → Prop} (na : (c == sysModules) = false) (nb : (d == sysModules) = false) (da : s.heap.DictOf knd c ka) (db : s.heap.DictOf knd d kb) (hu : A.units < cLine)
    (hl : ka.length = kb.length) (hits : ∀ (i : Nat) (k : κ) (v : Value), ka[i]? = some (k, v) → ∃ y, valueAt kb k = some y ∧ LEq prog w A.in1 s v y) (q : Q (.bool false) s) : wpAny (model prog w) A (compareOp .NotEq (.ref c) (.ref d)) Q E s := by
  apply wpAny_richCompare_same_room (op := .NotEq) da.typeIs db.typeIs PySem.F.slot_dict_ne ?_ hu
  apply wpAny_call_entry PySem.F.slot_dict_ne da.typeIs PySem.F.entry_dict_ne ?_ (PySem.F.args_dict_ne_2 _ _)
  show wpAny _ _ (Builtin.Dict.dictSlotArgs "__ne__" ⟨[.ref c, .ref d], []⟩ >>= _) _ _ s
  apply wpAny_bind
  unfold Builtin.Dict.dictSlotArgs
  apply wpAny_bind
  apply wpAny_notOrdered_dict da.typeIs
  show wpAny _ _ (pure (Value.ref c, Value.ref d)) _ _ s
  apply wpAny_pure
  apply wpAny_bind
  apply wpAny_isInstance (T := "dict") db.typeIs PySem.F.sub_dict_dict
  simp only [if_false, Bool.not_true, Bool.false_eq_true]
  apply wpAny_bind
  apply wpAny_pure
  apply wpAny_bind
  apply wpAny_pure
  apply wpAny_bind
  apply same_all na nb da db hl hits
  exact wpAny_pure ⟨_, rfl, (fun z => nomatch z), q⟩
end
end L2
set_option Elab.async false
set_option linter.all false
set_option maxRecDepth 100000
namespace L2
open PySem PySem.Spec PyProof.Rows XH
/-! ### list(reversed(xs)) -/
theorem lri_len : typeLookup (.type "list_reverseiterator") "__len__" = pure none := by
  rw [typeLookup_type, builtinLookup_eq_fast]
  kernel_rfl
theorem lri_hint : typeLookup (.type "list_reverseiterator") "__length_hint__" = pure (some (.builtin "list_reverseiterator.__length_hint__")) := by
  rw [typeLookup_type, builtinLookup_eq_fast]
  kernel_rfl
section
variable {prog : Program} {w : World} {A : Around} {R : Result → Shared → Prop} {s : Shared} {I l S : Addr} {items : Array Value}
abbrev RevP (items : Array Value) : Nat → Value → Prop := fun i v => items[items.size - 1 - i]? = some v
theorem rev_extend (hh : A.in1.handled = none) (hlI : l ≠ I) (hSI : S ≠ I) (hSl : S ≠ l) (res : Value) (c : Nat) (hit : s.heap.IsRevIter I l ((items.size : Int) - 1)) (hl : s.heap.IsList l items)
    (hS : s.heap.get? S = some { cls := .type "list", data := .seq #[] c }) (hn : items.size ≤ sizeLine)
    (fin : ∀ s' acc c', Moved [S, I] (fun a b => b = a) s s' → s'.heap.get? S = some { cls := .type "list", dict := none, data := .seq acc c', slots := #[] } → ItemsOf (RevP items) acc items.size → R (.ok (.ret res)) s') :
    wpAny (model prog w) A.in1 (Builtin.List.listExtendWith (.ref S) (.ref I) res)
      (fun fin s' => match fin with | .done f => R (.ok f) s' | .again c' => c'.quiet = true ∧ codeAny (model prog w) A c' R s') (fun e s' => R (.error e) s') s := by
  have ty : s.TypeIs (.ref I) "list_reverseiterator" := hit.typeIs
  have ns : Builtin.List.listSameRef (.ref S) (.ref I) = false := by
    simp [Builtin.List.listSameRef, hSI]
  unfold Builtin.List.listExtendWith
  apply wpAny_bind
  apply wpAny_typeOf ty
  rw [if_neg (by rw [ns]; decide)]
  apply wpAny_bind
  apply wpAny_pyIter_revIter hit
  apply wpAny_bind
  apply wpAny_holding
  unfold Builtin.List.listLengthHint
  apply wpAny_bind
  apply wpAny_specialOf ty lri_len
  show wpAny _ _ (specialOf (Value.ref I) (Str.ofString "__length_hint__") >>= _) _ _ s
  apply wpAny_bind
  apply wpAny_specialOf ty lri_hint
  generalize hid : ("list_reverseiterator.__length_hint__" : String) = id0
  wp_delta
  rw [show splitId id0 = some ("list_reverseiterator", "__length_hint__") from by subst hid; decide +kernel]
  subst hid
  apply wpAny_bind
  refine wpAny_isInstance (b := true) ty (by rw [isSubtype_type]; kernel_rfl) ?_
  apply wpAny_pure
  rw [if_neg (by decide)]
  have W := (Walks.listRev (prog := prog) (w := w) hh I l hlI items).toS
  have out : S ∉ [I, l] := by
    simp only [List.mem_cons, List.not_mem_nil, or_false, not_or]
    exact ⟨hSI, hSl⟩
  have st : (0 : Nat) ≤ items.size ∧ s.heap.IsRevIter I l ((items.size : Int) - 1 - ((0 : Nat) : Int)) ∧ s.heap.IsList l items := ⟨Nat.zero_le _, by simpa using hit, hl⟩
  apply wpAny_pure
  refine ⟨plainId_quiet PySem.F.plain_extend_loop _, ?_⟩
  exact codeAny_extend_loopS W hn S out res items.size 0 s #[] c rfl (Nat.zero_le _) st hS (ItemsOf.nil _) fin
theorem list_rev {E : Value → Shared → Prop} {Q : Value → Shared → Prop} (hh : A.handled = none) (hlI : l ≠ I) (hit : s.heap.IsRevIter I l ((items.size : Int) - 1)) (hl : s.heap.IsList l items) (hn : items.size ≤ sizeLine)
    (fin : ∀ h' tk acc c', (∀ b o, b ≠ I → s.heap.get? b = some o → h'.get? b = some o) → h'.get? s.heap.objs.size = some { cls := .type "list", dict := none, data := .seq acc c', slots := #[] } → ItemsOf (RevP items) acc items.size → Q (.ref s.heap.objs.size) { s with heap := h', toks := tk }) :
    wpAny (model prog w) A (call (.type "list") [.ref I]) Q E s := by
  have lI : I < s.heap.objs.size := by
    obtain ⟨o, e, _⟩ := hit
    exact Heap.lt_size e
  have ll : l < s.heap.objs.size := by
    obtain ⟨o, e, _⟩ := hl
    exact Heap.lt_size e
  refine callType_codes (Q₁ := fun v s1 => v = .ref s.heap.objs.size ∧ s1 = { s with heap := s.heap.push { cls := .type "list", data := .seq #[] } }) PySem.F.called_list (PySem.F.typeCall_list_1 _) PySem.F.entry_list_init (code_list_new _ ⟨rfl, rfl⟩) ?_
  rintro v s1 ⟨rfl, rfl⟩
  have e0 : (s.heap.push { cls := .type "list", data := .seq #[] }).get? s.heap.objs.size = some { cls := .type "list", data := .seq #[] } := Heap.get?_push_size _ rfl
  refine ⟨⟨_, e0, rfl⟩, PySem.F.args_list_init_2 _ _, ?_⟩
  show wpAny _ _ (Builtin.List.listItems (.ref s.heap.objs.size) >>= fun old => Builtin.List.listUpdate (.ref s.heap.objs.size) (fun _ => #[]) >>= fun _ => letGo old.toList.reverse >>= fun _ => Builtin.List.listExtendWith (.ref s.heap.objs.size) (.ref I) .none) _ _ _
  apply wpAny_bind
  unfold Builtin.List.listItems
  apply wpAny_bind
  apply wpAny_seqItems e0 rfl
  apply wpAny_pure
  show wpAny _ _ (updateSeq s.heap.objs.size (fun _ => #[]) >>= fun _ => letGo (#[] : Array Value).toList.reverse >>= fun _ => Builtin.List.listExtendWith (.ref s.heap.objs.size) (.ref I) .none) _ _ _
  apply wpAny_bind
  apply wpAny_updateSeq e0 rfl
  have e1 := Heap.get?_update_self (Obj.mapSeq (fun _ => (#[] : Array Value))) e0 rfl
  have old : ∀ b o, b ≠ s.heap.objs.size → s.heap.get? b = some o → ((s.heap.push { cls := .type "list", data := .seq #[] }).update s.heap.objs.size (Obj.mapSeq (fun _ => (#[] : Array Value)))).get? b = some o := fun b o hb e =>
    (Heap.get?_update_other _ _ (Ne.symm hb)).trans (Heap.get?_push_of_some _ e)
  apply wpAny_bind
  apply wpAny_letGo
  refine rev_extend (A := A.in1) (by simpa using hh) hlI (Nat.ne_of_gt lI) (Nat.ne_of_gt ll) .none _ ?_ ?_ e1 hn fun s' acc c' mv eS it => ?_
  · obtain ⟨o, e, z⟩ := hit
    exact ⟨o, old _ _ (Nat.ne_of_lt lI) e, z⟩
  · obtain ⟨o, e, z⟩ := hl
    exact ⟨o, old _ _ (Nat.ne_of_lt ll) e, z⟩
  · obtain ⟨h', g', d', tk', os'⟩ := s'
    have eg : g' = s.gens := mv.gens
    have ed : d' = s.drawn := mv.drawn
    have eo : os' = s.os := mv.os
    subst eg ed eo
    refine ⟨rfl, fin h' tk' acc c' (fun b o hb e => ?_) eS it⟩
    refine mv.heap b o ?_ (old b o (Nat.ne_of_lt (Heap.lt_size e)) e)
    simp only [List.mem_cons, List.not_mem_nil, or_false, not_or]
    exact ⟨Nat.ne_of_lt (Heap.lt_size e), hb⟩
end
theorem vals_rev : ∀ {xs : List V} {us : List Value}, Vals xs us → Vals xs.reverse us.reverse
  | _, _, .nil => .nil
  | _, _, .cons r t => by
    rw [List.reverse_cons, List.reverse_cons]
    exact (vals_rev t).append (.cons r .nil)
theorem items_rev {us : List Value} {acc : Array Value} (h : ItemsOf (RevP us.toArray) acc us.toArray.size) : acc.toList = us.reverse := by
  obtain ⟨h1, h2⟩ := h
  refine List.ext_getElem? fun i => ?_
  by_cases hi : i < acc.size
  · have e := h2 i acc[i] (Array.getElem?_eq_getElem hi)
    rw [Array.getElem?_toList, Array.getElem?_eq_getElem hi, List.getElem?_reverse (by simpa [h1] using hi)]
    simpa using e.symm
  · rw [List.getElem?_eq_none (by simpa using hi), List.getElem?_eq_none (by rw [List.length_reverse]; simp [h1] at hi; omega)]
def tRev (K : PySem.W.Frag) (te : TE) : TE := fun σ H Q => te σ H fun x H1 => ∃ a xs, x = .ref a ∧ SqL K H1 a xs ∧ ∀ l, H1 l = none → Q (.ref l) (upd H1 l (.lst xs.reverse))
section
variable {X : Cx} {e : Expr} {te : TE} {p1 p2 pos pos2 : Pos}
theorem pe_listRev (hc : X.calm = true) (g1 : Gl X "list") (m1 : X.mg "list" = none) (g2 : Gl X "reversed") (m2 : X.mg "reversed" = none) (b1 : bootBuiltins "list" = some (.type "list")) (b2 : bootBuiltins "reversed" = some (.type "reversed")) (he : PE X e te)
    (hs : starEach [e] X.env = [(false, eval e X.env)] := by rfl) :
    PE X (.Call (.Name "list" p1) [.Call (.Name "reversed" p2) [e] [] pos2] [] pos) (tRev X.K te) := by
  intro pins s σ H Q I h
  apply wpAny_Call_Name_kw
  refine ld_blt I g1 m1 b1 ?_ (by decide) (by decide)
  refine PyProof.Rows.callWith_type1 ?_ rfl rfl
  refine Calls.spliced_cons (x := eval (.Call (.Name "reversed" p2) [e] [] pos2) X.env) (rest := []) ?_
  apply wpAny_Call_Name_kw
  refine ld_blt I g2 m2 b2 ?_ (by decide) (by decide)
  refine PyProof.Rows.callWith_type1 ?_ hs rfl
  rw [hs]
  refine Calls.spliced_cons (x := eval e X.env) (rest := []) (thn (he pins s σ H _ I h) fun v s1 ⟨x, H1, I1, r1, a, xs, ex, hq, q⟩ => ?_)
  subst ex
  cases r1
  apply Calls.spliced_nil
  obtain ⟨its, rv, pl, hz⟩ := I1.list hq
  have hli : s1.heap.IsList a its.toArray := pl.isList
  have alt : a < s1.heap.objs.size := by
    obtain ⟨o, eo, _⟩ := id hli
    exact Heap.lt_size eo
  apply call_reversed_list hli
  apply Calls.spliced_nil
  have I2 : Inv X pins σ H1 { s1 with heap := s1.heap.push (revObj a ((its.toArray.size : Int) - 1)), toks := s1.toks } := I1.kept fun b o e => Heap.get?_push_of_some _ e
  have sz : its.toArray.size = xs.length := by rw [List.size_toArray, rv.length]
  refine list_rev (l := a) (items := its.toArray) (I.ok.hd hc) (Nat.ne_of_lt alt) ⟨_, Heap.get?_push_size _ rfl, rfl, rfl⟩ (hli.push _) (by rw [sz]; exact hz) fun h' tk acc c' kp eL itm => ?_
  have er := items_rev itm
  have sl : s1.heap.objs.size ≤ (s1.heap.push (revObj a ((its.toArray.size : Int) - 1))).objs.size := by
    rw [Heap.size_push]
    exact Nat.le_succ _
  refine ⟨.ref _, _, I1.laid (a := (s1.heap.push (revObj a ((its.toArray.size : Int) - 1))).objs.size) (o := .lst xs.reverse) (h' := h') (t' := tk) (fun b o eo => kp b o (Nat.ne_of_lt (Heap.lt_size eo)) (Heap.get?_push_of_some _ eo)) sl ?_, rfl, q _ (I1.hok.fresh sl)⟩
  refine ⟨by rw [List.length_reverse]; exact hz, acc.toList, c', by rw [er]; exact vals_rev rv, ?_⟩
  rw [Array.toArray_toList]
  exact eL
end
end L2
set_option Elab.async false
set_option linter.all false
set_option maxRecDepth 100000
namespace L2
open PySem PySem.Spec PyProof.Rows XH
/-! ### set(xs) of texts and numbers that are all unlike -/
section
variable {prog : Program} {w : World} {A : Around} {R : Result → Shared → Prop} {I : Addr} {fp wr : List Addr} {G : Array GenState → Array GenState → Prop} {n : Nat} {P : Nat → Value → Prop} {St : Nat → Shared → Prop}
end
section
variable {prog : Program} {w : World} {A : Around} {E : Value → Shared → Prop} {s : Shared}
end
end L2
namespace L2
open PySem PySem.Spec PyProof.Rows XH
/-! ### len(set(xs)) -/
section
variable {X : Cx} {e : Expr} {te : TE} {p1 p2 pos pos2 : Pos}
end
end L2
set_option Elab.async false
set_option linter.all false
set_option maxRecDepth 100000
namespace L2
open PySem PySem.Spec PyProof.Rows XH
end L2
namespace Sw
open PySem L2
/-! ### what parts lead to -/
/-! ### dicts with one value for all keys -/
/-! ### how many of a list are not yet there -/
/-! ### a list of pairs -/
end Sw
namespace Sw
open PySem L2
end Sw
set_option Elab.async false
set_option linter.all false
set_option maxRecDepth 100000
namespace Sw
open PySem L2
/-! ### parts as a dict of dicts -/
/-! ### as it lies in the heap -/
end Sw
set_option Elab.async false
set_option linter.all false
set_option maxRecDepth 100000
namespace Sw
open PySem L2
/-! ### all that is in a good, each with the one ahead of it -/
end Sw
set_option Elab.async false
set_option linter.all false
set_option maxRecDepth 100000
namespace Sw
open PySem L2
/-! ### a way down, kept from its end -/
end Sw
set_option Elab.async false
set_option linter.all false
set_option maxRecDepth 100000
namespace L2
open PySem PySem.Spec PyProof.Rows XH
section
variable {X : Cx} {scope : Scope} {cl : List (Str × Addr)} {own : Str} {ys : List Str} {js : List Nat} {elt iter cond : Expr} {px pos : Pos} {wi : TI} {te : TE} {tc : TT}
theorem ps_compIf {i : Nat} {y : Str} {py spos : Pos} (hN : X.N.Nodup) (hi' : X.N[i]? = some y) (hy : X.env.scope.names.lookup y = some .local) (hc : X.calm = true) (ok : CompOk X scope cl own ys js) (hi : PI X (.Name own px) iter wi)
    (hq : ∀ (C : Addr) (fp : List Addr) (s : Shared) (H : Hp), PT (X.block scope cl C (own :: ys) own fp s H) cond tc)
    (he : ∀ (C : Addr) (fp : List Addr) (s : Shared) (H : Hp), PE (X.block scope cl C (own :: ys) own fp s H) elt te)
    (hsw : swapsWith (.ListComp elt [⟨.Name own px, iter, [cond], 0⟩] scope pos) (some (.Name y py)) spos.line X.env = pure true := by rfl) (hs : ∀ x, foldedSetIterable iter X.env x = pure x := by intro _; rfl) :
    PS X (.Assign [.Name y py] (.ListComp elt [⟨.Name own px, iter, [cond], 0⟩] scope pos) spos) (tAsg (tCompIf wi js tc te) (gName i)) := by
  intro pins s σ H D I h
  have ncell : ∀ y ∈ scope.names, y.2 ≠ .cell := fun y hy z => by
    have q := List.all_eq_true.mp ok.nocell y hy
    rw [z] at q
    simp at q
  have nloc : ∀ y ∈ scope.names, y.2 = .local → scope.names.lookup y.1 = some .local := fun y hy z => by
    have q := List.all_eq_true.mp ok.loc y hy
    rw [z] at q
    simpa using q
  show wpAny _ _ (exec _ X.env) _ _ _
  rw [exec_Assign_Name_used _ _ _ _ hsw]
  refine wpAny_bind (wpAny_standAt (wpAny_bind ?_))
  show wpAny _ X.A (do let _ ← comprehension (.ListComp elt [⟨.Name own px, iter, [cond], 0⟩] scope pos) scope X.env _ (newList []) false (eval iter X.env) (some (assign (.Name y py) X.env))) _ _ s
  refine wpAny_bind (wpAny_mono (wpAny_comprehension_free (use := some (assign (.Name y py) X.env)) (Q := fun _ s' => SP X pins D .next s') rfl hs ok.clos ok.kind nloc (thn (hi pins s σ H _ I h) fun v s1 h1 => thn h1 fun itv s2 h2 => ?_)) (fun _ s' hq => wpAny_pure (wpAny_pure hq)) fun _ _ e => e)
  obtain ⟨it, fp, tn, J, H2, rfl, I2, T, st2, f2, q2⟩ := h2
  obtain ⟨W, ⟨m0, w0⟩, turn⟩ := q2 s2.heap.objs.size (I2.hok.fresh (Nat.le_refl _))
  refine wpAny_newObj_type (wpAny_newFunctionEnv ncell (by intro y hy; simp at hy) (fun h1 hns hsb => ?_) ok.kind)
  have I3 := I2.laid (a := s2.heap.objs.size) (o := .lst []) (h' := s2.heap.push { cls := .type "list", dict := none, data := .seq ([] : List Value).toArray }) (t' := s2.toks) (fun b u q => Heap.get?_push_of_some _ q) (Nat.le_refl _)
    ⟨Nat.zero_le _, [], 0, .nil, Heap.get?_push_size _ rfl⟩
  have fpo : ∀ b ∈ fp, b < s2.heap.objs.size := fun b hb => by
    obtain ⟨o, e, _⟩ := T.obj 0 _ st2 b hb
    exact Heap.lt_size e
  have f3 : ∀ b ∈ fp, FpOk X pins (upd H2 s2.heap.objs.size (.lst [])) b := fun b hb => ⟨by rw [upd_ne (Nat.ne_of_lt (fpo b hb))]; exact (f2 b hb).1, (f2 b hb).2⟩
  generalize hs3 : ({ s2 with heap := s2.heap.push { cls := .type "list", dict := none, data := .seq ([] : List Value).toArray }, toks := s2.toks } : Shared) = s3 at I3
  have e3 : s3.heap = s2.heap.push { cls := .type "list", dict := none, data := .seq ([] : List Value).toArray } := by rw [← hs3]
  have lt3 : ∀ b ∈ fp, b < s3.heap.objs.size := fun b hb => by rw [e3, Heap.size_push]; exact Nat.lt_succ_of_lt (fpo b hb)
  dsimp only at hns hsb ⊢
  rw [← e3] at hns hsb
  have hk : ∀ b o, s3.heap.get? b = some o → h1.get? b = some o := fun b o e => hsb.extBut b o (Nat.ne_of_lt (Heap.lt_size e)) (Heap.get?_push_of_some _ e)
  have J0 := block_start (h1 := h1) ok I3 f3 lt3 hns hk (s2.toks + 0)
  have t0 : tn 0 h1 := T.keep 0 _ _ st2 fun b hb o e => hk b o (by rw [e3]; exact Heap.get?_push_of_some _ e)
  have fpB : ∀ {H' : Hp}, (∀ b ∈ fp, H' b = none) → ∀ b ∈ fp, FpOk (X.block scope cl s3.heap.objs.size (own :: ys) own fp s3 (upd H2 s2.heap.objs.size (.lst []))) [] H' b := fun {H'} hn b hb =>
    ⟨hn b hb, Nat.ne_of_lt (lt3 b hb), fun z => (List.mem_cons.mp (I3.stkSub b z)).elim (f3 b hb).2.1 (f3 b hb).2.2.1, .inl hb, fun x c e => (f3 b hb).2.2.2.2.1 x c (ok.sub (x, c) (PySem.mem_of_lookup e)), fun p hp => absurd (show p ∈ ([] : List (Addr × Obj)) from hp) (by simp)⟩
  have loop : codeAny (model X.prog X.w) X.A (.compLoop (.ListComp elt [⟨.Name own px, iter, [cond], 0⟩] scope pos) 0 (.ref it) (.ref s2.heap.objs.size) (compEnvC scope cl s3.heap.objs.size X.env))
      (compPost (model X.prog X.w) X.A X.xe (some (assign (.Name y py) X.env)) (fun _ s' => SP X pins D .next s') (.ref s2.heap.objs.size) s3.heap.objs.size) { s3 with heap := h1, toks := s2.toks + 0 } := by
    refine compLoop_if (fun n s' => ∃ i zs o0 H', Inv (X.block scope cl s3.heap.objs.size (own :: ys) own fp s3 (upd H2 s2.heap.objs.size (.lst []))) [] (o0 :: freesOf js σ) H' s' ∧ tn i s'.heap ∧ (∀ b ∈ fp, H' b = none) ∧ W i n zs H') ?_ m0
      ⟨0, [], none, _, J0, t0, fun b hb => (f3 b hb).1, w0⟩
    rintro n s5 ⟨i, zs, o0, H5, I5, t5, n5, w5⟩
    obtain ⟨hD, hw⟩ := turn i n zs H5 w5
    rcases hw with ⟨stop, qn⟩ | ⟨go, hz, step⟩
    · refine thn (T.done (X.block scope cl s3.heap.objs.size (own :: ys) own fp s3 (upd H2 s2.heap.objs.size (.lst []))) rfl rfl rfl hc i [] s5 _ H5 (fun _ _ => False) I5 (fpB n5) t5 stop) fun r s6 ⟨hr, I6⟩ => ?_
      subst hr
      obtain ⟨m, hn, _⟩ := id I6.loc
      have J : Inv X pins σ H5 s6 := block_end (h' := s6.heap) I3 f3 I6 (Heap.SameBut.refl _ _)
      have fC := I3.fpOk (Nat.le_refl _) (show H5 s3.heap.objs.size = none from I6.free)
      obtain ⟨k0, k1, k2, k3, k4, k5⟩ := fC
      show wpAny _ X.A (assign (.Name y py) X.env (.ref s2.heap.objs.size)) _ _ _
      refine wpAny_assign_Name (store_ok2 (v := .ref s2.heap.objs.size) J hN hi' (.inl hy) rfl (fun s7 I7 hsb => ?_) (.inr hy))
      obtain ⟨a', sb, ha⟩ := hsb
      have ne : s3.heap.objs.size ≠ a' := by
        rcases ha with z | z
        · rw [z]; exact k1
        · exact fun w => k4 _ _ z w.symm
      exact ⟨m, hn.sameBut sb ne, fun h' hs' => ⟨_, H5, I7.turned (t' := s7.toks) (fun b o hb e => (hs'.2 b hb).trans e) k0 k1 k3 k4 k5, qn⟩⟩
    · refine thn (T.item (X.block scope cl s3.heap.objs.size (own :: ys) own fp s3 (upd H2 s2.heap.objs.size (.lst []))) rfl rfl rfl hc i [] s5 _ H5 (fun _ _ => False) I5 (fpB n5) t5 go) fun r s6 ⟨u, hr, h6⟩ => ?_
      subst hr
      refine thn h6 fun _ s7 ⟨x, H7, I7, r7, y7, t7, n7⟩ => ?_
      have I7' := I7.pinned (fpB n7) (T.obj _ _ t7)
      have hst := step x H7 y7
      have own' : (relabel scope X.env).names.lookup own = some .local := lookup_relabel_local ok.ownL
      refine thn (pg_name (X := X.block scope cl s3.heap.objs.size (own :: ys) own fp s3 (upd H2 s2.heap.objs.size (.lst []))) (i := 0) (x := own) (pos := px) ok.nd rfl (.inl own') (.inr own') _ s7 _ H7 x u (fun σ' H' => σ' = some x :: freesOf js σ ∧ H' = H7) I7' r7 ⟨rfl, rfl⟩) fun _ s8 ⟨σ8, H8, I8, e8, eH8⟩ => ?_
      subst e8 eH8
      refine thn (hq _ _ _ _ _ s8 _ H8 _ I8 hst) fun ok s9 ⟨H9, I9, h9⟩ => ?_
      have frame : ∀ {s' : Shared} {H' : Hp}, Inv (X.block scope cl s3.heap.objs.size (own :: ys) own fp s3 (upd H2 s2.heap.objs.size (.lst []))) ([] ++ pinsAt fp s7.heap) (some x :: freesOf js σ) H' s' → tn (i + 1) s'.heap ∧ ∀ b ∈ fp, H' b = none := fun {s' H'} I' =>
        ⟨T.keep _ _ _ t7 fun b hb o e => (I'.pin (b, o) (List.mem_append_right _ (List.mem_append_right _ (mem_pinsAt hb e)))).1, fun b hb => by
          obtain ⟨o, e, d⟩ := T.obj _ _ t7 b hb
          exact (I'.pin (b, o) (List.mem_append_right _ (List.mem_append_right _ (mem_pinsAt hb e)))).2.1⟩
      cases ok with
      | true =>
        refine thn (he _ _ _ _ _ s9 _ H9 _ I9 h9) fun yv s10 ⟨y, H10, I10, r10, hD10, m', hm, w10⟩ => ?_
        refine thn (mt_append _ s10 _ H10 (.ref s2.heap.objs.size) [y] (.ref s2.heap.objs.size) [yv] (fun _ H' => H' = upd H10 s2.heap.objs.size (.lst (zs ++ [y]))) I10 rfl (.cons r10 .nil) ⟨_, zs, y, rfl, rfl, hD10, hz, rfl⟩) fun _ s11 ⟨_, H11, I11, _, e11⟩ => ?_
        subst e11
        exact ⟨m', hm, i + 1, zs ++ [y], some x, _, I11.unpinned, (frame I11).1, (frame I11).2, w10⟩
      | false =>
        obtain ⟨m', hm, w10⟩ := h9
        exact ⟨m', hm, i + 1, zs, some x, _, I9.unpinned, (frame I9).1, (frame I9).2, w10⟩
  subst hs3
  exact codeAny_compStart_list loop (T.self _ 0 _ _ _ t0 loop)
end
end L2
set_option Elab.async false
set_option linter.all false
set_option maxRecDepth 100000
namespace L2
open PySem PySem.Spec PyProof.Rows XH
/-! ### x == [] -/
theorem op_eqNil {X : Cx} (hu : X.A.units < cLine) : OpR X (compareOp .Eq) (fun x y H Q => ∃ a b zs, x = .ref a ∧ y = .ref b ∧ SqL X.K H a zs ∧ SqL X.K H b [] ∧ Q (.bl zs.isEmpty) H) := by
  intro pins s σ H x y v u Q I rx ry h
  obtain ⟨a, b, zs, rfl, rfl, h1, h2, hq⟩ := h
  cases rx
  cases ry
  obtain ⟨i1, r1, p1, _⟩ := I.list h1
  obtain ⟨i2, r2, p2, _⟩ := I.list h2
  cases r2
  cases zs with
  | nil =>
    cases r1
    refine SeqAt.eq_listAt (e := fun _ => true) p1.isList p2.isList rfl hu (fun j g1 g2 => absurd g1 (by simp)) ?_
    exact ⟨.bl true, H, I, by show Value.bool _ = Value.bool _; simp, hq⟩
  | cons z zs =>
    cases r1 with
    | cons r rr =>
      refine SeqAt.eq_list_lengthsAt p1.isList p2.isList (by simp) hu ?_
      exact ⟨.bl false, H, I, rfl, hq⟩
/-! ### comprehensions with a test that changes nothing -/
end L2
namespace Sw
open PySem L2 PyProof.Rows
/-! ### dicts of dicts that are alike -/
theorem paired_at {α β : Type} {F : α → β → Prop} : ∀ {l : List α} {m : List β}, Paired F l m → ∀ {i : Nat} {b : β}, m[i]? = some b → ∃ a, l[i]? = some a ∧ F a b
  | _, _, .nil, i, b, h => by simp at h
  | _, _, .cons r t, 0, b, h => by simp at h; subst h; exact ⟨_, rfl, r⟩
  | _, _, .cons r t, i + 1, b, h => by
    obtain ⟨a, h1, h2⟩ := paired_at t (i := i) (by simpa using h)
    exact ⟨a, by simpa using h1, h2⟩
theorem leq_same {prog : Program} {w : World} {A : Around} {s : Shared} (v : Value) : LEq prog w A s v v := fun E Q q => SeqAt.EqAt.same v prog w E Q q
theorem leq_refs {prog : Program} {w : World} {A : Around} {s : Shared} {a b : Addr} (h : a ≠ b → ∀ (E : Value → Shared → Prop) (Q : Value → Shared → Prop), Q (.bool true) s → wpAny (model prog w) A (compareOp .Eq (.ref a) (.ref b)) Q E s) : LEq prog w A s (.ref a) (.ref b) := fun E Q q => by
  by_cases e : a = b
  · subst e
    exact leq_same _ E Q q
  · unfold eqBool
    refine wpAny_holding ?_
    refine wpAny_ite_split (fun hab => absurd (by have := eq_of_beq hab; injection this) e) (fun _ => ?_)
    exact wpAny_bind (h e E _ (wpAny_truthy_bool q))
/-! ### a way down to one of the goals -/
end Sw
set_option Elab.async false
set_option linter.all false
set_option maxRecDepth 100000
namespace Sw
open PySem L2 PyProof.Rows
end Sw
set_option Elab.async false
set_option linter.all false
set_option maxRecDepth 100000
namespace L2
open PySem PySem.Spec PyProof.Rows XH Sw So
end L2
set_option Elab.async false
set_option linter.all false
set_option maxRecDepth 100000
namespace So
open PySem PySem.Spec PyProof.Rows
end So
set_option Elab.async false
set_option linter.all false
set_option maxRecDepth 100000
namespace So
open PySem PyProof.Rows
section
variable {prog : Program} {w : World} {A : Around} {E : Value → Shared → Prop} {s : Shared} {κ : KeyKind} {kd : SortKind}
end
end So
set_option Elab.async false
set_option linter.all false
set_option maxRecDepth 100000
namespace L2
open PySem PySem.Spec PyProof.Rows XH Sw So
section
variable {prog : Program} {w : World} {A : Around} {E : Value → Shared → Prop} {s : Shared}
end
end L2
set_option Elab.async false
set_option linter.all false
set_option maxRecDepth 100000
namespace L2
open PySem PySem.Spec PyProof.Rows XH Sw So
end L2
set_option Elab.async false
set_option linter.all false
namespace Hm
/-! ### things of a heap, by their numbers; the order of them -/
abbrev Ky := List Int
/-! ### the heap -/
end Hm
set_option Elab.async false
set_option linter.all false
set_option maxRecDepth 100000
namespace Hm
open PySem PySem.SeqAt PySem.MeetsSeq
/-! ### less than, of tuples of whole numbers -/
section
variable {prog : Program} {w : World} {A : Around} {E : Value → Shared → Prop} {s : Shared}
end
end Hm
set_option Elab.async false
set_option linter.all false
set_option maxRecDepth 100000
namespace L2
open PySem PySem.Spec PyProof.Rows XH Sw So Hm
/-! ### things: whole numbers, or tuples of such -/
section
variable {prog : Program} {w : World} {A : Around} {E : Value → Shared → Prop} {s : Shared}
end
end L2
set_option Elab.async false
set_option linter.all false
set_option maxRecDepth 100000
namespace L2
open PySem PySem.Spec PyProof.Rows XH
section
variable {X : Cx} {scope : Scope} {cl : List (Str × Addr)} {own : Str} {ys : List Str} {js : List Nat} {elt iter : Expr} {px pos : Pos} {wi : TI} {te : TE}
end
end L2
set_option Elab.async false
set_option linter.all false
set_option maxRecDepth 100000
namespace L2
open PySem PySem.Spec PyProof.Rows XH
section
variable {X : Cx}
end
end L2
namespace Sw
open PySem L2 XH PySem.NumText
/-! ### a row's words, sign by sign -/
end Sw
set_option Elab.async false
set_option linter.all false
set_option maxRecDepth 100000
namespace L2
open PySem PySem.Spec PyProof.Rows XH Sw So Hm
/-- x != [] -/
theorem op_neNil {X : Cx} (hu : X.A.units < cLine) : OpR X (compareOp .NotEq) (fun x y H Q => ∃ a b zs, x = .ref a ∧ y = .ref b ∧ SqL X.K H a zs ∧ SqL X.K H b [] ∧ Q (.bl (!zs.isEmpty)) H) := by
  intro pins s σ H x y v u Q I rx ry h
  obtain ⟨a, b, zs, rfl, rfl, h1, h2, hq⟩ := h
  cases rx
  cases ry
  obtain ⟨i1, r1, p1, _⟩ := I.list h1
  obtain ⟨i2, r2, p2, _⟩ := I.list h2
  cases r2
  cases zs with
  | nil =>
    cases r1
    refine SeqAt.RcNeAt.lists (e := fun _ => true) p1.isList p2.isList rfl hu (fun j g1 g2 => absurd g1 (by simp)) _ _ _ _ ?_
    exact ⟨.bl false, H, I, by show Value.bool _ = Value.bool _; simp, hq⟩
  | cons z zs =>
    cases r1 with
    | cons r rr =>
      refine SeqAt.RcNeAt.lists_lengths p1.isList p2.isList (by simp) hu _ _ _ _ ?_
      exact ⟨.bl true, H, I, rfl, hq⟩
theorem cut_take {xs : List V} {c : Nat} (h : c ≤ xs.length) : cutV xs none (some (c : Int)) = xs.take c := by
  have e1 : HT.sIx xs.length 0 none = 0 := rfl
  have e2 : HT.sIx xs.length xs.length (some (c : Int)) = c := by
    show (if (c : Int) < 0 then ((c : Int) + (xs.length : Int)).toNat else min (c : Int).toNat xs.length) = c
    rw [if_neg (by omega)]
    omega
  unfold cutV
  rw [e1, e2, List.drop_zero, Nat.sub_zero]
theorem cut_drop {xs : List V} {c : Nat} (h : c ≤ xs.length) : cutV xs (some (c : Int)) none = xs.drop c := by
  have e1 : HT.sIx xs.length 0 (some (c : Int)) = c := by
    show (if (c : Int) < 0 then ((c : Int) + (xs.length : Int)).toNat else min (c : Int).toNat xs.length) = c
    rw [if_neg (by omega)]
    omega
  have e2 : HT.sIx xs.length xs.length none = xs.length := rfl
  unfold cutV
  rw [e1, e2, List.take_of_length_le (by rw [List.length_drop]; omega)]
end L2
namespace Sw
open PySem L2 XH Hm
section
variable {X : Cx} {k j : Nat} {f C : Addr} {ps : List Str} {sp : Sp} {dvs : List V} {x m : Str} {p pos apos : Pos} {e o : Expr} {es : List Expr} {ta tb : TE} {t : TA} {E : L2.St → XK}
end
/-! ### a heap that is kept in a list -/
theorem at_zero {xs : List V} {i : Nat} {v : V} (h : xs[i]? = some v) : atI xs (0 + (i : Int)) = some v := by
  rw [Int.zero_add]
  exact atI_nat h
end Sw
set_option Elab.async false
set_option linter.all false
set_option maxRecDepth 100000
namespace L2
open PySem PySem.Spec PyProof.Rows XH Sw Hm
end L2
namespace Sw
open PySem L2 XH Hm
/-! ### nets and plans: what lies at the addresses -/
def Ref2 {α : Type} (R : Addr → α → Prop) (as : List Addr) (xs : List α) : Prop := as.length = xs.length ∧ ∀ (i : Nat) (a : Addr) (x : α), as[i]? = some a → xs[i]? = some x → R a x
theorem Ref2.imp {α : Type} {R S : Addr → α → Prop} {as : List Addr} {xs : List α} (h : Ref2 R as xs) (f : ∀ a x, R a x → S a x) : Ref2 S as xs := ⟨h.1, fun i a x e1 e2 => f a x (h.2 i a x e1 e2)⟩
theorem Ref2.nil {α : Type} {R : Addr → α → Prop} : Ref2 R [] ([] : List α) := ⟨rfl, fun i a x e => by simp at e⟩
/-- a list of tuples of numbers -/
def TupsA (H : Hp) (l : Addr) (ks : List Ky) : Prop := ∃ as : List Addr, H l = some (.lst (as.map V.ref)) ∧ Ref2 (fun t k => H t = some (.tup (k.map V.int))) as ks
theorem TupsA.same {H H' : Hp} {l : Addr} {ks : List Ky} (h : TupsA H l ks) (g : Same H H') : TupsA H' l ks := by
  obtain ⟨as, e, r⟩ := h
  exact ⟨as, g _ _ e, r.imp fun a k q => g _ _ q⟩
end Sw
set_option Elab.async false
set_option linter.all false
set_option maxRecDepth 100000
namespace L2
open PySem PySem.Spec PyProof.Rows XH
theorem call_lenD1 {X : Cx} : CallR X (.builtin "len") (fun xs H Q => ∃ (d : Addr) (kvs : List (Key × V)), xs = [.ref d] ∧ H d = some (.dK kvs) ∧ Q (.int kvs.length) H) := by
  intro pins s σ H xs us Q I r h
  obtain ⟨d, kvs, rfl, hd, q⟩ := h
  obtain ⟨u, rfl, ru⟩ := vals1 r
  cases ru
  exact d_len I (.inl hd) fun t s' I' => ⟨.int kvs.length, H, I', ⟨t, rfl⟩, q⟩
theorem ix_tupB {X : Cx} {K : PySem.W.Frag} (h : X.K = K) : IxR X (rIxT K) := by
  subst h
  exact ix_tup
theorem call_listB {X : Cx} {K : PySem.W.Frag} (h : X.K = K) : CallR X (.type "list") (fun xs H Q => ∃ p ys, xs = [.ref p] ∧ (SqL K H p ys ∨ SqT K H p ys) ∧ ∀ l, H l = none → Q (.ref l) (upd H l (.lst ys))) := by
  subst h
  exact call_list_of
theorem boot_dict1 : bootBuiltins "dict" = some (.type "dict") := by kernel_rfl
end L2
namespace Sw
open PySem L2 XH Hm
def netF (td tl al pl n : V) : List (Str × V) := putF "moments" n (putF "apart" pl (putF "arcs" al (putF "tasks" tl (putF "tools" td []))))
theorem netF_at {td tl al pl n : V} : (netF td tl al pl n).lookup ("tools" : Str) = some td ∧ (netF td tl al pl n).lookup ("tasks" : Str) = some tl ∧ (netF td tl al pl n).lookup ("arcs" : Str) = some al ∧ (netF td tl al pl n).lookup ("apart" : Str) = some pl ∧ (netF td tl al pl n).lookup ("moments" : Str) = some n := by
  unfold netF
  refine ⟨?_, ?_, ?_, ?_, ?_⟩
  · rw [lookup_putF, if_neg (by decide), lookup_putF, if_neg (by decide), lookup_putF, if_neg (by decide), lookup_putF, if_neg (by decide), lookup_putF, if_pos rfl]
  · rw [lookup_putF, if_neg (by decide), lookup_putF, if_neg (by decide), lookup_putF, if_neg (by decide), lookup_putF, if_pos rfl]
  · rw [lookup_putF, if_neg (by decide), lookup_putF, if_neg (by decide), lookup_putF, if_pos rfl]
  · rw [lookup_putF, if_neg (by decide), lookup_putF, if_pos rfl]
  · rw [lookup_putF, if_pos rfl]
/-- nothing is changed but at x -/
def Fx (x : Addr) (H H' : Hp) : Prop := ∀ a o, a ≠ x → H a = some o → H' a = some o
theorem Fx.of {x : Addr} {H H' : Hp} (g : Same H H') : Fx x H H' := fun a o _ h => g a o h
theorem Fx.put (x : Addr) (H : Hp) (o : HO) : Fx x H (upd H x o) := fun a u n h => by rw [upd_ne n]; exact h
theorem Fx.trans {x : Addr} {H H1 H2 : Hp} (a : Fx x H H1) (b : Fx x H1 H2) : Fx x H H2 := fun c o n h => b c o n (a c o n h)
theorem TupsA.fx {x : Addr} {H H' : Hp} {l : Addr} {ks : List Ky} {C dx : Addr} {fs : List (Str × V)} (h : TupsA H l ks) (ex : H x = some (.ins C dx fs)) (g : Fx x H H') : TupsA H' l ks := by
  obtain ⟨as, e, r⟩ := h
  exact ⟨as, g _ _ (ne_of e ex (by intro z; cases z)) e, r.imp fun a k q => g _ _ (ne_of q ex (by intro z; cases z)) q⟩
end Sw
set_option Elab.async false
set_option linter.all false
set_option maxRecDepth 100000
namespace L2
open PySem PySem.Spec PyProof.Rows XH
section
variable {X : Cx} {scope : Scope} {cl : List (Str × Addr)} {os : List Str} {ys : List Str} {js : List Nat} {fp : List Addr} {pins : List (Addr × Obj)} {σ : St} {H : Hp} {s s4 : Shared}
end
section
variable {X : Cx} {scope : Scope} {cl : List (Str × Addr)} {os : List Str} {ys : List Str} {js : List Nat} {elt iter tg : Expr} {px pos : Pos} {wi : TI} {te : TE} {g : TG}
end
end L2

namespace Sw
open PySem L2 XH
end Sw
set_option Elab.async false
set_option linter.all false
set_option maxRecDepth 100000
namespace L2
open PySem PySem.Spec PyProof.Rows XH
section
variable {X : Cx} {scope : Scope} {cl : List (Str × Addr)} {os : List Str} {ys : List Str} {js : List Nat} {elt iter tg : Expr} {px pos : Pos} {wi : TI} {te : TE} {g : TG}
end
end L2
set_option Elab.async false
set_option linter.all false
set_option maxRecDepth 100000
namespace Sw
open PySem L2 XH
/-! ### packs -/
end Sw
namespace L2
open PySem PySem.Spec PyProof.Rows
end L2
namespace Sw
open PySem L2 XH
end Sw
set_option Elab.async false
set_option linter.all false
set_option maxRecDepth 100000
namespace Sw
open PySem L2 XH
/-! ### many needs: tops, bottoms, and how many figures of two a bottom has -/
end Sw
set_option Elab.async false
set_option linter.all false
set_option maxRecDepth 100000
namespace Sw
open PySem L2 XH
end Sw
namespace L2
open PySem PySem.Spec PyProof.Rows
end L2
set_option Elab.async false
set_option linter.all false
set_option maxRecDepth 100000
namespace Sw
open PySem L2 XH
/-! ### steps: their fields -/
/-! ### rounds -/
end Sw
set_option Elab.async false
set_option linter.all false
set_option maxRecDepth 100000
namespace L2
open PySem PySem.Spec PyProof.Rows XH
section
variable {X : Cx}
end
/-! ### things alike, of any depth -/
def All2 (R : V → V → Prop) : List V → List V → Prop
  | [], [] => True
  | x :: xs, y :: ys => R x y ∧ All2 R xs ys
  | _, _ => False
theorem All2.len {R : V → V → Prop} : ∀ {xs ys : List V}, All2 R xs ys → xs.length = ys.length
  | [], [], _ => rfl
  | _ :: _, _ :: _, h => by simp [All2.len h.2]
  | [], _ :: _, h => h.elim
  | _ :: _, [], h => h.elim
def Alk (K : PySem.W.Frag) (H : Hp) : Nat → V → V → Prop
  | 0, x, y => x = y ∧ Smp x
  | n + 1, x, y => Alk K H n x y ∨ ∃ a b xs ys, x = .ref a ∧ y = .ref b ∧ ((SqT K H a xs ∧ SqT K H b ys) ∨ (SqL K H a xs ∧ SqL K H b ys)) ∧ All2 (Alk K H n) xs ys
theorem all2_eq {A : Around} {s : Shared} {R : V → V → Prop} (hR : ∀ x y u w, R x y → RelV x u → RelV y w → SeqAt.EqAt A s u w true) : ∀ {xs ys : List V} {us ws : List Value}, All2 R xs ys → Vals xs us → Vals ys ws → ∀ j (h1 : j < us.length) (h2 : j < ws.length), SeqAt.EqAt A s us[j] ws[j] true
  | [], [], _, _, _, .nil, .nil, j, h1, _ => absurd h1 (by simp)
  | _ :: _, _ :: _, _, _, h, .cons r1 _, .cons r2 _, 0, _, _ => hR _ _ _ _ h.1 r1 r2
  | _ :: _, _ :: _, _, _, h, .cons _ t1, .cons _ t2, j + 1, h1, h2 => all2_eq hR h.2 t1 t2 j (by simpa using h1) (by simpa using h2)
theorem alk_eq {X : Cx} {pins : List (Addr × Obj)} {σ : St} {H : Hp} {s : Shared} (I : Inv X pins σ H s) : ∀ (n : Nat) (A : Around) (x y : V) (u w : Value), A.units + n < cLine → Alk X.K H n x y → RelV x u → RelV y w → SeqAt.EqAt A s u w true
  | 0, A, x, y, u, w, _, h, r1, r2 => by
    obtain ⟨rfl, hs⟩ := h
    exact eqat_smp hs r1 r2
  | n + 1, A, x, y, u, w, hu, h, r1, r2 => by
    rcases h with h | ⟨a, b, xs, ys, rfl, rfl, hq, hA⟩
    · exact alk_eq I n A x y u w (by omega) h r1 r2
    cases r1
    cases r2
    by_cases e : a = b
    · subst e
      exact SeqAt.EqAt.same _
    refine SeqAt.EqAt.of_refs e ?_
    have ih := fun x y u w => alk_eq I n A.in1 x y u w (by show A.units + 1 + n < _; omega)
    rcases hq with ⟨h1, h2⟩ | ⟨h1, h2⟩
    · obtain ⟨i1, v1, p1, _⟩ := I.tuple h1
      obtain ⟨i2, v2, p2, _⟩ := I.tuple h2
      have k := SeqAt.RcAt.tuples (A := A) (e := fun _ => true) p1 p2 (by omega) fun j g1 g2 => all2_eq (A := A.in1) (s := s) ih hA v1 v2 j (by simpa using g1) (by simpa using g2)
      have e1 : ∀ m, ((List.range m).all fun _ => true) = true := fun m => by simp
      rw [e1] at k
      simpa [← v1.length, ← v2.length, hA.len] using k
    · obtain ⟨i1, v1, p1, _⟩ := I.list h1
      obtain ⟨i2, v2, p2, _⟩ := I.list h2
      have k := SeqAt.RcAt.lists (A := A) (e := fun _ => true) p1.isList p2.isList (by simp [← v1.length, ← v2.length, hA.len]) (by omega) fun j g1 g2 => all2_eq (A := A.in1) (s := s) ih hA v1 v2 j (by simpa using g1) (by simpa using g2)
      have e1 : ∀ m, ((List.range m).all fun _ => true) = true := fun m => by simp
      rw [e1] at k
      exact k
theorem op_eqA {X : Cx} (n : Nat) (hu : X.A.units + (n + 1) < cLine) : OpR X (compareOp .Eq) (fun x y H Q => ∃ a b xs ys, x = .ref a ∧ y = .ref b ∧ SqL X.K H a xs ∧ SqL X.K H b ys ∧ All2 (Alk X.K H n) xs ys ∧ Q (.bl true) H) := by
  intro pins s σ H x y v u Q I rx ry h
  obtain ⟨a, b, xs, ys, rfl, rfl, h1, h2, hA, hq⟩ := h
  cases rx
  cases ry
  obtain ⟨i1, v1, p1, _⟩ := I.list h1
  obtain ⟨i2, v2, p2, _⟩ := I.list h2
  refine SeqAt.eq_listAt (e := fun _ => true) p1.isList p2.isList (by simp [← v1.length, ← v2.length, hA.len]) (by omega) (fun j g1 g2 => ?_) ?_
  · exact all2_eq (A := X.A.in1) (s := s) (fun x y u w => alk_eq I n X.A.in1 x y u w (by show X.A.units + 1 + n < _; omega)) hA v1 v2 j (by simpa using g1) (by simpa using g2)
  · exact ⟨.bl true, H, I, by show Value.bool _ = Value.bool _; simp, hq⟩
end L2
namespace Sw
open PySem L2 XH
/-! ### recipes -/
end Sw
set_option Elab.async false
set_option linter.all false
set_option maxRecDepth 100000
namespace L2
open PySem PySem.Spec PyProof.Rows XH Sw So
end L2
namespace Sw
open PySem L2 XH Hm
/-! ### breaches: lists of tuples (text, number) -/
end Sw
namespace L2
open PySem PySem.Spec PyProof.Rows XH Sw Hm
end L2
namespace Sw
open PySem L2 XH Hm
/-! ### plans -/
theorem getDo {α : Type} {xs : List α} {i : Nat} {v d : α} (h : xs[i]? = some v) : xs.getD i d = v := by rw [List.getD_eq_getElem?_getD, h]; rfl
theorem refs_at {as : List Addr} {i : Nat} {y : V} (h : (as.map V.ref)[i]? = some y) : ∃ a, as[i]? = some a ∧ y = .ref a := by
  rw [List.getElem?_map] at h
  obtain ⟨a, e, rfl⟩ := Option.map_eq_some_iff.mp h
  exact ⟨a, e, rfl⟩
theorem map_at {α : Type} {f : α → V} {xs : List α} {i : Nat} {x : α} (h : xs[i]? = some x) : (xs.map f)[i]? = some (f x) := by rw [List.getElem?_map, h]; rfl
end Sw
set_option Elab.async false
set_option linter.all false
set_option maxRecDepth 100000
namespace Sw
open PySem L2 XH Hm
/-! ### the law on turns and arcs: what its own defs promise -/
def Dwn (z : Int) : Prop := 0 ≤ z ∧ z < 2147483629
theorem dn_at {ns : List Int} {i : Nat} (h : ∀ z ∈ ns, Dwn z) (hi : i < ns.length) : ∃ z, ns[i]? = some z ∧ Dwn z := ⟨_, List.getElem?_eq_getElem hi, h _ (List.getElem_mem hi)⟩
theorem fm {a n : Int} (h : 0 < n) : 0 ≤ a.fmod n ∧ a.fmod n < n := ⟨Int.fmod_nonneg_of_pos a h, Int.fmod_lt_of_pos a h⟩
theorem all2_at {R : V → V → Prop} : ∀ {xs ys : List V}, xs.length = ys.length → (∀ (i : Nat) (x y : V), xs[i]? = some x → ys[i]? = some y → R x y) → All2 R xs ys
  | [], [], _, _ => trivial
  | x :: xs, y :: ys, hl, h => ⟨h 0 x y rfl rfl, all2_at (by simpa using hl) fun i a b e1 e2 => h (i + 1) a b (by simpa using e1) (by simpa using e2)⟩
  | [], _ :: _, hl, _ => by simp at hl
  | _ :: _, [], hl, _ => by simp at hl
theorem made_keep2 {H1 H' : Hp} {x dx : Addr} {C : Addr} (nx : H1 x = none) (nd : H1 dx = none) (h : ∀ a o, a ≠ x → upd (upd H1 dx (.own x)) x (.ins C dx []) a = some o → H' a = some o) : Same H1 H' := fun a o e => by
  have ax : a ≠ x := fun z => by rw [z, nx] at e; cases e
  have ad : a ≠ dx := fun z => by rw [z, nd] at e; cases e
  exact h a o ax (by rw [upd_ne ax, upd_ne ad]; exact e)
end Sw
set_option Elab.async false
set_option linter.all false
set_option maxRecDepth 100000
namespace L2
open PySem PySem.Spec PyProof.Rows XH Sw Hm
end L2
namespace Sw
open PySem L2 XH Hm
end Sw
set_option Elab.async false
set_option linter.all false
set_option maxRecDepth 100000
namespace L2
open PySem PySem.Spec PyProof.Rows XH Sw Hm
section
variable {X : Cx} {pins : List (Addr × Obj)} {σ : St} {H : Hp} {s : Shared}
end
end L2
set_option Elab.async false
set_option linter.all false
set_option maxRecDepth 100000
namespace L2
open PySem PySem.Spec PyProof.Rows XH Sw Hm
theorem cut_dropB {xs : List V} {c : Nat} : cutV xs (some (c : Int)) none = xs.drop c := by
  by_cases h : c ≤ xs.length
  · exact cut_drop h
  · rw [List.drop_eq_nil_of_le (by omega)]
    apply List.eq_nil_of_length_eq_zero
    unfold cutV
    rw [List.length_take, List.length_drop]
    have : HT.sIx xs.length 0 (some (c : Int)) = xs.length := by
      show (if (c : Int) < 0 then ((c : Int) + (xs.length : Int)).toNat else min (c : Int).toNat xs.length) = xs.length
      rw [if_neg (by omega)]
      omega
    rw [this]
    omega
end L2
namespace Sw
open PySem L2 XH Hm
end Sw
set_option Elab.async false
set_option linter.all false
set_option maxRecDepth 100000
namespace L2
open PySem PySem.Spec PyProof.Rows XH Sw Hm
end L2
namespace Sw
open PySem L2 XH Hm
theorem lenOf1 {α : Type} {P : List α → Prop} (h : ∀ a, P [a]) : ∀ us : List α, us.length = 1 → P us
  | [a], _ => h a
theorem lenOf2 {α : Type} {P : List α → Prop} (h : ∀ a b, P [a, b]) : ∀ us : List α, us.length = 2 → P us
  | [a, b], _ => h a b
theorem lenOf3 {α : Type} {P : List α → Prop} (h : ∀ a b c, P [a, b, c]) : ∀ us : List α, us.length = 3 → P us
  | [a, b, c], _ => h a b c
theorem lenOf4 {α : Type} {P : List α → Prop} (h : ∀ a b c d, P [a, b, c, d]) : ∀ us : List α, us.length = 4 → P us
  | [a, b, c, d], _ => h a b c d
end Sw
set_option Elab.async false
set_option linter.all false
set_option maxRecDepth 100000
namespace Sw
open PySem L2 XH Hm
/-- a def as it lies -/
abbrev FnAt (K : PySem.W.Frag) (f : Addr) (n q : Str) (st : Stmt) (dV : Value) : Prop := ∃ (oc : Value) (od : Option Addr) (kV dc pm : Value) (an : Option Addr) (cd ct : Value) (sl : Array (Option Value)), K.lookup f = some ⟨oc, od, .func (PySem.W.fnOf n q (defArgs st) (defBody st) (defScope st) dV kV dc pm an cd ct), sl⟩ ∧ PySem.W.codeIn K cd q = true ∧ PySem.W.keepIn K (.ref f) = true
abbrev GfAt (K : PySem.W.Frag) (f : Addr) (x : Str) (st : Stmt) (dV : Value) : Prop := PySem.W.nsIn K mainGlobals x = some (some (.ref f)) ∧ FnAt K f x x st dV
abbrev BdAt (n q : Str) (st : Stmt) (dV : Value) (ps : List Str) : Prop := ∀ (kV doc pm : Value) (an : Option Addr) (cdv ct : Value) (us : List Value), us.length = ps.length → bindArgs (PySem.W.fnOf n q (defArgs st) (defBody st) (defScope st) dV kV doc pm an cdv ct) ⟨us, []⟩ = pure (ps.zip us)
theorem scK {N P : List Str} {sc : Scope} (h : N.Nodup ∧ (∀ x ∈ P, sc.names.lookup x = some .local ∨ sc.names.lookup x = some .cell) ∧ ∀ y ∈ sc.names, y.2 ≠ .free) (h1 : sc.kind = .function := by rfl) (h2 : sc.isCoroutine = false := by rfl) (h3 : sc.isGenerator = false := by rfl) (h4 : N.take P.length = P := by rfl) : FnScope N P sc := ⟨h1, h2, h3, h.1, h4, h.2.1, h.2.2⟩
section
variable {P : Program} {w : World} {K : PySem.W.Frag} {mg : Str → Option Value} {base h : Heap} {CX : CXT} {k : Nat} {f c : Addr} {x m q : Str} {st : Stmt} {ps : List Str} {sp : Sp}
theorem FnAt.ex {n q : Str} {dV : Value} (a : FnAt K f n q st dV) : ∃ fd, FunD K n q st dV f fd ∧ PySem.W.keepIn K (.ref f) = true := by
  obtain ⟨_, _, _, _, _, _, _, _, _, l, c, k⟩ := a
  exact ⟨_, funD_mk (st := st) l c k, k⟩
/-- which program, world, heap -/
structure Bx (P : Program) (w : World) (base : Heap) : Prop
noncomputable def mkD (_ : Bx P w base) (X : K.In h) (G : h.Ns mainGlobals mg) (a : GfAt K f x st .none) (b : BdAt x x st .none ps) (ok : ∀ {fd : FuncData}, FunD K x x st .none f fd → FnOk P w K mg base CX k f fd ps sp) : Dx P w K mg base CX k x ps [] sp :=
  have e := a.2.ex
  ⟨f, e.choose, ok e.choose_spec.1, PySem.W.mg_of X G a.1, e.choose_spec.2, e.choose_spec.1.binds0 b, [], e.choose_spec.1.binds0 b, .nil⟩
end
end Sw
set_option Elab.async false
set_option linter.all false
set_option maxRecDepth 100000
namespace L2
open PySem PySem.Spec PyProof.Rows XH
/-! ### set(xs) of texts, alike or unlike: what lies in it, and that it can be walked -/
theorem orStandIn_led (t : SetTable) (n : Nat) : (t.orStandIn n).led = t.led := by
  unfold SetTable.orStandIn
  by_cases h : t.fits n = true
  · rw [if_pos h]
  · rw [if_neg h]; rfl
theorem layNew_led (t : SetTable) (es : Array (Int × Value)) (h : Int) (x : Value) : (layNew t es h x).2.1.led = t.led := by
  cases e : t.freeSlot h with
  | none => simp only [layNew, e]; rfl
  | some r =>
    obtain ⟨slot, d⟩ := r
    simp only [layNew, e]
    rw [orStandIn_led]
    rfl
theorem relaid_kept {t t' : SetTable} {hs : Array Int} {n : Nat} {order : Array Nat} (e : t.relaid hs n = some (t', order)) : t'.led = t.led ∧ t'.plain = t.plain := by
  unfold SetTable.relaid SetTable.laid at e
  obtain ⟨o, _, e2⟩ := Option.bind_eq_some_iff.mp e
  simp only [pure, Option.some.injEq, Prod.mk.injEq] at e2
  rw [← e2.1]
  exact ⟨rfl, rfl⟩
theorem relayAll_led (t : SetTable) (es : Array (Int × Value)) (n : Nat) : (relayAll t es n).2.1.led = t.led := by
  cases e : t.relaid (es.map (·.1)) n with
  | none => simp only [relayAll, e]; rfl
  | some r =>
    obtain ⟨t', order⟩ := r
    simp only [relayAll, e]
    by_cases c : (coversAll order es.size && t'.fits (order.filterMap (es[·]?)).size) = true
    · rw [if_pos c]; exact (relaid_kept e).1
    · rw [if_neg c]; rfl
theorem relayAll_plain (t : SetTable) (es : Array (Int × Value)) (n : Nat) (h : t.plain = false) : (relayAll t es n).2.1.plain = false := by
  cases e : t.relaid (es.map (·.1)) n with
  | none => simp only [relayAll, e]; rfl
  | some r =>
    obtain ⟨t', order⟩ := r
    simp only [relayAll, e]
    by_cases c : (coversAll order es.size && t'.fits (order.filterMap (es[·]?)).size) = true
    · rw [if_pos c]; exact (relaid_kept e).2.trans h
    · rw [if_neg c]; rfl
def strOf : Value → Str
  | .str y _ => y
  | _ => default
/-- one thing of a set of texts -/
def TxE (prog : Program) (w : World) (e : Int × Value) : Prop := ∃ y t, e = ((mixKind prog w).hash (.inr y), .str y t)
/-- a set of texts at a: just ys, in some order -/
def TxS (prog : Program) (w : World) (h : Heap) (a : Addr) (ys : List Str) : Prop :=
  ∃ o es ep t, h.get? a = some o ∧ o.ExactSet ∧ o.data = .set es ep t ∧ (∀ e ∈ es.toList, TxE prog w e) ∧ (es.toList.map fun e => strOf e.2).Perm ys ∧ es.size < scanBound ∧ t.fits es.size = true ∧
    (w.params.followText "set-order" = false → t.led = true) ∧ (es.size ≠ 0 → t.plain = false)
theorem te_is {prog : Program} {w : World} {y : Str} {t : Tok} : (mixKind prog w).is (.inr y) (.str y t) = true := kV_is (k := .inr y) ⟨t, rfl⟩
theorem te_elems {prog : Program} {w : World} {l : List (Int × Value)} (h : ∀ e ∈ l, TxE prog w e) : ElemsOf (mixKind prog w) l := fun e he => by
  obtain ⟨y, t, rfl⟩ := h e he
  exact ⟨⟨.inr y, te_is, rfl⟩, rfl⟩
def insT (ys : List Str) (y : Str) : List Str := if y ∈ ys then ys else ys ++ [y]
section
variable {prog : Program} {w : World} {A : Around} {E : Value → Shared → Prop} {s : Shared}
theorem ts_mem {h : Heap} {a : Addr} {ys : List Str} {es : Array (Int × Value)} (te : ∀ e ∈ es.toList, TxE prog w e) (pm : (es.toList.map fun e => strOf e.2).Perm ys) (y : Str) :
    (∃ e ∈ es.toList, (mixKind prog w).is (.inr y) e.2 = true) ↔ y ∈ ys := by
  rw [← pm.mem_iff, List.mem_map]
  constructor
  · rintro ⟨e, he, q⟩
    obtain ⟨z, t, rfl⟩ := te e he
    obtain ⟨t', e'⟩ := is_kV q
    cases e'
    exact ⟨_, he, rfl⟩
  · rintro ⟨e, he, q⟩
    obtain ⟨z, t, rfl⟩ := te e he
    cases q
    exact ⟨_, he, te_is⟩
theorem ts_tail {g : Bool → Sem Unit} (hg : ∀ (b : Bool) (s₁ : Shared) (Q' : Unit → Shared → Prop), Q' () s₁ → wpAny (model prog w) A (g b) Q' E s₁)
    {a : Addr} {o : Obj} {es : Array (Int × Value)} {ep : Nat} {t : SetTable} (ho : s.heap.get? a = some o) (hex : o.ExactSet) (hd : o.data = .set es ep t)
    {es1 : Array (Int × Value)} {t2 : SetTable} {ys : List Str} (te : ∀ e ∈ es1.toList, TxE prog w e) (pm : (es1.toList.map fun e => strOf e.2).Perm ys)
    (hb1 : es1.size < scanBound) (hf2 : t2.fits es1.size = true) (ld : w.params.followText "set-order" = false → t2.led = true) (pl : t2.plain = false) {wasDummy : Bool} {R : Option Bool → Shared → Prop}
    (h : ∀ h', Heap.SameBut a s.heap h' → TxS prog w h' a ys → R (some true) { s with heap := h' }) :
    wpAny (model prog w) A (do
        storeSet a es1 t2
        if (!wasDummy && t2.tooFull) = true then do
            g (relayAll t2 es1 (SetTable.grown es1.size)).2.2
            storeSet a (relayAll t2 es1 (SetTable.grown es1.size)).1 (relayAll t2 es1 (SetTable.grown es1.size)).2.1
            pure (some true)
          else pure (some true)) R E s := by
  refine wpAny_bind (wpAny_storeSet_of ho hd ?_ (fits_of_scanBound hb1))
  obtain ⟨ho1, _⟩ := SetOf_store (knd := mixKind prog w) (S' := fun k => decide (∃ e ∈ es1.toList, (mixKind prog w).is k e.2 = true)) ho hex hd (te_elems te) (fun k => by simp) hb1 hf2
  have hsb1 := Heap.SameBut.update s.heap a (Obj.putSet es1 t2)
  split
  · have hp := relayAll_perm t2 es1 (SetTable.grown es1.size)
    have hfr := relayAll_fits t2 es1 (SetTable.grown es1.size)
    have hl := relayAll_led t2 es1 (SetTable.grown es1.size)
    have hpl := relayAll_plain t2 es1 (SetTable.grown es1.size) pl
    generalize hRl : relayAll t2 es1 (SetTable.grown es1.size) = Rl at hp hfr hl hpl ⊢
    obtain ⟨es2, t3, gave2⟩ := Rl
    dsimp only at hp hfr hl hpl ⊢
    have te2 : ∀ e ∈ es2.toList, TxE prog w e := fun e he => te e (hp.mem_iff.mp he)
    have hsz : es2.size = es1.size := by rw [← Array.length_toList, hp.length_eq, Array.length_toList]
    have hb2 : es2.size < scanBound := by rw [hsz]; exact hb1
    refine wpAny_bind (hg _ _ _ ?_)
    refine wpAny_bind (wpAny_storeSet_of ho1 rfl ?_ (fits_of_scanBound hb2))
    obtain ⟨ho2, _⟩ := SetOf_store (knd := mixKind prog w) (S' := fun k => decide (∃ e ∈ es2.toList, (mixKind prog w).is k e.2 = true)) ho1 hex rfl (te_elems te2) (fun k => by simp) hb2 hfr
    exact wpAny_pure (h _ (hsb1.trans (Heap.SameBut.update _ a _)) ⟨_, es2, _, t3, ho2, hex, rfl, te2, (hp.map _).trans pm, hb2, hfr, fun b => hl.trans (ld b), fun _ => hpl⟩)
  · exact wpAny_pure (h _ hsb1 ⟨_, es1, _, t2, ho1, hex, rfl, te, pm, hb1, hf2, ld, fun _ => pl⟩)
theorem ts_add {a : Addr} {ys : List Str} {y : Str} {tk : Tok} {Q : Bool → Shared → Prop} (hS : TxS prog w s.heap a ys) (room : ys.length + 1 < scanBound)
    (h : ∀ h', Heap.SameBut a s.heap h' → TxS prog w h' a (insT ys y) → ∀ b, Q b { s with heap := h' }) :
    wpAny (model prog w) A (setAddHashed a (.str y tk) ((mixKind prog w).hash (.inr y))) Q E s := by
  obtain ⟨o, es, ep, t, ho, hex, hd, te, pm, hb, hf, ld, pl⟩ := hS
  have hel := te_elems te
  have hsz : es.size = ys.length := by rw [← Array.length_toList, ← List.length_map (fun e : Int × Value => strOf e.2), pm.length_eq]
  unfold setAddHashed setAddHashedIn
  refine wpAny_holding (wpAny_bind (wpAny_setState_of ho hd hf ?_))
  dsimp only
  rw [byScan_of (knd := mixKind prog w) (x := .str y tk) rfl hb hel]
  simp only [↓reduceIte]
  unfold setAddByScan
  refine wpAny_bind ?_
  refine wpAny_bind (wpAny_rule ?_)
  refine wpAny_bind (wpAny_setScan_of (knd := mixKind prog w) (k := .inr y) te_is ho hd hf hel ?_)
  cases hr : List.findIdx? (fun e => (mixKind prog w).is (.inr y) e.2) es.toList with
  | some j =>
    dsimp only
    obtain ⟨hj, hpj, _⟩ := List.findIdx?_eq_some_iff_getElem.mp hr
    have hm : y ∈ ys := (ts_mem (h := s.heap) (a := a) te pm y).mp ⟨es.toList[j], List.getElem_mem hj, hpj⟩
    refine wpAny_pure (wpAny_pure ?_)
    have e : s = { s with heap := s.heap } := by cases s; rfl
    rw [e]
    refine h s.heap (Heap.SameBut.refl a s.heap) ?_ _
    rw [insT, if_pos hm]
    exact ⟨o, es, ep, t, ho, hex, hd, te, pm, hb, hf, ld, pl⟩
  | none =>
    dsimp only
    have hm : y ∉ ys := fun hm => by
      obtain ⟨e, he, q⟩ := (ts_mem (h := s.heap) (a := a) te pm y).mpr hm
      have := List.findIdx?_eq_none_iff.mp hr e he
      rw [q] at this
      cases this
    have hgw : ∀ (b : Bool) {s₁ : Shared} {Q' : Unit → Shared → Prop}, Q' () s₁ → wpAny (model prog w) A (match b with | true => rule "set.scan.the-table-gave-way" | false => pure ()) Q' E s₁ :=
      fun b s₁ Q' hq => by cases b <;> first | exact wpAny_pure hq | exact wpAny_rule hq
    have hperm := layNew_perm t es ((mixKind prog w).hash (.inr y)) (.str y tk)
    have hfits := layNew_fits t es ((mixKind prog w).hash (.inr y)) (.str y tk)
    have hled := layNew_led t es ((mixKind prog w).hash (.inr y)) (.str y tk)
    generalize hL : layNew t es ((mixKind prog w).hash (.inr y)) (.str y tk) = L at hperm hfits hled ⊢
    obtain ⟨es1, t1, wasDummy, gave⟩ := L
    dsimp only at hperm hfits hled ⊢
    rw [Array.toList_push] at hperm
    have te1 : ∀ e ∈ es1.toList, TxE prog w e := fun e he => by
      rcases List.mem_append.mp (hperm.mem_iff.mp he) with q | q
      · exact te e q
      · rw [List.mem_singleton.mp q]; exact ⟨y, tk, rfl⟩
    have pm1 : (es1.toList.map fun e => strOf e.2).Perm (insT ys y) := by
      rw [insT, if_neg hm]
      refine (hperm.map _).trans ?_
      rw [List.map_append]
      exact pm.append_right _
    have hb1' : es1.size < scanBound := by
      rw [← Array.length_toList, hperm.length_eq, List.length_append, Array.length_toList, hsz]
      exact room
    refine wpAny_bind (hgw _ ?_)
    split
    · refine wpAny_bind ?_
      rw [hashByValue_scannable 8 (x := .str y tk) rfl]
      refine wpAny_pure ?_
      refine ts_tail ?_ ho hex hd te1 pm1 hb1' ?_ ?_ ?_ ?_
      · intro b s₁ Q' hq; cases b <;> first | exact wpAny_pure hq | exact wpAny_rule hq
      · exact SetTable.fits_plain_off hfits
      · exact fun b => hled.trans (ld b)
      · rfl
      · intro h' hsb hS'; dsimp only; exact wpAny_pure (h h' hsb hS' _)
    · rename_i np
      refine wpAny_bind (wpAny_pure ?_)
      simp only [↓reduceIte]
      refine ts_tail ?_ ho hex hd te1 pm1 hb1' hfits ?_ ?_ ?_
      · intro b s₁ Q' hq; cases b <;> first | exact wpAny_pure hq | exact wpAny_rule hq
      · exact fun b => hled.trans (ld b)
      · simpa using np
      · intro h' hsb hS'; dsimp only; exact wpAny_pure (h h' hsb hS' _)
end
end L2
set_option Elab.async false
set_option linter.all false
set_option maxRecDepth 100000
namespace L2
open PySem PySem.Spec PyProof.Rows XH
def ddT (xs : List Str) (i : Nat) : List Str := (xs.take i).foldl insT []
theorem ddT_succ {xs : List Str} {i : Nat} {y : Str} (h : xs[i]? = some y) : ddT xs (i + 1) = insT (ddT xs i) y := by
  unfold ddT
  rw [List.take_add_one, h, Option.toList_some, List.foldl_append]
  rfl
theorem insT_len (ys : List Str) (y : Str) : (insT ys y).length ≤ ys.length + 1 := by
  unfold insT
  split
  · omega
  · simp
theorem ddT_len (xs : List Str) : ∀ i, (ddT xs i).length ≤ i
  | 0 => by simp [ddT]
  | i + 1 => by
    have ih := ddT_len xs i
    cases h : xs[i]? with
    | none =>
      have : xs.take (i + 1) = xs.take i := by rw [List.take_add_one, h]; simp
      unfold ddT at ih ⊢
      rw [this]
      omega
    | some y =>
      rw [ddT_succ h]
      have := insT_len (ddT xs i) y
      omega
theorem insT_nodup {ys : List Str} (y : Str) (h : ys.Nodup) : (insT ys y).Nodup := by
  unfold insT
  split
  · exact h
  · rename_i n
    exact List.nodup_append.mpr ⟨h, by simp, fun a ha b hb e => n (by rw [List.mem_singleton] at hb; rw [← hb, ← e]; exact ha)⟩
section
variable {prog : Program} {w : World} {A : Around} {R : Result → Shared → Prop} {I : Addr} {fp wr : List Addr} {G : Array GenState → Array GenState → Prop} {n : Nat} {P : Nat → Value → Prop} {St : Nat → Shared → Prop}
theorem set_loopT (W : WalksS prog w A.in1 I fp wr G n P St) (S : Addr) (out : S ∉ fp) (xs : List Str) (hv : ∀ i v, P i v → ∃ y t, xs[i]? = some y ∧ v = .str y t)
    (hn : n ≤ xs.length) (hb : n + 1 < scanBound) : ∀ (m i : Nat) (s : Shared), n - i = m → i ≤ n → St i s → TxS prog w s.heap S (ddT xs i) →
      (∀ s', Moved (S :: wr) G s s' → TxS prog w s'.heap S (ddT xs n) → R (.ok (.ret .none)) s') → codeAny (model prog w) A (.builtin "set.update.loop" ⟨[.ref S, .ref I], []⟩) R s := by
  have nw : S ∉ wr := fun h => out (W.sub _ h)
  have up : ∀ b ∈ wr, b ∈ S :: wr := fun b hb => .tail _ hb
  have stay : ∀ {s1 s2 : Shared} {ys : List Str}, TxS prog w s1.heap S ys → Moved wr G s1 s2 → TxS prog w s2.heap S ys := by
    rintro s1 s2 ys ⟨o, es, ep, t, ho, z⟩ mv
    exact ⟨o, es, ep, t, mv.heap S _ nw ho, z⟩
  intro m
  induction m with
  | zero =>
    intro i s hm hi st hS fin
    have e : i = n := by omega
    subst e
    apply codeAny_builtin F.entry_set_update_loop
    rw [Around.under_plainId F.plain_set_update_loop _]
    show wpAny _ _ (pyNext (.ref I) >>= _) _ _ s
    apply wpAny_bind
    refine W.done s _ _ st fun s' mv => ?_
    exact wpAny_pure (fin s' (mv.mono up) (stay hS mv))
  | succ m ih =>
    intro i s hm hi st hS fin
    have lt : i < n := by omega
    apply codeAny_builtin F.entry_set_update_loop
    rw [Around.under_plainId F.plain_set_update_loop _]
    show wpAny _ _ (pyNext (.ref I) >>= _) _ _ s
    apply wpAny_bind
    refine W.item i s _ _ lt st fun v s' pv st' mv => ?_
    obtain ⟨y, tk, ey, rfl⟩ := hv i v pv
    show wpAny _ _ (holding [.str y tk] (setAdd S (.str y tk)) >>= _) _ _ s'
    apply wpAny_bind
    apply wpAny_holding
    unfold setAdd
    apply wpAny_holding
    apply wpAny_bind
    refine (mixKind prog w).pyHash (k := .inr y) te_is ?_
    have rm : (ddT xs i).length + 1 < scanBound := by
      have := ddT_len xs i
      omega
    refine ts_add (s := { s' with toks := s'.toks + 1 }) (show TxS prog w s'.heap S (ddT xs i) from stay hS mv) rm fun h' same S2 b => ?_
    rw [← ddT_succ ey] at S2
    apply wpAny_pure
    refine ⟨plainId_quiet F.plain_set_update_loop _, ih (i + 1) _ (by omega) lt (W.frame _ s' _ _ st' (Nat.le_succ _) fun b hb o e => ?_) S2 fun s'' mv2 S4 => ?_⟩
    · exact (same.2 b fun z => out (z ▸ hb)).trans e
    · exact fin s'' (Moved.trans W.gtrans ((mv.mono up).then_heap (Nat.le_succ _) fun b o hb e => (same.2 b fun z => hb (z ▸ List.mem_cons_self)).trans e) mv2) S4
end
section
variable {prog : Program} {w : World} {A : Around} {E : Value → Shared → Prop} {s : Shared}
/-- a set made anew is led, unless the order is by the text -/
theorem code_set_newL (a : Value) {Q₁ : Value → Shared → Prop}
    (h : ∀ led : Bool, (w.params.followText "set-order" = false → led = true) → Q₁ (.ref s.heap.objs.size) { s with heap := s.heap.push { cls := .type "set", dict := none, data := .set #[] 0 (.fresh 0 0 led) } }) :
    codeAny (model prog w) A (.call (.builtin "set.__new__") ⟨[.type "set", a], []⟩) (wants Q₁ E) s := by
  refine codeAny_of_tree ?_
  show wpAny _ A.in1 (do checkBuiltinCall "set.__new__" ⟨[.type "set", a], []⟩; again (.builtin "set.__new__" ⟨[.type "set", a], []⟩)) _ _ s
  refine wpAny_bind (wpAny_of_eq (F.newCall_set_1 a) (wpAny_pure ⟨plainId_quiet F.plain_set_new _, codeAny_builtin F.entry_set_new ?_⟩))
  rw [Around.under_plainId F.plain_set_new _]
  unfold Builtin.«set.__new__» Builtin.Frozenset.newClass
  have hsub := sub_set_self
  obtain ⟨hp, g, d, tk, os⟩ := s
  dsimp only
  wp_walk
  refine wpAny_askSetting (wpAny_pure ?_)
  dsimp only
  simp only [newObj]
  refine wpAny_bind (wpAny_alloc (wpAny_pure ?_))
  refine wpAny_pure (h _ fun e => ?_)
  show (!(model prog w).w.params.followText "set-order") = true
  rw [show (model prog w).w = w from rfl, e]
  rfl
set_option maxHeartbeats 3200000 in
theorem set_listT {l : Addr} {items : Array Value} {xs : List Str} {Q : Value → Shared → Prop} (hh : A.handled = none) (hl : s.heap.IsList l items) (hv : ∀ (i : Nat) (v : Value), items[i]? = some v → ∃ (y : Str) (t : Tok), xs[i]? = some y ∧ v = Value.str y t)
    (hn : items.size = xs.length) (hb : items.size + 1 < scanBound)
    (fin : ∀ (h' : Heap) (tk : Nat), TxS prog w h' s.heap.objs.size (ddT xs items.size) → (∀ b o, b < s.heap.objs.size → s.heap.get? b = some o → h'.get? b = some o) → Q (.ref s.heap.objs.size) { s with heap := h', toks := tk }) :
    wpAny (model prog w) A (call (.type "set") [.ref l]) Q E s := by
  obtain ⟨c0, tl0, mro⟩ := F.called_set.mro
  have made := F.called_set.made
  have subt := F.called_set.sub
  apply wpAny_call
  apply codeAny_of_tree
  show wpAny _ _ (callAny (.type "set") _) _ _ _
  apply wpAny_pure
  refine ⟨Code.quiet_builtin _ (by decide +kernel), codeAny_builtin F.entry_type_call ?_⟩
  rw [Around.under_plain (weight_type_call_type "set" [.ref l] []) rfl]
  have nt := F.called_set.notType
  have cc := F.called_set.canCreate
  have tc := F.typeCall_set_1 (.ref l)
  repeat any_goals first | assumption | wp_step
  refine codeAny_mono (code_set_newL (.ref l) (E := E) (Q₁ := fun v s1 => ∃ led : Bool, (w.params.followText "set-order" = false → led = true) ∧ v = .ref s.heap.objs.size ∧ s1 = { s with heap := s.heap.push { cls := .type "set", dict := none, data := .set #[] 0 (.fresh 0 0 led) } }) fun led eld => ⟨led, eld, rfl, rfl⟩) fun r s1 hr => ?_
  cases r with
  | error e => exact hr
  | ok fl =>
    cases fl with
    | ret v =>
      obtain ⟨led, eld, rfl, rfl⟩ := hr
      have e0 : (s.heap.push { cls := .type "set", dict := none, data := .set #[] 0 (.fresh 0 0 led) }).get? s.heap.objs.size = some { cls := .type "set", dict := none, data := .set #[] 0 (.fresh 0 0 led) } := Heap.get?_push_size _ rfl
      have tS : Shared.TypeIs { s with heap := s.heap.push { cls := .type "set", dict := none, data := .set #[] 0 (.fresh 0 0 led) } } (.ref s.heap.objs.size) "set" := ⟨_, e0, rfl⟩
      have lk := F.called_set.init.lookup
      have bd := F.called_set.init.bind (.ref s.heap.objs.size)
      repeat any_goals first | assumption | wp_step
      refine codeAny_mono (codeAny_call_builtin (R := wants (fun r s2 => r = .none ∧ ∃ h' tk, s2 = { s with heap := h', toks := tk } ∧ TxS prog w h' s.heap.objs.size (ddT xs items.size) ∧ ∀ b o, b < s.heap.objs.size → s.heap.get? b = some o → h'.get? b = some o) E) F.called_set.init.plain F.entry_set_init (check_set_init_1 tS ?_)) fun r2 s2 hr2 => ?_
      · obtain ⟨⟨lc, ld, lx, ls⟩, hol, hcl, nl, hdl⟩ := hl
        simp only at hcl hdl
        subst hcl hdl
        have el : (s.heap.push { cls := .type "set", dict := none, data := .set #[] 0 (.fresh 0 0 led) }).get? l = some { cls := .type "list", dict := ld, data := .seq items nl, slots := ls } := Heap.get?_push_of_some _ hol
        have n1 := F.sub_list_set
        have n2 := F.sub_list_frozenset
        have n3 : (Value.type "list" == Value.type "dict") = false := by decide
        have il : (s.heap.push { cls := .type "set", dict := none, data := .set #[] 0 (.fresh 0 0 led) }).IsList l items := ⟨_, el, rfl, nl, rfl⟩
        unfold Builtin.«set.__init__» noKeywords Builtin.Frozenset.updateFrom
        generalize hit : pyIter = PI
        wp_walk
        subst hit
        apply wpAny_pyIter_list il
        apply wpAny_bind
        apply wpAny_runValue
        have ll : l < s.heap.objs.size := Heap.lt_size hol
        have h3 : A.in1.in1.in1.handled = none := by simpa using hh
        have nI : l ≠ (s.heap.push { cls := .type "set", dict := none, data := .set #[] 0 (.fresh 0 0 led) }).objs.size := by
          rw [Heap.size_push]
          exact Nat.ne_of_lt (Nat.lt_succ_of_lt ll)
        have out : s.heap.objs.size ∉ [(s.heap.push { cls := .type "set", dict := none, data := .set #[] 0 (.fresh 0 0 led) }).objs.size, l] := by
          rw [Heap.size_push]
          simp only [List.mem_cons, not_or]
          exact ⟨Nat.ne_of_lt (Nat.lt_succ_self _), Nat.ne_of_gt ll, List.not_mem_nil⟩
        refine set_loopT ((Walks.list h3 _ l nI items).toS) s.heap.objs.size out xs hv (Nat.le_of_eq hn) hb items.size 0 _ rfl (Nat.zero_le _) ⟨⟨_, Heap.get?_push_size _ rfl, rfl, rfl⟩, il.push _⟩ ?_ ?_
        · have e1 : ((s.heap.push { cls := .type "set", dict := none, data := .set #[] 0 (.fresh 0 0 led) }).push { cls := .type "list_iterator", data := .fields #[.ref l, .int 0 0] }).get? s.heap.objs.size = some { cls := .type "set", dict := none, data := .set #[] 0 (.fresh 0 0 led) } :=
            Heap.get?_push_of_some _ e0
          exact ⟨_, #[], 0, _, e1, ⟨rfl, rfl, rfl⟩, rfl, (fun e he => by simp at he), (by simp [ddT]), by decide, rfl, eld, fun z => absurd rfl z⟩
        · intro s' mv S2
          obtain ⟨h', g', d', tk', os'⟩ := s'
          have eg : g' = s.gens := mv.gens
          have ed : d' = s.drawn := mv.drawn
          have eo : os' = s.os := mv.os
          subst eg ed eo
          show wpAny _ _ _ _ _ _
          apply wpAny_pure
          show wpAny _ _ (ret Value.none) _ _ _
          apply wpAny_pure
          refine ⟨rfl, h', tk', rfl, S2, fun b o hb' e => ?_⟩
          refine mv.heap b o ?_ (Heap.get?_push_of_some _ (Heap.get?_push_of_some _ e))
          rw [Heap.size_push]
          simp only [List.mem_cons, not_or]
          exact ⟨Nat.ne_of_lt hb', Nat.ne_of_lt (Nat.lt_succ_of_lt hb'), List.not_mem_nil⟩
      · cases r2 with
        | error e => exact hr2
        | ok fl2 =>
          cases fl2 with
          | ret r =>
            obtain ⟨rfl, h', tk, rfl, S2, kp⟩ := hr2
            repeat any_goals first | assumption | wp_step
            exact fin _ _ S2 kp
          | _ => exact hr2.elim
    | _ => exact hr.elim
end
end L2
set_option Elab.async false
set_option linter.all false
set_option maxRecDepth 100000
namespace L2
open PySem PySem.Spec PyProof.Rows XH
/-! ### a set of texts walked -/
section
variable {prog : Program} {w : World} {A : Around} {E : Value → Shared → Prop} {s : Shared}
end
end L2
set_option Elab.async false
set_option linter.all false
set_option maxRecDepth 100000
namespace L2
open PySem PySem.Spec PyProof.Rows XH
section
variable {prog : Program} {w : World} {A : Around} {E : Value → Shared → Prop} {s : Shared}
end
end L2
set_option Elab.async false
set_option linter.all false
set_option maxRecDepth 100000
namespace L2
open PySem PySem.Spec PyProof.Rows XH
section
variable {prog : Program} {w : World} {A : Around} {E : Value → Shared → Prop} {s : Shared}
end
end L2
set_option Elab.async false
set_option linter.all false
set_option maxRecDepth 100000
namespace L2
open PySem PySem.Spec PyProof.Rows XH
section
variable {prog : Program} {w : World} {A : Around} {E : Value → Shared → Prop} {s : Shared}
end
end L2
set_option Elab.async false
set_option linter.all false
set_option maxRecDepth 100000
namespace L2
open PySem PySem.Spec PyProof.Rows XH Sw So
section
variable {prog : Program} {w : World} {A : Around} {E : Value → Shared → Prop} {s : Shared}
end
end L2
set_option Elab.async false
set_option linter.all false
set_option maxRecDepth 100000
namespace L2
open PySem PySem.Spec PyProof.Rows XH Sw So
/-! ### sorted(set(xs)), xs texts -/
theorem vals_str : ∀ {xs : List Str} {us : List Value}, Vals (xs.map V.str) us → ∀ (i : Nat) (v : Value), us[i]? = some v → ∃ (y : Str) (t : Tok), xs[i]? = some y ∧ v = Value.str y t
  | [], _, .nil, i, v, h => by simp at h
  | x :: xs, _, .cons r t, 0, v, h => by
    simp at h
    subst h
    obtain ⟨k, rfl⟩ := r
    exact ⟨x, k, rfl, rfl⟩
  | x :: xs, _, .cons r t, i + 1, v, h => vals_str t i v (by simpa using h)
section
variable {X : Cx} {e : Expr} {te : TE} {p1 p2 pos pos2 : Pos}
end
end L2
set_option Elab.async false
set_option linter.all false
set_option maxRecDepth 100000
namespace L2
open PySem PySem.Spec PyProof.Rows XH
/-! ### the places of a set's table rise -/
end L2
set_option Elab.async false
set_option linter.all false
set_option maxRecDepth 100000
namespace L2
open PySem PySem.Spec PyProof.Rows XH
section
variable {prog : Program} {w : World} {A : Around} {E : Value → Shared → Prop} {s : Shared}
end
end L2
set_option Elab.async false
set_option linter.all false
set_option maxRecDepth 100000
namespace L2
open PySem PySem.Spec PyProof.Rows XH
section
variable {prog : Program} {w : World} {A : Around} {R : Result → Shared → Prop} {I : Addr} {fp wr : List Addr} {G : Array GenState → Array GenState → Prop} {n : Nat} {P : Nat → Value → Prop} {St : Nat → Shared → Prop}
end
section
variable {prog : Program} {w : World} {A : Around} {E : Value → Shared → Prop} {s : Shared}
end
end L2
set_option Elab.async false
set_option linter.all false
set_option maxRecDepth 100000
namespace L2
open PySem PySem.Spec PyProof.Rows XH Sw So
section
variable {prog : Program} {w : World} {A : Around} {E : Value → Shared → Prop} {s : Shared}
end
section
variable {prog : Program} {w : World} {A : Around} {E : Value → Shared → Prop} {s : Shared}
end
end L2
set_option Elab.async false
set_option linter.all false
set_option maxRecDepth 100000
namespace L2
open PySem PySem.Spec PyProof.Rows XH Sw So
/-! ### sorted(set(xs)), xs numbers -/
section
variable {X : Cx} {e : Expr} {te : TE} {p1 p2 pos pos2 : Pos}
end
end L2
set_option Elab.async false
set_option linter.all false
set_option maxRecDepth 100000
namespace L2
open PySem PySem.Spec PyProof.Rows XH Sw So
end L2
set_option Elab.async false
set_option linter.all false
set_option maxRecDepth 100000
namespace Sw
open PySem L2 XH Hm
/-! ### things as they lie, with the addresses that they reach -/
def isSq : HO → Bool
  | .lst _ => true
  | .tup _ => true
  | _ => false
abbrev RA (α : Type) := (Addr → Prop) → Hp → V → α → Prop
def An : Addr → Prop := fun _ => True
class Mv {α : Type} (R : RA α) : Prop where
  mv : ∀ {P P' : Addr → Prop} {H H' : Hp} {v : V} {x : α}, (∀ a o, P a → isSq o = true → H a = some o → P' a ∧ H' a = some o) → R P H v x → R P' H' v x
theorem mvS {α : Type} {R : RA α} [Mv R] {P : Addr → Prop} {H H' : Hp} {v : V} {x : α} (h : R P H v x) (g : Same H H') : R P H' v x := Mv.mv (fun a o p _ e => ⟨p, g a o e⟩) h
theorem mvP {α : Type} {R : RA α} [Mv R] {P P' : Addr → Prop} {H : Hp} {v : V} {x : α} (h : R P H v x) (g : ∀ a, P a → P' a) : R P' H v x := Mv.mv (fun a o p _ e => ⟨g a p, e⟩) h
theorem mvA {α : Type} {R : RA α} [Mv R] {P : Addr → Prop} {H : Hp} {v : V} {x : α} (h : R P H v x) : R An H v x := mvP h fun _ _ => trivial
/-- what is no list and no tuple may change -/
theorem mvX {α : Type} {R : RA α} [Mv R] {P : Addr → Prop} {H H' : Hp} {v : V} {x : α} (h : R P H v x) (g : ∀ a o, isSq o = true → H a = some o → H' a = some o) : R P H' v x := Mv.mv (fun a o p s e => ⟨p, g a o s e⟩) h
/-- what is reached is there -/
theorem mvT {α : Type} {R : RA α} [Mv R] {P : Addr → Prop} {H : Hp} {v : V} {x : α} (h : R P H v x) : R (fun a => P a ∧ H a ≠ none) H v x := Mv.mv (fun a o p _ e => ⟨⟨p, by rw [e]; exact nofun⟩, e⟩) h
/-- one address, which isn't reached, may change -/
theorem mvU {α : Type} {R : RA α} [Mv R] {P : Addr → Prop} {H : Hp} {v : V} {x : α} {l : Addr} (h : R P H v x) (n : ¬ P l) (o : HO) : R P (upd H l o) v x := Mv.mv (fun a u p _ e => ⟨p, by
    have : a ≠ l := fun z => n (by rw [← z]; exact p)
    rw [upd_ne this]
    exact e⟩) h
def A2 {α : Type} (R : V → α → Prop) (vs : List V) (xs : List α) : Prop := vs.length = xs.length ∧ ∀ (i : Nat) (v : V) (x : α), vs[i]? = some v → xs[i]? = some x → R v x
theorem A2.imp {α : Type} {R S : V → α → Prop} {vs : List V} {xs : List α} (h : A2 R vs xs) (f : ∀ v x, R v x → S v x) : A2 S vs xs := ⟨h.1, fun i v x e1 e2 => f v x (h.2 i v x e1 e2)⟩
theorem A2.get {α : Type} {R : V → α → Prop} {vs : List V} {xs : List α} (h : A2 R vs xs) {i : Nat} {x : α} (e : xs[i]? = some x) : ∃ v, vs[i]? = some v ∧ R v x := by
  have il : i < vs.length := by rw [h.1]; exact (List.getElem?_eq_some_iff.mp e).1
  exact ⟨_, List.getElem?_eq_getElem il, h.2 i _ x (List.getElem?_eq_getElem il) e⟩
theorem A2.at_ {α : Type} {R : V → α → Prop} {vs : List V} {xs : List α} (h : A2 R vs xs) {i : Nat} {v : V} (e : vs[i]? = some v) : ∃ x, xs[i]? = some x ∧ R v x := by
  have il : i < xs.length := by rw [← h.1]; exact (List.getElem?_eq_some_iff.mp e).1
  exact ⟨_, List.getElem?_eq_getElem il, h.2 i v _ e (List.getElem?_eq_getElem il)⟩
theorem A2.nil {α : Type} {R : V → α → Prop} : A2 R [] ([] : List α) := ⟨rfl, fun i a x e => by simp at e⟩
theorem A2.append {α : Type} {R : V → α → Prop} {as bs : List V} {xs ys : List α} (h : A2 R as xs) (k : A2 R bs ys) : A2 R (as ++ bs) (xs ++ ys) := by
  refine ⟨by simp [h.1, k.1], fun i a x e1 e2 => ?_⟩
  by_cases c : i < as.length
  · rw [List.getElem?_append_left c] at e1
    rw [List.getElem?_append_left (by rw [← h.1]; exact c)] at e2
    exact h.2 i a x e1 e2
  · rw [List.getElem?_append_right (by omega)] at e1
    rw [List.getElem?_append_right (by rw [← h.1]; omega), ← h.1] at e2
    exact k.2 _ a x e1 e2
theorem A2.one {α : Type} {R : V → α → Prop} {v : V} {x : α} (h : R v x) : A2 R [v] [x] := ⟨rfl, fun i a y e1 e2 => by
  cases i with
  | zero => simp at e1 e2; subst e1 e2; exact h
  | succ n => simp at e1⟩
theorem A2.snoc {α : Type} {R : V → α → Prop} {vs : List V} {xs : List α} (h : A2 R vs xs) {v : V} {x : α} (r : R v x) : A2 R (vs ++ [v]) (xs ++ [x]) := h.append (.one r)
theorem A2.take {α : Type} {R : V → α → Prop} {vs : List V} {xs : List α} (h : A2 R vs xs) (n : Nat) : A2 R (vs.take n) (xs.take n) := by
  refine ⟨by simp [h.1], fun i v x e1 e2 => ?_⟩
  rw [List.getElem?_take] at e1 e2
  split at e1
  · rename_i c
    rw [if_pos c] at e2
    exact h.2 i v x e1 e2
  · cases e1
theorem A2.drop {α : Type} {R : V → α → Prop} {vs : List V} {xs : List α} (h : A2 R vs xs) (n : Nat) : A2 R (vs.drop n) (xs.drop n) := by
  refine ⟨by simp [h.1], fun i v x e1 e2 => ?_⟩
  rw [List.getElem?_drop] at e1 e2
  exact h.2 _ v x e1 e2
/-- a list at an address, what it holds within P -/
def LsA {α : Type} (R : RA α) (P : Addr → Prop) (H : Hp) (l : Addr) (xs : List α) : Prop := ∃ vs, H l = some (.lst vs) ∧ A2 (R P H) vs xs
def rLst {α : Type} (R : RA α) : RA (List α) := fun P H v xs => ∃ l, v = .ref l ∧ P l ∧ LsA R P H l xs
instance {α : Type} {R : RA α} [Mv R] : Mv (rLst R) where
  mv := fun {P P' H H' v x} g h => by
    obtain ⟨l, rfl, p, vs, e, r⟩ := h
    obtain ⟨p', e'⟩ := g l _ p rfl e
    exact ⟨l, rfl, p', vs, e', r.imp fun v x q => Mv.mv g q⟩
def rTup {α : Type} (f : α → List V) : RA α := fun P H v x => ∃ t, v = .ref t ∧ P t ∧ H t = some (.tup (f x))
instance {α : Type} {f : α → List V} : Mv (rTup f) where
  mv := fun {P P' H H' v x} g h => by
    obtain ⟨t, rfl, p, e⟩ := h
    obtain ⟨p', e'⟩ := g t _ p rfl e
    exact ⟨t, rfl, p', e'⟩
def rVal {α : Type} (f : α → V) : RA α := fun _ _ v x => v = f x
instance {α : Type} {f : α → V} : Mv (rVal f) where
  mv := fun _ h => h
theorem A2.val {α : Type} {f : α → V} {P : Addr → Prop} {H : Hp} {vs : List V} {xs : List α} (h : A2 (rVal f P H) vs xs) : vs = xs.map f := by
  apply List.ext_getElem (by rw [List.length_map]; exact h.1)
  intro i h1 h2
  rw [List.getElem_map]
  exact h.2 i _ _ (List.getElem?_eq_getElem h1) (List.getElem?_eq_getElem (by rw [List.length_map] at h2; exact h2))
theorem LsA.same {α : Type} {R : RA α} [Mv R] {P : Addr → Prop} {H H' : Hp} {l : Addr} {xs : List α} (h : LsA R P H l xs) (g : Same H H') : LsA R P H' l xs := let ⟨vs, e, r⟩ := h; ⟨vs, g _ _ e, r.imp fun _ _ q => mvS q g⟩
theorem LsA.any {α : Type} {R : RA α} [Mv R] {P : Addr → Prop} {H : Hp} {l : Addr} {xs : List α} (h : LsA R P H l xs) : LsA R An H l xs := let ⟨vs, e, r⟩ := h; ⟨vs, e, r.imp fun _ _ q => mvA q⟩
theorem LsA.mono {α : Type} {R : RA α} [Mv R] {P P' : Addr → Prop} {H : Hp} {l : Addr} {xs : List α} (h : LsA R P H l xs) (g : ∀ a, P a → P' a) : LsA R P' H l xs := let ⟨vs, e, r⟩ := h; ⟨vs, e, r.imp fun _ _ q => mvP q g⟩
theorem LsA.sq {α : Type} {R : RA α} [Mv R] {P : Addr → Prop} {H H' : Hp} {l : Addr} {xs : List α} (h : LsA R P H l xs) (g : ∀ a o, isSq o = true → H a = some o → H' a = some o) : LsA R P H' l xs := let ⟨vs, e, r⟩ := h; ⟨vs, g _ _ rfl e, r.imp fun _ _ q => mvX q g⟩
theorem LsA.put {α : Type} {R : RA α} [Mv R] {P : Addr → Prop} {H : Hp} {l : Addr} {vs : List V} {xs : List α} {v : V} {x : α} (n : ¬ P l) (r : A2 (R P H) vs xs) (h : R P H v x) : LsA R P (L2.upd H l (.lst (vs ++ [v]))) l (xs ++ [x]) :=
  ⟨_, upd_same, (r.snoc h).imp fun _ _ q => mvU q n _⟩
theorem LsA.new {α : Type} {R : RA α} {P : Addr → Prop} {H : Hp} {l : Addr} : LsA R P (L2.upd H l (.lst [])) l ([] : List α) := ⟨[], upd_same, A2.nil⟩
end Sw
namespace L2
open PySem PySem.Spec PyProof.Rows XH Sw Hm
def pickL {β : Type} (n : Nat) (pr : Nat → Bool) (f : Nat → β) : List β := ((List.range n).filter pr).map f
theorem pickL_succ {β : Type} (n : Nat) (pr : Nat → Bool) (f : Nat → β) : pickL (n + 1) pr f = pickL n pr f ++ (if pr n = true then [f n] else []) := by
  unfold pickL
  rw [List.range_succ, List.filter_append, List.map_append]
  congr 1
  cases h : pr n <;> simp [List.filter_cons, h]
theorem pickL_len {β : Type} (n : Nat) (pr : Nat → Bool) (f : Nat → β) : (pickL n pr f).length ≤ n := by
  unfold pickL
  rw [List.length_map]
  have := List.length_filter_le pr (List.range n)
  rwa [List.length_range] at this
/-- a comprehension with a test, whatever is walked; Z: what was there and is reached -/
theorem compIf_R {J : It} {β : Type} {n : Nat} {js : List Nat} {tc : TT} {te : TE} {σ : L2.St} {H1 : Hp} {Q : VK} (R : RA β) [Mv R] (Z : Addr → Prop) (pr : Nat → Bool) (f : Nat → β) (hz : n ≤ sizeLine) (hZ : ∀ a, Z a → H1 a ≠ none)
    (hgo : ∀ i H2, Same H1 H2 → i < n → J.go i H2) (hst : ∀ H2, Same H1 H2 → J.stop n H2)
    (step : ∀ i, i < n → ∀ H2 x H3, Same H1 H2 → J.yld i H2 x H3 → H3 = H2 ∧ (∀ S : Bool → Hp → Prop, (∀ H4, Same H2 H4 → S (pr i) H4) → tc (some x :: freesOf js σ) H2 S) ∧ (pr i = true → ∀ H4, Same H2 H4 → ∀ Q' : VK, (∀ y H5, Same H4 H5 → R (fun a => H4 a = none ∨ Z a) H5 y (f i) → Q' y H5) → te (some x :: freesOf js σ) H4 Q'))
    (fin : ∀ p H', H1 p = none → Same H1 H' → LsA R (fun a => a ≠ p ∧ (H1 a = none ∨ Z a)) H' p (pickL n pr f) → Q (.ref p) H') : compIR js tc te σ Q J H1 := by
  intro p hp
  refine ⟨fun i m ys H2 => i ≤ n ∧ m = n - i ∧ Same H1 H2 ∧ H2 p = some (.lst ys) ∧ A2 (R (fun a => a ≠ p ∧ (H1 a = none ∨ Z a)) H2) ys (pickL i pr f), ⟨n, Nat.zero_le _, rfl, Sw.same_new hp _, upd_same, A2.nil⟩, ?_⟩
  rintro i m ys H2 ⟨hi, rfl, g, e, r⟩
  refine ⟨e, ?_⟩
  by_cases hin : i < n
  · refine .inr ⟨hgo i H2 g hin, ?_, fun x H3 hy => ?_⟩
    · have := pickL_len i pr f
      have := r.1
      omega
    obtain ⟨rfl, h1, h2⟩ := step i hin H2 x H3 g hy
    refine h1 _ fun H4 g4 => ?_
    have tk := pickL_succ i pr f
    cases hpr : pr i with
    | true =>
      rw [hpr, if_pos rfl] at tk
      rw [if_pos rfl]
      refine h2 hpr H4 g4 _ fun y H5 g5 ry => ⟨g5 _ _ (g4 _ _ e), n - (i + 1), by omega, hin, rfl, Sw.sUpd ((g.trans g4).trans g5) hp _, upd_same, ?_⟩
      rw [tk]
      have np : ¬ (p ≠ p ∧ (H1 p = none ∨ Z p)) := fun z => z.1 rfl
      refine ((r.imp fun v b q => mvS q (g4.trans g5)).snoc (mvP ry fun a ha => ?_)).imp fun v b q => mvU q np _
      rcases ha with h | h
      · exact ⟨(fun z => by rw [z, g4 _ _ e] at h; cases h), .inl ((g.trans g4).free h)⟩
      · exact ⟨fun z => hZ a h (z ▸ hp), .inr h⟩
    | false =>
      rw [hpr, if_neg (by decide), List.append_nil] at tk
      rw [if_neg (by decide)]
      exact ⟨n - (i + 1), by omega, hin, rfl, g.trans g4, g4 _ _ e, by rw [tk]; exact r.imp fun v b q => mvS q g4⟩
  · have e2 : i = n := by omega
    subst e2
    exact .inl ⟨hst H2 g, fin p H2 hp g ⟨ys, e, r⟩⟩
/-- a comprehension without a test, whatever is walked -/
theorem comp_R {J : It} {β : Type} {n : Nat} {js : List Nat} {te : TE} {σ : L2.St} {H1 : Hp} {Q : VK} (R : RA β) [Mv R] (Z : Addr → Prop) (f : Nat → β) (hz : n ≤ sizeLine) (hZ : ∀ a, Z a → H1 a ≠ none)
    (hgo : ∀ i H2, Same H1 H2 → i < n → J.go i H2) (hst : ∀ H2, Same H1 H2 → J.stop n H2)
    (step : ∀ i, i < n → ∀ H2 x H3, Same H1 H2 → J.yld i H2 x H3 → H3 = H2 ∧ ∀ Q' : VK, (∀ y H5, Same H2 H5 → R (fun a => H2 a = none ∨ Z a) H5 y (f i) → Q' y H5) → te (some x :: freesOf js σ) H2 Q')
    (fin : ∀ p H', H1 p = none → Same H1 H' → LsA R (fun a => a ≠ p ∧ (H1 a = none ∨ Z a)) H' p ((List.range n).map f) → Q (.ref p) H') : compR js te σ Q J H1 := by
  intro p hp
  refine ⟨fun i m ys H2 => i ≤ n ∧ m = n - i ∧ Same H1 H2 ∧ H2 p = some (.lst ys) ∧ A2 (R (fun a => a ≠ p ∧ (H1 a = none ∨ Z a)) H2) ys ((List.range i).map f), ⟨n, Nat.zero_le _, rfl, Sw.same_new hp _, upd_same, A2.nil⟩, ?_⟩
  rintro i m ys H2 ⟨hi, rfl, g, e, r⟩
  refine ⟨e, ?_⟩
  by_cases hin : i < n
  · refine .inr ⟨hgo i H2 g hin, ?_, fun x H3 hy => ?_⟩
    · have := r.1
      rw [List.length_map, List.length_range] at this
      omega
    obtain ⟨rfl, h2⟩ := step i hin H2 x H3 g hy
    refine h2 _ fun y H5 g5 ry => ⟨g5 _ _ e, n - (i + 1), by omega, hin, rfl, Sw.sUpd (g.trans g5) hp _, upd_same, ?_⟩
    rw [List.range_succ, List.map_append]
    have np : ¬ (p ≠ p ∧ (H1 p = none ∨ Z p)) := fun z => z.1 rfl
    refine ((r.imp fun v b q => mvS q g5).snoc (mvP ry fun a ha => ?_)).imp fun v b q => mvU q np _
    rcases ha with h | h
    · exact ⟨(fun z => by rw [z, e] at h; cases h), .inl (g.free h)⟩
    · exact ⟨fun z => hZ a h (z ▸ hp), .inr h⟩
  · have e2 : i = n := by omega
    subst e2
    exact .inl ⟨hst H2 g, fin p H2 hp g ⟨ys, e, r⟩⟩
section
variable {K : PySem.W.Frag} {β : Type} {a : Addr} {xs : List V} {n : Nat} {js : List Nat} {tc : TT} {te : TE} {σ : L2.St} {H1 : Hp} {Q : VK}
theorem compIf_Rl (R : RA β) [Mv R] (Z : Addr → Prop) (pr : Nat → Bool) (f : Nat → β) (hS : SqL K H1 a xs) (hz : xs.length ≤ sizeLine) (hZ : ∀ a, Z a → H1 a ≠ none)
    (s1 : ∀ i x, xs[i]? = some x → ∀ H2, Same H1 H2 → ∀ S : Bool → Hp → Prop, (∀ H4, Same H2 H4 → S (pr i) H4) → tc (some x :: freesOf js σ) H2 S)
    (s2 : ∀ i x, xs[i]? = some x → pr i = true → ∀ H2, Same H1 H2 → ∀ Q' : VK, (∀ y H5, Same H2 H5 → R (fun a => H2 a = none ∨ Z a) H5 y (f i) → Q' y H5) → te (some x :: freesOf js σ) H2 Q')
    (fin : ∀ p H', H1 p = none → Same H1 H' → LsA R (fun a => a ≠ p ∧ (H1 a = none ∨ Z a)) H' p (pickL xs.length pr f) → Q (.ref p) H') : compIR js tc te σ Q (Itl K a) H1 := by
  refine compIf_R R Z pr f hz hZ (fun i H2 g hi => ⟨xs, xs[i], g.seq hS, List.getElem?_eq_getElem hi⟩) (fun H2 g => ⟨xs, g.seq hS, Nat.le_refl _⟩) (fun i hi H2 x H3 g hy => ?_) fin
  obtain ⟨rfl, hx⟩ := hy
  have ex := hx xs (g.seq hS)
  exact ⟨rfl, s1 i x ex _ g, fun h H4 g4 => s2 i x ex h _ (g.trans g4)⟩
theorem comp_Rl (R : RA β) [Mv R] (Z : Addr → Prop) (f : Nat → β) (hS : SqL K H1 a xs) (hz : xs.length ≤ sizeLine) (hZ : ∀ a, Z a → H1 a ≠ none)
    (s2 : ∀ i x, xs[i]? = some x → ∀ H2, Same H1 H2 → ∀ Q' : VK, (∀ y H5, Same H2 H5 → R (fun a => H2 a = none ∨ Z a) H5 y (f i) → Q' y H5) → te (some x :: freesOf js σ) H2 Q')
    (fin : ∀ p H', H1 p = none → Same H1 H' → LsA R (fun a => a ≠ p ∧ (H1 a = none ∨ Z a)) H' p ((List.range xs.length).map f) → Q (.ref p) H') : compR js te σ Q (Itl K a) H1 := by
  refine comp_R R Z f hz hZ (fun i H2 g hi => ⟨xs, xs[i], g.seq hS, List.getElem?_eq_getElem hi⟩) (fun H2 g => ⟨xs, g.seq hS, Nat.le_refl _⟩) (fun i hi H2 x H3 g hy => ?_) fin
  obtain ⟨rfl, hx⟩ := hy
  exact ⟨rfl, s2 i x (hx xs (g.seq hS)) _ g⟩
theorem comp_RrH {hd : Option Value} (R : RA β) [Mv R] (Z : Addr → Prop) (f : Nat → β) (hok : HdOk hd H1) (hz : n ≤ sizeLine) (hZ : ∀ a, Z a → H1 a ≠ none)
    (s2 : ∀ i : Nat, i < n → ∀ H2, Same H1 H2 → ∀ Q' : VK, (∀ y H5, Same H2 H5 → R (fun a => H2 a = none ∨ Z a) H5 y (f i) → Q' y H5) → te (some (.int (0 + (i : Int))) :: freesOf js σ) H2 Q')
    (fin : ∀ p H', H1 p = none → Same H1 H' → LsA R (fun a => a ≠ p ∧ (H1 a = none ∨ Z a)) H' p ((List.range n).map f) → Q (.ref p) H') : compR js te σ Q (ItrH hd 0 n) H1 := by
  refine comp_R R Z f hz hZ (fun i H2 g hi => hi) (fun H2 g => ⟨Nat.le_refl n, hdSame hok g⟩) (fun i hi H2 x H3 g hy => ?_) fin
  obtain ⟨rfl, rfl⟩ := hy
  exact ⟨rfl, s2 i hi _ g⟩
end
end L2
namespace Sw
open PySem L2 XH Hm
/-! ### things alike -/
def AllSmp (xs : List V) : Prop := ∀ x ∈ xs, Smp x
theorem alk_refl {K : PySem.W.Frag} {H : Hp} {xs : List V} (h : AllSmp xs) : All2 (Alk K H 0) xs xs := all2_at rfl fun i x y h1 h2 => by
  rw [h1] at h2
  cases h2
  exact ⟨rfl, h x (List.mem_of_getElem? h1)⟩
theorem alk_tup {α : Type} {f : α → List V} {K : PySem.W.Frag} {P P' : Addr → Prop} {H : Hp} {v w : V} {x : α} (hs : AllSmp (f x)) (h : rTup f P H v x) (k : rTup f P' H w x) : Alk K H 1 v w := by
  obtain ⟨t, rfl, _, e⟩ := h
  obtain ⟨t', rfl, _, e'⟩ := k
  exact .inr ⟨t, t', _, _, rfl, rfl, .inl ⟨SqT.of e, SqT.of e'⟩, alk_refl hs⟩
theorem alk_A2 {α : Type} {R : RA α} {K : PySem.W.Frag} {P P' : Addr → Prop} {H : Hp} {n : Nat} {vs ws : List V} {xs : List α} (f : ∀ v w x, x ∈ xs → R P H v x → R P' H w x → Alk K H n v w) (h : A2 (R P H) vs xs) (k : A2 (R P' H) ws xs) : All2 (Alk K H n) vs ws :=
  all2_at (h.1.trans k.1.symm) fun i v w e1 e2 => by
    obtain ⟨x, hx, q⟩ := h.at_ e1
    exact f v w x (List.mem_of_getElem? hx) q (k.2 i w x e2 hx)
theorem alk_lst {α : Type} {R : RA α} {K : PySem.W.Frag} {P P' : Addr → Prop} {H : Hp} {n : Nat} {v w : V} {xs : List α} (f : ∀ v w x, x ∈ xs → R P H v x → R P' H w x → Alk K H n v w) (h : rLst R P H v xs) (k : rLst R P' H w xs) : Alk K H (n + 1) v w := by
  obtain ⟨l, rfl, _, vs, e, r⟩ := h
  obtain ⟨l', rfl, _, ws, e', r'⟩ := k
  exact .inr ⟨l, l', _, _, rfl, rfl, .inr ⟨SqL.of e, SqL.of e'⟩, alk_A2 f r r'⟩
end Sw
set_option Elab.async false
set_option linter.all false
set_option maxRecDepth 100000
namespace Sw
open PySem L2 XH PySem.NumText
/-! ### names -/
def letT : Str := "abcdefghijklmnopqrstuvwxyz"
def Nm (z : Str) : Prop := 1 ≤ (sL z).length ∧ (sL z).length ≤ 12 ∧ ∀ c ∈ sL z, 97 ≤ c ∧ c ≤ 122
theorem let_mem (c : Nat) : (!(Builtin.Str.occurrences letT (mkS [c]) 0 letT.length 1).isEmpty) = decide (97 ≤ c ∧ c ≤ 122) := by
  rw [in_one]
  have e : sL letT = (List.range 26).map (97 + ·) := by decide
  rw [e]
  apply decide_eq_decide.mpr
  constructor
  · intro h
    obtain ⟨i, hi, rfl⟩ := List.mem_map.mp h
    have := List.mem_range.mp hi
    omega
  · intro h
    exact List.mem_map.mpr ⟨c - 97, List.mem_range.mpr (by omega), by omega⟩
def spIsName (K : PySem.W.Frag) : Sp := fun vs H Q _ => ∃ x : V, vs = [x] ∧ ((∃ z : Str, x = .str z ∧ z.length ≤ 1000000 ∧ (Nm z → Q (.bl true) H) ∧ (¬ Nm z → Q (.bl false) H)) ∨ ∃ ty, TyOf K H x ty ∧ PySem.W.kitOne K ty (.type "str") = some false ∧ Q (.bl false) H)
end Sw
set_option Elab.async false
set_option linter.all false
set_option maxRecDepth 100000
namespace Sw
open PySem L2 XH Hm
/-! ### nets with tools and uses -/
abbrev Us := Str × Int × Int
abbrev Wy := Int × Int × List Us
abbrev Tk := List (List Wy)
abbrev Tl := List (Str × Int)
def useV (u : Us) : List V := [.str u.1, .int u.2.1, .int u.2.2]
abbrev rUse : RA Us := rTup useV
def rWay : RA Wy := fun P H v w => ∃ t u : Addr, v = .ref t ∧ P t ∧ P u ∧ H t = some (.tup [.int w.1, .int w.2.1, .ref u]) ∧ LsA rUse P H u w.2.2
instance : Mv rWay where
  mv := fun {P P' H H' v x} g h => by
    obtain ⟨t, u, rfl, p, p2, e, vs, e2, r⟩ := h
    obtain ⟨q, e'⟩ := g t _ p rfl e
    obtain ⟨q2, e2'⟩ := g u _ p2 rfl e2
    exact ⟨t, u, rfl, q, q2, e', vs, e2', r.imp fun _ _ k => Mv.mv g k⟩
abbrev rTask : RA (List Wy) := rLst rWay
def toolK (D : Tl) : List (Key × V) := D.map fun p => (.inr p.1, .int p.2)
def manyOf (D : Tl) (z : Str) : Option Int := (D.find? fun p => decide (p.1 = z)).map (·.2)
theorem toolK_len (D : Tl) : (toolK D).length = D.length := List.length_map _
theorem toolK_at {D : Tl} {i : Nat} {k : Key} {x : V} (h : (toolK D)[i]? = some (k, x)) : ∃ p, D[i]? = some p ∧ k = .inr p.1 ∧ x = .int p.2 := by
  unfold toolK at h
  rw [List.getElem?_map] at h
  obtain ⟨p, e, q⟩ := Option.map_eq_some_iff.mp h
  cases q
  exact ⟨p, e, rfl, rfl⟩
theorem manyOf_cons (p : Str × Int) (D : Tl) (z : Str) : manyOf (p :: D) z = if p.1 = z then some p.2 else manyOf D z := by
  unfold manyOf
  rw [List.find?_cons]
  by_cases h : p.1 = z
  · rw [decide_eq_true h, if_pos h]; rfl
  · rw [decide_eq_false h, if_neg h]
theorem toolK_val (z : Str) : ∀ D : Tl, valV (toolK D) (.inr z) = (manyOf D z).map V.int
  | [] => rfl
  | p :: D => by
    rw [manyOf_cons]
    show valV (((.inr p.1 : Key), V.int p.2) :: toolK D) _ = _
    by_cases h : p.1 = z
    · rw [if_pos h, valV_pos (by show (Sum.inr p.1 : Key) = _; rw [h])]; rfl
    · rw [if_neg h, valV_neg (by intro e; exact h (by injection e)), toolK_val z D]
theorem manyOf_mem {z : Str} {n : Int} : ∀ {D : Tl}, manyOf D z = some n → (z, n) ∈ D
  | [], h => by cases h
  | p :: D, h => by
    rw [manyOf_cons] at h
    by_cases e : p.1 = z
    · rw [if_pos e] at h
      cases h
      subst e
      exact List.mem_cons_self
    · rw [if_neg e] at h
      exact List.mem_cons_of_mem _ (manyOf_mem h)
theorem manyOf_of {z : Str} {n : Int} : ∀ {D : Tl}, (D.map (·.1)).Nodup → (z, n) ∈ D → manyOf D z = some n
  | [], _, h => by cases h
  | p :: D, nd, h => by
    rw [List.map_cons, List.nodup_cons] at nd
    rw [manyOf_cons]
    rcases List.mem_cons.mp h with e | e
    · subst e
      rw [if_pos rfl]
    · have hn : ¬ p.1 = z := fun q => nd.1 (by rw [q]; exact List.mem_map_of_mem (f := Prod.fst) e)
      rw [if_neg hn, manyOf_of nd.2 e]
/-- a tool put in -/
theorem toolK_put {D : Tl} {z : Str} {n : Int} : ∃ E : Tl, putK (toolK D) (.inr z) (.int n) = toolK E ∧ ((D.map (·.1)).Nodup → (E.map (·.1)).Nodup) ∧ E.length ≤ D.length + 1 ∧ 1 ≤ E.length ∧ ∀ p ∈ E, p ∈ D ∨ p = (z, n) := by
  unfold putK
  by_cases h : ((toolK D).any fun kv => decide (kv.1 = (.inr z : Key))) = true
  · rw [if_pos h]
    refine ⟨D.map fun p => if p.1 = z then (p.1, n) else p, ?_, fun nd => ?_, ?_, ?_, fun p hp => ?_⟩
    · unfold toolK
      rw [List.map_map, List.map_map]
      apply List.map_congr_left
      intro p _
      simp only [Function.comp_apply]
      by_cases e : p.1 = z
      · rw [if_pos (by rw [e]), if_pos e]
      · rw [if_neg (by intro q; exact e (by injection q)), if_neg e]
    · rw [List.map_map]
      have : ((fun x : Str × Int => x.1) ∘ fun p : Str × Int => if p.1 = z then (p.1, n) else p) = fun x => x.1 := by
        funext p
        simp only [Function.comp_apply]
        split <;> rfl
      rw [this]
      exact nd
    · rw [List.length_map]; omega
    · rw [List.length_map]
      cases D with
      | nil => simp [toolK] at h
      | cons a b => simp
    · obtain ⟨q, hq, rfl⟩ := List.mem_map.mp hp
      by_cases e : q.1 = z
      · rw [if_pos e, e]; exact .inr rfl
      · rw [if_neg e]; exact .inl hq
  · rw [if_neg h]
    refine ⟨D ++ [(z, n)], ?_, fun nd => ?_, ?_, ?_, fun p hp => ?_⟩
    · unfold toolK; rw [List.map_append]; rfl
    · rw [List.map_append, List.map_cons, List.map_nil, List.nodup_append]
      refine ⟨nd, by simp, fun a ha b hb e => h ?_⟩
      simp at hb
      subst hb
      rw [List.any_eq_true]
      obtain ⟨q, hq, hz⟩ := List.mem_map.mp ha
      exact ⟨(.inr q.1, .int q.2), List.mem_map_of_mem (f := fun p : Str × Int => ((.inr p.1 : Key), V.int p.2)) hq, by rw [decide_eq_true_eq]; show (Sum.inr q.1 : Key) = _; rw [hz, e]⟩
    · rw [List.length_append]; simp
    · rw [List.length_append]; simp
    · rcases List.mem_append.mp hp with q | q
      · exact .inl q
      · exact .inr (List.mem_singleton.mp q)
def UsOk (D : Tl) (us : List Us) : Prop := (us.map (·.1)).Nodup ∧ us.length ≤ 100 ∧ ∀ e ∈ us, ∃ m, manyOf D e.1 = some m ∧ 1 ≤ e.2.1 ∧ e.2.1 ≤ m ∧ 0 ≤ e.2.2 ∧ e.2.2 ≤ 1000000000
def WsOk (D : Tl) (ws : List Wy) : Prop := 1 ≤ ws.length ∧ ws.length ≤ 2 ∧ ∀ w ∈ ws, 1 ≤ w.1 ∧ w.1 ≤ w.2.1 ∧ w.2.1 ≤ 1000000000 ∧ UsOk D w.2.2
structure NetOkG (D : Tl) (T : Tk) (A B : List Ky) (n : Int) : Prop where
  d12 : D.length ≤ 12
  dnd : (D.map (·.1)).Nodup
  tool : ∀ p ∈ D, Nm p.1 ∧ 1 ≤ p.2 ∧ p.2 ≤ 8
  t24 : T.length ≤ 24
  ways : ∀ ws ∈ T, WsOk D ws
  n0 : 0 ≤ n
  n8 : n ≤ 8
  a600 : A.length ≤ 600
  arcs : ∀ k ∈ A, ∃ p q g : Int, k = [p, q, g] ∧ 0 ≤ p ∧ p < 2 * (T.length : Int) + n ∧ 0 ≤ q ∧ q < 2 * (T.length : Int) + n ∧ -1000000000 ≤ g ∧ g ≤ 1000000000
  b300 : B.length ≤ 300
  pairs : ∀ k ∈ B, ∃ p q : Int, k = [p, q] ∧ 0 ≤ p ∧ p < (T.length : Int) ∧ 0 ≤ q ∧ q < (T.length : Int) ∧ p ≠ q
/-- a thing as it is, or (f) one that is walked -/
def TD (f : Bool) (H : Hp) (a : Addr) (u : HO) : Prop := H a = some u ∨ (f = true ∧ ∃ o, H a = some (.frz o u))
theorem TD.same {f : Bool} {H H' : Hp} {a : Addr} {u : HO} (h : TD f H a u) (g : Same H H') : TD f H' a u := h.elim (fun e => .inl (g _ _ e)) fun ⟨e, o, k⟩ => .inr ⟨e, o, g _ _ k⟩
theorem TD.no {H : Hp} {a : Addr} {u : HO} (h : TD false H a u) : H a = some u := h.elim id fun ⟨e, _⟩ => by cases e
structure NetG (C : Addr) (f : Bool) (H : Hp) (x : Addr) (D : Tl) (T : Tk) (A B : List Ky) (n : Int) : Prop where
  ex : ∃ (dx td tl al pl : Addr) (fs : List (Str × V)), H x = some (.ins C dx fs) ∧ fs.lookup ("tools" : Str) = some (.ref td) ∧ fs.lookup ("tasks" : Str) = some (.ref tl) ∧ fs.lookup ("arcs" : Str) = some (.ref al) ∧ fs.lookup ("apart" : Str) = some (.ref pl) ∧ fs.lookup ("moments" : Str) = some (.int n) ∧
    TD f H td (.dK (toolK D)) ∧ LsA rTask An H tl T ∧ TupsA H al A ∧ TupsA H pl B
theorem NetG.same {C : Addr} {f : Bool} {H H' : Hp} {x : Addr} {D : Tl} {T : Tk} {A B : List Ky} {n : Int} (h : NetG C f H x D T A B n) (g : Same H H') : NetG C f H' x D T A B n := by
  obtain ⟨dx, td, tl, al, pl, fs, a, b1, b2, b3, b4, b5, c, d, e, k⟩ := h.ex
  exact ⟨dx, td, tl, al, pl, fs, g _ _ a, b1, b2, b3, b4, b5, c.same g, d.same g, e.same g, k.same g⟩
theorem TupsA.sq {H H' : Hp} {l : Addr} {ks : List Ky} (h : TupsA H l ks) (g : ∀ a o, isSq o = true → H a = some o → H' a = some o) : TupsA H' l ks := by
  obtain ⟨as, e, r⟩ := h
  exact ⟨as, g _ _ rfl e, r.imp fun a k q => g _ _ rfl q⟩
theorem thaw_same {H H' : Hp} {d : Addr} {kvs : List (Key × V)} {o : Obj} (e : H d = some (.dK kvs)) (g : Same (upd H d (.frz o (.dK kvs))) H') : Same H (upd H' d (.dK kvs)) := fun a u h => by
  by_cases z : a = d
  · subst z
    rw [e] at h
    cases h
    exact upd_same
  · rw [upd_ne z]
    exact g a u (by rw [upd_ne z]; exact h)
/-! ### the net's own defs -/
def spPointsG (C : Addr) : Sp := fun vs H Q _ => ∃ (x : Addr) (n : Int) (f : Bool) (D : Tl) (T : Tk) (A B : List Ky), vs = [.ref x] ∧ NetG C f H x D T A B n ∧ Q (.int (2 * (T.length : Int) + n)) H
/-- the pairs that are handed in: a list, or None -/
def ApV (H : Hp) (v : V) (B : List Ky) : Prop := (v = .non ∧ B = []) ∨ ∃ pl, v = .ref pl ∧ TupsA H pl B
/-! ### plans -/
/-! ### what the plans' defs promise -/
section
variable (C : Addr)
end
end Sw
namespace L2
open PySem PySem.Spec PyProof.Rows XH Sw
/-- for, over the pairs of a dict -/
theorem for_items {a : Addr} {o : Obj} {kvs : List (Key × V)} {g : TG} {tb : TS} {D : Ends} {σ : St} {H : Hp} (Pv : Nat → St → Hp → Prop) (h0 : Pv 0 σ H) (hz : ∀ i σ H, i ≤ kvs.length → Pv i σ H → H a = some (.frz o (.dK kvs)))
    (hs : ∀ i k x σ H T, kvs[i]? = some (k, x) → Pv i σ H → H T = none → g (.ref T) σ (upd H T (.tup [kV k, x])) fun σ2 H2 => tb { D with nx := Pv (i + 1), ct := Pv (i + 1), bk := D.nx } σ2 H2) (hd : ∀ σ H, Pv kvs.length σ H → D.nx σ H) :
    ∃ W : Nat → Nat → St → Hp → Prop, (∃ m, W 0 m σ H) ∧ ∀ i m σ H, W i m σ H →
      ((Itm a o kvs).stop i H ∧ D.nx σ H) ∨ ((Itm a o kvs).go i H ∧ ∃ N : St → Hp → Prop, (∀ σ' H', N σ' H' → ∃ m', m' < m ∧ W (i + 1) m' σ' H') ∧ ∀ x H', (Itm a o kvs).yld i H x H' → g x σ H' fun σ2 H2 => tb { D with nx := N, ct := N, bk := D.nx } σ2 H2) := by
  refine ⟨fun i m σ H => m = kvs.length - i ∧ i ≤ kvs.length ∧ Pv i σ H, ⟨kvs.length, by simp, Nat.zero_le _, h0⟩, ?_⟩
  rintro i m σ H ⟨rfl, hi, p⟩
  by_cases hlt : i < kvs.length
  · refine .inr ⟨⟨hz i σ H hi p, hlt⟩, Pv (i + 1), fun σ' H' p' => ⟨kvs.length - (i + 1), by omega, rfl, hlt, p'⟩, fun x H' y => ?_⟩
    obtain ⟨T, k, v, rfl, nT, hk, rfl⟩ := y
    exact hs i k v σ H T hk p nT
  · have e : i = kvs.length := by omega
    subst e
    exact .inl ⟨⟨hz _ σ H hi p, rfl⟩, hd σ H p⟩
end L2
namespace Sw
open PySem L2 XH Hm
theorem rng_getD {α : Type} (xs : List α) (d : α) : (List.range xs.length).map (fun i => xs.getD i d) = xs := by
  apply List.ext_getElem
  · rw [List.length_map, List.length_range]
  · intro i h1 h2
    rw [List.getElem_map, List.getElem_range, getDo (List.getElem?_eq_getElem h2)]
theorem rng_getD' {α : Type} {n : Nat} (xs : List α) (d : α) (h : n = xs.length) : (List.range n).map (fun i => xs.getD i d) = xs := by
  subst h
  exact rng_getD xs d
theorem dgTool {H : Hp} {td : Addr} {D : Tl} {z : Str} {m : Int} (e : Rd H td (.dK (toolK D))) (h : manyOf D z = some m) : DGet H td (.str z) (some (.int m)) :=
  .inl ⟨_, .inr z, e, rfl, by rw [toolK_val, h]; rfl⟩
end Sw
set_option Elab.async false
set_option linter.all false
set_option maxRecDepth 100000
namespace Sw
open PySem L2 XH Hm
end Sw
set_option Elab.async false
set_option linter.all false
set_option maxRecDepth 100000
namespace Sw
open PySem L2 XH
/-! ### larders: names refused -/
end Sw
set_option Elab.async false
set_option linter.all false
set_option maxRecDepth 100000
namespace Sw
open PySem L2 PyProof.Rows So
end Sw
set_option Elab.async false
set_option linter.all false
set_option maxRecDepth 100000
namespace Sw
open PySem L2 XH PyProof.Rows
end Sw
namespace Sw
open PySem L2 XH PyProof.Rows
end Sw
set_option Elab.async false
set_option linter.all false
set_option maxRecDepth 100000
namespace Sw
open PySem L2 XH PyProof.Rows
/-! ### steps with their uses and second ways -/
end Sw
set_option Elab.async false
set_option linter.all false
set_option maxRecDepth 100000
namespace L2
open PySem PySem.Spec PyProof.Rows XH Sw
end L2
namespace Sw
open PySem L2 XH PyProof.Rows
end Sw
set_option Elab.async false
set_option linter.all false
set_option maxRecDepth 100000
namespace L2
open PySem PySem.Spec PyProof.Rows XH Sw
/-! ### long lists of constants and small displays -/
section
variable {X : Cx} {es es' : List Expr} {t t' : TA} {p : Pos} 
end
section
variable {X : Cx} {k j : Nat} {f C : Addr} {ps : List Str} {sp : Sp} {dvs : List V} {x m : Str} {p pos apos : Pos} {e o : Expr} {es : List Expr} {ta tb : TE} {t : TA} {E : L2.St → XK}
end
end L2
set_option Elab.async false
set_option linter.all false
set_option maxRecDepth 100000
namespace L2
open PySem PySem.Spec PyProof.Rows XH Sw
/-! ### pairs of texts in a list of such -/
section
variable {X : Cx} {pins : List (Addr × Obj)} {σ : St} {H : Hp} {s : Shared}
end
end L2
set_option Elab.async false
set_option linter.all false
set_option maxRecDepth 100000
namespace Sw
open PySem L2 XH PyProof.Rows
/-! ### names by letters -/
def Lt (z : Str) : Prop := ∀ c ∈ sL z, 97 ≤ c ∧ c ≤ 122
theorem Lt.app {x y : Str} (h : Lt x) (k : Lt y) : Lt (x ++ y) := fun c hc => by
  rw [sL_app] at hc
  rcases List.mem_append.mp hc with q | q
  · exact h c q
  · exact k c q
theorem Lt.cut {x : Str} (h : Lt x) (lo hi : Option Int) : Lt (cutS x lo hi) := fun c hc => by
  have hc' : c ∈ ((sL x).drop (HT.sIx x.length 0 lo)).take (HT.sIx x.length x.length hi - HT.sIx x.length 0 lo) := by simpa [sL, cutS] using hc
  exact h c (List.mem_of_mem_drop (List.mem_of_mem_take hc'))
theorem Lt.nil : Lt "" := fun c hc => by
  have : c ∈ ([] : List Nat) := hc
  simp at this
theorem Lt.one {c : Nat} (h : 97 ≤ c ∧ c ≤ 122) : Lt ⟨#[c]⟩ := fun d hd => by
  have : d ∈ [c] := hd
  rw [List.mem_singleton.mp this]
  exact h
theorem cutS_hi {x : Str} {i : Int} (h : 0 ≤ i) : (cutS x none (some i)).length = min i.toNat x.length := by
  have e1 : HT.sIx x.length 0 none = 0 := rfl
  have e2 : HT.sIx x.length x.length (some i) = min i.toNat x.length := by
    unfold HT.sIx
    simp
    omega
  show ((x.cps.toList.drop _).take _).toArray.size = _
  rw [e1, e2, List.size_toArray, List.length_take, List.length_drop]
  have : x.cps.toList.length = x.length := by simp [Str.length]
  omega
theorem cutS_lo {x : Str} {i : Int} (h : 0 ≤ i) : (cutS x (some i) none).length = x.length - i.toNat := by
  have e1 : HT.sIx x.length 0 (some i) = min i.toNat x.length := by
    unfold HT.sIx
    simp
    omega
  have e2 : HT.sIx x.length x.length none = x.length := rfl
  show ((x.cps.toList.drop _).take _).toArray.size = _
  rw [e1, e2, List.size_toArray, List.length_take, List.length_drop]
  have : x.cps.toList.length = x.length := by simp [Str.length]
  omega
theorem Lt.nm {z : Str} (h : Lt z) (h1 : 1 ≤ z.length) (h2 : z.length ≤ 12) : Nm z := ⟨by rw [sL_len]; exact h1, by rw [sL_len]; exact h2, h⟩
end Sw
set_option Elab.async false
set_option linter.all false
set_option maxRecDepth 100000
namespace L2
open PySem PySem.Spec PyProof.Rows XH Sw
theorem op_mulS {X : Cx} : OpR X (binaryOp .Mult) (fun x y H Q => ∃ z n, x = .str z ∧ y = .int n ∧ z.length ≤ 16 ∧ 0 ≤ n ∧ n ≤ 1048576 ∧ Q (.str (Txt.mul z n)) H) := by
  intro pins s σ H x y v u Q I rx ry h
  obtain ⟨z, n, rfl, rfl, hz, h0, hn, q⟩ := h
  obtain ⟨t, rfl⟩ := rx
  obtain ⟨t', rfl⟩ := ry
  exact SB.mul (mulOk_of 16 1048576 hz hn (by omega) (by decide) (by decide)) fun t' k => ⟨.str _, H, I.tok _, ⟨_, rfl⟩, q⟩
end L2
namespace Sw
open PySem L2 XH Hm PySem.NumText
theorem mul_len {z : Str} {n : Int} (h : 0 ≤ n) : ((Txt.mul z n).length : Int) = (z.length : Int) * n := by
  have := PyProof.Rows.len_mul z n
  rw [this, if_neg (by simp; omega)]
theorem foldl_app (c : Nat) (h : 97 ≤ c ∧ c ≤ 122) : ∀ (n : Nat) (a : Array Nat), (∀ x ∈ a.toList, 97 ≤ x ∧ x ≤ 122) → ∀ x ∈ ((List.replicate n #[c]).foldl (· ++ ·) a).toList, 97 ≤ x ∧ x ≤ 122
  | 0, a, ha, x, hx => ha x hx
  | n + 1, a, ha, x, hx => by
    rw [List.replicate_succ, List.foldl_cons] at hx
    refine foldl_app c h n (a ++ #[c]) (fun y hy => ?_) x hx
    rw [Array.toList_append, List.mem_append] at hy
    rcases hy with q | q
    · exact ha y q
    · simp at q
      rw [q]
      exact h
theorem Lt.mul {c : Nat} (h : 97 ≤ c ∧ c ≤ 122) (n : Int) : Lt (Txt.mul ⟨#[c]⟩ n) := by
  unfold Txt.mul
  split
  · exact Lt.nil
  · split
    · exact Lt.one h
    · intro x hx
      exact foldl_app c h _ #[] (fun y hy => by simp at hy) x hx
/-! ### tools of the laws' nets -/
end Sw
namespace L2
open PySem PySem.Spec PyProof.Rows XH Sw
theorem vals_at : ∀ {xs : List V} {us : List Value}, xs.length = us.length → (∀ (j : Nat) (x : V) (u : Value), xs[j]? = some x → us[j]? = some u → RelV x u) → Vals xs us
  | [], [], _, _ => .nil
  | x :: xs, u :: us, h, f => .cons (f 0 x u rfl rfl) (vals_at (by simpa using h) fun j y w e1 e2 => f (j + 1) y w (by simpa using e1) (by simpa using e2))
  | [], _ :: _, h, _ => by simp at h
  | _ :: _, [], h, _ => by simp at h
/-- list(d), d a dict -/
theorem call_listD {X : Cx} (hc : X.calm = true) : CallR X (.type "list") (fun xs H Q => ∃ (d : Addr) (kvs : List (Key × V)), xs = [.ref d] ∧ H d = some (.dK kvs) ∧ ∀ l, H l = none → Q (.ref l) (upd H l (.lst (kvs.map fun p => kV p.1)))) := by
  intro pins s σ H xs us Q I r h
  obtain ⟨d, kvs, rfl, hk, q⟩ := h
  obtain ⟨u, rfl, ru⟩ := vals1 r
  cases ru
  obtain ⟨z, hS, ws, rel, D⟩ := dk_of I.hok hk
  obtain ⟨ep, hat⟩ := D.dictAt
  refine PySem.W.kdl_call (PySem.W.kdl_dict (knd := mixKind X.prog X.w) (kvs := ws) (ep := ep) hS) (I.ok.hd hc) hat (by rw [← rel.length]; exact z) fun h' tk acc' c' kp hS' hacc => ?_
  have hv : Vals (kvs.map fun p => kV p.1) acc'.toList := vals_at (by
      have el : acc'.toList.length = acc'.size := by simp
      rw [List.length_map, el, hacc.1, rel.length]) fun j x u e1 e2 => by
    rw [List.getElem?_map] at e1
    obtain ⟨⟨k, v⟩, e3, rfl⟩ := Option.map_eq_some_iff.mp e1
    obtain ⟨k', x', e4, e5⟩ := hacc.2 j u (by rw [← Array.getElem?_toList]; exact e2)
    obtain ⟨u', e6, _⟩ := kv_at rel j e3
    rw [e6] at e4
    cases e4
    exact is_kV e5
  exact ⟨.ref s.heap.objs.size, _, I.laid (t' := tk) kp (Nat.le_refl _) (show ObjOk X.prog X.w _ h' _ (.lst _) from ⟨by rw [List.length_map]; exact z, acc'.toList, c', hv, by simpa using hS'⟩), rfl, q _ (I.hok.fresh (Nat.le_refl _))⟩
end L2
set_option Elab.async false
set_option linter.all false
set_option maxRecDepth 100000
namespace Sw
open PySem L2 XH Hm
/-! ### the law on tools at turns -/
theorem A2.rev {α : Type} {R : V → α → Prop} {vs : List V} {xs : List α} (h : A2 R vs xs) : A2 R vs.reverse xs.reverse := by
  refine ⟨by simp [h.1], fun i v x e1 e2 => ?_⟩
  have il : i < vs.length := by
    have := (List.getElem?_eq_some_iff.mp e1).1
    simpa using this
  rw [List.getElem?_reverse il] at e1
  rw [List.getElem?_reverse (by rw [← h.1]; exact il), ← h.1] at e2
  exact h.2 _ v x e1 e2
end Sw
set_option Elab.async false
set_option linter.all false
set_option maxRecDepth 100000
namespace Sw
open PySem L2 XH Hm
/-! ### chains: what counts between two points, totals -/
end Sw
set_option Elab.async false
set_option linter.all false
set_option maxRecDepth 100000
namespace Sw
open PySem L2 XH Hm
/-! ### walks back along what is kept of a raise -/
/-! lists of such walks -/
/-! ### totals of such walks, told from their ends -/
end Sw
namespace L2
open PySem PySem.Spec PyProof.Rows XH Sw Hm
/-- != of two lists alike -/
theorem op_neA {X : Cx} (n : Nat) (hu : X.A.units + (n + 1) < cLine) : OpR X (compareOp .NotEq) (fun x y H Q => ∃ a b xs ys, x = .ref a ∧ y = .ref b ∧ SqL X.K H a xs ∧ SqL X.K H b ys ∧ All2 (Alk X.K H n) xs ys ∧ Q (.bl false) H) := by
  intro pins s σ H x y v u Q I rx ry h
  obtain ⟨a, b, xs, ys, rfl, rfl, h1, h2, hA, hq⟩ := h
  cases rx
  cases ry
  obtain ⟨i1, v1, p1, _⟩ := I.list h1
  obtain ⟨i2, v2, p2, _⟩ := I.list h2
  refine SeqAt.RcNeAt.lists (e := fun _ => true) p1.isList p2.isList (by simp [← v1.length, ← v2.length, hA.len]) (by omega) (fun j g1 g2 => ?_) _ _ _ _ ⟨.bl false, H, I, by show Value.bool _ = Value.bool _; simp, hq⟩
  exact all2_eq (A := X.A.in1) (s := s) (fun x y u w => alk_eq I n X.A.in1 x y u w (by show X.A.units + 1 + n < _; omega)) hA v1 v2 j (by simpa using g1) (by simpa using g2)
end L2
set_option Elab.async false
set_option linter.all false
set_option maxRecDepth 100000
namespace L2
open PySem PySem.Spec PyProof.Rows XH Sw
section
variable {X : Cx}
end
/-! ### len(set(xs)), xs any numbers -/
section
variable {X : Cx} {e : Expr} {te : TE} {p1 p2 pos pos2 : Pos}
end
end L2
namespace Sw
open PySem L2 XH Hm
/-! ### cases -/
section
variable (C : Addr)
end
/-! ### clashes -/
section
variable (C : Addr)
end
end Sw
set_option Elab.async false
set_option linter.all false
set_option maxRecDepth 100000
namespace Sw
open PySem L2 XH Hm
/-! ### what calls and operators ask, by short names: the text's objects are fewer -/
end Sw
set_option Elab.async false
set_option linter.all false
set_option maxRecDepth 100000
namespace Sw
open PySem L2 XH Hm
/-! ### steps of a reading by lemmas: the rest is copied once -/
end Sw
set_option Elab.async false
set_option linter.all false
set_option maxRecDepth 100000
namespace Hm
open PySem PySem.SeqAt PySem.MeetsSeq PySem.MeetsSeq3
/-! ### less than, of lists of texts -/
section
variable {prog : Program} {w : World} {A : Around} {E : Value → Shared → Prop} {s : Shared}
end
end Hm
set_option Elab.async false
set_option linter.all false
set_option maxRecDepth 100000
namespace Wo
open PySem Hm So
/-! ### the order of chains -/
/-! ### chains found round by round -/
end Wo
set_option Elab.async false
set_option linter.all false
set_option maxRecDepth 100000
namespace L2
open PySem PySem.Spec PyProof.Rows XH
/-! ### a dict whose keys are tuples, walked key by key -/
section
variable {prog : Program} {w : World} {A : Around} {E : Value → Shared → Prop} {s : Shared}
end
end L2
namespace L2
open PySem PySem.Spec PyProof.Rows XH
section
variable {X : Cx} {tg : Expr}
end
end L2
set_option Elab.async false
set_option linter.all false
set_option maxRecDepth 100000
namespace L2
open PySem PySem.Spec PyProof.Rows XH Hm
end L2
namespace Sw
open PySem L2 XH Hm Wo So PyProof.Rows
/-! ### stand-ins, as dicts -/
/-! ### all but two stay -/
/-! ### pairs, as a dict of tuples -/
/-! ### the dict of the pairs -/
/-! ### what the law tells of the chains -/
end Sw
set_option Elab.async false
set_option linter.all false
set_option maxRecDepth 100000
namespace Sw
open PySem L2 XH Hm
/-! ### rosters: loads, plans that fit, pieces dealt -/
/-! ### all behind one another -/
end Sw
set_option Elab.async false
set_option linter.all false
set_option maxRecDepth 100000
namespace Sw
open PySem L2 XH Hm
/-! ### the order of the begins -/
/-! ### pieces -/
end Sw
set_option Elab.async false
set_option linter.all false
set_option maxRecDepth 100000
namespace L2
open PySem PySem.Spec PyProof.Rows
/-! ### range(a, b, -1) -/
section
variable {X : Cx} {tg : Expr}
end
end L2
set_option Elab.async false
set_option linter.all false
set_option maxRecDepth 100000
namespace Sw
open PySem L2 XH Hm PyProof.Rows So
/-! ### == of dicts whose values are alike -/
/-! ### specs -/
end Sw
set_option Elab.async false
set_option linter.all false
set_option maxRecDepth 100000
namespace Sw
open PySem L2 XH Hm PyProof.Rows So
/-! ### a dict of lists, tool by tool -/
end Sw
set_option Elab.async false
set_option linter.all false
set_option maxRecDepth 100000
namespace Sw
open PySem L2 XH Hm PyProof.Rows So
/-! ### k58's own: uses, loads, tasks placed -/
end Sw
set_option Elab.async false
set_option linter.all false
set_option maxRecDepth 100000
namespace Sw
open PySem L2 XH Hm PyProof.Rows So
end Sw
set_option Elab.async false
set_option linter.all false
set_option maxRecDepth 100000
namespace Sw
open PySem L2 XH Hm PyProof.Rows So
end Sw
set_option Elab.async false
set_option linter.all false
set_option maxRecDepth 100000
namespace L2
open PySem PySem.Spec PyProof.Rows XH Sw So
section
variable {prog : Program} {w : World} {A : Around} {E : Value → Shared → Prop} {s : Shared}
end
end L2
set_option Elab.async false
set_option linter.all false
set_option maxRecDepth 100000
namespace Sw
open PySem L2 XH PyProof.Rows
end Sw
set_option Elab.async false
set_option linter.all false
set_option maxRecDepth 100000
namespace Wo
open PySem Hm So
/-! ### how far a name is -/
/-! ### round by round -/
end Wo
set_option Elab.async false
set_option linter.all false
set_option maxRecDepth 100000
namespace L2
open PySem PySem.Spec PyProof.Rows XH Hm Wo
theorem nodup_leG {α : Type} [DecidableEq α] : ∀ {l m : List α}, l.Nodup → (∀ x ∈ l, x ∈ m) → l.length ≤ m.length
  | [], m, _, _ => Nat.zero_le _
  | x :: l, m, nd, sub => by
    have hx := sub x List.mem_cons_self
    have nd' := List.nodup_cons.mp nd
    have := nodup_leG (m := m.erase x) nd'.2 fun y hy => (List.mem_erase_of_ne (a := y) (b := x) (fun e => nd'.1 (by rw [← e]; exact hy))).mpr (sub y (List.mem_cons_of_mem _ hy))
    rw [List.length_erase_of_mem hx] at this
    have p := List.length_pos_of_mem hx
    rw [List.length_cons]
    omega
end L2
namespace Sw
open PySem L2 XH Hm Wo So PyProof.Rows
/-! ### far: a dict from names to numbers -/
/-! ### ratios along a chain -/
/-! ### for the law itself -/
end Sw
set_option Elab.async false
set_option linter.all false
set_option maxRecDepth 100000
namespace L2
open PySem PySem.Spec PyProof.Rows XH Sw
end L2
namespace Sw
open PySem L2 XH PyProof.Rows
/-! ### names that are unlike -/
/-! ### amounts, and dicts of them -/
/-! ### needs -/
section
variable (K : PySem.W.Frag) (cP : Addr)
end
/-! ### arithmetic -/
end Sw
set_option Elab.async false
set_option linter.all false
set_option maxRecDepth 100000
namespace L2
open PySem PySem.Spec PyProof.Rows XH Sw
open PySem.SeqAt PySem.AutoSeq1 PySem.MeetsSeq PySem.MeetsSeq2 PySem.MeetsSeq3
section
variable {prog : Program} {w : World}
abbrev Alike (prog : Program) (w : World) (A : Around) (s : Shared) (x y : Value) : Prop := ∀ (E : Value → Shared → Prop) (Q : Bool → Shared → Prop), Q true s → wpAny (model prog w) A (eqBool x y) Q E s
abbrev Goes (prog : Program) (w : World) (A : Around) (R : Result → Shared → Prop) (t : Sem Fin) (s : Shared) : Prop :=
  wpAny (model prog w) A.in1 t (fun fin s' => match fin with | .done f => R (.ok f) s' | .again c' => c'.quiet = true ∧ codeAny (model prog w) A c' R s') (fun e s' => R (.error e) s') s
end
end L2
namespace Sw
open PySem L2 XH PyProof.Rows
section
variable {H H' : Hp} {ln dz dh : Addr} {nds : List Nd5} {ks kh : List (Key × V)} {gs gh : AmF}
end
end Sw
set_option Elab.async false
set_option linter.all false
set_option maxRecDepth 100000
namespace Sw
open PySem L2 XH Hm PyProof.Rows So
end Sw
set_option Elab.async false
set_option linter.all false
set_option maxRecDepth 100000
namespace Sw
open PySem L2 XH Hm PyProof.Rows So
theorem smp_ints : ∀ ks : List Int, AllSmp (ks.map V.int) := fun ks x hx => by
  obtain ⟨k, _, rfl⟩ := List.mem_map.mp hx
  trivial
end Sw
set_option Elab.async false
set_option linter.all false
set_option maxRecDepth 100000
namespace L2
open PySem PySem.Spec PyProof.Rows XH Sw So
/-! ### len(set(xs)), xs texts, alike or unlike -/
def tLenSetT (K : PySem.W.Frag) (te : TE) : TE := fun σ H Q => te σ H fun x H1 => ∃ (a : Addr) (xs : List Str), x = .ref a ∧ SqL K H1 a (xs.map V.str) ∧ xs.length < 4000 ∧ Q (.int ((xs.foldl insT []).length : Nat)) H1
section
variable {X : Cx} {e : Expr} {te : TE} {p1 p2 pos pos2 : Pos}
theorem pe_lenSetT (hc : X.calm = true) (g1 : Gl X "len") (m1 : X.mg "len" = none) (g2 : Gl X "set") (m2 : X.mg "set" = none) (b1 : bootBuiltins "len" = some (.builtin "len")) (b2 : bootBuiltins "set" = some (.type "set")) (he : PE X e te)
    (hs : starEach [e] X.env = [(false, eval e X.env)] := by rfl) :
    PE X (.Call (.Name "len" p1) [.Call (.Name "set" p2) [e] [] pos2] [] pos) (tLenSetT X.K te) := by
  intro pins s σ H Q I h
  apply wpAny_Call_Name_kw
  refine ld_blt I g1 m1 b1 ?_ (by decide) (by decide)
  refine Calls.callWith_builtin rfl (Calls.evalArgs_plain ?_)
  refine Calls.spliced_cons (x := eval (.Call (.Name "set" p2) [e] [] pos2) X.env) (rest := []) ?_
  apply wpAny_Call_Name_kw
  refine ld_blt I g2 m2 b2 ?_ (by decide) (by decide)
  refine PyProof.Rows.callWith_type1 ?_ hs rfl
  rw [hs]
  refine Calls.spliced_cons (x := eval e X.env) (rest := []) (thn (he pins s σ H _ I h) fun v s1 ⟨x, H1, I1, r1, a, xs, ex, hq, few, q⟩ => ?_)
  subst ex
  cases r1
  apply Calls.spliced_nil
  obtain ⟨its, rv, pl, hz⟩ := I1.list hq
  have sz : its.toArray.size = xs.length := by rw [List.size_toArray, ← rv.length, List.length_map]
  have hli : s1.heap.IsList a its.toArray := pl.isList
  refine set_listT (xs := xs) (I.ok.hd hc) hli (fun i v hv => vals_str rv i v (by simpa using hv)) sz (by rw [sz]; show xs.length + 1 < 4096; omega) fun h' tk S2 kp => ?_
  apply Calls.spliced_nil
  have dz : ddT xs its.toArray.size = xs.foldl insT [] := by unfold ddT; rw [sz, List.take_length]
  obtain ⟨o, es, ep, t, ho, hx, hd, te', pm, hb, hf, _, _⟩ := S2
  have hn : es.size = (xs.foldl insT []).length := by rw [← Array.length_toList, ← List.length_map (fun e : Int × Value => strOf e.2), pm.length_eq, dz]
  refine call_len_set ho hx hd hf (by have h1 : es.size < 4096 := hb; omega) ?_
  refine ⟨.int (xs.foldl insT []).length, H1, I1.kept (fun b o e => kp b o (Heap.lt_size e) e), ⟨_, by rw [hn]⟩, q⟩
end
theorem insT_keep {ys : List Str} {y : Str} (h : y ∉ ys) : insT ys y = ys ++ [y] := if_neg h
/-- as many as there are things: just where no two are alike -/
theorem foldl_insT_len : ∀ (xs ys : List Str), ys.Nodup → (xs.foldl insT ys).length ≤ ys.length + xs.length
  | [], ys, _ => Nat.le_refl _
  | x :: xs, ys, h => by
    rw [List.foldl_cons]
    have := foldl_insT_len xs (insT ys x) (insT_nodup x h)
    have := insT_len ys x
    rw [List.length_cons]
    omega
theorem foldl_insT_eq : ∀ (xs ys : List Str), ys.Nodup → ((xs.foldl insT ys).length = ys.length + xs.length ↔ (ys ++ xs).Nodup)
  | [], ys, h => by simp [h]
  | x :: xs, ys, h => by
    rw [List.foldl_cons, List.length_cons]
    by_cases m : x ∈ ys
    · have e : insT ys x = ys := if_pos m
      rw [e]
      have l := foldl_insT_len xs ys h
      constructor
      · intro k; omega
      · intro k
        exact absurd rfl ((List.nodup_append.mp k).2.2 x m x List.mem_cons_self)
    · have e := insT_keep m
      have ih := foldl_insT_eq xs (insT ys x) (insT_nodup x h)
      rw [e] at ih ⊢
      rw [List.length_append, List.length_singleton, List.append_assoc] at ih
      rw [show ys.length + (xs.length + 1) = ys.length + 1 + xs.length by omega]
      exact ih
end L2
set_option linter.all false
namespace Sw
open PySem L2 XH Hm PyProof.Rows So
/- k51: a net's bounds, kept or broken (own work) -/
def PrOk (m : Int) (k : Ky) : Prop := ∃ p q : Int, k = [p, q] ∧ 0 ≤ p ∧ p < m ∧ 0 ≤ q ∧ q < m ∧ p ≠ q
def ArOk (m : Int) (k : Ky) : Prop := ∃ p q g : Int, k = [p, q, g] ∧ 0 ≤ p ∧ p < m ∧ 0 ≤ q ∧ q < m ∧ -1000000000 ≤ g ∧ g ≤ 1000000000
def spNil : Sp := fun _ _ _ _ => False
def spRPairsX (c : Addr) : Sp := fun vs H Q E => ∃ (pl : Addr) (m : Int) (B : List Ky), vs = [.ref pl, .int m] ∧ TupsA H pl B ∧ (∀ k ∈ B, ∃ p q : Int, k = [p, q]) ∧ (B.length ≤ 300 → (∀ k ∈ B, PrOk m k) → Q .non H) ∧ (¬ (B.length ≤ 300 ∧ ∀ k ∈ B, PrOk m k) → ∀ H', Same H H' → E (.ref c) none H')
def spRArcsX (c : Addr) : Sp := fun vs H Q E => ∃ (al : Addr) (m : Int) (A : List Ky), vs = [.ref al, .int m] ∧ TupsA H al A ∧ (∀ k ∈ A, ∃ p q g : Int, k = [p, q, g]) ∧ (A.length ≤ 600 → (∀ k ∈ A, ArOk m k) → Q .non H) ∧ (¬ (A.length ≤ 600 ∧ ∀ k ∈ A, ArOk m k) → ∀ H', Same H H' → E (.ref c) none H')
theorem till {α : Type} {xs : List α} {P : α → Prop} {i : Nat} (h : ∀ (j : Nat) x, j < i → xs[j]? = some x → P x) {y : α} (hy : xs[i]? = some y) (p : P y) : ∀ (j : Nat) x, j < i + 1 → xs[j]? = some x → P x := fun j x hj hx => by
  rcases Nat.lt_succ_iff_lt_or_eq.mp hj with q | q
  · exact h j x q hx
  · subst q; rw [hy] at hx; cases hx; exact p
theorem till_all {α : Type} {xs : List α} {P : α → Prop} {n : Nat} (hn : xs.length ≤ n) (h : ∀ (j : Nat) x, j < n → xs[j]? = some x → P x) : ∀ x ∈ xs, P x := fun x hx => by
  obtain ⟨j, hj⟩ := List.mem_iff_getElem?.mp hx
  have := (List.getElem?_eq_some_iff.mp hj).1
  exact h j x (by omega) hj
end Sw
namespace Sw
open PySem L2 XH Hm PyProof.Rows So
def spRUsesX (c : Addr) : Sp := fun vs H Q E => ∃ (u td : Addr) (D : Tl) (us : List Us), vs = [.ref u, .ref td] ∧ LsA rUse An H u us ∧ Rd H td (.dK (toolK D)) ∧ us.length ≤ 100 ∧ (UsOk D us → ∀ H', Same H H' → Q .non H') ∧ (¬ UsOk D us → ∀ H', Same H H' → E (.ref c) none H')
def TlOk (D : Tl) : Prop := D.length ≤ 12 ∧ ∀ p ∈ D, Nm p.1 ∧ 1 ≤ p.2 ∧ p.2 ≤ 8
def spRToolsX (c : Addr) : Sp := fun vs H Q E => ∃ (td : Addr) (D : Tl), vs = [.ref td] ∧ H td = some (.dK (toolK D)) ∧ (∀ p ∈ D, p.1.length ≤ 1000000) ∧ (TlOk D → ∀ H', Same H H' → Q .non H') ∧ (¬ TlOk D → ∀ H', Fx td H H' → E (.ref c) none H')
def spRTasksX (c : Addr) : Sp := fun vs H Q E => ∃ (tl td : Addr) (D : Tl) (T : Tk), vs = [.ref tl, .ref td] ∧ LsA rTask An H tl T ∧ H td = some (.dK (toolK D)) ∧ (∀ ws ∈ T, ∀ w ∈ ws, w.2.2.length ≤ 100) ∧ (T.length ≤ 24 → (∀ ws ∈ T, WsOk D ws) → ∀ H', Same H H' → Q .non H') ∧ (¬ (T.length ≤ 24 ∧ ∀ ws ∈ T, WsOk D ws) → ∀ H', Same H H' → E (.ref c) none H')
theorem set_len {xs : List Str} : (xs.foldl insT []).length = xs.length ↔ xs.Nodup := by
  have := foldl_insT_eq xs [] List.nodup_nil
  simpa using this
def UOk (D : Tl) (e : Us) : Prop := ∃ m, manyOf D e.1 = some m ∧ 1 ≤ e.2.1 ∧ e.2.1 ≤ m ∧ 0 ≤ e.2.2 ∧ e.2.2 ≤ 1000000000
theorem dgNot {H : Hp} {td : Addr} {D : Tl} {z : Str} (e : Rd H td (.dK (toolK D))) (h : manyOf D z = none) : DGet H td (.str z) none := .inl ⟨_, .inr z, e, rfl, by rw [toolK_val, h]; rfl⟩
end Sw
namespace Sw
open PySem L2 XH Hm PyProof.Rows So
/-- of a net's form, its bounds kept or not -/
structure NetFo (D : Tl) (T : Tk) (A B : List Ky) : Prop where
  nd : (D.map (·.1)).Nodup
  nm : ∀ p ∈ D, p.1.length ≤ 1000000
  t : T.length ≤ 1000
  ws : ∀ ws ∈ T, ws.length ≤ 100 ∧ ∀ w ∈ ws, w.2.2.length ≤ 100
  a : ∀ k ∈ A, ∃ p q g : Int, k = [p, q, g]
  b : ∀ k ∈ B, ∃ p q : Int, k = [p, q]
end Sw
namespace Sw
open PySem L2 XH Hm PyProof.Rows So
theorem tups_snoc {H : Hp} {l t : Addr} {B : List Ky} {as : List Addr} {k : Ky} (e : H l = some (.lst (as.map V.ref))) (r : Ref2 (fun t k => H t = some (.tup (k.map V.int))) as B) (et : H t = some (.tup (k.map V.int))) : TupsA (upd H l (.lst (as.map V.ref ++ [.ref t]))) l (B ++ [k]) := by
  have mv : ∀ a xs, H a = some (.tup xs) → upd H l (.lst (as.map V.ref ++ [.ref t])) a = some (.tup xs) := fun a xs h => by
    rw [upd_ne (fun z => by rw [z, e] at h; cases h)]; exact h
  refine ⟨as ++ [t], by rw [List.map_append]; exact upd_same, ?_, fun i a b ha hb => ?_⟩
  · rw [List.length_append, List.length_append, r.1]; rfl
  · by_cases il : i < as.length
    · rw [List.getElem?_append_left il] at ha
      rw [List.getElem?_append_left (by rw [← r.1]; exact il)] at hb
      exact mv _ _ (r.2 i a b ha hb)
    · rw [List.getElem?_append_right (by omega)] at ha
      rw [List.getElem?_append_right (by rw [← r.1]; omega), ← r.1] at hb
      cases h : i - as.length with
      | zero => rw [h] at ha hb; cases ha; cases hb; exact mv _ _ et
      | succ n => rw [h] at ha; cases ha
end Sw
namespace Sw
theorem pr_ne {m r s : Int} (r0 : 0 ≤ r) (r1 : r < m) (s0 : 0 ≤ s) (s1 : s < m - 1) : r ≠ (r + 1 + s).fmod m := by
  by_cases h : r + 1 + s < m
  · rw [Int.fmod_eq_of_lt (by omega) h]; omega
  · have e : (r + 1 + s).fmod m = r + 1 + s - m := by
      have := Int.add_mul_fmod_self_right (r + 1 + s - m) 1 m
      rw [show r + 1 + s - m + 1 * m = r + 1 + s by omega] at this
      rw [this]
      exact Int.fmod_eq_of_lt (by omega) (by omega)
    omega
end Sw
namespace Sw
open PySem L2 XH Hm PyProof.Rows So
end Sw
namespace Sw
open PySem L2 XH Hm PyProof.Rows So
end Sw
namespace Sw
open PySem L2 XH Hm PyProof.Rows So
/-- a net's five values as they are handed in, in a tuple -/
def spRefused51 : Sp := fun vs H Q _ => ∃ (t td tl al pl : Addr) (n : Int) (D : Tl) (T : Tk) (A B : List Ky), vs = [.ref t] ∧ H t = some (.tup [.ref td, .ref tl, .ref al, .ref pl, .int n]) ∧ H td = some (.dK (toolK D)) ∧ LsA rTask An H tl T ∧ TupsA H al A ∧ TupsA H pl B ∧ NetFo D T A B ∧ ¬ NetOkG D T A B n ∧ ∀ H', Same H H' → Q (.bl true) H'
end Sw
set_option linter.all false
namespace Sw
open PySem L2 XH Hm PyProof.Rows So PySem.NumText
/-! ### what k51 draws, as functions of the script (own work) -/
def drNext (n k : Int) : Int := (n * 69621 + n.fdiv 127 * 7 + 40692 + k * k).fmod 2147483629
def drN (c : Int) : Nat → Int
  | 0 => c.fmod 2147483629
  | i + 1 => drNext (drN c i) i
def drawF (c : Int) (m : Nat) : List Int := (List.range m).map fun i => drN c (i + 1)
theorem drN_ok (c : Int) (i : Nat) : Dwn (drN c i) := by
  cases i with
  | zero => exact fm (by decide)
  | succ i => exact fm (by decide)
theorem drawF_len (c : Int) (m : Nat) : (drawF c m).length = m := by unfold drawF; rw [List.length_map, List.length_range]
theorem drawF_ok (c : Int) (m : Nat) : ∀ z ∈ drawF c m, Dwn z := fun z hz => by
  obtain ⟨i, _, rfl⟩ := List.mem_map.mp hz
  exact drN_ok c _
theorem drawF_succ (c : Int) (m : Nat) : drawF c (m + 1) = drawF c m ++ [drN c (m + 1)] := by unfold drawF; rw [List.range_succ, List.map_append]; rfl
def spDrawnF : Sp := fun vs H Q _ => ∃ (c m : Int), vs = [.int c, .int m] ∧ 0 ≤ m ∧ m ≤ 1000 ∧ ∀ (p : Addr) (ns : List Int) (H' : Hp), H p = none → Same H H' → ns = drawF c m.toNat → ns.length = m.toNat → (∀ z ∈ ns, Dwn z) → H' p = some (.lst (ns.map V.int)) → Q (.ref p) H'
def cel (ns : List Int) (k : Int) : Int := ns.getD k.toNat 0
def spCellF (K : PySem.W.Frag) : Sp := fun vs H Q _ => ∃ (a : Addr) (ns : List Int) (k : Int), vs = [.ref a, .int k] ∧ SqL K H a (ns.map V.int) ∧ 0 ≤ k ∧ Q (.int (cel ns k)) H
theorem cel_at {ns : List Int} {k : Int} (h0 : 0 ≤ k) (h : k < ((ns.map V.int).length : Int)) : atI (ns.map V.int) k = some (.int (cel ns k)) := by
  rw [List.length_map] at h
  have e : ns[k.toNat]? = some (cel ns k) := by
    unfold cel
    rw [List.getD_eq_getElem?_getD, List.getElem?_eq_getElem (by omega)]
    rfl
  have := atI_nat (j := k.toNat) (map_at (f := V.int) e)
  rwa [Int.toNat_of_nonneg h0] at this
theorem cel_out {ns : List Int} {k : Int} (h0 : 0 ≤ k) (h : ¬ k < ((ns.map V.int).length : Int)) : cel ns k = 0 := by
  rw [List.length_map] at h
  unfold cel
  rw [List.getD_eq_getElem?_getD, List.getElem?_eq_none (by omega)]
  rfl
theorem nS2 {a b : Str} {p q : Prop} (h1 : a ≠ b → p) (h2 : a = b → q) : if (!decide (V.str a = V.str b)) = true then p else q := by
  by_cases e : a = b
  · subst e
    rw [if_neg (by simp)]; exact h2 rfl
  · rw [if_pos (by simp [e])]; exact h1 e
theorem cutT51 {xs : List V} {n : Int} (h : 0 ≤ n) : cutV xs none (some n) = xs.take n.toNat := by
  obtain ⟨k, rfl⟩ := Int.eq_ofNat_of_zero_le h
  unfold cutV
  rw [HT.sIx_none, HT.sIx_nat, List.drop_zero, Nat.sub_zero, Int.toNat_natCast, ← List.take_eq_take_min]
theorem cut_16 {xs : List V} (h : 32 ≤ xs.length) : cutV xs (some 16) (some 32) = (xs.drop 16).take 16 := by
  unfold cutV
  rw [show (some 16 : Option Int) = some ((16 : Nat) : Int) from rfl, show (some 32 : Option Int) = some ((32 : Nat) : Int) from rfl, HT.sIx_nat, HT.sIx_nat, Nat.min_eq_left (by omega), Nat.min_eq_left (by omega)]
/-! names -/
def ayzC (i : Int) : Nat := if i = 0 then 97 else if i = 1 then 121 else 122
def fillF (x : Int) : Str := Txt.mul ⟨#[ayzC ((x.fdiv 3).fmod 3)]⟩ ((x.fdiv 9).fmod 12)
def cutF51 (x : Int) : Int := (x.fdiv 108).fmod ((fillF x).length + 1)
def namF (x k : Int) (b : Str) : Str := if x.fmod 3 = 0 ∧ b ≠ "" ∧ b.length < 12 then b ++ ⟨#[98 + k.toNat]⟩ else cutS (fillF x) none (some (cutF51 x)) ++ ⟨#[98 + k.toNat]⟩ ++ cutS (fillF x) (some (cutF51 x)) none
theorem let_at {k : Int} (h0 : 0 ≤ k) (h : k < 12) : atI (Str.ofString "bcdefghijklm").cps.toList k = some (98 + k.toNat) := by
  have : k = ((0 : Nat) : Int) ∨ k = ((1 : Nat) : Int) ∨ k = ((2 : Nat) : Int) ∨ k = ((3 : Nat) : Int) ∨ k = ((4 : Nat) : Int) ∨ k = ((5 : Nat) : Int) ∨ k = ((6 : Nat) : Int) ∨ k = ((7 : Nat) : Int) ∨ k = ((8 : Nat) : Int) ∨ k = ((9 : Nat) : Int) ∨ k = ((10 : Nat) : Int) ∨ k = ((11 : Nat) : Int) := by omega
  rcases this with e | e | e | e | e | e | e | e | e | e | e | e <;> (rw [e]; exact atI_nat (by decide))
theorem ayz_at {i : Int} (h0 : 0 ≤ i) (h : i < 3) : atI (Str.ofString "ayz").cps.toList i = some (ayzC i) := by
  have : i = ((0 : Nat) : Int) ∨ i = ((1 : Nat) : Int) ∨ i = ((2 : Nat) : Int) := by omega
  rcases this with e | e | e <;> (rw [e]; exact atI_nat (by decide))
theorem ayz_ok (i : Int) : 97 ≤ ayzC i ∧ ayzC i ≤ 122 := by unfold ayzC; split <;> (try split) <;> decide
theorem fill_len (x : Int) : ((fillF x).length : Int) = (x.fdiv 9).fmod 12 := by
  have m := fm (a := x.fdiv 9) (n := 12) (by decide)
  have := mul_len (z := ⟨#[ayzC ((x.fdiv 3).fmod 3)]⟩) m.1
  unfold fillF
  rw [this, show ((⟨#[ayzC ((x.fdiv 3).fmod 3)]⟩ : Str).length : Int) = 1 from rfl]
  omega
theorem cut51_b (x : Int) : 0 ≤ cutF51 x ∧ cutF51 x < ((fillF x).length : Int) + 1 := fm (by omega)
theorem not_w {a b : Str} {k : Int} (h0 : 0 ≤ k) (h : k < 12) : a ++ (⟨#[98 + k.toNat]⟩ : Str) ++ b ≠ "w" := fun e => by
  have e1 := congrArg sL e
  rw [sL_app, sL_app] at e1
  have : 98 + k.toNat ∈ sL "w" := by
    rw [← e1]
    exact List.mem_append_left _ (List.mem_append_right _ (List.mem_singleton.mpr rfl))
  have := List.mem_singleton.mp (show 98 + k.toNat ∈ [119] from this)
  omega
theorem not_w' {a : Str} {k : Int} (h0 : 0 ≤ k) (h : k < 12) : a ++ (⟨#[98 + k.toNat]⟩ : Str) ≠ "w" := fun e => by
  have e1 := congrArg sL e
  rw [sL_app] at e1
  have : 98 + k.toNat ∈ sL "w" := by
    rw [← e1]
    exact List.mem_append_right _ (List.mem_singleton.mpr rfl)
  have := List.mem_singleton.mp (show 98 + k.toNat ∈ [119] from this)
  omega
def NmO (b : Str) : Prop := b = "" ∨ Nm b
theorem NmO.len {b : Str} (h : NmO b) : b.length ≤ 12 := by
  rcases h with rfl | h
  · decide
  · have := h.2.1; rwa [sL_len] at this
theorem namF_ok {x k : Int} {b : Str} (h0 : 0 ≤ k) (h : k < 12) (hb : NmO b) : Nm (namF x k b) ∧ namF x k b ≠ "w" := by
  have lk : 97 ≤ 98 + k.toNat ∧ 98 + k.toNat ≤ 122 := by omega
  have one : ∀ c, (⟨#[c]⟩ : Str).length = 1 := fun _ => rfl
  unfold namF
  by_cases c : x.fmod 3 = 0 ∧ b ≠ "" ∧ b.length < 12
  · rw [if_pos c]
    have nb : Nm b := hb.elim (fun z => absurd z c.2.1) id
    have lb : Lt b := nb.2.2
    refine ⟨(lb.app (Lt.one lk)).nm ?_ ?_, not_w' h0 h⟩
    · rw [Str.length_append, one]; omega
    · rw [Str.length_append, one]; have := c.2.2; omega
  · rw [if_neg c]
    have wL : Lt (fillF x) := Lt.mul (ayz_ok _) _
    have m := fm (a := x.fdiv 9) (n := 12) (by decide)
    have fl := fill_len x
    have cb := cut51_b x
    refine ⟨(((wL.cut _ _).app (Lt.one lk)).app (wL.cut _ _)).nm ?_ ?_, not_w h0 h⟩
    · rw [Str.length_append, Str.length_append, one]; omega
    · rw [Str.length_append, Str.length_append, one, cutS_hi cb.1, cutS_lo cb.1]; omega
def spName51 : Sp := fun vs H Q _ => ∃ (x k : Int) (b : Str), vs = [.int x, .int k, .str b] ∧ 0 ≤ k ∧ k < 12 ∧ NmO b ∧ Q (.str (namF x k b)) H
/-! tools -/
noncomputable def putT (D : Tl) (z : Str) (n : Int) : Tl := (toolK_put (D := D) (z := z) (n := n)).choose
theorem putT_spec (D : Tl) (z : Str) (n : Int) : putK (toolK D) (.inr z) (.int n) = toolK (putT D z n) ∧ ((D.map (·.1)).Nodup → ((putT D z n).map (·.1)).Nodup) ∧ (putT D z n).length ≤ D.length + 1 ∧ 1 ≤ (putT D z n).length ∧ ∀ p ∈ putT D z n, p ∈ D ∨ p = (z, n) := (toolK_put (D := D) (z := z) (n := n)).choose_spec
noncomputable def tlG (xs : List Int) : Nat → Tl × Str
  | 0 => ([], "")
  | i + 1 => (putT (tlG xs i).1 (namF (xs.getD (1 + i) 0) i (tlG xs i).2) (1 + (xs.getD (13 + i) 0).fmod 8), namF (xs.getD (1 + i) 0) i (tlG xs i).2)
structure TOk (n : Nat) (D : Tl) : Prop where
  len : D.length ≤ n
  nd : (D.map (·.1)).Nodup
  ok : ∀ p ∈ D, Nm p.1 ∧ 1 ≤ p.2 ∧ p.2 ≤ 8
  w : ∀ p ∈ D, p.1 ≠ "w"
theorem tlG_ok (xs : List Int) : ∀ i, i ≤ 12 → TOk i (tlG xs i).1 ∧ NmO (tlG xs i).2
  | 0, _ => ⟨⟨Nat.le_refl _, List.nodup_nil, fun p h => (nomatch h), fun p h => (nomatch h)⟩, .inl rfl⟩
  | i + 1, h => by
    obtain ⟨t, b⟩ := tlG_ok xs i (by omega)
    obtain ⟨n1, n2⟩ := namF_ok (x := xs.getD (1 + i) 0) (k := (i : Int)) (by omega) (by omega) b
    obtain ⟨_, e2, e3, _, e5⟩ := putT_spec (tlG xs i).1 (namF (xs.getD (1 + i) 0) i (tlG xs i).2) (1 + (xs.getD (13 + i) 0).fmod 8)
    have m := fm (a := xs.getD (13 + i) 0) (n := 8) (by decide)
    refine ⟨⟨?_, e2 t.nd, fun p hp => ?_, fun p hp => ?_⟩, .inr n1⟩
    · have := t.len
      show (putT _ _ _).length ≤ _
      omega
    · rcases e5 p hp with q | q
      · exact t.ok p q
      · rw [q]; exact ⟨n1, by show 1 ≤ 1 + _; omega, by show 1 + _ ≤ 8; omega⟩
    · rcases e5 p hp with q | q
      · exact t.w p q
      · rw [q]; exact n2
def toolN (x : Int) : Int := if (x.fdiv 4).fmod 8 = 1 then 12 else x.fmod 4
theorem toolN_b (x : Int) : 0 ≤ toolN x ∧ toolN x ≤ 12 := by
  have := fm (a := x) (n := 4) (by decide)
  unfold toolN
  split <;> omega
noncomputable def toolsF (xs : List Int) : Tl := (tlG xs (toolN (xs.getD 0 0)).toNat).1
theorem toolsF_ok (xs : List Int) : TOk 12 (toolsF xs) := by
  have b := toolN_b (xs.getD 0 0)
  have t := (tlG_ok xs (toolN (xs.getD 0 0)).toNat (by omega)).1
  exact ⟨by have := t.len; unfold toolsF; omega, t.nd, t.ok, t.w⟩
def spTools51 : Sp := fun vs H Q _ => ∃ (l : Addr) (ns : List Int), vs = [.ref l] ∧ H l = some (.lst (ns.map V.int)) ∧ ns.length = 25 ∧ (∀ z ∈ ns, Dwn z) ∧ ∀ (td : Addr) (H' : Hp), Same H H' → H td = none → H' td = some (.dK (toolK (toolsF ns))) → Q (.ref td) H'
/-! ways -/
def leastF (xs : List Int) : Int := if (xs.getD 1 0).fmod 2 = 1 then 1 + (xs.getD 0 0).fmod 1000000000 else 1 + (xs.getD 0 0).fmod 9
def mostF (xs : List Int) : Int := if ((xs.getD 1 0).fdiv 2).fmod 3 = 0 then leastF xs else leastF xs + (xs.getD 2 0).fmod (1000000000 - leastF xs + 1)
theorem least_b (xs : List Int) : 1 ≤ leastF xs ∧ leastF xs ≤ 1000000000 := by
  have := fm (a := xs.getD 0 0) (n := 9) (by decide)
  have := fm (a := xs.getD 0 0) (n := 1000000000) (by decide)
  unfold leastF
  split <;> omega
theorem most_b (xs : List Int) : leastF xs ≤ mostF xs ∧ mostF xs ≤ 1000000000 := by
  have := least_b xs
  have := fm (a := xs.getD 2 0) (n := 1000000000 - leastF xs + 1) (by omega)
  unfold mostF
  split <;> omega
def heat51 (x : Int) : Int := if (x.fdiv 4).fmod 3 = 0 then 0 else if (x.fdiv 4).fmod 3 = 1 then (x.fdiv 16).fmod 3 else 1000000000 - (x.fdiv 16).fmod 3
theorem heat_b (x : Int) : 0 ≤ heat51 x ∧ heat51 x ≤ 1000000000 := by
  have := fm (a := x.fdiv 16) (n := 3) (by decide)
  unfold heat51
  split <;> (try split) <;> omega
theorem heat_at {b x : Int} (hb : b = 1000000000) : atI [V.int 0, V.int ((x.fdiv 16).fmod 3), V.int (b - (x.fdiv 16).fmod 3)] ((x.fdiv 4).fmod 3) = some (.int (heat51 x)) := by
  have m := fm (a := x.fdiv 4) (n := 3) (by decide)
  unfold heat51
  rcases (by omega : (x.fdiv 4).fmod 3 = 0 ∨ (x.fdiv 4).fmod 3 = 1 ∨ (x.fdiv 4).fmod 3 = 2) with e | e | e <;> rw [e, hb] <;> rfl
def useG (xs : List Int) (D : Tl) (k : Nat) : Us := ((D.getD k ("", 0)).1, 1 + ((xs.getD (4 + k) 0).fdiv 2).fmod (D.getD k ("", 0)).2, heat51 (xs.getD (4 + k) 0))
def oddB (xs : List Int) (k : Nat) : Bool := decide ((xs.getD (4 + k) 0).fmod 2 = 1)
def usesG (xs : List Int) (D : Tl) (n : Nat) : List Us := pickL n (oddB xs) (useG xs D)
def usesF (xs : List Int) (D : Tl) : List Us := if (xs.getD 3 0).fmod 2 = 1 then (usesG xs D D.length).reverse else usesG xs D D.length
theorem usesG_ok {D : Tl} {n : Nat} (xs : List Int) (t : TOk n D) (h : n ≤ 12) : UsOk D (usesG xs D D.length) := by
  refine ⟨?_, ?_, fun e he => ?_⟩
  · have e1 : D.map (·.1) = (List.range D.length).map fun k => (D.getD k ("", 0)).1 := by
      conv => lhs; rw [← rng_getD D ("", 0), List.map_map]
      rfl
    have : List.Sublist ((usesG xs D D.length).map (·.1)) (D.map (·.1)) := by
      rw [e1]
      unfold usesG pickL
      rw [List.map_map]
      exact (List.filter_sublist).map _
    exact this.nodup t.nd
  · have := pickL_len D.length (oddB xs) (useG xs D)
    have := t.len
    unfold usesG
    omega
  · unfold usesG pickL at he
    obtain ⟨k, hk, rfl⟩ := List.mem_map.mp he
    have kl := List.mem_range.mp ((List.mem_filter.mp hk).1)
    have ge : D.getD k ("", 0) = D[k] := getDo (List.getElem?_eq_getElem kl)
    have o := t.ok D[k] (List.getElem_mem kl)
    have hb := heat_b (xs.getD (4 + k) 0)
    refine ⟨(D.getD k ("", 0)).2, ?_, ?_, ?_, hb.1, hb.2⟩
    · refine manyOf_of t.nd ?_
      show ((D.getD k ("", 0)).1, (D.getD k ("", 0)).2) ∈ D
      rw [ge]
      exact List.getElem_mem kl
    · have m := fm (a := (xs.getD (4 + k) 0).fdiv 2) (n := (D.getD k ("", 0)).2) (by rw [ge]; omega)
      show 1 ≤ 1 + _
      omega
    · have m := fm (a := (xs.getD (4 + k) 0).fdiv 2) (n := (D.getD k ("", 0)).2) (by rw [ge]; omega)
      show 1 + _ ≤ _
      omega
theorem UsOk.rev {D : Tl} {us : List Us} (h : UsOk D us) : UsOk D us.reverse := by
  refine ⟨?_, by rw [List.length_reverse]; exact h.2.1, fun e he => h.2.2 e (List.mem_reverse.mp he)⟩
  rw [List.map_reverse]
  exact (List.reverse_perm _).nodup_iff.mpr h.1
theorem usesF_ok {D : Tl} {n : Nat} (xs : List Int) (t : TOk n D) (h : n ≤ 12) : UsOk D (usesF xs D) := by
  unfold usesF
  split
  · exact (usesG_ok xs t h).rev
  · exact usesG_ok xs t h
def wayG (xs : List Int) (D : Tl) : Wy := (leastF xs, mostF xs, usesF xs D)
def WyO (D : Tl) (w : Wy) : Prop := 1 ≤ w.1 ∧ w.1 ≤ w.2.1 ∧ w.2.1 ≤ 1000000000 ∧ UsOk D w.2.2
theorem wayG_ok {D : Tl} {n : Nat} (xs : List Int) (t : TOk n D) (h : n ≤ 12) : WyO D (wayG xs D) := ⟨(least_b xs).1, (most_b xs).1, (most_b xs).2, usesF_ok xs t h⟩
def spWay51 : Sp := fun vs H Q _ => ∃ (l td : Addr) (xs : List Int) (D : Tl), vs = [.ref l, .ref td] ∧ H l = some (.lst (xs.map V.int)) ∧ xs.length = 16 ∧ H td = some (.dK (toolK D)) ∧ TOk 12 D ∧ ∀ (t : Addr) (H' : Hp), Same H H' → rWay (fun a => H a = none) H' (.ref t) (wayG xs D) → Q (.ref t) H'
/-! tasks, arcs, pairs -/
def taskG (c : Int) (D : Tl) : List Wy := wayG ((drawF c 33).take 16) D :: if ((drawF c 33).getD 32 0).fmod 2 = 1 then [wayG (((drawF c 33).drop 16).take 16) D] else []
theorem taskG_ok {D : Tl} {n : Nat} (c : Int) (t : TOk n D) (h : n ≤ 12) : WsOk D (taskG c D) := by
  unfold taskG
  split
  · exact ⟨by show 1 ≤ 2; decide, by show 2 ≤ 2; decide, fun w hw => by
      rcases List.mem_cons.mp hw with rfl | hw
      · exact wayG_ok _ t h
      · rw [List.mem_singleton.mp hw]; exact wayG_ok _ t h⟩
  · exact ⟨by show 1 ≤ 1; decide, by show 1 ≤ 2; decide, fun w hw => by
      rw [List.mem_singleton.mp hw]; exact wayG_ok _ t h⟩
def lagF51 (x y : Int) : Int := if y.fmod 3 = 0 then (if (y.fdiv 3).fmod 3 = 0 then -1000000000 else if (y.fdiv 3).fmod 3 = 1 then 0 else 1000000000) else x.fmod 2000000001 - 1000000000
theorem lag51_b (x y : Int) : -1000000000 ≤ lagF51 x y ∧ lagF51 x y ≤ 1000000000 := by
  have := fm (a := x) (n := 2000000001) (by decide)
  unfold lagF51
  split <;> (try split) <;> (try split) <;> omega
theorem lag51_at {b y : Int} (hb : b = 1000000000) (h : y.fmod 3 = 0) (x : Int) : atI [V.int (-b), V.int 0, V.int b] ((y.fdiv 3).fmod 3) = some (.int (lagF51 x y)) := by
  have m := fm (a := y.fdiv 3) (n := 3) (by decide)
  unfold lagF51
  rw [if_pos h]
  rcases (by omega : (y.fdiv 3).fmod 3 = 0 ∨ (y.fdiv 3).fmod 3 = 1 ∨ (y.fdiv 3).fmod 3 = 2) with e | e | e <;> rw [e, hb] <;> rfl
def arcG (m c : Int) : Ky := [((drawF c 4).getD 0 0).fmod m, ((drawF c 4).getD 1 0).fmod m, lagF51 ((drawF c 4).getD 2 0) ((drawF c 4).getD 3 0)]
def arcN (c m : Int) : Int := if m = 0 then 0 else if (c.fdiv 280).fmod 8 = 1 then 600 else (c.fdiv 40).fmod 7
def arcsG (ns : List Int) (m : Int) (n : Nat) : List Ky := (List.range n).map fun k : Nat => arcG m (cel ns (29 + (0 + (k : Int))) * 1024 + (0 + (k : Int)))
def arcsF (ns : List Int) (m : Int) : List Ky := arcsG ns m (arcN (cel ns 1) m).toNat
theorem arcN_b (c m : Int) : 0 ≤ arcN c m ∧ arcN c m ≤ 600 := by
  have := fm (a := c.fdiv 40) (n := 7) (by decide)
  unfold arcN
  split <;> (try split) <;> omega
theorem arcG_ok {m : Int} (c : Int) (h : 1 ≤ m) : ArOk m (arcG m c) := by
  have p0 := fm (a := (drawF c 4).getD 0 0) (n := m) (by omega)
  have p1 := fm (a := (drawF c 4).getD 1 0) (n := m) (by omega)
  have p2 := lag51_b ((drawF c 4).getD 2 0) ((drawF c 4).getD 3 0)
  exact ⟨_, _, _, rfl, p0.1, p0.2, p1.1, p1.2, p2.1, p2.2⟩
theorem arcsF_ok (ns : List Int) {m : Int} (h : 0 ≤ m) : (arcsF ns m).length ≤ 600 ∧ ∀ k ∈ arcsF ns m, ArOk m k := by
  have b := arcN_b (cel ns 1) m
  refine ⟨by unfold arcsF arcsG; rw [List.length_map, List.length_range]; omega, fun k hk => ?_⟩
  by_cases z : m = 0
  · unfold arcsF arcN at hk
    rw [if_pos z] at hk
    cases hk
  · obtain ⟨i, _, rfl⟩ := List.mem_map.mp hk
    exact arcG_ok _ (by omega)
def pairG (m x : Int) : Ky := [x.fmod m, (x.fmod m + 1 + (x.fdiv m).fmod (m - 1)).fmod m]
def pairN (c m : Int) : Int := if m < 2 then 0 else if (c.fdiv 6).fmod 8 = 1 then 300 else c.fmod 6
def pairsF (c m : Int) : List Ky := (drawF (c.fdiv 48) (pairN c m).toNat).map (pairG m)
theorem pairN_b (c m : Int) : 0 ≤ pairN c m ∧ pairN c m ≤ 300 := by
  have := fm (a := c) (n := 6) (by decide)
  unfold pairN
  split <;> (try split) <;> omega
theorem pairsF_ok (c : Int) {m : Int} : (pairsF c m).length ≤ 300 ∧ ∀ k ∈ pairsF c m, PrOk m k := by
  have b := pairN_b c m
  refine ⟨by unfold pairsF; rw [List.length_map, drawF_len]; omega, fun k hk => ?_⟩
  by_cases z : m < 2
  · unfold pairsF pairN at hk
    rw [if_pos z] at hk
    cases hk
  · obtain ⟨x, _, rfl⟩ := List.mem_map.mp hk
    have r := fm (a := x) (n := m) (by omega)
    have u := fm (a := x.fdiv m) (n := m - 1) (by omega)
    have w := fm (a := x.fmod m + 1 + (x.fdiv m).fmod (m - 1)) (n := m) (by omega)
    exact ⟨_, _, rfl, r.1, r.2, w.1, w.2, pr_ne r.1 r.2 u.1 u.2⟩
def spPairsF : Sp := fun vs H Q _ => ∃ (c m : Int), vs = [.int c, .int m] ∧ 0 ≤ m ∧ m ≤ 24 ∧ ∀ (p : Addr) (H' : Hp), H p = none → Same H H' → TupsA H' p (pairsF c m) → Q (.ref p) H'
def spArcsF (K : PySem.W.Frag) : Sp := fun vs H Q _ => ∃ (a : Addr) (ns : List Int) (m : Int), vs = [.ref a, .int m] ∧ SqL K H a (ns.map V.int) ∧ 0 ≤ m ∧ m ≤ 1000 ∧ ∀ (p : Addr) (H' : Hp), H p = none → Same H H' → TupsA H' p (arcsF ns m) → Q (.ref p) H'
/-! all five -/
noncomputable def madeD (ns : List Int) : Tl := toolsF (drawF (cel ns 0) 25)
def madeK (ns : List Int) : Int := if ((cel ns 1).fdiv 5).fmod 8 = 1 then 24 else (cel ns 1).fmod 5
noncomputable def madeT (ns : List Int) (n : Nat) : Tk := (List.range n).map fun i : Nat => taskG (cel ns (5 + (0 + (i : Int))) * 64 + (0 + (i : Int))) (madeD ns)
def madeM (ns : List Int) : Int := (cel ns 2).fmod 9
theorem madeK_b (ns : List Int) : 0 ≤ madeK ns ∧ madeK ns ≤ 24 := by
  have := fm (a := cel ns 1) (n := 5) (by decide)
  unfold madeK
  split <;> omega
noncomputable abbrev madeT' (ns : List Int) : Tk := madeT ns (madeK ns).toNat
abbrev madeA (ns : List Int) : List Ky := arcsF ns (2 * madeK ns + madeM ns)
abbrev madeB (ns : List Int) : List Ky := pairsF ((cel ns 2).fdiv 9) (madeK ns)
theorem madeT_len (ns : List Int) : ((madeT' ns).length : Int) = madeK ns := by
  have := madeK_b ns
  show ((madeT ns _).length : Int) = _
  unfold madeT
  rw [List.length_map, List.length_range]
  omega
theorem made_ok (ns : List Int) : NetOkG (madeD ns) (madeT' ns) (madeA ns) (madeB ns) (madeM ns) := by
  have t := toolsF_ok (drawF (cel ns 0) 25)
  have k := madeK_b ns
  have l := madeT_len ns
  have m := fm (a := cel ns 2) (n := 9) (by decide)
  have a := arcsF_ok ns (m := 2 * madeK ns + madeM ns) (by unfold madeM; omega)
  have b := pairsF_ok ((cel ns 2).fdiv 9) (m := madeK ns)
  exact ⟨t.len, t.nd, t.ok, by omega, fun ws hw => by
    obtain ⟨i, _, rfl⟩ := List.mem_map.mp hw
    exact taskG_ok _ t (Nat.le_refl _), m.1, by unfold madeM; omega, a.1, by rw [l]; exact a.2, b.1, by rw [l]; exact b.2⟩
/-- the five values in a tuple, laid behind P -/
structure MadeA (P : Addr → Prop) (H : Hp) (t : Addr) (D : Tl) (T : Tk) (A B : List Ky) (n : Int) : Prop where
  ex : ∃ td tl al pl : Addr, H t = some (.tup [.ref td, .ref tl, .ref al, .ref pl, .int n]) ∧ H td = some (.dK (toolK D)) ∧ LsA rTask (fun a => a ≠ tl ∧ P a) H tl T ∧ TupsA H al A ∧ TupsA H pl B ∧ tl ≠ al ∧ tl ≠ pl ∧ P td ∧ P tl ∧ P al ∧ P pl
def spMade51 (K : PySem.W.Frag) : Sp := fun vs H Q _ => ∃ (a : Addr) (ns : List Int), vs = [.ref a] ∧ SqL K H a (ns.map V.int) ∧ ∀ (t : Addr) (H' : Hp), Same H H' → MadeA (fun a => H a = none) H' t (madeD ns) (madeT' ns) (madeA ns) (madeB ns) (madeM ns) → Q (.ref t) H'
end Sw
set_option linter.all false
namespace Sw
open PySem L2 XH Hm PyProof.Rows So
theorem NetOkG.fo {D : Tl} {T : Tk} {A B : List Ky} {n : Int} (h : NetOkG D T A B n) : NetFo D T A B where
  nd := h.dnd
  nm := fun p hp => by have := (h.tool p hp).1.2.1; rw [sL_len] at this; omega
  t := by have := h.t24; omega
  ws := fun ws hw => ⟨by have := (h.ways ws hw).2.1; omega, fun w hw2 => ((h.ways ws hw).2.2 w hw2).2.2.2.2.1⟩
  a := fun k hk => let ⟨p, q, g, e, _⟩ := h.arcs k hk; ⟨p, q, g, e⟩
  b := fun k hk => let ⟨p, q, e, _⟩ := h.pairs k hk; ⟨p, q, e⟩
end Sw
set_option Elab.async false
set_option linter.all false
set_option maxRecDepth 100000
namespace L2
open PySem PySem.Spec PyProof.Rows XH Sw
open PySem.SeqAt PySem.AutoSeq1 PySem.MeetsSeq PySem.MeetsSeq2 PySem.MeetsSeq3
section
variable {prog : Program} {w : World}
/-- != of two tuples whose things are alike by pairs -/
theorem tup_same {A : Around} {E : Value → Shared → Prop} {Q : Value → Shared → Prop} {s : Shared} {l b : Addr} {xs ys : Array Value} (h1 : s.heap.IsTuple l xs) (h2 : s.heap.IsTuple b ys) (sz : xs.size = ys.size) (hu : A.units < cLine)
    (al : ∀ j (h1 : j < xs.size) (h2 : j < ys.size), Alike prog w A.in1 s xs[j] ys[j]) (q : Q (.bool false) s) : wpAny (model prog w) A (richCompare .NotEq (.ref l) (.ref b)) Q E s := by
  obtain ⟨⟨k1, d1, a1, c1⟩, e1, t1, n, u1⟩ := id h1
  obtain ⟨⟨k2, d2, a2, c2⟩, e2, t2, m, u2⟩ := id h2
  simp only at t1 u1 t2 u2
  subst t1 u1 t2 u2
  refine wpAny_richCompare_same_room ⟨_, e1, rfl⟩ ⟨_, e2, rfl⟩ F.slot_tuple_ne ?_ hu
  refine wpAny_call (codeAny_call_builtin F.slot_tuple_ne.plain F.entry_tuple_ne (F.slot_tuple_ne.check _ _ _ _ _ _ _ _ ⟨_, e1, rfl⟩ (F.args_tuple_ne_2 _ _) ?_))
  have key : Goes prog w A (wants (fun v s' => v ≠ .notImplemented ∧ Q v s') E) (Builtin.«tuple.__ne__» ⟨[.ref l, .ref b], []⟩) s := by
    obtain ⟨hp, g, d, tk, os⟩ := s
    have tt := AutoSeq1.sub_tuple_tuple
    have zl : (xs.toList.zip ys.toList).length = xs.size := by simp [sz]
    unfold Goes
    wp_walk using wpAny_loadPart' e1, wpAny_loadPart' e2, wpAny_forIn_list _ (fun rest b s' => b.1 = none ∧ s' = ⟨hp, g, d, tk, os⟩ ∧ ∃ i, rest = (xs.toList.zip ys.toList).drop i) _
    case turn =>
      rintro ⟨y, x⟩ rest b s' ⟨hn, rfl, i, hz⟩
      have il : i < (xs.toList.zip ys.toList).length := by
        by_cases c : i < (xs.toList.zip ys.toList).length
        · exact c
        · rw [List.drop_of_length_le (Nat.le_of_not_lt c)] at hz
          cases hz
      have i1 : i < xs.size := zl ▸ il
      have i2 : i < ys.size := sz ▸ i1
      rw [List.drop_eq_getElem_cons il] at hz
      injection hz with z1 z2
      have y1 : y = xs[i] := by simpa using congrArg Prod.fst z1
      have x1 : x = ys[i] := by simpa using congrArg Prod.snd z1
      subst y1 x1
      refine wpAny_bind (al i i1 i2 _ _ ?_)
      wp_walk
      exact ⟨rfl, rfl, i + 1, z2⟩
    case fin =>
      rintro ⟨b1, b2⟩ s' ⟨hn, rfl, i, hz⟩
      simp only at hn
      subst hn
      wp_walk
      have z : Builtin.Tuple.tupleCompareSizes .NotEq xs.size ys.size = .bool false := by
        rw [sz]
        simp [Builtin.Tuple.tupleCompareSizes]
      rw [z]
      exact ⟨(fun x => nomatch x), q⟩
    case h => exact ⟨rfl, rfl, 0, rfl⟩
  exact key
section
variable {κ : Type} [DecidableEq κ] {knd : KeyKind prog w κ} {A : Around} {E : Value → Shared → Prop} {s : Shared}
theorem short_all {nm : String} {a b : Addr} {ka kb : List (κ × Value)} {Q : Bool → Shared → Prop} (na : (a == sysModules) = false) (nb : (b == sysModules) = false)
    (da : s.heap.DictOf knd a ka) (db : s.heap.DictOf knd b kb) (hl : ka.length ≠ kb.length) (q : Q false s) : wpAny (model prog w) A (Builtin.Dict.samePairs nm a b) Q E s := by
  obtain ⟨o1, t1, e1, g1, _, d1, k1, p1, _⟩ := da
  obtain ⟨o2, t2, e2, g2, _, d2, k2, p2, _⟩ := db
  have n1 : ka.length = t1.size := p1.length.symm.trans Array.length_toList
  have n2 : kb.length = t2.size := p2.length.symm.trans Array.length_toList
  have ns : (t1.size != t2.size) = true := by simp only [bne_iff_ne]; omega
  simp only [Builtin.Dict.samePairs, Builtin.Dict.showsAll, na, nb, Bool.false_eq_true, if_false]
  refine wpAny_bind (wpAny_pure ?_)
  refine wpAny_bind (wpAny_pure ?_)
  refine wpAny_bind (wpAny_dictEntries g1 d1 ?_)
  refine wpAny_bind (wpAny_dictEntries g2 d2 ?_)
  rw [ns]
  rw [if_pos rfl]
  wp_walk
  exact q
theorem dict_short {c d : Addr} {ka kb : List (κ × Value)} {Q : Value → Shared → Prop} (na : (c == sysModules) = false) (nb : (d == sysModules) = false) (da : s.heap.DictOf knd c ka) (db : s.heap.DictOf knd d kb) (hu : A.units < cLine)
    (hl : ka.length ≠ kb.length) (q : Q (.bool false) s) : wpAny (model prog w) A (compareOp .Eq (.ref c) (.ref d)) Q E s := by
  apply wpAny_richCompare_same_room (op := .Eq) da.typeIs db.typeIs PySem.F.slot_dict_eq ?_ hu
  apply wpAny_call_entry PySem.F.slot_dict_eq da.typeIs PySem.F.entry_dict_eq ?_ (PySem.F.args_dict_eq_2 _ _)
  show wpAny _ _ (Builtin.Dict.dictSlotArgs "__eq__" ⟨[.ref c, .ref d], []⟩ >>= _) _ _ s
  apply wpAny_bind
  unfold Builtin.Dict.dictSlotArgs
  refine wpAny_bind (wpAny_notOrdered_dict da.typeIs ?_)
  show wpAny _ _ (pure (Value.ref c, Value.ref d)) _ _ s
  apply wpAny_pure
  refine wpAny_bind (wpAny_isInstance (T := "dict") db.typeIs PySem.F.sub_dict_dict ?_)
  simp only [if_false, Bool.not_true, Bool.false_eq_true]
  refine wpAny_bind (wpAny_pure ?_)
  refine wpAny_bind (wpAny_pure ?_)
  refine wpAny_bind (short_all na nb da db hl ?_)
  exact wpAny_pure ⟨_, rfl, (fun z => nomatch z), q⟩
end
end
end L2
namespace Sw
open PySem L2 PyProof.Rows So
theorem tl_hits {X : Cx} {pins : List (Addr × Obj)} {σ : L2.St} {H : Hp} {s : Shared} (I : Inv X pins σ H s) (A : Around) {a b : Addr} {D : Tl} (e1 : H a = some (.dK (toolK D))) (e2 : H b = some (.dK (toolK D))) (nd : (D.map (·.1)).Nodup) :
    ∃ (w1 w2 : List (Key × Value)), (a == sysModules) = false ∧ (b == sysModules) = false ∧ s.heap.DictOf (mixKind X.prog X.w) a w1 ∧ s.heap.DictOf (mixKind X.prog X.w) b w2 ∧ w1.length = w2.length ∧
      ∀ (i : Nat) (k : Key) (v : Value), w1[i]? = some (k, v) → ∃ y, valueAt w2 k = some y ∧ LEq X.prog X.w A s v y := by
  obtain ⟨z1, s1, w1, k1, o1⟩ := dk_of I.hok e1
  obtain ⟨z2, s2, w2, k2, o2⟩ := dk_of I.hok e2
  refine ⟨w1, w2, s1, s2, o1, o2, by rw [← k1.length, ← k2.length], fun i k v hv => ?_⟩
  obtain ⟨⟨k', v'⟩, hk, rfl, rv⟩ := paired_at k1 hv
  obtain ⟨p, hp, rfl, rfl⟩ := toolK_at hk
  have ro := k2.val (.inr p.1)
  rw [toolK_val, manyOf_of nd (show (p.1, p.2) ∈ D from List.mem_of_getElem? hp)] at ro
  obtain ⟨u', hu', ru⟩ := RelO.some_of ro
  exact ⟨_, hu', fun E Q q => eqat_smp (v := .int p.2) trivial rv ru _ _ E Q q⟩
theorem op_neTl {X : Cx} (hu : X.A.units + 1 < cLine) : OpR X (compareOp .NotEq) (fun x y H Q => ∃ (a b : Addr) (D : Tl), x = .ref a ∧ y = .ref b ∧ H a = some (.dK (toolK D)) ∧ H b = some (.dK (toolK D)) ∧ (D.map (·.1)).Nodup ∧ Q (.bl false) H) := by
  intro pins s σ H x y v u Q I rx ry h
  obtain ⟨a, b, D, rfl, rfl, e1, e2, nd, hq⟩ := h
  cases rx
  cases ry
  obtain ⟨w1, w2, s1, s2, o1, o2, hl, hits⟩ := tl_hits I X.A.in1 e1 e2 nd
  exact dict_ne s1 s2 o1 o2 (Nat.lt_of_succ_lt hu) hl hits ⟨.bl false, H, I, rfl, hq⟩
/-- d == {} -/
theorem op_eqTlE {X : Cx} (hu : X.A.units + 1 < cLine) : OpR X (compareOp .Eq) (fun x y H Q => ∃ (a b : Addr) (D : Tl), x = .ref a ∧ y = .ref b ∧ H a = some (.dK (toolK D)) ∧ H b = some (.dK []) ∧ Q (.bl D.isEmpty) H) := by
  intro pins s σ H x y v u Q I rx ry h
  obtain ⟨a, b, D, rfl, rfl, e1, e2, hq⟩ := h
  cases rx
  cases ry
  cases D with
  | nil =>
    obtain ⟨w1, w2, s1, s2, o1, o2, hl, hits⟩ := tl_hits (D := []) I X.A.in1 e1 e2 List.nodup_nil
    exact dict_eq s1 s2 o1 o2 (Nat.lt_of_succ_lt hu) hl hits ⟨.bl true, H, I, rfl, hq⟩
  | cons p D =>
    obtain ⟨z1, s1, w1, k1, o1⟩ := dk_of I.hok e1
    obtain ⟨z2, s2, w2, k2, o2⟩ := dk_of I.hok e2
    exact dict_short s1 s2 o1 o2 (Nat.lt_of_succ_lt hu) (by rw [← k1.length, ← k2.length, toolK_len]; simp) ⟨.bl false, H, I, rfl, hq⟩
/-- != of two tuples: dicts of the same tools, then things alike -/
theorem op_neTD {X : Cx} (n : Nat) (hu : X.A.units + (n + 2) < cLine) : OpR X (compareOp .NotEq) (fun x y H Q => ∃ (a b d e : Addr) (xs ys : List V) (D : Tl), x = .ref a ∧ y = .ref b ∧ SqT X.K H a (.ref d :: xs) ∧ SqT X.K H b (.ref e :: ys) ∧
    H d = some (.dK (toolK D)) ∧ H e = some (.dK (toolK D)) ∧ (D.map (·.1)).Nodup ∧ All2 (Alk X.K H n) xs ys ∧ Q (.bl false) H) := by
  intro pins s σ H x y v u Q I rx ry h
  obtain ⟨a, b, d, e, xs, ys, D, rfl, rfl, h1, h2, e1, e2, nd, hA, hq⟩ := h
  cases rx
  cases ry
  obtain ⟨i1, v1, p1, _⟩ := I.tuple h1
  obtain ⟨i2, v2, p2, _⟩ := I.tuple h2
  have lA := hA.len
  cases v1 with
  | cons r1 t1 =>
    cases v2 with
    | cons r2 t2 =>
      cases r1
      cases r2
      refine tup_same p1 p2 (by simp [← t1.length, ← t2.length, lA]) (by omega) (fun j g1 g2 => ?_) ⟨.bl false, H, I, rfl, hq⟩
      cases j with
      | zero =>
        obtain ⟨w1, w2, s1, s2, o1, o2, hl, hits⟩ := tl_hits I X.A.in1.in1 e1 e2 nd
        exact Sw.leq_refs fun _ E Q q => dict_eq s1 s2 o1 o2 (by show X.A.units + 1 < cLine; omega) hl hits q
      | succ j =>
        have := all2_eq (A := X.A.in1) (s := s) (fun x y u w => alk_eq I n X.A.in1 x y u w (by show X.A.units + 1 + n < _; omega)) hA t1 t2 j (by simpa using g1) (by simpa using g2)
        exact fun E Q q => this X.prog X.w E Q q
end Sw
set_option linter.all false
namespace Sw
open PySem L2 XH Hm PyProof.Rows So
/-! ### k51: a net's own things (own work) -/
/-- a way copied: its tuple and its list within P, the uses as they lie in G -/
def rWL (G : Hp) : RA Wy := fun P H v w => ∃ t u : Addr, v = .ref t ∧ P t ∧ P u ∧ H t = some (.tup [.int w.1, .int w.2.1, .ref u]) ∧ ∃ vs, H u = some (.lst vs) ∧ A2 (rUse An G) vs w.2.2
instance {G : Hp} : Mv (rWL G) where
  mv := fun {P P' H H' v x} g h => by
    obtain ⟨t, u, rfl, p, p2, e, vs, e2, r⟩ := h
    obtain ⟨q, e'⟩ := g t _ p rfl e
    obtain ⟨q2, e2'⟩ := g u _ p2 rfl e2
    exact ⟨t, u, rfl, q, q2, e', vs, e2', r⟩
def Tp (G H : Hp) : Prop := ∀ a xs, G a = some (.tup xs) → H a = some (.tup xs)
def Sq (G H : Hp) : Prop := ∀ a o, isSq o = true → G a = some o → H a = some o
theorem Sq.tp {G H : Hp} (h : Sq G H) : Tp G H := fun a xs e => h a _ rfl e
theorem rUse.tp {P : Addr → Prop} {G H : Hp} {v : V} {u : Us} (t : Tp G H) (h : rUse P G v u) : rUse An H v u := by
  obtain ⟨a, e, _, k⟩ := h
  exact ⟨a, e, trivial, t _ _ k⟩
theorem rWL.way {G H : Hp} {P : Addr → Prop} {v : V} {w : Wy} (tp : Tp G H) (h : rWL G P H v w) : rWay An H v w := by
  obtain ⟨t, u, rfl, _, _, e, vs, e2, r⟩ := h
  exact ⟨t, u, rfl, trivial, trivial, e, vs, e2, r.imp fun _ _ q => q.tp tp⟩
theorem LsA.plain {G H : Hp} {P : Addr → Prop} {l : Addr} {T : Tk} (tp : Tp G H) (h : LsA (rLst (rWL G)) P H l T) : LsA rTask An H l T := by
  obtain ⟨vs, e, r⟩ := h
  refine ⟨vs, e, r.imp fun v ws q => ?_⟩
  obtain ⟨a, rfl, _, us, e2, r2⟩ := q
  exact ⟨a, rfl, trivial, us, e2, r2.imp fun _ _ q => q.way tp⟩
theorem LsA.fxP {α : Type} {R : RA α} [Mv R] {P : Addr → Prop} {x : Addr} {H H' : Hp} {l : Addr} {T : List α} {C dx : Addr} {fs : List (Str × V)} (h : LsA R P H l T) (ex : H x = some (.ins C dx fs)) (g : Fx x H H') : LsA R P H' l T :=
  h.sq fun a o s e => g a o (fun z => by rw [z, ex] at e; cases e; cases s) e
theorem Fx.sq {x : Addr} {H H' : Hp} {C dx : Addr} {fs : List (Str × V)} (g : Fx x H H') (ex : H x = some (.ins C dx fs)) : Sq H H' := fun a o s e => g a o (fun z => by rw [z, ex] at e; cases e; cases s) e
theorem Fx.free {x : Addr} {H H' : Hp} {o : HO} (g : Fx x H H') (ex : H' x = some o) {a : Addr} (h : H' a = none) : H a = none := by
  cases e : H a with
  | none => rfl
  | some u =>
    have : a ≠ x := fun z => by rw [z, ex] at h; cases h
    rw [g a u this e] at h
    cases h
structure NetZ (C : Addr) (Z : Addr → Prop) (G H : Hp) (x : Addr) (D : Tl) (T : Tk) (A B : List Ky) (n : Int) : Prop where
  ex : ∃ (dx td tl al pl : Addr) (fs : List (Str × V)), H x = some (.ins C dx fs) ∧ fs.lookup ("tools" : Str) = some (.ref td) ∧ fs.lookup ("tasks" : Str) = some (.ref tl) ∧ fs.lookup ("arcs" : Str) = some (.ref al) ∧ fs.lookup ("apart" : Str) = some (.ref pl) ∧ fs.lookup ("moments" : Str) = some (.int n) ∧
    H td = some (.dK (toolK D)) ∧ LsA (rLst (rWL G)) Z H tl T ∧ TupsA H al A ∧ TupsA H pl B ∧ Z td ∧ Z tl ∧ Z al ∧ Z pl
theorem NetZ.same {C : Addr} {Z : Addr → Prop} {G H H' : Hp} {x : Addr} {D : Tl} {T : Tk} {A B : List Ky} {n : Int} (h : NetZ C Z G H x D T A B n) (g : Same H H') : NetZ C Z G H' x D T A B n := by
  obtain ⟨dx, td, tl, al, pl, fs, a, b1, b2, b3, b4, b5, c, d, e, k, z⟩ := h.ex
  exact ⟨dx, td, tl, al, pl, fs, g _ _ a, b1, b2, b3, b4, b5, g _ _ c, d.same g, e.same g, k.same g, z⟩
theorem NetZ.net {C : Addr} {Z : Addr → Prop} {G H : Hp} {x : Addr} {D : Tl} {T : Tk} {A B : List Ky} {n : Int} (h : NetZ C Z G H x D T A B n) (tp : Tp G H) : NetG C false H x D T A B n := by
  obtain ⟨dx, td, tl, al, pl, fs, a, b1, b2, b3, b4, b5, c, d, e, k, z⟩ := h.ex
  exact ⟨dx, td, tl, al, pl, fs, a, b1, b2, b3, b4, b5, .inl c, d.plain tp, e, k⟩
def isTp : HO → Bool
  | .tup _ => true
  | _ => false
/-- what is no tuple may change within P -/
def Spl (P : Addr → Prop) (H H' : Hp) : Prop := ∀ a o, H a = some o → (isTp o = true ∨ ¬ P a) → H' a = some o
theorem Spl.of {P : Addr → Prop} {H H' : Hp} (g : Same H H') : Spl P H H' := fun a o e _ => g a o e
theorem Spl.trans {P : Addr → Prop} {H H1 H2 : Hp} (g : Spl P H H1) (k : Spl P H1 H2) : Spl P H H2 := fun a o e h => k a o (g a o e h) h
theorem Spl.upd {P : Addr → Prop} {H H' : Hp} {a : Addr} {o : HO} (g : Spl P H H') (p : P a) (e : H' a = some o) (t : isTp o = false) (u : HO) : Spl P H (L2.upd H' a u) := fun b v eb h => by
  have k := g b v eb h
  by_cases z : b = a
  · subst z
    rw [e] at k
    cases k
    rcases h with h | h
    · rw [t] at h; cases h
    · exact absurd p h
  · rw [upd_ne z]
    exact k
theorem TupsA.sp {P : Addr → Prop} {H H' : Hp} {l : Addr} {ks : List Ky} (h : TupsA H l ks) (g : Spl P H H') (n : ¬ P l) : TupsA H' l ks := by
  obtain ⟨as, e, r⟩ := h
  exact ⟨as, g _ _ e (.inr n), r.imp fun a k q => g _ _ q (.inl rfl)⟩
theorem NetZ.sp {C : Addr} {Z P : Addr → Prop} {G H H' : Hp} {x : Addr} {D : Tl} {T : Tk} {A B : List Ky} {n : Int} (h : NetZ C Z G H x D T A B n) (tp : Tp G H) (g : Spl P H H') (zp : ∀ a, Z a → ¬ P a) (xp : ¬ P x) : NetG C false H' x D T A B n := by
  obtain ⟨dx, td, tl, al, pl, fs, a, b1, b2, b3, b4, b5, c, ⟨vs, d, r⟩, e, k, z1, z2, z3, z4⟩ := h.ex
  refine ⟨dx, td, tl, al, pl, fs, g _ _ a (.inr xp), b1, b2, b3, b4, b5, .inl (g _ _ c (.inr (zp _ z1))), LsA.plain (G := G) (P := Z) (fun a xs e => g _ _ (tp a xs e) (.inl rfl)) ⟨vs, g _ _ d (.inr (zp _ z2)), r.imp fun _ _ q => Mv.mv (fun a o p s e => ⟨p, g _ _ e (.inr (zp a p))⟩) q⟩, e.sp g (zp _ z3), k.sp g (zp _ z4)⟩
def spCopyL : Sp := fun vs H Q _ => ∃ (l : Addr) (ws : List Wy) (G : Hp), vs = [.ref l] ∧ Sq G H ∧ LsA rWay An G l ws ∧ ws.length ≤ 100 ∧ ∀ (p : Addr) (H' : Hp), Same H H' → H p = none → rLst (rWL G) (fun a => H a = none) H' (.ref p) ws → Q (.ref p) H'
/-- Net's __init__, its things new -/
def spNetLX (C c : Addr) : Sp := fun vs H Q E => ∃ (x dx td tl al : Addr) (v : V) (n : Int) (D : Tl) (T : Tk) (A B : List Ky), vs = [.ref x, .ref td, .ref tl, .ref al, v, .int n] ∧ H x = some (.ins C dx []) ∧ H td = some (.dK (toolK D)) ∧ LsA rTask An H tl T ∧ TupsA H al A ∧ ApV H v B ∧ NetFo D T A B ∧
  (NetOkG D T A B n → ∀ H', Fx x H H' → NetZ C (fun a => H a = none) H H' x D T A B n → Q .non H') ∧ (¬ NetOkG D T A B n → ∀ H', Fx x H H' → E (.ref c) none H')
def spNetL (C : Addr) : Sp := fun vs H Q _ => ∃ (x dx td tl al : Addr) (v : V) (n : Int) (D : Tl) (T : Tk) (A B : List Ky), vs = [.ref x, .ref td, .ref tl, .ref al, v, .int n] ∧ H x = some (.ins C dx []) ∧ H td = some (.dK (toolK D)) ∧ LsA rTask An H tl T ∧ TupsA H al A ∧ ApV H v B ∧ NetOkG D T A B n ∧
  ∀ H', Fx x H H' → NetZ C (fun a => H a = none) H H' x D T A B n → Q .non H'
theorem netLX_of {C c : Addr} (vs : List V) (H : Hp) (Q : VK) (E : XK) : spNetL C vs H Q E → spNetLX C c vs H Q E0 := fun ⟨x, dx, td, tl, al, v, n, D, T, A, B, e, ex, etd, hT, hA, hv, ok, q⟩ =>
  ⟨x, dx, td, tl, al, v, n, D, T, A, B, e, ex, etd, hT, hA, hv, ok.fo, fun _ => q, fun z => absurd ok z⟩
/-! what is made, as it is moved -/
theorem MadeA.same {P : Addr → Prop} {H H' : Hp} {t : Addr} {D : Tl} {T : Tk} {A B : List Ky} {n : Int} (h : MadeA P H t D T A B n) (g : Same H H') : MadeA P H' t D T A B n := by
  obtain ⟨td, tl, al, pl, e, d, lt, la, lb, r⟩ := h.ex
  exact ⟨td, tl, al, pl, g _ _ e, g _ _ d, lt.same g, la.same g, lb.same g, r⟩
theorem MadeA.there {P : Addr → Prop} {H : Hp} {t : Addr} {D : Tl} {T : Tk} {A B : List Ky} {n : Int} (h : MadeA P H t D T A B n) : MadeA (fun a => P a ∧ H a ≠ none) H t D T A B n := by
  obtain ⟨td, tl, al, pl, e, d, ⟨vs, el, r⟩, ⟨as, ea, ra⟩, ⟨bs, eb, rb⟩, n1, n2, p1, p2, p3, p4⟩ := h.ex
  have th : ∀ {a : Addr} {o : HO}, H a = some o → H a ≠ none := fun e => by rw [e]; exact nofun
  exact ⟨td, tl, al, pl, e, d, ⟨vs, el, r.imp fun _ _ q => mvP (mvT q) fun a h => ⟨h.1.1, h.1.2, h.2⟩⟩, ⟨as, ea, ra⟩, ⟨bs, eb, rb⟩, n1, n2, ⟨p1, th d⟩, ⟨p2, th el⟩, ⟨p3, th ea⟩, p4, th eb⟩
theorem MadeA.sp {P0 P : Addr → Prop} {H H' : Hp} {t : Addr} {D : Tl} {T : Tk} {A B : List Ky} {n : Int} (h : MadeA P0 H t D T A B n) (g : Spl P H H') (k : ∀ a, P0 a → ¬ P a) : MadeA P0 H' t D T A B n := by
  obtain ⟨td, tl, al, pl, e, d, ⟨vs, el, r⟩, la, lb, n1, n2, p1, p2, p3, p4⟩ := h.ex
  exact ⟨td, tl, al, pl, g _ _ e (.inl rfl), g _ _ d (.inr (k _ p1)), ⟨vs, g _ _ el (.inr (k _ p2)), r.imp fun _ _ q => Mv.mv (fun a o p s e => ⟨p, g _ _ e (.inr (k a p.2))⟩) q⟩, la.sp g (k _ p3), lb.sp g (k _ p4), n1, n2, p1, p2, p3, p4⟩
theorem upd_sqD {H : Hp} {d : Addr} {kvs : List (Key × V)} (e : H d = some (.dK kvs)) (o : HO) : Sq H (upd H d o) := fun a u s h => by
  rw [upd_ne (fun z => by rw [z, e] at h; cases h; cases s)]
  exact h
theorem TupsA.updL {H : Hp} {l x : Addr} {ks : List Ky} {vs : List V} (h : TupsA H l ks) (e : H x = some (.lst vs)) (n : l ≠ x) (o : HO) : TupsA (L2.upd H x o) l ks := by
  obtain ⟨as, el, r⟩ := h
  exact ⟨as, by rw [upd_ne n]; exact el, r.imp fun a k q => by rw [upd_ne (fun z => by rw [z, e] at q; cases q)]; exact q⟩
theorem tok_q : TOk 12 [("q", 3)] := ⟨by decide, by simp, fun p hp => by
  rw [List.mem_singleton.mp hp]
  exact ⟨⟨by decide, by decide, fun c hc => by
    have := List.mem_singleton.mp (show c ∈ [113] from hc)
    omega⟩, by decide, by decide⟩, fun p hp => by
  rw [List.mem_singleton.mp hp]
  decide⟩
def FT (T : Tk) : Prop := ∀ ws ∈ T, 1 ≤ ws.length ∧ ws.length ≤ 2 ∧ ∀ w ∈ ws, w.2.2.length ≤ 12
def spKept51 (C : Addr) : Sp := fun vs H Q _ => ∃ (x t : Addr) (P : Addr → Prop) (D : Tl) (T : Tk) (A B : List Ky) (n : Int), vs = [.ref x, .ref t] ∧ NetG C false H x D T A B n ∧ MadeA P H t D T A B n ∧ (D.map (·.1)).Nodup ∧ ∀ H', Same H H' → Q (.bl true) H'
def spSpill51 : Sp := fun vs H Q _ => ∃ (t : Addr) (P : Addr → Prop) (D : Tl) (T : Tk) (A B : List Ky) (n : Int), vs = [.ref t] ∧ MadeA P H t D T A B n ∧ D.length ≤ 12 ∧ T.length ≤ 24 ∧ FT T ∧ A.length ≤ 600 ∧ B.length ≤ 300 ∧ ∀ H', Spl P H H' → Q .non H'
structure FullOk (D : Tl) (T : Tk) : Prop where
  d1 : 1 ≤ D.length
  tok : TOk 12 D
  t2 : 2 ≤ T.length
  t24 : T.length ≤ 24
  ft : FT T
structure MadeN (H : Hp) (t : Addr) (D : Tl) (T : Tk) (A B : List Ky) (n : Int) : Prop where
  ex : ∃ td tl al pl : Addr, H t = some (.tup [.ref td, .ref tl, .ref al, .ref pl, .int n]) ∧ H td = some (.dK (toolK D)) ∧ LsA rTask An H tl T ∧ TupsA H al A ∧ TupsA H pl B
def spFull51 : Sp := fun vs H Q _ => ∃ (t : Addr) (P : Addr → Prop) (D : Tl) (T : Tk) (A B : List Ky) (n : Int), vs = [.ref t] ∧ MadeA P H t D T A B n ∧ TOk 12 D ∧ T.length ≤ 24 ∧ FT T ∧ ∀ (t' : Addr) (H' : Hp) (D' : Tl) (T' : Tk), Spl P H H' → MadeN H' t' D' T' A B n → FullOk D' T' → Q (.ref t') H'
structure LkOk (A B : List Ky) (n : Int) : Prop where
  a : ∀ k ∈ A, ∃ p q g : Int, k = [p, q, g]
  b : ∀ k ∈ B, ∃ p q : Int, k = [p, q]
  a600 : A.length ≤ 600
  b300 : B.length ≤ 300
  n0 : 0 ≤ n
  n8 : n ≤ 8
def spBadWay : Sp := fun vs H Q _ => ∃ (v : V) (k x : Int) (td : Addr) (D : Tl) (w : Wy), vs = [v, .int k, .int x, .ref td] ∧ rWay An H v w ∧ H td = some (.dK (toolK D)) ∧ TOk 12 D ∧ 1 ≤ D.length ∧ w.2.2.length ≤ 12 ∧ 5 ≤ k ∧ k ≤ 13 ∧ 0 ≤ x ∧ x < 1000000000 ∧
  ∀ (v' : V) (w' : Wy) (H' : Hp), Same H H' → rWay An H' v' w' → ¬ WyO D w' → w'.2.2.length ≤ 100 → Q v' H'
def spBadTasks : Sp := fun vs H Q _ => ∃ (td tl : Addr) (k x : Int) (D : Tl) (T : Tk), vs = [.ref td, .ref tl, .int k, .int x] ∧ H td = some (.dK (toolK D)) ∧ LsA rTask An H tl T ∧ FullOk D T ∧ 2 ≤ k ∧ k ≤ 13 ∧ 0 ≤ x ∧ x < 1000000000 ∧
  ∀ (p : Addr) (T' : Tk) (H' : Hp), Same H H' → LsA rTask An H' p T' → ¬ (T'.length ≤ 24 ∧ ∀ ws ∈ T', WsOk D ws) → T'.length ≤ 1000 → (∀ ws ∈ T', ws.length ≤ 100 ∧ ∀ w ∈ ws, w.2.2.length ≤ 100) → Q (.ref p) H'
def spBadLinks : Sp := fun vs H Q _ => ∃ (t : Addr) (k x : Int) (D : Tl) (T : Tk) (A B : List Ky) (n : Int), vs = [.ref t, .int k, .int x] ∧ MadeN H t D T A B n ∧ 2 ≤ T.length ∧ T.length ≤ 24 ∧ LkOk A B n ∧ 14 ≤ k ∧ k ≤ 22 ∧ 0 ≤ x ∧ x < 1000000000 ∧
  ∀ (t' : Addr) (A' B' : List Ky) (n' : Int) (H' : Hp), MadeN H' t' D T A' B' n' → (∀ k ∈ A', ∃ p q g : Int, k = [p, q, g]) → (∀ k ∈ B', ∃ p q : Int, k = [p, q]) → ¬ (0 ≤ n' ∧ n' ≤ 8 ∧ A'.length ≤ 600 ∧ (∀ k ∈ A', ArOk (2 * (T.length : Int) + n') k) ∧ B'.length ≤ 300 ∧ ∀ k ∈ B', PrOk (T.length : Int) k) → Q (.ref t') H'
def spSpoilt51 : Sp := fun vs H Q _ => ∃ (t : Addr) (k x : Int) (D : Tl) (T : Tk) (A B : List Ky) (n : Int), vs = [.ref t, .int k, .int x] ∧ MadeN H t D T A B n ∧ FullOk D T ∧ LkOk A B n ∧ 0 ≤ k ∧ k < 23 ∧ 0 ≤ x ∧ x < 1000000000 ∧
  ∀ (t' : Addr) (H' : Hp) (D' : Tl) (T' : Tk) (A' B' : List Ky) (n' : Int), MadeN H' t' D' T' A' B' n' → NetFo D' T' A' B' → ¬ NetOkG D' T' A' B' n' → Q (.ref t') H'
theorem smp_use (u : Us) : AllSmp (useV u) := fun x hx => by
  unfold useV at hx
  simp only [List.mem_cons, List.not_mem_nil, or_false] at hx
  rcases hx with rfl | rfl | rfl <;> trivial
theorem alk_way {K : PySem.W.Frag} {P P' : Addr → Prop} {H : Hp} {v v' : V} {w : Wy} (h : rWay P H v w) (k : rWay P' H v' w) : Alk K H 3 v v' := by
  obtain ⟨t, u, rfl, _, _, e, us, eu, ru⟩ := h
  obtain ⟨t', u', rfl, _, _, e', us', eu', ru'⟩ := k
  refine .inr ⟨t, t', _, _, rfl, rfl, .inl ⟨SqT.of e, SqT.of e'⟩, ⟨.inl (.inl ⟨rfl, trivial⟩), .inl (.inl ⟨rfl, trivial⟩), .inr ⟨u, u', _, _, rfl, rfl, .inr ⟨SqL.of eu, SqL.of eu'⟩, ?_⟩, trivial⟩⟩
  exact alk_A2 (R := rUse) (fun a b x _ h1 h2 => alk_tup (smp_use x) h1 h2) ru ru'
theorem alk_tups {K : PySem.W.Frag} {H : Hp} {as bs : List Addr} {A : List Ky} (h : Ref2 (fun t k => H t = some (.tup (k.map V.int))) as A) (k : Ref2 (fun t k => H t = some (.tup (k.map V.int))) bs A) : All2 (Alk K H 1) (as.map V.ref) (bs.map V.ref) := by
  refine all2_at (by rw [List.length_map, List.length_map, h.1, k.1]) fun i x y h1 h2 => ?_
  obtain ⟨a, ha, rfl⟩ := refs_at h1
  obtain ⟨b, hb, rfl⟩ := refs_at h2
  have il : i < A.length := by rw [← h.1]; exact (List.getElem?_eq_some_iff.mp ha).1
  have hA := List.getElem?_eq_getElem il
  exact .inr ⟨a, b, _, _, rfl, rfl, .inl ⟨SqT.of (h.2 i a _ ha hA), SqT.of (k.2 i b _ hb hA)⟩, alk_refl (smp_ints _)⟩
theorem mid_bad {D : Tl} {R : List Us} {n : Nat} {b : Us} (h : UsOk D (R.take n ++ [b] ++ R.drop n)) : UOk D b ∧ b.1 ∉ R.map (·.1) := by
  refine ⟨h.2.2 b (by simp), ?_⟩
  have e : R.take n ++ [b] ++ R.drop n = R.take n ++ b :: R.drop n := by simp
  have p : (R.take n ++ b :: R.drop n).Perm (b :: R) := by
    have := List.perm_middle (a := b) (l₁ := R.take n) (l₂ := R.drop n)
    rwa [List.take_append_drop] at this
  have nd := h.1
  rw [e] at nd
  have := (p.map (·.1)).nodup_iff.mp nd
  rw [List.map_cons, List.nodup_cons] at this
  exact this.1
/-- the uses that break a bound -/
def badU (z : Str) (m x : Int) : List Us := [("w", 1, 0), (z, 1, 0), (z, 0 - (x.fdiv 4).fmod 2, 0), (z, m + 1, 0), (z, 1, -1 - (x.fdiv 4).fmod 2), (z, 1, 1000000000 + 1)]
theorem badU_no {D : Tl} {z : Str} {m x : Int} (t : TOk 12 D) (hm : manyOf D z = some m) {j : Nat} {b : Us} (hj : (badU z m x)[j]? = some b) (j1 : j ≠ 1) : ¬ UOk D b := by
  have f := fm (a := x.fdiv 4) (n := 2) (by decide)
  rintro ⟨m', h1, h2, h3, h4, h5⟩
  match j, hj, j1 with
  | 0, hj, _ => cases hj; exact t.w _ (manyOf_mem h1) rfl
  | 1, _, q => exact q rfl
  | 2, hj, _ => cases hj; simp only at h2; omega
  | 3, hj, _ => cases hj; simp only at h1 h3; rw [hm] at h1; cases h1; omega
  | 4, hj, _ => cases hj; simp only at h4; omega
  | 5, hj, _ => cases hj; simp only at h5; omega
theorem badU_1 {z : Str} {m x : Int} {j : Nat} {b : Us} (hj : (badU z m x)[j]? = some b) (j1 : j = 1) : b.1 = z := by subst j1; cases hj; rfl
/-! lists of tuples of numbers -/
abbrev rKy : RA Ky := rTup (fun k : Ky => k.map V.int)
theorem TupsA.ls {H : Hp} {l : Addr} {ks : List Ky} (h : TupsA H l ks) : LsA rKy An H l ks := by
  obtain ⟨as, e, r⟩ := h
  refine ⟨_, e, by rw [List.length_map]; exact r.1, fun i v k hv hk => ?_⟩
  obtain ⟨a, ha, rfl⟩ := refs_at hv
  exact ⟨a, rfl, trivial, r.2 i a k ha hk⟩
theorem ky_refs {P : Addr → Prop} {H : Hp} : ∀ {vs : List V} {ks : List Ky}, A2 (rKy P H) vs ks → ∃ as : List Addr, vs = as.map V.ref ∧ Ref2 (fun t k => H t = some (.tup (k.map V.int))) as ks
  | [], ks, h => ⟨[], rfl, h.1, fun i a x e => by simp at e⟩
  | v :: vs, [], h => by have := h.1; simp at this
  | v :: vs, k :: ks, h => by
    obtain ⟨t, rfl, _, et⟩ := h.2 0 v k rfl rfl
    obtain ⟨as, rfl, r⟩ := ky_refs (vs := vs) (ks := ks) ⟨by have := h.1; simpa using this, fun i v k e1 e2 => h.2 (i + 1) v k (by simpa using e1) (by simpa using e2)⟩
    refine ⟨t :: as, rfl, by simp [r.1], fun i a x e1 e2 => ?_⟩
    cases i with
    | zero => cases e1; cases e2; exact et
    | succ i => exact r.2 i a x (by simpa using e1) (by simpa using e2)
theorem LsA.tups {P : Addr → Prop} {H : Hp} {l : Addr} {ks : List Ky} (h : LsA rKy P H l ks) : TupsA H l ks := by
  obtain ⟨vs, e, r⟩ := h
  obtain ⟨as, rfl, r'⟩ := ky_refs r
  exact ⟨as, e, r'⟩
theorem two_at {a b i : Int} (h0 : 0 ≤ i) (h : i < 2) : ∃ v : Int, atI [V.int a, V.int b] i = some (.int v) ∧ (v = a ∨ v = b) := by
  rcases (by omega : i = 0 ∨ i = 1) with rfl | rfl
  · exact ⟨_, rfl, .inl rfl⟩
  · exact ⟨_, rfl, .inr rfl⟩
theorem ref2_at {a b : Addr} {i : Int} (h0 : 0 ≤ i) (h : i < 2) : ∃ c : Addr, atI [V.ref a, V.ref b] i = some (.ref c) ∧ ((i = 0 ∧ c = a) ∨ (i = 1 ∧ c = b)) := by
  rcases (by omega : i = 0 ∨ i = 1) with rfl | rfl
  · exact ⟨_, rfl, .inl ⟨rfl, rfl⟩⟩
  · exact ⟨_, rfl, .inr ⟨rfl, rfl⟩⟩
theorem ref3_at {a b d : Addr} {i : Int} (h0 : 0 ≤ i) (h : i < 3) : ∃ c : Addr, atI [V.ref a, V.ref b, V.ref d] i = some (.ref c) ∧ (c = a ∨ c = b ∨ c = d) := by
  rcases (by omega : i = 0 ∨ i = 1 ∨ i = 2) with rfl | rfl | rfl
  · exact ⟨_, rfl, .inl rfl⟩
  · exact ⟨_, rfl, .inr (.inl rfl)⟩
  · exact ⟨_, rfl, .inr (.inr rfl)⟩
theorem ar_no {m a b g : Int} (h : ¬ (0 ≤ a ∧ a < m ∧ 0 ≤ b ∧ b < m ∧ -1000000000 ≤ g ∧ g ≤ 1000000000)) : ¬ ArOk m [a, b, g] := fun ⟨p, q, r, e, z⟩ => by cases e; exact h z
theorem pr_no {m a b : Int} (h : ¬ (0 ≤ a ∧ a < m ∧ 0 ≤ b ∧ b < m ∧ a ≠ b)) : ¬ PrOk m [a, b] := fun ⟨p, q, e, z⟩ => by cases e; exact h z
theorem putT_val (D : Tl) (z y : Str) (n : Int) : manyOf (putT D z n) y = if y = z then some n else manyOf D y := by
  have h := toolK_val y (putT D z n)
  rw [← (putT_spec D z n).1, valV_put] at h
  have inj : ∀ {a b : Option Int}, a.map V.int = b.map V.int → a = b := fun {a b} e => by
    cases a <;> cases b <;> simp at e ⊢ <;> exact e
  by_cases c : y = z
  · rw [if_pos c]
    rw [if_pos (by rw [c])] at h
    exact inj h.symm
  · rw [if_neg c]
    rw [if_neg (by intro q; exact c (by injection q)), toolK_val] at h
    exact inj h.symm
def qn (j : Nat) : Str := "q" ++ ⟨#[98 + j]⟩
theorem q_let {i c : Nat} (h : (Str.ofString "bcdefghijklmn").cps[i]? = some c) : c = 98 + i ∧ i < 13 := by
  have e : (Str.ofString "bcdefghijklmn").cps.toList = (List.range 13).map (98 + ·) := by decide
  have h' : (Str.ofString "bcdefghijklmn").cps.toList[i]? = some c := by rw [← h]; exact Array.getElem?_toList
  rw [e, List.getElem?_map] at h'
  obtain ⟨j, hj, rfl⟩ := Option.map_eq_some_iff.mp h'
  obtain ⟨h1, h2⟩ := List.getElem?_eq_some_iff.mp hj
  rw [List.getElem_range] at h2
  rw [List.length_range] at h1
  omega
theorem q_nodup : ((List.range 13).map qn).Nodup := by decide
theorem q_len (j : Nat) : (qn j).length = 2 := rfl
/-- tools as more of them are put in -/
structure Qin (D : Tl) (i : Nat) : Prop where
  nd : (D.map (·.1)).Nodup
  nm : ∀ p ∈ D, p.1.length ≤ 1000000
  len : D.length ≤ 13
  mem : D.length = 13 ∨ ∀ j, j < i → ∃ m, manyOf D (qn j) = some m
theorem Qin.put {D : Tl} {i : Nat} (h : Qin D i) (l : D.length < 13) : Qin (putT D (qn i) 2) (i + 1) := by
  obtain ⟨_, e2, e3, _, e5⟩ := putT_spec D (qn i) 2
  refine ⟨e2 h.nd, fun p hp => ?_, by omega, .inr fun j hj => ?_⟩
  · rcases e5 p hp with q | q
    · exact h.nm p q
    · rw [q]; show (qn i).length ≤ _; rw [q_len]; decide
  · rw [putT_val]
    by_cases c : qn j = qn i
    · exact ⟨2, if_pos c⟩
    · rw [if_neg c]
      rcases h.mem with z | z
      · omega
      · refine z j ?_
        rcases Nat.lt_succ_iff_lt_or_eq.mp hj with q | q
        · exact q
        · exact absurd (by rw [q]) c
theorem Qin.all {D : Tl} (h : Qin D 13) : 13 ≤ D.length := by
  rcases h.mem with z | z
  · omega
  · have := nodup_leG (m := D.map (·.1)) q_nodup fun x hx => by
      obtain ⟨j, hj, rfl⟩ := List.mem_map.mp hx
      obtain ⟨m, hm⟩ := z j (List.mem_range.mp hj)
      exact List.mem_map.mpr ⟨_, manyOf_mem hm, rfl⟩
    rwa [List.length_map, List.length_map, List.length_range] at this
theorem TOk.nm {n : Nat} {D : Tl} (h : TOk n D) : ∀ p ∈ D, p.1.length ≤ 1000000 := fun p hp => by have := (h.ok p hp).1.2.1; rw [sL_len] at this; omega
theorem FT.fo {T : Tk} (h : FT T) : ∀ ws ∈ T, ws.length ≤ 100 ∧ ∀ w ∈ ws, w.2.2.length ≤ 100 := fun ws hw => ⟨by have := (h ws hw).2.1; omega, fun w hw2 => by have := (h ws hw).2.2 w hw2; omega⟩
theorem four_at {x : Int} (x0 : 0 ≤ x) : ∃ v : Int, atI [V.int 0, V.int 9, V.int (-3), V.int (9 + x.fdiv 64)] (x.fmod 4) = some (.int v) ∧ ¬ (1 ≤ v ∧ v ≤ 8) := by
  have m := fm (a := x) (n := 4) (by decide)
  have d : 0 ≤ x.fdiv 64 := Int.fdiv_nonneg x0 (by decide)
  rcases (by omega : x.fmod 4 = 0 ∨ x.fmod 4 = 1 ∨ x.fmod 4 = 2 ∨ x.fmod 4 = 3) with e | e | e | e <;> rw [e]
  · exact ⟨_, rfl, by omega⟩
  · exact ⟨_, rfl, by omega⟩
  · exact ⟨_, rfl, by omega⟩
  · exact ⟨_, rfl, by omega⟩
theorem alk_tasks {K : PySem.W.Frag} {P P' : Addr → Prop} {H : Hp} {vs us : List V} {T : Tk} (h : A2 (rTask P H) vs T) (k : A2 (rTask P' H) us T) : All2 (Alk K H 4) vs us :=
  alk_A2 (R := rTask) (fun a b x _ h1 h2 => alk_lst (R := rWay) (fun _ _ _ _ q1 q2 => alk_way q1 q2) h1 h2) h k
/-- lists grow by c things at the most; what is no tuple changes within P alone -/
structure Gw (P : Addr → Prop) (G H : Hp) (c : Nat) : Prop where
  sp : Spl P G H
  gr : ∀ a vs, G a = some (.lst vs) → ∃ vs', H a = some (.lst vs') ∧ vs'.length ≤ vs.length + c
theorem Gw.refl {P : Addr → Prop} {G : Hp} : Gw P G G 0 := ⟨fun a o e _ => e, fun a vs e => ⟨vs, e, Nat.le_refl _⟩⟩
theorem Gw.mono {P : Addr → Prop} {G H : Hp} {c d : Nat} (h : Gw P G H c) (l : c ≤ d) : Gw P G H d := ⟨h.sp, fun a vs e => let ⟨vs', e', z⟩ := h.gr a vs e; ⟨vs', e', by omega⟩⟩
theorem Gw.same {P : Addr → Prop} {G H H' : Hp} {c : Nat} (h : Gw P G H c) (g : Same H H') : Gw P G H' c := ⟨h.sp.trans (Spl.of g), fun a vs e => let ⟨vs', e', z⟩ := h.gr a vs e; ⟨vs', g _ _ e', z⟩⟩
theorem Gw.app {P : Addr → Prop} {G H : Hp} {c : Nat} {a : Addr} {vs : List V} (h : Gw P G H c) (p : P a) (e : H a = some (.lst vs)) (v : V) : Gw P G (upd H a (.lst (vs ++ [v]))) (c + 1) := by
  refine ⟨h.sp.upd p e rfl _, fun b ws eb => ?_⟩
  obtain ⟨ws', e', z⟩ := h.gr b ws eb
  by_cases k : b = a
  · subst k
    rw [e] at e'
    cases e'
    exact ⟨_, upd_same, by rw [List.length_append]; show _ + 1 ≤ _; omega⟩
  · exact ⟨ws', by rw [upd_ne k]; exact e', by omega⟩
def IsU (G : Hp) (a : Addr) : Prop := ∃ us, LsA rUse An G a us
theorem ways_no {P : Addr → Prop} {G : Hp} {l : Addr} {ws : List Wy} (h : LsA rWay P G l ws) (n : 1 ≤ ws.length) : ¬ IsU G l := by
  rintro ⟨us, vs, e, r⟩
  obtain ⟨vs', e', r'⟩ := h
  rw [e] at e'
  cases e'
  have h0 := List.getElem?_eq_getElem n
  obtain ⟨v, hv, t, u, rfl, _, _, et, _⟩ := r'.get h0
  obtain ⟨x, _, t', ht, _, et'⟩ := r.at_ hv
  cases ht
  rw [et] at et'
  cases et'
theorem iteBT {b : Bool} {A B : Prop} (h : b = true) (a : A) : if b = true then A else B := by rw [if_pos h]; exact a
theorem iteBF {b : Bool} {A B : Prop} (h : b = false) (a : B) : if b = true then A else B := by rw [if_neg (by rw [h]; decide)]; exact a
theorem NetZ.mono {C : Addr} {Z Z' : Addr → Prop} {G H : Hp} {x : Addr} {D : Tl} {T : Tk} {A B : List Ky} {n : Int} (h : NetZ C Z G H x D T A B n) (f : ∀ a, Z a → Z' a) : NetZ C Z' G H x D T A B n := by
  obtain ⟨dx, td, tl, al, pl, fs, a, b1, b2, b3, b4, b5, c, d, e, k, z1, z2, z3, z4⟩ := h.ex
  exact ⟨dx, td, tl, al, pl, fs, a, b1, b2, b3, b4, b5, c, d.mono f, e, k, f _ z1, f _ z2, f _ z3, f _ z4⟩
theorem alk_made {K : PySem.W.Frag} {P P' : Addr → Prop} {H : Hp} {tl tl' al al' pl pl' : Addr} {T : Tk} {A B : List Ky} {n : Int} (h1 : LsA rTask P H tl T) (h1' : LsA rTask P' H tl' T) (h2 : TupsA H al A) (h2' : TupsA H al' A) (h3 : TupsA H pl B) (h3' : TupsA H pl' B) :
    All2 (Alk K H 5) [.ref tl, .ref al, .ref pl, .int n] [.ref tl', .ref al', .ref pl', .int n] := by
  obtain ⟨vs, e1, r1⟩ := h1
  obtain ⟨vs', e1', r1'⟩ := h1'
  have tk : ∀ {a b : Addr} {X : List Ky}, TupsA H a X → TupsA H b X → Alk K H 5 (.ref a) (.ref b) := fun {a b X} p q => by
    obtain ⟨as, ea, ra⟩ := p
    obtain ⟨bs, eb, rb⟩ := q
    exact .inl (.inl (.inl (.inr ⟨a, b, _, _, rfl, rfl, .inr ⟨SqL.of ea, SqL.of eb⟩, alk_tups ra rb⟩)))
  exact ⟨.inr ⟨tl, tl', _, _, rfl, rfl, .inr ⟨SqL.of e1, SqL.of e1'⟩, alk_tasks r1 r1'⟩, tk h2 h2', tk h3 h3', .inl (.inl (.inl (.inl (.inl ⟨rfl, trivial⟩)))), trivial⟩
theorem usesF_len (xs : List Int) (D : Tl) : (usesF xs D).length ≤ D.length := by
  have := pickL_len D.length (oddB xs) (useG xs D)
  unfold usesF usesG
  split
  · rw [List.length_reverse]; exact this
  · exact this
theorem made_ft (ns : List Int) : FT (madeT' ns) := fun ws hw => by
  have t := toolsF_ok (drawF (cel ns 0) 25)
  obtain ⟨i, _, rfl⟩ := List.mem_map.mp hw
  have o := taskG_ok (cel ns (5 + (0 + (i : Int))) * 64 + (0 + (i : Int))) t (Nat.le_refl _)
  refine ⟨o.1, o.2.1, fun w hw2 => ?_⟩
  have l := t.len
  unfold taskG at hw2
  have one : ∀ xs : List Int, (wayG xs (madeD ns)).2.2.length ≤ 12 := fun xs => Nat.le_trans (usesF_len xs _) l
  rcases List.mem_cons.mp hw2 with rfl | hw2
  · exact one _
  · split at hw2
    · rw [List.mem_singleton.mp hw2]; exact one _
    · cases hw2
theorem made_lk (ns : List Int) : LkOk (madeA ns) (madeB ns) (madeM ns) :=
  have h := made_ok ns
  ⟨h.fo.a, h.fo.b, h.a600, h.b300, h.n0, h.n8⟩
end Sw
set_option Elab.async false
set_option linter.all false
set_option maxRecDepth 100000
namespace L2
open PySem PySem.Spec PyProof.Rows XH Sw
/-! ### C(..) where the making may raise (own work, over the layer's own parts) -/
def tMakeX (C : Addr) (sp : Sp) (dvs : List V) (E : St → XK) (t : TA) : TE := fun σ H Q => t σ H fun vs G => ∀ x dx, G x = none → G dx = none → dx ≠ x → sp (.ref x :: (vs ++ dvs)) (upd (upd G dx (.own x)) x (.ins C dx [])) (fun v H2 => v = .non ∧ Q (.ref x) H2) (E σ)
section
variable {X : Cx} {k j : Nat} {f C : Addr} {ps : List Str} {sp : Sp} {dvs : List V} {x : Str} {p pos : Pos} {e : Expr} {es : List Expr} {t : TA} {E : St → XK} {fd : FuncData} {ds : List Value}
theorem pe_makeX (M : Mk X.K C f) (F : FnOk X.prog X.w X.K X.mg X.base (CX1 X.prog X.w) k f fd ps sp) (hr : Room (k + 1) X.A) (hg : Gl X x) (hm : X.mg x = some (.ref C)) (hb : Binds X.K fd ps ds) (hd : Vals dvs ds) (hx : PassX X E) (ha : PA X (e :: es) t)
    (hdb : (x == ("__debug__" : Str)) = false := by decide) (he : starEach (e :: es) X.env = (false, eval e X.env) :: starEach es X.env := by rfl) (hpl : (backTo pos (starEach es X.env)).any (·.1) = false := by rfl) : PE X (.Call (.Name x p) (e :: es) [] pos) (tMakeX C sp dvs E t) := by
  intro pins s σ H Q I h
  refine wpAny_Call_Name_kw (ld_glob I hg hm ?_ hdb)
  refine PySem.W.callWith_K (h₀ := X.base) I.ok.mod.kin M.kp (thn (ha pos pins s σ H _ I h) fun us s1 ⟨vs, G, J, r, q⟩ => ⟨J.kIn, ?_⟩) he hpl
  have made := Inv.made (C := C) J
  have args : Vals (V.ref (s1.heap.objs.size + 1) :: (vs ++ dvs)) (Value.ref (s1.heap.objs.size + 1) :: (us ++ ds)) := .cons rfl (r.append hd)
  have start := q (s1.heap.objs.size + 1) s1.heap.objs.size (J.hok.fresh (Nat.le_add_right _ 1)) (J.hok.fresh Nat.le.refl) (Nat.ne_of_lt (Nat.lt_add_one _))
  have many : (Value.ref (s1.heap.objs.size + 1) :: us ++ ds).length = ps.length := args.length.symm.trans (F.len _ _ _ _ start)
  have runs := F.run _ X.stack _ _ ⟨Value.ref (s1.heap.objs.size + 1) :: us, []⟩ _ _ _ (E σ) (hr.make C us []) (made.env0.make C us []) (hb _ (Value.ref (s1.heap.objs.size + 1) :: us) made.kIn many) args start
  refine wpAny_call (make_map (f := f) J.kIn M.makes M.init (beq_iff_eq.mp M.fn) (codeAny_mono runs fun
    | .error e, s', z => hx pins σ _ _ e s' made z
    | .ok (.ret u), s', z => ?_
    | .ok .next, _, z => z.elim
    | .ok .brk, _, z => z.elim
    | .ok .cont, _, z => z.elim))
  obtain ⟨v, H', J', rv, rfl, last⟩ := made.after z
  exact ⟨rv, V.ref (s1.heap.objs.size + 1), H', J', rfl, last⟩
end
end L2
namespace Sw
open PySem L2
section
variable {X : Cx} {k j : Nat} {f C : Addr} {ps : List Str} {sp : Sp} {dvs : List V} {x : Str} {p pos : Pos} {e : Expr} {es : List Expr} {t : TA} {E : L2.St → XK}
theorem pmake1 (M : Mk X.K C f) (D : DxM X.prog X.w X.K X.mg X.base (CX1 X.prog X.w) k f ps dvs sp) (hr : Room j X.A) (hk : k + 1 ≤ j) (hg : Gl X x) (hm : X.mg x = some (.ref C)) (hx : PassX X E) (ha : PA X (e :: es) t) (hdb : (x == ("__debug__" : Str)) = false := by decide)
    (he : starEach (e :: es) X.env = (false, eval e X.env) :: starEach es X.env := by rfl) (hpl : (backTo pos (starEach es X.env)).any (·.1) = false := by rfl) : PE X (.Call (.Name x p) (e :: es) [] pos) (tMakeX C sp [] E t) :=
  pe_makeX M D.ok (hr.mono hk) hg hm D.b .nil hx ha hdb he hpl
end
end Sw
set_option Elab.async false
set_option linter.all false
set_option maxRecDepth 100000
namespace Lk51
open PySem L2 Sw XH PyProof.Rows Hm
def top (i : Nat) : Stmt := PySem.Challenge.pw_stovework_k51_net_kept.main.body.getD i (.Pass ⟨0, 0, 0, 0⟩)
def clsAt (s : Stmt) (i : Nat) : Stmt := match s with | .ClassDef _ _ _ body _ _ _ _ _ _ _ => body.getD i (.Pass ⟨0, 0, 0, 0⟩) | _ => s
abbrev sis_name : Stmt := top 12
abbrev spoints_of : Stmt := top 22
abbrev scopy_of_task : Stmt := top 23
abbrev srefuse_wrong_tools : Stmt := top 24
abbrev srefuse_wrong_uses : Stmt := top 26
abbrev srefuse_wrong_tasks : Stmt := top 25
abbrev srefuse_wrong_arcs : Stmt := top 27
abbrev srefuse_wrong_pairs : Stmt := top 28
abbrev sNet_init : Stmt := clsAt (top 21) 0
abbrev s_law_cell_at : Stmt := top 30
abbrev s_law_whole : Stmt := top 31
abbrev s_law_drawn : Stmt := top 32
abbrev s_law_name : Stmt := top 33
abbrev s_law_tools : Stmt := top 34
abbrev s_law_way : Stmt := top 35
abbrev s_law_pairs : Stmt := top 37
abbrev s_law_arcs : Stmt := top 36
abbrev s_law_made : Stmt := top 38
abbrev s_law_full : Stmt := top 39
abbrev s_law_bad_way : Stmt := top 40
abbrev s_law_bad_tasks : Stmt := top 41
abbrev s_law_bad_links : Stmt := top 42
abbrev s_law_spoilt : Stmt := top 43
abbrev s_law_kept : Stmt := top 45
abbrev s_law_spill : Stmt := top 46
abbrev s_law_refused : Stmt := top 44
abbrev slaw : Stmt := top 47
structure Bn (K : PySem.W.Frag) (mg : Str → Option Value) (c_Net c_NoName c_NoNet c_NoNumber c_NoPlan c_StoveError c_TooFew c_TooMany f_Net_init : Addr) : Prop where
  g_LETTERS : ∃ t, mg "LETTERS" = some (.str "abcdefghijklmnopqrstuvwxyz" t)
  g_MOST_LETTERS : ∃ t, mg "MOST_LETTERS" = some (.int 12 t)
  g_MOST_TASKS : ∃ t, mg "MOST_TASKS" = some (.int 24 t)
  g_MOST_TOOLS : ∃ t, mg "MOST_TOOLS" = some (.int 12 t)
  g_MOST_PIECES : ∃ t, mg "MOST_PIECES" = some (.int 8 t)
  g_MOST_WAYS : ∃ t, mg "MOST_WAYS" = some (.int 2 t)
  g_MOST_MOMENTS : ∃ t, mg "MOST_MOMENTS" = some (.int 8 t)
  g_MOST_ARCS : ∃ t, mg "MOST_ARCS" = some (.int 600 t)
  g_MOST_APART : ∃ t, mg "MOST_APART" = some (.int 300 t)
  g_GREATEST : ∃ t, mg "GREATEST" = some (.int 1000000000 t)
  b_ValueError : mg "ValueError" = none
  b_abs : mg "abs" = none
  b_bool : mg "bool" = none
  b_dict : mg "dict" = none
  b_int : mg "int" = none
  b_isinstance : mg "isinstance" = none
  b_len : mg "len" = none
  b_list : mg "list" = none
  b_range : mg "range" = none
  b_reversed : mg "reversed" = none
  b_set : mg "set" = none
  b_str : mg "str" = none
  m_Net : mg "Net" = some (.ref c_Net)
  m_NoName : mg "NoName" = some (.ref c_NoName)
  m_NoNet : mg "NoNet" = some (.ref c_NoNet)
  m_NoNumber : mg "NoNumber" = some (.ref c_NoNumber)
  m_NoPlan : mg "NoPlan" = some (.ref c_NoPlan)
  m_StoveError : mg "StoveError" = some (.ref c_StoveError)
  m_TooFew : mg "TooFew" = some (.ref c_TooFew)
  m_TooMany : mg "TooMany" = some (.ref c_TooMany)
  x_NoNet : PySem.W.excIn K c_NoNet bmV "ValueError.__new__" = true
  i_NoNet : XI K c_NoNet
  t_StoveError : XT K c_StoveError
  s_NoNet_StoveError : PySem.W.subIn K (.ref c_NoNet) (.ref c_StoveError) = some true
  k_NoNet_NoPlan : PySem.W.kitOne K (.ref c_NoNet) (.ref c_NoPlan) = some false
  k_NoNet_NoName : PySem.W.kitOne K (.ref c_NoNet) (.ref c_NoName) = some false
  k_NoNet_NoNumber : PySem.W.kitOne K (.ref c_NoNet) (.ref c_NoNumber) = some false
  k_NoNet_TooMany : PySem.W.kitOne K (.ref c_NoNet) (.ref c_TooMany) = some false
  k_NoNet_TooFew : PySem.W.kitOne K (.ref c_NoNet) (.ref c_TooFew) = some false
  k_NoNet_NoNet : PySem.W.kitOne K (.ref c_NoNet) (.ref c_NoNet) = some true
  k_NoNet_ValueError : PySem.W.kitOne K (.ref c_NoNet) (.type "ValueError") = some true
  cl_Net : Cls K c_Net
  mk_Net : Mk K c_Net f_Net_init
  na_Net_tools : NoAttr K c_Net "tools"
  na_Net_tasks : NoAttr K c_Net "tasks"
  na_Net_arcs : NoAttr K c_Net "arcs"
  na_Net_apart : NoAttr K c_Net "apart"
  na_Net_moments : NoAttr K c_Net "moments"
section
variable {P : Program} {w : World} {K : PySem.W.Frag} {mg : Str → Option Value} {base : Heap} {f : Addr} {fd : FuncData} {c_Net c_NoName c_NoNet c_NoNumber c_NoPlan c_StoveError c_TooFew c_TooMany f_Net_init : Addr}
variable (B : Bn K mg c_Net c_NoName c_NoNet c_NoNumber c_NoPlan c_StoveError c_TooFew c_TooMany f_Net_init)
include B
set_option maxHeartbeats 4000000 in
theorem okis_name {dV : Value} (F : FunD K "is_name" "is_name" sis_name dV f fd)  : FnOk P w K mg base CX0 1 f fd ["thing"] (spIsName K) := by
  have sc : FnScope ["thing", "sign"] ["thing"] (defScope sis_name) := scK (by decide +kernel)
  refine F.ok sc (fun vs H Q E h => ?_) (fun cdv A outer s H vs Q E hr h => ?_)
  · obtain ⟨_, rfl, _⟩ := h
    rfl
  obtain ⟨x, rfl, h⟩ := h
  refine ⟨_, (pss_cons (ps_if (PW.pt (pw_or (pt_not (pt_val (pe_callB (call_isiT (K := K) rfl) rfl B.b_isinstance boot_isinstance (@pa_cons _ _ _ _ _ (pv 0) (@pa_cons _ _ _ _ _ (pe_bltn (v := .ty "str") rfl B.b_str boot_str rfl) pa_nil rfl) rfl)))) (pw_or (pt_cmpR op_lt (pe_callB call_len_str rfl B.b_len boot_len (@pa_cons _ _ _ _ _ (pv 0) pa_nil rfl)) pe_int (nomark _)) (pw_or1 (pt_cmpR op_gt (pe_callB call_len_str rfl B.b_len boot_len (@pa_cons _ _ _ _ _ (pv 0) pa_nil rfl)) (pe_globI rfl B.g_MOST_LETTERS) (nomark _)))))) (pss_one (ps_ret pe_bl)) pss_nil) (pss_cons (ps_for PassesOwn.never rfl (pi_str (pv 0)) (pg_name (i := 1) sc.nd rfl (Or.inl rfl)) (pss_one (ps_if (pt_cmpR op_notIn_str (pv 1) (pe_globS rfl B.g_LETTERS) (by with_unfolding_all rfl)) (pss_one (ps_ret pe_bl)) pss_nil))) (pss_one (ps_ret pe_bl)))), ?_⟩
  try dsimp only [cxK]
  rcases h with ⟨z, rfl, hz, q1, q0⟩ | ⟨ty, hty, hk, q⟩
  · have hz' : z.length ≤ sizeLine := Nat.le_trans hz (by decide)
    have hl := sL_len z
    try dsimp only [gName, tNext]
    refine cut (fun σ H' => H = H' ∧ σ = [some (.str z), none] ∧ 1 ≤ z.length ∧ z.length ≤ 12) (fun N hN => ?_) ?_
    · refine ⟨_, rfl, _, _, _, true, rfl, .str _, rfl, _, rfl, iteF ⟨_, rfl, z, rfl, hz', _, _, rfl, rfl, _, rfl, d2 (fun c => ?_) (fun c1 => ⟨_, rfl, z, rfl, hz', _, _, rfl, rfl, _, rfl, d2 (fun c => ?_) (fun c2 => ?_)⟩)⟩⟩
      · exact q0 fun n => by have := n.1; omega
      · exact q0 fun n => by have := n.2.1; omega
      · exact hN _ _ ⟨rfl, rfl, by omega, by omega⟩
    rintro σ _ ⟨rfl, rfl, l1, l2⟩
    refine ⟨_, rfl, z, rfl, for_str (fun i σ H2 => H = H2 ∧ (∃ o, σ = [some (.str z), o]) ∧ ∀ j c, j < i → z.cps[j]? = some c → 97 ≤ c ∧ c ≤ 122) ⟨rfl, ⟨_, rfl⟩, fun j c h => absurd h (by omega)⟩ (fun i c σ H2 hc hP => ?_) (fun σ H2 hP => ?_)⟩
    · obtain ⟨rfl, ⟨o, rfl⟩, hP⟩ := hP
      refine ⟨_, rfl, _, _, rfl, rfl, _, rfl, nnT (fun e => ?_) (fun e => ?_)⟩
      · have e' := (let_mem c).symm.trans e
        refine q0 fun n => ?_
        have := n.2.2 c (List.mem_of_getElem? (show (sL z)[i]? = some c by rw [← hc]; exact Array.getElem?_toList))
        rw [decide_eq_true this] at e'
        cases e'
      · have e' := (let_mem c).symm.trans e
        refine ⟨rfl, ⟨_, rfl⟩, fun j c' hj hc' => ?_⟩
        rcases Nat.lt_succ_iff_lt_or_eq.mp hj with k | k
        · exact hP j c' k hc'
        · subst k
          rw [hc] at hc'
          cases hc'
          exact of_decide_eq_true e'
    · obtain ⟨rfl, ⟨o, rfl⟩, hP⟩ := hP
      refine q1 ⟨by omega, by omega, fun c hc => ?_⟩
      obtain ⟨i, hi⟩ := List.mem_iff_getElem?.mp hc
      have hi' : z.cps[i]? = some c := by rw [← hi]; exact Array.getElem?_toList.symm
      exact hP i c (by have := (Array.getElem?_eq_some_iff.mp hi').1; exact this) hi'
  · exact ⟨_, rfl, _, _, _, false, rfl, hty, hk, _, rfl, iteT q⟩

set_option maxHeartbeats 4000000 in
theorem okpoints_of {dV : Value} (F : FunD K "points_of" "points_of" spoints_of dV f fd)  : FnOk P w K mg base CX0 1 f fd ["net"] (spPointsG c_Net) := by
  have sc : FnScope ["net"] ["net"] (defScope spoints_of) := scK (by decide +kernel)
  refine F.ok sc (fun vs H Q E h => ?_) (fun cdv A outer s H vs Q E hr h => ?_)
  · obtain ⟨_, _, _, _, _, _, _, rfl, _⟩ := h
    rfl
  obtain ⟨x, n, fz, D, T, A, B2, rfl, N, q⟩ := h
  refine ⟨_, (pss_one (ps_ret (pe_op op_add (pe_op op_mulB pe_int (pe_callB call_len_seq rfl B.b_len boot_len (@pa_cons _ _ _ _ _ (pe_fld (pv 0) rfl) pa_nil rfl))) (pe_fld (pv 0) rfl)))), ?_⟩
  try dsimp only [cxK]
  obtain ⟨dx, td, tl, al, pl, fs, e0, l1, l2, l3, l4, l5, e1, ⟨as, e2, r2⟩, e3, e4⟩ := N.ex
  refine ⟨_, rfl, x, _, dx, _, _, rfl, e0, B.cl_Net, B.na_Net_tasks, l2, tl, _, rfl, .inl (SqL.of e2), _, _, rfl, rfl, IntMulOk.of_left (by decide), _, rfl, x, _, dx, _, _, rfl, e0, B.cl_Net, B.na_Net_moments, l5, _, _, rfl, rfl, ?_⟩
  rw [r2.1]
  exact q

set_option maxHeartbeats 4000000 in
theorem okcopy_of_task {dV : Value} (F : FunD K "copy_of_task" "copy_of_task" scopy_of_task dV f fd)  : FnOk P w K mg base CX0 1 f fd ["ways"] spCopyL := by
  have sc : FnScope ["ways"] ["ways"] (defScope scopy_of_task) := scK (by decide +kernel)
  refine F.ok sc (fun vs H Q E h => ?_) (fun cdv A outer s H vs Q E hr h => ?_)
  · obtain ⟨_, _, _, rfl, _⟩ := h
    rfl
  obtain ⟨l, ws, G, rfl, sq, ⟨vs, el0, r⟩, l2, q⟩ := h
  refine ⟨_, (pss_one (ps_ret (pe_comp (own := "way") (ys := []) (js := []) rfl (cok atn .nil (by decide) rfl rfl rfl rfl rfl rfl rfl rfl) (pi_list (pv 0)) (fun C fp s H => (@pe_tup _ _ _ _ _ (@pa_cons _ _ _ _ _ (pe_ix (ix_tupB (K := K) rfl) (pv 0) pe_int (fun _ _ => rfl)) (@pa_cons _ _ _ _ _ (pe_ix (ix_tupB (K := K) rfl) (pv 0) pe_int (fun _ _ => rfl)) (@pa_cons _ _ _ _ _ (pe_callTy (call_listB (K := K) rfl) rfl B.b_list boot_list (@pa_cons _ _ _ _ _ (pe_ix (ix_tupB (K := K) rfl) (pv 0) pe_int (fun _ _ => rfl)) pa_nil rfl)) pa_nil rfl) rfl) rfl)))))), ?_⟩
  try dsimp only [cxK]
  have sl : sizeLine = 16777216 := sizeLine_eq
  have el := sq _ _ rfl el0
  refine ⟨_, rfl, l, rfl, ⟨_, SqL.of el⟩, comp_Rl (rWL G) (fun _ => False) (fun i => ws.getD i (0, 0, [])) (SqL.of el) (by rw [r.1]; omega) (fun a h => h.elim) (fun i y hy H3 g Q' hQ => ?_) fun p H' np g hp => ?_⟩
  · obtain ⟨w, hw, t, u, rfl, _, _, et, us, eu, ru⟩ := r.at_ hy
    have et3 := g _ _ (sq _ _ rfl et)
    rw [getDo hw] at hQ
    refine ⟨_, rfl, t, _, _, _, rfl, rfl, SqT.of et3, rfl, _, rfl, t, _, _, _, rfl, rfl, SqT.of et3, rfl, _, rfl, t, _, _, _, rfl, rfl, SqT.of et3, rfl, u, us, rfl, .inl (SqL.of (g _ _ (sq _ _ rfl eu))), fun u' nu => ⟨(by show 3 ≤ sizeLine; decide), fun t' nt => ?_⟩⟩
    have g1 := same_new nu (.lst us)
    have g2 := same_new nt (.tup [.int w.1, .int w.2.1, .ref u'])
    exact hQ _ _ (g1.trans g2) ⟨t', u', rfl, .inl (g1.free nt), .inl nu, upd_same, us, g2 _ _ upd_same, ru⟩
  · rw [rng_getD' ws (0, 0, []) r.1] at hp
    exact q p H' g np ⟨p, rfl, np, hp.mono fun a h => h.2.elim id False.elim⟩

set_option maxHeartbeats 4000000 in
theorem okrefuse_wrong_tools {dV : Value} (F : FunD K "refuse_wrong_tools" "refuse_wrong_tools" srefuse_wrong_tools dV f fd) (Dis_name : Dx P w K mg base CX0 1 "is_name" ["thing"] [] (spIsName K)) : FnOk P w K mg base (CX1 P w) 2 f fd ["tools"] (spRToolsX c_NoNet) := by
  have sc : FnScope ["tools", "tool", "many"] ["tools"] (defScope srefuse_wrong_tools) := scK (by decide +kernel)
  refine F.okX sc (fun vs H Q E h => ?_) (fun cdv A outer s H vs Q E hr h => ?_)
  · obtain ⟨_, _, rfl, _⟩ := h
    rfl
  obtain ⟨td, D, rfl, e, zl, kt, kf⟩ := h
  refine ⟨_, (pss_cons (ps_if (pt_cmpR op_gt (pe_callB call_lenD1 rfl B.b_len boot_len (@pa_cons _ _ _ _ _ (pv 0) pa_nil rfl)) (pe_globI rfl B.g_MOST_TOOLS) (nomark _)) (pss_one (ps_raise B.x_NoNet rfl B.m_NoNet rfl passX (@pa_cons _ _ _ _ _ pe_str pa_nil rfl))) pss_nil) (pss_one (ps_unf (ps_for (own_XS rfl rfl) rfl (pi_items (pe_bm0 PySem.F.plainAttrs_dict PySem.F.slot_dict_items PySem.F.type_dict_items mt_items (pv 0))) (pg_tup rfl (pgs_cons (pg_name (i := 1) sc.nd rfl (Or.inl rfl)) (pgs_cons (pg_name (i := 2) sc.nd rfl (Or.inl rfl)) pgs_nil))) (pss_cons (ps_if (pt_not (pt_val (pcall0 Dis_name hr (by decide) rfl (@pa_cons _ _ _ _ _ (pv 1) pa_nil rfl)))) (pss_one (ps_raise B.x_NoNet rfl B.m_NoNet rfl passX (@pa_cons _ _ _ _ _ pe_str pa_nil rfl))) pss_nil) (pss_one (ps_if (pt_not (pt_chain op_le op_le pe_int (pv 2) (pe_globI rfl B.g_MOST_PIECES))) (pss_one (ps_raise B.x_NoNet rfl B.m_NoNet rfl passX (@pa_cons _ _ _ _ _ pe_str pa_nil rfl))) pss_nil))))))), ?_⟩
  try dsimp only [cxK]
  refine ⟨_, rfl, td, _, rfl, e, _, _, rfl, rfl, _, rfl, d2 (fun hl => ?_) fun hl => ?_⟩
  · exact ⟨by show 1 ≤ sizeLine; decide, kf (fun z => by have := z.1; rw [toolK_len] at hl; omega) _ fun _ _ _ e => e⟩
  have l12 : D.length ≤ 12 := by rw [toolK_len] at hl; omega
  refine ⟨_, rfl, .inr (.inr (.inl ⟨rfl, .inl ⟨_, e⟩⟩)), td, _, rfl, rfl, e, fun v nv => ?_⟩
  have g := same_new nv (.ext fun h => h.IsItemsView v td)
  refine ⟨v, td, _, rfl, upd_same, g _ _ e, fun o nf => ?_⟩
  have e1 := g _ _ e
  generalize upd H v (.ext fun h => h.IsItemsView v td) = H1 at g e1 ⊢
  have ef : upd H1 td (.frz o (.dK (toolK D))) td = some (.frz o (.dK (toolK D))) := upd_same
  refine for_items (fun i σ H' => Same (upd H1 td (.frz o (.dK (toolK D)))) H' ∧ (∃ o1 o2 : Option V, σ = [some (.ref td), o1, o2]) ∧ ∀ (j : Nat) p, j < i → D[j]? = some p → Nm p.1 ∧ 1 ≤ p.2 ∧ p.2 ≤ 8) ⟨.refl _, ⟨none, none, rfl⟩, fun j x h => absurd h (Nat.not_lt_zero _)⟩ (fun i σ H' _ h => h.1 _ _ ef) ?_ ?_
  · rintro i k y σ H2 T' hk ⟨g2, ⟨o1, o2, rfl⟩, hP⟩ nt0
    obtain ⟨p, hp, rfl, rfl⟩ := toolK_at hk
    have mem := List.mem_of_getElem? hp
    have g3 := g2.trans (same_new nt0 (.tup [kV (.inr p.1), .int p.2]))
    have fx : Fx td H (upd H2 T' (.tup [kV (.inr p.1), .int p.2])) := fun a o na ea => g3 _ _ (by rw [upd_ne na]; exact g _ _ ea)
    refine ⟨T', _, rfl, SqT.of upd_same, rfl, _, _, rfl, _, _, rfl, rfl, ?_⟩
    refine ⟨_, rfl, _, rfl, .inl ⟨p.1, rfl, zl p mem, fun n1 => ⟨_, rfl, iteF ?_⟩, fun n => ⟨_, rfl, iteT ⟨by show 1 ≤ sizeLine; decide, kf (fun z => n (z.2 p mem).1) _ fx⟩⟩⟩⟩
    refine ⟨_, rfl, _, _, rfl, rfl, _, rfl, d2 (fun n2 => ?_) fun n => ?_⟩
    · refine ⟨_, _, rfl, rfl, _, rfl, ?_⟩
      by_cases n3 : p.2 ≤ 8
      · exact nF n3 ⟨g3, ⟨_, _, rfl⟩, till hP hp ⟨n1, n2, n3⟩⟩
      · exact nT n3 ⟨by show 1 ≤ sizeLine; decide, kf (fun z => n3 (z.2 p mem).2.2) _ fx⟩
    · exact ⟨_, rfl, iteT ⟨by show 1 ≤ sizeLine; decide, kf (fun z => n (z.2 p mem).2.1) _ fx⟩⟩
  · rintro σ H2 ⟨g2, ⟨o1, o2, rfl⟩, hP⟩
    exact ⟨td, o, _, g2 _ _ ef, nf, kt ⟨l12, till_all (by rw [toolK_len]; exact Nat.le_refl _) hP⟩ _ (g.trans (thaw_same e1 g2))⟩

set_option maxHeartbeats 4000000 in
theorem okrefuse_wrong_uses {dV : Value} (F : FunD K "refuse_wrong_uses" "refuse_wrong_uses" srefuse_wrong_uses dV f fd)  : FnOk P w K mg base (CX1 P w) 1 f fd ["uses", "tools"] (spRUsesX c_NoNet) := by
  have sc : FnScope ["uses", "tools", "use"] ["uses", "tools"] (defScope srefuse_wrong_uses) := scK (by decide +kernel)
  refine F.okX sc (fun vs H Q E h => ?_) (fun cdv A outer s H vs Q E hr h => ?_)
  · obtain ⟨_, _, _, _, rfl, _⟩ := h
    rfl
  obtain ⟨u, td, D, us, rfl, ⟨vs, eu, ru⟩, ed, l100, kt, kf⟩ := h
  refine ⟨_, (pss_cons (ps_if (pt_cmpR op_ne (pe_lenSetT rfl rfl B.b_len rfl B.b_set PyProof.Rows.Boot.«len» PyProof.Rows.Boot.«set» (pe_comp (own := "use") (ys := []) (js := []) rfl (cok atn .nil (by decide) rfl rfl rfl rfl rfl rfl rfl rfl) (pi_list (pv 0)) (fun C fp s H => (pe_ix (ix_tupB (K := K) rfl) (pv 0) pe_int (fun _ _ => rfl))))) (pe_callB call_len_seq rfl B.b_len boot_len (@pa_cons _ _ _ _ _ (pv 0) pa_nil rfl)) (nomark _)) (pss_one (ps_raise B.x_NoNet rfl B.m_NoNet rfl passX (@pa_cons _ _ _ _ _ pe_str pa_nil rfl))) pss_nil) (pss_one (ps_for (own_XS rfl rfl) rfl (pi_list (pv 0)) (pg_name (i := 2) sc.nd rfl (Or.inl rfl)) (pss_cons (ps_if (pt_cmp (pc_dnotin (hu_of hr) (pe_ix ix_tup (pv 2) pe_int (fun _ _ => rfl)) (pv 1)) (by with_unfolding_all rfl)) (pss_one (ps_raise B.x_NoNet rfl B.m_NoNet rfl passX (@pa_cons _ _ _ _ _ pe_str pa_nil rfl))) pss_nil) (pss_cons (ps_if (pt_not (pt_chain op_le op_le pe_int (pe_ix ix_tup (pv 2) pe_int (fun _ _ => rfl)) (pe_dget (hu_of hr) (pv 1) (pe_ix ix_tup (pv 2) pe_int (fun _ _ => rfl)) (fun _ _ => rfl)))) (pss_one (ps_raise B.x_NoNet rfl B.m_NoNet rfl passX (@pa_cons _ _ _ _ _ pe_str pa_nil rfl))) pss_nil) (pss_one (ps_if (pt_not (pt_chain op_le op_le pe_int (pe_ix ix_tup (pv 2) pe_int (fun _ _ => rfl)) (pe_globI rfl B.g_GREATEST))) (pss_one (ps_raise B.x_NoNet rfl B.m_NoNet rfl passX (@pa_cons _ _ _ _ _ pe_str pa_nil rfl))) pss_nil))))))), ?_⟩
  try dsimp only [cxK]
  have sl : sizeLine = 16777216 := sizeLine_eq
  refine ⟨_, rfl, u, rfl, ⟨_, SqL.of eu⟩, comp_Rl (rVal V.str) (fun _ => False) (fun i => (us.getD i ("", 0, 0)).1) (SqL.of eu) (by rw [ru.1]; omega) (fun a h => h.elim) (fun i y hy H3 g Q' hQ => ?_) fun p H' np g hp => ?_⟩
  · obtain ⟨e, he, t, rfl, _, et⟩ := ru.at_ hy
    rw [getDo he] at hQ
    exact ⟨_, rfl, t, _, _, _, rfl, rfl, SqT.of (g _ _ et), rfl, hQ _ _ (.refl _) rfl⟩
  obtain ⟨ps, ep, rp⟩ := hp
  have e1 : ps = (us.map (·.1)).map V.str := by
    rw [rp.val, List.map_map]
    conv => rhs; rw [← rng_getD us ("", 0, 0), List.map_map, ← ru.1]
    rw [List.map_map]
    rfl
  rw [e1] at ep
  refine ⟨p, us.map (·.1), rfl, SqL.of ep, by rw [List.length_map]; omega, _, rfl, u, _, rfl, .inl (SqL.of (g _ _ eu)), rfl, _, rfl, ?_⟩
  by_cases nd : (us.map (·.1)).Nodup
  rotate_left
  · exact nTI (fun e => nd (set_len.mp (by rw [List.length_map]; have := ru.1; omega))) ⟨by show 1 ≤ sizeLine; decide, kf (fun z => nd z.1) _ g⟩
  refine nFI (by have := set_len.mpr nd; rw [List.length_map] at this; have := ru.1; omega) ?_
  clear ep rp e1
  refine ⟨_, rfl, u, rfl, ⟨_, SqL.of (g _ _ eu)⟩, for_list (xs := vs) (fun i σ H2 => H' = H2 ∧ (∃ o2 : Option V, σ = [some (.ref u), some (.ref td), o2]) ∧ ∀ (j : Nat) k, j < i → us[j]? = some k → UOk D k) ⟨rfl, ⟨none, rfl⟩, fun j x h => absurd h (Nat.not_lt_zero _)⟩ (fun i σ H2 _ h => by rw [← h.1]; exact SqL.of (g _ _ eu)) ?_ ?_⟩
  · rintro i y σ H2 hy ⟨rfl, ⟨o2, rfl⟩, hP⟩
    obtain ⟨e, he, t, rfl, _, et⟩ := ru.at_ hy
    have et' := g _ _ et
    have bad : ∀ (_ : ¬ UOk D e), ¬ UsOk D us := fun n z => n (z.2.2 e (List.mem_of_getElem? he))
    have rd : Rd H' td (.dK (toolK D)) := ed.elim (fun e => .inl (g _ _ e)) fun ⟨o, e⟩ => .inr ⟨o, g _ _ e⟩
    cases hm : manyOf D e.1 with
    | none =>
      refine ⟨_, rfl, t, _, _, _, rfl, rfl, SqT.of et', rfl, _, rfl, td, _, rfl, dgNot rd hm, _, rfl, iteT ⟨by show 1 ≤ sizeLine; decide, kf (bad fun z => by obtain ⟨m, z, _⟩ := z; rw [hm] at z; cases z) _ g⟩⟩
    | some m =>
      have dg := dgTool rd hm
      have bad2 : ∀ (_ : ¬ (1 ≤ e.2.1 ∧ e.2.1 ≤ m ∧ 0 ≤ e.2.2 ∧ e.2.2 ≤ 1000000000)), ¬ UsOk D us := fun n => bad fun z => n (by obtain ⟨m', z, z1⟩ := z; rw [hm] at z; cases z; exact z1)
      refine ⟨_, rfl, t, _, _, _, rfl, rfl, SqT.of et', rfl, _, rfl, td, _, rfl, dg, _, rfl, iteF ?_⟩
      refine ⟨_, rfl, t, _, _, _, rfl, rfl, SqT.of et', rfl, _, _, rfl, rfl, _, rfl, d2 (fun k1 => ?_) fun n => ?_⟩
      rotate_left
      · exact ⟨_, rfl, iteT ⟨by show 1 ≤ sizeLine; decide, kf (bad2 fun z => n z.1) _ g⟩⟩
      refine ⟨_, rfl, _, rfl, t, _, _, _, rfl, rfl, SqT.of et', rfl, td, _, rfl, dg, _, _, rfl, rfl, _, rfl, ?_⟩
      by_cases k2 : e.2.1 ≤ m
      rotate_left
      · exact nT k2 ⟨by show 1 ≤ sizeLine; decide, kf (bad2 fun z => k2 z.2.1) _ g⟩
      refine nF k2 ⟨_, rfl, t, _, _, _, rfl, rfl, SqT.of et', rfl, _, _, rfl, rfl, _, rfl, d2 (fun k3 => ?_) fun n => ?_⟩
      rotate_left
      · exact ⟨_, rfl, iteT ⟨by show 1 ≤ sizeLine; decide, kf (bad2 fun z => n z.2.2.1) _ g⟩⟩
      refine ⟨_, _, rfl, rfl, _, rfl, ?_⟩
      by_cases k4 : e.2.2 ≤ 1000000000
      · exact nF k4 ⟨rfl, ⟨_, rfl⟩, till hP he ⟨m, hm, k1, k2, k3, k4⟩⟩
      · exact nT k4 ⟨by show 1 ≤ sizeLine; decide, kf (bad2 fun z => k4 z.2.2.2) _ g⟩
  · rintro σ H2 ⟨rfl, ⟨o2, rfl⟩, hP⟩
    exact kt ⟨nd, l100, till_all (Nat.le_of_eq ru.1.symm) hP⟩ _ g

set_option maxHeartbeats 4000000 in
theorem okrefuse_wrong_tasks {dV : Value} (F : FunD K "refuse_wrong_tasks" "refuse_wrong_tasks" srefuse_wrong_tasks dV f fd) (Xrefuse_wrong_uses : Dx P w K mg base (CX1 P w) 1 "refuse_wrong_uses" ["uses", "tools"] [] (spRUsesX c_NoNet)) : FnOk P w K mg base (CX1 P w) 2 f fd ["tasks", "tools"] (spRTasksX c_NoNet) := by
  have sc : FnScope ["tasks", "tools", "ways", "way"] ["tasks", "tools"] (defScope srefuse_wrong_tasks) := scK (by decide +kernel)
  refine F.okX sc (fun vs H Q E h => ?_) (fun cdv A outer s H vs Q E hr h => ?_)
  · obtain ⟨_, _, _, _, rfl, _⟩ := h
    rfl
  obtain ⟨tl, td, D, T, rfl, ⟨as, el, r⟩, ed, few, kt, kf⟩ := h
  refine ⟨_, (pss_cons (ps_if (pt_cmpR op_gt (pe_callB call_len_seq rfl B.b_len boot_len (@pa_cons _ _ _ _ _ (pv 0) pa_nil rfl)) (pe_globI rfl B.g_MOST_TASKS) (nomark _)) (pss_one (ps_raise B.x_NoNet rfl B.m_NoNet rfl passX (@pa_cons _ _ _ _ _ pe_str pa_nil rfl))) pss_nil) (pss_one (ps_for (own_XS rfl rfl) rfl (pi_list (pv 0)) (pg_name (i := 2) sc.nd rfl (Or.inl rfl)) (pss_cons (ps_if (pt_not (pt_chain op_le op_le pe_int (pe_callB call_len_seq rfl B.b_len boot_len (@pa_cons _ _ _ _ _ (pv 2) pa_nil rfl)) (pe_globI rfl B.g_MOST_WAYS))) (pss_one (ps_raise B.x_NoNet rfl B.m_NoNet rfl passX (@pa_cons _ _ _ _ _ pe_str pa_nil rfl))) pss_nil) (pss_one (ps_for (own_XS rfl rfl) rfl (pi_list (pv 2)) (pg_name (i := 3) sc.nd rfl (Or.inl rfl)) (pss_cons (ps_if (pt_not (pt_chain3 op_le op_le op_le pe_int (pe_ix ix_tup (pv 3) pe_int (fun _ _ => rfl)) (pe_ix ix_tup (pv 3) pe_int (fun _ _ => rfl)) (pe_globI rfl B.g_GREATEST))) (pss_one (ps_raise B.x_NoNet rfl B.m_NoNet rfl passX (@pa_cons _ _ _ _ _ pe_str pa_nil rfl))) pss_nil) (pss_one (ps_expr (pcall1 Xrefuse_wrong_uses hr (by decide) rfl passX (@pa_cons _ _ _ _ _ (pe_ix ix_tup (pv 3) pe_int (fun _ _ => rfl)) (@pa_cons _ _ _ _ _ (pv 1) pa_nil rfl) rfl))))))))))), ?_⟩
  try dsimp only [cxK]
  have ll : as.length = T.length := r.1
  refine ⟨_, rfl, tl, _, rfl, .inl (SqL.of el), _, _, rfl, rfl, _, rfl, d2 (fun hl => ?_) fun hl => ?_⟩
  · exact ⟨(by show 1 ≤ sizeLine; decide), kf (fun z => by have := z.1; rw [ll] at hl; omega) _ fun _ _ e => e⟩
  have l24 : T.length ≤ 24 := by rw [ll] at hl; omega
  refine ⟨_, rfl, tl, rfl, ⟨_, SqL.of el⟩, for_list (xs := as) (fun i σ H' => Same H H' ∧ (∃ o2 o3 : Option V, σ = [some (.ref tl), some (.ref td), o2, o3]) ∧ ∀ (j : Nat) ws, j < i → T[j]? = some ws → WsOk D ws) ⟨.refl _, ⟨none, none, rfl⟩, fun j x h => absurd h (Nat.not_lt_zero _)⟩ (fun i σ H' _ h => SqL.of (h.1 _ _ el)) ?_ ?_⟩
  · rintro i y σ H1 hy ⟨g1, ⟨o2, o3, rfl⟩, hP⟩
    obtain ⟨ws, hw, wl, rfl, _, ts, ets0, rt0⟩ := r.at_ hy
    have ets := g1 _ _ ets0
    have rt := rt0.imp fun _ _ q => mvS q g1
    have bad : ∀ (_ : ¬ WsOk D ws), ¬ (T.length ≤ 24 ∧ ∀ ws ∈ T, WsOk D ws) := fun n z => n (z.2 ws (List.mem_of_getElem? hw))
    have fw := few ws (List.mem_of_getElem? hw)
    have lw : ts.length = ws.length := rt.1
    refine ⟨_, rfl, wl, _, rfl, .inl (SqL.of ets), _, _, rfl, rfl, _, rfl, d2 (fun w1 => ?_) fun n => ?_⟩
    rotate_left
    · exact ⟨_, rfl, iteT ⟨(by show 1 ≤ sizeLine; decide), kf (bad fun z => n (by rw [lw]; have := z.1; omega)) _ g1⟩⟩
    refine ⟨_, _, rfl, rfl, _, rfl, ?_⟩
    by_cases w2 : (ts.length : Int) ≤ 2
    rotate_left
    · exact nT w2 ⟨(by show 1 ≤ sizeLine; decide), kf (bad fun z => w2 (by rw [lw]; have := z.2.1; omega)) _ g1⟩
    refine nF w2 ?_
    rw [lw] at w1 w2
    refine ⟨_, rfl, wl, rfl, ⟨_, SqL.of ets⟩, for_list (xs := ts) (fun j σ H' => Same H H' ∧ Same H1 H' ∧ (∃ o3 : Option V, σ = [some (.ref tl), some (.ref td), some (.ref wl), o3]) ∧ ∀ (j' : Nat) w, j' < j → ws[j']? = some w → 1 ≤ w.1 ∧ w.1 ≤ w.2.1 ∧ w.2.1 ≤ 1000000000 ∧ UsOk D w.2.2) ⟨g1, .refl _, ⟨o3, rfl⟩, fun j x h => absurd h (Nat.not_lt_zero _)⟩ (fun j σ H' _ h => SqL.of (h.2.1 _ _ ets)) ?_ ?_⟩
    · rintro j z σ H2 hz ⟨g2, g12, ⟨o3, rfl⟩, hW⟩
      obtain ⟨w, hw2, t, u, rfl, _, _, et0, lu0⟩ := rt.at_ hz
      have et := g12 _ _ et0
      have bad2 : ∀ (_ : ¬ (1 ≤ w.1 ∧ w.1 ≤ w.2.1 ∧ w.2.1 ≤ 1000000000 ∧ UsOk D w.2.2)), ¬ (T.length ≤ 24 ∧ ∀ ws ∈ T, WsOk D ws) := fun n => bad fun z => n (z.2.2 w (List.mem_of_getElem? hw2))
      refine ⟨_, rfl, t, _, _, _, rfl, rfl, SqT.of et, rfl, _, _, rfl, rfl, _, rfl, d2 (fun w1 => ?_) fun n => ?_⟩
      rotate_left
      · exact ⟨_, rfl, iteT ⟨(by show 1 ≤ sizeLine; decide), kf (bad2 fun z => n z.1) _ g2⟩⟩
      refine ⟨_, rfl, t, _, _, _, rfl, rfl, SqT.of et, rfl, _, _, rfl, rfl, _, rfl, d2 (fun w2 => ?_) fun n => ?_⟩
      rotate_left
      · exact ⟨_, rfl, iteT ⟨(by show 1 ≤ sizeLine; decide), kf (bad2 fun z => n z.2.1) _ g2⟩⟩
      refine ⟨_, _, rfl, rfl, _, rfl, ?_⟩
      by_cases w3 : w.2.1 ≤ 1000000000
      rotate_left
      · exact nT w3 ⟨(by show 1 ≤ sizeLine; decide), kf (bad2 fun z => w3 z.2.2.1) _ g2⟩
      refine nF w3 ?_
      exact ⟨_, rfl, t, _, _, _, rfl, rfl, SqT.of et, rfl, _, rfl, u, td, D, w.2.2, rfl, lu0.same g12, .inl (g2 _ _ ed), fw w (List.mem_of_getElem? hw2), fun w4 H3 g3 => ⟨g2.trans g3, g12.trans g3, ⟨_, rfl⟩, till hW hw2 ⟨w1, w2, w3, w4⟩⟩, fun n H3 g3 => kf (bad2 fun z => n z.2.2.2) _ (g2.trans g3)⟩
    · rintro σ H2 ⟨g2, _, ⟨o3, rfl⟩, hW⟩
      exact ⟨g2, ⟨_, _, rfl⟩, till hP hw ⟨by omega, by omega, till_all (Nat.le_of_eq lw.symm) hW⟩⟩
  · rintro σ H1 ⟨g1, ⟨o2, o3, rfl⟩, hP⟩
    exact kt l24 (till_all (Nat.le_of_eq ll.symm) hP) _ g1

set_option maxHeartbeats 4000000 in
theorem okrefuse_wrong_arcs {dV : Value} (F : FunD K "refuse_wrong_arcs" "refuse_wrong_arcs" srefuse_wrong_arcs dV f fd)  : FnOk P w K mg base (CX1 P w) 1 f fd ["arcs", "points"] (spRArcsX c_NoNet) := by
  have sc : FnScope ["arcs", "points", "arc"] ["arcs", "points"] (defScope srefuse_wrong_arcs) := scK (by decide +kernel)
  refine F.okX sc (fun vs H Q E h => ?_) (fun cdv A outer s H vs Q E hr h => ?_)
  · obtain ⟨_, _, _, rfl, _⟩ := h
    rfl
  obtain ⟨al, m, A2, rfl, ⟨as, el, r⟩, two, kt, kf⟩ := h
  refine ⟨_, (pss_cons (ps_if (pt_cmpR op_gt (pe_callB call_len_seq rfl B.b_len boot_len (@pa_cons _ _ _ _ _ (pv 0) pa_nil rfl)) (pe_globI rfl B.g_MOST_ARCS) (nomark _)) (pss_one (ps_raise B.x_NoNet rfl B.m_NoNet rfl passX (@pa_cons _ _ _ _ _ pe_str pa_nil rfl))) pss_nil) (pss_one (ps_for (own_XS rfl rfl) rfl (pi_list (pv 0)) (pg_name (i := 2) sc.nd rfl (Or.inl rfl)) (pss_cons (ps_if (pt_not (PW.pt (pw_and (pt_chain op_le op_lt pe_int (pe_ix ix_tup (pv 2) pe_int (fun _ _ => rfl)) (pv 1)) (pw_and1 (pt_chain op_le op_lt pe_int (pe_ix ix_tup (pv 2) pe_int (fun _ _ => rfl)) (pv 1)))))) (pss_one (ps_raise B.x_NoNet rfl B.m_NoNet rfl passX (@pa_cons _ _ _ _ _ pe_str pa_nil rfl))) pss_nil) (pss_one (ps_if (pt_cmpR op_gt (pe_callB call_abs rfl B.b_abs boot_abs (@pa_cons _ _ _ _ _ (pe_ix ix_tup (pv 2) pe_int (fun _ _ => rfl)) pa_nil rfl)) (pe_globI rfl B.g_GREATEST) (nomark _)) (pss_one (ps_raise B.x_NoNet rfl B.m_NoNet rfl passX (@pa_cons _ _ _ _ _ pe_str pa_nil rfl))) pss_nil)))))), ?_⟩
  try dsimp only [cxK]
  have ll : (as.map V.ref).length = A2.length := by rw [List.length_map]; exact r.1
  refine ⟨_, rfl, al, _, rfl, .inl (SqL.of el), _, _, rfl, rfl, _, rfl, d2 (fun hl => ?_) (fun hl => ?_)⟩
  · exact ⟨by show 1 ≤ sizeLine; decide, kf (fun z => by have := z.1; rw [ll] at hl; omega) _ fun _ _ e => e⟩
  have l3 : A2.length ≤ 600 := by rw [ll] at hl; omega
  refine ⟨_, rfl, al, rfl, ⟨_, SqL.of el⟩, for_list (xs := as.map V.ref) (fun i σ H' => H = H' ∧ (∃ o2 : Option V, σ = [some (.ref al), some (.int m), o2]) ∧ ∀ (j : Nat) k, j < i → A2[j]? = some k → ArOk m k) ⟨rfl, ⟨none, rfl⟩, fun j x h => absurd h (Nat.not_lt_zero _)⟩ (fun i σ H' _ h => by rw [← h.1]; exact SqL.of el) ?_ ?_⟩
  · rintro i y σ H1 hy ⟨rfl, ⟨o2, rfl⟩, hP⟩
    obtain ⟨t, ht, rfl⟩ := refs_at hy
    have il : i < A2.length := by rw [← r.1]; exact (List.getElem?_eq_some_iff.mp ht).1
    have ei := List.getElem?_eq_getElem il
    have et := r.2 i t _ ht ei
    have mem := List.getElem_mem il
    obtain ⟨a, b, g, e⟩ := two _ mem
    rw [e] at et
    have bad : ∀ (_ : ¬ (0 ≤ a ∧ a < m ∧ 0 ≤ b ∧ b < m ∧ -1000000000 ≤ g ∧ g ≤ 1000000000)), ¬ (A2.length ≤ 600 ∧ ∀ k ∈ A2, ArOk m k) := fun n z => n (by
      obtain ⟨p, q, h, e1, z1⟩ := z.2 _ mem
      rw [e] at e1; cases e1; exact z1)
    refine ⟨_, rfl, t, _, _, _, rfl, rfl, SqT.of et, rfl, _, _, rfl, rfl, _, rfl, d2 (fun a0 => ?_) fun n => ?_⟩
    · refine ⟨_, rfl, _, _, rfl, rfl, _, rfl, d2 (fun a1 => ?_) fun n => ?_⟩
      · refine ⟨_, rfl, t, _, _, _, rfl, rfl, SqT.of et, rfl, _, _, rfl, rfl, _, rfl, d2 (fun b0 => ?_) fun n => ?_⟩
        · refine ⟨_, rfl, _, _, rfl, rfl, _, rfl, ?_⟩
          by_cases b1 : b < m
          · refine nF b1 ⟨_, rfl, t, _, _, _, rfl, rfl, SqT.of et, rfl, g, rfl, _, _, rfl, rfl, _, rfl, d2 (fun ab => ?_) fun ab => ?_⟩
            · exact ⟨by show 1 ≤ sizeLine; decide, kf (bad fun z => by have := z.2.2.2.2; split at ab <;> omega) _ fun _ _ e => e⟩
            · exact ⟨rfl, ⟨_, rfl⟩, till hP ei ⟨a, b, g, e, a0, a1, b0, b1, by split at ab <;> omega, by split at ab <;> omega⟩⟩
          · exact nT b1 ⟨by show 1 ≤ sizeLine; decide, kf (bad fun z => b1 z.2.2.2.1) _ fun _ _ e => e⟩
        · exact ⟨_, rfl, iteT ⟨by show 1 ≤ sizeLine; decide, kf (bad fun z => n z.2.2.1) _ fun _ _ e => e⟩⟩
      · exact iteT ⟨by show 1 ≤ sizeLine; decide, kf (bad fun z => n z.2.1) _ fun _ _ e => e⟩
    · exact ⟨_, rfl, by show 1 ≤ sizeLine; decide, kf (bad fun z => n z.1) _ fun _ _ e => e⟩
  · rintro σ H1 ⟨rfl, ⟨o2, rfl⟩, hP⟩
    exact kt l3 (till_all (by rw [ll]; exact Nat.le_refl _) hP)

set_option maxHeartbeats 4000000 in
theorem okrefuse_wrong_pairs {dV : Value} (F : FunD K "refuse_wrong_pairs" "refuse_wrong_pairs" srefuse_wrong_pairs dV f fd)  : FnOk P w K mg base (CX1 P w) 1 f fd ["pairs", "many"] (spRPairsX c_NoNet) := by
  have sc : FnScope ["pairs", "many", "pair"] ["pairs", "many"] (defScope srefuse_wrong_pairs) := scK (by decide +kernel)
  refine F.okX sc (fun vs H Q E h => ?_) (fun cdv A outer s H vs Q E hr h => ?_)
  · obtain ⟨_, _, _, rfl, _⟩ := h
    rfl
  obtain ⟨pl, m, B2, rfl, ⟨as, el, r⟩, two, kt, kf⟩ := h
  refine ⟨_, (pss_cons (ps_if (pt_cmpR op_gt (pe_callB call_len_seq rfl B.b_len boot_len (@pa_cons _ _ _ _ _ (pv 0) pa_nil rfl)) (pe_globI rfl B.g_MOST_APART) (nomark _)) (pss_one (ps_raise B.x_NoNet rfl B.m_NoNet rfl passX (@pa_cons _ _ _ _ _ pe_str pa_nil rfl))) pss_nil) (pss_one (ps_for (own_XS rfl rfl) rfl (pi_list (pv 0)) (pg_name (i := 2) sc.nd rfl (Or.inl rfl)) (pss_cons (ps_if (pt_not (PW.pt (pw_and (pt_chain op_le op_lt pe_int (pe_ix ix_tup (pv 2) pe_int (fun _ _ => rfl)) (pv 1)) (pw_and1 (pt_chain op_le op_lt pe_int (pe_ix ix_tup (pv 2) pe_int (fun _ _ => rfl)) (pv 1)))))) (pss_one (ps_raise B.x_NoNet rfl B.m_NoNet rfl passX (@pa_cons _ _ _ _ _ pe_str pa_nil rfl))) pss_nil) (pss_one (ps_if (pt_cmpR op_eq (pe_ix ix_tup (pv 2) pe_int (fun _ _ => rfl)) (pe_ix ix_tup (pv 2) pe_int (fun _ _ => rfl)) (nomark _)) (pss_one (ps_raise B.x_NoNet rfl B.m_NoNet rfl passX (@pa_cons _ _ _ _ _ pe_str pa_nil rfl))) pss_nil)))))), ?_⟩
  try dsimp only [cxK]
  have ll : (as.map V.ref).length = B2.length := by rw [List.length_map]; exact r.1
  refine ⟨_, rfl, pl, _, rfl, .inl (SqL.of el), _, _, rfl, rfl, _, rfl, d2 (fun hl => ?_) (fun hl => ?_)⟩
  · exact ⟨by show 1 ≤ sizeLine; decide, kf (fun z => by have := z.1; rw [ll] at hl; omega) _ fun _ _ e => e⟩
  have l3 : B2.length ≤ 300 := by rw [ll] at hl; omega
  refine ⟨_, rfl, pl, rfl, ⟨_, SqL.of el⟩, for_list (xs := as.map V.ref) (fun i σ H' => H = H' ∧ (∃ o2 : Option V, σ = [some (.ref pl), some (.int m), o2]) ∧ ∀ (j : Nat) k, j < i → B2[j]? = some k → PrOk m k) ⟨rfl, ⟨none, rfl⟩, fun j x h => absurd h (Nat.not_lt_zero _)⟩ (fun i σ H' _ h => by rw [← h.1]; exact SqL.of el) ?_ ?_⟩
  · rintro i y σ H1 hy ⟨rfl, ⟨o2, rfl⟩, hP⟩
    obtain ⟨t, ht, rfl⟩ := refs_at hy
    have il : i < B2.length := by rw [← r.1]; exact (List.getElem?_eq_some_iff.mp ht).1
    have ei := List.getElem?_eq_getElem il
    have et := r.2 i t _ ht ei
    have mem := List.getElem_mem il
    obtain ⟨a, b, e⟩ := two _ mem
    rw [e] at et
    have bad : ∀ (_ : ¬ (0 ≤ a ∧ a < m ∧ 0 ≤ b ∧ b < m ∧ a ≠ b)), ¬ (B2.length ≤ 300 ∧ ∀ k ∈ B2, PrOk m k) := fun n z => n (by
      obtain ⟨p, q, e1, z1⟩ := z.2 _ mem
      rw [e] at e1; cases e1; exact z1)
    refine ⟨_, rfl, t, _, _, _, rfl, rfl, SqT.of et, rfl, _, _, rfl, rfl, _, rfl, d2 (fun a0 => ?_) fun n => ?_⟩
    · refine ⟨_, rfl, _, _, rfl, rfl, _, rfl, d2 (fun a1 => ?_) fun n => ?_⟩
      · refine ⟨_, rfl, t, _, _, _, rfl, rfl, SqT.of et, rfl, _, _, rfl, rfl, _, rfl, d2 (fun b0 => ?_) fun n => ?_⟩
        · refine ⟨_, rfl, _, _, rfl, rfl, _, rfl, ?_⟩
          by_cases b1 : b < m
          · refine nF b1 ⟨_, rfl, t, _, _, _, rfl, rfl, SqT.of et, rfl, _, rfl, t, _, _, _, rfl, rfl, SqT.of et, rfl, rfl, _, rfl, d2I (fun ab => ?_) fun ab => ?_⟩
            · exact ⟨by show 1 ≤ sizeLine; decide, kf (bad fun z => z.2.2.2.2 ab) _ fun _ _ e => e⟩
            · exact ⟨rfl, ⟨_, rfl⟩, till hP ei ⟨a, b, e, a0, a1, b0, b1, ab⟩⟩
          · exact nT b1 ⟨by show 1 ≤ sizeLine; decide, kf (bad fun z => b1 z.2.2.2.1) _ fun _ _ e => e⟩
        · exact ⟨_, rfl, iteT ⟨by show 1 ≤ sizeLine; decide, kf (bad fun z => n z.2.2.1) _ fun _ _ e => e⟩⟩
      · exact iteT ⟨by show 1 ≤ sizeLine; decide, kf (bad fun z => n z.2.1) _ fun _ _ e => e⟩
    · exact ⟨_, rfl, by show 1 ≤ sizeLine; decide, kf (bad fun z => n z.1) _ fun _ _ e => e⟩
  · rintro σ H1 ⟨rfl, ⟨o2, rfl⟩, hP⟩
    exact kt l3 (till_all (by rw [ll]; exact Nat.le_refl _) hP)

set_option maxHeartbeats 4000000 in
theorem okNet_init {dV : Value} (F : FunD K "__init__" "Net.__init__" sNet_init dV f fd) (Dpoints_of : Dx P w K mg base CX0 1 "points_of" ["net"] [] (spPointsG c_Net)) (Dcopy_of_task : Dx P w K mg base CX0 1 "copy_of_task" ["ways"] [] spCopyL) (Xrefuse_wrong_tools : Dx P w K mg base (CX1 P w) 2 "refuse_wrong_tools" ["tools"] [] (spRToolsX c_NoNet)) (Xrefuse_wrong_tasks : Dx P w K mg base (CX1 P w) 2 "refuse_wrong_tasks" ["tasks", "tools"] [] (spRTasksX c_NoNet)) (Xrefuse_wrong_arcs : Dx P w K mg base (CX1 P w) 1 "refuse_wrong_arcs" ["arcs", "points"] [] (spRArcsX c_NoNet)) (Xrefuse_wrong_pairs : Dx P w K mg base (CX1 P w) 1 "refuse_wrong_pairs" ["pairs", "many"] [] (spRPairsX c_NoNet)) : FnOk P w K mg base (CX1 P w) 3 f fd ["self", "tools", "tasks", "arcs", "apart", "moments"] (spNetLX c_Net c_NoNet) := by
  have sc : FnScope ["self", "tools", "tasks", "arcs", "apart", "moments"] ["self", "tools", "tasks", "arcs", "apart", "moments"] (defScope sNet_init) := scK (by decide +kernel)
  refine F.okX sc (fun vs H Q E h => ?_) (fun cdv A outer s H vs Q E hr h => ?_)
  · obtain ⟨_, _, _, _, _, _, _, _, _, _, _, rfl, _⟩ := h
    rfl
  obtain ⟨x, dx, td, tl, al, v, n, D, T, A, B2, rfl, ex, etd, hT, hA, hv, fo, kt, kf⟩ := h
  refine ⟨_, (pss_cons (ps_fld (pv 0) (pe_callTy call_dictD rfl B.b_dict boot_dict1 (@pa_cons _ _ _ _ _ (pv 1) pa_nil rfl)) rfl) (pss_cons (ps_fld (pv 0) (pe_comp (own := "ways") (ys := []) (js := []) rfl (cok atn .nil (by decide) rfl rfl rfl rfl rfl rfl rfl rfl) (pi_list (pv 2)) (fun C fp s H => (pcall0 Dcopy_of_task hr (by decide) rfl (@pa_cons _ _ _ _ _ (pv 0) pa_nil rfl)))) rfl) (pss_cons (ps_fld (pv 0) (pe_callTy call_list_of rfl B.b_list boot_list (@pa_cons _ _ _ _ _ (pv 3) pa_nil rfl)) rfl) (pss_cons (ps_fld (pv 0) (pe_ifExp (pt_cmpR op_isN (pv 4) pe_non (nomark _)) (@pe_lst _ _ _ _ pa_nil) (pe_callTy call_list_of rfl B.b_list boot_list (@pa_cons _ _ _ _ _ (pv 4) pa_nil rfl))) rfl) (pss_cons (ps_fld (pv 0) (pv 5) rfl) (pss_cons (ps_expr (pcall1 Xrefuse_wrong_tools hr (by decide) rfl passX (@pa_cons _ _ _ _ _ (pe_fld (pv 0) rfl) pa_nil rfl))) (pss_cons (ps_expr (pcall1 Xrefuse_wrong_tasks hr (by decide) rfl passX (@pa_cons _ _ _ _ _ (pe_fld (pv 0) rfl) (@pa_cons _ _ _ _ _ (pe_fld (pv 0) rfl) pa_nil rfl) rfl))) (pss_cons (ps_if (pt_not (pt_chain op_le op_le pe_int (pv 5) (pe_globI rfl B.g_MOST_MOMENTS))) (pss_one (ps_raise B.x_NoNet rfl B.m_NoNet rfl passX (@pa_cons _ _ _ _ _ pe_str pa_nil rfl))) pss_nil) (pss_cons (ps_expr (pcall1 Xrefuse_wrong_arcs hr (by decide) rfl passX (@pa_cons _ _ _ _ _ (pe_fld (pv 0) rfl) (@pa_cons _ _ _ _ _ (pcall0 Dpoints_of hr (by decide) rfl (@pa_cons _ _ _ _ _ (pv 0) pa_nil rfl)) pa_nil rfl) rfl))) (pss_one (ps_expr (pcall1 Xrefuse_wrong_pairs hr (by decide) rfl passX (@pa_cons _ _ _ _ _ (pe_fld (pv 0) rfl) (@pa_cons _ _ _ _ _ (pe_callB call_len_seq rfl B.b_len boot_len (@pa_cons _ _ _ _ _ (pe_fld (pv 0) rfl) pa_nil rfl)) pa_nil rfl) rfl))))))))))))), ?_⟩
  try dsimp only [cxK]
  have sl : sizeLine = 16777216 := sizeLine_eq
  refine ⟨_, rfl, td, _, rfl, etd, fun td' ntd => ?_⟩
  have g1 := same_new ntd (.dK (toolK D))
  refine ⟨_, rfl, x, _, dx, _, rfl, g1 _ _ ex, B.cl_Net, B.na_Net_tools, (by decide), ?_⟩
  have e1 : upd (upd H td' (.dK (toolK D))) x (.ins c_Net dx (putF "tools" (.ref td') [])) x = some (.ins c_Net dx (putF "tools" (.ref td') [])) := upd_same
  have f1 : Fx x H (upd (upd H td' (.dK (toolK D))) x (.ins c_Net dx (putF "tools" (.ref td') []))) := (Fx.of g1).trans (Fx.put x _ _)
  have d1 : upd (upd H td' (.dK (toolK D))) x (.ins c_Net dx (putF "tools" (.ref td') [])) td' = some (.dK (toolK D)) := by
    rw [upd_ne (fun z => by rw [z, ex] at ntd; cases ntd)]
    exact upd_same
  generalize upd (upd H td' (.dK (toolK D))) x (.ins c_Net dx (putF "tools" (.ref td') [])) = H1 at e1 f1 d1 ⊢
  obtain ⟨vs, el0, rT⟩ := hT
  have sq1 := f1.sq ex
  have el := sq1 _ _ rfl el0
  have fr1 := fun {a : Addr} => f1.free e1 (a := a)
  clear g1
  refine ⟨_, rfl, tl, rfl, ⟨_, SqL.of el⟩, comp_Rl (rLst (rWL H)) (fun _ => False) (fun i => T.getD i []) (SqL.of el) (by rw [rT.1]; have := fo.t; omega) (fun a h => h.elim) (fun i y hy H3 g Q' hQ => ?_) fun p H2 np g2 hp => ?_⟩
  · obtain ⟨ws, hw, hwl⟩ := rT.at_ hy
    obtain ⟨l, rfl, _, lw⟩ := hwl
    have w2 := (fo.ws ws (List.mem_of_getElem? hw)).1
    rw [getDo hw] at hQ
    exact ⟨_, rfl, l, ws, H, rfl, (fun a o s e => g _ _ (sq1 a o s e)), lw, w2, fun p H4 g4 _ wf => hQ _ _ g4 (mvP wf fun a h => .inl h)⟩
  rw [rng_getD' T [] rT.1] at hp
  have hT2 : LsA (rLst (rWL H)) (fun a => H a = none) H2 p T := hp.mono fun a h => h.2.elim fr1 False.elim
  have zp : H p = none := fr1 np
  have e2 := g2 _ _ e1
  have d2 := g2 _ _ d1
  have f2 : Fx x H H2 := f1.trans (Fx.of g2)
  clear hp g2 np rT el el0 sq1
  refine ⟨_, rfl, x, _, dx, _, rfl, e2, B.cl_Net, B.na_Net_tasks, by
    have := length_putF "tools" (.ref td') []
    simp at *
    omega, ?_⟩
  have e3 : upd H2 x (.ins c_Net dx (putF "tasks" (.ref p) (putF "tools" (.ref td') []))) x = some (.ins c_Net dx (putF "tasks" (.ref p) (putF "tools" (.ref td') []))) := upd_same
  have w3 : Fx x H2 (upd H2 x (.ins c_Net dx (putF "tasks" (.ref p) (putF "tools" (.ref td') [])))) := Fx.put x H2 _
  generalize upd H2 x (.ins c_Net dx (putF "tasks" (.ref p) (putF "tools" (.ref td') []))) = H3 at e3 w3 ⊢
  have d3 := w3 _ _ (ne_of d2 e2 (by intro z; cases z)) d2
  have hT3 := hT2.fxP e2 w3
  have f3 := f2.trans w3
  clear d2 hT2 f2 w3 e2 e1 d1 f1
  obtain ⟨bs, eal, rA⟩ := TupsA.fx hA ex f3
  refine ⟨_, rfl, al, _, rfl, .inl (SqL.of eal), fun al' nal => ?_⟩
  have g4 := same_new nal (.lst (bs.map V.ref))
  have hA4 : TupsA (upd H3 al' (.lst (bs.map V.ref))) al' A := ⟨bs, upd_same, rA.imp fun a k q => g4 _ _ q⟩
  have e4 := g4 _ _ e3
  have d4 := g4 _ _ d3
  have hT4 := hT3.same g4
  have zal : H al' = none := f3.free e3 nal
  have f4 := f3.trans (Fx.of g4)
  generalize upd H3 al' (.lst (bs.map V.ref)) = H4 at hA4 e4 d4 hT4 f4 ⊢
  clear g4 nal d3 hT3 f3 rA eal e3
  refine ⟨_, rfl, x, _, dx, _, rfl, e4, B.cl_Net, B.na_Net_arcs, by
    have := length_putF "tools" (.ref td') []
    have := length_putF "tasks" (.ref p) (putF "tools" (.ref td') [])
    simp at *
    omega, ?_⟩
  have e5 : upd H4 x (.ins c_Net dx (putF "arcs" (.ref al') (putF "tasks" (.ref p) (putF "tools" (.ref td') [])))) x = some (.ins c_Net dx (putF "arcs" (.ref al') (putF "tasks" (.ref p) (putF "tools" (.ref td') [])))) := upd_same
  have w5 : Fx x H4 (upd H4 x (.ins c_Net dx (putF "arcs" (.ref al') (putF "tasks" (.ref p) (putF "tools" (.ref td') []))))) := Fx.put x H4 _
  generalize upd H4 x (.ins c_Net dx (putF "arcs" (.ref al') (putF "tasks" (.ref p) (putF "tools" (.ref td') [])))) = H5 at e5 w5 ⊢
  have d5 := w5 _ _ (ne_of d4 e4 (by intro z; cases z)) d4
  have hT5 := hT4.fxP e4 w5
  have hA5 := hA4.fx e4 w5
  have f5 := f4.trans w5
  clear d4 hT4 hA4 f4 w5 e4
  try dsimp only [gName, tNext]
  refine cut (fun σ H' => ∃ pl' : Addr, σ = [some (.ref x), some (.ref td), some (.ref tl), some (.ref al), some v, some (.int n)] ∧ H' x = some (.ins c_Net dx (putF "apart" (.ref pl') (putF "arcs" (.ref al') (putF "tasks" (.ref p) (putF "tools" (.ref td') []))))) ∧ H' td' = some (.dK (toolK D)) ∧ LsA (rLst (rWL H)) (fun a => H a = none) H' p T ∧ TupsA H' al' A ∧ TupsA H' pl' B2 ∧ Fx x H H' ∧ H pl' = none) (fun N hN => ?_) ?_
  · have fin : ∀ (cs : List Addr) (pl' : Addr), H5 pl' = none → Ref2 (fun t k => H5 t = some (.tup (k.map V.int))) cs B2 → N [some (.ref x), some (.ref td), some (.ref tl), some (.ref al), some v, some (.int n)] (upd (upd H5 pl' (.lst (cs.map V.ref))) x (.ins c_Net dx (putF "apart" (.ref pl') (putF "arcs" (.ref al') (putF "tasks" (.ref p) (putF "tools" (.ref td') [])))))) := fun cs pl' npl rB => by
      have g6 := same_new npl (.lst (cs.map V.ref))
      have hB6 : TupsA (upd H5 pl' (.lst (cs.map V.ref))) pl' B2 := ⟨cs, upd_same, rB.imp fun a k q => g6 _ _ q⟩
      have e6 := g6 _ _ e5
      have d6 := g6 _ _ d5
      have hT6 := hT5.same g6
      have hA6 := hA5.same g6
      have f6 := f5.trans (Fx.of g6)
      generalize upd H5 pl' (.lst (cs.map V.ref)) = H6 at hB6 e6 d6 hT6 hA6 f6 ⊢
      have w7 : Fx x H6 (upd H6 x (.ins c_Net dx (putF "apart" (.ref pl') (putF "arcs" (.ref al') (putF "tasks" (.ref p) (putF "tools" (.ref td') [])))))) := Fx.put x H6 _
      exact hN _ _ ⟨pl', rfl, upd_same, w7 _ _ (ne_of d6 e6 (by intro z; cases z)) d6, hT6.fxP e6 w7, hA6.fx e6 w7, hB6.fx e6 w7, f6.trans w7, f5.free e5 npl⟩
    rcases hv with ⟨rfl, rfl⟩ | ⟨pl, rfl, hB⟩
    · refine ⟨_, rfl, rfl, _, rfl, dT rfl ⟨(by show 0 ≤ sizeLine; decide), fun pl' npl => ?_⟩⟩
      have l3 : (putF "arcs" (.ref al') (putF "tasks" (.ref p) (putF "tools" (.ref td') []))).length < 1000 := by
        have := length_putF "tools" (.ref td') []
        have := length_putF "tasks" (.ref p) (putF "tools" (.ref td') [])
        have := length_putF "arcs" (.ref al') (putF "tasks" (.ref p) (putF "tools" (.ref td') []))
        simp at *
        omega
      exact ⟨_, rfl, x, _, dx, _, rfl, same_new npl _ _ _ e5, B.cl_Net, B.na_Net_apart, l3, fin [] pl' npl Ref2.nil⟩
    · obtain ⟨cs, epl, rB⟩ := TupsA.fx hB ex f5
      refine ⟨_, rfl, rfl, _, rfl, dF (by intro z; cases z) ⟨_, rfl, pl, _, rfl, .inl (SqL.of epl), fun pl' npl => ?_⟩⟩
      have l3 : (putF "arcs" (.ref al') (putF "tasks" (.ref p) (putF "tools" (.ref td') []))).length < 1000 := by
        have := length_putF "tools" (.ref td') []
        have := length_putF "tasks" (.ref p) (putF "tools" (.ref td') [])
        have := length_putF "arcs" (.ref al') (putF "tasks" (.ref p) (putF "tools" (.ref td') []))
        simp at *
        omega
      exact ⟨_, rfl, x, _, dx, _, rfl, same_new npl _ _ _ e5, B.cl_Net, B.na_Net_apart, l3, fin cs pl' npl rB⟩
  clear d5 hT5 hA5 f5 e5
  rintro σ H7 ⟨pl', rfl, e7, d7, hT7, hA7, hB7, f7, zpl⟩
  have l4 : (putF "apart" (.ref pl') (putF "arcs" (.ref al') (putF "tasks" (.ref p) (putF "tools" (.ref td') [])))).length < 1000 := by
    have := length_putF "tools" (.ref td') []
    have := length_putF "tasks" (.ref p) (putF "tools" (.ref td') [])
    have := length_putF "arcs" (.ref al') (putF "tasks" (.ref p) (putF "tools" (.ref td') []))
    have := length_putF "apart" (.ref pl') (putF "arcs" (.ref al') (putF "tasks" (.ref p) (putF "tools" (.ref td') [])))
    simp at *
    omega
  refine ⟨_, rfl, _, rfl, x, _, dx, _, rfl, e7, B.cl_Net, B.na_Net_moments, l4, ?_⟩
  have e8 : upd H7 x (.ins c_Net dx (netF (.ref td') (.ref p) (.ref al') (.ref pl') (.int n))) x = some (.ins c_Net dx (netF (.ref td') (.ref p) (.ref al') (.ref pl') (.int n))) := upd_same
  have w8 : Fx x H7 (upd H7 x (.ins c_Net dx (netF (.ref td') (.ref p) (.ref al') (.ref pl') (.int n)))) := Fx.put x H7 _
  change L2.tSeq _ _ _ _ (upd H7 x (.ins c_Net dx (netF (.ref td') (.ref p) (.ref al') (.ref pl') (.int n))))
  generalize upd H7 x (.ins c_Net dx (netF (.ref td') (.ref p) (.ref al') (.ref pl') (.int n))) = H8 at e8 w8 ⊢
  have d8 := w8 _ _ (ne_of d7 e7 (by intro z; cases z)) d7
  have hT8 := hT7.fxP e7 w8
  have hA8 := hA7.fx e7 w8
  have hB8 := hB7.fx e7 w8
  have f8 := f7.trans w8
  clear d7 hT7 hA7 hB7 f7 w8 e7
  obtain ⟨k1, k2, k3, k4, k5⟩ := netF_at (td := .ref td') (tl := .ref p) (al := .ref al') (pl := .ref pl') (n := .int n)
  have NZ : NetZ c_Net (fun a => H a = none) H H8 x D T A B2 n := ⟨dx, td', p, al', pl', _, e8, k1, k2, k3, k4, k5, d8, hT8, hA8, hB8, ntd, zp, zal, zpl⟩
  have tp8 := (f8.sq ex).tp
  have N8 := NZ.net tp8
  refine ⟨_, rfl, x, _, dx, _, _, rfl, e8, B.cl_Net, B.na_Net_tools, k1, td', D, rfl, d8, fo.nm, fun to H9 g9 => ?_, fun nn H9 g9 => kf (fun z => nn ⟨z.d12, z.tool⟩) _ fun a o na ea => g9 _ _ (fun z => by rw [z, ntd] at ea; cases ea) (f8 _ _ na ea)⟩
  refine ⟨_, rfl, x, _, dx, _, _, rfl, (g9 _ _ e8), B.cl_Net, B.na_Net_tasks, k2, _, rfl, x, _, dx, _, _, rfl, (g9 _ _ e8), B.cl_Net, B.na_Net_tools, k1, p, td', D, T, rfl, (hT8.plain tp8).same g9, g9 _ _ d8, fun ws h => (fo.ws ws h).2, fun t24 tok H10 g10 => ?_, fun nn H10 g10 => kf (fun z => nn ⟨z.t24, z.ways⟩) _ (f8.trans (Fx.of (g9.trans g10)))⟩
  have g := g9.trans g10
  refine ⟨_, rfl, _, _, rfl, rfl, _, rfl, d2 (fun n0 => ?_) fun nn => ?_⟩
  rotate_left
  · exact ⟨_, rfl, iteT ⟨(by show 1 ≤ sizeLine; decide), kf (fun z => nn z.n0) _ (f8.trans (Fx.of g))⟩⟩
  refine ⟨_, _, rfl, rfl, _, rfl, ?_⟩
  by_cases n8 : n ≤ 8
  rotate_left
  · exact nT n8 ⟨(by show 1 ≤ sizeLine; decide), kf (fun z => n8 z.n8) _ (f8.trans (Fx.of g))⟩
  refine nF n8 ?_
  refine ⟨_, rfl, x, _, dx, _, _, rfl, (g _ _ e8), B.cl_Net, B.na_Net_arcs, k3, _, rfl, x, n, false, D, T, A, B2, rfl, N8.same g, al', _, A, rfl, hA8.same g, fo.a, fun a600 aok => ?_, fun nn H' g' => kf (fun z => nn ⟨z.a600, z.arcs⟩) _ (f8.trans (Fx.of (g.trans g')))⟩
  obtain ⟨ps, ep8, rp8⟩ := hT8.same g
  refine ⟨_, rfl, x, _, dx, _, _, rfl, (g _ _ e8), B.cl_Net, B.na_Net_apart, k4, _, rfl, x, _, dx, _, _, rfl, (g _ _ e8), B.cl_Net, B.na_Net_tasks, k2, p, _, rfl, .inl (SqL.of ep8), pl', _, B2, rfl, hB8.same g, fo.b, fun b300 bok => ?_, fun nn H' g' => kf (fun z => nn ⟨z.b300, by rw [rp8.1]; exact z.pairs⟩) _ (f8.trans (Fx.of (g.trans g')))⟩
  rw [rp8.1] at bok
  exact kt ⟨to.1, fo.nd, to.2, t24, tok, n0, n8, a600, aok, b300, bok⟩ _ (f8.trans (Fx.of g)) (NZ.same g)

set_option maxHeartbeats 4000000 in
theorem ok_law_cell_at {dV : Value} (F : FunD K "_law_cell_at" "_law_cell_at" s_law_cell_at dV f fd)  : FnOk P w K mg base CX0 1 f fd ["_law_script", "_law_k"] (spCellF K) := by
  have sc : FnScope ["_law_script", "_law_k"] ["_law_script", "_law_k"] (defScope s_law_cell_at) := scK (by decide +kernel)
  refine F.ok sc (fun vs H Q E h => ?_) (fun cdv A outer s H vs Q E hr h => ?_)
  · obtain ⟨_, _, _, rfl, _⟩ := h
    rfl
  obtain ⟨a, ns, k, rfl, hS, h0, q⟩ := h
  refine ⟨_, (pss_cons (ps_if (pt_cmpR op_lt (pv 1) (pe_callB call_len_seq rfl B.b_len boot_len (@pa_cons _ _ _ _ _ (pv 0) pa_nil rfl)) (nomark _)) (pss_one (ps_ret (pe_ix ix_list (pv 0) (pv 1) (fun _ _ => rfl)))) pss_nil) (pss_one (ps_ret pe_int))), ?_⟩
  try dsimp only [cxK]
  refine ⟨_, rfl, _, rfl, a, _, rfl, .inl hS, _, _, rfl, rfl, _, rfl, d2 (fun c => ?_) (fun c => ?_)⟩
  · exact ⟨_, rfl, _, rfl, a, _, _, _, rfl, rfl, hS, cel_at h0 c, q⟩
  · rw [cel_out h0 c] at q
    exact q

set_option maxHeartbeats 4000000 in
theorem ok_law_whole {dV : Value} (F : FunD K "_law_whole" "_law_whole" s_law_whole dV f fd)  : FnOk P w K mg base CX0 1 f fd ["_law_found"] spWhole := by
  have sc : FnScope ["_law_found"] ["_law_found"] (defScope s_law_whole) := scK (by decide +kernel)
  refine F.ok sc (fun vs H Q E h => ?_) (fun cdv A outer s H vs Q E hr h => ?_)
  · obtain ⟨_, rfl, _⟩ := h
    rfl
  obtain ⟨v, rfl, q⟩ := h
  refine ⟨_, (pss_one (ps_ret (pe_and (pe_callB call_isi rfl B.b_isinstance boot_isinstance (@pa_cons _ _ _ _ _ (pv 0) (@pa_cons _ _ _ _ _ (pe_bltn (v := .ty "int") rfl B.b_int boot_int rfl) pa_nil rfl) rfl)) (pe_one (pe_not (pe_callB call_isi rfl B.b_isinstance boot_isinstance (@pa_cons _ _ _ _ _ (pv 0) (@pa_cons _ _ _ _ _ (pe_bltn (v := .ty "bool") rfl B.b_bool boot_bool rfl) pa_nil rfl) rfl))))))), ?_⟩
  try dsimp only [cxK]
  refine ⟨_, rfl, _, _, _, rfl, .ii v, _, rfl, iteT ⟨_, rfl, _, _, _, rfl, .ib v, _, rfl, q⟩⟩

set_option maxHeartbeats 4000000 in
theorem ok_law_drawn {dV : Value} (F : FunD K "_law_drawn" "_law_drawn" s_law_drawn dV f fd)  : FnOk P w K mg base CX0 1 f fd ["_law_cell", "_law_many"] spDrawnF := by
  have sc : FnScope ["_law_cell", "_law_many", "_law_found", "_law_number", "_law_k"] ["_law_cell", "_law_many"] (defScope s_law_drawn) := scK (by decide +kernel)
  refine F.ok sc (fun vs H Q E h => ?_) (fun cdv A outer s H vs Q E hr h => ?_)
  · obtain ⟨_, _, rfl, _⟩ := h
    rfl
  have m0 : (2147483629 : Int) ≠ 0 := by decide
  obtain ⟨c, m, rfl, m0', m1, k⟩ := h
  refine ⟨_, (pss_cons (ps_set (i := 2) sc.nd rfl (Or.inl rfl) (@pe_lst _ _ _ _ pa_nil)) (pss_cons (ps_set (i := 3) sc.nd rfl (Or.inl rfl) (pe_op op_modN (pv 0) pe_int)) (pss_cons (ps_for PassesOwn.never rfl (pi_range1 rfl B.b_range (@pa_cons _ _ _ _ _ (pv 1) pa_nil rfl)) (pg_name (i := 4) sc.nd rfl (Or.inl rfl)) (pss_cons (ps_set (i := 3) sc.nd rfl (Or.inl rfl) (pe_op op_modN (pe_op op_add (pe_op op_add (pe_op op_add (pe_op op_mulB (pv 3) pe_int) (pe_op op_mulB (pe_op op_fdivB (pv 3) pe_int) pe_int)) pe_int) (pe_op op_mulB (pv 4) (pv 4))) pe_int)) (pss_one (ps_expr (pe_bm PySem.F.plainAttrs_list PySem.F.slot_list_append PySem.F.type_list_append mt_append (pv 2) (@pa_cons _ _ _ _ _ (pv 3) pa_nil rfl)))))) (pss_one (ps_ret (pv 2)))))), ?_⟩
  try dsimp only [cxK]
  refine ⟨(by show 0 ≤ sizeLine; decide), fun l nl => ?_⟩
  refine ⟨_, rfl, _, _, rfl, rfl, m0, ?_⟩
  have nb : ∀ a : Int, 0 ≤ a.fmod 2147483629 ∧ a.fmod 2147483629 < 2147483629 := fun a => ⟨Int.fmod_nonneg_of_pos a (by decide), Int.fmod_lt_of_pos a (by decide)⟩
  refine ⟨_, rfl, m, rfl, (by omega), (by omega), for_range (fun i σ H' => ∃ (o : Option V), σ = [some (.int c), some (.int m), some (.ref l), some (.int (drN c i)), o] ∧ Same H H' ∧ H' l = some (.lst ((drawF c i).map V.int))) ⟨none, rfl, same_new nl _, upd_same⟩ ?_ ?_⟩
  · rintro i σ H' hi ⟨o, rfl, g, el⟩
    have hl := drawF_len c i
    refine ⟨_, rfl, _, _, rfl, rfl, IntMulOk.of_right (by decide), _, rfl, _, _, rfl, rfl, ⟨by decide, PyProof.noPylong_small (by decide)⟩, _, _, rfl, rfl, IntMulOk.of_right (by decide), _, _, rfl, rfl, _, _, rfl, rfl, _, rfl, _, rfl, _, _, rfl, rfl, IntMulOk.of_left (intBits_le_64 (by omega) (by omega)), _, _, rfl, rfl, _, _, rfl, rfl, m0, ?_⟩
    refine ⟨_, rfl, .inl ⟨rfl, _, SqL.of el⟩, _, rfl, l, _, _, rfl, rfl, el, (by rw [List.length_map, hl]; have : sizeLine = 16777216 := sizeLine_eq; omega), ?_⟩
    have en : (drN c i * 69621 + (drN c i).fdiv 127 * 7 + 40692 + (0 + (i : Int)) * (0 + (i : Int))).fmod 2147483629 = drN c (i + 1) := by show _ = drNext (drN c i) i; unfold drNext; rw [Int.zero_add]
    refine ⟨some (.int (0 + (i : Int))), by rw [← en]; rfl, sUpd g nl _, ?_⟩
    rw [drawF_succ, List.map_append, ← en]
    exact upd_same
  · rintro σ H' ⟨o, rfl, g, el⟩
    exact ⟨_, rfl, k l _ H' nl g rfl (drawF_len c _) (drawF_ok c _) el⟩

set_option maxHeartbeats 4000000 in
theorem ok_law_name {dV : Value} (F : FunD K "_law_name" "_law_name" s_law_name dV f fd)  : FnOk P w K mg base CX0 1 f fd ["_law_number", "_law_k", "_law_before"] spName51 := by
  have sc : FnScope ["_law_number", "_law_k", "_law_before", "_law_letter", "_law_fill", "_law_cut"] ["_law_number", "_law_k", "_law_before"] (defScope s_law_name) := scK (by decide +kernel)
  refine F.ok sc (fun vs H Q E h => ?_) (fun cdv A outer s H vs Q E hr h => ?_)
  · obtain ⟨_, _, _, rfl, _⟩ := h
    rfl
  obtain ⟨x, k, b, rfl, k0, k1, hb, q⟩ := h
  refine ⟨_, (pss_cons (ps_set (i := 3) sc.nd rfl (Or.inl rfl) (pe_ix ix_str pe_str (pv 1) (fun _ _ => rfl))) (pss_cons (ps_if (PW.pt (pw_and (pt_cmpR op_eq (pe_op op_modN (pv 0) pe_int) pe_int (nomark _)) (pw_and (pt_cmpR op_ne (pv 2) pe_str (nomark _)) (pw_and1 (pt_cmpR op_lt (pe_callB call_len_str rfl B.b_len boot_len (@pa_cons _ _ _ _ _ (pv 2) pa_nil rfl)) pe_int (nomark _)))))) (pss_one (ps_ret (pe_op op_add_str (pv 2) (pv 3)))) pss_nil) (pss_cons (ps_set (i := 4) sc.nd rfl (Or.inl rfl) (pe_op op_mulS (pe_ix ix_str pe_str (pe_op op_modN (pe_op op_fdivB (pv 0) pe_int) pe_int) (fun _ _ => rfl)) (pe_op op_modN (pe_op op_fdivB (pv 0) pe_int) pe_int))) (pss_cons (ps_set (i := 5) sc.nd rfl (Or.inl rfl) (pe_op op_modN (pe_op op_fdivB (pv 0) pe_int) (pe_op op_add (pe_callB call_len_str rfl B.b_len boot_len (@pa_cons _ _ _ _ _ (pv 4) pa_nil rfl)) pe_int))) (pss_one (ps_ret (pe_op op_add_str (pe_op op_add_str (pe_slice sl_str (pv 4) po_none (po_some (pv 5))) (pv 3)) (pe_slice sl_str (pv 4) (po_some (pv 5)) po_none)))))))), ?_⟩
  try dsimp only [cxK]
  have sl : sizeLine = 16777216 := sizeLine_eq
  have bl := hb.len
  have one : ∀ c, (⟨#[c]⟩ : Str).length = 1 := fun _ => rfl
  refine ⟨_, rfl, _, _, _, rfl, rfl, (by decide), let_at k0 k1, ?_⟩
  dsimp only [gName, tNext]
  refine cut (fun σ H' => H = H' ∧ σ = [some (.int x), some (.int k), some (.str b), some (.str ⟨#[98 + k.toNat]⟩), none, none] ∧ ¬ (x.fmod 3 = 0 ∧ b ≠ "" ∧ b.length < 12)) (fun N hN => ?_) ?_
  · refine ⟨_, rfl, _, _, rfl, rfl, (by show (3 : Int) ≠ 0; decide), rfl, _, rfl, d2I (fun c1 => ?_) fun c1 => hN _ _ ⟨rfl, rfl, fun z => c1 z.1⟩⟩
    refine ⟨_, rfl, rfl, _, rfl, nS2 (fun c2 => ?_) fun c2 => hN _ _ ⟨rfl, rfl, fun z => z.2.1 c2⟩⟩
    refine ⟨_, rfl, _, rfl, (by omega), _, _, rfl, rfl, _, rfl, d2 (fun c3 => ?_) fun c3 => hN _ _ ⟨rfl, rfl, fun z => c3 (by have := z.2.2; omega)⟩⟩
    have e : namF x k b = b ++ ⟨#[98 + k.toNat]⟩ := if_pos ⟨c1, c2, by omega⟩
    rw [e] at q
    exact ⟨_, rfl, _, rfl, _, _, rfl, rfl, (by rw [one]; omega), q⟩
  rintro σ H1 ⟨rfl, rfl, nc⟩
  have e : namF x k b = cutS (fillF x) none (some (cutF51 x)) ++ ⟨#[98 + k.toNat]⟩ ++ cutS (fillF x) (some (cutF51 x)) none := if_neg nc
  rw [e] at q
  have m3 := fm (a := x.fdiv 3) (n := 3) (by decide)
  have m12 := fm (a := x.fdiv 9) (n := 12) (by decide)
  have fl := fill_len x
  have cb := cut51_b x
  refine ⟨_, rfl, _, _, rfl, rfl, ⟨by decide, PyProof.noPylong_small (by decide)⟩, _, _, rfl, rfl, (by show (3 : Int) ≠ 0; decide), _, _, _, rfl, rfl, (by decide), ayz_at m3.1 m3.2, _, rfl, _, _, rfl, rfl, ⟨by decide, PyProof.noPylong_small (by decide)⟩, _, _, rfl, rfl, (by show (12 : Int) ≠ 0; decide), _, _, rfl, rfl, (by show 1 ≤ 16; decide), m12.1, (by omega), ?_⟩
  have fz : (fillF x).length ≤ sizeLine := by omega
  change (tSeq _ _) _ (List.set _ _ (some (V.str (fillF x)))) _
  refine ⟨_, rfl, _, _, rfl, rfl, ⟨by decide, PyProof.noPylong_small (by decide)⟩, _, rfl, _, rfl, fz, _, _, rfl, rfl, _, _, rfl, rfl, (by show ((fillF x).length : Int) + 1 ≠ 0; omega), ?_⟩
  refine ⟨_, rfl, _, rfl, _, rfl, _, rfl, fz, _, rfl, _, _, rfl, rfl, ?_, _, rfl, _, rfl, _, rfl, _, rfl, fz, _, _, rfl, rfl, ?_, q⟩
  · show (cutS (fillF x) none (some (cutF51 x))).length + _ ≤ _
    rw [one, cutS_hi cb.1]; omega
  · show (_ ++ _ : Str).length + (cutS (fillF x) (some (cutF51 x)) none).length ≤ _
    rw [Str.length_append, one, cutS_lo cb.1]
    show (cutS (fillF x) none (some (cutF51 x))).length + _ + _ ≤ _
    rw [cutS_hi cb.1]; omega

set_option maxHeartbeats 4000000 in
theorem ok_law_tools {dV : Value} (F : FunD K "_law_tools" "_law_tools" s_law_tools dV f fd) (D_law_name : Dx P w K mg base CX0 1 "_law_name" ["_law_number", "_law_k", "_law_before"] [] spName51) : FnOk P w K mg base CX0 2 f fd ["_law_xs"] spTools51 := by
  have sc : FnScope ["_law_xs", "_law_many", "_law_tools_here", "_law_before", "_law_k"] ["_law_xs"] (defScope s_law_tools) := scK (by decide +kernel)
  refine F.ok sc (fun vs H Q E h => ?_) (fun cdv A outer s H vs Q E hr h => ?_)
  · obtain ⟨_, _, rfl, _⟩ := h
    rfl
  obtain ⟨l, ns, rfl, el, l25, dn, q⟩ := h
  refine ⟨_, (pss_cons (ps_set (i := 1) sc.nd rfl (Or.inl rfl) (pe_op op_modN (pe_ix ix_list (pv 0) pe_int (fun _ _ => rfl)) pe_int)) (pss_cons (ps_if (pt_cmpR op_eq (pe_op op_modN (pe_op op_fdivB (pe_ix ix_list (pv 0) pe_int (fun _ _ => rfl)) pe_int) pe_int) pe_int (nomark _)) (pss_one (ps_set (i := 1) sc.nd rfl (Or.inl rfl) pe_int)) pss_nil) (pss_cons (ps_set (i := 2) sc.nd rfl (Or.inl rfl) pe_dnewK) (pss_cons (ps_set (i := 3) sc.nd rfl (Or.inl rfl) pe_str) (pss_cons (ps_for PassesOwn.never rfl (pi_range1 rfl B.b_range (@pa_cons _ _ _ _ _ (pv 1) pa_nil rfl)) (pg_name (i := 4) sc.nd rfl (Or.inl rfl)) (pss_cons (ps_set (i := 3) sc.nd rfl (Or.inl rfl) (pcall0 D_law_name hr (by decide) rfl (@pa_cons _ _ _ _ _ (pe_ix ix_list (pv 0) (pe_op op_add pe_int (pv 4)) (fun _ _ => rfl)) (@pa_cons _ _ _ _ _ (pv 4) (@pa_cons _ _ _ _ _ (pv 3) pa_nil rfl) rfl) rfl))) (pss_one (ps_dput (hu_of hr) (pv 2) (pv 3) (pe_op op_add pe_int (pe_op op_modN (pe_ix ix_list (pv 0) (pe_op op_add pe_int (pv 4)) (fun _ _ => rfl)) pe_int)) rfl)))) (pss_one (ps_ret (pv 2)))))))), ?_⟩
  try dsimp only [cxK]
  have sl : sizeLine = 16777216 := sizeLine_eq
  obtain ⟨z0, h0, _⟩ := dn_at dn (i := 0) (by omega)
  have g0 : ns.getD 0 0 = z0 := getDo h0
  have nb := toolN_b z0
  refine ⟨_, rfl, l, _, _, _, rfl, rfl, SqL.of el, (atI_nat (j := 0) (map_at h0)), _, _, rfl, rfl, (by show (4 : Int) ≠ 0; decide), ?_⟩
  dsimp only [gName, tNext]
  refine cut (fun σ H' => H = H' ∧ σ = [some (.ref l), some (.int (toolN z0)), none, none, none]) (fun N hN => ?_) ?_
  · refine ⟨_, rfl, l, _, _, _, rfl, rfl, SqL.of el, (atI_nat (j := 0) (map_at h0)), _, _, rfl, rfl, ⟨by decide, PyProof.noPylong_small (by decide)⟩, _, _, rfl, rfl, (by show (8 : Int) ≠ 0; decide), rfl, _, rfl, d2I (fun c => hN _ _ ⟨rfl, by rw [show toolN z0 = 12 from if_pos c]; rfl⟩) fun c => hN _ _ ⟨rfl, by rw [show toolN z0 = z0.fmod 4 from if_neg c]; rfl⟩⟩
  rintro σ H1 ⟨rfl, rfl⟩
  refine fun td ntd => ?_
  have g1 := same_new ntd (.dK [])
  have e1 : upd H td (.dK []) td = some (.dK (toolK [])) := upd_same
  generalize upd H td (.dK []) = H0 at g1 e1 ⊢
  refine ⟨_, rfl, _, rfl, by omega, by omega, for_range (fun i σ H' => ∃ o : Option V, σ = [some (.ref l), some (.int (toolN z0)), some (.ref td), some (.str (tlG ns i).2), o] ∧ Same H H' ∧ H' td = some (.dK (toolK (tlG ns i).1))) ⟨none, rfl, g1, e1⟩ ?_ ?_⟩
  · rintro i σ H1 hi ⟨o, rfl, g1, eD⟩
    have i12 : i < 12 := by omega
    obtain ⟨x, hx, _⟩ := dn_at dn (i := 1 + i) (by omega)
    obtain ⟨y, hy, _⟩ := dn_at dn (i := 13 + i) (by omega)
    obtain ⟨tok, nmo⟩ := tlG_ok ns i (by omega)
    have el1 := g1 _ _ el
    have at1 : atI (ns.map V.int) (1 + (0 + (i : Int))) = some (.int x) := by
      have := atI_nat (map_at (f := V.int) hx)
      rwa [show ((1 + i : Nat) : Int) = 1 + (0 + (i : Int)) by omega] at this
    have at2 : atI (ns.map V.int) (13 + (0 + (i : Int))) = some (.int y) := by
      have := atI_nat (map_at (f := V.int) hy)
      rwa [show ((13 + i : Nat) : Int) = 13 + (0 + (i : Int)) by omega] at this
    have ps := putT_spec (tlG ns i).1 (tlG ns (i + 1)).2 (1 + y.fmod 8)
    have eT : (tlG ns (i + 1)).1 = putT (tlG ns i).1 (tlG ns (i + 1)).2 (1 + y.fmod 8) := by rw [← getDo (d := 0) hy]; rfl
    have eN : namF x (0 + (i : Int)) (tlG ns i).2 = (tlG ns (i + 1)).2 := by rw [← getDo (d := 0) hx, Int.zero_add]; rfl
    refine ⟨_, rfl, _, rfl, _, _, rfl, rfl, l, _, _, _, rfl, rfl, SqL.of el1, at1, _, rfl, _, rfl, x, _, _, rfl, (by omega), (by omega), nmo, ?_⟩
    rw [eN]
    refine ⟨_, rfl, _, rfl, _, _, rfl, rfl, l, _, _, _, rfl, rfl, SqL.of el1, at2, _, _, rfl, rfl, (by show (8 : Int) ≠ 0; decide), _, _, rfl, rfl, _, rfl, _, rfl, td, _, rfl, DPut.k (k := .inr (tlG ns (i + 1)).2) eD ?_, _, rfl, sUpd g1 ntd _, ?_⟩
    · rw [toolK_len]; have := tok.len; omega
    · rw [eT, ← ps.1]
      exact upd_same
  · rintro σ H1 ⟨o, rfl, g1, eD⟩
    refine ⟨_, rfl, q td H1 g1 ntd ?_⟩
    unfold toolsF
    rw [g0]
    exact eD

set_option maxHeartbeats 4000000 in
theorem ok_law_way {dV : Value} (F : FunD K "_law_way" "_law_way" s_law_way dV f fd)  : FnOk P w K mg base CX0 1 f fd ["_law_xs", "_law_tools_here"] spWay51 := by
  have sc : FnScope ["_law_xs", "_law_tools_here", "_law_least", "_law_most", "_law_names", "_law_uses", "_law_k", "_law_x", "_law_heat"] ["_law_xs", "_law_tools_here"] (defScope s_law_way) := scK (by decide +kernel)
  refine F.ok sc (fun vs H Q E h => ?_) (fun cdv A outer s H vs Q E hr h => ?_)
  · obtain ⟨_, _, _, _, rfl, _⟩ := h
    rfl
  obtain ⟨l, td, ns, D, rfl, el, l16, ed, tok, q⟩ := h
  refine ⟨_, (pss_cons (ps_set (i := 2) sc.nd rfl (Or.inl rfl) (pe_op op_add pe_int (pe_op op_modN (pe_ix ix_list (pv 0) pe_int (fun _ _ => rfl)) pe_int))) (pss_cons (ps_if (pt_cmpR op_eq (pe_op op_modN (pe_ix ix_list (pv 0) pe_int (fun _ _ => rfl)) pe_int) pe_int (nomark _)) (pss_one (ps_set (i := 2) sc.nd rfl (Or.inl rfl) (pe_op op_add pe_int (pe_op op_modN (pe_ix ix_list (pv 0) pe_int (fun _ _ => rfl)) (pe_op op_powB pe_int pe_int))))) pss_nil) (pss_cons (ps_set (i := 3) sc.nd rfl (Or.inl rfl) (pe_op op_add (pv 2) (pe_op op_modN (pe_ix ix_list (pv 0) pe_int (fun _ _ => rfl)) (pe_op op_add (pe_op op_sub (pe_op op_powB pe_int pe_int) (pv 2)) pe_int)))) (pss_cons (ps_if (pt_cmpR op_eq (pe_op op_modN (pe_op op_fdivB (pe_ix ix_list (pv 0) pe_int (fun _ _ => rfl)) pe_int) pe_int) pe_int (nomark _)) (pss_one (ps_set (i := 3) sc.nd rfl (Or.inl rfl) (pv 2))) pss_nil) (pss_cons (ps_set (i := 4) sc.nd rfl (Or.inl rfl) (pe_callTy (call_listD rfl) rfl B.b_list boot_list (@pa_cons _ _ _ _ _ (pv 1) pa_nil rfl))) (pss_cons (ps_set (i := 5) sc.nd rfl (Or.inl rfl) (@pe_lst _ _ _ _ pa_nil)) (pss_cons (ps_for PassesOwn.never rfl (pi_range1 rfl B.b_range (@pa_cons _ _ _ _ _ (pe_callB call_len_seq rfl B.b_len boot_len (@pa_cons _ _ _ _ _ (pv 4) pa_nil rfl)) pa_nil rfl)) (pg_name (i := 6) sc.nd rfl (Or.inl rfl)) (pss_cons (ps_set (i := 7) sc.nd rfl (Or.inl rfl) (pe_ix ix_list (pv 0) (pe_op op_add pe_int (pv 6)) (fun _ _ => rfl))) (pss_one (ps_if (pt_cmpR op_eq (pe_op op_modN (pv 7) pe_int) pe_int (nomark _)) (pss_cons (ps_set (i := 8) sc.nd rfl (Or.inl rfl) (pe_ix ix_list (@pe_lst _ _ _ _ (@pa_cons _ _ _ _ _ pe_int (@pa_cons _ _ _ _ _ (pe_op op_modN (pe_op op_fdivB (pv 7) pe_int) pe_int) (@pa_cons _ _ _ _ _ (pe_op op_sub (pe_op op_powB pe_int pe_int) (pe_op op_modN (pe_op op_fdivB (pv 7) pe_int) pe_int)) pa_nil rfl) rfl) rfl)) (pe_op op_modN (pe_op op_fdivB (pv 7) pe_int) pe_int) (fun _ _ => rfl))) (pss_one (ps_expr (pe_bm PySem.F.plainAttrs_list PySem.F.slot_list_append PySem.F.type_list_append mt_append (pv 5) (@pa_cons _ _ _ _ _ (@pe_tup _ _ _ _ _ (@pa_cons _ _ _ _ _ (pe_ix ix_list (pv 4) (pv 6) (fun _ _ => rfl)) (@pa_cons _ _ _ _ _ (pe_op op_add pe_int (pe_op op_modN (pe_op op_fdivB (pv 7) pe_int) (pe_dget (hu_of hr) (pv 1) (pe_ix ix_list (pv 4) (pv 6) (fun _ _ => rfl)) (fun _ _ => rfl)))) (@pa_cons _ _ _ _ _ (pv 8) pa_nil rfl) rfl) rfl)) pa_nil rfl))))) pss_nil)))) (pss_cons (ps_if (pt_cmpR op_eq (pe_op op_modN (pe_ix ix_list (pv 0) pe_int (fun _ _ => rfl)) pe_int) pe_int (nomark _)) (pss_one (ps_set (i := 5) sc.nd rfl (Or.inl rfl) (pe_listRev rfl rfl B.b_list rfl B.b_reversed boot_list PyProof.Rows.Boot.«reversed» (pv 5)))) pss_nil) (pss_one (ps_ret (@pe_tup _ _ _ _ _ (@pa_cons _ _ _ _ _ (pv 2) (@pa_cons _ _ _ _ _ (pv 3) (@pa_cons _ _ _ _ _ (pv 5) pa_nil rfl) rfl) rfl)))))))))))), ?_⟩
  try dsimp only [cxK]
  have sl : sizeLine = 16777216 := sizeLine_eq
  have e9 : (10 : Int) ^ (9 : Int).toNat = 1000000000 := by decide
  have hat : ∀ {i : Nat}, i < 16 → ∃ z, ns[i]? = some z ∧ ns.getD i 0 = z := fun {i} h => ⟨_, List.getElem?_eq_getElem (by omega), getDo (List.getElem?_eq_getElem (by omega))⟩
  obtain ⟨z0, h0, g0⟩ := hat (i := 0) (by decide)
  obtain ⟨z1, h1, g1⟩ := hat (i := 1) (by decide)
  obtain ⟨z2, h2, g2⟩ := hat (i := 2) (by decide)
  obtain ⟨z3, h3, g3⟩ := hat (i := 3) (by decide)
  have lb := least_b ns
  refine ⟨_, rfl, l, _, _, _, rfl, rfl, SqL.of el, (atI_nat (j := 0) (map_at h0)), _, _, rfl, rfl, (by show (9 : Int) ≠ 0; decide), _, _, rfl, rfl, ?_⟩
  dsimp only [gName, tNext]
  refine cut (fun σ H' => H = H' ∧ σ = [some (.ref l), some (.ref td), some (.int (leastF ns)), none, none, none, none, none, none]) (fun N hN => ?_) ?_
  · refine ⟨_, rfl, l, _, _, _, rfl, rfl, SqL.of el, (atI_nat (j := 1) (map_at h1)), _, _, rfl, rfl, (by show (2 : Int) ≠ 0; decide), rfl, _, rfl, d2I (fun c => ?_) fun c => hN _ _ ⟨rfl, by rw [show leastF ns = 1 + z0.fmod 9 from by unfold leastF; rw [g1, g0, if_neg c]]; rfl⟩⟩
    exact ⟨_, rfl, l, _, _, _, rfl, rfl, SqL.of el, (atI_nat (j := 0) (map_at h0)), _, _, rfl, rfl, ⟨by decide, by decide⟩, _, _, rfl, rfl, (by show (10 : Int) ^ (9 : Int).toNat ≠ 0; decide), _, _, rfl, rfl, hN _ _ ⟨rfl, by rw [show leastF ns = 1 + z0.fmod ((10 : Int) ^ (9 : Int).toNat) from by unfold leastF; rw [g1, g0, if_pos c, e9]]; rfl⟩⟩
  rintro σ H1 ⟨rfl, rfl⟩
  refine ⟨_, rfl, _, rfl, l, _, _, _, rfl, rfl, SqL.of el, (atI_nat (j := 2) (map_at h2)), _, _, rfl, rfl, ⟨by decide, by decide⟩, _, rfl, _, _, rfl, rfl, _, _, rfl, rfl, _, _, rfl, rfl, (by rw [e9]; omega), _, _, rfl, rfl, ?_⟩
  rw [e9]
  dsimp only [gName, tNext]
  refine cut (fun σ H' => H = H' ∧ σ = [some (.ref l), some (.ref td), some (.int (leastF ns)), some (.int (mostF ns)), none, none, none, none, none]) (fun N hN => ?_) ?_
  · exact ⟨_, rfl, l, _, _, _, rfl, rfl, SqL.of el, (atI_nat (j := 1) (map_at h1)), _, _, rfl, rfl, ⟨by decide, PyProof.noPylong_small (by decide)⟩, _, _, rfl, rfl, (by show (3 : Int) ≠ 0; decide), rfl, _, rfl, d2I (fun c => ⟨_, rfl, hN _ _ ⟨rfl, by rw [show mostF ns = leastF ns from by unfold mostF; rw [g1, if_pos c]]; rfl⟩⟩) fun c => hN _ _ ⟨rfl, by rw [show mostF ns = leastF ns + z2.fmod (1000000000 - leastF ns + 1) from by unfold mostF; rw [g1, g2, if_neg c]]; rfl⟩⟩
  rintro σ H1 ⟨rfl, rfl⟩
  refine ⟨_, rfl, td, _, rfl, ed, fun nl nnl => ?_⟩
  have kn : ((toolK D).map fun p => kV p.1) = D.map fun p => V.str p.1 := by unfold toolK; rw [List.map_map]; rfl
  rw [kn]
  have ga := same_new nnl (.lst (D.map fun p => V.str p.1))
  have en : upd H nl (.lst (D.map fun p => V.str p.1)) nl = some (.lst (D.map fun p => V.str p.1)) := upd_same
  generalize upd H nl (.lst (D.map fun p => V.str p.1)) = H1 at ga en ⊢
  refine ⟨(by show 0 ≤ sizeLine; decide), fun u nu0 => ?_⟩
  have gb := same_new nu0 (.lst [])
  have hu1 : LsA rUse (fun a => a ≠ u ∧ H a = none) (upd H1 u (.lst [])) u [] := LsA.new
  have en1 := gb _ _ en
  have gc := ga.trans gb
  have nu := ga.free nu0
  have nu' : nl ≠ u := fun z => by rw [← z, en] at nu0; cases nu0
  generalize upd H1 u (.lst []) = H2 at gc hu1 en1 ⊢
  clear gb ga en nnl nu0
  have dl := tok.len
  dsimp only [gName, tNext]
  refine cut (fun σ H' => ∃ (o6 o7 o8 : Option V), σ = [some (.ref l), some (.ref td), some (.int (leastF ns)), some (.int (mostF ns)), some (.ref nl), some (.ref u), o6, o7, o8] ∧ Same H H' ∧ LsA rUse (fun a => a ≠ u ∧ H a = none) H' u (usesG ns D D.length)) (fun N hN => ?_) ?_
  · refine ⟨_, rfl, nl, _, rfl, .inl (SqL.of en1), _, rfl, by rw [List.length_map]; omega, by rw [List.length_map]; omega, for_range (fun i σ H' => ∃ (o6 o7 o8 : Option V), σ = [some (.ref l), some (.ref td), some (.int (leastF ns)), some (.int (mostF ns)), some (.ref nl), some (.ref u), o6, o7, o8] ∧ Same H H' ∧ H' nl = some (.lst (D.map fun p => V.str p.1)) ∧ LsA rUse (fun a => a ≠ u ∧ H a = none) H' u (usesG ns D i)) ⟨none, none, none, rfl, gc, en1, hu1⟩ ?_ ?_⟩
    · rintro i σ H3 hi ⟨o6, o7, o8, rfl, g3, en2, ⟨vs, eu, ru⟩⟩
      rw [Int.toNat_natCast, List.length_map] at hi
      obtain ⟨x, hx, gx⟩ := hat (i := 4 + i) (by omega)
      have el2 := g3 _ _ el
      have at1 : atI (ns.map V.int) (4 + (0 + (i : Int))) = some (.int x) := by
        have := atI_nat (map_at (f := V.int) hx)
        rwa [show ((4 + i : Nat) : Int) = 4 + (0 + (i : Int)) by omega] at this
      have hD := List.getElem?_eq_getElem hi
      have mem := List.getElem_mem hi
      generalize D[i] = p at hD mem
      obtain ⟨pn, p1, p8⟩ := tok.ok p mem
      have gp : D.getD i ("", 0) = p := getDo hD
      have at2 : atI (D.map fun p => V.str p.1) (0 + (i : Int)) = some (.str p.1) := at_zero (map_at (f := fun p : Str × Int => V.str p.1) hD)
      have dg := fun {H' : Hp} (g : Same H H') => dgTool (.inl (g _ _ ed)) (manyOf_of tok.nd (show (p.1, p.2) ∈ D from mem))
      have sz : vs.length < sizeLine := by have := pickL_len i (oddB ns) (useG ns D); rw [ru.1]; unfold usesG; omega
      have un : usesG ns D (i + 1) = usesG ns D i ++ (if oddB ns i = true then [useG ns D i] else []) := pickL_succ _ _ _
      refine ⟨_, rfl, _, rfl, _, _, rfl, rfl, l, _, _, _, rfl, rfl, SqL.of el2, at1, ?_⟩
      refine ⟨_, rfl, _, _, rfl, rfl, (by show (2 : Int) ≠ 0; decide), rfl, _, rfl, d2I (fun c => ?_) (fun c => ⟨_, _, _, rfl, g3, en2, by rw [un, if_neg (by unfold oddB; rw [gx]; simpa using c), List.append_nil]; exact ⟨vs, eu, ru⟩⟩)⟩
      rw [if_pos (by unfold oddB; rw [gx]; simpa using c)] at un
      refine ⟨_, rfl, _, _, rfl, rfl, ⟨by decide, PyProof.noPylong_small (by decide)⟩, _, _, rfl, rfl, (by show (3 : Int) ≠ 0; decide), _, _, rfl, rfl, ⟨by decide, by decide⟩, _, rfl, _, _, rfl, rfl, ⟨by decide, PyProof.noPylong_small (by decide)⟩, _, _, rfl, rfl, (by show (3 : Int) ≠ 0; decide), _, _, rfl, rfl, (by show 3 ≤ sizeLine; decide), fun hl nhl => ?_⟩
      have g3h := g3.trans (same_new nhl (.lst [.int 0, .int ((x.fdiv 16).fmod 3), .int ((10 : Int) ^ (9 : Int).toNat - (x.fdiv 16).fmod 3)]))
      refine ⟨_, rfl, _, _, rfl, rfl, ⟨by decide, PyProof.noPylong_small (by decide)⟩, _, _, rfl, rfl, (by show (3 : Int) ≠ 0; decide), hl, _, _, _, rfl, rfl, SqL.of upd_same, heat_at e9, ?_⟩
      have eu3 := same_new nhl (.lst [.int 0, .int ((x.fdiv 16).fmod 3), .int ((10 : Int) ^ (9 : Int).toNat - (x.fdiv 16).fmod 3)]) _ _ eu
      have en3 := same_new nhl (.lst [.int 0, .int ((x.fdiv 16).fmod 3), .int ((10 : Int) ^ (9 : Int).toNat - (x.fdiv 16).fmod 3)]) _ _ en2
      have ru3 := ru.imp fun _ _ q => mvS q (same_new nhl (.lst [.int 0, .int ((x.fdiv 16).fmod 3), .int ((10 : Int) ^ (9 : Int).toNat - (x.fdiv 16).fmod 3)]))
      generalize upd H3 hl (.lst [.int 0, .int ((x.fdiv 16).fmod 3), .int ((10 : Int) ^ (9 : Int).toNat - (x.fdiv 16).fmod 3)]) = H5 at g3h eu3 en3 ru3 ⊢
      clear eu ru en2
      have mm := fm (a := x.fdiv 2) (n := p.2) (by omega)
      refine ⟨_, rfl, .inl ⟨rfl, _, SqL.of eu3⟩, _, rfl, _, rfl, nl, _, _, _, rfl, rfl, SqL.of en3, at2, _, rfl, _, _, rfl, rfl, ⟨by decide, PyProof.noPylong_small (by decide)⟩, _, rfl, _, rfl, _, rfl, nl, _, _, _, rfl, rfl, SqL.of en3, at2, td, _, rfl, dg g3h, _, _, rfl, rfl, (by omega), _, _, rfl, rfl, _, rfl, (by show 3 ≤ sizeLine; decide), fun a na => ⟨u, _, _, rfl, rfl, same_new na _ _ _ eu3, sz, ?_⟩⟩
      have ga := same_new na (.tup [.str p.1, .int (1 + (x.fdiv 2).fmod p.2), .int (heat51 x)])
      refine ⟨_, _, _, rfl, sUpd (g3h.trans ga) nu _, ?_, ?_⟩
      · rw [upd_ne nu']
        exact ga _ _ en3
      · rw [un]
        exact LsA.put (fun z => z.1 rfl) (ru3.imp fun _ _ q => mvS q ga) ⟨a, rfl, ⟨(fun z => by rw [z, eu3] at na; cases na), g3h.free na⟩, by unfold useG; rw [gp, gx]; exact upd_same⟩
    · rintro σ H3 ⟨o6, o7, o8, rfl, g3, en2, hu⟩
      rw [Int.toNat_natCast, List.length_map] at hu
      exact hN _ _ ⟨_, _, _, rfl, g3, hu⟩
  clear gc hu1 en1
  rintro σ H3 ⟨o6, o7, o8, rfl, g4, hu⟩
  try dsimp only [gName, tNext]
  refine cut (fun σ H' => ∃ (u' : Addr), σ = [some (.ref l), some (.ref td), some (.int (leastF ns)), some (.int (mostF ns)), some (.ref nl), some (.ref u'), o6, o7, o8] ∧ Same H H' ∧ H u' = none ∧ LsA rUse (fun a => H a = none) H' u' (usesF ns D)) (fun N hN => ?_) ?_
  · refine ⟨_, rfl, l, _, _, _, rfl, rfl, SqL.of (g4 _ _ el), (atI_nat (j := 3) (map_at h3)), _, _, rfl, rfl, (by show (2 : Int) ≠ 0; decide), rfl, _, rfl, d2I (fun c => ?_) fun c => hN _ _ ⟨u, rfl, g4, nu, by rw [show usesF ns D = usesG ns D D.length from by unfold usesF; rw [g3, if_neg c]]; exact hu.mono fun a h => h.2⟩⟩
    rw [show usesF ns D = (usesG ns D D.length).reverse from by unfold usesF; rw [g3, if_pos c]] at hN
    obtain ⟨vs, eu, ru⟩ := hu
    refine ⟨_, rfl, u, _, rfl, SqL.of eu, fun u' nu2 => ?_⟩
    have g5 := same_new nu2 (.lst vs.reverse)
    exact hN _ _ ⟨u', rfl, g4.trans g5, g4.free nu2, ⟨_, upd_same, ru.rev.imp fun _ _ q => mvP (mvS q g5) fun a h => h.2⟩⟩
  rintro σ H4 ⟨u', rfl, g5, nu2, vs, eu, ru⟩
  refine ⟨_, rfl, _, rfl, _, rfl, (by show 3 ≤ sizeLine; decide), fun t nt => ?_⟩
  have gt := same_new nt (.tup [.int (leastF ns), .int (mostF ns), .ref u'])
  exact q t _ (g5.trans gt) ⟨t, u', rfl, g5.free nt, nu2, upd_same, vs, gt _ _ eu, ru.imp fun _ _ q => mvS q gt⟩

set_option maxHeartbeats 4000000 in
theorem ok_law_pairs {dV : Value} (F : FunD K "_law_pairs" "_law_pairs" s_law_pairs dV f fd) (D_law_drawn : Dx P w K mg base CX0 1 "_law_drawn" ["_law_cell", "_law_many"] [] spDrawnF) : FnOk P w K mg base CX0 2 f fd ["_law_cell", "_law_many"] spPairsF := by
  have sc : FnScope ["_law_cell", "_law_many", "_law_count", "_law_pairs_here", "_law_x", "_law_i"] ["_law_cell", "_law_many"] (defScope s_law_pairs) := scK (by decide +kernel)
  refine F.ok sc (fun vs H Q E h => ?_) (fun cdv A outer s H vs Q E hr h => ?_)
  · obtain ⟨_, _, rfl, _⟩ := h
    rfl
  obtain ⟨c, m, rfl, m0, m24, q⟩ := h
  refine ⟨_, (pss_cons (ps_set (i := 2) sc.nd rfl (Or.inl rfl) (pe_op op_modN (pv 0) pe_int)) (pss_cons (ps_if (pt_cmpR op_eq (pe_op op_modN (pe_op op_fdivB (pv 0) pe_int) pe_int) pe_int (nomark _)) (pss_one (ps_set (i := 2) sc.nd rfl (Or.inl rfl) pe_int)) pss_nil) (pss_cons (ps_if (pt_cmpR op_lt (pv 1) pe_int (nomark _)) (pss_one (ps_set (i := 2) sc.nd rfl (Or.inl rfl) pe_int)) pss_nil) (pss_cons (ps_set (i := 3) sc.nd rfl (Or.inl rfl) (@pe_lst _ _ _ _ pa_nil)) (pss_cons (ps_for PassesOwn.never rfl (pi_list (pcall0 D_law_drawn hr (by decide) rfl (@pa_cons _ _ _ _ _ (pe_op op_fdivB (pv 0) pe_int) (@pa_cons _ _ _ _ _ (pv 2) pa_nil rfl) rfl))) (pg_name (i := 4) sc.nd rfl (Or.inl rfl)) (pss_cons (ps_set (i := 5) sc.nd rfl (Or.inl rfl) (pe_op op_modN (pv 4) (pv 1))) (pss_one (ps_expr (pe_bm PySem.F.plainAttrs_list PySem.F.slot_list_append PySem.F.type_list_append mt_append (pv 3) (@pa_cons _ _ _ _ _ (@pe_tup _ _ _ _ _ (@pa_cons _ _ _ _ _ (pv 5) (@pa_cons _ _ _ _ _ (pe_op op_modN (pe_op op_add (pe_op op_add (pv 5) pe_int) (pe_op op_modN (pe_op op_fdivB (pv 4) (pv 1)) (pe_op op_sub (pv 1) pe_int))) (pv 1)) pa_nil rfl) rfl)) pa_nil rfl)))))) (pss_one (ps_ret (pv 3)))))))), ?_⟩
  try dsimp only [cxK]
  have sl : sizeLine = 16777216 := sizeLine_eq
  have t6 := fm (a := c) (n := 6) (by decide)
  refine ⟨_, rfl, _, _, rfl, rfl, (by show (6 : Int) ≠ 0; decide), ?_⟩
  dsimp only [gName, tNext]
  refine cut (fun σ H' => H = H' ∧ σ = [some (.int c), some (.int m), some (.int (if (c.fdiv 6).fmod 8 = 1 then 300 else c.fmod 6)), none, none, none]) (fun N hN => ?_) ?_
  · exact ⟨_, rfl, _, _, rfl, rfl, ⟨by decide, PyProof.noPylong_small (by decide)⟩, _, _, rfl, rfl, (by show (8 : Int) ≠ 0; decide), rfl, _, rfl, d2I (fun z => hN _ _ ⟨rfl, by rw [if_pos z]; rfl⟩) fun z => hN _ _ ⟨rfl, by rw [if_neg z]; rfl⟩⟩
  rintro σ H1 ⟨rfl, rfl⟩
  refine cut (fun σ H' => H = H' ∧ σ = [some (.int c), some (.int m), some (.int (pairN c m)), none, none, none]) (fun N hN => ?_) ?_
  · exact ⟨_, rfl, _, _, rfl, rfl, _, rfl, d2 (fun z => hN _ _ ⟨rfl, by unfold pairN; rw [if_pos z]; rfl⟩) fun z => hN _ _ ⟨rfl, by unfold pairN; rw [if_neg z]⟩⟩
  rintro σ H1 ⟨rfl, rfl⟩
  obtain ⟨k0, k3⟩ := pairN_b c m
  have km : m < 2 → pairN c m = 0 := fun z => if_pos z
  generalize hk : pairN c m = k at k0 k3 km ⊢
  refine ⟨(by show 0 ≤ sizeLine; decide), fun l nl => ?_⟩
  have g0 := same_new nl (.lst [])
  have e0 : upd H l (.lst []) l = some (.lst []) := upd_same
  generalize upd H l (.lst []) = H0 at g0 e0 ⊢
  refine ⟨_, rfl, _, _, rfl, rfl, ⟨by decide, PyProof.noPylong_small (by decide)⟩, _, rfl, _, _, rfl, k0, by omega, fun d ns H2 nd g2 en ln dn ed => ?_⟩
  have ge := g0.trans g2
  have l2 := g2 _ _ e0
  refine ⟨d, rfl, ⟨_, SqL.of ed⟩, for_list (xs := ns.map V.int) (fun i σ H' => (∃ o4 o5 : Option V, σ = [some (.int c), some (.int m), some (.int k), some (.ref l), o4, o5]) ∧ Same H H' ∧ H' d = some (.lst (ns.map V.int)) ∧ ∃ (as : List Addr), H' l = some (.lst (as.map V.ref)) ∧ Ref2 (fun t k => H' t = some (.tup (k.map V.int))) as ((ns.take i).map (pairG m))) ⟨⟨none, none, rfl⟩, ge, ed, [], l2, Ref2.nil⟩ (fun i σ H' _ h => SqL.of h.2.2.1) ?_ ?_⟩
  · rintro i y σ H3 hy ⟨⟨o4, o5, rfl⟩, g3, ed3, as, el3, r3⟩
    rw [List.getElem?_map] at hy
    obtain ⟨x, hx, rfl⟩ := Option.map_eq_some_iff.mp hy
    have il := (List.getElem?_eq_some_iff.mp hx).1
    have lB : ((ns.take i).map (pairG m)).length = i := by rw [List.length_map, List.length_take]; omega
    have m2 : 2 ≤ m := by
      by_cases z : m < 2
      · have := km z; omega
      · omega
    have r := fm (a := x) (n := m) (by omega)
    have u := fm (a := x.fdiv m) (n := m - 1) (by omega)
    have w := fm (a := x.fmod m + 1 + (x.fdiv m).fmod (m - 1)) (n := m) (by omega)
    refine ⟨_, rfl, _, rfl, _, _, rfl, rfl, (by omega), ?_⟩
    refine ⟨_, rfl, .inl ⟨rfl, _, SqL.of el3⟩, _, rfl, _, rfl, _, _, rfl, rfl, _, rfl, _, rfl, _, _, rfl, rfl, ⟨by omega, PyProof.noPylong_small (by omega)⟩, _, rfl, _, _, rfl, rfl, _, _, rfl, rfl, (by omega), _, _, rfl, rfl, _, rfl, _, _, rfl, rfl, (by omega), (by show 2 ≤ sizeLine; decide), fun t nt => ?_⟩
    have g4 := same_new nt (.tup [.int (x.fmod m), .int ((x.fmod m + 1 + (x.fdiv m).fmod (m - 1)).fmod m)])
    have et4 : upd H3 t (.tup [.int (x.fmod m), .int ((x.fmod m + 1 + (x.fdiv m).fmod (m - 1)).fmod m)]) t = some (.tup (([x.fmod m, (x.fmod m + 1 + (x.fdiv m).fmod (m - 1)).fmod m] : Ky).map V.int)) := upd_same
    change L2.tNil _ (upd H3 t (.tup [.int (x.fmod m), .int ((x.fmod m + 1 + (x.fdiv m).fmod (m - 1)).fmod m)])) _
    generalize upd H3 t (.tup [.int (x.fmod m), .int ((x.fmod m + 1 + (x.fdiv m).fmod (m - 1)).fmod m)]) = H4 at g4 et4 ⊢
    have el4 := g4 _ _ el3
    have dl : d ≠ l := fun z => by rw [z, e0] at nd; cases nd
    refine ⟨l, _, _, rfl, rfl, el4, by rw [List.length_map, r3.1]; omega, ⟨_, _, rfl⟩, sUpd (g3.trans g4) nl _, by rw [upd_ne dl]; exact g4 _ _ ed3, ?_⟩
    obtain ⟨as2, z1, z2⟩ := tups_snoc (H := H4) el4 (r3.imp fun _ _ q => g4 _ _ q) et4
    refine ⟨as2, z1, ?_⟩
    rw [show (ns.take (i + 1)).map (pairG m) = (ns.take i).map (pairG m) ++ [pairG m x] by rw [List.take_succ, hx, List.map_append]; rfl]
    exact z2
  · rintro σ H3 ⟨⟨o4, o5, rfl⟩, g3, ed3, as, el3, r3⟩
    rw [List.length_map, List.take_length, en] at r3
    refine ⟨_, rfl, q l H3 nl g3 ⟨as, el3, ?_⟩⟩
    unfold pairsF
    rw [hk]
    exact r3

set_option maxHeartbeats 4000000 in
theorem ok_law_arcs {dV : Value} (F : FunD K "_law_arcs" "_law_arcs" s_law_arcs dV f fd) (D_law_cell_at : Dx P w K mg base CX0 1 "_law_cell_at" ["_law_script", "_law_k"] [] (spCellF K)) (D_law_drawn : Dx P w K mg base CX0 1 "_law_drawn" ["_law_cell", "_law_many"] [] spDrawnF) : FnOk P w K mg base CX0 2 f fd ["_law_script", "_law_points"] (spArcsF K) := by
  have sc : FnScope ["_law_script", "_law_points", "_law_many", "_law_arcs_here", "_law_k", "_law_xs", "_law_lag"] ["_law_script", "_law_points"] (defScope s_law_arcs) := scK (by decide +kernel)
  refine F.ok sc (fun vs H Q E h => ?_) (fun cdv A outer s H vs Q E hr h => ?_)
  · obtain ⟨_, _, _, rfl, _⟩ := h
    rfl
  obtain ⟨a, ns, m, rfl, hS, m0, m24, q⟩ := h
  refine ⟨_, (pss_cons (ps_set (i := 2) sc.nd rfl (Or.inl rfl) (pe_op op_modN (pe_op op_fdivB (pcall0 D_law_cell_at hr (by decide) rfl (@pa_cons _ _ _ _ _ (pv 0) (@pa_cons _ _ _ _ _ pe_int pa_nil rfl) rfl)) pe_int) pe_int)) (pss_cons (ps_if (pt_cmpR op_eq (pe_op op_modN (pe_op op_fdivB (pcall0 D_law_cell_at hr (by decide) rfl (@pa_cons _ _ _ _ _ (pv 0) (@pa_cons _ _ _ _ _ pe_int pa_nil rfl) rfl)) pe_int) pe_int) pe_int (nomark _)) (pss_one (ps_set (i := 2) sc.nd rfl (Or.inl rfl) pe_int)) pss_nil) (pss_cons (ps_if (pt_cmpR op_eq (pv 1) pe_int (nomark _)) (pss_one (ps_set (i := 2) sc.nd rfl (Or.inl rfl) pe_int)) pss_nil) (pss_cons (ps_set (i := 3) sc.nd rfl (Or.inl rfl) (@pe_lst _ _ _ _ pa_nil)) (pss_cons (ps_for PassesOwn.never rfl (pi_range1 rfl B.b_range (@pa_cons _ _ _ _ _ (pv 2) pa_nil rfl)) (pg_name (i := 4) sc.nd rfl (Or.inl rfl)) (pss_cons (ps_set (i := 5) sc.nd rfl (Or.inl rfl) (pcall0 D_law_drawn hr (by decide) rfl (@pa_cons _ _ _ _ _ (pe_op op_add (pe_op op_mulB (pcall0 D_law_cell_at hr (by decide) rfl (@pa_cons _ _ _ _ _ (pv 0) (@pa_cons _ _ _ _ _ (pe_op op_add pe_int (pv 4)) pa_nil rfl) rfl)) pe_int) (pv 4)) (@pa_cons _ _ _ _ _ pe_int pa_nil rfl) rfl))) (pss_cons (ps_set (i := 6) sc.nd rfl (Or.inl rfl) (pe_op op_sub (pe_op op_modN (pe_ix ix_list (pv 5) pe_int (fun _ _ => rfl)) (pe_op op_add (pe_op op_mulB pe_int (pe_op op_powB pe_int pe_int)) pe_int)) (pe_op op_powB pe_int pe_int))) (pss_cons (ps_if (pt_cmpR op_eq (pe_op op_modN (pe_ix ix_list (pv 5) pe_int (fun _ _ => rfl)) pe_int) pe_int (nomark _)) (pss_one (ps_set (i := 6) sc.nd rfl (Or.inl rfl) (pe_ix ix_list (@pe_lst _ _ _ _ (@pa_cons _ _ _ _ _ (pe_un un_neg (pe_op op_powB pe_int pe_int)) (@pa_cons _ _ _ _ _ pe_int (@pa_cons _ _ _ _ _ (pe_op op_powB pe_int pe_int) pa_nil rfl) rfl) rfl)) (pe_op op_modN (pe_op op_fdivB (pe_ix ix_list (pv 5) pe_int (fun _ _ => rfl)) pe_int) pe_int) (fun _ _ => rfl)))) pss_nil) (pss_one (ps_expr (pe_bm PySem.F.plainAttrs_list PySem.F.slot_list_append PySem.F.type_list_append mt_append (pv 3) (@pa_cons _ _ _ _ _ (@pe_tup _ _ _ _ _ (@pa_cons _ _ _ _ _ (pe_op op_modN (pe_ix ix_list (pv 5) pe_int (fun _ _ => rfl)) (pv 1)) (@pa_cons _ _ _ _ _ (pe_op op_modN (pe_ix ix_list (pv 5) pe_int (fun _ _ => rfl)) (pv 1)) (@pa_cons _ _ _ _ _ (pv 6) pa_nil rfl) rfl) rfl)) pa_nil rfl)))))))) (pss_one (ps_ret (pv 3)))))))), ?_⟩
  try dsimp only [cxK]
  have sl : sizeLine = 16777216 := sizeLine_eq
  have e9 : (10 : Int) ^ (9 : Int).toNat = 1000000000 := by decide
  refine ⟨_, rfl, a, ns, 1, rfl, hS, (by decide), _, _, rfl, rfl, ⟨by decide, PyProof.noPylong_small (by decide)⟩, _, _, rfl, rfl, (by show (7 : Int) ≠ 0; decide), ?_⟩
  dsimp only [gName, tNext]
  refine cut (fun σ H' => H = H' ∧ σ = [some (.ref a), some (.int m), some (.int (if ((cel ns 1).fdiv 280).fmod 8 = 1 then 600 else ((cel ns 1).fdiv 40).fmod 7)), none, none, none, none]) (fun N hN => ?_) ?_
  · exact ⟨_, rfl, a, ns, 1, rfl, hS, (by decide), _, _, rfl, rfl, ⟨by decide, PyProof.noPylong_small (by decide)⟩, _, _, rfl, rfl, (by show (8 : Int) ≠ 0; decide), rfl, _, rfl, d2I (fun z => hN _ _ ⟨rfl, by rw [if_pos z]; rfl⟩) fun z => hN _ _ ⟨rfl, by rw [if_neg z]; rfl⟩⟩
  rintro σ H1 ⟨rfl, rfl⟩
  refine cut (fun σ H' => H = H' ∧ σ = [some (.ref a), some (.int m), some (.int (arcN (cel ns 1) m)), none, none, none, none]) (fun N hN => ?_) ?_
  · exact ⟨_, rfl, rfl, _, rfl, d2I (fun z => hN _ _ ⟨rfl, by unfold arcN; rw [if_pos z]; rfl⟩) fun z => hN _ _ ⟨rfl, by unfold arcN; rw [if_neg z]⟩⟩
  rintro σ H1 ⟨rfl, rfl⟩
  obtain ⟨k0, k3⟩ := arcN_b (cel ns 1) m
  have km : m = 0 → arcN (cel ns 1) m = 0 := fun z => if_pos z
  generalize hk : arcN (cel ns 1) m = k at k0 k3 km ⊢
  refine ⟨(by show 0 ≤ sizeLine; decide), fun l nl => ?_⟩
  have g0 := same_new nl (.lst [])
  have e0 : upd H l (.lst []) l = some (.lst []) := upd_same
  generalize upd H l (.lst []) = H0 at g0 e0 ⊢
  refine ⟨_, rfl, k, rfl, by omega, by omega, for_range (fun i σ H' => (∃ o4 o5 o6 : Option V, σ = [some (.ref a), some (.int m), some (.int k), some (.ref l), o4, o5, o6]) ∧ Same H H' ∧ ∃ (as : List Addr), H' l = some (.lst (as.map V.ref)) ∧ Ref2 (fun t k => H' t = some (.tup (k.map V.int))) as (arcsG ns m i)) ⟨⟨none, none, none, rfl⟩, g0, [], e0, Ref2.nil⟩ ?_ ?_⟩
  · rintro i σ H3 hi ⟨⟨o4, o5, o6, rfl⟩, g3, as, el3, r3⟩
    have lB : (arcsG ns m i).length = i := by unfold arcsG; rw [List.length_map, List.length_range]
    have m1 : 1 ≤ m := by
      by_cases z : m = 0
      · have := km z; omega
      · omega
    refine ⟨_, rfl, _, rfl, _, _, rfl, rfl, a, ns, _, rfl, (hS.elim (fun z => .inl (z.elim (fun e => .inl (g3 _ _ e)) fun ⟨o, e⟩ => .inr ⟨o, g3 _ _ e⟩)) .inr), (by omega), _, _, rfl, rfl, IntMulOk.of_right (by decide), _, rfl, _, _, rfl, rfl, _, _, rfl, by decide, by decide, fun d xs H4 nd g4 en ln dn ed => ?_⟩
    have l4 : xs.length = 4 := ln
    obtain ⟨z0, h0, _⟩ := dn_at dn (i := 0) (by omega)
    obtain ⟨z1, h1, _⟩ := dn_at dn (i := 1) (by omega)
    obtain ⟨z2, h2, _⟩ := dn_at dn (i := 2) (by omega)
    obtain ⟨z3, h3, _⟩ := dn_at dn (i := 3) (by omega)
    have g34 := g3.trans g4
    have el4 := g4 _ _ el3
    have r4 : Ref2 (fun t k => H4 t = some (.tup (k.map V.int))) as (arcsG ns m i) := r3.imp fun _ _ q => g4 _ _ q
    have ea : arcsG ns m (i + 1) = arcsG ns m i ++ [[z0.fmod m, z1.fmod m, lagF51 z2 z3]] := by
      have e4 : xs = drawF (cel ns (29 + (0 + (i : Int))) * 1024 + (0 + (i : Int))) 4 := en
      unfold arcsG
      rw [List.range_succ, List.map_append, List.map_cons, List.map_nil]
      congr 2
      unfold arcG
      rw [← e4, getDo h0, getDo h1, getDo h2, getDo h3]
    refine ⟨_, rfl, d, _, _, _, rfl, rfl, SqL.of ed, (atI_nat (j := 2) (map_at h2)), _, _, rfl, rfl, ⟨by decide, by decide⟩, _, _, rfl, rfl, IntMulOk.of_right (by decide), _, _, rfl, rfl, _, _, rfl, rfl, (by show (2 * (10 : Int) ^ (9 : Int).toNat + 1) ≠ 0; decide), _, _, rfl, rfl, ⟨by decide, by decide⟩, _, _, rfl, rfl, ?_⟩
    rw [e9]
    dsimp only [gName, tNext]
    refine cut (fun σ H' => Same H4 H' ∧ σ = [some (.ref a), some (.int m), some (.int k), some (.ref l), some (.int (0 + (i : Int))), some (.ref d), some (.int (lagF51 z2 z3))]) (fun N hN => ?_) ?_
    · refine ⟨_, rfl, d, _, _, _, rfl, rfl, SqL.of ed, (atI_nat (j := 3) (map_at h3)), _, _, rfl, rfl, (by show (3 : Int) ≠ 0; decide), rfl, _, rfl, d2I (fun c => ?_) fun c => hN _ _ ⟨.refl _, by rw [show lagF51 z2 z3 = z2.fmod (2 * 1000000000 + 1) - 1000000000 from if_neg c]; rfl⟩⟩
      exact ⟨_, _, rfl, rfl, ⟨by decide, by decide⟩, _, rfl, _, _, rfl, rfl, ⟨by decide, by decide⟩, (by show 3 ≤ sizeLine; decide), fun l5 nl5 => ⟨_, rfl, d, _, _, _, rfl, rfl, SqL.of (same_new nl5 _ _ _ ed), (atI_nat (j := 3) (map_at h3)), _, _, rfl, rfl, ⟨by decide, PyProof.noPylong_small (by decide)⟩, _, _, rfl, rfl, (by show (3 : Int) ≠ 0; decide), l5, _, _, _, rfl, rfl, SqL.of upd_same, (lag51_at e9 c z2), hN _ _ ⟨same_new nl5 _, rfl⟩⟩⟩
    rintro σ H5 ⟨g5, rfl⟩
    have ed5 := g5 _ _ ed
    refine ⟨_, rfl, .inl ⟨rfl, _, SqL.of (g5 _ _ el4)⟩, _, rfl, d, _, _, _, rfl, rfl, SqL.of ed5, (atI_nat (j := 0) (map_at h0)), _, rfl, _, _, rfl, rfl, (by omega), _, rfl, d, _, _, _, rfl, rfl, SqL.of ed5, (atI_nat (j := 1) (map_at h1)), _, rfl, _, _, rfl, rfl, (by omega), _, rfl, (by show 3 ≤ sizeLine; decide), fun t nt => ?_⟩
    have g6 := fun o : HO => same_new nt o
    refine ⟨l, _, _, rfl, rfl, g6 _ _ _ (g5 _ _ el4), by rw [List.length_map, r3.1]; omega, ⟨_, _, _, rfl⟩, sUpd ((g34.trans g5).trans (g6 _)) nl _, ?_⟩
    obtain ⟨as2, y1, y2⟩ := tups_snoc (k := [z0.fmod m, z1.fmod m, lagF51 z2 z3]) (g6 _ _ _ (g5 _ _ el4)) (r4.imp fun _ _ q => g6 _ _ _ (g5 _ _ q)) upd_same
    exact ⟨as2, y1, by rw [ea]; exact y2⟩
  · rintro σ H3 ⟨⟨o4, o5, o6, rfl⟩, g3, as, el3, r3⟩
    refine ⟨_, rfl, q l H3 nl g3 ⟨as, el3, ?_⟩⟩
    unfold arcsF
    rw [hk]
    exact r3

set_option maxHeartbeats 4000000 in
theorem ok_law_made {dV : Value} (F : FunD K "_law_made" "_law_made" s_law_made dV f fd) (D_law_cell_at : Dx P w K mg base CX0 1 "_law_cell_at" ["_law_script", "_law_k"] [] (spCellF K)) (D_law_drawn : Dx P w K mg base CX0 1 "_law_drawn" ["_law_cell", "_law_many"] [] spDrawnF) (D_law_tools : Dx P w K mg base CX0 2 "_law_tools" ["_law_xs"] [] spTools51) (D_law_way : Dx P w K mg base CX0 1 "_law_way" ["_law_xs", "_law_tools_here"] [] spWay51) (D_law_pairs : Dx P w K mg base CX0 2 "_law_pairs" ["_law_cell", "_law_many"] [] spPairsF) (D_law_arcs : Dx P w K mg base CX0 2 "_law_arcs" ["_law_script", "_law_points"] [] (spArcsF K)) : FnOk P w K mg base CX0 4 f fd ["_law_script"] (spMade51 K) := by
  have sc : FnScope ["_law_script", "_law_tools_here", "_law_many", "_law_tasks", "_law_i", "_law_xs", "_law_ways", "_law_moments", "_law_pairs_here"] ["_law_script"] (defScope s_law_made) := scK (by decide +kernel)
  refine F.ok sc (fun vs H Q E h => ?_) (fun cdv A outer s H vs Q E hr h => ?_)
  · obtain ⟨_, _, rfl, _⟩ := h
    rfl
  obtain ⟨a, ns, rfl, hS, q⟩ := h
  refine ⟨_, (pss_cons (ps_set (i := 1) sc.nd rfl (Or.inl rfl) (pcall0 D_law_tools hr (by decide) rfl (@pa_cons _ _ _ _ _ (pcall0 D_law_drawn hr (by decide) rfl (@pa_cons _ _ _ _ _ (pcall0 D_law_cell_at hr (by decide) rfl (@pa_cons _ _ _ _ _ (pv 0) (@pa_cons _ _ _ _ _ pe_int pa_nil rfl) rfl)) (@pa_cons _ _ _ _ _ pe_int pa_nil rfl) rfl)) pa_nil rfl))) (pss_cons (ps_set (i := 2) sc.nd rfl (Or.inl rfl) (pe_op op_modN (pcall0 D_law_cell_at hr (by decide) rfl (@pa_cons _ _ _ _ _ (pv 0) (@pa_cons _ _ _ _ _ pe_int pa_nil rfl) rfl)) pe_int)) (pss_cons (ps_if (pt_cmpR op_eq (pe_op op_modN (pe_op op_fdivB (pcall0 D_law_cell_at hr (by decide) rfl (@pa_cons _ _ _ _ _ (pv 0) (@pa_cons _ _ _ _ _ pe_int pa_nil rfl) rfl)) pe_int) pe_int) pe_int (nomark _)) (pss_one (ps_set (i := 2) sc.nd rfl (Or.inl rfl) pe_int)) pss_nil) (pss_cons (ps_set (i := 3) sc.nd rfl (Or.inl rfl) (@pe_lst _ _ _ _ pa_nil)) (pss_cons (ps_for PassesOwn.never rfl (pi_range1 rfl B.b_range (@pa_cons _ _ _ _ _ (pv 2) pa_nil rfl)) (pg_name (i := 4) sc.nd rfl (Or.inl rfl)) (pss_cons (ps_set (i := 5) sc.nd rfl (Or.inl rfl) (pcall0 D_law_drawn hr (by decide) rfl (@pa_cons _ _ _ _ _ (pe_op op_add (pe_op op_mulB (pcall0 D_law_cell_at hr (by decide) rfl (@pa_cons _ _ _ _ _ (pv 0) (@pa_cons _ _ _ _ _ (pe_op op_add pe_int (pv 4)) pa_nil rfl) rfl)) pe_int) (pv 4)) (@pa_cons _ _ _ _ _ pe_int pa_nil rfl) rfl))) (pss_cons (ps_set (i := 6) sc.nd rfl (Or.inl rfl) (@pe_lst _ _ _ _ (@pa_cons _ _ _ _ _ (pcall0 D_law_way hr (by decide) rfl (@pa_cons _ _ _ _ _ (pe_slice sl_list (pv 5) po_none (po_some pe_int)) (@pa_cons _ _ _ _ _ (pv 1) pa_nil rfl) rfl)) pa_nil rfl))) (pss_cons (ps_if (pt_cmpR op_eq (pe_op op_modN (pe_ix ix_list (pv 5) pe_int (fun _ _ => rfl)) pe_int) pe_int (nomark _)) (pss_one (ps_expr (pe_bm PySem.F.plainAttrs_list PySem.F.slot_list_append PySem.F.type_list_append mt_append (pv 6) (@pa_cons _ _ _ _ _ (pcall0 D_law_way hr (by decide) rfl (@pa_cons _ _ _ _ _ (pe_slice sl_list (pv 5) (po_some pe_int) (po_some pe_int)) (@pa_cons _ _ _ _ _ (pv 1) pa_nil rfl) rfl)) pa_nil rfl)))) pss_nil) (pss_one (ps_expr (pe_bm PySem.F.plainAttrs_list PySem.F.slot_list_append PySem.F.type_list_append mt_append (pv 3) (@pa_cons _ _ _ _ _ (pv 6) pa_nil rfl)))))))) (pss_cons (ps_set (i := 7) sc.nd rfl (Or.inl rfl) (pe_op op_modN (pcall0 D_law_cell_at hr (by decide) rfl (@pa_cons _ _ _ _ _ (pv 0) (@pa_cons _ _ _ _ _ pe_int pa_nil rfl) rfl)) pe_int)) (pss_cons (ps_set (i := 8) sc.nd rfl (Or.inl rfl) (pcall0 D_law_pairs hr (by decide) rfl (@pa_cons _ _ _ _ _ (pe_op op_fdivB (pcall0 D_law_cell_at hr (by decide) rfl (@pa_cons _ _ _ _ _ (pv 0) (@pa_cons _ _ _ _ _ pe_int pa_nil rfl) rfl)) pe_int) (@pa_cons _ _ _ _ _ (pv 2) pa_nil rfl) rfl))) (pss_one (ps_ret (@pe_tup _ _ _ _ _ (@pa_cons _ _ _ _ _ (pv 1) (@pa_cons _ _ _ _ _ (pv 3) (@pa_cons _ _ _ _ _ (pcall0 D_law_arcs hr (by decide) rfl (@pa_cons _ _ _ _ _ (pv 0) (@pa_cons _ _ _ _ _ (pe_op op_add (pe_op op_mulB pe_int (pv 2)) (pv 7)) pa_nil rfl) rfl)) (@pa_cons _ _ _ _ _ (pv 8) (@pa_cons _ _ _ _ _ (pv 7) pa_nil rfl) rfl) rfl) rfl) rfl))))))))))), ?_⟩
  try dsimp only [cxK]
  have sl : sizeLine = 16777216 := sizeLine_eq
  have kb := madeK_b ns
  refine ⟨_, rfl, a, ns, 0, rfl, hS, (by omega), _, _, rfl, by decide, by decide, fun d0 xs0 H1 nd0 g1 e0 l0 dn0 ed0 => ?_⟩
  refine ⟨d0, xs0, rfl, ed0, l0, dn0, fun td H2 g2 ntd etd => ?_⟩
  have e0' : toolsF xs0 = madeD ns := by rw [e0]; rfl
  rw [e0'] at etd
  have tok : TOk 12 (madeD ns) := toolsF_ok _
  have gA := g1.trans g2
  have nT := g1.free ntd
  clear ed0 g1 g2 ntd nd0
  refine ⟨_, rfl, a, ns, 1, rfl, (gA.seq hS), (by omega), _, _, rfl, rfl, (by show (5 : Int) ≠ 0; decide), ?_⟩
  dsimp only [gName, tNext]
  refine cut (fun σ H' => H2 = H' ∧ σ = [some (.ref a), some (.ref td), some (.int (madeK ns)), none, none, none, none, none, none]) (fun N hN => ?_) ?_
  · exact ⟨_, rfl, a, ns, 1, rfl, (gA.seq hS), (by omega), _, _, rfl, rfl, ⟨by decide, PyProof.noPylong_small (by decide)⟩, _, _, rfl, rfl, (by show (8 : Int) ≠ 0; decide), rfl, _, rfl, d2I (fun z => hN _ _ ⟨rfl, by unfold madeK; rw [if_pos z]; rfl⟩) fun z => hN _ _ ⟨rfl, by unfold madeK; rw [if_neg z]; rfl⟩⟩
  rintro σ H3 ⟨rfl, rfl⟩
  refine ⟨(by show 0 ≤ sizeLine; decide), fun tl ntl0 => ?_⟩
  have g3 := same_new ntl0 (.lst [])
  have gB := gA.trans g3
  have ntl := gA.free ntl0
  have hT0 : LsA rTask (fun a => a ≠ tl ∧ H a = none) (upd H2 tl (.lst [])) tl [] := LsA.new
  have etd3 := g3 _ _ etd
  have dtl : td ≠ tl := fun z => by rw [← z, etd] at ntl0; cases ntl0
  generalize upd H2 tl (.lst []) = H3 at g3 gB hT0 etd3 ⊢
  clear g3 gA etd ntl0
  dsimp only [gName, tNext]
  refine cut (fun σ H' => (∃ o4 o5 o6 : Option V, σ = [some (.ref a), some (.ref td), some (.int (madeK ns)), some (.ref tl), o4, o5, o6, none, none]) ∧ Same H H' ∧ H' td = some (.dK (toolK (madeD ns))) ∧ LsA rTask (fun a => a ≠ tl ∧ H a = none) H' tl (madeT' ns)) (fun N hN => ?_) ?_
  · refine ⟨_, rfl, _, rfl, by omega, by omega, for_range (fun i σ H' => (∃ o4 o5 o6 : Option V, σ = [some (.ref a), some (.ref td), some (.int (madeK ns)), some (.ref tl), o4, o5, o6, none, none]) ∧ Same H H' ∧ H' td = some (.dK (toolK (madeD ns))) ∧ LsA rTask (fun a => a ≠ tl ∧ H a = none) H' tl (madeT ns i)) ⟨⟨none, none, none, rfl⟩, gB, etd3, hT0⟩ ?_ ?_⟩
    · rintro i σ H4 hi ⟨⟨o4, o5, o6, rfl⟩, g4, etd4, vs, el4, rT⟩
      have eT : madeT ns (i + 1) = madeT ns i ++ [taskG (cel ns (5 + (0 + (i : Int))) * 64 + (0 + (i : Int))) (madeD ns)] := by unfold madeT; rw [List.range_succ, List.map_append]; rfl
      have lT : (madeT ns i).length = i := by unfold madeT; rw [List.length_map, List.length_range]
      refine ⟨_, rfl, _, rfl, _, _, rfl, rfl, a, ns, _, rfl, (g4.seq hS), (by omega), _, _, rfl, rfl, IntMulOk.of_right (by decide), _, rfl, _, _, rfl, rfl, _, _, rfl, by decide, by decide, fun d xs H5 nd g5 ex lx dx ed => ?_⟩
      have lx33 : xs.length = 33 := lx
      have ex33 : drawF (cel ns (5 + (0 + (i : Int))) * 64 + (0 + (i : Int))) 33 = xs := ex.symm
      have c1 : cutV (xs.map V.int) none (some 16) = (xs.take 16).map V.int := by rw [cutT51 (by decide), List.map_take]; rfl
      have c2 : cutV (xs.map V.int) (some 16) (some 32) = ((xs.drop 16).take 16).map V.int := by rw [cut_16 (by rw [List.length_map]; omega), List.map_take, List.map_drop]
      obtain ⟨z, hz, _⟩ := dn_at dx (i := 32) (by omega)
      have gz : xs.getD 32 0 = z := getDo hz
      have g45 := g4.trans g5
      refine ⟨_, rfl, _, rfl, d, _, rfl, SqL.of ed, fun p1 np1 => ?_⟩
      rw [c1]
      have g6 := same_new np1 (.lst ((xs.take 16).map V.int))
      refine ⟨_, rfl, p1, td, xs.take 16, madeD ns, rfl, upd_same, by rw [List.length_take]; omega, g6 _ _ (g5 _ _ etd4), tok, fun t1 H6 g7 w1 => ⟨(by show 1 ≤ sizeLine; decide), fun wl nwl => ?_⟩⟩
      have g57 := g6.trans g7
      have gC := g45.trans g57
      have g8 := same_new nwl (.lst [.ref t1])
      have w1' : rWay (fun a => a ≠ wl ∧ a ≠ tl ∧ H a = none) H6 (.ref t1) (wayG (xs.take 16) (madeD ns)) := by
        have := mvT w1
        exact mvP this fun a h => ⟨(fun z => by rw [z] at h; exact h.2 nwl), (fun z => by rw [z, g6 _ _ (g5 _ _ el4)] at h; cases h.1), (g45.trans g6).free h.1⟩
      have hW : LsA rWay (fun a => a ≠ wl ∧ a ≠ tl ∧ H a = none) (upd H6 wl (.lst [.ref t1])) wl [wayG (xs.take 16) (madeD ns)] := ⟨_, upd_same, A2.one (mvS w1' g8)⟩
      have gD := gC.trans g8
      have ed7 := g8 _ _ (g57 _ _ ed)
      have etd7 := g8 _ _ (g57 _ _ (g5 _ _ etd4))
      have el7 := g8 _ _ (g57 _ _ (g5 _ _ el4))
      have rT7 := rT.imp fun _ _ q => mvS q ((g5.trans g57).trans g8)
      have nwl0 := gC.free nwl
      have nwl4 := (g5.trans g57).free nwl
      have gE := (g5.trans g57).trans g8
      have wtl : wl ≠ tl := fun z => by rw [z, g57 _ _ (g5 _ _ el4)] at nwl; cases nwl
      generalize upd H6 wl (.lst [.ref t1]) = H7 at g8 gD gE hW ed7 etd7 el7 rT7 ⊢
      clear g57 g6 g7 gC w1 w1' g8 el4
      dsimp only [gName, tNext]
      refine cut (fun σ H' => σ = [some (.ref a), some (.ref td), some (.int (madeK ns)), some (.ref tl), some (.int (0 + (i : Int))), some (.ref d), some (.ref wl), none, none] ∧ Same H H' ∧ H' td = some (.dK (toolK (madeD ns))) ∧ H' tl = some (.lst vs) ∧ A2 (rTask (fun a => a ≠ tl ∧ H a = none) H') vs (madeT ns i) ∧ LsA rWay (fun a => a ≠ wl ∧ a ≠ tl ∧ H a = none) H' wl (taskG (cel ns (5 + (0 + (i : Int))) * 64 + (0 + (i : Int))) (madeD ns))) (fun N hN => ?_) ?_
      · refine ⟨_, rfl, d, _, _, _, rfl, rfl, SqL.of ed7, (atI_nat (j := 32) (map_at hz)), _, _, rfl, rfl, (by show (2 : Int) ≠ 0; decide), rfl, _, rfl, d2I (fun c => ?_) fun c => ?_⟩
        · have eG : taskG (cel ns (5 + (0 + (i : Int))) * 64 + (0 + (i : Int))) (madeD ns) = [wayG (xs.take 16) (madeD ns), wayG ((xs.drop 16).take 16) (madeD ns)] := by unfold taskG; rw [ex33, gz, if_pos c]
          rw [eG] at hN
          obtain ⟨us, eu, ru⟩ := hW
          refine ⟨_, rfl, .inl ⟨rfl, _, SqL.of eu⟩, _, rfl, _, rfl, _, rfl, d, _, rfl, SqL.of ed7, fun p2 np2 => ?_⟩
          rw [c2]
          have h6 := same_new np2 (.lst (((xs.drop 16).take 16).map V.int))
          refine ⟨_, rfl, p2, td, (xs.drop 16).take 16, madeD ns, rfl, upd_same, by rw [List.length_take, List.length_drop]; omega, h6 _ _ etd7, tok, fun t2 H8 h7 w2 => ?_⟩
          have h67 := h6.trans h7
          have nwl7 : ∀ a, H7 a = none → a ≠ wl := fun a h z => by rw [z, eu] at h; cases h
          have ntl7 : ∀ a, H7 a = none → a ≠ tl := fun a h z => by rw [z, el7] at h; cases h
          refine ⟨wl, _, _, rfl, rfl, h67 _ _ eu, (by rw [ru.1]; show 1 < _; omega), hN _ _ ⟨rfl, sUpd (gD.trans h67) nwl0 _, by rw [upd_ne (fun z => by rw [z, eu] at etd7; cases etd7)]; exact h67 _ _ etd7, by rw [upd_ne (Ne.symm wtl)]; exact h67 _ _ el7, ?_, ?_⟩⟩
          · exact rT.imp fun _ _ q => mvP (mvU (mvS (mvT q) (gE.trans h67)) (fun z => z.2 nwl4) _) fun a h => h.1
          · exact LsA.put (fun z => z.1 rfl) (ru.imp fun _ _ q => mvS q h67) (mvP w2 fun a h => ⟨nwl7 a (h6.free h), ntl7 a (h6.free h), gD.free (h6.free h)⟩)
        · have eG : taskG (cel ns (5 + (0 + (i : Int))) * 64 + (0 + (i : Int))) (madeD ns) = [wayG (xs.take 16) (madeD ns)] := by unfold taskG; rw [ex33, gz, if_neg c]
          rw [eG] at hN
          exact hN _ _ ⟨rfl, gD, etd7, el7, rT7, hW⟩
      rintro σ H8 ⟨rfl, g8, etd8, el8, rT8, hW8⟩
      have sz : vs.length < sizeLine := by rw [rT8.1, lT]; omega
      refine ⟨_, rfl, .inl ⟨rfl, _, SqL.of el8⟩, _, rfl, tl, _, _, rfl, rfl, el8, sz, ⟨_, _, _, rfl⟩, sUpd g8 ntl _, by rw [upd_ne dtl]; exact etd8, ?_⟩
      rw [eT]
      exact LsA.put (fun z => z.1 rfl) rT8 ⟨wl, rfl, ⟨wtl, nwl0⟩, hW8.mono fun a h => h.2⟩
    · rintro σ H4 ⟨⟨o4, o5, o6, rfl⟩, g4, etd4, hT⟩
      exact hN _ _ ⟨⟨_, _, _, rfl⟩, g4, etd4, hT⟩
  rintro σ H4 ⟨⟨o4, o5, o6, rfl⟩, g4, etd4, hT⟩
  refine ⟨_, rfl, a, ns, 2, rfl, (g4.seq hS), (by omega), _, _, rfl, rfl, (by show (9 : Int) ≠ 0; decide), ?_⟩
  refine ⟨_, rfl, a, ns, 2, rfl, (g4.seq hS), (by omega), _, _, rfl, rfl, ⟨by decide, PyProof.noPylong_small (by decide)⟩, _, rfl, _, _, rfl, by omega, by omega, fun pl H5 npl g5 hB => ?_⟩
  have gF := g4.trans g5
  have km : 0 ≤ 2 * madeK ns + madeM ns ∧ 2 * madeK ns + madeM ns ≤ 1000 := by
    have m := fm (a := cel ns 2) (n := 9) (by decide)
    unfold madeM
    omega
  have ptl : tl ≠ pl := fun z => by
    obtain ⟨_, e, _⟩ := hT
    rw [← z, e] at npl
    cases npl
  refine ⟨_, rfl, _, rfl, _, rfl, _, rfl, _, _, rfl, rfl, IntMulOk.of_left (by decide), _, rfl, _, _, rfl, rfl, a, ns, _, rfl, gF.seq hS, km.1, km.2, fun al H6 nal g6 hA => ?_⟩
  have atl : tl ≠ al := fun z => by
    obtain ⟨_, e, _⟩ := hT
    rw [← z, g5 _ _ e] at nal
    cases nal
  refine ⟨_, rfl, _, rfl, (by show 5 ≤ sizeLine; decide), fun t nt => ?_⟩
  have g7 := same_new nt (.tup [.ref td, .ref tl, .ref al, .ref pl, .int (madeM ns)])
  exact q t _ ((gF.trans g6).trans g7) ⟨td, tl, al, pl, upd_same, g7 _ _ (g6 _ _ (g5 _ _ etd4)), ((hT.same g5).same g6).same g7, hA.same g7, (hB.same g6).same g7, atl, ptl, nT, ntl, gF.free nal, g4.free npl⟩

set_option maxHeartbeats 4000000 in
theorem ok_law_full {dV : Value} (F : FunD K "_law_full" "_law_full" s_law_full dV f fd)  : FnOk P w K mg base CX0 1 f fd ["_law_made_here"] spFull51 := by
  have sc : FnScope ["_law_made_here", "_law_tools_here", "_law_tasks", "_law_arcs_here", "_law_pairs_here", "_law_moments"] ["_law_made_here"] (defScope s_law_full) := scK (by decide +kernel)
  refine F.ok sc (fun vs H Q E h => ?_) (fun cdv A outer s H vs Q E hr h => ?_)
  · obtain ⟨_, _, _, _, _, _, _, rfl, _⟩ := h
    rfl
  obtain ⟨t, P0, D, T, A2', B2, n, rfl, M, tok, t24, ft, q⟩ := h
  refine ⟨_, (pss_cons (ps_asg (pv 0) (pg_tup rfl (pgs_cons (pg_name (i := 1) sc.nd rfl (Or.inl rfl)) (pgs_cons (pg_name (i := 2) sc.nd rfl (Or.inl rfl)) (pgs_cons (pg_name (i := 3) sc.nd rfl (Or.inl rfl)) (pgs_cons (pg_name (i := 4) sc.nd rfl (Or.inl rfl)) (pgs_cons (pg_name (i := 5) sc.nd rfl (Or.inl rfl)) pgs_nil))))))) (pss_cons (ps_if (pt_cmpR (op_eqTlE (hu_of hr)) (pv 1) pe_dnewK (nomark _)) (pss_one (ps_dput (hu_of hr) (pv 1) pe_str pe_int rfl)) pss_nil) (pss_cons (ps_while PassesOwn.never (pt_cmpR op_lt (pe_callB call_len_seq rfl B.b_len boot_len (@pa_cons _ _ _ _ _ (pv 2) pa_nil rfl)) pe_int (nomark _)) (pss_one (ps_expr (pe_bm PySem.F.plainAttrs_list PySem.F.slot_list_append PySem.F.type_list_append mt_append (pv 2) (@pa_cons _ _ _ _ _ (@pe_lst _ _ _ _ (@pa_cons _ _ _ _ _ (@pe_tup _ _ _ _ _ (@pa_cons _ _ _ _ _ pe_int (@pa_cons _ _ _ _ _ pe_int (@pa_cons _ _ _ _ _ (@pe_lst _ _ _ _ (@pa_cons _ _ _ _ _ (@pe_tup _ _ _ _ _ (@pa_cons _ _ _ _ _ (pe_ix ix_list (pe_callTy (call_listD rfl) rfl B.b_list boot_list (@pa_cons _ _ _ _ _ (pv 1) pa_nil rfl)) pe_int (fun _ _ => rfl)) (@pa_cons _ _ _ _ _ pe_int (@pa_cons _ _ _ _ _ pe_int pa_nil rfl) rfl) rfl)) pa_nil rfl)) pa_nil rfl) rfl) rfl)) pa_nil rfl)) pa_nil rfl))))) (pss_one (ps_ret (@pe_tup _ _ _ _ _ (@pa_cons _ _ _ _ _ (pv 1) (@pa_cons _ _ _ _ _ (pv 2) (@pa_cons _ _ _ _ _ (pv 3) (@pa_cons _ _ _ _ _ (pv 4) (@pa_cons _ _ _ _ _ (pv 5) pa_nil rfl) rfl) rfl) rfl) rfl))))))), ?_⟩
  try dsimp only [cxK]
  have sl : sizeLine = 16777216 := sizeLine_eq
  obtain ⟨td, tl, al, pl, et, etd, hT, hA, hB, n1, n2, p1, p2, p3, p4⟩ := M.ex
  refine ⟨_, rfl, t, _, rfl, SqT.of et, rfl, _, _, rfl, _, _, rfl, _, _, rfl, _, _, rfl, _, _, rfl, rfl, ?_⟩
  dsimp only [gName, tNext]
  refine cut (fun σ H' => σ = [some (.ref t), some (.ref td), some (.ref tl), some (.ref al), some (.ref pl), some (.int n)] ∧ ∃ D1 : Tl, Spl P0 H H' ∧ H' td = some (.dK (toolK D1)) ∧ 1 ≤ D1.length ∧ TOk 12 D1 ∧ LsA rTask (fun a => a ≠ tl) H' tl T ∧ TupsA H' al A2' ∧ TupsA H' pl B2) (fun N hN => ?_) ?_
  · refine ⟨_, rfl, fun b nb => ?_⟩
    have g1 := same_new nb (.dK [])
    have etd1 := g1 _ _ etd
    have hT1 := (hT.mono (fun a h => h.1)).same g1
    have hA1 := hA.same g1
    have hB1 := hB.same g1
    have s1 : Spl P0 H _ := Spl.of g1
    refine ⟨td, b, D, rfl, rfl, etd1, upd_same, _, rfl, ?_⟩
    cases D with
    | nil =>
      refine iteT ⟨_, rfl, td, _, rfl, DPut.k (k := .inr "q") etd1 ?_, ?_⟩
      · show 0 < sizeLine
        omega
      have eP : putK (toolK []) (.inr "q") (.int 3) = toolK [("q", 3)] := rfl
      rw [eP]
      exact hN _ _ ⟨rfl, [("q", 3)], s1.upd p1 etd1 rfl _, upd_same, Nat.le_refl 1, tok_q, hT1.sq (upd_sqD etd1 _), hA1.sq (upd_sqD etd1 _), hB1.sq (upd_sqD etd1 _)⟩
    | cons p D => exact iteF (hN _ _ ⟨rfl, _, s1, etd1, by simp, tok, hT1, hA1, hB1⟩)
  rintro σ H1 ⟨rfl, D1, s1, etd1, d1, tok1, hT1, hA1, hB1⟩
  clear hT hA hB etd tok
  try dsimp only [gName, tNext]
  refine cut (fun σ H' => σ = [some (.ref t), some (.ref td), some (.ref tl), some (.ref al), some (.ref pl), some (.int n)] ∧ ∃ T' : Tk, Spl P0 H H' ∧ H' td = some (.dK (toolK D1)) ∧ LsA rTask (fun a => a ≠ tl) H' tl T' ∧ TupsA H' al A2' ∧ TupsA H' pl B2 ∧ 2 ≤ T'.length ∧ T'.length ≤ 24 ∧ FT T') (fun N hN => ?_) ?_
  · refine ⟨fun m σ H' => σ = [some (.ref t), some (.ref td), some (.ref tl), some (.ref al), some (.ref pl), some (.int n)] ∧ ∃ T' : Tk, m = 2 - T'.length ∧ Spl P0 H H' ∧ H' td = some (.dK (toolK D1)) ∧ LsA rTask (fun a => a ≠ tl) H' tl T' ∧ TupsA H' al A2' ∧ TupsA H' pl B2 ∧ T'.length ≤ 24 ∧ FT T', ⟨_, rfl, T, rfl, s1, etd1, hT1, hA1, hB1, t24, ft⟩, ?_⟩
    clear hT1 hA1 hB1 etd1 s1 t24 ft
    rintro m σ H2 ⟨rfl, T', rfl, s2, etd2, ⟨vs, el, r⟩, hA2, hB2, t24, ft⟩
    refine ⟨_, rfl, tl, _, rfl, .inl (SqL.of el), _, _, rfl, rfl, _, rfl, d2 (fun c => ?_) fun c => hN _ _ ⟨rfl, T', s2, etd2, ⟨vs, el, r⟩, hA2, hB2, by rw [r.1] at c; omega, t24, ft⟩⟩
    have lv : vs.length = T'.length := r.1
    refine ⟨_, fun σ' H' h => h, ?_⟩
    have kn : ((toolK D1).map fun p => kV p.1) = D1.map fun p => V.str p.1 := by unfold toolK; rw [List.map_map]; rfl
    have h0 := List.getElem?_eq_getElem d1
    generalize D1[0] = p at h0
    have at0 : atI (D1.map fun p => V.str p.1) 0 = some (.str p.1) := atI_nat (j := 0) (map_at (f := fun p : Str × Int => V.str p.1) h0)
    refine ⟨_, rfl, .inl ⟨rfl, _, SqL.of el⟩, _, rfl, td, _, rfl, etd2, fun nl nnl => ?_⟩
    rw [kn]
    have ga := same_new nnl (.lst (D1.map fun p => V.str p.1))
    refine ⟨nl, _, _, _, rfl, rfl, SqL.of upd_same, at0, (by show 3 ≤ sizeLine; decide), fun a na => ⟨(by show 1 ≤ sizeLine; decide), fun u nu => ⟨(by show 3 ≤ sizeLine; decide), fun t1 nt => ⟨(by show 1 ≤ sizeLine; decide), fun wl nwl => ?_⟩⟩⟩⟩
    generalize upd H2 nl (.lst (D1.map fun p => V.str p.1)) = H3 at ga na nu nt nwl ⊢
    have gb := same_new na (.tup [.str p.1, .int 1, .int 0])
    have ea : upd H3 a (.tup [.str p.1, .int 1, .int 0]) a = some (.tup [.str p.1, .int 1, .int 0]) := upd_same
    generalize upd H3 a (.tup [.str p.1, .int 1, .int 0]) = H4 at gb ea nu nt nwl ⊢
    have gc := same_new nu (.lst [.ref a])
    have eu : upd H4 u (.lst [.ref a]) u = some (.lst [.ref a]) := upd_same
    generalize upd H4 u (.lst [.ref a]) = H5 at gc eu nt nwl ⊢
    have gd := same_new nt (.tup [.int 1, .int 5, .ref u])
    have e1 : upd H5 t1 (.tup [.int 1, .int 5, .ref u]) t1 = some (.tup [.int 1, .int 5, .ref u]) := upd_same
    generalize upd H5 t1 (.tup [.int 1, .int 5, .ref u]) = H6 at gd e1 nwl ⊢
    have ge := same_new nwl (.lst [.ref t1])
    have ew : upd H6 wl (.lst [.ref t1]) wl = some (.lst [.ref t1]) := upd_same
    generalize upd H6 wl (.lst [.ref t1]) = H7 at ge ew ⊢
    have gac := ga.trans (gb.trans gc)
    have gg := (gac.trans gd).trans ge
    have el7 := gg _ _ el
    have nz : ∀ {b : Addr} {K' : Hp}, Same H2 K' → K' b = none → b ≠ tl := fun g h z => by rw [z, g _ _ el] at h; cases h
    have hw : rTask (fun b => b ≠ tl) H7 (.ref wl) [(1, 5, [(p.1, 1, 0)])] := ⟨wl, rfl, nz (gac.trans gd) nwl, _, ew, A2.one ⟨t1, u, rfl, nz gac nt, nz (ga.trans gb) nu, ge _ _ e1, _, ge _ _ (gd _ _ eu), A2.one ⟨a, rfl, nz ga na, ge _ _ (gd _ _ (gc _ _ ea))⟩⟩⟩
    refine ⟨tl, _, _, rfl, rfl, el7, by omega, _, ?_, rfl, T' ++ [[(1, 5, [(p.1, 1, 0)])]], rfl, (s2.trans (Spl.of gg)).upd p2 el7 rfl _, ?_, LsA.put (fun z => z rfl) (r.imp fun _ _ q => mvS q gg) hw, (hA2.same gg).updL el7 (Ne.symm n1) _, (hB2.same gg).updL el7 (Ne.symm n2) _, ?_, fun ws hws => ?_⟩
    · rw [List.length_append]
      show _ - (_ + 1) < _
      rw [lv] at c
      omega
    · rw [upd_ne (fun z => by rw [z, el] at etd2; cases etd2)]
      exact gg _ _ etd2
    · rw [List.length_append]
      show _ + 1 ≤ _
      rw [lv] at c
      omega
    · rcases List.mem_append.mp hws with h | h
      · exact ft ws h
      · rw [List.mem_singleton.mp h]
        exact ⟨Nat.le_refl 1, by show 1 ≤ 2; decide, fun w hw => by rw [List.mem_singleton.mp hw]; show 1 ≤ 12; decide⟩
  rintro σ H2 ⟨rfl, T', s2, etd2, hT2, hA2, hB2, t2, t24', ft'⟩
  refine ⟨_, rfl, _, rfl, _, rfl, _, rfl, _, rfl, (by show 5 ≤ sizeLine; decide), fun t' nt => ?_⟩
  have g := same_new nt (.tup [.ref td, .ref tl, .ref al, .ref pl, .int n])
  exact q t' _ D1 T' (s2.trans (Spl.of g)) ⟨td, tl, al, pl, upd_same, g _ _ etd2, (hT2.same g).any, hA2.same g, hB2.same g⟩ ⟨d1, tok1, t2, t24', ft'⟩

set_option maxHeartbeats 4000000 in
theorem ok_law_bad_way {dV : Value} (F : FunD K "_law_bad_way" "_law_bad_way" s_law_bad_way dV f fd)  : FnOk P w K mg base CX0 1 f fd ["_law_way_here", "_law_kind", "_law_x", "_law_tools_here"] spBadWay := by
  have sc : FnScope ["_law_way_here", "_law_kind", "_law_x", "_law_tools_here", "_law_least", "_law_most", "_law_uses", "_law_tool", "_law_rest", "_law_bad", "_law_at"] ["_law_way_here", "_law_kind", "_law_x", "_law_tools_here"] (defScope s_law_bad_way) := scK (by decide +kernel)
  refine F.ok sc (fun vs H Q E h => ?_) (fun cdv A outer s H vs Q E hr h => ?_)
  · obtain ⟨_, _, _, _, _, _, rfl, _⟩ := h
    rfl
  obtain ⟨v, k, x, td, D, w, rfl, ⟨t, u, rfl, _, _, et, us, eu, ru⟩, etd, tok, d1, l12, k5, k13, x0, x1, q⟩ := h
  refine ⟨_, (pss_cons (ps_asg (pv 0) (pg_tup rfl (pgs_cons (pg_name (i := 4) sc.nd rfl (Or.inl rfl)) (pgs_cons (pg_name (i := 5) sc.nd rfl (Or.inl rfl)) (pgs_cons (pg_name (i := 6) sc.nd rfl (Or.inl rfl)) pgs_nil))))) (pss_cons (ps_set (i := 7) sc.nd rfl (Or.inr rfl) (pe_ix ix_list (pe_callTy (call_listD rfl) rfl B.b_list boot_list (@pa_cons _ _ _ _ _ (pv 3) pa_nil rfl)) (pe_op op_modN (pv 2) (pe_callB call_lenD1 rfl B.b_len boot_len (@pa_cons _ _ _ _ _ (pv 3) pa_nil rfl))) (fun _ _ => rfl))) (pss_cons (ps_if (pt_cmpR op_eq (pv 1) pe_int (nomark _)) (pss_one (ps_ret (@pe_tup _ _ _ _ _ (@pa_cons _ _ _ _ _ (pe_op op_sub pe_int (pe_op op_modN (pe_op op_fdivB (pv 2) pe_int) pe_int)) (@pa_cons _ _ _ _ _ (pv 5) (@pa_cons _ _ _ _ _ (pv 6) pa_nil rfl) rfl) rfl)))) pss_nil) (pss_cons (ps_if (pt_cmpR op_eq (pv 1) pe_int (nomark _)) (pss_one (ps_ret (@pe_tup _ _ _ _ _ (@pa_cons _ _ _ _ _ (pv 4) (@pa_cons _ _ _ _ _ (pe_op op_sub (pv 4) pe_int) (@pa_cons _ _ _ _ _ (pv 6) pa_nil rfl) rfl) rfl)))) pss_nil) (pss_cons (ps_if (pt_cmpR op_eq (pv 1) pe_int (nomark _)) (pss_one (ps_ret (@pe_tup _ _ _ _ _ (@pa_cons _ _ _ _ _ (pv 4) (@pa_cons _ _ _ _ _ (pe_op op_add (pe_op op_add (pe_op op_powB pe_int pe_int) pe_int) (pe_op op_modN (pv 2) pe_int)) (@pa_cons _ _ _ _ _ (pv 6) pa_nil rfl) rfl) rfl)))) pss_nil) (pss_cons (ps_compIf sc.nd (i := 8) rfl rfl (own := "_law_use") (ys := ["_law_tool"]) (js := [7]) rfl (cok (atc atn) (.cons rfl .nil) (by decide) rfl rfl rfl rfl rfl rfl rfl rfl) (pi_list (pv 6)) (fun C fp s H => (pt_cmpR op_ne (pe_ix (ix_tupB (K := K) rfl) (pv 0) pe_int (fun _ _ => rfl)) (pv 1) (nomark _))) (fun C fp s H => (pv 0))) (pss_cons (ps_set (i := 9) sc.nd rfl (Or.inl rfl) (@pe_lst _ _ _ _ (@pa_cons _ _ _ _ _ (@pe_tup _ _ _ _ _ (@pa_cons _ _ _ _ _ pe_str (@pa_cons _ _ _ _ _ pe_int (@pa_cons _ _ _ _ _ pe_int pa_nil rfl) rfl) rfl)) (@pa_cons _ _ _ _ _ (@pe_tup _ _ _ _ _ (@pa_cons _ _ _ _ _ (pv 7) (@pa_cons _ _ _ _ _ pe_int (@pa_cons _ _ _ _ _ pe_int pa_nil rfl) rfl) rfl)) (@pa_cons _ _ _ _ _ (@pe_tup _ _ _ _ _ (@pa_cons _ _ _ _ _ (pv 7) (@pa_cons _ _ _ _ _ (pe_op op_sub pe_int (pe_op op_modN (pe_op op_fdivB (pv 2) pe_int) pe_int)) (@pa_cons _ _ _ _ _ pe_int pa_nil rfl) rfl) rfl)) (@pa_cons _ _ _ _ _ (@pe_tup _ _ _ _ _ (@pa_cons _ _ _ _ _ (pv 7) (@pa_cons _ _ _ _ _ (pe_op op_add (pe_dget (hu_of hr) (pv 3) (pv 7) (fun _ _ => rfl)) pe_int) (@pa_cons _ _ _ _ _ pe_int pa_nil rfl) rfl) rfl)) pa_nil rfl) rfl) rfl) rfl))) (pss_cons (ps_set (i := 9) sc.nd rfl (Or.inl rfl) (pe_op op_cat (pv 9) (@pe_lst _ _ _ _ (@pa_cons _ _ _ _ _ (@pe_tup _ _ _ _ _ (@pa_cons _ _ _ _ _ (pv 7) (@pa_cons _ _ _ _ _ pe_int (@pa_cons _ _ _ _ _ (pe_op op_sub (pe_un un_neg pe_int) (pe_op op_modN (pe_op op_fdivB (pv 2) pe_int) pe_int)) pa_nil rfl) rfl) rfl)) (@pa_cons _ _ _ _ _ (@pe_tup _ _ _ _ _ (@pa_cons _ _ _ _ _ (pv 7) (@pa_cons _ _ _ _ _ pe_int (@pa_cons _ _ _ _ _ (pe_op op_add (pe_op op_powB pe_int pe_int) pe_int) pa_nil rfl) rfl) rfl)) pa_nil rfl) rfl)))) (pss_cons (ps_if (pt_cmpR op_eq (pv 1) pe_int (nomark _)) (pss_one (ps_set (i := 8) sc.nd rfl (Or.inl rfl) (pe_op op_cat (@pe_lst _ _ _ _ (@pa_cons _ _ _ _ _ (@pe_tup _ _ _ _ _ (@pa_cons _ _ _ _ _ (pv 7) (@pa_cons _ _ _ _ _ pe_int (@pa_cons _ _ _ _ _ pe_int pa_nil rfl) rfl) rfl)) pa_nil rfl)) (pv 8)))) pss_nil) (pss_cons (ps_set (i := 10) sc.nd rfl (Or.inl rfl) (pe_op op_modN (pe_op op_fdivB (pv 2) pe_int) (pe_op op_add (pe_callB call_len_seq rfl B.b_len boot_len (@pa_cons _ _ _ _ _ (pv 8) pa_nil rfl)) pe_int))) (pss_one (ps_ret (@pe_tup _ _ _ _ _ (@pa_cons _ _ _ _ _ (pv 4) (@pa_cons _ _ _ _ _ (pv 5) (@pa_cons _ _ _ _ _ (pe_op op_cat (pe_op op_cat (pe_slice sl_list (pv 8) po_none (po_some (pv 10))) (@pe_lst _ _ _ _ (@pa_cons _ _ _ _ _ (pe_ix ix_list (pv 9) (pe_op op_sub (pv 1) pe_int) (fun _ _ => rfl)) pa_nil rfl))) (pe_slice sl_list (pv 8) (po_some (pv 10)) po_none)) pa_nil rfl) rfl) rfl)))))))))))))), ?_⟩
  try dsimp only [cxK]
  have sl : sizeLine = 16777216 := sizeLine_eq
  have e9 : (10 : Int) ^ (9 : Int).toNat = 1000000000 := by decide
  refine ⟨_, rfl, t, _, rfl, SqT.of et, rfl, _, _, rfl, _, _, rfl, _, _, rfl, rfl, ?_⟩
  have kn : ((toolK D).map fun p => kV p.1) = D.map fun p => V.str p.1 := by unfold toolK; rw [List.map_map]; rfl
  refine ⟨_, rfl, td, _, rfl, etd, fun nl nnl => ?_⟩
  rw [kn]
  have ga := same_new nnl (.lst (D.map fun p => V.str p.1))
  have en : upd H nl (.lst (D.map fun p => V.str p.1)) nl = some (.lst (D.map fun p => V.str p.1)) := upd_same
  have etd1 := ga _ _ etd
  generalize upd H nl (.lst (D.map fun p => V.str p.1)) = H1 at ga en etd1 ⊢
  have mD := fm (a := x) (n := (D.length : Int)) (by omega)
  obtain ⟨i, hi⟩ := Int.eq_ofNat_of_zero_le mD.1
  have il : i < D.length := by omega
  have h0 := List.getElem?_eq_getElem il
  have mem := List.getElem_mem il
  generalize D[i] = p at h0 mem
  have at0 : atI (D.map fun p => V.str p.1) (x.fmod (D.length : Int)) = some (.str p.1) := by rw [hi]; exact atI_nat (map_at (f := fun p : Str × Int => V.str p.1) h0)
  have hm := manyOf_of tok.nd (show (p.1, p.2) ∈ D from mem)
  refine ⟨_, rfl, _, rfl, td, _, rfl, etd1, _, _, rfl, rfl, (by rw [toolK_len]; omega), nl, _, _, _, rfl, rfl, SqL.of en, (by rw [toolK_len]; exact at0), ?_⟩
  clear en kn at0
  have eu1 := ga _ _ eu
  have ru1 := ru.imp fun _ _ q => mvS q ga
  try dsimp only [gName, tNext]
  have m3 := fm (a := x.fdiv 2) (n := 3) (by decide)
  have m3' := fm (a := x) (n := 3) (by decide)
  have wy : ∀ {H' : Hp} {t' u' : Addr} {a b : Int} {vs : List V} {L : List Us}, H' t' = some (.tup [.int a, .int b, .ref u']) → H' u' = some (.lst vs) → A2 (rUse An H') vs L → rWay An H' (.ref t') (a, b, L) := fun e1 e2 r => ⟨_, _, rfl, trivial, trivial, e1, _, e2, r⟩
  refine cut (fun σ H' => H1 = H' ∧ σ = [some (.ref t), some (.int k), some (.int x), some (.ref td), some (.int w.1), some (.int w.2.1), some (.ref u), some (.str p.1), none, none, none] ∧ k ≠ 5) (fun N hN => ?_) ?_
  · refine ⟨_, rfl, rfl, _, rfl, d2I (fun c => ?_) fun c => hN _ _ ⟨rfl, rfl, c⟩⟩
    refine ⟨_, rfl, _, _, rfl, rfl, ⟨by decide, PyProof.noPylong_small (by decide)⟩, _, _, rfl, rfl, (by show (3 : Int) ≠ 0; decide), _, _, rfl, rfl, _, rfl, _, rfl, (by show 3 ≤ sizeLine; decide), fun t' nt => ?_⟩
    have gt := same_new nt (.tup [.int (0 - (x.fdiv 2).fmod 3), .int w.2.1, .ref u])
    exact q _ (0 - (x.fdiv 2).fmod 3, w.2.1, w.2.2) _ (ga.trans gt) (wy upd_same (gt _ _ eu1) (ru1.imp fun _ _ q => mvS q gt)) (fun z => by have : 1 ≤ 0 - (x.fdiv 2).fmod 3 := z.1; omega) (by show w.2.2.length ≤ 100; omega)
  rintro σ H' ⟨rfl, rfl, c5⟩
  refine cut (fun σ H' => H1 = H' ∧ σ = [some (.ref t), some (.int k), some (.int x), some (.ref td), some (.int w.1), some (.int w.2.1), some (.ref u), some (.str p.1), none, none, none] ∧ k ≠ 6) (fun N hN => ?_) ?_
  · refine ⟨_, rfl, rfl, _, rfl, d2I (fun c => ?_) fun c => hN _ _ ⟨rfl, rfl, c⟩⟩
    refine ⟨_, rfl, _, rfl, _, _, rfl, rfl, _, rfl, (by show 3 ≤ sizeLine; decide), fun t' nt => ?_⟩
    have gt := same_new nt (.tup [.int w.1, .int (w.1 - 1), .ref u])
    exact q _ (w.1, w.1 - 1, w.2.2) _ (ga.trans gt) (wy upd_same (gt _ _ eu1) (ru1.imp fun _ _ q => mvS q gt)) (fun z => by have : w.1 ≤ w.1 - 1 := z.2.1; omega) (by show w.2.2.length ≤ 100; omega)
  rintro σ H' ⟨rfl, rfl, c6⟩
  refine cut (fun σ H' => H1 = H' ∧ σ = [some (.ref t), some (.int k), some (.int x), some (.ref td), some (.int w.1), some (.int w.2.1), some (.ref u), some (.str p.1), none, none, none] ∧ k ≠ 7) (fun N hN => ?_) ?_
  · refine ⟨_, rfl, rfl, _, rfl, d2I (fun c => ?_) fun c => hN _ _ ⟨rfl, rfl, c⟩⟩
    refine ⟨_, rfl, _, _, rfl, rfl, ⟨by decide, by decide⟩, _, _, rfl, rfl, _, rfl, _, _, rfl, rfl, (by show (3 : Int) ≠ 0; decide), _, _, rfl, rfl, _, rfl, (by show 3 ≤ sizeLine; decide), fun t' nt => ?_⟩
    have gt := same_new nt (.tup [.int w.1, .int ((10 : Int) ^ (9 : Int).toNat + 1 + x.fmod 3), .ref u])
    exact q _ (w.1, (10 : Int) ^ (9 : Int).toNat + 1 + x.fmod 3, w.2.2) _ (ga.trans gt) (wy upd_same (gt _ _ eu1) (ru1.imp fun _ _ q => mvS q gt)) (fun z => by have : (10 : Int) ^ (9 : Int).toNat + 1 + x.fmod 3 ≤ 1000000000 := z.2.2.1; rw [e9] at this; omega) (by show w.2.2.length ≤ 100; omega)
  rintro σ H' ⟨rfl, rfl, c7⟩
  refine ⟨_, rfl, u, rfl, ⟨_, SqL.of eu1⟩, compIf_Rl rUse (fun a => H1 a ≠ none) (fun i => decide ((w.2.2.getD i ("", 0, 0)).1 ≠ p.1)) (fun i => w.2.2.getD i ("", 0, 0)) (SqL.of eu1) (by rw [ru1.1]; omega) (fun a h => h) (fun i y hy H3 g S hS => ?_) (fun i y hy pt H3 g Q' hQ => ?_) fun rl H2 nrl g2 hR => ?_⟩
  · obtain ⟨e, he, a, rfl, _, ea⟩ := ru1.at_ hy
    rw [getDo he] at hS
    refine ⟨_, rfl, a, _, _, _, rfl, rfl, SqT.of (g _ _ ea), rfl, _, rfl, rfl, ?_⟩
    have eb : (!decide (V.str e.1 = V.str p.1)) = decide (e.1 ≠ p.1) := by simp
    rw [eb]
    exact ⟨_, rfl, hS _ (.refl _)⟩
  · obtain ⟨e, he, a, rfl, _, ea⟩ := ru1.at_ hy
    rw [getDo he] at hQ
    exact ⟨_, rfl, hQ _ _ (.refl _) ⟨a, rfl, .inr (by rw [ea]; exact nofun), g _ _ ea⟩⟩
  obtain ⟨rs, erl, rr⟩ := hR.any
  have lR := pickL_len us.length (fun i => decide ((w.2.2.getD i ("", 0, 0)).1 ≠ p.1)) (fun i => w.2.2.getD i ("", 0, 0))
  rw [ru1.1] at lR
  rw [ru1.1] at rr
  generalize pickL w.2.2.length (fun i => decide ((w.2.2.getD i ("", 0, 0)).1 ≠ p.1)) (fun i => w.2.2.getD i ("", 0, 0)) = R at rr lR
  clear hR
  have gC := ga.trans g2
  have etd2 := g2 _ _ etd1
  refine ⟨(by show 3 ≤ sizeLine; decide), fun a1 n1 => ⟨_, rfl, (by show 3 ≤ sizeLine; decide), fun a2 n2 => ⟨_, rfl, _, rfl, _, _, rfl, rfl, ⟨by decide, PyProof.noPylong_small (by decide)⟩, _, _, rfl, rfl, (by show (2 : Int) ≠ 0; decide), _, _, rfl, rfl, (by show 3 ≤ sizeLine; decide), fun a3 n3 => ?_⟩⟩⟩
  have g3 := same_new n1 (.tup [.str "w", .int 1, .int 0])
  have e1 : upd H2 a1 (.tup [.str "w", .int 1, .int 0]) a1 = some (.tup [.str "w", .int 1, .int 0]) := upd_same
  generalize upd H2 a1 (.tup [.str "w", .int 1, .int 0]) = H3 at g3 e1 n2 n3 ⊢
  have g4 := same_new n2 (.tup [.str p.1, .int 1, .int 0])
  have e2 : upd H3 a2 (.tup [.str p.1, .int 1, .int 0]) a2 = some (.tup [.str p.1, .int 1, .int 0]) := upd_same
  generalize upd H3 a2 (.tup [.str p.1, .int 1, .int 0]) = H4 at g4 e2 n3 ⊢
  have g5 := same_new n3 (.tup [.str p.1, .int (0 - (x.fdiv 4).fmod 2), .int 0])
  have e3 : upd H4 a3 (.tup [.str p.1, .int (0 - (x.fdiv 4).fmod 2), .int 0]) a3 = some (.tup [.str p.1, .int (0 - (x.fdiv 4).fmod 2), .int 0]) := upd_same
  generalize upd H4 a3 (.tup [.str p.1, .int (0 - (x.fdiv 4).fmod 2), .int 0]) = H5 at g5 e3  ⊢
  have g25 := g3.trans (g4.trans g5)
  have dg : ∀ {H' : Hp}, Same H2 H' → DGet H' td (.str p.1) (some (.int p.2)) := fun g => dgTool (.inl (g _ _ etd2)) hm
  refine ⟨_, rfl, _, rfl, _, rfl, td, _, rfl, dg g25, _, _, rfl, rfl, (by show 3 ≤ sizeLine; decide), fun a4 n4 => ⟨(by show 4 ≤ sizeLine; decide), fun b1 nb1 => ?_⟩⟩
  have g6 := same_new n4 (.tup [.str p.1, .int (p.2 + 1), .int 0])
  have e4 : upd H5 a4 (.tup [.str p.1, .int (p.2 + 1), .int 0]) a4 = some (.tup [.str p.1, .int (p.2 + 1), .int 0]) := upd_same
  generalize upd H5 a4 (.tup [.str p.1, .int (p.2 + 1), .int 0]) = H6 at g6 e4 nb1 ⊢
  have g7 := same_new nb1 (.lst [.ref a1, .ref a2, .ref a3, .ref a4])
  have eb1 : upd H6 b1 (.lst [.ref a1, .ref a2, .ref a3, .ref a4]) b1 = some (.lst [.ref a1, .ref a2, .ref a3, .ref a4]) := upd_same
  generalize upd H6 b1 (.lst [.ref a1, .ref a2, .ref a3, .ref a4]) = H7 at g7 eb1  ⊢
  refine ⟨_, rfl, _, rfl, _, rfl, _, rfl, _, _, rfl, rfl, ⟨by decide, PyProof.noPylong_small (by decide)⟩, _, _, rfl, rfl, (by show (2 : Int) ≠ 0; decide), _, _, rfl, rfl, (by show 3 ≤ sizeLine; decide), fun a5 n5 => ?_⟩
  have g8 := same_new n5 (.tup [.str p.1, .int 1, .int (-1 - (x.fdiv 4).fmod 2)])
  have e5 : upd H7 a5 (.tup [.str p.1, .int 1, .int (-1 - (x.fdiv 4).fmod 2)]) a5 = some (.tup [.str p.1, .int 1, .int (-1 - (x.fdiv 4).fmod 2)]) := upd_same
  generalize upd H7 a5 (.tup [.str p.1, .int 1, .int (-1 - (x.fdiv 4).fmod 2)]) = H8 at g8 e5  ⊢
  refine ⟨_, rfl, _, _, rfl, rfl, ⟨by decide, by decide⟩, _, _, rfl, rfl, (by show 3 ≤ sizeLine; decide), fun a6 n6 => ⟨(by show 2 ≤ sizeLine; decide), fun b2 nb2 => ?_⟩⟩
  rw [e9] at nb2 ⊢
  have g9 := same_new n6 (.tup [.str p.1, .int 1, .int (1000000000 + 1)])
  have e6 : upd H8 a6 (.tup [.str p.1, .int 1, .int (1000000000 + 1)]) a6 = some (.tup [.str p.1, .int 1, .int (1000000000 + 1)]) := upd_same
  generalize upd H8 a6 (.tup [.str p.1, .int 1, .int (1000000000 + 1)]) = H9 at g9 e6 nb2 ⊢
  have ga2 := same_new nb2 (.lst [.ref a5, .ref a6])
  have eb2 : upd H9 b2 (.lst [.ref a5, .ref a6]) b2 = some (.lst [.ref a5, .ref a6]) := upd_same
  generalize upd H9 b2 (.lst [.ref a5, .ref a6]) = Ha at ga2 eb2  ⊢
  have g8a := g8.trans (g9.trans ga2)
  refine ⟨b1, b2, _, _, rfl, rfl, g8a _ _ eb1, eb2, (by show 4 + 2 ≤ sizeLine; decide), fun bl nbl => ?_⟩
  have gbl := same_new nbl (.lst ([.ref a1, .ref a2, .ref a3, .ref a4] ++ [.ref a5, .ref a6]))
  have g27 := g25.trans (g6.trans g7)
  have g2b := (g27.trans g8a).trans gbl
  have hbl : LsA rUse An (upd Ha bl (.lst ([.ref a1, .ref a2, .ref a3, .ref a4] ++ [.ref a5, .ref a6]))) bl (badU p.1 p.2 x) := by
    have f6 := (g8a.trans gbl)
    have f5 := g6.trans (g7.trans f6)
    refine ⟨_, upd_same, rfl, fun j v b hv hb => ?_⟩
    match j, hv, hb with
    | 0, hv, hb => cases hv; cases hb; exact ⟨_, rfl, trivial, f5 _ _ (g5 _ _ (g4 _ _ e1))⟩
    | 1, hv, hb => cases hv; cases hb; exact ⟨_, rfl, trivial, f5 _ _ (g5 _ _ e2)⟩
    | 2, hv, hb => cases hv; cases hb; exact ⟨_, rfl, trivial, f5 _ _ e3⟩
    | 3, hv, hb => cases hv; cases hb; exact ⟨_, rfl, trivial, f6 _ _ (g7 _ _ e4)⟩
    | 4, hv, hb => cases hv; cases hb; exact ⟨_, rfl, trivial, gbl _ _ (ga2 _ _ (g9 _ _ e5))⟩
    | 5, hv, hb => cases hv; cases hb; exact ⟨_, rfl, trivial, gbl _ _ (ga2 _ _ e6)⟩
  have erl' := g2b _ _ erl
  have rr' := rr.imp fun _ _ q => mvS q g2b
  have gD := gC.trans g2b
  generalize upd Ha bl (.lst ([.ref a1, .ref a2, .ref a3, .ref a4] ++ [.ref a5, .ref a6])) = Hb at hbl erl' rr' gD ⊢
  clear e1 e2 e3 e4 e5 e6 eb1 eb2 g3 g4 g5 g6 g7 g8 g9 ga2 g8a g25 g27 g2b gbl n1 n2 n3 n4 n5 n6 nb1 nb2 nbl erl rr dg etd2
  try dsimp only [gName, tNext]
  refine cut (fun σ H' => ∃ (rl' : Addr) (R' : List Us) (rs' : List V), σ = [some (.ref t), some (.int k), some (.int x), some (.ref td), some (.int w.1), some (.int w.2.1), some (.ref u), some (.str p.1), some (.ref rl'), some (.ref bl), none] ∧ Same H H' ∧ LsA rUse An H' bl (badU p.1 p.2 x) ∧ H' rl' = some (.lst rs') ∧ A2 (rUse An H') rs' R' ∧ R'.length ≤ 13 ∧ (k = 9 → p.1 ∈ R'.map (·.1))) (fun N hN => ?_) ?_
  · refine ⟨_, rfl, rfl, _, rfl, d2I (fun c => ?_) fun c => hN _ _ ⟨rl, R, rs, rfl, gD, hbl, erl', rr', by omega, fun z => absurd z c⟩⟩
    refine ⟨_, rfl, (by show 3 ≤ sizeLine; decide), fun a7 n7 => ⟨(by show 1 ≤ sizeLine; decide), fun b3 nb3 => ?_⟩⟩
    have h1 := same_new n7 (.tup [.str p.1, .int 1, .int 1])
    have h2 := same_new nb3 (.lst [.ref a7])
    refine ⟨_, rfl, b3, rl, _, _, rfl, rfl, upd_same, h2 _ _ (h1 _ _ erl'), (by rw [rr'.1]; show 1 + _ ≤ _; omega), fun rl2 nrl2 => ?_⟩
    have h3 := same_new nrl2 (.lst ([.ref a7] ++ rs))
    have hh := h1.trans (h2.trans h3)
    exact hN _ _ ⟨rl2, [(p.1, 1, 1)] ++ R, _, rfl, gD.trans hh, hbl.same hh, upd_same, (A2.one ⟨a7, rfl, trivial, h3 _ _ (h2 _ _ upd_same)⟩).append (rr'.imp fun _ _ q => mvS q hh), by rw [List.length_append]; show 1 + _ ≤ _; omega, fun _ => List.mem_cons_self⟩
  clear hbl erl' rr' gD lR
  rintro σ Hc ⟨rl', R', rs', rfl, gD, ⟨bs, ebl, rb⟩, erl, rr, lR, k9⟩
  have lr : rs'.length = R'.length := rr.1
  have nb := fm (a := x.fdiv 8) (n := (rs'.length : Int) + 1) (by omega)
  obtain ⟨c, hc⟩ := Int.eq_ofNat_of_zero_le nb.1
  obtain ⟨j, hj⟩ := Int.eq_ofNat_of_zero_le (show 0 ≤ k - 8 by omega)
  have j6 : j < (badU p.1 p.2 x).length := by show j < 6; omega
  have hb := List.getElem?_eq_getElem j6
  generalize (badU p.1 p.2 x)[j] = b at hb
  obtain ⟨vb, hvb, rvb⟩ := rb.get hb
  refine ⟨_, rfl, _, _, rfl, rfl, ⟨by decide, PyProof.noPylong_small (by decide)⟩, _, rfl, rl', _, rfl, .inl (SqL.of erl), _, _, rfl, rfl, _, _, rfl, rfl, (by omega), ?_⟩
  dsimp only [gName]
  rw [hc]
  have atb : atI bs (k - 8) = some vb := by rw [hj]; exact atI_nat hvb
  refine ⟨_, rfl, _, rfl, _, rfl, _, rfl, _, rfl, rl', _, rfl, SqL.of erl, fun s1 ns1 => ?_⟩
  rw [L2.cut_take (by omega)]
  have h1 := same_new ns1 (.lst (rs'.take c))
  have f1 : upd Hc s1 (.lst (rs'.take c)) s1 = some (.lst (rs'.take c)) := upd_same
  generalize upd Hc s1 (.lst (rs'.take c)) = Hd at h1 f1  ⊢
  refine ⟨_, rfl, _, rfl, _, _, rfl, rfl, bl, _, _, _, rfl, rfl, SqL.of (h1 _ _ ebl), atb, (by show 1 ≤ sizeLine; decide), fun s2 ns2 => ?_⟩
  have h2 := same_new ns2 (.lst [vb])
  have f2 : upd Hd s2 (.lst [vb]) s2 = some (.lst [vb]) := upd_same
  generalize upd Hd s2 (.lst [vb]) = He at h2 f2  ⊢
  have lt : (rs'.take c).length ≤ 13 := by rw [List.length_take]; omega
  have ld : (rs'.drop c).length ≤ 13 := by rw [List.length_drop]; omega
  refine ⟨s1, s2, _, _, rfl, rfl, h2 _ _ f1, f2, (by show _ + 1 ≤ _; omega), fun s3 ns3 => ?_⟩
  have h3 := same_new ns3 (.lst (rs'.take c ++ [vb]))
  have f3 : upd He s3 (.lst (rs'.take c ++ [vb])) s3 = some (.lst (rs'.take c ++ [vb])) := upd_same
  generalize upd He s3 (.lst (rs'.take c ++ [vb])) = Hf at h3 f3  ⊢
  have h13 := h1.trans (h2.trans h3)
  refine ⟨_, rfl, _, rfl, _, rfl, rl', _, rfl, SqL.of (h13 _ _ erl), fun s4 ns4 => ?_⟩
  rw [cut_dropB]
  have h4 := same_new ns4 (.lst (rs'.drop c))
  have f4 : upd Hf s4 (.lst (rs'.drop c)) s4 = some (.lst (rs'.drop c)) := upd_same
  generalize upd Hf s4 (.lst (rs'.drop c)) = Hg at h4 f4  ⊢
  refine ⟨s3, s4, _, _, rfl, rfl, h4 _ _ f3, f4, (by rw [List.length_append]; show _ + 1 + _ ≤ _; omega), fun s5 ns5 => ?_⟩
  have h5 := same_new ns5 (.lst (rs'.take c ++ [vb] ++ rs'.drop c))
  have f5 : upd Hg s5 (.lst (rs'.take c ++ [vb] ++ rs'.drop c)) s5 = some (.lst (rs'.take c ++ [vb] ++ rs'.drop c)) := upd_same
  generalize upd Hg s5 (.lst (rs'.take c ++ [vb] ++ rs'.drop c)) = Hh at h5 f5  ⊢
  refine ⟨(by show 3 ≤ sizeLine; decide), fun t' nt => ?_⟩
  have h6 := same_new nt (.tup [.int w.1, .int w.2.1, .ref s5])
  have hh := (h13.trans (h4.trans h5)).trans h6
  refine q _ (w.1, w.2.1, R'.take c ++ [b] ++ R'.drop c) _ (gD.trans hh) (wy upd_same (h6 _ _ f5) (((rr.take c).append (A2.one rvb)).append (rr.drop c) |>.imp fun _ _ q => mvS q hh)) (fun z => ?_) ?_
  · obtain ⟨z1, z2⟩ := mid_bad z.2.2.2
    by_cases k1 : j = 1
    · exact z2 (by rw [badU_1 hb k1]; exact k9 (by omega))
    · exact badU_no tok hm hb k1 z1
  · show (R'.take c ++ [b] ++ R'.drop c).length ≤ 100
    rw [List.length_append, List.length_append, List.length_take, List.length_drop]
    show _ + 1 + _ ≤ 100
    omega

set_option maxHeartbeats 4000000 in
theorem ok_law_bad_tasks {dV : Value} (F : FunD K "_law_bad_tasks" "_law_bad_tasks" s_law_bad_tasks dV f fd) (D_law_bad_way : Dx P w K mg base CX0 1 "_law_bad_way" ["_law_way_here", "_law_kind", "_law_x", "_law_tools_here"] [] spBadWay) : FnOk P w K mg base CX0 2 f fd ["_law_tools_here", "_law_tasks", "_law_kind", "_law_x"] spBadTasks := by
  have sc : FnScope ["_law_tools_here", "_law_tasks", "_law_kind", "_law_x", "_law_at", "_law_ways", "_law_which"] ["_law_tools_here", "_law_tasks", "_law_kind", "_law_x"] (defScope s_law_bad_tasks) := scK (by decide +kernel)
  refine F.ok sc (fun vs H Q E h => ?_) (fun cdv A outer s H vs Q E hr h => ?_)
  · obtain ⟨_, _, _, _, _, _, rfl, _⟩ := h
    rfl
  obtain ⟨td, tl, k, x, D, T, rfl, etd, ⟨vs, el, r⟩, fo, k2, k13, x0, x1, q⟩ := h
  refine ⟨_, (pss_cons (ps_if (pt_cmpR op_eq (pv 2) pe_int (nomark _)) (pss_one (ps_ret (pe_op op_cat (pv 1) (pe_compH (hd := none) (own := "_law_k") (ys := []) (js := []) hr.hd (cok atn .nil (by decide) rfl rfl rfl rfl rfl rfl rfl rfl) (pi_rangeH rfl B.b_range (@pa_cons _ _ _ _ _ (pe_op op_sub pe_int (pe_callB call_len_seq rfl B.b_len boot_len (@pa_cons _ _ _ _ _ (pv 1) pa_nil rfl))) pa_nil rfl)) (fun C fp s H => (@pe_lst _ _ _ _ (@pa_cons _ _ _ _ _ (@pe_tup _ _ _ _ _ (@pa_cons _ _ _ _ _ pe_int (@pa_cons _ _ _ _ _ pe_int (@pa_cons _ _ _ _ _ (@pe_lst _ _ _ _ pa_nil) pa_nil rfl) rfl) rfl)) pa_nil rfl))))))) pss_nil) (pss_cons (ps_set (i := 4) sc.nd rfl (Or.inl rfl) (pe_op op_modN (pe_op op_fdivB (pv 3) pe_int) (pe_callB call_len_seq rfl B.b_len boot_len (@pa_cons _ _ _ _ _ (pv 1) pa_nil rfl)))) (pss_cons (ps_set (i := 5) sc.nd rfl (Or.inl rfl) (pe_ix ix_list (pv 1) (pv 4) (fun _ _ => rfl))) (pss_cons (ps_if (pt_cmpR op_eq (pv 2) pe_int (nomark _)) (pss_one (ps_set (i := 5) sc.nd rfl (Or.inl rfl) (@pe_lst _ _ _ _ pa_nil))) (pss_one (ps_if (pt_cmpR op_eq (pv 2) pe_int (nomark _)) (pss_one (ps_set (i := 5) sc.nd rfl (Or.inl rfl) (@pe_lst _ _ _ _ (@pa_cons _ _ _ _ _ (pe_ix ix_list (pv 5) pe_int (fun _ _ => rfl)) (@pa_cons _ _ _ _ _ (pe_ix ix_list (pv 5) (pe_un un_neg pe_int) (fun _ _ => rfl)) (@pa_cons _ _ _ _ _ (pe_ix ix_list (pv 5) pe_int (fun _ _ => rfl)) pa_nil rfl) rfl) rfl)))) (pss_cons (ps_set (i := 6) sc.nd rfl (Or.inl rfl) (pe_op op_modN (pe_op op_fdivB (pv 3) pe_int) (pe_callB call_len_seq rfl B.b_len boot_len (@pa_cons _ _ _ _ _ (pv 5) pa_nil rfl)))) (pss_one (ps_set (i := 5) sc.nd rfl (Or.inl rfl) (pe_op op_cat (pe_op op_cat (pe_slice sl_list (pv 5) po_none (po_some (pv 6))) (@pe_lst _ _ _ _ (@pa_cons _ _ _ _ _ (pcall0 D_law_bad_way hr (by decide) rfl (@pa_cons _ _ _ _ _ (pe_ix ix_list (pv 5) (pv 6) (fun _ _ => rfl)) (@pa_cons _ _ _ _ _ (pv 2) (@pa_cons _ _ _ _ _ (pv 3) (@pa_cons _ _ _ _ _ (pv 0) pa_nil rfl) rfl) rfl) rfl)) pa_nil rfl))) (pe_slice sl_list (pv 5) (po_some (pe_op op_add (pv 6) pe_int)) po_none)))))))) (pss_one (ps_ret (pe_op op_cat (pe_op op_cat (pe_slice sl_list (pv 1) po_none (po_some (pv 4))) (@pe_lst _ _ _ _ (@pa_cons _ _ _ _ _ (pv 5) pa_nil rfl))) (pe_slice sl_list (pv 1) (po_some (pe_op op_add (pv 4) pe_int)) po_none)))))))), ?_⟩
  try dsimp only [cxK]
  have sl : sizeLine = 16777216 := sizeLine_eq
  have t2 := fo.t2
  have t24 := fo.t24
  have lv : vs.length = T.length := r.1
  have ft : ∀ ws ∈ T, ws.length ≤ 100 ∧ ∀ w ∈ ws, w.2.2.length ≤ 100 := fun ws h => ⟨by have := (fo.ft ws h).2.1; omega, fun w hw => by have := (fo.ft ws h).2.2 w hw; omega⟩
  refine cut (fun σ H' => H = H' ∧ σ = [some (.ref td), some (.ref tl), some (.int k), some (.int x), none, none, none] ∧ k ≠ 2) (fun N hN => ?_) ?_
  · refine ⟨_, rfl, rfl, _, rfl, d2I (fun c => ?_) fun c => hN _ _ ⟨rfl, rfl, c⟩⟩
    refine ⟨_, rfl, _, rfl, tl, _, rfl, .inl (SqL.of el), _, _, rfl, rfl, ?_⟩
    refine ⟨_, rfl, by omega, by omega, comp_RrH rTask (fun _ => False) (fun _ => [(1, 1, [])]) HdOk.no (by omega) (fun a h => h.elim) (fun i hi H2 g2 Q' hQ => ?_) fun p H1 np g1 hp => ?_⟩
    · refine ⟨(by show 0 ≤ sizeLine; decide), fun u nu => ⟨(by show 3 ≤ sizeLine; decide), fun t nt => ⟨(by show 1 ≤ sizeLine; decide), fun l nl => ?_⟩⟩⟩
      have h1 := same_new nu (.lst [])
      have h2 := same_new nt (.tup [.int 1, .int 1, .ref u])
      have h3 := same_new nl (.lst [.ref t])
      exact hQ _ _ (h1.trans (h2.trans h3)) ⟨l, rfl, .inl ((h1.trans h2).free nl), _, upd_same, A2.one ⟨t, u, rfl, .inl (h1.free nt), .inl nu, h3 _ _ upd_same, [], h3 _ _ (h2 _ _ upd_same), A2.nil⟩⟩
    obtain ⟨ps, ep, rp⟩ := hp.any
    have lp : ps.length = 25 - T.length := by rw [rp.1, List.length_map, List.length_range]; omega
    refine ⟨tl, p, _, _, rfl, rfl, g1 _ _ el, ep, by omega, fun l nl => ?_⟩
    have g2 := same_new nl (.lst (vs ++ ps))
    refine q l _ _ (g1.trans g2) ⟨_, upd_same, ((r.imp fun _ _ q => mvS q g1).append rp).imp fun _ _ q => mvS q g2⟩ (fun z => ?_) ?_ fun ws h => ?_
    · have := z.1
      rw [List.length_append, ← rp.1] at this
      omega
    · rw [List.length_append, ← rp.1]
      omega
    · rcases List.mem_append.mp h with h | h
      · exact ft ws h
      · obtain ⟨_, _, rfl⟩ := List.mem_map.mp h
        exact ⟨by show 1 ≤ 100; decide, fun w hw => by rw [List.mem_singleton.mp hw]; show 0 ≤ 100; decide⟩
  rintro σ H' ⟨rfl, rfl, c2⟩
  have m0 := fm (a := x.fdiv 64) (n := (vs.length : Int)) (by omega)
  obtain ⟨c, hc⟩ := Int.eq_ofNat_of_zero_le m0.1
  have cl : c < T.length := by omega
  have hw := List.getElem?_eq_getElem cl
  have mem := List.getElem_mem cl
  generalize T[c] = ws at hw mem
  obtain ⟨v, hv, rv⟩ := r.get hw
  have atv : atI vs (c : Int) = some v := atI_nat hv
  refine ⟨_, rfl, _, _, rfl, rfl, ⟨by decide, PyProof.noPylong_small (by decide)⟩, _, rfl, tl, _, rfl, .inl (SqL.of el), _, _, rfl, rfl, (by omega), ?_⟩
  dsimp only [gName]
  rw [hc]
  refine ⟨_, rfl, _, rfl, tl, _, _, _, rfl, rfl, SqL.of el, atv, ?_⟩
  obtain ⟨wl, rfl, _, us, ew, rw'⟩ := rv
  obtain ⟨f1, f2, f3⟩ := fo.ft ws mem
  have lu : us.length = ws.length := rw'.1
  try dsimp only [gName, tNext]
  refine cut (fun σ H' => ∃ (wl' : Addr) (ws' : List Wy) (o : Option V), σ = [some (.ref td), some (.ref tl), some (.int k), some (.int x), some (.int (c : Int)), some (.ref wl'), o] ∧ Same H H' ∧ LsA rWay An H' wl' ws' ∧ ¬ WsOk D ws' ∧ ws'.length ≤ 100 ∧ ∀ w ∈ ws', w.2.2.length ≤ 100) (fun N hN => ?_) ?_
  · refine ⟨_, rfl, rfl, _, rfl, d2I (fun c3 => ?_) fun c3 => ?_⟩
    · exact ⟨(by show 0 ≤ sizeLine; decide), fun l nl => hN _ _ ⟨l, [], none, rfl, same_new nl _, LsA.new, fun z => absurd z.1 (by decide), by decide, fun w h => by cases h⟩⟩
    refine ⟨_, rfl, rfl, _, rfl, d2I (fun c4 => ?_) fun c4 => ?_⟩
    · have h0 := List.getElem?_eq_getElem f1
      have m0 := List.getElem_mem f1
      generalize ws[0] = w0 at h0 m0
      have hl := List.getElem?_eq_getElem (show ws.length - 1 < ws.length by omega)
      have ml := List.getElem_mem (show ws.length - 1 < ws.length by omega)
      generalize ws[ws.length - 1] = w1 at hl ml
      obtain ⟨v0, hv0, rv0⟩ := rw'.get h0
      obtain ⟨v1, hv1, rv1⟩ := rw'.get hl
      have at0 : atI us 0 = some v0 := atI_nat (j := 0) hv0
      have at1 : atI us (-1) = some v1 := by
        unfold atI ixN
        rw [if_neg (by decide), if_pos (by omega), show ((-1 : Int) + (us.length : Int)).toNat = ws.length - 1 by omega]
        exact hv1
      refine ⟨_, rfl, wl, _, _, _, rfl, rfl, SqL.of ew, at0, _, rfl, _, rfl, wl, _, _, _, rfl, rfl, SqL.of ew, at1, _, rfl, wl, _, _, _, rfl, rfl, SqL.of ew, at0, (by show 3 ≤ sizeLine; decide), fun l nl => ?_⟩
      have g := same_new nl (.lst [v0, v1, v0])
      exact hN _ _ ⟨l, [w0, w1, w0], none, rfl, g, ⟨_, upd_same, (((A2.one rv0).snoc rv1).snoc rv0).imp fun _ _ q => mvS q g⟩, fun z => absurd z.2.1 (by show ¬ (3 ≤ 2); decide), by show 3 ≤ 100; decide, fun w h => by
        have : w = w0 ∨ w = w1 ∨ w = w0 := by simpa using h
        rcases this with rfl | rfl | rfl
        · exact (ft ws mem).2 _ m0
        · exact (ft ws mem).2 _ ml
        · exact (ft ws mem).2 _ m0⟩
    · have m1 := fm (a := x.fdiv 2048) (n := (us.length : Int)) (by omega)
      obtain ⟨e, he⟩ := Int.eq_ofNat_of_zero_le m1.1
      have el2 : e < ws.length := by omega
      have h0 := List.getElem?_eq_getElem el2
      have mw := List.getElem_mem el2
      generalize ws[e] = w0 at h0 mw
      obtain ⟨v0, hv0, rv0⟩ := rw'.get h0
      have at0 : atI us (e : Int) = some v0 := atI_nat hv0
      refine ⟨_, rfl, _, _, rfl, rfl, ⟨by decide, PyProof.noPylong_small (by decide)⟩, _, rfl, wl, _, rfl, .inl (SqL.of ew), _, _, rfl, rfl, (by omega), ?_⟩
      dsimp only [gName]
      rw [he]
      refine ⟨_, rfl, _, rfl, _, rfl, wl, _, rfl, SqL.of ew, fun s1 ns1 => ?_⟩
      rw [L2.cut_take (by omega)]
      have h1 := same_new ns1 (.lst (us.take e))
      have f4 : upd H s1 (.lst (us.take e)) s1 = some (.lst (us.take e)) := upd_same
      generalize upd H s1 (.lst (us.take e)) = Hd at h1 f4  ⊢

      refine ⟨_, rfl, _, rfl, wl, _, _, _, rfl, rfl, SqL.of (h1 _ _ ew), at0, _, rfl, _, rfl, _, rfl, v0, k, x, td, D, w0, rfl, mvS rv0 h1, h1 _ _ etd, fo.tok, fo.d1, f3 _ mw, (by omega), k13, x0, x1, fun v' w' H2 g2 rv' bad l' => ⟨(by show 1 ≤ sizeLine; decide), fun s2 ns2 => ?_⟩⟩
      have h2 := same_new ns2 (.lst [v'])
      have f5 : upd H2 s2 (.lst [v']) s2 = some (.lst [v']) := upd_same
      have rv2 := mvS rv' h2
      generalize upd H2 s2 (.lst [v']) = H3 at h2 f5 rv2 ⊢
      have h12 := h1.trans (g2.trans h2)
      have lt : (us.take e).length ≤ 2 := by rw [List.length_take]; omega
      have ld : (us.drop (e + 1)).length ≤ 2 := by rw [List.length_drop]; omega
      refine ⟨s1, s2, _, _, rfl, rfl, h2 _ _ (g2 _ _ f4), f5, (by show _ + 1 ≤ _; omega), fun s3 ns3 => ?_⟩
      have h3 := same_new ns3 (.lst (us.take e ++ [v']))
      refine ⟨_, rfl, _, rfl, _, _, rfl, rfl, _, rfl, wl, _, rfl, SqL.of (h3 _ _ (h12 _ _ ew)), fun s4 ns4 => ?_⟩
      have ec : cutV us (some ((e : Int) + 1)) none = us.drop (e + 1) := cut_dropB (c := e + 1)
      rw [ec]
      have h4 := same_new ns4 (.lst (us.drop (e + 1)))
      refine ⟨s3, s4, _, _, rfl, rfl, h4 _ _ upd_same, upd_same, (by rw [List.length_append]; show _ + 1 + _ ≤ _; omega), fun s5 ns5 => ?_⟩
      have h5 := same_new ns5 (.lst (us.take e ++ [v'] ++ us.drop (e + 1)))
      have h35 := h3.trans (h4.trans h5)
      have hh := h12.trans h35
      refine hN _ _ ⟨s5, ws.take e ++ [w'] ++ ws.drop (e + 1), _, rfl, hh, ⟨_, upd_same, (((rw'.take e).imp fun _ _ q => mvS q hh).append (A2.one (mvS rv2 h35))).append ((rw'.drop (e + 1)).imp fun _ _ q => mvS q hh)⟩, fun z => bad (z.2.2 w' (by simp)), ?_, fun w h => ?_⟩
      · rw [List.length_append, List.length_append, List.length_take, List.length_drop]
        show _ + 1 + _ ≤ 100
        omega
      · rcases List.mem_append.mp h with h | h
        · rcases List.mem_append.mp h with h | h
          · exact (ft ws mem).2 w (List.mem_of_mem_take h)
          · rw [List.mem_singleton.mp h]; exact l'
        · exact (ft ws mem).2 w (List.mem_of_mem_drop h)
  rintro σ H1 ⟨wl', ws', o, rfl, g1, hW, bad, l1, l2⟩
  have el1 := g1 _ _ el
  refine ⟨_, rfl, _, rfl, _, rfl, tl, _, rfl, SqL.of el1, fun s1 ns1 => ?_⟩
  rw [L2.cut_take (by omega)]
  have h1 := same_new ns1 (.lst (vs.take c))
  refine ⟨_, rfl, (by show 1 ≤ sizeLine; decide), fun s2 ns2 => ?_⟩
  have h2 := same_new ns2 (.lst [.ref wl'])
  have lt : (vs.take c).length ≤ 24 := by rw [List.length_take]; omega
  have ld : (vs.drop (c + 1)).length ≤ 24 := by rw [List.length_drop]; omega
  refine ⟨s1, s2, _, _, rfl, rfl, h2 _ _ upd_same, upd_same, (by show _ + 1 ≤ _; omega), fun s3 ns3 => ?_⟩
  have h3 := same_new ns3 (.lst (vs.take c ++ [.ref wl']))
  refine ⟨_, rfl, _, rfl, _, _, rfl, rfl, _, rfl, tl, _, rfl, SqL.of (h3 _ _ (h2 _ _ (h1 _ _ el1))), fun s4 ns4 => ?_⟩
  have ec : cutV vs (some ((c : Int) + 1)) none = vs.drop (c + 1) := cut_dropB (c := c + 1)
  rw [ec]
  have h4 := same_new ns4 (.lst (vs.drop (c + 1)))
  refine ⟨s3, s4, _, _, rfl, rfl, h4 _ _ upd_same, upd_same, (by rw [List.length_append]; show _ + 1 + _ ≤ _; omega), fun s5 ns5 => ?_⟩
  have h5 := same_new ns5 (.lst (vs.take c ++ [.ref wl'] ++ vs.drop (c + 1)))
  have h15 := (h1.trans h2).trans (h3.trans (h4.trans h5))
  have hh := g1.trans h15
  refine q s5 (T.take c ++ [ws'] ++ T.drop (c + 1)) _ hh ⟨_, upd_same, (((r.take c).imp fun _ _ q => mvS q hh).append (A2.one ⟨wl', rfl, trivial, hW.same h15⟩)).append ((r.drop (c + 1)).imp fun _ _ q => mvS q hh)⟩ (fun z => bad (z.2 ws' (by simp))) ?_ fun ws2 h => ?_
  · rw [List.length_append, List.length_append, List.length_take, List.length_drop]
    show _ + 1 + _ ≤ 1000
    omega
  · rcases List.mem_append.mp h with h | h
    · rcases List.mem_append.mp h with h | h
      · exact ft ws2 (List.mem_of_mem_take h)
      · rw [List.mem_singleton.mp h]; exact ⟨l1, l2⟩
    · exact ft ws2 (List.mem_of_mem_drop h)

set_option maxHeartbeats 4000000 in
theorem ok_law_bad_links {dV : Value} (F : FunD K "_law_bad_links" "_law_bad_links" s_law_bad_links dV f fd)  : FnOk P w K mg base CX0 1 f fd ["_law_made_here", "_law_kind", "_law_x"] spBadLinks := by
  have sc : FnScope ["_law_made_here", "_law_kind", "_law_x", "_law_tools_here", "_law_tasks", "_law_arcs_here", "_law_pairs_here", "_law_moments", "_law_points", "_law_out", "_law_far", "_law_at", "_law_p", "_law_bad", "_law_i", "_law_stray"] ["_law_made_here", "_law_kind", "_law_x"] (defScope s_law_bad_links) := scK (by decide +kernel)
  refine F.ok sc (fun vs H Q E h => ?_) (fun cdv A outer s H vs Q E hr h => ?_)
  · obtain ⟨_, _, _, _, _, _, _, _, rfl, _⟩ := h
    rfl
  obtain ⟨t, k, x, D, T, A, B2, n, rfl, M, t2, t24, lk, k14, k22, x0, x1, q⟩ := h
  refine ⟨_, (pss_cons (ps_asg (pv 0) (pg_tup rfl (pgs_cons (pg_name (i := 3) sc.nd rfl (Or.inl rfl)) (pgs_cons (pg_name (i := 4) sc.nd rfl (Or.inl rfl)) (pgs_cons (pg_name (i := 5) sc.nd rfl (Or.inl rfl)) (pgs_cons (pg_name (i := 6) sc.nd rfl (Or.inl rfl)) (pgs_cons (pg_name (i := 7) sc.nd rfl (Or.inl rfl)) pgs_nil))))))) (pss_cons (ps_set (i := 8) sc.nd rfl (Or.inl rfl) (pe_op op_add (pe_op op_mulB pe_int (pe_callB call_len_seq rfl B.b_len boot_len (@pa_cons _ _ _ _ _ (pv 4) pa_nil rfl))) (pv 7))) (pss_cons (ps_set (i := 9) sc.nd rfl (Or.inl rfl) (pe_ix ix_list (@pe_lst _ _ _ _ (@pa_cons _ _ _ _ _ (pe_op op_add (pv 8) (pe_op op_modN (pe_op op_fdivB (pv 2) pe_int) pe_int)) (@pa_cons _ _ _ _ _ (pe_op op_sub (pe_un un_neg pe_int) (pe_op op_modN (pe_op op_fdivB (pv 2) pe_int) pe_int)) pa_nil rfl) rfl)) (pe_op op_modN (pv 2) pe_int) (fun _ _ => rfl))) (pss_cons (ps_set (i := 10) sc.nd rfl (Or.inl rfl) (pe_ix ix_list (@pe_lst _ _ _ _ (@pa_cons _ _ _ _ _ (pe_op op_add (pe_op op_powB pe_int pe_int) pe_int) (@pa_cons _ _ _ _ _ (pe_op op_sub (pe_un un_neg (pe_op op_powB pe_int pe_int)) pe_int) pa_nil rfl) rfl)) (pe_op op_modN (pv 2) pe_int) (fun _ _ => rfl))) (pss_cons (ps_set (i := 11) sc.nd rfl (Or.inl rfl) (pe_op op_modN (pe_op op_fdivB (pv 2) pe_int) (pe_op op_add (pe_callB call_len_seq rfl B.b_len boot_len (@pa_cons _ _ _ _ _ (pv 5) pa_nil rfl)) pe_int))) (pss_cons (ps_if (pt_cmpR op_lt (pv 1) pe_int (nomark _)) (pss_cons (ps_set (i := 12) sc.nd rfl (Or.inl rfl) (pe_op op_modN (pe_op op_fdivB (pv 2) pe_int) (pv 8))) (pss_cons (ps_set (i := 13) sc.nd rfl (Or.inl rfl) (pe_ix ix_list (@pe_lst _ _ _ _ (@pa_cons _ _ _ _ _ (@pe_tup _ _ _ _ _ (@pa_cons _ _ _ _ _ (pv 9) (@pa_cons _ _ _ _ _ (pv 12) (@pa_cons _ _ _ _ _ pe_int pa_nil rfl) rfl) rfl)) (@pa_cons _ _ _ _ _ (@pe_tup _ _ _ _ _ (@pa_cons _ _ _ _ _ (pv 12) (@pa_cons _ _ _ _ _ (pv 9) (@pa_cons _ _ _ _ _ pe_int pa_nil rfl) rfl) rfl)) (@pa_cons _ _ _ _ _ (@pe_tup _ _ _ _ _ (@pa_cons _ _ _ _ _ (pv 12) (@pa_cons _ _ _ _ _ (pe_op op_modN (pe_op op_fdivB (pv 2) pe_int) (pv 8)) (@pa_cons _ _ _ _ _ (pv 10) pa_nil rfl) rfl) rfl)) pa_nil rfl) rfl) rfl)) (pe_op op_sub (pv 1) pe_int) (fun _ _ => rfl))) (pss_one (ps_set (i := 5) sc.nd rfl (Or.inl rfl) (pe_op op_cat (pe_op op_cat (pe_slice sl_list (pv 5) po_none (po_some (pv 11))) (@pe_lst _ _ _ _ (@pa_cons _ _ _ _ _ (pv 13) pa_nil rfl))) (pe_slice sl_list (pv 5) (po_some (pv 11)) po_none)))))) pss_nil) (pss_cons (ps_if (pt_cmpR op_eq (pv 1) pe_int (nomark _)) (pss_one (ps_set (i := 5) sc.nd rfl (Or.inl rfl) (pe_op op_cat (pv 5) (pe_compH (hd := none) (own := "_law_k") (ys := []) (js := []) hr.hd (cok atn .nil (by decide) rfl rfl rfl rfl rfl rfl rfl rfl) (pi_rangeH rfl B.b_range (@pa_cons _ _ _ _ _ (pe_op op_sub pe_int (pe_callB call_len_seq rfl B.b_len boot_len (@pa_cons _ _ _ _ _ (pv 5) pa_nil rfl))) pa_nil rfl)) (fun C fp s H => (@pe_tup _ _ _ _ _ (@pa_cons _ _ _ _ _ pe_int (@pa_cons _ _ _ _ _ pe_int (@pa_cons _ _ _ _ _ pe_int pa_nil rfl) rfl) rfl))))))) pss_nil) (pss_cons (ps_set (i := 14) sc.nd rfl (Or.inl rfl) (pe_op op_modN (pe_op op_fdivB (pv 2) pe_int) (pe_callB call_len_seq rfl B.b_len boot_len (@pa_cons _ _ _ _ _ (pv 4) pa_nil rfl)))) (pss_cons (ps_set (i := 15) sc.nd rfl (Or.inl rfl) (pe_ix ix_list (@pe_lst _ _ _ _ (@pa_cons _ _ _ _ _ (pe_op op_add (pe_callB call_len_seq rfl B.b_len boot_len (@pa_cons _ _ _ _ _ (pv 4) pa_nil rfl)) (pe_op op_modN (pe_op op_fdivB (pv 2) pe_int) pe_int)) (@pa_cons _ _ _ _ _ (pe_op op_sub (pe_un un_neg pe_int) (pe_op op_modN (pe_op op_fdivB (pv 2) pe_int) pe_int)) pa_nil rfl) rfl)) (pe_op op_modN (pv 2) pe_int) (fun _ _ => rfl))) (pss_cons (ps_set (i := 11) sc.nd rfl (Or.inl rfl) (pe_op op_modN (pe_op op_fdivB (pv 2) pe_int) (pe_op op_add (pe_callB call_len_seq rfl B.b_len boot_len (@pa_cons _ _ _ _ _ (pv 6) pa_nil rfl)) pe_int))) (pss_cons (ps_if (PW.pt (pw_or (pt_cmpR op_eq (pv 1) pe_int (nomark _)) (pw_or1 (pt_cmpR op_eq (pv 1) pe_int (nomark _))))) (pss_cons (ps_set (i := 13) sc.nd rfl (Or.inl rfl) (pe_ix ix_list (@pe_lst _ _ _ _ (@pa_cons _ _ _ _ _ (@pe_tup _ _ _ _ _ (@pa_cons _ _ _ _ _ (pv 14) (@pa_cons _ _ _ _ _ (pv 14) pa_nil rfl) rfl)) (@pa_cons _ _ _ _ _ (pe_ix ix_list (@pe_lst _ _ _ _ (@pa_cons _ _ _ _ _ (@pe_tup _ _ _ _ _ (@pa_cons _ _ _ _ _ (pv 14) (@pa_cons _ _ _ _ _ (pv 15) pa_nil rfl) rfl)) (@pa_cons _ _ _ _ _ (@pe_tup _ _ _ _ _ (@pa_cons _ _ _ _ _ (pv 15) (@pa_cons _ _ _ _ _ (pv 14) pa_nil rfl) rfl)) pa_nil rfl) rfl)) (pe_op op_modN (pe_op op_fdivB (pv 2) pe_int) pe_int) (fun _ _ => rfl)) pa_nil rfl) rfl)) (pe_op op_sub (pv 1) pe_int) (fun _ _ => rfl))) (pss_one (ps_set (i := 6) sc.nd rfl (Or.inl rfl) (pe_op op_cat (pe_op op_cat (pe_slice sl_list (pv 6) po_none (po_some (pv 11))) (@pe_lst _ _ _ _ (@pa_cons _ _ _ _ _ (pv 13) pa_nil rfl))) (pe_slice sl_list (pv 6) (po_some (pv 11)) po_none))))) pss_nil) (pss_cons (ps_if (pt_cmpR op_eq (pv 1) pe_int (nomark _)) (pss_one (ps_set (i := 6) sc.nd rfl (Or.inl rfl) (pe_op op_cat (pv 6) (pe_compH (hd := none) (own := "_law_k") (ys := []) (js := []) hr.hd (cok atn .nil (by decide) rfl rfl rfl rfl rfl rfl rfl rfl) (pi_rangeH rfl B.b_range (@pa_cons _ _ _ _ _ (pe_op op_sub pe_int (pe_callB call_len_seq rfl B.b_len boot_len (@pa_cons _ _ _ _ _ (pv 6) pa_nil rfl))) pa_nil rfl)) (fun C fp s H => (@pe_tup _ _ _ _ _ (@pa_cons _ _ _ _ _ pe_int (@pa_cons _ _ _ _ _ pe_int pa_nil rfl) rfl))))))) pss_nil) (pss_cons (ps_if (pt_cmpR op_eq (pv 1) pe_int (nomark _)) (pss_one (ps_set (i := 7) sc.nd rfl (Or.inl rfl) (pe_op op_add pe_int (pe_op op_modN (pv 2) pe_int)))) pss_nil) (pss_cons (ps_if (pt_cmpR op_eq (pv 1) pe_int (nomark _)) (pss_one (ps_set (i := 7) sc.nd rfl (Or.inl rfl) (pe_op op_sub (pe_un un_neg pe_int) (pe_op op_modN (pv 2) pe_int)))) pss_nil) (pss_one (ps_ret (@pe_tup _ _ _ _ _ (@pa_cons _ _ _ _ _ (pv 3) (@pa_cons _ _ _ _ _ (pv 4) (@pa_cons _ _ _ _ _ (pv 5) (@pa_cons _ _ _ _ _ (pv 6) (@pa_cons _ _ _ _ _ (pv 7) pa_nil rfl) rfl) rfl) rfl) rfl)))))))))))))))))), ?_⟩
  try dsimp only [cxK]
  have sl : sizeLine = 16777216 := sizeLine_eq
  have e9 : (10 : Int) ^ (9 : Int).toNat = 1000000000 := by decide
  obtain ⟨td, tl, al, pl, et, etd, ⟨vs, el, r⟩, hA, hB⟩ := M.ex
  obtain ⟨as, ea, ra⟩ := hA.ls
  obtain ⟨bs, eb, rb⟩ := hB.ls
  have lv : vs.length = T.length := r.1
  have la : as.length = A.length := ra.1
  have lb : bs.length = B2.length := rb.1
  obtain ⟨lka, lkb, la6, lb3, n0, n8⟩ := lk
  refine ⟨_, rfl, t, _, rfl, SqT.of et, rfl, _, _, rfl, _, _, rfl, _, _, rfl, _, _, rfl, _, _, rfl, rfl, ?_⟩
  change L2.tSeq _ _ _ [some (.ref t), some (.int k), some (.int x), some (.ref td), some (.ref tl), some (.ref al), some (.ref pl), some (.int n), none, none, none, none, none, none, none, none] _
  refine ⟨_, rfl, tl, _, rfl, .inl (SqL.of el), _, _, rfl, rfl, IntMulOk.of_left (by decide), _, rfl, _, _, rfl, rfl, ?_⟩
  dsimp only [gName]
  rw [lv]
  have x2 := fm (a := x) (n := 2) (by decide)
  have x3 := fm (a := x.fdiv 2) (n := 3) (by decide)
  obtain ⟨ou, hou, oub⟩ := two_at (a := 2 * (T.length : Int) + n + (x.fdiv 2).fmod 3) (b := -1 - (x.fdiv 2).fmod 3) x2.1 x2.2
  refine ⟨_, rfl, _, rfl, _, _, rfl, rfl, ⟨by decide, PyProof.noPylong_small (by decide)⟩, _, _, rfl, rfl, (by show (3 : Int) ≠ 0; decide), _, _, rfl, rfl, _, rfl, _, rfl, _, _, rfl, rfl, ⟨by decide, PyProof.noPylong_small (by decide)⟩, _, _, rfl, rfl, (by show (3 : Int) ≠ 0; decide), _, _, rfl, rfl, (by show 2 ≤ sizeLine; decide), fun l1 nl1 => ?_⟩
  have g1 := same_new nl1 (.lst [.int (2 * (T.length : Int) + n + (x.fdiv 2).fmod 3), .int (-1 - (x.fdiv 2).fmod 3)])
  refine ⟨_, rfl, _, _, rfl, rfl, (by show (2 : Int) ≠ 0; decide), l1, _, _, _, rfl, rfl, SqL.of upd_same, hou, ?_⟩
  generalize upd H l1 (.lst [.int (2 * (T.length : Int) + n + (x.fdiv 2).fmod 3), .int (-1 - (x.fdiv 2).fmod 3)]) = H1 at g1 ⊢
  obtain ⟨fa, hfa, fab⟩ := two_at (a := (10 : Int) ^ (9 : Int).toNat + 1) (b := -(10 : Int) ^ (9 : Int).toNat - 1) x2.1 x2.2
  refine ⟨_, _, rfl, rfl, ⟨by decide, by decide⟩, _, _, rfl, rfl, _, _, rfl, rfl, ⟨by decide, by decide⟩, _, rfl, _, _, rfl, rfl, (by show 2 ≤ sizeLine; decide), fun l2 nl2 => ?_⟩
  have g2' := same_new nl2 (.lst [.int ((10 : Int) ^ (9 : Int).toNat + 1), .int (-(10 : Int) ^ (9 : Int).toNat - 1)])
  refine ⟨_, rfl, _, _, rfl, rfl, (by show (2 : Int) ≠ 0; decide), l2, _, _, _, rfl, rfl, SqL.of upd_same, hfa, ?_⟩
  have g2 := g1.trans g2'
  generalize upd H1 l2 (.lst [.int ((10 : Int) ^ (9 : Int).toNat + 1), .int (-(10 : Int) ^ (9 : Int).toNat - 1)]) = H2 at g2 ⊢
  clear g2' g1 nl2 nl1
  rw [e9] at fab
  have ma := fm (a := x.fdiv 64) (n := (as.length : Int) + 1) (by omega)
  obtain ⟨c, hc⟩ := Int.eq_ofNat_of_zero_le ma.1
  refine ⟨_, rfl, _, _, rfl, rfl, ⟨by decide, PyProof.noPylong_small (by decide)⟩, _, rfl, al, _, rfl, .inl (SqL.of (g2 _ _ ea)), _, _, rfl, rfl, _, _, rfl, rfl, (by omega), ?_⟩
  dsimp only [gName]
  rw [hc]
  change L2.tSeq _ _ _ [some (.ref t), some (.int k), some (.int x), some (.ref td), some (.ref tl), some (.ref al), some (.ref pl), some (.int n), some (.int (2 * (T.length : Int) + n)), some (.int ou), some (.int fa), some (.int (c : Int)), none, none, none, none] _
  refine cut (fun σ H' => ∃ (al' : Addr) (A' : List Ky) (o1 o2 : Option V), σ = [some (.ref t), some (.int k), some (.int x), some (.ref td), some (.ref tl), some (.ref al'), some (.ref pl), some (.int n), some (.int (2 * (T.length : Int) + n)), some (.int ou), some (.int fa), some (.int (c : Int)), o1, o2, none, none] ∧ Same H H' ∧ LsA rKy An H' al' A' ∧ (∀ k ∈ A', ∃ p q g : Int, k = [p, q, g]) ∧ (k < 17 → ¬ (A'.length ≤ 600 ∧ ∀ k ∈ A', ArOk (2 * (T.length : Int) + n) k)) ∧ (¬ k < 17 → A'.length ≤ 600)) (fun N hN => ?_) ?_
  · refine ⟨_, rfl, _, _, rfl, rfl, _, rfl, d2 (fun c17 => ?_) fun c17 => hN _ _ ⟨al, A, none, none, rfl, g2, ⟨_, g2 _ _ ea, ra.imp fun _ _ q => mvS q g2⟩, lka, fun z => absurd z c17, fun _ => la6⟩⟩
    have mp := fm (a := x.fdiv 8) (n := 2 * (T.length : Int) + n) (by omega)
    have mq := fm (a := x.fdiv 16) (n := 2 * (T.length : Int) + n) (by omega)
    refine ⟨_, rfl, _, _, rfl, rfl, ⟨by decide, PyProof.noPylong_small (by decide)⟩, _, rfl, _, _, rfl, rfl, (by omega), ?_⟩
    dsimp only [gName]
    generalize hp : (x.fdiv 8).fmod (2 * (T.length : Int) + n) = p at mp ⊢
    refine ⟨_, rfl, _, rfl, (by show 3 ≤ sizeLine; decide), fun a1 n1 => ⟨_, rfl, _, rfl, (by show 3 ≤ sizeLine; decide), fun a2 n2 => ?_⟩⟩
    have i1 := same_new n1 (.tup [.int ou, .int p, .int 0])
    have e1 : upd H2 a1 (.tup [.int ou, .int p, .int 0]) a1 = some (.tup (([ou, p, 0] : Ky).map V.int)) := upd_same
    generalize upd H2 a1 (.tup [.int ou, .int p, .int 0]) = Ha at i1 e1 n2 ⊢
    have i2 := same_new n2 (.tup [.int p, .int ou, .int 0])
    have e2 : upd Ha a2 (.tup [.int p, .int ou, .int 0]) a2 = some (.tup (([p, ou, 0] : Ky).map V.int)) := upd_same
    generalize upd Ha a2 (.tup [.int p, .int ou, .int 0]) = Hb at i2 e2 ⊢
    refine ⟨_, rfl, _, rfl, _, _, rfl, rfl, ⟨by decide, PyProof.noPylong_small (by decide)⟩, _, rfl, _, _, rfl, rfl, (by omega), ?_⟩
    dsimp only
    generalize hq : (x.fdiv 16).fmod (2 * (T.length : Int) + n) = p' at mq ⊢
    refine ⟨_, rfl, (by show 3 ≤ sizeLine; decide), fun a3 n3 => ⟨(by show 3 ≤ sizeLine; decide), fun bl nbl => ?_⟩⟩
    have i3 := same_new n3 (.tup [.int p, .int p', .int fa])
    have e3 : upd Hb a3 (.tup [.int p, .int p', .int fa]) a3 = some (.tup (([p, p', fa] : Ky).map V.int)) := upd_same
    generalize upd Hb a3 (.tup [.int p, .int p', .int fa]) = Hc at i3 e3 nbl ⊢
    have i4 := same_new nbl (.lst [.ref a1, .ref a2, .ref a3])
    obtain ⟨ba, hba, bab⟩ := ref3_at (a := a1) (b := a2) (d := a3) (i := k - 14) (by omega) (by omega)
    refine ⟨_, rfl, _, _, rfl, rfl, bl, _, _, _, rfl, rfl, SqL.of upd_same, hba, ?_⟩
    have hK : ∃ K : Ky, Hc ba = some (.tup (K.map V.int)) ∧ (∃ p q g : Int, K = [p, q, g]) ∧ ¬ ArOk (2 * (T.length : Int) + n) K := by
      rcases bab with rfl | rfl | rfl
      · exact ⟨_, i3 _ _ (i2 _ _ e1), ⟨_, _, _, rfl⟩, ar_no fun z => by omega⟩
      · exact ⟨_, i3 _ _ e2, ⟨_, _, _, rfl⟩, ar_no fun z => by omega⟩
      · exact ⟨_, e3, ⟨_, _, _, rfl⟩, ar_no fun z => by omega⟩
    obtain ⟨K, eK, fK, nK⟩ := hK
    have eK4 := i4 _ _ eK
    have g4 := g2.trans ((i1.trans i2).trans (i3.trans i4))
    have ea4 := g4 _ _ ea
    generalize upd Hc bl (.lst [.ref a1, .ref a2, .ref a3]) = Hd at eK4 g4 ea4 ⊢
    refine ⟨_, rfl, _, rfl, _, rfl, al, _, rfl, SqL.of ea4, fun s1 ns1 => ?_⟩
    rw [L2.cut_take (by omega)]
    have h1 := same_new ns1 (.lst (as.take c))
    refine ⟨_, rfl, (by show 1 ≤ sizeLine; decide), fun s2 ns2 => ?_⟩
    have h2 := same_new ns2 (.lst [.ref ba])
    have lt : (as.take c).length ≤ 600 := by rw [List.length_take]; omega
    have ld : (as.drop c).length ≤ 600 := by rw [List.length_drop]; omega
    refine ⟨s1, s2, _, _, rfl, rfl, h2 _ _ upd_same, upd_same, (by show _ + 1 ≤ _; omega), fun s3 ns3 => ?_⟩
    have h3 := same_new ns3 (.lst (as.take c ++ [.ref ba]))
    refine ⟨_, rfl, _, rfl, _, rfl, al, _, rfl, SqL.of (h3 _ _ (h2 _ _ (h1 _ _ ea4))), fun s4 ns4 => ?_⟩
    rw [cut_dropB]
    have h4 := same_new ns4 (.lst (as.drop c))
    refine ⟨s3, s4, _, _, rfl, rfl, h4 _ _ upd_same, upd_same, (by rw [List.length_append]; show _ + 1 + _ ≤ _; omega), fun s5 ns5 => ?_⟩
    have h5 := same_new ns5 (.lst (as.take c ++ [.ref ba] ++ as.drop c))
    have hh := (h1.trans h2).trans (h3.trans (h4.trans h5))
    refine hN _ _ ⟨s5, A.take c ++ [K] ++ A.drop c, _, _, rfl, g4.trans hh, ⟨_, upd_same, (((ra.take c).imp fun _ _ q => mvS q (g4.trans hh)).append (A2.one ⟨ba, rfl, trivial, hh _ _ eK4⟩)).append ((ra.drop c).imp fun _ _ q => mvS q (g4.trans hh))⟩, fun k' hk => ?_, fun _ z => nK (z.2 K (by simp)), fun z => absurd c17 z⟩
    rcases List.mem_append.mp hk with h | h
    · rcases List.mem_append.mp h with h | h
      · exact lka k' (List.mem_of_mem_take h)
      · rw [List.mem_singleton.mp h]; exact fK
    · exact lka k' (List.mem_of_mem_drop h)

  rintro σ H3 ⟨al', A', o1, o2, rfl, g3, ⟨as', ea3, ra3⟩, f3, kB, kC⟩
  clear g2 hc ma
  have la3 : as'.length = A'.length := ra3.1
  refine cut (fun σ H' => ∃ (al' : Addr) (A' : List Ky) (o1 o2 : Option V), σ = [some (.ref t), some (.int k), some (.int x), some (.ref td), some (.ref tl), some (.ref al'), some (.ref pl), some (.int n), some (.int (2 * (T.length : Int) + n)), some (.int ou), some (.int fa), some (.int (c : Int)), o1, o2, none, none] ∧ Same H H' ∧ LsA rKy An H' al' A' ∧ (∀ k ∈ A', ∃ p q g : Int, k = [p, q, g]) ∧ (k < 18 → ¬ (A'.length ≤ 600 ∧ ∀ k ∈ A', ArOk (2 * (T.length : Int) + n) k))) (fun N hN => ?_) ?_
  · refine ⟨_, rfl, rfl, _, rfl, d2I (fun c17 => ?_) fun c17 => hN _ _ ⟨al', A', o1, o2, rfl, g3, ⟨as', ea3, ra3⟩, f3, fun z => kB (by omega)⟩⟩
    have l6 := kC (by omega)
    refine ⟨_, rfl, _, rfl, al', _, rfl, .inl (SqL.of ea3), _, _, rfl, rfl, ?_⟩
    refine ⟨_, rfl, by omega, by omega, comp_RrH rKy (fun _ => False) (fun _ => [0, 1, 1]) HdOk.no (by omega) (fun a h => h.elim) (fun i hi H4 g4 Q' hQ => ⟨(by show 3 ≤ sizeLine; decide), fun t' nt => hQ _ _ (same_new nt _) ⟨t', rfl, .inl nt, upd_same⟩⟩) fun p H4 np g4 hp => ?_⟩
    obtain ⟨ps, ep, rp⟩ := hp.any
    have lp : ps.length = 601 - A'.length := by rw [rp.1, List.length_map, List.length_range]; omega
    refine ⟨al', p, _, _, rfl, rfl, g4 _ _ ea3, ep, by omega, fun l nl => ?_⟩
    have g5 := same_new nl (.lst (as' ++ ps))
    refine hN _ _ ⟨l, _, _, _, rfl, (g3.trans g4).trans g5, ⟨_, upd_same, ((ra3.imp fun _ _ q => mvS q g4).append rp).imp fun _ _ q => mvS q g5⟩, fun k' hk => ?_, fun _ z => ?_⟩
    · rcases List.mem_append.mp hk with h | h
      · exact f3 k' h
      · obtain ⟨_, _, rfl⟩ := List.mem_map.mp h
        exact ⟨_, _, _, rfl⟩
    · have := z.1
      rw [List.length_append, ← rp.1] at this
      omega
  clear ea3 ra3 la3 f3 kB kC g3
  rintro σ H3 ⟨al', A', o1, o2, rfl, g3, hA3, f3, kB⟩
  have el3 := g3 _ _ el
  have eb3 := g3 _ _ eb
  have mi := fm (a := x.fdiv 8) (n := (T.length : Int)) (by omega)
  refine ⟨_, rfl, _, _, rfl, rfl, ⟨by decide, PyProof.noPylong_small (by decide)⟩, _, rfl, tl, _, rfl, .inl (SqL.of el3), _, _, rfl, rfl, (by omega), ?_⟩
  dsimp only [gName]
  rw [lv]
  generalize (x.fdiv 8).fmod (T.length : Int) = i at mi ⊢
  obtain ⟨st, hst, stb⟩ := two_at (a := (T.length : Int) + (x.fdiv 2).fmod 3) (b := -1 - (x.fdiv 2).fmod 3) x2.1 x2.2
  refine ⟨_, rfl, tl, _, rfl, .inl (SqL.of el3), _, rfl, _, _, rfl, rfl, ⟨by decide, PyProof.noPylong_small (by decide)⟩, _, _, rfl, rfl, (by show (3 : Int) ≠ 0; decide), _, _, rfl, rfl, _, rfl, _, rfl, _, _, rfl, rfl, ⟨by decide, PyProof.noPylong_small (by decide)⟩, _, _, rfl, rfl, (by show (3 : Int) ≠ 0; decide), _, _, rfl, rfl, (by show 2 ≤ sizeLine; decide), fun l3 nl3 => ?_⟩
  rw [lv]
  have g4' := same_new nl3 (.lst [.int ((T.length : Int) + (x.fdiv 2).fmod 3), .int (-1 - (x.fdiv 2).fmod 3)])
  refine ⟨_, rfl, _, _, rfl, rfl, (by show (2 : Int) ≠ 0; decide), l3, _, _, _, rfl, rfl, SqL.of upd_same, hst, ?_⟩
  have g4 := g3.trans g4'
  have hA4 := hA3.same g4'
  generalize upd H3 l3 (.lst [.int ((T.length : Int) + (x.fdiv 2).fmod 3), .int (-1 - (x.fdiv 2).fmod 3)]) = H4 at g4 hA4 ⊢
  clear g4' g3 hA3 el3 eb3
  have eb4 := g4 _ _ eb
  have mb := fm (a := x.fdiv 64) (n := (bs.length : Int) + 1) (by omega)
  obtain ⟨d, hd⟩ := Int.eq_ofNat_of_zero_le mb.1
  refine ⟨_, rfl, _, _, rfl, rfl, ⟨by decide, PyProof.noPylong_small (by decide)⟩, _, rfl, pl, _, rfl, .inl (SqL.of eb4), _, _, rfl, rfl, _, _, rfl, rfl, (by omega), ?_⟩
  dsimp only [gName]
  rw [hd]
  change L2.tSeq _ _ _ [some (.ref t), some (.int k), some (.int x), some (.ref td), some (.ref tl), some (.ref al'), some (.ref pl), some (.int n), some (.int (2 * (T.length : Int) + n)), some (.int ou), some (.int fa), some (.int (d : Int)), o1, o2, some (.int i), some (.int st)] _
  refine cut (fun σ H' => ∃ (pl' : Addr) (B' : List Ky) (o2 : Option V), σ = [some (.ref t), some (.int k), some (.int x), some (.ref td), some (.ref tl), some (.ref al'), some (.ref pl'), some (.int n), some (.int (2 * (T.length : Int) + n)), some (.int ou), some (.int fa), some (.int (d : Int)), o1, o2, some (.int i), some (.int st)] ∧ Same H4 H' ∧ LsA rKy An H' pl' B' ∧ (∀ k ∈ B', ∃ p q : Int, k = [p, q]) ∧ (k = 18 ∨ k = 19 → ¬ (B'.length ≤ 300 ∧ ∀ k ∈ B', PrOk (T.length : Int) k)) ∧ (¬ (k = 18 ∨ k = 19) → B'.length ≤ 300)) (fun N hN => ?_) ?_
  · refine (show (k = 18 ∨ k = 19 → _) → _ from fun h => ⟨_, rfl, rfl, _, rfl, d2I (fun c => iteT (h (.inl c))) fun c => ⟨_, rfl, rfl, _, rfl, d2I (fun c' => h (.inr c')) fun c' => hN _ _ ⟨pl, B2, o2, rfl, .refl _, ⟨_, eb4, rb.imp fun _ _ q => mvS q g4⟩, lkb, fun z => absurd z (by omega), fun _ => lb3⟩⟩⟩) fun ck => ?_
    refine ⟨_, rfl, _, rfl, (by show 2 ≤ sizeLine; decide), fun a1 n1 => ?_⟩
    have i1 := same_new n1 (.tup [.int i, .int i])
    have e1 : upd H4 a1 (.tup [.int i, .int i]) a1 = some (.tup (([i, i] : Ky).map V.int)) := upd_same
    generalize upd H4 a1 (.tup [.int i, .int i]) = Ha at i1 e1 ⊢
    refine ⟨_, rfl, _, rfl, (by show 2 ≤ sizeLine; decide), fun a2 n2 => ⟨_, rfl, _, rfl, (by show 2 ≤ sizeLine; decide), fun a3 n3 => ⟨(by show 2 ≤ sizeLine; decide), fun bl nbl => ?_⟩⟩⟩
    have i2 := same_new n2 (.tup [.int i, .int st])
    have e2 : upd Ha a2 (.tup [.int i, .int st]) a2 = some (.tup (([i, st] : Ky).map V.int)) := upd_same
    generalize upd Ha a2 (.tup [.int i, .int st]) = Hb at i2 e2 n3 nbl ⊢
    have i3 := same_new n3 (.tup [.int st, .int i])
    have e3 : upd Hb a3 (.tup [.int st, .int i]) a3 = some (.tup (([st, i] : Ky).map V.int)) := upd_same
    generalize upd Hb a3 (.tup [.int st, .int i]) = Hc at i3 e3 nbl ⊢
    have i4 := same_new nbl (.lst [.ref a2, .ref a3])
    have x4 := fm (a := x.fdiv 4) (n := 2) (by decide)
    obtain ⟨bb, hbb, bbb⟩ := ref2_at (a := a2) (b := a3) x4.1 x4.2
    refine ⟨_, rfl, _, _, rfl, rfl, ⟨by decide, PyProof.noPylong_small (by decide)⟩, _, _, rfl, rfl, (by show (2 : Int) ≠ 0; decide), bl, _, _, _, rfl, rfl, SqL.of upd_same, hbb, (by show 2 ≤ sizeLine; decide), fun bl2 nbl2 => ?_⟩
    have i5 := same_new nbl2 (.lst [.ref a1, .ref bb])
    obtain ⟨ba, hba, bab⟩ := ref2_at (a := a1) (b := bb) (i := k - 18) (by omega) (by omega)
    refine ⟨_, rfl, _, _, rfl, rfl, bl2, _, _, _, rfl, rfl, SqL.of upd_same, hba, ?_⟩
    have hK : ∃ K : Ky, Hc ba = some (.tup (K.map V.int)) ∧ (∃ p q : Int, K = [p, q]) ∧ ¬ PrOk (T.length : Int) K := by
      rcases bab with ⟨_, rfl⟩ | ⟨_, rfl⟩
      · exact ⟨_, i3 _ _ (i2 _ _ e1), ⟨_, _, rfl⟩, pr_no fun z => z.2.2.2.2 rfl⟩
      · rcases bbb with ⟨_, rfl⟩ | ⟨_, rfl⟩
        · exact ⟨_, i3 _ _ e2, ⟨_, _, rfl⟩, pr_no fun z => by omega⟩
        · exact ⟨_, e3, ⟨_, _, rfl⟩, pr_no fun z => by omega⟩
    obtain ⟨K, eK, fK, nK⟩ := hK
    have eK4 := i5 _ _ (i4 _ _ eK)
    have g5 := (i1.trans i2).trans (i3.trans (i4.trans i5))
    have eb5 := g5 _ _ eb4
    generalize upd (upd Hc bl (.lst [.ref a2, .ref a3])) bl2 (.lst [.ref a1, .ref bb]) = Hd at eK4 g5 eb5 ⊢
    refine ⟨_, rfl, _, rfl, _, rfl, pl, _, rfl, SqL.of eb5, fun s1 ns1 => ?_⟩
    rw [L2.cut_take (by omega)]
    have h1 := same_new ns1 (.lst (bs.take d))
    refine ⟨_, rfl, (by show 1 ≤ sizeLine; decide), fun s2 ns2 => ?_⟩
    have h2 := same_new ns2 (.lst [.ref ba])
    have lt : (bs.take d).length ≤ 300 := by rw [List.length_take]; omega
    have ld : (bs.drop d).length ≤ 300 := by rw [List.length_drop]; omega
    refine ⟨s1, s2, _, _, rfl, rfl, h2 _ _ upd_same, upd_same, (by show _ + 1 ≤ _; omega), fun s3 ns3 => ?_⟩
    have h3 := same_new ns3 (.lst (bs.take d ++ [.ref ba]))
    refine ⟨_, rfl, _, rfl, _, rfl, pl, _, rfl, SqL.of (h3 _ _ (h2 _ _ (h1 _ _ eb5))), fun s4 ns4 => ?_⟩
    rw [cut_dropB]
    have h4 := same_new ns4 (.lst (bs.drop d))
    refine ⟨s3, s4, _, _, rfl, rfl, h4 _ _ upd_same, upd_same, (by rw [List.length_append]; show _ + 1 + _ ≤ _; omega), fun s5 ns5 => ?_⟩
    have h5 := same_new ns5 (.lst (bs.take d ++ [.ref ba] ++ bs.drop d))
    have hh := (h1.trans h2).trans (h3.trans (h4.trans h5))
    refine hN _ _ ⟨s5, B2.take d ++ [K] ++ B2.drop d, _, rfl, g5.trans hh, ⟨_, upd_same, (((rb.take d).imp fun _ _ q => mvS q (g4.trans (g5.trans hh))).append (A2.one ⟨ba, rfl, trivial, hh _ _ eK4⟩)).append ((rb.drop d).imp fun _ _ q => mvS q (g4.trans (g5.trans hh)))⟩, fun k' hk => ?_, fun _ z => nK (z.2 K (by simp)), fun z => absurd ck z⟩
    rcases List.mem_append.mp hk with h | h
    · rcases List.mem_append.mp h with h | h
      · exact lkb k' (List.mem_of_mem_take h)
      · rw [List.mem_singleton.mp h]; exact fK
    · exact lkb k' (List.mem_of_mem_drop h)

  rintro σ H5 ⟨pl', B', o2', rfl, g5, ⟨bs', eb5, rb5⟩, f2, kP, kQ⟩
  refine cut (fun σ H' => ∃ (pl' : Addr) (B' : List Ky), σ = [some (.ref t), some (.int k), some (.int x), some (.ref td), some (.ref tl), some (.ref al'), some (.ref pl'), some (.int n), some (.int (2 * (T.length : Int) + n)), some (.int ou), some (.int fa), some (.int (d : Int)), o1, o2', some (.int i), some (.int st)] ∧ Same H4 H' ∧ LsA rKy An H' pl' B' ∧ (∀ k ∈ B', ∃ p q : Int, k = [p, q]) ∧ (18 ≤ k → k ≤ 20 → ¬ (B'.length ≤ 300 ∧ ∀ k ∈ B', PrOk (T.length : Int) k))) (fun N hN => ?_) ?_
  · refine ⟨_, rfl, rfl, _, rfl, d2I (fun c20 => ?_) fun c20 => hN _ _ ⟨pl', B', rfl, g5, ⟨bs', eb5, rb5⟩, f2, fun z z' => kP (by omega)⟩⟩
    have l3 := kQ (by omega)
    have lb5 : bs'.length = B'.length := rb5.1
    refine ⟨_, rfl, _, rfl, pl', _, rfl, .inl (SqL.of eb5), _, _, rfl, rfl, ?_⟩
    refine ⟨_, rfl, by omega, by omega, comp_RrH rKy (fun _ => False) (fun _ => [0, 1]) HdOk.no (by omega) (fun a h => h.elim) (fun i hi H4 g4 Q' hQ => ⟨(by show 2 ≤ sizeLine; decide), fun t' nt => hQ _ _ (same_new nt _) ⟨t', rfl, .inl nt, upd_same⟩⟩) fun p H6 np g6 hp => ?_⟩
    obtain ⟨ps, ep, rp⟩ := hp.any
    have lp : ps.length = 301 - B'.length := by rw [rp.1, List.length_map, List.length_range]; omega
    refine ⟨pl', p, _, _, rfl, rfl, g6 _ _ eb5, ep, by omega, fun l nl => ?_⟩
    have g7 := same_new nl (.lst (bs' ++ ps))
    refine hN _ _ ⟨l, _, rfl, (g5.trans g6).trans g7, ⟨_, upd_same, ((rb5.imp fun _ _ q => mvS q g6).append rp).imp fun _ _ q => mvS q g7⟩, fun k' hk => ?_, fun _ _ z => ?_⟩
    · rcases List.mem_append.mp hk with h | h
      · exact f2 k' h
      · obtain ⟨_, _, rfl⟩ := List.mem_map.mp h
        exact ⟨_, _, rfl⟩
    · have := z.1
      rw [List.length_append, ← rp.1] at this
      omega
  clear eb5 rb5 f2 kP kQ g5
  rintro σ H5 ⟨pl', B', rfl, g5, hB5, f2, kP⟩
  refine cut (fun σ H' => ∃ n' : Int, σ = [some (.ref t), some (.int k), some (.int x), some (.ref td), some (.ref tl), some (.ref al'), some (.ref pl'), some (.int n'), some (.int (2 * (T.length : Int) + n)), some (.int ou), some (.int fa), some (.int (d : Int)), o1, o2', some (.int i), some (.int st)] ∧ H5 = H' ∧ (k ≠ 21 → n' = n) ∧ (k = 21 → 8 < n')) (fun N hN => ?_) ?_
  · have x4 := fm (a := x) (n := 4) (by decide)
    exact ⟨_, rfl, rfl, _, rfl, d2I (fun c => ⟨_, rfl, _, _, rfl, rfl, (by show (4 : Int) ≠ 0; decide), _, _, rfl, rfl, hN _ _ ⟨_, rfl, rfl, fun z => absurd c z, fun _ => by omega⟩⟩) fun c => hN _ _ ⟨n, rfl, rfl, fun _ => rfl, fun z => absurd z c⟩⟩
  rintro σ H6 ⟨n', rfl, rfl, n1, n2⟩
  refine cut (fun σ H' => ∃ n' : Int, σ = [some (.ref t), some (.int k), some (.int x), some (.ref td), some (.ref tl), some (.ref al'), some (.ref pl'), some (.int n'), some (.int (2 * (T.length : Int) + n)), some (.int ou), some (.int fa), some (.int (d : Int)), o1, o2', some (.int i), some (.int st)] ∧ H5 = H' ∧ (k < 21 → n' = n) ∧ (21 ≤ k → ¬ (0 ≤ n' ∧ n' ≤ 8))) (fun N hN => ?_) ?_
  · have x4 := fm (a := x) (n := 4) (by decide)
    exact ⟨_, rfl, rfl, _, rfl, d2I (fun c => ⟨_, rfl, _, rfl, _, _, rfl, rfl, (by show (4 : Int) ≠ 0; decide), _, _, rfl, rfl, hN _ _ ⟨_, rfl, rfl, fun z => by omega, fun _ z => by omega⟩⟩) fun c => hN _ _ ⟨n', rfl, rfl, fun z => n1 (by omega), fun z w => by have := n2 (by omega); omega⟩⟩
  rintro σ H6 ⟨n2', rfl, rfl, m1, m2⟩
  refine ⟨_, rfl, _, rfl, _, rfl, _, rfl, _, rfl, (by show 5 ≤ sizeLine; decide), fun t' nt => ?_⟩
  have g := same_new nt (.tup [.ref td, .ref tl, .ref al', .ref pl', .int n2'])
  have gg := (g4.trans g5).trans g
  refine q t' A' B' n2' _ ⟨td, tl, al', pl', upd_same, gg _ _ etd, ⟨vs, gg _ _ el, r.imp fun _ _ q => mvS q gg⟩, ((hA4.same g5).same g).tups, (hB5.same g).tups⟩ f3 f2 fun z => ?_
  by_cases ka : k < 18
  · exact kB ka ⟨z.2.2.1, by have := z.2.2.2.1; rwa [m1 (by omega)] at this⟩
  by_cases kb : k < 21
  · exact kP (by omega) (by omega) ⟨z.2.2.2.2.1, z.2.2.2.2.2⟩
  · exact m2 (by omega) ⟨z.1, z.2.1⟩

set_option maxHeartbeats 4000000 in
theorem ok_law_spoilt {dV : Value} (F : FunD K "_law_spoilt" "_law_spoilt" s_law_spoilt dV f fd) (D_law_bad_tasks : Dx P w K mg base CX0 2 "_law_bad_tasks" ["_law_tools_here", "_law_tasks", "_law_kind", "_law_x"] [] spBadTasks) (D_law_bad_links : Dx P w K mg base CX0 1 "_law_bad_links" ["_law_made_here", "_law_kind", "_law_x"] [] spBadLinks) : FnOk P w K mg base CX0 3 f fd ["_law_made_here", "_law_kind", "_law_x"] spSpoilt51 := by
  have sc : FnScope ["_law_made_here", "_law_kind", "_law_x", "_law_tools_here", "_law_tasks", "_law_arcs_here", "_law_pairs_here", "_law_moments", "_law_letter"] ["_law_made_here", "_law_kind", "_law_x"] (defScope s_law_spoilt) := scK (by decide +kernel)
  refine F.ok sc (fun vs H Q E h => ?_) (fun cdv A outer s H vs Q E hr h => ?_)
  · obtain ⟨_, _, _, _, _, _, _, _, rfl, _⟩ := h
    rfl
  obtain ⟨t, k, x, D, T, A, B2, n, rfl, M, fo, lk, k0, k23, x0, x1, q⟩ := h
  refine ⟨_, (pss_cons (ps_asg (pv 0) (pg_tup rfl (pgs_cons (pg_name (i := 3) sc.nd rfl (Or.inl rfl)) (pgs_cons (pg_name (i := 4) sc.nd rfl (Or.inl rfl)) (pgs_cons (pg_name (i := 5) sc.nd rfl (Or.inl rfl)) (pgs_cons (pg_name (i := 6) sc.nd rfl (Or.inl rfl)) (pgs_cons (pg_name (i := 7) sc.nd rfl (Or.inl rfl)) pgs_nil))))))) (pss_cons (ps_if (pt_cmpR op_eq (pv 1) pe_int (nomark _)) (pss_cons (ps_for PassesOwn.never rfl (pi_str pe_str) (pg_name (i := 8) sc.nd rfl (Or.inl rfl)) (pss_one (ps_if (pt_cmpR op_lt (pe_callB call_lenD1 rfl B.b_len boot_len (@pa_cons _ _ _ _ _ (pv 3) pa_nil rfl)) pe_int (nomark _)) (pss_one (ps_dput (hu_of hr) (pv 3) (pe_op op_add_str pe_str (pv 8)) pe_int rfl)) pss_nil))) (pss_one (ps_ret (pv 0)))) pss_nil) (pss_cons (ps_if (pt_cmpR op_eq (pv 1) pe_int (nomark _)) (pss_cons (ps_dput (hu_of hr) (pv 3) (pe_ix ix_list (pe_callTy (call_listD rfl) rfl B.b_list boot_list (@pa_cons _ _ _ _ _ (pv 3) pa_nil rfl)) (pe_op op_modN (pe_op op_fdivB (pv 2) pe_int) (pe_callB call_lenD1 rfl B.b_len boot_len (@pa_cons _ _ _ _ _ (pv 3) pa_nil rfl))) (fun _ _ => rfl)) (pe_ix ix_list (@pe_lst _ _ _ _ (@pa_cons _ _ _ _ _ pe_int (@pa_cons _ _ _ _ _ pe_int (@pa_cons _ _ _ _ _ (pe_un un_neg pe_int) (@pa_cons _ _ _ _ _ (pe_op op_add pe_int (pe_op op_fdivB (pv 2) pe_int)) pa_nil rfl) rfl) rfl) rfl)) (pe_op op_modN (pv 2) pe_int) (fun _ _ => rfl)) rfl) (pss_one (ps_ret (pv 0)))) pss_nil) (pss_cons (ps_if (pt_cmpR op_lt (pv 1) pe_int (nomark _)) (pss_one (ps_ret (@pe_tup _ _ _ _ _ (@pa_cons _ _ _ _ _ (pv 3) (@pa_cons _ _ _ _ _ (pcall0 D_law_bad_tasks hr (by decide) rfl (@pa_cons _ _ _ _ _ (pv 3) (@pa_cons _ _ _ _ _ (pv 4) (@pa_cons _ _ _ _ _ (pv 1) (@pa_cons _ _ _ _ _ (pv 2) pa_nil rfl) rfl) rfl) rfl)) (@pa_cons _ _ _ _ _ (pv 5) (@pa_cons _ _ _ _ _ (pv 6) (@pa_cons _ _ _ _ _ (pv 7) pa_nil rfl) rfl) rfl) rfl) rfl)))) pss_nil) (pss_one (ps_ret (pcall0 D_law_bad_links hr (by decide) rfl (@pa_cons _ _ _ _ _ (pv 0) (@pa_cons _ _ _ _ _ (pv 1) (@pa_cons _ _ _ _ _ (pv 2) pa_nil rfl) rfl) rfl)))))))), ?_⟩
  try dsimp only [cxK]
  have sl : sizeLine = 16777216 := sizeLine_eq
  obtain ⟨td, tl, al, pl, et, etd, hT, hA, hB⟩ := M.ex
  have dl := fo.tok.len
  have d1 := fo.d1
  refine ⟨_, rfl, t, _, rfl, SqT.of et, rfl, _, _, rfl, _, _, rfl, _, _, rfl, _, _, rfl, _, _, rfl, rfl, ?_⟩
  dsimp only [gName, tNext]
  have fin : ∀ (E2 : Tl) (H' : Hp), Sq H H' → H' td = some (.dK (toolK E2)) → (E2.map (·.1)).Nodup → (∀ p ∈ E2, p.1.length ≤ 1000000) → ¬ (E2.length ≤ 12 ∧ ∀ p ∈ E2, Nm p.1 ∧ 1 ≤ p.2 ∧ p.2 ≤ 8) → Q (.ref t) H' := fun E2 H' sq e nd nm no => q t H' E2 T A B2 n ⟨td, tl, al, pl, sq _ _ rfl et, e, hT.sq sq, hA.sq sq, hB.sq sq⟩ ⟨nd, nm, by have := fo.t24; omega, fo.ft.fo, lk.a, lk.b⟩ fun z => no ⟨z.d12, z.tool⟩
  refine cut (fun σ H' => σ = [some (.ref t), some (.int k), some (.int x), some (.ref td), some (.ref tl), some (.ref al), some (.ref pl), some (.int n), none] ∧ H = H' ∧ k ≠ 0) (fun N hN => ?_) ?_
  · refine ⟨_, rfl, rfl, _, rfl, d2I (fun c => ?_) fun c => hN _ _ ⟨rfl, rfl, c⟩⟩
    refine ⟨_, rfl, for_str (z := "bcdefghijklmn") (fun i σ H' => (∃ o : Option V, σ = [some (.ref t), some (.int k), some (.int x), some (.ref td), some (.ref tl), some (.ref al), some (.ref pl), some (.int n), o]) ∧ Sq H H' ∧ ∃ D' : Tl, H' td = some (.dK (toolK D')) ∧ Qin D' i) ⟨⟨none, rfl⟩, (fun a o s e => e), D, etd, fo.tok.nd, fo.tok.nm, by omega, .inr fun j h => absurd h (Nat.not_lt_zero _)⟩ ?_ ?_⟩
    · rintro i ch σ H1 hc ⟨⟨o, rfl⟩, sq, D', e, qi⟩
      obtain ⟨rfl, i13⟩ := q_let hc
      have qmem : ¬ D'.length < 13 → Qin D' (i + 1) := fun z => ⟨qi.nd, qi.nm, qi.len, .inl (by have := qi.len; omega)⟩
      refine ⟨_, rfl, td, _, rfl, e, _, _, rfl, rfl, _, rfl, d2 (fun c => ?_) fun c => ⟨⟨_, rfl⟩, sq, D', e, qmem (by rw [toolK_len] at c; omega)⟩⟩
      have l13 : D'.length < 13 := by rw [toolK_len] at c; omega
      refine ⟨_, rfl, _, rfl, _, _, rfl, rfl, (by show 1 + 1 ≤ sizeLine; decide), td, _, rfl, DPut.k (k := .inr (qn i)) e (by rw [toolK_len]; omega), ⟨_, rfl⟩, (fun a o s z => upd_sqD e _ a o s (sq a o s z)), putT D' (qn i) 2, ?_, qi.put l13⟩
      rw [(putT_spec D' (qn i) 2).1]
      exact upd_same
    · rintro σ H1 ⟨⟨o, rfl⟩, sq, D', e, qi⟩
      exact ⟨_, rfl, fin D' H1 sq e qi.nd qi.nm fun z => by have := (show Qin D' 13 from qi).all; omega⟩
  rintro σ H' ⟨rfl, rfl, c0⟩
  refine cut (fun σ H' => σ = [some (.ref t), some (.int k), some (.int x), some (.ref td), some (.ref tl), some (.ref al), some (.ref pl), some (.int n), none] ∧ H = H' ∧ k ≠ 1) (fun N hN => ?_) ?_
  · refine ⟨_, rfl, rfl, _, rfl, d2I (fun c => ?_) fun c => hN _ _ ⟨rfl, rfl, c⟩⟩
    obtain ⟨v, hv, vb⟩ := four_at x0
    refine ⟨_, rfl, _, rfl, _, _, rfl, rfl, ⟨by decide, PyProof.noPylong_small (by decide)⟩, _, _, rfl, rfl, (by show 4 ≤ sizeLine; decide), fun l nl => ?_⟩
    have g1 := same_new nl (.lst [.int 0, .int 9, .int (-3), .int (9 + x.fdiv 64)])
    refine ⟨_, rfl, _, _, rfl, rfl, (by show (4 : Int) ≠ 0; decide), l, _, _, _, rfl, rfl, SqL.of upd_same, hv, ?_⟩
    have etd1 := g1 _ _ etd
    generalize upd H l (.lst [.int 0, .int 9, .int (-3), .int (9 + x.fdiv 64)]) = H1 at g1 etd1 ⊢
    have kn : ((toolK D).map fun p => kV p.1) = D.map fun p => V.str p.1 := by unfold toolK; rw [List.map_map]; rfl
    refine ⟨_, rfl, _, rfl, td, _, rfl, etd1, fun nl nnl => ?_⟩
    rw [kn]
    have g2' := same_new nnl (.lst (D.map fun p => V.str p.1))
    have en : upd H1 nl (.lst (D.map fun p => V.str p.1)) nl = some (.lst (D.map fun p => V.str p.1)) := upd_same
    have etd2 := g2' _ _ etd1
    have g2 := g1.trans g2'
    generalize upd H1 nl (.lst (D.map fun p => V.str p.1)) = H2 at g2 en etd2 ⊢
    have mD := fm (a := x.fdiv 4) (n := (D.length : Int)) (by omega)
    obtain ⟨i, hi⟩ := Int.eq_ofNat_of_zero_le mD.1
    have il : i < D.length := by omega
    have h0 := List.getElem?_eq_getElem il
    generalize D[i] = p at h0
    have at0 : atI (D.map fun p => V.str p.1) ((x.fdiv 4).fmod (D.length : Int)) = some (.str p.1) := by rw [hi]; exact atI_nat (map_at (f := fun p : Str × Int => V.str p.1) h0)
    refine ⟨_, rfl, _, _, rfl, rfl, ⟨by decide, PyProof.noPylong_small (by decide)⟩, _, rfl, td, _, rfl, etd2, _, _, rfl, rfl, (by rw [toolK_len]; omega), nl, _, _, _, rfl, rfl, SqL.of en, (by rw [toolK_len]; exact at0), td, _, rfl, DPut.k (k := .inr p.1) etd2 (by rw [toolK_len]; omega), ?_⟩
    obtain ⟨p1, p2, _, _, p5⟩ := putT_spec D p.1 v
    refine ⟨_, rfl, fin (putT D p.1 v) _ (fun a o s e => upd_sqD etd2 _ a o s (g2 _ _ e)) (by rw [← p1]; exact upd_same) (p2 fo.tok.nd) (fun r hr => ?_) fun z => vb (z.2 _ (manyOf_mem (z := p.1) (by rw [putT_val, if_pos rfl]))).2⟩
    rcases p5 r hr with q | q
    · exact fo.tok.nm r q
    · rw [q]; exact fo.tok.nm p (List.mem_of_getElem? h0)
  rintro σ H' ⟨rfl, rfl, c1⟩
  refine cut (fun σ H' => σ = [some (.ref t), some (.int k), some (.int x), some (.ref td), some (.ref tl), some (.ref al), some (.ref pl), some (.int n), none] ∧ H = H' ∧ ¬ k < 14) (fun N hN => ?_) ?_
  · refine ⟨_, rfl, _, _, rfl, rfl, _, rfl, d2 (fun c => ?_) fun c => hN _ _ ⟨rfl, rfl, c⟩⟩
    refine ⟨_, rfl, _, rfl, _, rfl, _, rfl, _, rfl, td, tl, k, x, D, T, rfl, etd, hT, fo, by omega, by omega, x0, x1, fun p T' H' g hT' no l1 l2 => ?_⟩
    refine ⟨_, rfl, _, rfl, _, rfl, (by show 5 ≤ sizeLine; decide), fun t' nt => ?_⟩
    have g2 := same_new nt (.tup [.ref td, .ref p, .ref al, .ref pl, .int n])
    have gg := g.trans g2
    exact q t' _ D T' A B2 n ⟨td, p, al, pl, upd_same, gg _ _ etd, hT'.same g2, hA.same gg, hB.same gg⟩ ⟨fo.tok.nd, fo.tok.nm, l1, l2, lk.a, lk.b⟩ fun z => no ⟨z.t24, z.ways⟩
  rintro σ H' ⟨rfl, rfl, c14⟩
  refine ⟨_, rfl, _, rfl, _, rfl, t, k, x, D, T, A, B2, n, rfl, M, fo.t2, fo.t24, lk, by omega, by omega, x0, x1, fun t' A' B' n' H' M' fa fb no => ?_⟩
  exact q t' H' D T A' B' n' M' ⟨fo.tok.nd, fo.tok.nm, by have := fo.t24; omega, fo.ft.fo, fa, fb⟩ fun z => no ⟨z.n0, z.n8, z.a600, z.arcs, z.b300, z.pairs⟩

set_option maxHeartbeats 4000000 in
theorem ok_law_kept {dV : Value} (F : FunD K "_law_kept" "_law_kept" s_law_kept dV f fd) (Dpoints_of : Dx P w K mg base CX0 1 "points_of" ["net"] [] (spPointsG c_Net)) (D_law_whole : Dx P w K mg base CX0 1 "_law_whole" ["_law_found"] [] spWhole) : FnOk P w K mg base CX0 2 f fd ["_law_net", "_law_made_here"] (spKept51 c_Net) := by
  have sc : FnScope ["_law_net", "_law_made_here", "_law_thing", "_law_found"] ["_law_net", "_law_made_here"] (defScope s_law_kept) := scK (by decide +kernel)
  refine F.ok sc (fun vs H Q E h => ?_) (fun cdv A outer s H vs Q E hr h => ?_)
  · obtain ⟨_, _, _, _, _, _, _, _, rfl, _⟩ := h
    rfl
  obtain ⟨x, t, P0, D, T, A, B2, n, rfl, N0, M, nd, q⟩ := h
  refine ⟨_, (pss_cons (ps_if (PW.pt (pw_or (pt_not (pt_val (pe_callB (call_isiT (K := K) rfl) rfl B.b_isinstance boot_isinstance (@pa_cons _ _ _ _ _ (pe_fld (pv 0) rfl) (@pa_cons _ _ _ _ _ (pe_bltn (v := .ty "dict") rfl B.b_dict boot_dict rfl) pa_nil rfl) rfl)))) (pw_or1 (pt_not (pt_val (pcall0 D_law_whole hr (by decide) rfl (@pa_cons _ _ _ _ _ (pe_fld (pv 0) rfl) pa_nil rfl))))))) (pss_one (ps_ret pe_bl)) pss_nil) (pss_cons (ps_for PassesOwn.never rfl (pi_list (@pe_lst _ _ _ _ (@pa_cons _ _ _ _ _ (pe_fld (pv 0) rfl) (@pa_cons _ _ _ _ _ (pe_fld (pv 0) rfl) (@pa_cons _ _ _ _ _ (pe_fld (pv 0) rfl) pa_nil rfl) rfl) rfl))) (pg_name (i := 2) sc.nd rfl (Or.inl rfl)) (pss_one (ps_if (pt_not (pt_val (pe_callB (call_isiT (K := K) rfl) rfl B.b_isinstance boot_isinstance (@pa_cons _ _ _ _ _ (pv 2) (@pa_cons _ _ _ _ _ (pe_bltn (v := .ty "list") rfl B.b_list boot_list rfl) pa_nil rfl) rfl)))) (pss_one (ps_ret pe_bl)) pss_nil))) (pss_cons (ps_if (PW.pt (pw_or (pt_cmpR (op_neTl (hu_of hr)) (pe_fld (pv 0) rfl) (pe_ix (ix_tupB (K := K) rfl) (pv 1) pe_int (fun _ _ => rfl)) (nomark _)) (pw_or (pt_cmpR (op_neA 4 (Nat.lt_trans (Nat.add_lt_add_left (by decide : 4 + 1 < 64) _) hr.units)) (pe_fld (pv 0) rfl) (pe_ix (ix_tupB (K := K) rfl) (pv 1) pe_int (fun _ _ => rfl)) (nomark _)) (pw_or1 (pt_cmpR (op_neA 1 (Nat.lt_trans (Nat.add_lt_add_left (by decide : 1 + 1 < 64) _) hr.units)) (pe_fld (pv 0) rfl) (pe_ix (ix_tupB (K := K) rfl) (pv 1) pe_int (fun _ _ => rfl)) (nomark _)))))) (pss_one (ps_ret pe_bl)) pss_nil) (pss_cons (ps_set (i := 3) sc.nd rfl (Or.inl rfl) (pcall0 Dpoints_of hr (by decide) rfl (@pa_cons _ _ _ _ _ (pv 0) pa_nil rfl))) (pss_cons (ps_if (PW.pt (pw_or (pt_not (pt_val (pcall0 D_law_whole hr (by decide) rfl (@pa_cons _ _ _ _ _ (pv 3) pa_nil rfl)))) (pw_or1 (pt_cmpR op_ne (pv 3) (pe_op op_add (pe_op op_mulB pe_int (pe_callB call_len_seq rfl B.b_len boot_len (@pa_cons _ _ _ _ _ (pe_ix (ix_tupB (K := K) rfl) (pv 1) pe_int (fun _ _ => rfl)) pa_nil rfl))) (pe_ix (ix_tupB (K := K) rfl) (pv 1) pe_int (fun _ _ => rfl))) (nomark _))))) (pss_one (ps_ret pe_bl)) pss_nil) (pss_one (ps_ret (pe_and (pe_cmpR (op_eqA 1 (Nat.lt_trans (Nat.add_lt_add_left (by decide : 1 + 1 < 64) _) hr.units)) (pe_fld (pv 0) rfl) (pe_ix (ix_tupB (K := K) rfl) (pv 1) pe_int (fun _ _ => rfl)) (nomark _)) (pe_one (pe_cmpR op_eq (pe_fld (pv 0) rfl) (pe_ix (ix_tupB (K := K) rfl) (pv 1) pe_int (fun _ _ => rfl)) (nomark _))))))))))), ?_⟩
  try dsimp only [cxK]
  have sl : sizeLine = 16777216 := sizeLine_eq
  obtain ⟨dx, xd, xl, xa, xp, fs, e0, l1, l2, l3, l4, l5, xe1, ⟨xv, xe2, xr⟩, xA, xB⟩ := N0.ex
  have xe1 := xe1.no
  obtain ⟨td, tl, al, pl, et, etd, ⟨vs, el, r⟩, hA, hB, _⟩ := M.ex
  refine cut (fun σ H' => σ = [some (.ref x), some (.ref t), none, none] ∧ H = H') (fun N hN => ?_) ?_
  · refine ⟨_, rfl, x, _, dx, _, _, rfl, e0, B.cl_Net, B.na_Net_tools, l1, _, _, _, true, rfl, .dK xe1, rfl, _, rfl, iteF ⟨_, rfl, x, _, dx, _, _, rfl, e0, B.cl_Net, B.na_Net_moments, l5, n, rfl, _, rfl, iteF (hN _ _ ⟨rfl, rfl⟩)⟩⟩
  rintro σ H' ⟨rfl, rfl⟩
  obtain ⟨xas, exa, rxa⟩ := xA
  obtain ⟨xbs, exb, rxb⟩ := xB
  obtain ⟨as, ea, ra⟩ := hA
  obtain ⟨bs, eb, rb⟩ := hB
  refine cut (fun σ H' => (∃ o : Option V, σ = [some (.ref x), some (.ref t), o, none]) ∧ Same H H') (fun N hN => ?_) ?_
  · refine ⟨_, rfl, x, _, dx, _, _, rfl, e0, B.cl_Net, B.na_Net_tasks, l2, _, rfl, x, _, dx, _, _, rfl, e0, B.cl_Net, B.na_Net_arcs, l3, _, rfl, x, _, dx, _, _, rfl, e0, B.cl_Net, B.na_Net_apart, l4, (by show 3 ≤ sizeLine; decide), fun l nl => ?_⟩
    have g := same_new nl (.lst [.ref xl, .ref xa, .ref xp])
    have el' : upd H l (.lst [.ref xl, .ref xa, .ref xp]) l = some (.lst [.ref xl, .ref xa, .ref xp]) := upd_same
    generalize upd H l (.lst [.ref xl, .ref xa, .ref xp]) = H1 at g el' ⊢
    refine ⟨l, rfl, ⟨_, SqL.of el'⟩, for_list (xs := [.ref xl, .ref xa, .ref xp]) (fun i σ H' => (∃ o : Option V, σ = [some (.ref x), some (.ref t), o, none]) ∧ H1 = H') ⟨⟨none, rfl⟩, rfl⟩ (fun i σ H' _ h => by rw [← h.2]; exact SqL.of el') ?_ ?_⟩
    · rintro i y σ H2 hy ⟨⟨o, rfl⟩, rfl⟩
      have hl : ∃ (a : Addr) (zs : List V), y = .ref a ∧ H1 a = some (.lst zs) := by
        match i, hy with
        | 0, hy => cases hy; exact ⟨_, _, rfl, g _ _ xe2⟩
        | 1, hy => cases hy; exact ⟨_, _, rfl, g _ _ exa⟩
        | 2, hy => cases hy; exact ⟨_, _, rfl, g _ _ exb⟩
      obtain ⟨a, zs, rfl, ez⟩ := hl
      exact ⟨_, rfl, _, _, _, true, rfl, .lst ez, rfl, _, rfl, iteF ⟨⟨_, rfl⟩, rfl⟩⟩
    · rintro σ H2 ⟨⟨o, rfl⟩, rfl⟩
      exact hN _ _ ⟨⟨_, rfl⟩, g⟩
  rintro σ H1 ⟨⟨o, rfl⟩, g⟩
  have e0 := g _ _ e0
  have et := g _ _ et
  have N1 := N0.same g
  have r' := r.imp fun _ _ q => mvS q g
  have xr' := xr.imp fun _ _ q => mvS q g
  have ra' := Ref2.imp ra fun _ _ q => g _ _ q
  have rb' := Ref2.imp rb fun _ _ q => g _ _ q
  have rxa' := Ref2.imp rxa fun _ _ q => g _ _ q
  have rxb' := Ref2.imp rxb fun _ _ q => g _ _ q
  refine cut (fun σ H' => σ = [some (.ref x), some (.ref t), o, none] ∧ H1 = H') (fun N hN => ?_) ?_
  · refine ⟨_, rfl, x, _, dx, _, _, rfl, e0, B.cl_Net, B.na_Net_tools, l1, _, rfl, t, _, _, _, rfl, rfl, SqT.of et, rfl, xd, td, D, rfl, rfl, g _ _ xe1, g _ _ etd, nd, _, rfl, iteF ⟨_, rfl, x, _, dx, _, _, rfl, e0, B.cl_Net, B.na_Net_tasks, l2, _, rfl, t, _, _, _, rfl, rfl, SqT.of et, rfl, xl, tl, _, _, rfl, rfl, SqL.of (g _ _ xe2), SqL.of (g _ _ el), alk_tasks xr' r', _, rfl, iteF ⟨_, rfl, x, _, dx, _, _, rfl, e0, B.cl_Net, B.na_Net_arcs, l3, _, rfl, t, _, _, _, rfl, rfl, SqT.of et, rfl, xa, al, _, _, rfl, rfl, SqL.of (g _ _ exa), SqL.of (g _ _ ea), alk_tups rxa' ra', _, rfl, iteF (hN _ _ ⟨rfl, rfl⟩)⟩⟩⟩
  rintro σ H' ⟨rfl, rfl⟩
  refine ⟨_, rfl, x, n, false, D, T, A, B2, rfl, N1, ?_⟩
  dsimp only [gName, tNext]
  refine cut (fun σ H' => σ = [some (.ref x), some (.ref t), o, some (.int (2 * (T.length : Int) + n))] ∧ H1 = H') (fun N hN => ?_) ?_
  · refine ⟨_, rfl, _, rfl, _, rfl, iteF ⟨_, rfl, _, rfl, t, _, _, _, rfl, rfl, SqT.of et, rfl, tl, _, rfl, .inl (SqL.of (g _ _ el)), _, _, rfl, rfl, IntMulOk.of_left (by decide), _, rfl, t, _, _, _, rfl, rfl, SqT.of et, rfl, _, _, rfl, rfl, rfl, _, rfl, nFI (by rw [r.1]) (hN _ _ ⟨rfl, rfl⟩)⟩⟩
  rintro σ H' ⟨rfl, rfl⟩
  refine ⟨_, rfl, x, _, dx, _, _, rfl, e0, B.cl_Net, B.na_Net_apart, l4, _, rfl, t, _, _, _, rfl, rfl, SqT.of et, rfl, xp, pl, _, _, rfl, rfl, SqL.of (g _ _ exb), SqL.of (g _ _ eb), alk_tups rxb' rb', true, rfl, iteT ⟨_, rfl, x, _, dx, _, _, rfl, e0, B.cl_Net, B.na_Net_moments, l5, _, rfl, t, _, _, _, rfl, rfl, SqT.of et, rfl, rfl, ?_⟩⟩
  have := q H1 g
  rwa [show true = decide (V.int n = V.int n) by simp] at this

set_option maxHeartbeats 4000000 in
theorem ok_law_spill {dV : Value} (F : FunD K "_law_spill" "_law_spill" s_law_spill dV f fd)  : FnOk P w K mg base CX0 1 f fd ["_law_handed"] spSpill51 := by
  have sc : FnScope ["_law_handed", "_law_ways", "_law_way_here"] ["_law_handed"] (defScope s_law_spill) := scK (by decide +kernel)
  refine F.ok sc (fun vs H Q E h => ?_) (fun cdv A outer s H vs Q E hr h => ?_)
  · obtain ⟨_, _, _, _, _, _, _, rfl, _⟩ := h
    rfl
  obtain ⟨t, P0, D, T, A, B2, n, rfl, M, dl, t24, ft, la, lb, q⟩ := h
  refine ⟨_, (pss_cons (ps_dput (hu_of hr) (pe_ix (ix_tupB (K := K) rfl) (pv 0) pe_int (fun _ _ => rfl)) pe_str pe_int rfl) (pss_cons (ps_for PassesOwn.never rfl (pi_list (pe_ix (ix_tupB (K := K) rfl) (pv 0) pe_int (fun _ _ => rfl))) (pg_name (i := 1) sc.nd rfl (Or.inl rfl)) (pss_one (ps_for PassesOwn.never rfl (pi_list (pv 1)) (pg_name (i := 2) sc.nd rfl (Or.inl rfl)) (pss_one (ps_expr (pe_bm PySem.F.plainAttrs_list PySem.F.slot_list_append PySem.F.type_list_append mt_append (pe_ix (ix_tupB (K := K) rfl) (pv 2) pe_int (fun _ _ => rfl)) (@pa_cons _ _ _ _ _ (@pe_tup _ _ _ _ _ (@pa_cons _ _ _ _ _ pe_str (@pa_cons _ _ _ _ _ pe_int (@pa_cons _ _ _ _ _ pe_int pa_nil rfl) rfl) rfl)) pa_nil rfl))))))) (pss_cons (ps_if (pt_cmpR (op_neNil hr.units0) (pe_ix (ix_tupB (K := K) rfl) (pv 0) pe_int (fun _ _ => rfl)) (@pe_lst _ _ _ _ pa_nil) (nomark _)) (pss_one (ps_expr (pe_bm PySem.F.plainAttrs_list PySem.F.slot_list_append PySem.F.type_list_append mt_append (pe_ix ix_list (pe_ix (ix_tupB (K := K) rfl) (pv 0) pe_int (fun _ _ => rfl)) pe_int (fun _ _ => rfl)) (@pa_cons _ _ _ _ _ (@pe_tup _ _ _ _ _ (@pa_cons _ _ _ _ _ pe_int (@pa_cons _ _ _ _ _ pe_int (@pa_cons _ _ _ _ _ (@pe_lst _ _ _ _ pa_nil) pa_nil rfl) rfl) rfl)) pa_nil rfl)))) pss_nil) (pss_cons (ps_expr (pe_bm PySem.F.plainAttrs_list PySem.F.slot_list_append PySem.F.type_list_append mt_append (pe_ix (ix_tupB (K := K) rfl) (pv 0) pe_int (fun _ _ => rfl)) (@pa_cons _ _ _ _ _ (@pe_lst _ _ _ _ pa_nil) pa_nil rfl))) (pss_cons (ps_expr (pe_bm PySem.F.plainAttrs_list PySem.F.slot_list_append PySem.F.type_list_append mt_append (pe_ix (ix_tupB (K := K) rfl) (pv 0) pe_int (fun _ _ => rfl)) (@pa_cons _ _ _ _ _ (@pe_tup _ _ _ _ _ (@pa_cons _ _ _ _ _ pe_int (@pa_cons _ _ _ _ _ pe_int (@pa_cons _ _ _ _ _ pe_int pa_nil rfl) rfl) rfl)) pa_nil rfl))) (pss_one (ps_expr (pe_bm PySem.F.plainAttrs_list PySem.F.slot_list_append PySem.F.type_list_append mt_append (pe_ix (ix_tupB (K := K) rfl) (pv 0) pe_int (fun _ _ => rfl)) (@pa_cons _ _ _ _ _ (@pe_tup _ _ _ _ _ (@pa_cons _ _ _ _ _ pe_int (@pa_cons _ _ _ _ _ pe_int pa_nil rfl) rfl)) pa_nil rfl))))))))), ?_⟩
  try dsimp only [cxK]
  have sl : sizeLine = 16777216 := sizeLine_eq
  obtain ⟨td, tl, al, pl, et0, etd, ⟨vs, el0, r0⟩, ⟨as, ea0, ra0⟩, ⟨bs, eb0, rb0⟩, n1, n2, p1, p2, p3, p4⟩ := M.ex
  have las : as.length ≤ 600 := by rw [ra0.1]; exact la
  have lbs : bs.length ≤ 300 := by rw [rb0.1]; exact lb
  refine ⟨_, rfl, t, _, _, _, rfl, rfl, SqT.of et0, rfl, td, _, rfl, DPut.k (k := .inr "q") etd (by rw [toolK_len]; omega), ?_⟩
  have sq := upd_sqD etd (.dK (putK (toolK D) (.inr "q") (.int 5)))
  have s0 : Spl P0 H (upd H td (.dK (putK (toolK D) (.inr "q") (.int 5)))) := Spl.upd (fun a o e _ => e) p1 etd rfl _
  have et := sq _ _ rfl et0
  have el := sq _ _ rfl el0
  have ea := sq _ _ rfl ea0
  have eb := sq _ _ rfl eb0
  have r := r0.imp fun _ _ q => mvX q sq
  generalize upd H td (.dK (putK (toolK D) (.inr "q") (.int 5))) = G at s0 et el ea eb r ⊢
  clear sq et0 el0 r0 ra0 rb0 ea0 eb0 etd
  have lv : vs.length = T.length := r.1
  try dsimp only [gName, tNext]
  refine cut (fun σ H' => (∃ o1 o2 : Option V, σ = [some (.ref t), o1, o2]) ∧ Gw P0 G H' 48 ∧ H' tl = some (.lst vs)) (fun N hN => ?_) ?_
  · refine ⟨_, rfl, t, _, _, _, rfl, rfl, SqT.of et, rfl, tl, rfl, ⟨_, SqL.of el⟩, for_list (xs := vs) (fun i σ H' => (∃ o1 o2 : Option V, σ = [some (.ref t), o1, o2]) ∧ Gw P0 G H' (2 * i) ∧ H' tl = some (.lst vs) ∧ ∀ a o, G a = some o → ¬ IsU G a → H' a = some o) ⟨⟨none, none, rfl⟩, Gw.refl, el, fun a o e _ => e⟩ (fun i σ H' _ h => SqL.of h.2.2.1) ?_ ?_⟩
    · rintro i y σ H1 hy ⟨⟨o1, o2, rfl⟩, gw, el1, kp⟩
      obtain ⟨ws, hw, wl, rfl, pw, us, ew, rw'⟩ := r.at_ hy
      obtain ⟨f1, f2, f3⟩ := ft ws (List.mem_of_getElem? hw)
      have nu := ways_no ⟨us, ew, rw'⟩ f1
      have ew1 := kp _ _ ew nu
      have lu : us.length = ws.length := rw'.1
      refine ⟨_, rfl, wl, rfl, ⟨_, SqL.of ew1⟩, for_list (xs := us) (fun j σ H' => (∃ o2 : Option V, σ = [some (.ref t), some (.ref wl), o2]) ∧ Gw P0 G H' (2 * i + j) ∧ H' tl = some (.lst vs) ∧ ∀ a o, G a = some o → ¬ IsU G a → H' a = some o) ⟨⟨o2, rfl⟩, gw, el1, kp⟩ (fun j σ H' _ h => SqL.of (h.2.2.2 _ _ ew nu)) ?_ ?_⟩
      · rintro j z σ H2 hz ⟨⟨o2, rfl⟩, gw2, el2, kp2⟩
        obtain ⟨w, hw2, t1, u, rfl, _, pu, e1, zs, eu, ru⟩ := rw'.at_ hz
        have e12 := gw2.sp _ _ e1 (.inl rfl)
        have fu := f3 w (List.mem_of_getElem? hw2)
        have lz : zs.length = w.2.2.length := ru.1
        obtain ⟨zs', eu2, lz'⟩ := gw2.gr _ _ eu
        have il := (List.getElem?_eq_some_iff.mp hy).1
        have jl := (List.getElem?_eq_some_iff.mp hz).1
        refine ⟨_, rfl, t1, _, _, _, rfl, rfl, SqT.of e12, rfl, .inl ⟨rfl, _, SqL.of eu2⟩, (by show 3 ≤ sizeLine; decide), fun a na => ⟨u, _, _, rfl, rfl, same_new na _ _ _ eu2, by omega, ⟨_, rfl⟩, ?_⟩⟩
        have ga := same_new na (.tup [.str "q", .int 1, .int 1])
        refine ⟨(gw2.same ga).app pu.2 (ga _ _ eu2) _, by rw [upd_ne (Ne.symm pu.1)]; exact ga _ _ el2, fun b o eb nb => ?_⟩
        rw [upd_ne (fun z => nb (by rw [z]; exact ⟨_, _, eu, ru.imp fun _ _ q => mvA q⟩))]
        exact ga _ _ (kp2 b o eb nb)
      · rintro σ H2 ⟨⟨o2, rfl⟩, gw2, el2, kp2⟩
        exact ⟨⟨_, _, rfl⟩, gw2.mono (by omega), el2, kp2⟩
    · rintro σ H1 ⟨⟨o1, o2, rfl⟩, gw, el1, _⟩
      exact hN _ _ ⟨⟨_, _, rfl⟩, gw.mono (by omega), el1⟩
  rintro σ H1 ⟨⟨o1, o2, rfl⟩, gw, el1⟩
  have et1 := gw.sp _ _ et (.inl rfl)
  refine cut (fun σ H' => σ = [some (.ref t), o1, o2] ∧ Gw P0 G H' 49 ∧ H' tl = some (.lst vs)) (fun N hN => ?_) ?_
  · refine ⟨_, rfl, t, _, _, _, rfl, rfl, SqT.of et1, rfl, (by show 0 ≤ sizeLine; decide), fun l nl => ?_⟩
    have g := same_new nl (.lst [])
    refine ⟨tl, l, _, rfl, rfl, SqL.of (g _ _ el1), SqL.of upd_same, _, rfl, ?_⟩
    have gw' := gw.same g
    have el2 := g _ _ el1
    have et2 := g _ _ et1
    generalize upd H1 l (.lst []) = H2 at gw' el2 et2 ⊢
    by_cases hv : vs = []
    · exact iteBF (by rw [hv]; rfl) (hN _ _ ⟨rfl, gw'.mono (by decide), el2⟩)
    · have hl : 0 < vs.length := List.length_pos_iff.mpr hv
      refine iteBT (by cases hq : vs with | nil => exact absurd hq hv | cons _ _ => rfl) ?_
      have h0 := List.getElem?_eq_getElem hl
      generalize vs[0] = v at h0
      obtain ⟨ws, hw, wl, rfl, pw, us, ew, rw'⟩ := r.at_ h0
      obtain ⟨f1, f2, f3⟩ := ft ws (List.mem_of_getElem? hw)
      have lu : us.length = ws.length := rw'.1
      obtain ⟨us', ew2, lu'⟩ := gw'.gr _ _ ew
      refine ⟨_, rfl, t, _, _, _, rfl, rfl, SqT.of et2, rfl, tl, _, _, _, rfl, rfl, SqL.of el2, (atI_nat (j := 0) h0), .inl ⟨rfl, _, SqL.of ew2⟩, (by show 0 ≤ sizeLine; decide), fun l2 nl2 => ⟨(by show 3 ≤ sizeLine; decide), fun t2 nt2 => ?_⟩⟩
      have ga := (same_new nl2 (.lst [])).trans (same_new nt2 (.tup [.int 1, .int 1, .ref l2]))
      exact ⟨wl, _, _, rfl, rfl, ga _ _ ew2, by omega, hN _ _ ⟨rfl, (gw'.same ga).app pw.2 (ga _ _ ew2) _, by rw [upd_ne (Ne.symm pw.1)]; exact ga _ _ el2⟩⟩
  rintro σ H2 ⟨rfl, gw2, el2⟩
  have et2 := gw2.sp _ _ et (.inl rfl)
  refine ⟨_, rfl, t, _, _, _, rfl, rfl, SqT.of et2, rfl, .inl ⟨rfl, _, SqL.of el2⟩, (by show 0 ≤ sizeLine; decide), fun l3 nl3 => ?_⟩
  have g3 := same_new nl3 (.lst [])
  refine ⟨tl, _, _, rfl, rfl, g3 _ _ el2, by omega, ?_⟩
  have gw3 := (gw2.same g3).app p2 (g3 _ _ el2) (.ref l3)
  generalize upd (upd H2 l3 (.lst [])) tl (.lst (vs ++ [.ref l3])) = H3 at gw3 ⊢
  have et3 := gw3.sp _ _ et (.inl rfl)
  obtain ⟨as', ea3, la3⟩ := gw3.gr _ _ ea
  obtain ⟨bs', eb3, lb3⟩ := gw3.gr _ _ eb
  rw [List.length_map] at la3
  rw [List.length_map] at lb3
  refine ⟨_, rfl, t, _, _, _, rfl, rfl, SqT.of et3, rfl, .inl ⟨rfl, _, SqL.of ea3⟩, (by show 3 ≤ sizeLine; decide), fun a4 na4 => ?_⟩
  have g4 := same_new na4 (.tup [.int 0, .int 0, .int 1])
  refine ⟨al, _, _, rfl, rfl, g4 _ _ ea3, by omega, ?_⟩
  have gw4 := (gw3.same g4).app p3 (g4 _ _ ea3) (.ref a4)
  generalize upd (upd H3 a4 (.tup [.int 0, .int 0, .int 1])) al (.lst (as' ++ [.ref a4])) = H4 at gw4 ⊢
  have et4 := gw4.sp _ _ et (.inl rfl)
  obtain ⟨bs2, eb4, lb4⟩ := gw4.gr _ _ eb
  rw [List.length_map] at lb4
  refine ⟨_, rfl, t, _, _, _, rfl, rfl, SqT.of et4, rfl, .inl ⟨rfl, _, SqL.of eb4⟩, (by show 2 ≤ sizeLine; decide), fun a5 na5 => ?_⟩
  have g5 := same_new na5 (.tup [.int 0, .int 1])
  exact ⟨pl, _, _, rfl, rfl, g5 _ _ eb4, by omega, q _ (s0.trans ((gw4.same g5).app p4 (g5 _ _ eb4) (.ref a5)).sp)⟩

set_option maxHeartbeats 4000000 in
theorem ok_law_refused {dV : Value} (F : FunD K "_law_refused" "_law_refused" s_law_refused dV f fd) (XNet_init : DxM P w K mg base (CX1 P w) 3 f_Net_init ["self", "tools", "tasks", "arcs", "apart", "moments"] [.non, .int 0] (spNetLX c_Net c_NoNet)) : FnOk P w K mg base CX0 5 f fd ["_law_made_here"] spRefused51 := by
  have sc : FnScope ["_law_made_here", "e"] ["_law_made_here"] (defScope s_law_refused) := scK (by decide +kernel)
  refine F.ok sc (fun vs H Q E h => ?_) (fun cdv A outer s H vs Q E hr h => ?_)
  · obtain ⟨_, _, _, _, _, _, _, _, _, _, rfl, _⟩ := h
    rfl
  obtain ⟨t, td, tl, al, pl, n, D, T, A2, B2, rfl, et, etd, hT, hA, hB, fo, un, k⟩ := h
  refine ⟨_, (pss_cons (ps_try rfl rfl (fun pins E => (pss_one (ps_expr (pmake1 B.mk_Net XNet_init hr (by decide) rfl B.m_Net passX (@pa_cons _ _ _ _ _ (pe_ix (ix_tupB (K := K) rfl) (pv 0) pe_int (fun _ _ => rfl)) (@pa_cons _ _ _ _ _ (pe_ix (ix_tupB (K := K) rfl) (pv 0) pe_int (fun _ _ => rfl)) (@pa_cons _ _ _ _ _ (pe_ix (ix_tupB (K := K) rfl) (pv 0) pe_int (fun _ _ => rfl)) (@pa_cons _ _ _ _ _ (pe_ix (ix_tupB (K := K) rfl) (pv 0) pe_int (fun _ _ => rfl)) (@pa_cons _ _ _ _ _ (pe_ix (ix_tupB (K := K) rfl) (pv 0) pe_int (fun _ _ => rfl)) pa_nil rfl) rfl) rfl) rfl) rfl))))) (ph_asA B.t_StoveError rfl B.m_StoveError sc.nd (i := 1) rfl rfl (fun pins a => (pss_cons (ps_if (PW.pt (pw_or (pt_val (pe_callB (call_isiX (K := K) rfl) rfl B.b_isinstance boot_isinstance (@pa_cons _ _ _ _ _ (pv 1) (@pa_cons _ _ _ _ _ (pe_glob (v := V.ref c_NoPlan) rfl B.m_NoPlan rfl) pa_nil rfl) rfl))) (pw_or (pt_val (pe_callB (call_isiX (K := K) rfl) rfl B.b_isinstance boot_isinstance (@pa_cons _ _ _ _ _ (pv 1) (@pa_cons _ _ _ _ _ (pe_glob (v := V.ref c_NoName) rfl B.m_NoName rfl) pa_nil rfl) rfl))) (pw_or1 (pt_val (pe_callB (call_isiX (K := K) rfl) rfl B.b_isinstance boot_isinstance (@pa_cons _ _ _ _ _ (pv 1) (@pa_cons _ _ _ _ _ (pe_glob (v := V.ref c_NoNumber) rfl B.m_NoNumber rfl) pa_nil rfl) rfl))))))) (pss_one (ps_ret pe_bl)) pss_nil) (pss_cons (ps_if (PW.pt (pw_or (pt_val (pe_callB (call_isiX (K := K) rfl) rfl B.b_isinstance boot_isinstance (@pa_cons _ _ _ _ _ (pv 1) (@pa_cons _ _ _ _ _ (pe_glob (v := V.ref c_TooMany) rfl B.m_TooMany rfl) pa_nil rfl) rfl))) (pw_or1 (pt_val (pe_callB (call_isiX (K := K) rfl) rfl B.b_isinstance boot_isinstance (@pa_cons _ _ _ _ _ (pv 1) (@pa_cons _ _ _ _ _ (pe_glob (v := V.ref c_TooFew) rfl B.m_TooFew rfl) pa_nil rfl) rfl)))))) (pss_one (ps_ret pe_bl)) pss_nil) (pss_one (ps_ret (pe_and (pe_callB (call_isiX (K := K) rfl) rfl B.b_isinstance boot_isinstance (@pa_cons _ _ _ _ _ (pv 1) (@pa_cons _ _ _ _ _ (pe_glob (v := V.ref c_NoNet) rfl B.m_NoNet rfl) pa_nil rfl) rfl)) (pe_one (pe_callB (call_isiX (K := K) rfl) rfl B.b_isinstance boot_isinstance (@pa_cons _ _ _ _ _ (pv 1) (@pa_cons _ _ _ _ _ (pe_bltn (v := .ty "ValueError") rfl B.b_ValueError PyProof.Rows.Boot.«ValueError» rfl) pa_nil rfl) rfl))))))))) ph_nil)) (pss_one (ps_ret pe_bl))), ?_⟩
  try dsimp only [cxK]
  refine ⟨_, rfl, t, _, _, _, rfl, rfl, SqT.of et, rfl, _, rfl, t, _, _, _, rfl, rfl, SqT.of et, rfl, _, rfl, t, _, _, _, rfl, rfl, SqT.of et, rfl, _, rfl, t, _, _, _, rfl, rfl, SqT.of et, rfl, _, rfl, t, _, _, _, rfl, rfl, SqT.of et, rfl, fun x dx nx ndx dxx => ?_⟩
  have g0 : Same H (upd (upd H dx (.own x)) x (.ins c_Net dx [])) := (same_new ndx (.own x)).trans (same_new (by rw [upd_ne (Ne.symm dxx)]; exact nx) _)
  refine ⟨x, dx, td, tl, al, .ref pl, n, D, T, A2, B2, rfl, upd_same, g0 _ _ etd, hT.same g0, hA.same g0, .inr ⟨pl, rfl, hB.same g0⟩, fo, fun ok => absurd ok un, fun _ H1 g1 a ha => ⟨c_NoNet, true, rfl, B.s_NoNet_StoveError, iteT ?_⟩⟩
  have gH : Same H H1 := fun b o eb => g1 _ _ (fun z => by rw [z, nx] at eb; cases eb) (g0 _ _ eb)
  refine ⟨_, rfl, a, c_NoNet, none, _, false, rfl, ⟨_, upd_same⟩, True.intro, B.i_NoNet, .own B.k_NoNet_NoPlan, false, rfl, iteF ⟨_, rfl, a, c_NoNet, none, _, false, rfl, ⟨_, upd_same⟩, True.intro, B.i_NoNet, .own B.k_NoNet_NoName, false, rfl, iteF ⟨_, rfl, a, c_NoNet, none, _, false, rfl, ⟨_, upd_same⟩, True.intro, B.i_NoNet, .own B.k_NoNet_NoNumber, false, rfl, iteF ?_⟩⟩⟩
  refine ⟨_, rfl, a, c_NoNet, none, _, false, rfl, ⟨_, upd_same⟩, True.intro, B.i_NoNet, .own B.k_NoNet_TooMany, false, rfl, iteF ⟨_, rfl, a, c_NoNet, none, _, false, rfl, ⟨_, upd_same⟩, True.intro, B.i_NoNet, .own B.k_NoNet_TooFew, false, rfl, iteF ?_⟩⟩
  refine ⟨_, rfl, a, c_NoNet, none, _, true, rfl, ⟨_, upd_same⟩, True.intro, B.i_NoNet, .own B.k_NoNet_NoNet, true, rfl, iteT ⟨_, rfl, a, c_NoNet, none, _, true, rfl, ⟨_, upd_same⟩, True.intro, B.i_NoNet, .ty B.k_NoNet_ValueError, ?_⟩⟩
  exact k _ (gH.trans (same_new ha _))

set_option maxHeartbeats 4000000 in
theorem oklaw {dV : Value} (F : FunD K "law" "law" slaw dV f fd) (ENet_init : DxM P w K mg base CX0 3 f_Net_init ["self", "tools", "tasks", "arcs", "apart", "moments"] [.int 0] (spNetL c_Net)) (DNet_init : DxM P w K mg base CX0 3 f_Net_init ["self", "tools", "tasks", "arcs", "apart", "moments"] [.non, .int 0] (spNetL c_Net)) (D_law_cell_at : Dx P w K mg base CX0 1 "_law_cell_at" ["_law_script", "_law_k"] [] (spCellF K)) (D_law_made : Dx P w K mg base CX0 4 "_law_made" ["_law_script"] [] (spMade51 K)) (D_law_full : Dx P w K mg base CX0 1 "_law_full" ["_law_made_here"] [] spFull51) (D_law_spoilt : Dx P w K mg base CX0 3 "_law_spoilt" ["_law_made_here", "_law_kind", "_law_x"] [] spSpoilt51) (D_law_kept : Dx P w K mg base CX0 2 "_law_kept" ["_law_net", "_law_made_here"] [] (spKept51 c_Net)) (D_law_spill : Dx P w K mg base CX0 1 "_law_spill" ["_law_handed"] [] spSpill51) (D_law_refused : Dx P w K mg base CX0 5 "_law_refused" ["_law_made_here"] [] spRefused51) : FnOk P w K mg base CX0 6 f fd ["_law_script"] (spLaw K) := by
  have sc : FnScope ["_law_script", "_law_made_here", "_law_way_here", "_law_handed", "_law_net"] ["_law_script"] (defScope slaw) := scK (by decide +kernel)
  refine F.ok sc (fun vs H Q E h => ?_) (fun cdv A outer s H vs Q E hr h => ?_)
  · obtain ⟨_, _, rfl, _⟩ := h
    rfl
  obtain ⟨a, ns, rfl, hS, h63, q⟩ := h
  refine ⟨_, (pss_cons (ps_set (i := 1) sc.nd rfl (Or.inl rfl) (pcall0 D_law_made hr (by decide) rfl (@pa_cons _ _ _ _ _ (pv 0) pa_nil rfl))) (pss_cons (ps_set (i := 2) sc.nd rfl (Or.inl rfl) (pe_op op_modN (pcall0 D_law_cell_at hr (by decide) rfl (@pa_cons _ _ _ _ _ (pv 0) (@pa_cons _ _ _ _ _ pe_int pa_nil rfl) rfl)) pe_int)) (pss_cons (ps_if (pt_cmpR op_lt (pv 2) pe_int (nomark _)) (pss_one (ps_ret (pcall0 D_law_refused hr (by decide) rfl (@pa_cons _ _ _ _ _ (pcall0 D_law_spoilt hr (by decide) rfl (@pa_cons _ _ _ _ _ (pcall0 D_law_full hr (by decide) rfl (@pa_cons _ _ _ _ _ (pv 1) pa_nil rfl)) (@pa_cons _ _ _ _ _ (pv 2) (@pa_cons _ _ _ _ _ (pe_op op_modN (pcall0 D_law_cell_at hr (by decide) rfl (@pa_cons _ _ _ _ _ (pv 0) (@pa_cons _ _ _ _ _ pe_int pa_nil rfl) rfl)) (pe_op op_powB pe_int pe_int)) pa_nil rfl) rfl) rfl)) pa_nil rfl)))) pss_nil) (pss_cons (ps_set (i := 3) sc.nd rfl (Or.inl rfl) (pcall0 D_law_made hr (by decide) rfl (@pa_cons _ _ _ _ _ (pv 0) pa_nil rfl))) (pss_cons (ps_if (PW.pt (pw_and (pt_cmpR (op_eqNil hr.units0) (pe_ix (ix_tupB (K := K) rfl) (pv 3) pe_int (fun _ _ => rfl)) (@pe_lst _ _ _ _ pa_nil) (nomark _)) (pw_and1 (pt_cmpR op_eq (pe_ix (ix_tupB (K := K) rfl) (pv 3) pe_int (fun _ _ => rfl)) pe_int (nomark _))))) (pss_one (ps_set (i := 4) sc.nd rfl (Or.inl rfl) (pmake0d B.mk_Net DNet_init hr (by decide) rfl B.m_Net (@pa_cons _ _ _ _ _ (pe_ix (ix_tupB (K := K) rfl) (pv 3) pe_int (fun _ _ => rfl)) (@pa_cons _ _ _ _ _ (pe_ix (ix_tupB (K := K) rfl) (pv 3) pe_int (fun _ _ => rfl)) (@pa_cons _ _ _ _ _ (pe_ix (ix_tupB (K := K) rfl) (pv 3) pe_int (fun _ _ => rfl)) pa_nil rfl) rfl) rfl)))) (pss_one (ps_if (pt_cmpR op_eq (pe_ix (ix_tupB (K := K) rfl) (pv 3) pe_int (fun _ _ => rfl)) pe_int (nomark _)) (pss_one (ps_set (i := 4) sc.nd rfl (Or.inl rfl) (pmake0d B.mk_Net ENet_init hr (by decide) rfl B.m_Net (@pa_cons _ _ _ _ _ (pe_ix (ix_tupB (K := K) rfl) (pv 3) pe_int (fun _ _ => rfl)) (@pa_cons _ _ _ _ _ (pe_ix (ix_tupB (K := K) rfl) (pv 3) pe_int (fun _ _ => rfl)) (@pa_cons _ _ _ _ _ (pe_ix (ix_tupB (K := K) rfl) (pv 3) pe_int (fun _ _ => rfl)) (@pa_cons _ _ _ _ _ (pe_ix (ix_tupB (K := K) rfl) (pv 3) pe_int (fun _ _ => rfl)) pa_nil rfl) rfl) rfl) rfl)))) (pss_one (ps_if (pt_cmpR (op_eqNil hr.units0) (pe_ix (ix_tupB (K := K) rfl) (pv 3) pe_int (fun _ _ => rfl)) (@pe_lst _ _ _ _ pa_nil) (nomark _)) (pss_one (ps_set (i := 4) sc.nd rfl (Or.inl rfl) (pmake0 B.mk_Net DNet_init hr (by decide) rfl B.m_Net (@pa_cons _ _ _ _ _ (pe_ix (ix_tupB (K := K) rfl) (pv 3) pe_int (fun _ _ => rfl)) (@pa_cons _ _ _ _ _ (pe_ix (ix_tupB (K := K) rfl) (pv 3) pe_int (fun _ _ => rfl)) (@pa_cons _ _ _ _ _ (pe_ix (ix_tupB (K := K) rfl) (pv 3) pe_int (fun _ _ => rfl)) (@pa_cons _ _ _ _ _ pe_non (@pa_cons _ _ _ _ _ (pe_ix (ix_tupB (K := K) rfl) (pv 3) pe_int (fun _ _ => rfl)) pa_nil rfl) rfl) rfl) rfl) rfl)))) (pss_one (ps_set (i := 4) sc.nd rfl (Or.inl rfl) (pmake0 B.mk_Net DNet_init hr (by decide) rfl B.m_Net (@pa_cons _ _ _ _ _ (pe_ix (ix_tupB (K := K) rfl) (pv 3) pe_int (fun _ _ => rfl)) (@pa_cons _ _ _ _ _ (pe_ix (ix_tupB (K := K) rfl) (pv 3) pe_int (fun _ _ => rfl)) (@pa_cons _ _ _ _ _ (pe_ix (ix_tupB (K := K) rfl) (pv 3) pe_int (fun _ _ => rfl)) (@pa_cons _ _ _ _ _ (pe_ix (ix_tupB (K := K) rfl) (pv 3) pe_int (fun _ _ => rfl)) (@pa_cons _ _ _ _ _ (pe_ix (ix_tupB (K := K) rfl) (pv 3) pe_int (fun _ _ => rfl)) pa_nil rfl) rfl) rfl) rfl) rfl))))))))) (pss_cons (ps_if (PW.pt (pw_or (pt_cmpR (op_neTD 5 (Nat.lt_trans (Nat.add_lt_add_left (by decide : 5 + 2 < 64) _) hr.units)) (pv 3) (pv 1) (nomark _)) (pw_or1 (pt_not (pt_val (pcall0 D_law_kept hr (by decide) rfl (@pa_cons _ _ _ _ _ (pv 4) (@pa_cons _ _ _ _ _ (pv 1) pa_nil rfl) rfl))))))) (pss_one (ps_ret pe_bl)) pss_nil) (pss_cons (ps_expr (pcall0 D_law_spill hr (by decide) rfl (@pa_cons _ _ _ _ _ (pv 3) pa_nil rfl))) (pss_one (ps_ret (pcall0 D_law_kept hr (by decide) rfl (@pa_cons _ _ _ _ _ (pv 4) (@pa_cons _ _ _ _ _ (pv 1) pa_nil rfl) rfl))))))))))), ?_⟩
  try dsimp only [cxK]
  have sl : sizeLine = 16777216 := sizeLine_eq
  refine ⟨_, rfl, a, ns, rfl, hS, fun t1 H1 g1 M1 => ?_⟩
  have w30 := fm (a := cel ns 3) (n := 30) (by decide)
  refine ⟨_, rfl, a, ns, 3, rfl, g1.seq hS, (by decide), _, _, rfl, rfl, (by show (30 : Int) ≠ 0; decide), ?_⟩
  dsimp only [gName, tNext]
  generalize (cel ns 3).fmod 30 = wy at w30 ⊢
  have ok := made_ok ns
  have ft := made_ft ns
  have lk := made_lk ns
  have tok : TOk 12 (madeD ns) := toolsF_ok _
  refine cut (fun σ H' => σ = [some (.ref a), some (.ref t1), some (.int wy), none, none] ∧ H1 = H') (fun N hN => ?_) ?_
  · refine ⟨_, rfl, _, _, rfl, rfl, _, rfl, d2 (fun c => ?_) fun c => hN _ _ ⟨rfl, rfl⟩⟩
    refine ⟨_, rfl, t1, _, _, _, _, _, _, rfl, M1, tok, ok.t24, ft, fun t' H2 D' T' sp MN fo => ?_⟩
    have hS2 : SqL K H2 a (ns.map V.int) := by
      have nn : ∀ {o : HO}, H a = some o → H2 a = some o := fun e => sp _ _ (g1 _ _ e) (.inr fun z => by have z : H a = none := z; rw [e] at z; cases z)
      exact hS.elim (fun z => .inl (z.elim (fun e => .inl (nn e)) fun ⟨o, e⟩ => .inr ⟨o, nn e⟩)) .inr
    have x9 := fm (a := cel ns 4) (n := 1000000000) (by decide)
    have e9 : (10 : Int) ^ (9 : Int).toNat = 1000000000 := by decide
    refine ⟨_, rfl, _, rfl, a, ns, 4, rfl, hS2, (by decide), _, _, rfl, rfl, ⟨by decide, by decide⟩, _, _, rfl, rfl, (by show (10 : Int) ^ (9 : Int).toNat ≠ 0; decide), t', _, _, D', T', _, _, _, rfl, MN, fo, lk, (by omega), (by omega), (by rw [e9]; exact x9.1), (by rw [e9]; exact x9.2), fun t3 H3 D3 T3 A3 B3 n3 M3 nf no => ?_⟩
    obtain ⟨td, tl, al, pl, et, etd, hT, hA, hB⟩ := M3.ex
    exact ⟨t3, td, tl, al, pl, n3, D3, T3, A3, B3, rfl, et, etd, hT, hA, hB, nf, no, fun H' _ => q H'⟩
  rintro σ H' ⟨rfl, rfl⟩
  refine ⟨_, rfl, a, ns, rfl, g1.seq hS, fun t2 H2 g2 M2 => ?_⟩
  have M1' := M1.there
  have M2' := M2.there
  dsimp only [gName, tNext]
  clear hS M1 M2
  generalize madeD ns = D at *
  generalize madeT' ns = T at *
  generalize madeA ns = A at *
  generalize madeB ns = B2 at *
  generalize madeM ns = n at *
  obtain ⟨td, tl, al, pl, et, etd, hT, hA, hB, _⟩ := M2'.ex
  refine cut (fun σ H' => ∃ (x : Addr) (G : Hp), σ = [some (.ref a), some (.ref t1), some (.int wy), some (.ref t2), some (.ref x)] ∧ Same H2 H' ∧ H2 x = none ∧ Tp G H' ∧ NetZ c_Net (fun a => H2 a = none) G H' x D T A B2 n) (fun N hN => ?_) ?_
  · obtain ⟨bs, eb, rb⟩ := hB
    have lb : bs.length = B2.length := rb.1
    have sm : ∀ {Hh : Hp} {x dx : Addr}, Hh x = none → Hh dx = none → Same Hh (upd (upd Hh dx (.own x)) x (.ins c_Net dx [])) := fun nx ndx => made_keep2 (C := c_Net) nx ndx (fun a o _ e => e)
    have mk : ∀ {Hh : Hp} (gh : Same H2 Hh) (x dx : Addr) (nx : Hh x = none) (ndx : Hh dx = none) (HN : Hp) (fx : Fx x (upd (upd Hh dx (.own x)) x (.ins c_Net dx [])) HN) (NN : NetZ c_Net (fun a => upd (upd Hh dx (.own x)) x (.ins c_Net dx []) a = none) (upd (upd Hh dx (.own x)) x (.ins c_Net dx [])) HN x D T A B2 n), ∃ (x' : Addr) (G : Hp), ([some (.ref a), some (.ref t1), some (.int wy), some (.ref t2), some (.ref x)] : L2.St) = [some (.ref a), some (.ref t1), some (.int wy), some (.ref t2), some (.ref x')] ∧ Same H2 HN ∧ H2 x' = none ∧ Tp G HN ∧ NetZ c_Net (fun a => H2 a = none) G HN x' D T A B2 n := fun {Hh} gh x dx nx ndx HN fx NN => ⟨x, _, rfl, gh.trans (made_keep2 nx ndx fx), gh.free nx, (fx.sq upd_same).tp, NN.mono fun b hb => gh.free ((sm nx ndx).free hb)⟩
    refine ⟨_, rfl, t2, _, _, _, rfl, rfl, SqT.of et, rfl, (by show 0 ≤ sizeLine; decide), fun l nl => ?_⟩
    have gh := same_new nl (.lst [])
    refine ⟨pl, l, _, rfl, rfl, SqL.of (gh _ _ eb), SqL.of upd_same, _, rfl, ?_⟩
    have et2 := gh _ _ et
    have eb2 := gh _ _ eb
    generalize upd H2 l (.lst []) = Ha at gh et2 eb2 ⊢
    have hB2 : TupsA Ha pl B2 := ⟨bs, eb2, rb.imp fun _ _ q => gh _ _ q⟩
    by_cases hb : bs = []
    · have hB0 : B2 = [] := List.length_eq_zero_iff.mp (by rw [← lb, hb]; rfl)
      refine iteBT (by rw [hb]; rfl) ⟨_, rfl, t2, _, _, _, rfl, rfl, SqT.of et2, rfl, rfl, _, rfl, d2I (fun hn => ?_) fun hn => ?_⟩
      · subst hB0
        subst hn
        exact ⟨_, rfl, t2, _, _, _, rfl, rfl, SqT.of et2, rfl, _, rfl, t2, _, _, _, rfl, rfl, SqT.of et2, rfl, _, rfl, t2, _, _, _, rfl, rfl, SqT.of et2, rfl, fun x dx nx ndx dxx => ⟨x, dx, td, tl, al, .non, 0, D, T, A, [], rfl, upd_same, (sm nx ndx) _ _ (gh _ _ etd), ((hT.any).same gh).same (sm nx ndx), (hA.same gh).same (sm nx ndx), .inl ⟨rfl, rfl⟩, ok, fun HN fx NN => ⟨rfl, hN _ _ (mk gh x dx nx ndx HN fx NN)⟩⟩⟩
      · refine ⟨_, rfl, t2, _, _, _, rfl, rfl, SqT.of et2, rfl, rfl, _, rfl, d2I (fun z => absurd z hn) fun _ => ⟨_, rfl, t2, _, _, _, rfl, rfl, SqT.of et2, rfl, (by show 0 ≤ sizeLine; decide), fun l2 nl2 => ⟨pl, l2, _, rfl, rfl, SqL.of (same_new nl2 _ _ _ eb2), SqL.of upd_same, _, rfl, iteBT (by rw [hb]; rfl) ?_⟩⟩⟩
        have gh := gh.trans (same_new nl2 (.lst []))
        have et3 := same_new nl2 (.lst []) _ _ et2
        subst hB0
        exact ⟨_, rfl, t2, _, _, _, rfl, rfl, SqT.of et3, rfl, _, rfl, t2, _, _, _, rfl, rfl, SqT.of et3, rfl, _, rfl, t2, _, _, _, rfl, rfl, SqT.of et3, rfl, _, rfl, t2, _, _, _, rfl, rfl, SqT.of et3, rfl, fun x dx nx ndx dxx => ⟨x, dx, td, tl, al, .non, n, D, T, A, [], rfl, upd_same, (sm nx ndx) _ _ (gh _ _ etd), ((hT.any).same gh).same (sm nx ndx), (hA.same gh).same (sm nx ndx), .inl ⟨rfl, rfl⟩, ok, fun HN fx NN => ⟨rfl, hN _ _ (mk gh x dx nx ndx HN fx NN)⟩⟩⟩
    · have he : (bs.map V.ref).isEmpty = false := by
        cases hq : bs with
        | nil => exact absurd hq hb
        | cons _ _ => rfl
      refine iteBF he (iteF ⟨_, rfl, t2, _, _, _, rfl, rfl, SqT.of et2, rfl, rfl, _, rfl, d2I (fun hn => ?_) fun hn => ?_⟩)
      · subst hn
        exact ⟨_, rfl, t2, _, _, _, rfl, rfl, SqT.of et2, rfl, _, rfl, t2, _, _, _, rfl, rfl, SqT.of et2, rfl, _, rfl, t2, _, _, _, rfl, rfl, SqT.of et2, rfl, _, rfl, t2, _, _, _, rfl, rfl, SqT.of et2, rfl, fun x dx nx ndx dxx => ⟨x, dx, td, tl, al, .ref pl, 0, D, T, A, B2, rfl, upd_same, (sm nx ndx) _ _ (gh _ _ etd), ((hT.any).same gh).same (sm nx ndx), (hA.same gh).same (sm nx ndx), .inr ⟨pl, rfl, hB2.same (sm nx ndx)⟩, ok, fun HN fx NN => ⟨rfl, hN _ _ (mk gh x dx nx ndx HN fx NN)⟩⟩⟩
      · refine ⟨_, rfl, t2, _, _, _, rfl, rfl, SqT.of et2, rfl, (by show 0 ≤ sizeLine; decide), fun l2 nl2 => ⟨pl, l2, _, rfl, rfl, SqL.of (same_new nl2 _ _ _ eb2), SqL.of upd_same, _, rfl, iteBF he ?_⟩⟩
        have gh := gh.trans (same_new nl2 (.lst []))
        have et3 := same_new nl2 (.lst []) _ _ et2
        have hB3 := hB2.same (same_new nl2 (.lst []))
        exact ⟨_, rfl, t2, _, _, _, rfl, rfl, SqT.of et3, rfl, _, rfl, t2, _, _, _, rfl, rfl, SqT.of et3, rfl, _, rfl, t2, _, _, _, rfl, rfl, SqT.of et3, rfl, _, rfl, t2, _, _, _, rfl, rfl, SqT.of et3, rfl, _, rfl, t2, _, _, _, rfl, rfl, SqT.of et3, rfl, fun x dx nx ndx dxx => ⟨x, dx, td, tl, al, .ref pl, n, D, T, A, B2, rfl, upd_same, (sm nx ndx) _ _ (gh _ _ etd), ((hT.any).same gh).same (sm nx ndx), (hA.same gh).same (sm nx ndx), .inr ⟨pl, rfl, hB3.same (sm nx ndx)⟩, ok, fun HN fx NN => ⟨rfl, hN _ _ (mk gh x dx nx ndx HN fx NN)⟩⟩⟩
  rintro σ H3 ⟨x, G, rfl, g3, nx, tp, NN⟩
  have N3 := NN.net tp
  have M1a := (M1'.same g2).same g3
  have M2a := M2'.same g3
  obtain ⟨yd, yl, ya, yp, fe, fed, fT, fA, fB, _⟩ := M1a.ex
  obtain ⟨zd, zl, za, zp, he, hed, kT, kA, kB, _⟩ := M2a.ex
  try dsimp only [gName, tNext]
  refine cut (fun σ H' => σ = [some (.ref a), some (.ref t1), some (.int wy), some (.ref t2), some (.ref x)] ∧ Same H3 H') (fun N hN => ?_) ?_
  · exact ⟨_, rfl, _, rfl, t2, t1, zd, yd, _, _, D, rfl, rfl, SqT.of he, SqT.of fe, hed, fed, ok.dnd, alk_made kT fT kA fA kB fB, _, rfl, iteF ⟨_, rfl, _, rfl, x, t1, _, D, T, A, B2, n, rfl, N3, M1a, ok.dnd, fun H' g => ⟨_, rfl, iteF (hN _ _ ⟨rfl, g⟩)⟩⟩⟩
  rintro σ H4 ⟨rfl, g4⟩
  refine ⟨_, rfl, t2, _, D, T, A, B2, n, rfl, M2a.same g4, ok.d12, ok.t24, ft, ok.a600, ok.b300, fun H5 sp => ?_⟩
  have N5 := (NN.same g4).sp (fun a xs e => g4 _ _ (tp a xs e)) sp (fun b z w => w.2 z) (fun w => w.2 nx)
  have M5 := (M1a.same g4).sp sp fun b z w => z.2 w.1
  exact ⟨_, rfl, _, rfl, x, t1, _, D, T, A, B2, n, rfl, N5, M5, ok.dnd, fun H' _ => q H'⟩

end
set_option maxHeartbeats 4000000 in
theorem all_mk {l : PySem.W.OpenLaw} {w : World} {K : PySem.W.Frag} {h : Heap} {mg : Str → Option Value} {fa fis_name fpoints_of fcopy_of_task frefuse_wrong_tools frefuse_wrong_uses frefuse_wrong_tasks frefuse_wrong_arcs frefuse_wrong_pairs f_law_cell_at f_law_whole f_law_drawn f_law_name f_law_tools f_law_way f_law_pairs f_law_arcs f_law_made f_law_full f_law_bad_way f_law_bad_tasks f_law_bad_links f_law_spoilt f_law_kept f_law_spill f_law_refused flaw c_Net c_NoName c_NoNet c_NoNumber c_NoPlan c_StoveError c_TooFew c_TooMany f_Net_init : Addr} (X : K.In h) (G : h.Ns mainGlobals mg) (hfa : mg "law" = some (.ref fa))
    {odlaw anlaw : Option Addr} {sllaw : Array (Option Value)} {oclaw kVlaw dclaw pmlaw cdlaw ctlaw : Value}
    {tk_LETTERS : Tok}
    {tk_MOST_LETTERS : Tok}
    {tk_MOST_TASKS : Tok}
    {tk_MOST_TOOLS : Tok}
    {tk_MOST_PIECES : Tok}
    {tk_MOST_WAYS : Tok}
    {tk_MOST_MOMENTS : Tok}
    {tk_MOST_ARCS : Tok}
    {tk_MOST_APART : Tok}
    {tk_GREATEST : Tok}
    {TNet_init : Addr} {ToNet_init : Value} {TdNet_init : Option Addr} {TnNet_init : Nat} {TsNet_init : Array (Option Value)} {TtNet_init : Tok}
    (qis_name : GfAt K fis_name "is_name" sis_name .none)
    (qpoints_of : GfAt K fpoints_of "points_of" spoints_of .none)
    (qcopy_of_task : GfAt K fcopy_of_task "copy_of_task" scopy_of_task .none)
    (qrefuse_wrong_tools : GfAt K frefuse_wrong_tools "refuse_wrong_tools" srefuse_wrong_tools .none)
    (qrefuse_wrong_uses : GfAt K frefuse_wrong_uses "refuse_wrong_uses" srefuse_wrong_uses .none)
    (qrefuse_wrong_tasks : GfAt K frefuse_wrong_tasks "refuse_wrong_tasks" srefuse_wrong_tasks .none)
    (qrefuse_wrong_arcs : GfAt K frefuse_wrong_arcs "refuse_wrong_arcs" srefuse_wrong_arcs .none)
    (qrefuse_wrong_pairs : GfAt K frefuse_wrong_pairs "refuse_wrong_pairs" srefuse_wrong_pairs .none)
    (q_law_cell_at : GfAt K f_law_cell_at "_law_cell_at" s_law_cell_at .none)
    (q_law_whole : GfAt K f_law_whole "_law_whole" s_law_whole .none)
    (q_law_drawn : GfAt K f_law_drawn "_law_drawn" s_law_drawn .none)
    (q_law_name : GfAt K f_law_name "_law_name" s_law_name .none)
    (q_law_tools : GfAt K f_law_tools "_law_tools" s_law_tools .none)
    (q_law_way : GfAt K f_law_way "_law_way" s_law_way .none)
    (q_law_pairs : GfAt K f_law_pairs "_law_pairs" s_law_pairs .none)
    (q_law_arcs : GfAt K f_law_arcs "_law_arcs" s_law_arcs .none)
    (q_law_made : GfAt K f_law_made "_law_made" s_law_made .none)
    (q_law_full : GfAt K f_law_full "_law_full" s_law_full .none)
    (q_law_bad_way : GfAt K f_law_bad_way "_law_bad_way" s_law_bad_way .none)
    (q_law_bad_tasks : GfAt K f_law_bad_tasks "_law_bad_tasks" s_law_bad_tasks .none)
    (q_law_bad_links : GfAt K f_law_bad_links "_law_bad_links" s_law_bad_links .none)
    (q_law_spoilt : GfAt K f_law_spoilt "_law_spoilt" s_law_spoilt .none)
    (q_law_kept : GfAt K f_law_kept "_law_kept" s_law_kept .none)
    (q_law_spill : GfAt K f_law_spill "_law_spill" s_law_spill .none)
    (q_law_refused : GfAt K f_law_refused "_law_refused" s_law_refused .none)
    (alaw : PySem.W.nsIn K mainGlobals "law" = some (some (.ref flaw)))
    (llaw : K.lookup flaw = some ⟨oclaw, odlaw, .func (PySem.W.fnOf "law" "law" (defArgs slaw) (defBody slaw) (defScope slaw) .none kVlaw dclaw pmlaw anlaw cdlaw ctlaw), sllaw⟩) (claw : PySem.W.codeIn K cdlaw "law" = true) (klaw : PySem.W.keepIn K (.ref flaw) = true)
    (zg_LETTERS : PySem.W.nsIn K mainGlobals "LETTERS" = some (some (.str "abcdefghijklmnopqrstuvwxyz" tk_LETTERS)))
    (zg_MOST_LETTERS : PySem.W.nsIn K mainGlobals "MOST_LETTERS" = some (some (.int 12 tk_MOST_LETTERS)))
    (zg_MOST_TASKS : PySem.W.nsIn K mainGlobals "MOST_TASKS" = some (some (.int 24 tk_MOST_TASKS)))
    (zg_MOST_TOOLS : PySem.W.nsIn K mainGlobals "MOST_TOOLS" = some (some (.int 12 tk_MOST_TOOLS)))
    (zg_MOST_PIECES : PySem.W.nsIn K mainGlobals "MOST_PIECES" = some (some (.int 8 tk_MOST_PIECES)))
    (zg_MOST_WAYS : PySem.W.nsIn K mainGlobals "MOST_WAYS" = some (some (.int 2 tk_MOST_WAYS)))
    (zg_MOST_MOMENTS : PySem.W.nsIn K mainGlobals "MOST_MOMENTS" = some (some (.int 8 tk_MOST_MOMENTS)))
    (zg_MOST_ARCS : PySem.W.nsIn K mainGlobals "MOST_ARCS" = some (some (.int 600 tk_MOST_ARCS)))
    (zg_MOST_APART : PySem.W.nsIn K mainGlobals "MOST_APART" = some (some (.int 300 tk_MOST_APART)))
    (zg_GREATEST : PySem.W.nsIn K mainGlobals "GREATEST" = some (some (.int 1000000000 tk_GREATEST)))
    (zb_ValueError : PySem.W.nsIn K mainGlobals "ValueError" = some none)
    (zb_abs : PySem.W.nsIn K mainGlobals "abs" = some none)
    (zb_bool : PySem.W.nsIn K mainGlobals "bool" = some none)
    (zb_dict : PySem.W.nsIn K mainGlobals "dict" = some none)
    (zb_int : PySem.W.nsIn K mainGlobals "int" = some none)
    (zb_isinstance : PySem.W.nsIn K mainGlobals "isinstance" = some none)
    (zb_len : PySem.W.nsIn K mainGlobals "len" = some none)
    (zb_list : PySem.W.nsIn K mainGlobals "list" = some none)
    (zb_range : PySem.W.nsIn K mainGlobals "range" = some none)
    (zb_reversed : PySem.W.nsIn K mainGlobals "reversed" = some none)
    (zb_set : PySem.W.nsIn K mainGlobals "set" = some none)
    (zb_str : PySem.W.nsIn K mainGlobals "str" = some none)
    (zm_Net : PySem.W.nsIn K mainGlobals "Net" = some (some (.ref c_Net)))
    (zm_NoName : PySem.W.nsIn K mainGlobals "NoName" = some (some (.ref c_NoName)))
    (zm_NoNet : PySem.W.nsIn K mainGlobals "NoNet" = some (some (.ref c_NoNet)))
    (zm_NoNumber : PySem.W.nsIn K mainGlobals "NoNumber" = some (some (.ref c_NoNumber)))
    (zm_NoPlan : PySem.W.nsIn K mainGlobals "NoPlan" = some (some (.ref c_NoPlan)))
    (zm_StoveError : PySem.W.nsIn K mainGlobals "StoveError" = some (some (.ref c_StoveError)))
    (zm_TooFew : PySem.W.nsIn K mainGlobals "TooFew" = some (some (.ref c_TooFew)))
    (zm_TooMany : PySem.W.nsIn K mainGlobals "TooMany" = some (some (.ref c_TooMany)))
    (atNet_init : PySem.W.findIn K (.ref c_Net) "__init__" = some (some (.ref f_Net_init)))
    (qNet_init : FnAt K f_Net_init "__init__" "Net.__init__" sNet_init (.ref TNet_init))
    (dNet_init : K.lookup TNet_init = some ⟨ToNet_init, TdNet_init, .seq #[.none, .int 0 TtNet_init] TnNet_init, TsNet_init⟩)
    (zx_NoNet : PySem.W.excIn K c_NoNet bmV "ValueError.__new__" = true)
    (zi_NoNet : XI K c_NoNet)
    (zt_StoveError : XT K c_StoveError)
    (zs_NoNet_StoveError : PySem.W.subIn K (.ref c_NoNet) (.ref c_StoveError) = some true)
    (zk_NoNet_NoPlan : PySem.W.kitOne K (.ref c_NoNet) (.ref c_NoPlan) = some false)
    (zk_NoNet_NoName : PySem.W.kitOne K (.ref c_NoNet) (.ref c_NoName) = some false)
    (zk_NoNet_NoNumber : PySem.W.kitOne K (.ref c_NoNet) (.ref c_NoNumber) = some false)
    (zk_NoNet_TooMany : PySem.W.kitOne K (.ref c_NoNet) (.ref c_TooMany) = some false)
    (zk_NoNet_TooFew : PySem.W.kitOne K (.ref c_NoNet) (.ref c_TooFew) = some false)
    (zk_NoNet_NoNet : PySem.W.kitOne K (.ref c_NoNet) (.ref c_NoNet) = some true)
    (zk_NoNet_ValueError : PySem.W.kitOne K (.ref c_NoNet) (.type "ValueError") = some true)
    (zcl_Net : Cls K c_Net)
    (zmk_Net : Mk K c_Net f_Net_init)
    (zna_Net_tools : NoAttr K c_Net "tools")
    (zna_Net_tasks : NoAttr K c_Net "tasks")
    (zna_Net_arcs : NoAttr K c_Net "arcs")
    (zna_Net_apart : NoAttr K c_Net "apart")
    (zna_Net_moments : NoAttr K c_Net "moments")
    : ∃ fd : FuncData, (∀ (s : Shared) (v : Value), BindsTo s fd ⟨[v], []⟩ [("_law_script", v)]) ∧ ∀ base : Heap, K.In base → base.Ns mainGlobals mg → FnOk l.prog w K mg base CX0 6 fa fd ["_law_script"] (spLaw K) := by
  have e := hfa.symm.trans (PySem.W.mg_of X G alaw)
  cases e
  have B : Bn K mg c_Net c_NoName c_NoNet c_NoNumber c_NoPlan c_StoveError c_TooFew c_TooMany f_Net_init := ⟨Exists.intro _ <| PySem.W.mg_of X G zg_LETTERS, Exists.intro _ <| PySem.W.mg_of X G zg_MOST_LETTERS, Exists.intro _ <| PySem.W.mg_of X G zg_MOST_TASKS, Exists.intro _ <| PySem.W.mg_of X G zg_MOST_TOOLS, Exists.intro _ <| PySem.W.mg_of X G zg_MOST_PIECES, Exists.intro _ <| PySem.W.mg_of X G zg_MOST_WAYS, Exists.intro _ <| PySem.W.mg_of X G zg_MOST_MOMENTS, Exists.intro _ <| PySem.W.mg_of X G zg_MOST_ARCS, Exists.intro _ <| PySem.W.mg_of X G zg_MOST_APART, Exists.intro _ <| PySem.W.mg_of X G zg_GREATEST, PySem.W.mg_none_of X G zb_ValueError, PySem.W.mg_none_of X G zb_abs, PySem.W.mg_none_of X G zb_bool, PySem.W.mg_none_of X G zb_dict, PySem.W.mg_none_of X G zb_int, PySem.W.mg_none_of X G zb_isinstance, PySem.W.mg_none_of X G zb_len, PySem.W.mg_none_of X G zb_list, PySem.W.mg_none_of X G zb_range, PySem.W.mg_none_of X G zb_reversed, PySem.W.mg_none_of X G zb_set, PySem.W.mg_none_of X G zb_str, PySem.W.mg_of X G zm_Net, PySem.W.mg_of X G zm_NoName, PySem.W.mg_of X G zm_NoNet, PySem.W.mg_of X G zm_NoNumber, PySem.W.mg_of X G zm_NoPlan, PySem.W.mg_of X G zm_StoveError, PySem.W.mg_of X G zm_TooFew, PySem.W.mg_of X G zm_TooMany, zx_NoNet, zi_NoNet, zt_StoveError, zs_NoNet_StoveError, zk_NoNet_NoPlan, zk_NoNet_NoName, zk_NoNet_NoNumber, zk_NoNet_TooMany, zk_NoNet_TooFew, zk_NoNet_NoNet, zk_NoNet_ValueError, zcl_Net, zmk_Net, zna_Net_tools, zna_Net_tasks, zna_Net_arcs, zna_Net_apart, zna_Net_moments⟩
  obtain ⟨_, _, _, _, _, _, _, _, _, lNet_init, cNet_init, kNet_init⟩ := qNet_init
  have FNet_init := funD_mk (st := sNet_init) lNet_init cNet_init kNet_init
  have Flaw := funD_mk (st := slaw) llaw claw klaw
  refine ⟨PySem.W.fnOf "law" "law" (defArgs slaw) (defBody slaw) (defScope slaw) .none kVlaw dclaw pmlaw anlaw cdlaw ctlaw, ?bind, fun base _ _ => ?ok⟩
  case bind => exact fun s v => .of_eq rfl
  case ok =>
    have z9 : Bx l.prog w base := ⟨⟩
    have Dis_name := mkD z9 X G qis_name (fun _ _ _ _ _ _ => lenOf1 fun _ => rfl) fun F => okis_name B F 
    have Dpoints_of := mkD z9 X G qpoints_of (fun _ _ _ _ _ _ => lenOf1 fun _ => rfl) fun F => okpoints_of B F 
    have Dcopy_of_task := mkD z9 X G qcopy_of_task (fun _ _ _ _ _ _ => lenOf1 fun _ => rfl) fun F => okcopy_of_task B F 
    have Xrefuse_wrong_tools := mkD z9 X G qrefuse_wrong_tools (fun _ _ _ _ _ _ => lenOf1 fun _ => rfl) fun F => okrefuse_wrong_tools B F Dis_name
    have Drefuse_wrong_tools : Dx l.prog w K mg base CX0 2 "refuse_wrong_tools" ["tools"] [] spNil := Xrefuse_wrong_tools.calm (fun _ _ _ _ h => h.elim)
    have Xrefuse_wrong_uses := mkD z9 X G qrefuse_wrong_uses (fun _ _ _ _ _ _ => lenOf2 fun _ _ => rfl) fun F => okrefuse_wrong_uses B F 
    have Drefuse_wrong_uses : Dx l.prog w K mg base CX0 1 "refuse_wrong_uses" ["uses", "tools"] [] spNil := Xrefuse_wrong_uses.calm (fun _ _ _ _ h => h.elim)
    have Xrefuse_wrong_tasks := mkD z9 X G qrefuse_wrong_tasks (fun _ _ _ _ _ _ => lenOf2 fun _ _ => rfl) fun F => okrefuse_wrong_tasks B F Xrefuse_wrong_uses
    have Drefuse_wrong_tasks : Dx l.prog w K mg base CX0 2 "refuse_wrong_tasks" ["tasks", "tools"] [] spNil := Xrefuse_wrong_tasks.calm (fun _ _ _ _ h => h.elim)
    have Xrefuse_wrong_arcs := mkD z9 X G qrefuse_wrong_arcs (fun _ _ _ _ _ _ => lenOf2 fun _ _ => rfl) fun F => okrefuse_wrong_arcs B F 
    have Drefuse_wrong_arcs : Dx l.prog w K mg base CX0 1 "refuse_wrong_arcs" ["arcs", "points"] [] spNil := Xrefuse_wrong_arcs.calm (fun _ _ _ _ h => h.elim)
    have Xrefuse_wrong_pairs := mkD z9 X G qrefuse_wrong_pairs (fun _ _ _ _ _ _ => lenOf2 fun _ _ => rfl) fun F => okrefuse_wrong_pairs B F 
    have Drefuse_wrong_pairs : Dx l.prog w K mg base CX0 1 "refuse_wrong_pairs" ["pairs", "many"] [] spNil := Xrefuse_wrong_pairs.calm (fun _ _ _ _ h => h.elim)
    have XNet_init : DxM l.prog w K mg base (CX1 l.prog w) 3 f_Net_init ["self", "tools", "tasks", "arcs", "apart", "moments"] [.non, .int 0] (spNetLX c_Net c_NoNet) := ⟨_, okNet_init B FNet_init Dpoints_of Dcopy_of_task Xrefuse_wrong_tools Xrefuse_wrong_tasks Xrefuse_wrong_arcs Xrefuse_wrong_pairs, FNet_init.binds (ps := ["self", "tools", "tasks", "arcs", "apart", "moments"]) (ds := []) dNet_init rfl fun _ _ _ _ _ _ us hl => match us, hl with | [_, _, _, _, _, _], _ => ⟨_, rfl, rfl⟩, ⟨[.none, .int 0 TtNet_init], FNet_init.binds (ps := ["self", "tools", "tasks", "arcs", "apart", "moments"]) (ds := [.none, .int 0 TtNet_init]) dNet_init rfl fun _ _ _ _ _ _ us hl => match us, hl with | [_, _, _, _], _ => ⟨_, rfl, rfl⟩ | [], h => absurd h (by simp) | [_], h => absurd h (by simp) | [_, _], h => absurd h (by simp) | [_, _, _], h => absurd h (by simp) | _ :: _ :: _ :: _ :: _ :: _, h => absurd h (by simp), .cons rfl (.cons ⟨_, rfl⟩ .nil)⟩⟩
    have DNet_init : DxM l.prog w K mg base CX0 3 f_Net_init ["self", "tools", "tasks", "arcs", "apart", "moments"] [.non, .int 0] (spNetL c_Net) := XNet_init.calm netLX_of
    have EXNet_init : DxM l.prog w K mg base (CX1 l.prog w) 3 f_Net_init ["self", "tools", "tasks", "arcs", "apart", "moments"] [.int 0] (spNetLX c_Net c_NoNet) := ⟨_, okNet_init B FNet_init Dpoints_of Dcopy_of_task Xrefuse_wrong_tools Xrefuse_wrong_tasks Xrefuse_wrong_arcs Xrefuse_wrong_pairs, FNet_init.binds (ps := ["self", "tools", "tasks", "arcs", "apart", "moments"]) (ds := []) dNet_init rfl fun _ _ _ _ _ _ us hl => match us, hl with | [_, _, _, _, _, _], _ => ⟨_, rfl, rfl⟩, ⟨[.int 0 TtNet_init], FNet_init.binds (ps := ["self", "tools", "tasks", "arcs", "apart", "moments"]) (ds := [.int 0 TtNet_init]) dNet_init rfl fun _ _ _ _ _ _ us hl => match us, hl with | [_, _, _, _, _], _ => ⟨_, rfl, rfl⟩ | [], h => absurd h (by simp) | [_], h => absurd h (by simp) | [_, _], h => absurd h (by simp) | [_, _, _], h => absurd h (by simp) | [_, _, _, _], h => absurd h (by simp) | _ :: _ :: _ :: _ :: _ :: _ :: _, h => absurd h (by simp), .cons ⟨_, rfl⟩ .nil⟩⟩
    have ENet_init : DxM l.prog w K mg base CX0 3 f_Net_init ["self", "tools", "tasks", "arcs", "apart", "moments"] [.int 0] (spNetL c_Net) := EXNet_init.calm netLX_of
    have D_law_cell_at := mkD z9 X G q_law_cell_at (fun _ _ _ _ _ _ => lenOf2 fun _ _ => rfl) fun F => ok_law_cell_at B F 
    have D_law_whole := mkD z9 X G q_law_whole (fun _ _ _ _ _ _ => lenOf1 fun _ => rfl) fun F => ok_law_whole B F 
    have D_law_drawn := mkD z9 X G q_law_drawn (fun _ _ _ _ _ _ => lenOf2 fun _ _ => rfl) fun F => ok_law_drawn B F 
    have D_law_name := mkD z9 X G q_law_name (fun _ _ _ _ _ _ => lenOf3 fun _ _ _ => rfl) fun F => ok_law_name B F 
    have D_law_tools := mkD z9 X G q_law_tools (fun _ _ _ _ _ _ => lenOf1 fun _ => rfl) fun F => ok_law_tools B F D_law_name
    have D_law_way := mkD z9 X G q_law_way (fun _ _ _ _ _ _ => lenOf2 fun _ _ => rfl) fun F => ok_law_way B F 
    have D_law_pairs := mkD z9 X G q_law_pairs (fun _ _ _ _ _ _ => lenOf2 fun _ _ => rfl) fun F => ok_law_pairs B F D_law_drawn
    have D_law_arcs := mkD z9 X G q_law_arcs (fun _ _ _ _ _ _ => lenOf2 fun _ _ => rfl) fun F => ok_law_arcs B F D_law_cell_at D_law_drawn
    have D_law_made := mkD z9 X G q_law_made (fun _ _ _ _ _ _ => lenOf1 fun _ => rfl) fun F => ok_law_made B F D_law_cell_at D_law_drawn D_law_tools D_law_way D_law_pairs D_law_arcs
    have D_law_full := mkD z9 X G q_law_full (fun _ _ _ _ _ _ => lenOf1 fun _ => rfl) fun F => ok_law_full B F 
    have D_law_bad_way := mkD z9 X G q_law_bad_way (fun _ _ _ _ _ _ => lenOf4 fun _ _ _ _ => rfl) fun F => ok_law_bad_way B F 
    have D_law_bad_tasks := mkD z9 X G q_law_bad_tasks (fun _ _ _ _ _ _ => lenOf4 fun _ _ _ _ => rfl) fun F => ok_law_bad_tasks B F D_law_bad_way
    have D_law_bad_links := mkD z9 X G q_law_bad_links (fun _ _ _ _ _ _ => lenOf3 fun _ _ _ => rfl) fun F => ok_law_bad_links B F 
    have D_law_spoilt := mkD z9 X G q_law_spoilt (fun _ _ _ _ _ _ => lenOf3 fun _ _ _ => rfl) fun F => ok_law_spoilt B F D_law_bad_tasks D_law_bad_links
    have D_law_kept := mkD z9 X G q_law_kept (fun _ _ _ _ _ _ => lenOf2 fun _ _ => rfl) fun F => ok_law_kept B F Dpoints_of D_law_whole
    have D_law_spill := mkD z9 X G q_law_spill (fun _ _ _ _ _ _ => lenOf1 fun _ => rfl) fun F => ok_law_spill B F 
    have D_law_refused := mkD z9 X G q_law_refused (fun _ _ _ _ _ _ => lenOf1 fun _ => rfl) fun F => ok_law_refused B F XNet_init
    exact oklaw B Flaw ENet_init DNet_init D_law_cell_at D_law_made D_law_full D_law_spoilt D_law_kept D_law_spill D_law_refused
theorem walk {l : PySem.W.OpenLaw} {q : Program} {loose : List Str} {XP : (Str → Option Value) → Heap → Prop} {YP : World → Heap → Prop} {d : DefRec} {K : Params → PySem.W.Frag} (hn : l.most = some 63) (hdf : d.params.defaults = [])
    (hY : ∀ (w : World) (h : Heap), YP w h → (K w.params).In h)
    (F : ∀ (w : World) (mg : Str → Option Value) (fa : Addr) (h : Heap), (K w.params).In h → h.Ns mainGlobals mg → mg d.name = some (.ref fa) →
      ∃ fd : FuncData, (∀ (s : Shared) (u : Value), BindsTo s fd ⟨[u], []⟩ [("_law_script", u)]) ∧ ∀ base : Heap, (K w.params).In base → base.Ns mainGlobals mg → FnOk l.prog w (K w.params) mg base CX0 6 fa fd ["_law_script"] (spLaw (K w.params))) :
    PySem.W.WalkO q loose XP YP l.row.toRowW d [] (fun f vs => PySem.call f vs) :=
  L2.walk_of (n := 63) (k := 6) (x := "_law_script") (CX := fun _ => CX0) (sp := fun w => spLaw (K w.params)) hn (by decide) hdf ⟨rfl, by decide, by decide⟩ hY F (fun _ _ a ns hl _ hS => ⟨a, ns, rfl, hS, hl, fun _ => rfl⟩) fun _ _ _ _ _ z => z
end Lk51
open PySem PySem.W PyProof.Rows
set_option maxRecDepth 100000 in
set_option maxHeartbeats 0 in
theorem PySem.Challenge.cw_stovework_k51_net_kept_holds : PySem.Challenge.rw_stovework_k51_net_kept.Holds := by
  refine Lk51.hd ?_
  k_fill
  refine Lk51.walk (l := PySem.Challenge.rw_stovework_k51_net_kept) rfl rfl (fun w h Y => PySem.W.kIn_of Y) ?F
  case F =>
    intro w mg fa h KX G hmg
    refine' Lk51.all_mk KX G hmg ?h0 ?h1 ?h2 ?h3 ?h4 ?h5 ?h6 ?h7 ?h8 ?h9 ?h10 ?h11 ?h12 ?h13 ?h14 ?h15 ?h16 ?h17 ?h18 ?h19 ?h20 ?h21 ?h22 ?h23 ?h24 ?h25 ?h26 ?h27 ?h28 ?h29 ?h30 ?h31 ?h32 ?h33 ?h34 ?h35 ?h36 ?h37 ?h38 ?h39 ?h40 ?h41 ?h42 ?h43 ?h44 ?h45 ?h46 ?h47 ?h48 ?h49 ?h50 ?h51 ?h52 ?h53 ?h54 ?h55 ?h56 ?h57 ?h58 ?h59 ?h60 ?h61 ?h62 ?h63 ?h64 ?h65 ?h66 ?h67 ?h68 ?h69 ?h70 ?h71 ?h72 ?h73 ?h74 ?h75 ?h76 ?h77 ?h78 ?h79
    (case h0 => exact ⟨by k_is, _, _, _, _, _, _, _, _, _, by k_is, by k_is, by k_is⟩)
    (case h1 => exact ⟨by k_is, _, _, _, _, _, _, _, _, _, by k_is, by k_is, by k_is⟩)
    (case h2 => exact ⟨by k_is, _, _, _, _, _, _, _, _, _, by k_is, by k_is, by k_is⟩)
    (case h3 => exact ⟨by k_is, _, _, _, _, _, _, _, _, _, by k_is, by k_is, by k_is⟩)
    (case h4 => exact ⟨by k_is, _, _, _, _, _, _, _, _, _, by k_is, by k_is, by k_is⟩)
    (case h5 => exact ⟨by k_is, _, _, _, _, _, _, _, _, _, by k_is, by k_is, by k_is⟩)
    (case h6 => exact ⟨by k_is, _, _, _, _, _, _, _, _, _, by k_is, by k_is, by k_is⟩)
    (case h7 => exact ⟨by k_is, _, _, _, _, _, _, _, _, _, by k_is, by k_is, by k_is⟩)
    (case h8 => exact ⟨by k_is, _, _, _, _, _, _, _, _, _, by k_is, by k_is, by k_is⟩)
    (case h9 => exact ⟨by k_is, _, _, _, _, _, _, _, _, _, by k_is, by k_is, by k_is⟩)
    (case h10 => exact ⟨by k_is, _, _, _, _, _, _, _, _, _, by k_is, by k_is, by k_is⟩)
    (case h11 => exact ⟨by k_is, _, _, _, _, _, _, _, _, _, by k_is, by k_is, by k_is⟩)
    (case h12 => exact ⟨by k_is, _, _, _, _, _, _, _, _, _, by k_is, by k_is, by k_is⟩)
    (case h13 => exact ⟨by k_is, _, _, _, _, _, _, _, _, _, by k_is, by k_is, by k_is⟩)
    (case h14 => exact ⟨by k_is, _, _, _, _, _, _, _, _, _, by k_is, by k_is, by k_is⟩)
    (case h15 => exact ⟨by k_is, _, _, _, _, _, _, _, _, _, by k_is, by k_is, by k_is⟩)
    (case h16 => exact ⟨by k_is, _, _, _, _, _, _, _, _, _, by k_is, by k_is, by k_is⟩)
    (case h17 => exact ⟨by k_is, _, _, _, _, _, _, _, _, _, by k_is, by k_is, by k_is⟩)
    (case h18 => exact ⟨by k_is, _, _, _, _, _, _, _, _, _, by k_is, by k_is, by k_is⟩)
    (case h19 => exact ⟨by k_is, _, _, _, _, _, _, _, _, _, by k_is, by k_is, by k_is⟩)
    (case h20 => exact ⟨by k_is, _, _, _, _, _, _, _, _, _, by k_is, by k_is, by k_is⟩)
    (case h21 => exact ⟨by k_is, _, _, _, _, _, _, _, _, _, by k_is, by k_is, by k_is⟩)
    (case h22 => exact ⟨by k_is, _, _, _, _, _, _, _, _, _, by k_is, by k_is, by k_is⟩)
    (case h23 => exact ⟨by k_is, _, _, _, _, _, _, _, _, _, by k_is, by k_is, by k_is⟩)
    (case h24 => exact ⟨by k_is, _, _, _, _, _, _, _, _, _, by k_is, by k_is, by k_is⟩)
    (case h25 => k_is)
    (case h26 => k_is)
    (case h27 => k_is)
    (case h28 => k_is)
    (case h29 => k_is)
    (case h30 => k_is)
    (case h31 => k_is)
    (case h32 => k_is)
    (case h33 => k_is)
    (case h34 => k_is)
    (case h35 => k_is)
    (case h36 => k_is)
    (case h37 => k_is)
    (case h38 => k_is)
    (case h39 => k_is)
    (case h40 => k_is)
    (case h41 => k_is)
    (case h42 => k_is)
    (case h43 => k_is)
    (case h44 => k_is)
    (case h45 => k_is)
    (case h46 => k_is)
    (case h47 => k_is)
    (case h48 => k_is)
    (case h49 => k_is)
    (case h50 => k_is)
    (case h51 => k_is)
    (case h52 => k_is)
    (case h53 => k_is)
    (case h54 => k_is)
    (case h55 => k_is)
    (case h56 => k_is)
    (case h57 => k_is)
    (case h58 => k_is)
    (case h59 => k_is)
    (case h60 => exact ⟨_, _, _, _, _, _, _, _, _, by k_is, by k_is, by k_is⟩)
    (case h61 => k_is)
    (case h62 => kernel_rfl)
    (case h63 => exact ⟨⟨by k_is, by k_is, by k_is⟩, by kernel_rfl, by k_is, by k_is, by k_is, by k_is⟩)
    (case h64 => exact ⟨by k_is, by kernel_rfl, by k_is⟩)
    (case h65 => k_is)
    (case h66 => kernel_rfl)
    (case h67 => kernel_rfl)
    (case h68 => kernel_rfl)
    (case h69 => kernel_rfl)
    (case h70 => kernel_rfl)
    (case h71 => kernel_rfl)
    (case h72 => kernel_rfl)
    (case h73 => exact ⟨by k_is, by k_is, by k_is, by k_is⟩)
    (case h74 => exact ⟨by k_is, by k_is, by k_is, by k_is⟩)
    (case h75 => unfold L2.NoAttr; k_is)
    (case h76 => unfold L2.NoAttr; k_is)
    (case h77 => unfold L2.NoAttr; k_is)
    (case h78 => unfold L2.NoAttr; k_is)
    (case h79 => unfold L2.NoAttr; k_is)
