import PyProof.Rows.All
import Wide.All
import OpenK.AllK
import Wide.FinOn
import Lean
import PyProof.EqAt
import PyProof.EqKinds
import PyProof.TupleCall
import PyProof.NeKinds
import PyProof.StationsW
import PyProof.RulesAs
import PyProof.ExcArgsOwn
import PyProof.CompFree
import PyProof.ExcInit
import PyProof.ConsumeWalk
import PyProof.Rows.SeqGen
import PyProof.StrWalks
import PyProof.SliceStr2
import PyProof.MeetsStr
import KE.KIntText
import PyProof.Rows.FStr
import PyProof.StrCalls6
import PyProof.StrBlockL
import PyProof.ToksMono
import PyProof.WalkInts
import PyProof.Rows.MinMaxN
import PyProof.StrLawsReplace
import PyProof.StrLawsTight
import PyProof.Rows.StrLawsPart
import PyProof.DictWalks
import KE.KEqDict
import KE.KDictLaws
import KE.KRevIter
import PyProof.ListCopy
import PyProof.CollectIter
import PyProof.Rows.SetFrom
import PyProof.Rows.SortShellK
import PyProof.Rows.SortStr
import PyProof.Rows.SortWalk
import KE.KDictSum
import KE.KSortTup
import PyProof.TupleOfSeq
import PyProof.Rows.SortRuns
import PyProof.FactsAll.tuple_2
import PyProof.WalksEnum
import PyProof.EnumMake
import PyProof.EnumFor
import PyProof.ZipIter
import KE.KDictOf
import PyProof.DictItems
import PyProof.FactsAll.dict_itemiterator_1
import PyProof.Rows.StrMul
import KE.KDictList
import PyProof.Rows.SumAny
import PySem.Challenge.RW_stovework_k92_papers_written
/-! The run of a law's top over a tree in the heap's place, at once: then the heap that it stands for is what the head asks. Own work. -/
namespace Ht
open PySem PySem.W PyProof.Rows
/-- steps till the top is through -/
noncomputable def runT (ok : Thread → Bool) (st : SharedT → Thread → Option (SharedT × Thread)) (n : Nat) : SharedT → Thread → Option SharedT :=
  Nat.rec (motive := fun _ => SharedT → Thread → Option SharedT) (fun _ _ => none) (fun _ ih s t =>
    Bool.rec (motive := fun _ => Option SharedT)
      (Bool.rec (motive := fun _ => Option SharedT) none (Option.rec (motive := fun _ => Option SharedT) none (fun r => Prod.rec (motive := fun _ => Option SharedT) (fun s' t' => ih s' t') r) (st s t)) (ok t))
      (some s) (through t)) n
theorem runT_of {tb : String → Option Builtin} {p : Program} {w : World} {m : Nat} {ann : Option Value} : ∀ {n : Nat} {s s' : SharedT} {t : Thread}, runT (stepOk m ann) (stepT (denote tb) p w) n s t = some s' → topRun tb p w m ann n s.abs t = some s'.abs
  | 0, _, _, _, h => by cases h
  | n + 1, s, s', t, h => by
    unfold topRun
    have h' : Bool.rec (motive := fun _ => Option SharedT)
      (Bool.rec (motive := fun _ => Option SharedT) none (Option.rec (motive := fun _ => Option SharedT) none (fun r => Prod.rec (motive := fun _ => Option SharedT) (fun s' t' => runT (stepOk m ann) (stepT (denote tb) p w) n s' t') r) (stepT (denote tb) p w s t)) (stepOk m ann t))
      (some s) (through t) = some s' := h
    cases ht : through t with
    | true => rw [ht] at h'; cases h'; rfl
    | false =>
      rw [ht] at h'
      cases hk : stepOk m ann t with
      | false => rw [hk] at h'; cases h'
      | true =>
        rw [hk] at h'
        cases hs : stepT (denote tb) p w s t with
        | none => rw [hs] at h'; cases h'
        | some r =>
          obtain ⟨s₂, t₂⟩ := r
          rw [hs] at h'
          dsimp only
          rw [stepT_spec hs]
          exact runT_of h'
/-- a tree of a list's things -/
noncomputable def grow (l : List Obj) : Nat → BT → Option BT :=
  List.rec (motive := fun _ => Nat → BT → Option BT) (fun _ t => some t) (fun o _ ih n t =>
    Bool.rec (motive := fun _ => Option BT) none (ih (n + 1) (t.ins n o)) ((t.ins n o).get n).isSome) l
theorem grow_of {life : Life} : ∀ {l : List Obj} {n : Nat} {t t' : BT}, grow l n t = some t' → absHeap t' (n + l.length) life = ⟨(absHeap t n life).objs ++ l.toArray, life⟩
  | [], n, t, t', h => by
    cases h
    simp [absHeap]
  | o :: l, n, t, t', h => by
    have h' : Bool.rec (motive := fun _ => Option BT) none (grow l (n + 1) (t.ins n o)) ((t.ins n o).get n).isSome = some t' := h
    cases e : ((t.ins n o).get n).isSome with
    | false => rw [e] at h'; cases h'
    | true =>
      rw [e] at h'
      have z := grow_of (life := life) h'
      rw [absHeap_ins e] at z
      rw [show n + (o :: l).length = n + 1 + l.length by rw [List.length_cons]; omega, z]
      simp [Heap.push]
noncomputable def treeOf (s : Shared) : Option SharedT :=
  Option.rec (motive := fun _ => Option SharedT) none (fun t => some ⟨t, s.heap.objs.size, s.heap.life, s.gens, s.drawn, s.toks, s.os⟩) (grow s.heap.objs.toList 0 .nil)
theorem treeOf_abs {s : Shared} {s' : SharedT} (h : treeOf s = some s') : s'.abs = s := by
  have h' : Option.rec (motive := fun _ => Option SharedT) none (fun t => some ⟨t, s.heap.objs.size, s.heap.life, s.gens, s.drawn, s.toks, s.os⟩) (grow s.heap.objs.toList 0 .nil) = some s' := h
  cases e : grow s.heap.objs.toList 0 .nil with
  | none => rw [e] at h'; cases h'
  | some t =>
    rw [e] at h'
    cases h'
    have z := grow_of (life := s.heap.life) e
    obtain ⟨⟨objs, life⟩, gens, drawn, toks, os⟩ := s
    simp only [SharedT.abs]
    have z' : absHeap t objs.size life = ⟨objs, life⟩ := by
      simpa [absHeap, BT.list] using z
    rw [z']
/-- the top's run from what the opening left -/
noncomputable def endsT (ok : Nat → Option Value → Thread → Bool) (st : SharedT → Thread → Option (SharedT × Thread)) (p : Program) (N : Nat) (s₀ : Shared) : Option Shared :=
  Bool.rec (motive := fun _ => Option Shared) none
    ((treeOf s₀).bind fun t₀ => (runT (ok s₀.heap.objs.size (s₀.heap.nsMap mainGlobals "__annotations__")) st N t₀ (topStub p)).bind fun t₁ =>
      (fun s₁ => Bool.rec (motive := fun _ => Option Shared) none (some s₁) (staticsOk (importedModules p.main.body) s₀.heap s₁.heap && namesBound p s₁.heap && gensDone s₁ && laidKept s₀.heap s₁.heap)) t₁.abs)
    (s₀.heap.isNs mainGlobals && s₀.gens.size == 0)
theorem endsT_of {tb : String → Option Builtin} {p : Program} {w : World} {N : Nat} {s₀ s : Shared} (h : endsT stepOk (stepT (denote tb) p w) p N s₀ = some s) : topFrom tb p w N s₀ = some s := by
  unfold endsT at h
  unfold topFrom
  cases e : s₀.heap.isNs mainGlobals && s₀.gens.size == 0 with
  | false => rw [e] at h; cases h
  | true =>
    rw [e] at h
    obtain ⟨t₀, e0, h⟩ := Option.bind_eq_some_iff.mp h
    obtain ⟨t₁, e1, h⟩ := Option.bind_eq_some_iff.mp h
    have r := runT_of e1
    rw [treeOf_abs e0] at r
    dsimp only
    rw [r]
    dsimp only at h
    show (match staticsOk (importedModules p.main.body) s₀.heap t₁.abs.heap && namesBound p t₁.abs.heap && gensDone t₁.abs && laidKept s₀.heap t₁.abs.heap with | true => some t₁.abs | false => none) = some s
    cases q : staticsOk (importedModules p.main.body) s₀.heap t₁.abs.heap && namesBound p t₁.abs.heap && gensDone t₁.abs && laidKept s₀.heap t₁.abs.heap with
    | false => rw [q] at h; cases h
    | true => rw [q] at h; exact h
end Ht
/-! The head's run looked at in parts, each by itself: less memory. Own work. -/
namespace Ht
open PySem PySem.W PyProof.Rows
noncomputable def rawT (ok : Nat → Option Value → Thread → Bool) (st : SharedT → Thread → Option (SharedT × Thread)) (p : Program) (N : Nat) (s₀ : Shared) : Option Shared :=
  (treeOf s₀).bind fun t₀ => (runT (ok s₀.heap.objs.size (s₀.heap.nsMap mainGlobals "__annotations__")) st N t₀ (topStub p)).map fun t₁ => t₁.abs
def chkT (p : Program) (s₀ s₁ : Shared) : Bool := (s₀.heap.isNs mainGlobals && s₀.gens.size == 0) && (staticsOk (importedModules p.main.body) s₀.heap s₁.heap && namesBound p s₁.heap && gensDone s₁ && laidKept s₀.heap s₁.heap)
theorem ends_raw {tb : String → Option Builtin} {p : Program} {w : World} {N : Nat} {s₀ s : Shared} (h : rawT stepOk (stepT (denote tb) p w) p N s₀ = some s) (c : chkT p s₀ s = true) : topFrom tb p w N s₀ = some s := by
  apply endsT_of
  unfold rawT at h
  obtain ⟨t₀, e0, h⟩ := Option.bind_eq_some_iff.mp h
  obtain ⟨t₁, e1, rfl⟩ := Option.map_eq_some_iff.mp h
  unfold chkT at c
  rw [Bool.and_eq_true] at c
  unfold endsT
  rw [c.1]
  show ((treeOf s₀).bind fun t₀ => _) = _
  rw [e0]
  show ((runT _ _ N t₀ (topStub p)).bind fun t₁ => _) = _
  rw [e1]
  show (Bool.rec (motive := fun _ => Option Shared) none (some t₁.abs) (staticsOk (importedModules p.main.body) s₀.heap t₁.abs.heap && namesBound p t₁.abs.heap && gensDone t₁.abs && laidKept s₀.heap t₁.abs.heap) : Option Shared) = _
  rw [c.2]
/-- a look at the end of the run -/
abbrev Look (p : Program) (N : Nat) {α : Type} (f : Shared → Shared → α) (v : World → α) : Prop := ∀ w : World, ((importEnds treeTable (opening p) w N (start (opening p)).1 (start (opening p)).2).bind fun s => (fenceModules? p s).bind fun s₀ => (rawT stepOk (stepT (denote treeTable) p w) p N s₀).map fun s₁ => f s₀ s₁) = some (v w)
theorem Look.at_ {p : Program} {N : Nat} {α : Type} {f : Shared → Shared → α} {v : World → α} (h : Look p N f v) (w : World) {s s₀ s₁ : Shared} (a : importEnds treeTable (opening p) w N (start (opening p)).1 (start (opening p)).2 = some s) (b : fenceModules? p s = some s₀) (c : rawT stepOk (stepT (denote treeTable) p w) p N s₀ = some s₁) : f s₀ s₁ = v w := by
  have := h w
  rw [a] at this
  replace this : ((fenceModules? p s).bind fun s₀ => (rawT stepOk (stepT (denote treeTable) p w) p N s₀).map fun s₁ => f s₀ s₁) = some (v w) := this
  rw [b] at this
  replace this : ((rawT stepOk (stepT (denote treeTable) p w) p N s₀).map fun s₁ => f s₀ s₁) = some (v w) := this
  rw [c] at this
  injection this
theorem left_of3 {p q : Program} {loose : List Str} {Xt : Shared → Bool} {α : Type} {Yf : Shared → α} {Ya : World → α} {N : Nat} {g0 : Bool} (hc : Look p N (fun s₀ s₁ => chkT p s₀ s₁) fun _ => true)
    (h1 : Look p N (fun _ s => openSeen q loose (importedModules p.main.body) Xt g0 s) fun _ => openGood q loose) (h2 : Look p N (fun _ s => Yf s) Ya) : LeftO p q loose Xt Yf Ya N g0 := fun w => by
  obtain ⟨s, a, e⟩ := Option.bind_eq_some_iff.mp (hc w)
  obtain ⟨s₀, b, e⟩ := Option.bind_eq_some_iff.mp e
  obtain ⟨s₁, c, e⟩ := Option.map_eq_some_iff.mp e
  have z : openEnds treeTable p w N = some s₁ := by
    unfold openEnds fencedOpening
    rw [a]
    show (fenceModules? p s).bind _ = _
    rw [b]
    exact ends_raw c e
  rw [z]
  show some (_, _) = some (_, _)
  rw [h1.at_ w a b c, h2.at_ w a b c]
end Ht
set_option Elab.async false
set_option linter.all false
set_option maxRecDepth 100000
namespace Lk92
open PySem PySem.W PyProof.Rows
def qv : Program := { PySem.Challenge.pw_stovework_k92_papers_written with main := { PySem.Challenge.pw_stovework_k92_papers_written.main with body := ([1, 2, 3, 4, 5, 6, 7, 8, 9, 10, 11, 12, 13, 14, 15, 16, 17, 19, 20, 21, 23, 24, 25, 27, 28, 30, 31, 32, 33, 34, 35, 36, 37, 38, 39, 40, 41, 43, 44, 45, 46, 47, 48, 49, 50, 51, 52, 53] : List Nat).filterMap fun i => PySem.Challenge.pw_stovework_k92_papers_written.main.body[i]? } }
def lo : List Str := []
/-- what the head asks of the text, but the run of its top -/
theorem head {α : Type} {Yf : Shared → α} {Ya : World → α} {YP : World → Heap → Prop} {d : DefRec} {kwd : List (Str × Expr)} (left : LeftO PySem.Challenge.pw_stovework_k92_papers_written qv lo (fun s => xlAt qv [] s && recOk [] s) Yf Ya 9512)
    (hY : ∀ w s, Yf s = Ya w → YP w s.heap) (hYk : ∀ w h h', YP w h → (∀ b o, h.get? b = some o → h'.get? b = some o) → YP w h') (hd : defOf qv PySem.Challenge.rw_stovework_k92_papers_written.row.name = some (d, kwd))
    (hp : PySem.Challenge.rw_stovework_k92_papers_written.row.prog.theDef PySem.Challenge.rw_stovework_k92_papers_written.row.name = some (d.params, d.body, d.scope)) (hk : kwWritten? d.params.kwonlyargs d.params.kw_defaults = some kwd)
    (said : PySem.Challenge.rw_stovework_k92_papers_written.row.wellSaid = true) (hw : PySem.Challenge.rw_stovework_k92_papers_written.row.toRowW.promised) (call : WalkO qv lo (XL qv []) YP PySem.Challenge.rw_stovework_k92_papers_written.row.toRowW d kwd fun f vs => PySem.call f vs) : PySem.Challenge.rw_stovework_k92_papers_written.row.Holds :=
  holds_open left hY hYk (fun s e => xl_of s (Bool.and_eq_true_iff.mp e).1) XL.keeps hd hp hk (fun s e => recFacts_of (Bool.and_eq_true_iff.mp e).2) rfl said (by decide +kernel) ⟨rfl, rfl, rfl, rfl, rfl, by decide +kernel⟩ hw call
end Lk92
namespace Lk92
open PySem PySem.W PyProof.Rows
set_option maxHeartbeats 0 in
theorem la : Ht.Look PySem.Challenge.pw_stovework_k92_papers_written 9512 (fun s₀ s₁ => Ht.chkT PySem.Challenge.pw_stovework_k92_papers_written s₀ s₁) (fun _ => true) := by
  intro w
  rw [PySem.W.Fast.te10274390034422433532, PySem.W.Fast.te14289696077712309145, PySem.W.Fast.te6613529449190102663, PySem.W.Fast.te10156331382660048174, PySem.W.Fast.te11892475500146522536, PySem.W.Fast.te14364793385576792824]
  kernel_rfl
set_option maxHeartbeats 0 in
theorem lb : Ht.Look PySem.Challenge.pw_stovework_k92_papers_written 9512 (fun _ s => openSeen qv lo (importedModules PySem.Challenge.pw_stovework_k92_papers_written.main.body) (fun s => xlAt qv [] s && recOk [] s) true s) (fun _ => openGood qv lo) := by
  intro w
  rw [PySem.W.Fast.te10274390034422433532, PySem.W.Fast.te14289696077712309145, PySem.W.Fast.te6613529449190102663, PySem.W.Fast.te10156331382660048174, PySem.W.Fast.te11892475500146522536, PySem.W.Fast.te14364793385576792824, PySem.W.Fast.te4187177175401517315]
  kernel_rfl
end Lk92
local macro_rules | `(tactic| o_head $H) => `(tactic| (refine Lk92.head (Yf := PySem.W.Hook.obs $H) (Ya := PySem.W.Hook.val $H) (YP := PySem.W.Hook.says $H) ?hl (PySem.W.Hook.of $H) (PySem.W.Hook.keeps $H) (by rfl) (by rfl) (by rfl) (by assumption) ?hw ?hc; (case hl => (refine Ht.left_of3 Lk92.la Lk92.lb ?c; (case c => (intro w; rw [PySem.W.Fast.te10274390034422433532, PySem.W.Fast.te14289696077712309145, PySem.W.Fast.te6613529449190102663, PySem.W.Fast.te10156331382660048174, PySem.W.Fast.te11892475500146522536, PySem.W.Fast.te14364793385576792824]; kernel_rfl))))))
namespace PySem.W.Fast
def tw8823403228537205372 : PySem.Program := PySem.Challenge.pw_stovework_k92_papers_written
theorem te8823403228537205372 : PySem.Challenge.pw_stovework_k92_papers_written = tw8823403228537205372 := rfl
end PySem.W.Fast
set_option maxHeartbeats 0 in
open_top Lk92.hd for PySem.Challenge.rw_stovework_k92_papers_written
set_option Elab.async false
set_option linter.all false
set_option maxRecDepth 100000
/-! THE HAND LAYER, for ints, bools, texts, own classes, LISTS and tuples (index, slices, in, append, pop ..), calls, loops. Paste it whole ahead of your own text; what your proof does not reach may be deleted. -/
namespace L2
open PySem PySem.Spec PyProof.Rows

/-- a key: an int or a str -/
abbrev Key := Sum Int Str
def keyIs : Key → Value → Bool
  | .inl k, v => Value.isInt k v
  | .inr x, v => Value.isStrOf x v
def keyH (w : World) : Key → Int
  | .inl k => hashInt k
  | .inr x => hashStr w x
theorem keyIs_shape : ∀ {k : Key} {v : Value}, keyIs k v = true → (∃ i t, k = Sum.inl i ∧ v = Value.int i t) ∨ (∃ x t, k = Sum.inr x ∧ v = Value.str x t)
  | .inl i, v, h => by
    obtain ⟨t, e⟩ := Value.isInt_shape (k := i) (v := v) h
    exact .inl ⟨i, t, rfl, e⟩
  | .inr x, v, h => by
    obtain ⟨t, e⟩ := Value.isStrOf_shape (x := x) (v := v) h
    exact .inr ⟨x, t, rfl, e⟩
theorem key_ll (a b : Int) : decide ((Sum.inl a : Key) = Sum.inl b) = (a == b) := by
  by_cases e : a = b
  · subst e; simp
  · have h : ¬ (Sum.inl a : Key) = Sum.inl b := fun q => e (Sum.inl.inj q)
    rw [decide_eq_false h]
    exact (beq_eq_false_iff_ne.mpr e).symm
theorem key_rr (a b : Str) : decide ((Sum.inr a : Key) = Sum.inr b) = decide (a = b) := by
  by_cases e : a = b
  · subst e; simp
  · have h : ¬ (Sum.inr a : Key) = Sum.inr b := fun q => e (Sum.inr.inj q)
    rw [decide_eq_false h, decide_eq_false e]
theorem key_lr (a : Int) (b : Str) : decide ((Sum.inl a : Key) = Sum.inr b) = false := decide_eq_false (fun q => nomatch q)
theorem key_rl (a : Str) (b : Int) : decide ((Sum.inr a : Key) = Sum.inl b) = false := decide_eq_false (fun q => nomatch q)

def mixKind (prog : Program) (w : World) : PySem.KeyKind prog w Key where
  is := keyIs
  hash := keyH w
  inj := fun v a b ha hb => by
    rcases keyIs_shape ha with ⟨i, t, rfl, rfl⟩ | ⟨x, t, rfl, rfl⟩
    · rcases keyIs_shape hb with ⟨j, u, rfl, e⟩ | ⟨y, u, rfl, e⟩
      · injection e with e1 _; rw [e1]
      · exact nomatch e
    · rcases keyIs_shape hb with ⟨j, u, rfl, e⟩ | ⟨y, u, rfl, e⟩
      · exact nomatch e
      · injection e with e1 _; rw [e1]
  byValue := fun k v h => by
    rcases keyIs_shape h with ⟨i, t, rfl, rfl⟩ | ⟨x, t, rfl, rfl⟩ <;> rfl
  pyHash := fun hv h => by
    rcases keyIs_shape hv with ⟨i, t, rfl, rfl⟩ | ⟨x, t, rfl, rfl⟩
    · exact wpAny_pyHash_int h
    · exact wpAny_pyHash_str h
  eqBool := fun hu hv h => by
    rcases keyIs_shape hu with ⟨i, t, rfl, rfl⟩ | ⟨x, t, rfl, rfl⟩
    · rcases keyIs_shape hv with ⟨j, u, rfl, rfl⟩ | ⟨y, u, rfl, rfl⟩
      · rw [key_ll] at h; exact wpAny_eqBool_int h
      · rw [key_lr] at h; exact SeqAt.EqAt.int_str i t y u _ _ _ _ h
    · rcases keyIs_shape hv with ⟨j, u, rfl, rfl⟩ | ⟨y, u, rfl, rfl⟩
      · rw [key_rl] at h; exact SeqAt.EqAt.str_int x t j u _ _ _ _ h
      · rw [key_rr] at h; exact wpAny_eqBool_str h
  «strs» := fun k x t v h => by
    rcases keyIs_shape h with ⟨i, u, rfl, e⟩ | ⟨y, u, rfl, e⟩
    · exact nomatch e
    · injection e with e1 _
      subst e1
      cases v <;> rfl

end L2

namespace L2
open PySem PySem.Spec PyProof.Rows

/-- a value, without the heap -/
inductive V where
  | non | bl (b : Bool) | int (i : Int) | str (x : Str) | byt (b : Array UInt8) | flt (b : UInt64) | ref (a : Addr) | ty (n : String)
  deriving DecidableEq

def RelV : V → Value → Prop
  | .non, u => u = Value.none
  | .bl b, u => u = Value.bool b
  | .int i, u => ∃ t, u = Value.int i t
  | .str x, u => ∃ t, u = Value.str x t
  | .byt b, u => ∃ t, u = Value.bytes b t
  | .flt b, u => ∃ t, u = Value.float b t
  | .ref a, u => u = Value.ref a
  | .ty n, u => u = Value.type n

abbrev Vals : List V → List Value → Prop := Paired RelV
theorem Vals.length {xs : List V} {us : List Value} (r : Vals xs us) : xs.length = us.length := Paired.length r
theorem Vals.get : ∀ {xs : List V} {us : List Value} {i : Nat} {x : V}, Vals xs us → xs[i]? = some x → ∃ u, us[i]? = some u ∧ RelV x u
  | _, _, _, _, .nil, e => by simp at e
  | _, _, 0, _, .cons r _, e => by simp at e; subst e; exact ⟨_, rfl, r⟩
  | _, _, i + 1, x, .cons _ t, e => by
    obtain ⟨u, h1, h2⟩ := Vals.get (i := i) (x := x) t (by simpa using e)
    exact ⟨u, by simpa using h1, h2⟩
theorem Vals.append : ∀ {xs ys : List V} {us ws : List Value}, Vals xs us → Vals ys ws → Vals (xs ++ ys) (us ++ ws)
  | _, _, _, _, .nil, s => s
  | _, _, _, _, .cons r t, s => .cons r (Vals.append t s)
theorem Vals.take : ∀ {xs : List V} {us : List Value} (n : Nat), Vals xs us → Vals (xs.take n) (us.take n)
  | _, _, 0, _ => .nil
  | _, _, _ + 1, .nil => .nil
  | _, _, n + 1, .cons r t => .cons r (Vals.take n t)
theorem Vals.drop : ∀ {xs : List V} {us : List Value} (n : Nat), Vals xs us → Vals (xs.drop n) (us.drop n)
  | _, _, 0, r => r
  | _, _, _ + 1, .nil => .nil
  | _, _, n + 1, .cons _ t => Vals.drop n t
def RelO : Option V → Option Value → Prop
  | some v, some u => RelV v u
  | none, none => True
  | _, _ => False
def KV {κ : Type} : List (κ × V) → List (κ × Value) → Prop := Paired fun (p : κ × V) (q : κ × Value) => p.1 = q.1 ∧ RelV p.2 q.2

/-- a key of a dict (00_mix): an int or a text -/
def kV : Key → V
  | .inl i => .int i
  | .inr x => .str x

/-- what stands at a tracked address -/
inductive HO where
  /-- a list -/
  | lst (xs : List V)
  /-- a tuple (never changes) -/
  | tup (xs : List V)
  /-- a dict whose keys are ints and texts; one whose keys are tuples of ints and texts (the empty one is both) -/
  | dK (kvs : List (Key × V)) | dT (kvs : List (List Key × V))
  /-- a set of ints: its members, its size -/
  | set (S : Int → Bool) (n : Nat)
  /-- an instance of the class at C, its dict at dx, its attributes -/
  | ins (C dx : Addr) (fs : List (Str × V))
  /-- the dict of the instance at x -/
  | own (x : Addr)
  /-- the dict of an exception -/
  | xd (fs : List (Str × V))
  /-- a bound method, f of x -/
  | met (f x : Addr)
  /-- a range object lo, lo + 1, .. below hi -/
  | rng (lo hi : Int)
  /-- a thing that is known to the object (the script; a dict while a loop walks it): read, never written while it is so -/
  | frz (o : Obj) (u : HO)
  /-- a code object's table -/
  | tbl (ps : Array Value)
  /-- any other thing, by what is true of its one object (a def of one's own: SetO a S n := HO.ext fun h => ..) -/
  | ext (φ : Heap → Prop)

abbrev Hp := Addr → Option HO
def upd (H : Hp) (a : Addr) (o : HO) : Hp := fun b => if b = a then some o else H b
theorem upd_same {H : Hp} {a : Addr} {o : HO} : upd H a o a = some o := by unfold upd; rw [if_pos rfl]
theorem upd_ne {H : Hp} {a b : Addr} {o : HO} (h : b ≠ a) : upd H a o b = H b := by unfold upd; rw [if_neg h]
/-- two objects of different content stand apart -/
theorem ne_of {H : Hp} {a b : Addr} {o u : HO} (h : H a = some o) (h' : H b = some u) (d : o ≠ u) : a ≠ b := by
  intro e; subst e; rw [h] at h'; exact d (Option.some.inj h')
theorem ne_of_none {H : Hp} {a b : Addr} {o : HO} (h : H a = some o) (h' : H b = none) : a ≠ b := by
  intro e; subst e; rw [h] at h'; cases h'

section
variable (P : Program) (w : World)
def ObjOk (H : Hp) (h : Heap) (a : Addr) : HO → Prop
  | .lst xs => xs.length ≤ sizeLine ∧ ∃ (its : List Value) (n : Nat), Vals xs its ∧ h.get? a = some { cls := .type "list", data := .seq its.toArray n }
  | .tup xs => xs.length ≤ sizeLine ∧ ∃ its : List Value, Vals xs its ∧ IsTup h a its.toArray
  | .dK kvs => kvs.length ≤ sizeLine ∧ (a == sysModules) = false ∧ ∃ vs, KV kvs vs ∧ h.DictOf (mixKind P w) a vs
  | .dT kvs => kvs.length ≤ sizeLine ∧ (a == sysModules) = false ∧ ∃ xs : List (List Key × Addr × Value),
      Paired (fun (p : List Key × V) (q : List Key × Addr × Value) => p.1 = q.1 ∧ H q.2.1 = some (.tup (p.1.map kV)) ∧ RelV p.2 q.2.2) kvs xs ∧
      ∃ o es ep, h.get? a = some o ∧ o.ExactDict ∧ o.data = .dict es ep ∧ es.toList = xs.map (entryOfKey (tupleKind (mixKind P w))) ∧ (xs.map (·.1)).Nodup
  | .set S n => h.SetOf (intKind P w) a S n
  | .ins C dx fs => H dx = some (.own a) ∧ fs.length ≤ 1000 ∧ dx ≠ a ∧ h.get? a = some (PySem.W.instObj C dx) ∧
      ∃ mA, h.Ns1 dx mA ∧ (∀ f, RelO (fs.lookup f) (mA f)) ∧ PySem.Within mA (fs.map (·.1))
  | .own _ => ∃ o, h.get? a = some o
  | .xd fs => ∃ mA, h.Ns1 a mA ∧ ∀ f, RelO (fs.lookup f) (mA f)
  | .rng lo hi => ∃ t u v, h.get? a = some { cls := .type "range", data := .fields #[.int lo t, .int hi u, .int 1 v] }
  | .frz o u => h.get? a = some o ∧ ObjOk H h a u
  | .tbl ps => h.get? a = some { cls := .none, data := .fields ps }
  | .met f x => h.get? a = some (PySem.W.methodObj (.ref f) (.ref x))
  | .ext φ => φ h ∧ (∃ o, h.get? a = some o) ∧ ∀ h1 h2 : Heap, φ h1 → (∀ o, h1.get? a = some o → h2.get? a = some o) → φ h2
/-- the abstract heap is held -/
def HOk (H : Hp) (h : Heap) : Prop := ∀ a o, H a = some o → ObjOk P w H h a o
end

section
variable {P : Program} {w : World} {H H' : Hp} {h h' : Heap} {a : Addr} {o : HO}
theorem ObjOk.lt (x : ObjOk P w H h a o) : a < h.objs.size := by
  cases o with
  | lst xs => obtain ⟨_, _, _, _, e⟩ := x; exact Heap.lt_size e
  | tup xs => obtain ⟨_, _, _, p⟩ := x; exact p.lt
  | dK kvs => obtain ⟨_, _, _, _, o, _, _, e, _⟩ := x; exact Heap.lt_size e
  | dT kvs => obtain ⟨_, _, _, _, o, _, _, e, _⟩ := x; exact Heap.lt_size e
  | set S n => obtain ⟨o, _, _, _, e, _⟩ := x; exact Heap.lt_size e
  | ins C dx fs => obtain ⟨_, _, _, e, _⟩ := x; exact Heap.lt_size e
  | own y => obtain ⟨_, e⟩ := x; exact Heap.lt_size e
  | xd fs => obtain ⟨_, ⟨_, _, _, e, _⟩, _⟩ := x; exact Heap.lt_size e
  | rng lo hi => obtain ⟨_, _, _, e⟩ := x; exact Heap.lt_size e
  | frz ob u => obtain ⟨e, _⟩ := x; exact Heap.lt_size e
  | tbl ps => exact Heap.lt_size (show h.get? a = some _ from x)
  | met f y => exact Heap.lt_size (show h.get? a = some _ from x)
  | ext φ => obtain ⟨_, ⟨_, e⟩, _⟩ := x; exact Heap.lt_size e
theorem Paired.mapP {α β : Type} {F G : α → β → Prop} : ∀ {l₁ : List α} {l₂ : List β}, Paired F l₁ l₂ → (∀ a b, F a b → G a b) → Paired G l₁ l₂
  | _, _, .nil, _ => .nil
  | _, _, .cons r t, f => .cons (f _ _ r) (Paired.mapP t f)
/-- what an object's description leans on: its own object, its own dict, the tuples -/
theorem ObjOk.stay (x : ObjOk P w H h a o) (k : ∀ b u, (b = a ∨ H b = some (.own a)) → h.get? b = some u → h'.get? b = some u)
    (ho : ∀ b, H b = some (.own a) → H' b = some (.own a)) (ht : ∀ b xs, H b = some (.tup xs) → H' b = some (.tup xs)) : ObjOk P w H' h' a o := by
  induction o with
  | lst xs => obtain ⟨z, its, n, r, e⟩ := x; exact ⟨z, its, n, r, k _ _ (.inl rfl) e⟩
  | tup xs => obtain ⟨z, its, r, ob, e, c⟩ := x; exact ⟨z, its, r, ob, k _ _ (.inl rfl) e, c⟩
  | dK kvs => obtain ⟨z, y, vs, r, ob, es, ep, e, c⟩ := x; exact ⟨z, y, vs, r, ob, es, ep, k _ _ (.inl rfl) e, c⟩
  | dT kvs =>
    obtain ⟨z, y, xs, r, ob, es, ep, e, c⟩ := x
    exact ⟨z, y, xs, Paired.mapP r fun p q z => ⟨z.1, ht _ _ z.2.1, z.2.2⟩, ob, es, ep, k _ _ (.inl rfl) e, c⟩
  | set S n => obtain ⟨ob, es, ep, t, e, c⟩ := x; exact ⟨ob, es, ep, t, k _ _ (.inl rfl) e, c⟩
  | ins C dx fs =>
    obtain ⟨d, z, ne, e, mA, ⟨od, es, ep, e2, c⟩, r⟩ := x
    exact ⟨ho _ d, z, ne, k _ _ (.inl rfl) e, mA, ⟨od, es, ep, k _ _ (.inr d) e2, c⟩, r⟩
  | own y => obtain ⟨ob, e⟩ := x; exact ⟨ob, k _ _ (.inl rfl) e⟩
  | xd fs => obtain ⟨mA, ⟨od, es, ep, e, c⟩, r⟩ := x; exact ⟨mA, ⟨od, es, ep, k _ _ (.inl rfl) e, c⟩, r⟩
  | rng lo hi => obtain ⟨t, u, v, e⟩ := x; exact ⟨t, u, v, k _ _ (.inl rfl) e⟩
  | frz ob u ih => obtain ⟨e, q⟩ := x; exact ⟨k _ _ (.inl rfl) e, ih q⟩
  | tbl ps =>
    have e : h.get? a = some { cls := .none, data := .fields ps } := x
    show h'.get? a = some { cls := .none, data := .fields ps }
    exact k a _ (.inl rfl) e
  | met f y =>
    have e : h.get? a = some (PySem.W.methodObj (.ref f) (.ref y)) := x
    show h'.get? a = some (PySem.W.methodObj (.ref f) (.ref y))
    exact k a _ (.inl rfl) e
  | ext φ => obtain ⟨p, ⟨o, e⟩, st⟩ := x; exact ⟨st _ _ p fun o q => k _ _ (.inl rfl) q, ⟨o, k _ _ (.inl rfl) e⟩, st⟩
theorem HOk.lt (x : HOk P w H h) (e : H a = some o) : a < h.objs.size := (x a o e).lt
theorem HOk.fresh (x : HOk P w H h) (e : h.objs.size ≤ a) : H a = none := by
  cases q : H a with
  | none => rfl
  | some u => exact absurd (Nat.lt_of_lt_of_le (x.lt q) e) (Nat.lt_irrefl _)
/-- every object of the heap is kept -/
theorem HOk.kept (x : HOk P w H h) (k : ∀ b u, h.get? b = some u → h'.get? b = some u) : HOk P w H h' := fun a o e =>
  (x a o e).stay (fun b u _ q => k b u q) (fun _ q => q) fun _ _ q => q
/-- a new object is laid and tracked -/
theorem HOk.laid (x : HOk P w H h) (k : ∀ b u, h.get? b = some u → h'.get? b = some u) (hp : h.objs.size ≤ a) (new : ObjOk P w (upd H a o) h' a o) : HOk P w (upd H a o) h' := fun b u e => by
  have hn := x.fresh hp
  by_cases hb : b = a
  · subst hb; rw [upd_same] at e; cases e; exact new
  · rw [upd_ne hb] at e
    exact (x b u e).stay (fun c v _ q => k c v q) (fun c q => by rw [upd_ne (ne_of_none q hn)]; exact q) fun c xs q => by rw [upd_ne (ne_of_none q hn)]; exact q
end

/-- what may be read as u: it is u, or a known u -/
def Rd (H : Hp) (a : Addr) (u : HO) : Prop := H a = some u ∨ ∃ o, H a = some (.frz o u)
theorem Rd.ok {P : Program} {w : World} {H : Hp} {h : Heap} {a : Addr} {u : HO} (r : Rd H a u) (x : HOk P w H h) : ObjOk P w H h a u := by
  rcases r with r | ⟨o, r⟩
  · exact x a u r
  · obtain ⟨_, q⟩ := x a _ r
    exact q
/-- what may be written -/
def Mut : Option HO → Prop
  | some (.lst _) => True
  | some (.dK _) => True
  | some (.dT _) => True
  | some (.set _ _) => True
  | some (.ins _ _ _) => True
  | some (.ext _) => True
  | _ => False
section
variable {P : Program} {w : World} {H : Hp} {h h' : Heap} {x e : Addr} {o' : HO}
/-- the object at e is changed: x itself, or the dict of the instance x -/
theorem HOk.write (ok : HOk P w H h) (mu : Mut (H x)) (he : e = x ∨ H e = some (.own x)) (k : ∀ b u, b ≠ e → h.get? b = some u → h'.get? b = some u) (heo : ∃ u, h'.get? e = some u)
    (new : ObjOk P w (upd H x o') h' x o') : HOk P w (upd H x o') h' := fun b u q => by
  have nown : ∀ c y, H c = some (.own y) → c ≠ x := fun c y r z => by subst z; rw [r] at mu; exact mu
  have ntup : ∀ c xs, H c = some (.tup xs) → c ≠ x := fun c xs r z => by subst z; rw [r] at mu; exact mu
  by_cases hb : b = x
  · subst hb; rw [upd_same] at q; cases q; exact new
  · rw [upd_ne hb] at q
    by_cases hbe : b = e
    · have q' : H b = some (.own x) := by
        rcases he with z | z
        · exact absurd (hbe.trans z) hb
        · rw [hbe]; exact z
      rw [q] at q'; cases q'
      obtain ⟨v, hv⟩ := heo
      exact ⟨v, by rw [hbe]; exact hv⟩
    · refine (ok b u q).stay (fun c v hc r => k c v ?_ r) (fun c r => by rw [upd_ne (nown c b r)]; exact r) fun c xs r => by rw [upd_ne (ntup c xs r)]; exact r
      rcases hc with rfl | hc
      · exact hbe
      · rintro rfl
        rcases he with z | z
        · exact nown c b hc z
        · rw [hc] at z; cases z; exact hb rfl
end

/-! ### kept unless tracked; of the frames at fs (the callers') the slots may change (an exception that passes writes there); of the records at ex (iterators) nothing is said -/
structure Un (fs ex : List Addr) (H H' : Hp) (h h' : Heap) : Prop where
  keep : ∀ b o, h.get? b = some o → H b = none → b ∉ fs → b ∉ ex → h'.get? b = some o
  slot : ∀ b o, h.get? b = some o → H b = none → b ∈ fs → b ∉ ex → ∃ sl, h'.get? b = some { o with slots := sl }
  free : ∀ b o, h.get? b = some o → H b = none → b ∉ ex → H' b = none
  there : ∀ b o, h.get? b = some o → b ∉ ex → ∃ o', h'.get? b = some o'
  tups : ∀ b xs, H b = some (.tup xs) → H' b = some (.tup xs)
  frzs : ∀ b o u, H b = some (.frz o u) → H' b = some (.frz o u)
  tbls : ∀ b ps, H b = some (.tbl ps) → ∃ more, H' b = some (.tbl (ps ++ more))
section
variable {fs fs' ex ex' : List Addr} {H H1 H2 : Hp} {h h1 h2 h' : Heap} {a x e : Addr} {o : HO}
theorem Un.any (u : Un fs ex H H1 h h1) {b : Addr} {ob : Obj} (q : h.get? b = some ob) (n : H b = none) (hx : b ∉ ex) : ∃ sl, h1.get? b = some { ob with slots := sl } := by
  by_cases hb : b ∈ fs
  · exact u.slot b ob q n hb hx
  · exact ⟨ob.slots, u.keep b ob q n hb hx⟩
theorem Un.trans (a : Un fs ex H H1 h h1) (b : Un fs ex H1 H2 h1 h2) : Un fs ex H H2 h h2 where
  keep := fun c ob q n hc hx => b.keep c ob (a.keep c ob q n hc hx) (a.free c ob q n hx) hc hx
  slot := fun c ob q n hc hx => by
    obtain ⟨sl, e1⟩ := a.slot c ob q n hc hx
    obtain ⟨sl', e2⟩ := b.slot c _ e1 (a.free c ob q n hx) hc hx
    exact ⟨sl', e2⟩
  free := fun c ob q n hx => by
    obtain ⟨o', e1⟩ := a.there c ob q hx
    exact b.free c o' e1 (a.free c ob q n hx) hx
  there := fun c ob q hx => by
    obtain ⟨o', e1⟩ := a.there c ob q hx
    exact b.there c o' e1 hx
  tups := fun c xs q => b.tups c xs (a.tups c xs q)
  frzs := fun c ob xs q => b.frzs c ob xs (a.frzs c ob xs q)
  tbls := fun c ps q => by
    obtain ⟨m1, e1⟩ := a.tbls c ps q
    obtain ⟨m2, e2⟩ := b.tbls c _ e1
    exact ⟨m1 ++ m2, by rw [e2, Array.append_assoc]⟩
theorem Un.kept (k : ∀ b u, h.get? b = some u → h'.get? b = some u) : Un fs ex H H h h' :=
  ⟨fun b ob q _ _ _ => k b ob q, fun b ob q _ _ _ => ⟨ob.slots, k b ob q⟩, fun _ _ _ n _ => n, fun b ob q _ => ⟨ob, k b ob q⟩, fun _ _ q => q, fun _ _ _ q => q, fun _ ps q => ⟨#[], by rw [q]; simp⟩⟩
theorem Un.refl : Un fs ex H H h h := Un.kept fun _ _ q => q
theorem Un.laid (k : ∀ b u, h.get? b = some u → h'.get? b = some u) (hp : h.objs.size ≤ a) (hn : H a = none) : Un fs ex H (upd H a o) h h' where
  keep := fun b u q _ _ _ => k b u q
  slot := fun b u q _ _ _ => ⟨u.slots, k b u q⟩
  free := fun b u q n _ => by rw [upd_ne (Nat.ne_of_lt (Nat.lt_of_lt_of_le (Heap.lt_size q) hp))]; exact n
  there := fun b u q _ => ⟨u, k b u q⟩
  tups := fun b xs q => by rw [upd_ne (ne_of_none q hn)]; exact q
  frzs := fun b u xs q => by rw [upd_ne (ne_of_none q hn)]; exact q
  tbls := fun b ps q => ⟨#[], by rw [upd_ne (ne_of_none q hn), q]; simp⟩
theorem Un.write (mu : Mut (H x)) (he : e = x ∨ H e = some (.own x)) (k : ∀ b u, b ≠ e → h.get? b = some u → h'.get? b = some u) (heo : ∃ u, h'.get? e = some u) : Un fs ex H (upd H x o) h h' := by
  have hx : ∀ b, H b = none → b ≠ x := fun b n z => by subst z; rw [n] at mu; exact mu
  have hb : ∀ b, H b = none → b ≠ e := fun b n z => by
    subst z
    rcases he with r | r
    · exact hx b n r
    · rw [n] at r; cases r
  have hm : ∀ b u, H b = some u → ¬ Mut (some u) → b ≠ x := fun b u q nm z => by subst z; rw [q] at mu; exact nm mu
  refine ⟨fun b u q n _ _ => k b u (hb b n) q, fun b u q n _ _ => ⟨u.slots, k b u (hb b n) q⟩, fun b u q n _ => by rw [upd_ne (hx b n)]; exact n, fun b u q _ => ?_,
    fun b xs q => by rw [upd_ne (hm b _ q fun z => z)]; exact q, fun b u xs q => by rw [upd_ne (hm b _ q fun z => z)]; exact q, fun b ps q => ⟨#[], by rw [upd_ne (hm b _ q fun z => z), q]; simp⟩⟩
  by_cases hbe : b = e
  · subst hbe; exact heo
  · exact ⟨u, k b u hbe q⟩
end

/-! ### the heap without what is tracked -/
def trk (h : Heap) (H : Hp) : List Addr := (List.range h.objs.size).filter fun a => (H a).isSome
def hidT (h : Heap) (H : Hp) : Heap := PySem.W.hideAll h (trk h H)
theorem hidT_size (h : Heap) (H : Hp) : (hidT h H).objs.size = h.objs.size := PySem.W.hideAll_size _ _
theorem hidT_get {h : Heap} {H : Hp} {b : Addr} {o : Obj} (e : h.get? b = some o) (n : H b = none) : (hidT h H).get? b = some o :=
  PySem.W.hideAll_get _ e fun hm => by
    have q : (H b).isSome = true := (List.mem_filter.mp hm).2
    rw [n] at q; simp at q
theorem of_hidT {h : Heap} {H : Hp} {b : Addr} {o : Obj} (e : (hidT h H).get? b = some o) : h.get? b = some o ∧ H b = none := by
  have e' : h.get? b = some o := PySem.W.of_hideAll (trk h H) e
  refine ⟨e', ?_⟩
  cases q : H b with
  | none => rfl
  | some x =>
    have hm : b ∈ trk h H := List.mem_filter.mpr ⟨List.mem_range.mpr (Heap.lt_size e'), by simp [q]⟩
    have z : (hidT h H).get? b = none := PySem.W.hideAll_none (trk h H) hm
    rw [z] at e; cases e

/-! ### OpenK's ledger, filled with every new object but one -/
end L2

namespace L2
open PySem PySem.Spec PyProof.Rows

/-- the module's facts, over the base: the heap at the law's entry without what is tracked there -/
structure Mod (K : PySem.W.Frag) (mg : Str → Option Value) (base : Heap) : Prop where
  kin : K.In base
  glob : base.Ns mainGlobals mg
  blt : ∃ mb, base.Ns builtinsNs mb ∧ ∀ x : Str, x ≠ "__name__" → mb x = bootBuiltins x
  nolimit : base.NoLimit

/-- the context: a def's body (or a comprehension's block) running. base: fixed through the whole law; s₀, H₀: the entry; outer: the frames whose slots others may change (a def's callers); stack: all frames that run;
   ex: iterators that were made ahead of the entry and are walked here (a comprehension's); fn: the names whose cells were made at the entry (a def: all; a comprehension's block: its own); calm: not within an except suite; pn: pins that every state bears; xe: what is wanted of an exception that leaves the code -/
structure Cx where
  prog : Program
  w : World
  K : PySem.W.Frag
  mg : Str → Option Value
  base : Heap
  A : Around
  N : List Str
  s₀ : Shared
  H₀ : Hp
  env : Env
  outer : List Env
  stack : List Env
  ex : List Addr
  fn : Str → Bool
  calm : Bool
  pn : List (Addr × Obj)
  xe : Value → Shared → Prop
/-- the callers' frames -/
def frs (l : List Env) : List Addr := l.filterMap (·.frame)
abbrev Cx.fs (X : Cx) : List Addr := frs X.outer

def Vis (sc : Scope) (x : Str) : Prop := sc.names.lookup x = some .local ∨ sc.names.lookup x = some .cell ∨ sc.names.lookup x = some .free
def Loc (sc : Scope) (x : Str) : Prop := sc.names.lookup x = some .local ∨ sc.names.lookup x = some .cell
def Look (env : Env) (h : Heap) (m : Str → Option Value) (x : Str) (u : Value) : Prop :=
  (env.kindOf x = some .local ∧ m x = some u) ∨ ((env.kindOf x = some .cell ∨ env.kindOf x = some .free) ∧ ∃ c, env.cells.lookup x = some c ∧ h.IsCell c (some u))

structure Cx.Ok (X : Cx) : Prop where
  mod : Mod X.K X.mg X.base
  kind : X.env.scope.kind = .function
  glob : X.env.globals = mainGlobals
  blt : X.env.builtins = builtinsNs
  above : X.s₀.heap.objs.size ≤ X.env.locals
  inj : ∀ x y c, X.env.cells.lookup x = some c → X.env.cells.lookup y = some c → x = y
  has : ∀ x, (X.env.kindOf x = some .cell ∨ X.env.kindOf x = some .free) → ∃ c, X.env.cells.lookup x = some c
  cab : ∀ x c, X.fn x = true → X.env.cells.lookup x = some c → X.s₀.heap.objs.size ≤ c
  hd : X.calm = true → X.A.handled = none
  frames : X.A.frames = some X.stack
  stk : X.stack = X.outer ∨ (X.stack = X.env :: X.outer ∧ X.env.frame = some X.env.locals)
  exf : ∀ b ∈ X.ex, b ≠ X.env.locals ∧ ∀ x c, X.env.cells.lookup x = some c → c ≠ b
  bs : ∀ b o, X.base.get? b = some o → X.s₀.heap.get? b = some o ∧ X.H₀ b = none
  bsz : X.base.objs.size ≤ X.s₀.heap.objs.size
  noex : ∀ b o, X.base.get? b = some o → b ∉ X.ex
  exfs : ∀ b ∈ X.ex, b ∉ X.fs
  funs : X.s₀.heap.FunFrames X.base X.outer
  frf : ∀ b ∈ X.fs, X.H₀ b = none

structure Inv (X : Cx) (pins : List (Addr × Obj)) (σ : List (Option V)) (H : Hp) (s : Shared) : Prop where
  ok : X.Ok
  os : s.os = X.s₀.os
  bare : AllBare s.gens
  base : Un X.fs X.ex X.H₀ H X.s₀.heap s.heap
  loc : ∃ m, s.heap.Ns X.env.locals m ∧ ∀ (i : Nat) (x : Str) (v : V), X.N[i]? = some x → σ[i]? = some (some v) → Vis X.env.scope x → ∃ u, RelV v u ∧ Look X.env s.heap m x u
  cell : ∀ x c, X.env.cells.lookup x = some c → ∃ v, s.heap.IsCell c v
  free : H X.env.locals = none
  freeC : ∀ x c, X.env.cells.lookup x = some c → H c = none
  pin : ∀ p ∈ X.pn ++ pins, s.heap.get? p.1 = some p.2 ∧ H p.1 = none ∧ p.1 ≠ X.env.locals ∧ p.1 ∉ X.fs ∧ ∀ v, p.2.data ≠ .cell v
  hok : HOk X.prog X.w H s.heap
  len : σ.length = X.N.length

section
variable {X : Cx} {pins : List (Addr × Obj)} {σ : List (Option V)} {H H' : Hp} {s : Shared} {h' : Heap}

theorem Cx.Ok.nofr (ok : X.Ok) {b : Addr} {o : Obj} (e : X.base.get? b = some o) : b ∉ X.fs := fun hb => by
  have := (ok.funs.mem hb).1
  rw [e] at this; cases this
theorem Inv.bs (I : Inv X pins σ H s) : ∀ b o, X.base.get? b = some o → s.heap.get? b = some o ∧ H b = none := fun b o e =>
  ⟨I.base.keep b o (I.ok.bs b o e).1 (I.ok.bs b o e).2 (I.ok.nofr e) (I.ok.noex b o e), I.base.free b o (I.ok.bs b o e).1 (I.ok.bs b o e).2 (I.ok.noex b o e)⟩
theorem Inv.bk (I : Inv X pins σ H s) : ∀ b o, X.base.get? b = some o → s.heap.get? b = some o := fun b o e => (I.bs b o e).1
theorem Inv.mod (I : Inv X pins σ H s) : Mod X.K X.mg X.base := I.ok.mod
theorem Inv.kIn (I : Inv X pins σ H s) : X.K.In s.heap := I.ok.mod.kin.keeps I.bk
theorem Inv.lt (I : Inv X pins σ H s) : X.env.locals < s.heap.objs.size := let ⟨_, hn, _⟩ := I.loc; hn.lt
theorem Inv.sz (I : Inv X pins σ H s) : X.s₀.heap.objs.size ≤ s.heap.objs.size := Nat.le_trans I.ok.above (Nat.le_of_lt I.lt)
theorem Inv.nofs (I : Inv X pins σ H s) {a : Addr} (h : s.heap.objs.size ≤ a) : a ∉ X.fs := fun hb => by
  obtain ⟨_, o, ho, _⟩ := I.ok.funs.mem hb
  exact absurd (Nat.lt_of_lt_of_le (Heap.lt_size ho) (Nat.le_trans I.sz h)) (Nat.lt_irrefl _)
theorem Inv.cne (I : Inv X pins σ H s) : ∀ x c, X.env.cells.lookup x = some c → c ≠ X.env.locals := fun x c e z => by
  obtain ⟨v, o, ho, hd⟩ := I.cell x c e
  obtain ⟨m, ⟨o', es, ep, ho', hd', _⟩, _⟩ := I.loc
  rw [z, ho'] at ho; cases ho; rw [hd'] at hd; cases hd
theorem Inv.funs (I : Inv X pins σ H s) : s.heap.FunFrames X.base X.outer := by
  have all : ∀ (l : List Env), (∀ b ∈ frs l, b ∈ X.fs) → X.s₀.heap.FunFrames X.base l → s.heap.FunFrames X.base l := by
    intro l
    induction l with
    | nil => intro _ _; trivial
    | cons env r ih =>
      intro hs hl
      obtain ⟨hk, ⟨L, o, hf, hn, ho, hd⟩, hr⟩ := hl
      have hL : L ∈ X.fs := hs L (by unfold frs; rw [List.filterMap_cons, hf]; exact List.mem_cons_self)
      obtain ⟨sl, e⟩ := I.base.slot L o ho (I.ok.frf L hL) hL fun z => I.ok.exfs L z hL
      exact ⟨hk, ⟨L, _, hf, hn, e, hd⟩, ih (fun b hb => hs b (by unfold frs; rw [List.filterMap_cons, hf]; exact List.mem_cons_of_mem _ hb)) hr⟩
  exact all X.outer (fun _ hb => hb) I.ok.funs

/-- the frames that run, for a call -/
theorem Inv.stack (I : Inv X pins σ H s) : s.heap.FunFrames X.base X.stack := by
  rcases I.ok.stk with e | ⟨e, hf⟩
  · rw [e]; exact I.funs
  · rw [e]
    obtain ⟨m, hn, _⟩ := I.loc
    refine .cons (by rw [I.ok.kind]; decide) hf hn ?_ I.funs
    exact Heap.get?_none_of_le (Nat.le_trans I.ok.bsz I.ok.above)
theorem Inv.stkSub (I : Inv X pins σ H s) : ∀ b ∈ frs X.stack, b ∈ X.env.locals :: X.fs := fun b hb => by
  rcases I.ok.stk with e | ⟨e, hf⟩
  · rw [e] at hb; exact List.mem_cons_of_mem _ hb
  · rw [e] at hb
    unfold frs at hb
    rw [List.filterMap_cons, hf] at hb
    exact hb
theorem Inv.stkFree (I : Inv X pins σ H s) : ∀ b ∈ frs X.stack, H b = none := fun b hb => by
  rcases List.mem_cons.mp (I.stkSub b hb) with e | hb
  · rw [e]; exact I.free
  · obtain ⟨_, o, ho, _⟩ := I.ok.funs.mem hb
    exact I.base.free b o ho (I.ok.frf b hb) fun z => I.ok.exfs b z hb

/-- THE STEP: the untracked objects but the frame and the records at ch are kept (the callers' frames up to slots), the frame's map is kept, the new abstract heap is held -/
theorem Inv.step {g' : Array GenState} {t' : Nat} {d' : Drawn} {ch : List Addr} (I : Inv X pins σ H s)
    (hch : ∀ b ∈ ch, (b ∈ X.ex ∨ X.s₀.heap.objs.size ≤ b) ∧ b ≠ X.env.locals ∧ (∀ x c, X.env.cells.lookup x = some c → c ≠ b) ∧ ∀ p ∈ X.pn ++ pins, p.1 ≠ b)
    (keep : ∀ b o, b ≠ X.env.locals → b ∉ X.fs → b ∉ ch → s.heap.get? b = some o → H b = none → h'.get? b = some o)
    (slot : ∀ b o, b ≠ X.env.locals → b ∈ X.fs → b ∉ ch → s.heap.get? b = some o → H b = none → ∃ sl, h'.get? b = some { o with slots := sl }) (free : ∀ b o, b ∉ ch → s.heap.get? b = some o → H b = none → H' b = none)
    (there : ∀ b o, b ∉ ch → s.heap.get? b = some o → ∃ o', h'.get? b = some o')
    (tups : ∀ b xs, H b = some (.tup xs) → H' b = some (.tup xs)) (frzs : ∀ b o u, H b = some (.frz o u) → H' b = some (.frz o u)) (tbls : ∀ b ps, H b = some (.tbl ps) → ∃ more, H' b = some (.tbl (ps ++ more)))
    (ns : ∀ m, s.heap.Ns X.env.locals m → h'.Ns X.env.locals m) (hok : HOk X.prog X.w H' h') (hg : AllBare g') :
    Inv X pins σ H' { s with heap := h', gens := g', drawn := d', toks := t' } := by
  have neL : ∀ b o, X.s₀.heap.get? b = some o → b ≠ X.env.locals := fun b o e => Nat.ne_of_lt (Nat.lt_of_lt_of_le (Heap.lt_size e) I.ok.above)
  have neC : ∀ b o, X.s₀.heap.get? b = some o → b ∉ X.ex → b ∉ ch := fun b o e hx hb => by
    rcases (hch b hb).1 with z | z
    · exact hx z
    · exact absurd (Nat.lt_of_lt_of_le (Heap.lt_size e) z) (Nat.lt_irrefl _)
  have cellK : ∀ x c, X.env.cells.lookup x = some c → ∀ v, s.heap.IsCell c v → h'.IsCell c v := fun x c e v ⟨o, ho, hd⟩ => by
    have nch : c ∉ ch := fun z => (hch c z).2.2.1 x c e rfl
    by_cases hc : c ∈ X.fs
    · obtain ⟨sl, q⟩ := slot c o (I.cne x c e) hc nch ho (I.freeC x c e)
      exact ⟨_, q, hd⟩
    · exact ⟨o, keep c o (I.cne x c e) hc nch ho (I.freeC x c e), hd⟩
  refine ⟨I.ok, I.os, hg, ⟨fun b o e n hb hx => ?_, fun b o e n hb hx => ?_, fun b o e n hx => ?_, fun b o e hx => ?_, fun b xs e => tups b xs (I.base.tups b xs e), fun b o xs e => frzs b o xs (I.base.frzs b o xs e), fun b ps e => ?_⟩, ?_, fun x c e => ?_, ?_, fun x c e => ?_, fun p hp => ?_, hok, I.len⟩
  · exact keep b o (neL b o e) hb (neC b o e hx) (I.base.keep b o e n hb hx) (I.base.free b o e n hx)
  · obtain ⟨sl, e1⟩ := I.base.slot b o e n hb hx
    obtain ⟨sl', e2⟩ := slot b _ (neL b o e) hb (neC b o e hx) e1 (I.base.free b o e n hx)
    exact ⟨sl', e2⟩
  · obtain ⟨o', e1⟩ := I.base.there b o e hx
    exact free b o' (neC b o e hx) e1 (I.base.free b o e n hx)
  · obtain ⟨o', e1⟩ := I.base.there b o e hx
    exact there b o' (neC b o e hx) e1
  · obtain ⟨m1, e1⟩ := I.base.tbls b ps e
    obtain ⟨m2, e2⟩ := tbls b _ e1
    exact ⟨m1 ++ m2, by rw [e2, Array.append_assoc]⟩
  · obtain ⟨m, hn, hl⟩ := I.loc
    refine ⟨m, ns m hn, fun i x v e1 e2 e3 => ?_⟩
    obtain ⟨u, r, l⟩ := hl i x v e1 e2 e3
    refine ⟨u, r, ?_⟩
    rcases l with l | ⟨k, c, e, z⟩
    · exact .inl l
    · exact .inr ⟨k, c, e, cellK x c e _ z⟩
  · obtain ⟨v, z⟩ := I.cell x c e
    exact ⟨v, cellK x c e v z⟩
  · obtain ⟨m, ⟨o, _, _, ho, _⟩, _⟩ := I.loc
    exact free _ o (fun z => (hch _ z).2.1 rfl) ho I.free
  · obtain ⟨v, o, ho, hd⟩ := I.cell x c e
    exact free c o (fun z => (hch c z).2.2.1 x c e rfl) ho (I.freeC x c e)
  · obtain ⟨e, n, ne, nf, d⟩ := I.pin p hp
    have nch : p.1 ∉ ch := fun z => (hch p.1 z).2.2.2 p hp rfl
    exact ⟨keep p.1 p.2 ne nf nch e n, free p.1 p.2 nch e n, ne, nf, d⟩
/-- .. where the frame's own object is kept too -/
theorem Inv.un {t' : Nat} (I : Inv X pins σ H s) (u : Un X.fs [] H H' s.heap h') (hok : HOk X.prog X.w H' h') : Inv X pins σ H' { s with heap := h', toks := t' } := by
  obtain ⟨m, ⟨o, es, ep, ho, r⟩, _⟩ := id I.loc
  obtain ⟨sl, hL⟩ := u.any ho I.free (by simp)
  exact I.step (g' := s.gens) (d' := s.drawn) (ch := []) (fun _ z => nomatch z) (fun b o _ hb _ e n => u.keep b o e n hb (by simp)) (fun b o _ hb _ e n => u.slot b o e n hb (by simp)) (fun b o _ e n => u.free b o e n (by simp)) (fun b o _ e => u.there b o e (by simp)) u.tups u.frzs u.tbls (fun m' hm => by
    obtain ⟨o', es', ep', ho', r'⟩ := hm
    rw [ho] at ho'; cases ho'
    exact ⟨_, es', ep', hL, r'⟩) hok I.bare
/-- behind a call (or a comprehension's block): the slots of this frame may have changed too, the records at ch may have turned -/
theorem Inv.call {g' : Array GenState} {t' : Nat} {d' : Drawn} {ch : List Addr} (I : Inv X pins σ H s) (u : Un (frs X.stack) ch H H' s.heap h') (hok : HOk X.prog X.w H' h') (hg : AllBare g')
    (hch : ∀ b ∈ ch, (b ∈ X.ex ∨ X.s₀.heap.objs.size ≤ b) ∧ b ≠ X.env.locals ∧ (∀ x c, X.env.cells.lookup x = some c → c ≠ b) ∧ ∀ p ∈ X.pn ++ pins, p.1 ≠ b) :
    Inv X pins σ H' { s with heap := h', gens := g', drawn := d', toks := t' } := by
  obtain ⟨m, ⟨o, es, ep, ho, r⟩, _⟩ := id I.loc
  obtain ⟨sl, hL⟩ := u.any ho I.free fun z => (hch _ z).2.1 rfl
  exact I.step (ch := ch) hch (fun b o hL hb hc e n => u.keep b o e n (fun z => (List.mem_cons.mp (I.stkSub b z)).elim hL hb) hc) (fun b o _ _ hc e n => u.any e n hc) (fun b o hc e n => u.free b o e n hc) (fun b o hc e => u.there b o e hc) u.tups u.frzs u.tbls (fun m' hm => by
    obtain ⟨o', es', ep', ho', r'⟩ := hm
    rw [ho] at ho'; cases ho'
    exact ⟨_, es', ep', hL, r'⟩) hok hg
/-- an untracked record of ours (an iterator) has turned -/
theorem Inv.turned {t' : Nat} {it : Addr} (I : Inv X pins σ H s) (k : ∀ b o, b ≠ it → s.heap.get? b = some o → h'.get? b = some o) (hn : H it = none) (hL : it ≠ X.env.locals)
    (h1 : it ∈ X.ex ∨ X.s₀.heap.objs.size ≤ it) (h2 : ∀ x c, X.env.cells.lookup x = some c → c ≠ it) (h3 : ∀ p ∈ X.pn ++ pins, p.1 ≠ it) : Inv X pins σ H { s with heap := h', toks := t' } := by
  have nit : ∀ b u, H b = some u → b ≠ it := fun b u e z => by rw [z, hn] at e; cases e
  refine I.step (g' := s.gens) (d' := s.drawn) (ch := [it]) (fun b hb => ?_) (fun b o _ _ hc e _ => k b o (fun z => hc (by simp [z])) e) (fun b o _ _ hc e _ => ⟨o.slots, k b o (fun z => hc (by simp [z])) e⟩) (fun _ _ _ _ n => n)
    (fun b o hc e => ⟨o, k b o (fun z => hc (by simp [z])) e⟩) (fun _ _ e => e) (fun _ _ _ e => e) (fun b ps e => ⟨#[], by rw [e]; simp⟩) (fun m hm => ?_) (fun b u e => ?_) I.bare
  · have e : b = it := by simpa using hb
    subst e
    exact ⟨h1, hL, h2, h3⟩
  · obtain ⟨o, es, ep, ho, r⟩ := hm
    exact ⟨o, es, ep, k _ o (Ne.symm hL) ho, r⟩
  · refine (I.hok b u e).stay (fun c v hc q => k c v ?_ q) (fun _ q => q) fun _ _ q => q
    rcases hc with z | z
    · rw [z]; exact nit b u e
    · exact nit c _ z
theorem Inv.tok (I : Inv X pins σ H s) (t : Nat) : Inv X pins σ H { s with toks := t } := I.un (h' := s.heap) (t' := t) Un.refl I.hok
/-- all objects kept -/
theorem Inv.kept {t' : Nat} (I : Inv X pins σ H s) (k : ∀ b u, s.heap.get? b = some u → h'.get? b = some u) : Inv X pins σ H { s with heap := h', toks := t' } := I.un (Un.kept k) (I.hok.kept k)
/-- a new object laid and tracked -/
theorem Inv.laid {a : Addr} {o : HO} {t' : Nat} (I : Inv X pins σ H s) (k : ∀ b u, s.heap.get? b = some u → h'.get? b = some u) (hp : s.heap.objs.size ≤ a) (new : ObjOk X.prog X.w (upd H a o) h' a o) :
    Inv X pins σ (upd H a o) { s with heap := h', toks := t' } := I.un (Un.laid k hp (I.hok.fresh hp)) (I.hok.laid k hp new)
/-- an object written -/
theorem Inv.write {x e : Addr} {o : HO} {t' : Nat} (I : Inv X pins σ H s) (mu : Mut (H x)) (he : e = x ∨ H e = some (.own x)) (k : ∀ b u, b ≠ e → s.heap.get? b = some u → h'.get? b = some u) (heo : ∃ u, h'.get? e = some u)
    (new : ObjOk X.prog X.w (upd H x o) h' x o) : Inv X pins σ (upd H x o) { s with heap := h', toks := t' } := I.un (Un.write mu he k heo) (I.hok.write mu he k heo new)
theorem Inv.pins_of {pins' : List (Addr × Obj)} (I : Inv X pins σ H s) (h : ∀ p ∈ pins', s.heap.get? p.1 = some p.2 ∧ H p.1 = none ∧ p.1 ≠ X.env.locals ∧ p.1 ∉ X.fs ∧ ∀ v, p.2.data ≠ .cell v) : Inv X pins' σ H s :=
  ⟨I.ok, I.os, I.bare, I.base, I.loc, I.cell, I.free, I.freeC, fun p hp => (List.mem_append.mp hp).elim (fun z => I.pin p (List.mem_append_left _ z)) (h p), I.hok, I.len⟩

theorem nodup_ix {N : List Str} (hN : N.Nodup) {i j : Nat} {x : Str} (a : N[i]? = some x) (b : N[j]? = some x) : i = j := by
  obtain ⟨h1, e1⟩ := List.getElem?_eq_some_iff.mp a
  obtain ⟨h2, e2⟩ := List.getElem?_eq_some_iff.mp b
  exact (List.getElem_inj hN).mp (e1.trans e2.symm)

/-- a name is stored; what changed -/
theorem store_ok2 {M : Model} {A : Around} {E : Value → Shared → Prop} {i : Nat} {x : Str} {v : V} {u : Value} {Q : Unit → Shared → Prop} (I : Inv X pins σ H s) (hN : X.N.Nodup) (hi : X.N[i]? = some x) (hx : Loc X.env.scope x) (r : RelV v u)
    (h : ∀ s', Inv X pins (σ.set i (some v)) H s' → (∃ a, Heap.SameBut a s.heap s'.heap ∧ (a = X.env.locals ∨ X.env.cells.lookup x = some a)) → Q () s') (hf : X.fn x = true ∨ X.env.scope.names.lookup x = some .local := by first | exact .inl rfl | exact .inr rfl | assumption) : wpAny M A (storeName X.env x u) Q E s := by
  obtain ⟨m, hn, hl⟩ := id I.loc
  have hcls : (X.env.scope.kind == .class || (X.env.scope.kind == .module && X.env.locals != X.env.globals)) = false := by rw [I.ok.kind]; rfl
  have hiσ : i < σ.length := by rw [I.len]; exact (List.getElem?_eq_some_iff.mp hi).1
  have cne := I.cne
  have tracked : ∀ {a : Addr} {h' : Heap}, (∃ o, s.heap.get? a = some o ∧ H a = none) → Heap.SameBut a s.heap h' → HOk X.prog X.w H h' := fun {a h'} ha hs b ob e => by
    obtain ⟨_, _, hfree⟩ := ha
    refine (I.hok b ob e).stay (fun c w' hc q => (hs.2 c ?_).trans q) (fun _ q => q) fun _ _ q => q
    rintro rfl
    rcases hc with rfl | hc
    · rw [hfree] at e; cases e
    · rw [hfree] at hc; cases hc
  rcases hx with hk | hk
  · refine wpAny_storeName_local hk hn (fun h' hn' hs => ?_) hcls
    obtain ⟨oL, _, _, hoL, _⟩ := id hn
    refine h _ ⟨I.ok, I.os, I.bare, ⟨fun b o e n hb hx => ?_, fun b o e n hb hx => ?_, I.base.free, fun b o e hx => ?_, I.base.tups, I.base.frzs, I.base.tbls⟩, ⟨_, hn', fun j y v' e1 e2 e3 => ?_⟩, fun y c e => ?_, I.free, I.freeC, fun p hp => ?_, tracked ⟨oL, hoL, I.free⟩ hs, by simpa using I.len⟩ ⟨_, hs, .inl rfl⟩
    · exact (hs.2 b (Nat.ne_of_lt (Nat.lt_of_lt_of_le (Heap.lt_size e) I.ok.above))).trans (I.base.keep b o e n hb hx)
    · obtain ⟨sl, e1⟩ := I.base.slot b o e n hb hx
      exact ⟨sl, (hs.2 b (Nat.ne_of_lt (Nat.lt_of_lt_of_le (Heap.lt_size e) I.ok.above))).trans e1⟩
    · obtain ⟨o', e1⟩ := I.base.there b o e hx
      exact ⟨o', (hs.2 b (Nat.ne_of_lt (Nat.lt_of_lt_of_le (Heap.lt_size e) I.ok.above))).trans e1⟩
    · by_cases hj : j = i
      · subst hj
        rw [hi] at e1; cases e1
        rw [List.getElem?_set_self hiσ] at e2
        cases e2
        exact ⟨u, r, .inl ⟨hk, by simp⟩⟩
      · rw [List.getElem?_set_ne (Ne.symm hj)] at e2
        obtain ⟨u', r', q⟩ := hl j y v' e1 e2 e3
        refine ⟨u', r', ?_⟩
        rcases q with ⟨k, e⟩ | ⟨k, c, e, z⟩
        · refine .inl ⟨k, ?_⟩
          have : y ≠ x := fun e => hj (nodup_ix hN e1 (e ▸ hi))
          simp [this, e]
        · exact .inr ⟨k, c, e, z.sameBut hs (cne y c e)⟩
    · obtain ⟨w', z⟩ := I.cell y c e
      exact ⟨w', z.sameBut hs (cne y c e)⟩
    · obtain ⟨e, n, ne, nf, d⟩ := I.pin p hp
      exact ⟨(hs.2 p.1 ne).trans e, n, ne, nf, d⟩
  · have hfn : X.fn x = true := by
      rcases hf with z | z
      · exact z
      · rw [z] at hk; cases hk
    obtain ⟨c, hc⟩ := I.ok.has x (.inl hk)
    obtain ⟨w', z⟩ := I.cell x c hc
    refine wpAny_storeName_cell I.ok.kind hk hc z (fun h' hc' hs => ?_)
    obtain ⟨oc, hoc, hocd⟩ := id z
    refine h { s with heap := h' } ⟨I.ok, I.os, I.bare, ⟨fun b o e n hb hx => ?_, fun b o e n hb hx => ?_, I.base.free, fun b o e hx => ?_, I.base.tups, I.base.frzs, I.base.tbls⟩, ⟨m, hn.sameBut hs (Ne.symm (cne x c hc)), fun j y v' e1 e2 e3 => ?_⟩, fun y c' e => ?_, I.free, I.freeC, fun p hp => ?_, tracked ⟨oc, hoc, I.freeC x c hc⟩ hs, by simpa using I.len⟩ ⟨c, hs, .inr hc⟩
    · exact (hs.2 b (Nat.ne_of_lt (Nat.lt_of_lt_of_le (Heap.lt_size e) (I.ok.cab x c hfn hc)))).trans (I.base.keep b o e n hb hx)
    · obtain ⟨sl, e1⟩ := I.base.slot b o e n hb hx
      exact ⟨sl, (hs.2 b (Nat.ne_of_lt (Nat.lt_of_lt_of_le (Heap.lt_size e) (I.ok.cab x c hfn hc)))).trans e1⟩
    · obtain ⟨o', e1⟩ := I.base.there b o e hx
      exact ⟨o', (hs.2 b (Nat.ne_of_lt (Nat.lt_of_lt_of_le (Heap.lt_size e) (I.ok.cab x c hfn hc)))).trans e1⟩
    · by_cases hj : j = i
      · subst hj
        rw [hi] at e1; cases e1
        rw [List.getElem?_set_self hiσ] at e2
        cases e2
        exact ⟨u, r, .inr ⟨.inl hk, c, hc, hc'⟩⟩
      · rw [List.getElem?_set_ne (Ne.symm hj)] at e2
        obtain ⟨u', r', q⟩ := hl j y v' e1 e2 e3
        refine ⟨u', r', ?_⟩
        rcases q with q | ⟨k, c', e, z'⟩
        · exact .inl q
        · refine .inr ⟨k, c', e, z'.sameBut hs ?_⟩
          rintro rfl
          exact hj (nodup_ix hN e1 (I.ok.inj _ _ _ e hc ▸ hi))
    · by_cases hcc : c' = c
      · subst hcc; exact ⟨_, hc'⟩
      · obtain ⟨w2, z2⟩ := I.cell y c' e
        exact ⟨w2, z2.sameBut hs hcc⟩
    · obtain ⟨e, n, ne, nf, d⟩ := I.pin p hp
      refine ⟨(hs.2 p.1 ?_).trans e, n, ne, nf, d⟩
      intro q
      rw [q, hoc] at e
      have q' : oc = p.2 := Option.some.inj e
      exact d w' (by rw [← q']; exact hocd)
theorem store_ok {M : Model} {A : Around} {E : Value → Shared → Prop} {i : Nat} {x : Str} {v : V} {u : Value} {Q : Unit → Shared → Prop} (I : Inv X pins σ H s) (hN : X.N.Nodup) (hi : X.N[i]? = some x) (hx : Loc X.env.scope x) (r : RelV v u)
    (h : ∀ s', Inv X pins (σ.set i (some v)) H s' → Q () s') (hf : X.fn x = true ∨ X.env.scope.names.lookup x = some .local := by first | exact .inl rfl | exact .inr rfl | assumption) : wpAny M A (storeName X.env x u) Q E s :=
  store_ok2 I hN hi hx r (fun s' I' _ => h s' I') hf
/-- behind a call or a block, the state as it is -/
theorem Inv.call' {s' : Shared} {ch : List Addr} (I : Inv X pins σ H s) (ho : s'.os = s.os) (u : Un (frs X.stack) ch H H' s.heap s'.heap) (hok : HOk X.prog X.w H' s'.heap) (hg : AllBare s'.gens)
    (hch : ∀ b ∈ ch, (b ∈ X.ex ∨ X.s₀.heap.objs.size ≤ b) ∧ b ≠ X.env.locals ∧ (∀ x c, X.env.cells.lookup x = some c → c ≠ b) ∧ ∀ p ∈ X.pn ++ pins, p.1 ≠ b) : Inv X pins σ H' s' := by
  obtain ⟨h', g', d', t', o'⟩ := s'
  have e : o' = s.os := ho
  subst e
  exact I.call (g' := g') (t' := t') (d' := d') u hok hg hch
end

/-! ### the judgements -/
/-- an exception: its class, its own dict's address (where it has one), the abstract heap behind it -/
abbrev XK := Value → Option Addr → Hp → Prop
abbrev St := List (Option V)
abbrev VK := V → Hp → Prop
/-- an expression's reading; a test's; an argument list's -/
abbrev TE := St → Hp → VK → Prop
abbrev TT := St → Hp → (Bool → Hp → Prop) → Prop
abbrev TA := St → Hp → (List V → Hp → Prop) → Prop
/-- what is wanted behind a statement -/
structure Ends where
  nx : St → Hp → Prop
  rt : VK
  bk : St → Hp → Prop := fun _ _ => False
  ct : St → Hp → Prop := fun _ _ => False
abbrev TS := Ends → St → Hp → Prop

def EP (X : Cx) (pins : List (Addr × Obj)) (σ : St) (Q : VK) (u : Value) (s' : Shared) : Prop := ∃ v H', Inv X pins σ H' s' ∧ RelV v u ∧ Q v H'
def TP (X : Cx) (pins : List (Addr × Obj)) (σ : St) (Q : Bool → Hp → Prop) (b : Bool) (s' : Shared) : Prop := ∃ H', Inv X pins σ H' s' ∧ Q b H'
def AP (X : Cx) (pins : List (Addr × Obj)) (σ : St) (Q : List V → Hp → Prop) (us : List Value) (s' : Shared) : Prop := ∃ vs H', Inv X pins σ H' s' ∧ Vals vs us ∧ Q vs H'
def SP (X : Cx) (pins : List (Addr × Obj)) (D : Ends) (f : Flow) (s' : Shared) : Prop :=
  match f with
  | .next => ∃ σ' H', Inv X pins σ' H' s' ∧ D.nx σ' H'
  | .brk => ∃ σ' H', Inv X pins σ' H' s' ∧ D.bk σ' H'
  | .cont => ∃ σ' H', Inv X pins σ' H' s' ∧ D.ct σ' H'
  | .ret u => ∃ v σ' H', Inv X pins σ' H' s' ∧ RelV v u ∧ D.rt v H'

def PE (X : Cx) (e : Expr) (t : TE) : Prop :=
  ∀ (pins : List (Addr × Obj)) (s : Shared) (σ : St) (H : Hp) (Q : VK), Inv X pins σ H s → t σ H Q → wpAny (model X.prog X.w) X.A (eval e X.env) (EP X pins σ Q) X.xe s
def PT (X : Cx) (e : Expr) (t : TT) : Prop :=
  ∀ (pins : List (Addr × Obj)) (s : Shared) (σ : St) (H : Hp) (Q : Bool → Hp → Prop), Inv X pins σ H s → t σ H Q → wpAny (model X.prog X.w) X.A (isTrue e X.env (eval e X.env)) (TP X pins σ Q) X.xe s
/-- a test whatever its 'whole' is (and, or) -/
def PW (X : Cx) (e : Expr) (t : TT) : Prop :=
  ∀ (whole : Sem Value) (pins : List (Addr × Obj)) (s : Shared) (σ : St) (H : Hp) (Q : Bool → Hp → Prop), Inv X pins σ H s → t σ H Q → wpAny (model X.prog X.w) X.A (isTrue e X.env whole) (TP X pins σ Q) X.xe s
theorem PW.pt {X : Cx} {e : Expr} {t : TT} (h : PW X e t) : PT X e t := h _
/-- an argument list (no star), from the left -/
def PA (X : Cx) (es : List Expr) (t : TA) : Prop :=
  ∀ (pos : Pos) (pins : List (Addr × Obj)) (s : Shared) (σ : St) (H : Hp) (Q : List V → Hp → Prop), Inv X pins σ H s → t σ H Q → wpAny (model X.prog X.w) X.A (spliced (backTo pos (starEach es X.env))) (AP X pins σ Q) X.xe s
def PS (X : Cx) (st : Stmt) (t : TS) : Prop :=
  ∀ (pins : List (Addr × Obj)) (s : Shared) (σ : St) (H : Hp) (D : Ends), Inv X pins σ H s → t D σ H → wpAny (model X.prog X.w) X.A (exec st X.env) (SP X pins D) X.xe s
def PSs (X : Cx) (st : List Stmt) (t : TS) : Prop :=
  ∀ (pins : List (Addr × Obj)) (s : Shared) (σ : St) (H : Hp) (D : Ends), Inv X pins σ H s → t D σ H → wpAny (model X.prog X.w) X.A (execs st X.env) (SP X pins D) X.xe s
/-- weaken the end -/
theorem thn {α : Type} {t : Sem α} {Q Q' : α → Shared → Prop} {M : Model} {A : Around} {E : Value → Shared → Prop} {s : Shared} (h : wpAny M A t Q E s) (hQ : ∀ a s, Q a s → Q' a s) : wpAny M A t Q' E s := wpAny_mono h hQ fun _ _ x => x
end L2

namespace L2
open PySem PySem.Spec PyProof.Rows
section
variable {X : Cx}

/-! ### names and constants -/
def tVar (i : Nat) : TE := fun σ H Q => ∃ v, σ[i]? = some (some v) ∧ Q v H
def tC (v : V) : TE := fun _ H Q => Q v H
theorem pe_var {i : Nat} {x : Str} {pos : Pos} (hN : X.N[i]? = some x) (hv : Vis X.env.scope x) (hd : (x == ("__debug__" : Str)) = false := by decide) (hcd : (x == ("__classdict__" : Str)) = false := by decide) : PE X (.Name x pos) (tVar i) := by
  intro pins s σ H Q I h
  obtain ⟨v, e, h⟩ := h
  obtain ⟨m, hn, hl⟩ := I.loc
  obtain ⟨u, r, l⟩ := hl i x v hN e hv
  have fin : EP X pins σ Q u s := ⟨v, H, I, r, h⟩
  rcases l with ⟨hk, hm⟩ | ⟨hk, c, hc, hcell⟩
  · exact wpAny_Name (wpAny_loadName_local I.ok.kind hk hn hm fin) hd
  · rcases hk with hk | hk
    · exact wpAny_Name (wpAny_loadName_cell I.ok.kind hk hc hcell fin) hd
    · exact wpAny_Name (wpAny_loadName_free I.ok.kind hk hc hcell fin hcd) hd
theorem pe_int {i j pos} : PE X (.Constant (.int i) j pos) (tC (.int i)) := fun _ _ _ H _ I h => wpAny_Constant_int ⟨.int i, H, I.tok _, ⟨_, rfl⟩, h⟩
theorem pe_bl {b j pos} : PE X (.Constant (.bool b) j pos) (tC (.bl b)) := fun _ _ _ H _ I h => Constant_bool ⟨.bl b, H, I, rfl, h⟩
theorem pe_non {j pos} : PE X (.Constant .none j pos) (tC .non) := fun _ _ _ H _ I h => Constant_none ⟨.non, H, I, rfl, h⟩
theorem pe_str {x j pos} : PE X (.Constant (.str x) j pos) (tC (.str x)) := fun _ _ _ H _ I h => Calls.Constant_str ⟨.str x, H, I.tok _, ⟨_, rfl⟩, h⟩

/-- a global name of the def -/
def Gl (X : Cx) (x : Str) : Prop := X.env.kindOf x = some .globalImplicit
theorem ld_glob {E : Value → Shared → Prop} {pins : List (Addr × Obj)} {s : Shared} {σ : St} {H : Hp} {x : Str} {u : Value} {pos : Pos} {Q : Value → Shared → Prop} (I : Inv X pins σ H s) (hg : Gl X x) (hm : X.mg x = some u) (h : Q u s)
    (hd : (x == ("__debug__" : Str)) = false := by decide) : wpAny (model X.prog X.w) X.A (eval (.Name x pos) X.env) Q E s :=
  Calls.Name_function_global I.ok.kind hg (Calls.loadGlobal_global (by rw [I.ok.glob]; exact I.mod.glob.keeps I.bk) hm h) hd
theorem ld_blt {E : Value → Shared → Prop} {pins : List (Addr × Obj)} {s : Shared} {σ : St} {H : Hp} {x : Str} {u : Value} {pos : Pos} {Q : Value → Shared → Prop} (I : Inv X pins σ H s) (hg : Gl X x) (hm : X.mg x = none) (hv : bootBuiltins x = some u) (h : Q u s)
    (hn : x ≠ "__name__" := by decide) (hd : (x == ("__debug__" : Str)) = false := by decide) : wpAny (model X.prog X.w) X.A (eval (.Name x pos) X.env) Q E s := by
  obtain ⟨mb, h1, h2⟩ := I.mod.blt
  exact Calls.Name_function_global I.ok.kind hg (Calls.loadGlobal_builtin (by rw [I.ok.glob]; exact I.mod.glob.keeps I.bk) hm (by rw [I.ok.blt]; exact h1.keeps I.bk) ((h2 x hn).trans hv) h) hd
/-- a module's constant, a class, a function, as a value -/
theorem pe_glob {x : Str} {v : V} {u : Value} {pos : Pos} (hg : Gl X x) (hm : X.mg x = some u) (r : RelV v u) (hd : (x == ("__debug__" : Str)) = false := by decide) : PE X (.Name x pos) (tC v) :=
  fun _ _ _ H _ I h => ld_glob I hg hm ⟨v, H, I, r, h⟩ hd
theorem pe_bltn {x : Str} {v : V} {u : Value} {pos : Pos} (hg : Gl X x) (hm : X.mg x = none) (hv : bootBuiltins x = some u) (r : RelV v u) (hn : x ≠ "__name__" := by decide) (hd : (x == ("__debug__" : Str)) = false := by decide) : PE X (.Name x pos) (tC v) :=
  fun _ _ _ H _ I h => ld_blt I hg hm hv ⟨v, H, I, r, h⟩ hn hd

/-! ### arithmetic -/
variable {a b : Expr} {ta tb : TE} {pos : Pos}
/-! ### comparisons -/
/-- a comparison as a value, as a test -/
def tB (t : TE) : TT := fun σ H Q => t σ H fun x H1 => ∃ c, x = .bl c ∧ Q c H1
/-- an expression whose value is a bool, as a test -/
theorem pt_val {e : Expr} {t : TE} (h : PE X e t) (he : ∀ whole, isTrue e X.env whole = (do let v ← whole; standAt e.pos; holding [v] (truthy v)) := by intro _; rfl) : PT X e (tB t) := by
  intro pins s σ H Q I hw
  refine isTrue_plain (thn (h pins s σ H _ I hw) fun v s1 ⟨x, H1, I1, r1, q1⟩ => ?_) (he _)
  obtain ⟨d, rfl, q⟩ := q1
  cases r1
  exact wpAny_truthy_bool ⟨H1, I1, q⟩

/-! ### and, or, not -/
variable {tA tB' : TT} {rest : List Expr}
def tAnd (t u : TT) : TT := fun σ H Q => t σ H fun c H1 => if c = true then u σ H1 Q else Q false H1
def tOr (t u : TT) : TT := fun σ H Q => t σ H fun c H1 => if c = true then Q true H1 else u σ H1 Q
def tNot (t : TT) : TT := fun σ H Q => t σ H fun c H1 => Q (!c) H1
theorem pw_and1 (ha : PT X a tA) : PW X (.BoolOp .And [a] pos) tA := by
  intro wh pins s σ H Q I h
  refine isTrue_and (thn (ha pins s σ H Q I h) fun c s1 e => ?_)
  cases c with
  | true => exact isTrue_and_nil e
  | false => exact e
theorem pw_or1 (ha : PT X a tA) : PW X (.BoolOp .Or [a] pos) tA := by
  intro wh pins s σ H Q I h
  refine isTrue_or (thn (ha pins s σ H Q I h) fun c s1 e => ?_)
  cases c with
  | false => exact isTrue_or_nil e
  | true => exact e
theorem pw_and (ha : PT X a tA) (hb : PW X (.BoolOp .And (b :: rest) pos) tB') : PW X (.BoolOp .And (a :: b :: rest) pos) (tAnd tA tB') := by
  intro wh pins s σ H Q I h
  refine isTrue_and (thn (ha pins s σ H _ I h) fun c s1 ⟨H1, I1, q1⟩ => ?_)
  cases c with
  | true => exact hb wh pins s1 σ H1 Q I1 q1
  | false => exact ⟨H1, I1, q1⟩
theorem pw_or (ha : PT X a tA) (hb : PW X (.BoolOp .Or (b :: rest) pos) tB') : PW X (.BoolOp .Or (a :: b :: rest) pos) (tOr tA tB') := by
  intro wh pins s σ H Q I h
  refine isTrue_or (thn (ha pins s σ H _ I h) fun c s1 ⟨H1, I1, q1⟩ => ?_)
  cases c with
  | true => exact ⟨H1, I1, q1⟩
  | false => exact hb wh pins s1 σ H1 Q I1 q1
theorem pt_not (ha : PT X a tA) : PT X (.UnaryOp .Not a pos) (tNot tA) := by
  intro pins s σ H Q I h
  exact isTrue_not (ha pins s σ H (fun c H1 => Q (!c) H1) I h)
/-- .. as values (bools) -/
def tAndV (ta tb : TE) : TE := fun σ H Q => ta σ H fun x H1 => ∃ c, x = .bl c ∧ if c = true then tb σ H1 Q else Q (.bl false) H1
def tNotV (ta : TE) : TE := fun σ H Q => ta σ H fun x H1 => ∃ c, x = .bl c ∧ Q (.bl (!c)) H1
theorem pe_one {op} {t : TE} (h : PE X a t) : PE X (.BoolOp op [a] pos) t := fun pins s σ H Q I hw => BoolOp_one (h pins s σ H Q I hw)
theorem pe_and (ha : PE X a ta) (hb : PE X (.BoolOp .And (b :: rest) pos) tb) : PE X (.BoolOp .And (a :: b :: rest) pos) (tAndV ta tb) := by
  intro pins s σ H Q I h
  refine BoolOp_and (thn (ha pins s σ H _ I h) fun v s1 ⟨x, H1, I1, r1, q1⟩ => ?_)
  obtain ⟨c, rfl, q1⟩ := q1
  cases r1
  refine wpAny_truthy_bool ?_
  cases c with
  | true => exact hb pins s1 σ H1 Q I1 q1
  | false => exact ⟨.bl false, H1, I1, rfl, q1⟩
theorem pe_not (ha : PE X a ta) : PE X (.UnaryOp .Not a pos) (tNotV ta) := by
  intro pins s σ H Q I h
  refine UnaryOp_ (thn (ha pins s σ H _ I h) fun v s1 ⟨x, H1, I1, r1, q1⟩ => ?_)
  obtain ⟨c, rfl, q1⟩ := q1
  cases r1
  exact not_of (wpAny_truthy_bool ⟨.bl (!c), H1, I1, rfl, q1⟩)
/-- a if t else b -/
def tIf (t : TT) (ta tb : TE) : TE := fun σ H Q => t σ H fun c H1 => if c = true then ta σ H1 Q else tb σ H1 Q
theorem pe_ifExp {c : Expr} (hc : PT X c tA) (ha : PE X a ta) (hb : PE X b tb) : PE X (.IfExp c a b pos) (tIf tA ta tb) := by
  intro pins s σ H Q I h
  refine wpAny_IfExp (thn (hc pins s σ H _ I h) fun d s1 ⟨H1, I1, q1⟩ => ?_)
  cases d with
  | true => exact ha pins s1 σ H1 Q I1 q1
  | false => exact hb pins s1 σ H1 Q I1 q1
end
end L2

namespace L2
open PySem PySem.Spec PyProof.Rows

/-! ### a list, a tuple that is read: tracked, frozen, or an object of the module -/
def SqL (K : PySem.W.Frag) (H : Hp) (a : Addr) (xs : List V) : Prop :=
  Rd H a (.lst xs) ∨
    ∃ (o : Obj) (its : Array Value) (n : Nat), K.lookup a = some o ∧ o.cls = .type "list" ∧ o.dict = none ∧ o.data = .seq its n ∧ its.size ≤ sizeLine ∧ Vals xs its.toList
def SqT (K : PySem.W.Frag) (H : Hp) (a : Addr) (xs : List V) : Prop :=
  Rd H a (.tup xs) ∨
    ∃ (o : Obj) (its : Array Value) (n : Nat), K.lookup a = some o ∧ o.cls = .type "tuple" ∧ o.data = .seq its n ∧ its.size ≤ sizeLine ∧ Vals xs its.toList
def absV : Value → Option V
  | .none => some .non
  | .bool b => some (.bl b)
  | .int i _ => some (.int i)
  | .str x _ => some (.str x)
  | .bytes b _ => some (.byt b)
  | .float b _ => some (.flt b)
  | .ref a => some (.ref a)
  | .type n => some (.ty n)
  | _ => none
theorem RelV.abs {x : V} {u : Value} (r : RelV x u) : absV u = some x := by
  cases x with
  | non => cases r; rfl
  | bl _ => cases r; rfl
  | int _ => obtain ⟨t, rfl⟩ := r; rfl
  | str _ => obtain ⟨t, rfl⟩ := r; rfl
  | byt _ => obtain ⟨t, rfl⟩ := r; rfl
  | flt _ => obtain ⟨t, rfl⟩ := r; rfl
  | ref _ => cases r; rfl
  | ty _ => cases r; rfl
theorem RelV.inj {x y : V} {u : Value} (r : RelV x u) (q : RelV y u) : x = y := Option.some.inj (r.abs.symm.trans q.abs)
theorem Vals.inj : ∀ {xs ys : List V} {us : List Value}, Vals xs us → Vals ys us → xs = ys
  | _, _, _, .nil, .nil => rfl
  | _, _, _, .cons r t, .cons r' t' => by rw [r.inj r', Vals.inj t t']
section
variable {X : Cx} {pins : List (Addr × Obj)} {σ : St} {H : Hp} {s : Shared} {a : Addr} {xs ys : List V}
theorem SqL.of {K : PySem.W.Frag} (h : H a = some (.lst xs)) : SqL K H a xs := .inl (.inl h)
theorem SqT.of {K : PySem.W.Frag} (h : H a = some (.tup xs)) : SqT K H a xs := .inl (.inl h)
theorem Inv.list (I : Inv X pins σ H s) (h : SqL X.K H a xs) : ∃ its : List Value, Vals xs its ∧ PlainL s.heap a its.toArray ∧ xs.length ≤ sizeLine := by
  rcases h with h | ⟨o, its, n, hk, hc, hd, hs, hz, r⟩
  · obtain ⟨z, its, n, r, e⟩ := h.ok I.hok
    exact ⟨its, r, ⟨_, n, e, rfl, rfl, rfl⟩, z⟩
  · refine ⟨its.toList, r, ⟨o, n, I.kIn a o hk, hc, hd, by simpa using hs⟩, ?_⟩
    have e := r.length
    simp only [Array.length_toList] at e
    omega
theorem Inv.tuple (I : Inv X pins σ H s) (h : SqT X.K H a xs) : ∃ its : List Value, Vals xs its ∧ IsTup s.heap a its.toArray ∧ xs.length ≤ sizeLine := by
  rcases h with h | ⟨o, its, n, hk, hc, hs, hz, r⟩
  · obtain ⟨z, its, r, p⟩ := h.ok I.hok
    exact ⟨its, r, p, z⟩
  · refine ⟨its.toList, r, ⟨o, I.kIn a o hk, hc, n, by simpa using hs⟩, ?_⟩
    have e := r.length
    simp only [Array.length_toList] at e
    omega
theorem Inv.list_inj (I : Inv X pins σ H s) (h : SqL X.K H a xs) (h' : SqL X.K H a ys) : xs = ys := by
  obtain ⟨its, r, ⟨o, n, e, _, _, d⟩, _⟩ := I.list h
  obtain ⟨its', r', ⟨o', n', e', _, _, d'⟩, _⟩ := I.list h'
  rw [e] at e'; cases e'
  rw [d] at d'
  injection d' with d1 _
  have : its = its' := by simpa using congrArg Array.toList d1
  subst this
  exact r.inj r'
end

/-! ### another wish about exceptions -/
abbrev Cx.wish (X : Cx) (E : Value → Shared → Prop) : Cx := { X with xe := E }
/-- no exception leaves -/
abbrev Cx.nox (X : Cx) : Cx := X.wish fun _ _ => False
theorem Cx.Ok.wish {X : Cx} (ok : X.Ok) (E : Value → Shared → Prop) : (X.wish E).Ok :=
  ⟨ok.mod, ok.kind, ok.glob, ok.blt, ok.above, ok.inj, ok.has, ok.cab, ok.hd, ok.frames, ok.stk, ok.exf, ok.bs, ok.bsz, ok.noex, ok.exfs, ok.funs, ok.frf⟩
theorem Cx.Ok.unwish {X : Cx} {E : Value → Shared → Prop} (ok : (X.wish E).Ok) : X.Ok :=
  ⟨ok.mod, ok.kind, ok.glob, ok.blt, ok.above, ok.inj, ok.has, ok.cab, ok.hd, ok.frames, ok.stk, ok.exf, ok.bs, ok.bsz, ok.noex, ok.exfs, ok.funs, ok.frf⟩
section
variable {X : Cx} {pins : List (Addr × Obj)} {σ : St} {H : Hp} {s : Shared} {E : Value → Shared → Prop}
theorem Inv.wish (I : Inv X pins σ H s) (E : Value → Shared → Prop) : Inv (X.wish E) pins σ H s := ⟨I.ok.wish E, I.os, I.bare, I.base, I.loc, I.cell, I.free, I.freeC, I.pin, I.hok, I.len⟩
theorem Inv.unwish (I : Inv (X.wish E) pins σ H s) : Inv X pins σ H s := ⟨I.ok.unwish, I.os, I.bare, I.base, I.loc, I.cell, I.free, I.freeC, I.pin, I.hok, I.len⟩
theorem SP.unwish {D : Ends} {f : Flow} {s' : Shared} (h : SP (X.wish E) pins D f s') : SP X pins D f s' := by
  cases f with
  | next => obtain ⟨σ', H', I, q⟩ := h; exact ⟨σ', H', I.unwish, q⟩
  | brk => obtain ⟨σ', H', I, q⟩ := h; exact ⟨σ', H', I.unwish, q⟩
  | cont => obtain ⟨σ', H', I, q⟩ := h; exact ⟨σ', H', I.unwish, q⟩
  | ret u => obtain ⟨v, σ', H', I, r, q⟩ := h; exact ⟨v, σ', H', I.unwish, r, q⟩
theorem PSs.nox {st : List Stmt} {t : TS} (h : PSs X.nox st t) : PSs X st t := fun pins s σ H D I hw =>
  wpAny_mono (h pins s σ H D (I.wish _) hw) (fun _ _ q => q.unwish) fun _ _ z => False.elim z
end

/-! ### blocks and small statements -/
section
variable {X : Cx} {st : Stmt} {rest : List Stmt} {t u : TS} {e : Expr} {te : TE} {pos : Pos}
def tNext : TS := fun D σ H => D.nx σ H
def tSeq (t u : TS) : TS := fun D σ H => t { D with nx := u D } σ H
theorem pss_nil : PSs X [] tNext := fun _ _ σ H _ I h => wpAny_execs_nil ⟨σ, H, I, h⟩
theorem pss_cons (h1 : PS X st t) (h2 : PSs X rest u) : PSs X (st :: rest) (tSeq t u) := by
  intro pins s σ H D I h
  refine wpAny_execs_cons (thn (h1 pins s σ H { D with nx := u D } I h) fun f s1 q => ?_)
  cases f with
  | next =>
    obtain ⟨σ', H', I', q⟩ := q
    exact h2 pins s1 σ' H' D I' q
  | ret v => exact q
  | brk => exact q
  | cont => exact q
theorem pss_one (h1 : PS X st t) : PSs X [st] t := by
  intro pins s σ H D I h
  refine wpAny_execs_cons (thn (h1 pins s σ H D I h) fun f s1 q => ?_)
  cases f with
  | next => exact wpAny_execs_nil q
  | ret v => exact q
  | brk => exact q
  | cont => exact q
/-- in a def's body nothing is shown -/
theorem Inv.quiet {pins : List (Addr × Obj)} {σ : St} {H : Hp} {s : Shared} (I : Inv X pins σ H s) : interactive X.env = false := by simp [interactive, I.ok.kind]
/-- an expression whose value is dropped -/
def tDrop (te : TE) : TS := fun D σ H => te σ H fun _ H1 => D.nx σ H1
theorem ps_expr (he : PE X e te) (hs : swapsWith e none pos.line X.env = pure false := by rfl) : PS X (.Expr e pos) (tDrop te) := by
  intro pins s σ H D I h
  exact wpAny_Expr_any (thn (he pins s σ H _ I h) fun v s1 ⟨x, H1, I1, r1, q1⟩ => ⟨σ, H1, I1, q1⟩) I.quiet hs
def tRet (te : TE) : TS := fun D σ H => te σ H D.rt
theorem ps_ret (he : PE X e te) : PS X (.Return (some e) pos) (tRet te) := by
  intro pins s σ H D I h
  exact wpAny_Return_some (thn (he pins s σ H _ I h) fun v s1 ⟨x, H1, I1, r1, q1⟩ => ⟨x, σ, H1, I1, r1, q1⟩)
def tIfS (c : TT) (t u : TS) : TS := fun D σ H => c σ H fun b H1 => if b = true then t D σ H1 else u D σ H1
theorem ps_if {c : Expr} {a b : List Stmt} {tc : TT} (hc : PT X c tc) (ha : PSs X a t) (hb : PSs X b u) : PS X (.If c a b pos) (tIfS tc t u) := by
  intro pins s σ H D I h
  refine wpAny_If (thn (hc pins s σ H _ I h) fun d s1 ⟨H1, I1, q1⟩ => ?_)
  cases d with
  | true => exact ha pins s1 σ H1 D I1 q1
  | false => exact hb pins s1 σ H1 D I1 q1
end

/-! ### targets -/
abbrev TG := V → St → Hp → (St → Hp → Prop) → Prop
abbrev TGs := List V → St → Hp → (St → Hp → Prop) → Prop
def PG (X : Cx) (target : Expr) (t : TG) : Prop :=
  ∀ (pins : List (Addr × Obj)) (s : Shared) (σ : St) (H : Hp) (v : V) (u : Value) (Q : St → Hp → Prop), Inv X pins σ H s → RelV v u → t v σ H Q →
    wpAny (model X.prog X.w) X.A (assign target X.env u) (fun _ s' => ∃ σ' H', Inv X pins σ' H' s' ∧ Q σ' H') X.xe s
/-- several targets, one after another -/
def PGs (X : Cx) (ts : List Expr) (t : TGs) : Prop :=
  ∀ (pins : List (Addr × Obj)) (s : Shared) (σ : St) (H : Hp) (vs : List V) (us : List Value) (Q : St → Hp → Prop), Inv X pins σ H s → Vals vs us → t vs σ H Q →
    wpAny (model X.prog X.w) X.A (assignInOrder ((assignEach ts X.env).map (·.2)) us) (fun _ s' => ∃ σ' H', Inv X pins σ' H' s' ∧ Q σ' H') X.xe s
section
variable {X : Cx} {pos : Pos}
def gName (i : Nat) : TG := fun v σ H Q => Q (σ.set i (some v)) H
theorem pg_name {i : Nat} {x : Str} (hN : X.N.Nodup) (hi : X.N[i]? = some x) (hx : Loc X.env.scope x) (hf : X.fn x = true ∨ X.env.scope.names.lookup x = some .local := by first | exact .inl rfl | exact .inr rfl | assumption) : PG X (.Name x pos) (gName i) := by
  intro pins s σ H v u Q I r h
  exact wpAny_assign_Name (store_ok I hN hi hx r (fun s' I' => ⟨_, H, I', h⟩) hf)
def gNil : TGs := fun vs σ H Q => vs = [] ∧ Q σ H
def gCons (t : TG) (u : TGs) : TGs := fun vs σ H Q => ∃ v r, vs = v :: r ∧ t v σ H fun σ' H' => u r σ' H' Q
theorem pgs_nil : PGs X [] gNil := by
  intro pins s σ H vs us Q I r h
  obtain ⟨e, h⟩ := h
  subst e
  cases r
  exact assignInOrder_nil ⟨σ, H, I, h⟩
theorem pgs_cons {e : Expr} {es : List Expr} {t : TG} {u : TGs} (h1 : PG X e t) (h2 : PGs X es u)
    (hs : (assignEach (e :: es) X.env).map (·.2) = assign e X.env :: (assignEach es X.env).map (·.2) := by rfl) : PGs X (e :: es) (gCons t u) := by
  intro pins s σ H vs us Q I r h
  obtain ⟨v, vr, e1, h⟩ := h
  subst e1
  cases r with
  | cons r rr =>
    rw [hs]
    refine assignInOrder_cons (thn (h1 pins s σ H _ _ _ I r h) fun _ s1 ⟨σ1, H1, I1, q1⟩ => ?_)
    exact h2 pins s1 σ1 H1 _ _ Q I1 rr q1
/-- (a, b, ..) = a tuple of that length -/
def gTup (K : PySem.W.Frag) (n : Nat) (t : TGs) : TG := fun v σ H Q => ∃ a xs, v = .ref a ∧ SqT K H a xs ∧ xs.length = n ∧ t xs σ H Q
theorem pg_tup {es : List Expr} {k : Nat} {t : TGs} {n : Nat} (hc : X.calm = true) (h : PGs X es t)
    (hn : (assignEach es X.env).length = n := by rfl) (hst : (assignEach es X.env).findIdx? (·.1) = none := by rfl) : PG X (.Tuple es k pos) (gTup X.K n t) := by
  intro pins s σ H v u Q I r hw
  obtain ⟨a, xs, e1, hq, hl, hw⟩ := hw
  subst e1
  cases r
  obtain ⟨its, rv, ht, hz⟩ := I.tuple hq
  refine assign_Tuple_tuple (I.ok.hd hc) ht (by simp [hn, ← hl, rv.length]) hst fun h' hx => ?_
  have I1 : Inv X pins σ H { s with heap := h' } := I.kept (t' := s.toks) fun b o e => hx b o (Nat.ne_of_lt (Heap.lt_size e)) e
  exact h pins _ σ H xs _ Q I1 (by simpa using rv) hw
/-- target = value -/
def tAsg (te : TE) (g : TG) : TS := fun D σ H => te σ H fun x H1 => g x σ H1 D.nx
/-- name = value -/
theorem ps_set {i : Nat} {x : Str} {e : Expr} {te : TE} {pos' : Pos} (hN : X.N.Nodup) (hi : X.N[i]? = some x) (hx : Loc X.env.scope x) (he : PE X e te) (hs : swapsWith e (some (.Name x pos')) pos.line X.env = pure false := by rfl) (hf : X.fn x = true ∨ X.env.scope.names.lookup x = some .local := by first | exact .inl rfl | exact .inr rfl | assumption) :
    PS X (.Assign [.Name x pos'] e pos) (tAsg te (gName i)) := by
  intro pins s σ H D I h
  refine wpAny_Assign_Name (thn (he pins s σ H _ I h) fun v s1 ⟨y, H1, I1, r1, q1⟩ => ?_) hs
  exact store_ok I1 hN hi hx r1 (fun s2 I2 => ⟨_, H1, I2, q1⟩) hf
end

/-! ### while -/
section
variable {X : Cx} {pos : Pos}
end

/-! ### what a loop or a comprehension walks -/
/-- at turn i: it yields x (the heap may grow), or it stops -/
structure It where
  go : Nat → Hp → Prop
  yld : Nat → Hp → V → Hp → Prop
  stop : Nat → Hp → Prop
/-- the iterator's own objects may turn: they are not the frame's, not pinned, younger than the entry (or a comprehension's own) -/
def FpOk (X : Cx) (pins : List (Addr × Obj)) (H : Hp) (b : Addr) : Prop :=
  H b = none ∧ b ≠ X.env.locals ∧ b ∉ X.fs ∧ (b ∈ X.ex ∨ X.s₀.heap.objs.size ≤ b) ∧ (∀ x c, X.env.cells.lookup x = some c → c ≠ b) ∧ ∀ p ∈ X.pn ++ pins, p.1 ≠ b
theorem Inv.fpOk {X : Cx} {pins : List (Addr × Obj)} {σ : St} {H H' : Hp} {s : Shared} {b : Addr} (I : Inv X pins σ H s) (hb : s.heap.objs.size ≤ b) (hn : H' b = none) : FpOk X pins H' b := by
  refine ⟨hn, Nat.ne_of_gt (Nat.lt_of_lt_of_le I.lt hb), I.nofs hb, .inr (Nat.le_trans I.sz hb), fun x c e z => ?_, fun p hp z => ?_⟩
  · obtain ⟨v, q⟩ := I.cell x c e
    exact absurd (Nat.lt_of_lt_of_le q.lt (by rw [z]; exact hb)) (Nat.lt_irrefl _)
  · exact absurd (Nat.lt_of_lt_of_le (Heap.lt_size (I.pin p hp).1) (by rw [z]; exact hb)) (Nat.lt_irrefl _)
structure Turn (P : Program) (w : World) (K : PySem.W.Frag) (tg : Expr) (J : It) (fp : List Addr) (it : Addr) (tn : Nat → Heap → Prop) : Prop where
  mem : it ∈ fp
  obj : ∀ i h, tn i h → ∀ b ∈ fp, ∃ o, h.get? b = some o ∧ ∀ v, o.data ≠ .cell v
  keep : ∀ i h h', tn i h → (∀ b ∈ fp, ∀ o, h.get? b = some o → h'.get? b = some o) → tn i h'
  item : ∀ (X : Cx), X.prog = P → X.w = w → X.K = K → X.calm = true → ∀ (i : Nat) (pins : List (Addr × Obj)) (s : Shared) (σ : St) (H : Hp) (E : Value → Shared → Prop), Inv X pins σ H s → (∀ b ∈ fp, FpOk X pins H b) → tn i s.heap → J.go i H →
    wpAny (model P w) X.A (pyNext (.ref it)) (fun r s1 => ∃ u, r = some u ∧
      wpAny (model P w) X.A (letOwnedTupleGo tg (.ref it) u) (fun _ s2 => ∃ x H', Inv X pins σ H' s2 ∧ RelV x u ∧ J.yld i H x H' ∧ tn (i + 1) s2.heap ∧ ∀ b ∈ fp, H' b = none) E s1) E s
  done : ∀ (X : Cx), X.prog = P → X.w = w → X.K = K → X.calm = true → ∀ (i : Nat) (pins : List (Addr × Obj)) (s : Shared) (σ : St) (H : Hp) (E : Value → Shared → Prop), Inv X pins σ H s → (∀ b ∈ fp, FpOk X pins H b) → tn i s.heap → J.stop i H →
    wpAny (model P w) X.A (pyNext (.ref it)) (fun r s1 => r = none ∧ Inv X pins σ H s1) E s
  self : ∀ (A : Around) (i : Nat) (s : Shared) (Q : Value → Shared → Prop) (E : Value → Shared → Prop), tn i s.heap → Q (.ref it) s → wpAny (model P w) A (pyIter (.ref it)) Q E s
abbrev TI := St → Hp → (It → Hp → Prop) → Prop
/-- an iterator has come -/
def PIE (X : Cx) (pins : List (Addr × Obj)) (σ : St) (tg : Expr) (R : It → Hp → Prop) (itv : Value) (s2 : Shared) : Prop :=
  ∃ (it : Addr) (fp : List Addr) (tn : Nat → Heap → Prop) (J : It) (H' : Hp), itv = .ref it ∧ Inv X pins σ H' s2 ∧ Turn X.prog X.w X.K tg J fp it tn ∧ tn 0 s2.heap ∧ (∀ b ∈ fp, FpOk X pins H' b) ∧ R J H'
def PI (X : Cx) (tg iter : Expr) (wi : TI) : Prop :=
  ∀ (pins : List (Addr × Obj)) (s : Shared) (σ : St) (H : Hp) (R : It → Hp → Prop), Inv X pins σ H s → wi σ H R →
    wpAny (model X.prog X.w) X.A (eval iter X.env) (fun v s1 => wpAny (model X.prog X.w) X.A (pyIter v) (PIE X pins σ tg R) X.xe s1) X.xe s

/-- the step ahead of the store is nothing for an iterator that keeps no tuple -/
theorem go_of {M : Model} {A : Around} {E : Value → Shared → Prop} {s : Shared} {tg : Expr} {it : Addr} {u : Value} {o : Obj} {n : String} {vs : Array Value} {Q : Unit → Shared → Prop} (ho : s.heap.get? it = some o) (hc : o.cls = .type n) (hd : o.data = .fields vs)
    (hn : ["enumerate", "zip", "dict_itemiterator", "dict_reverseitemiterator", "odict_iterator", "itertools.zip_longest", "itertools.pairwise"].contains n = false) (hQ : Q () s) : wpAny M A (letOwnedTupleGo tg (.ref it) u) Q E s := by
  unfold letOwnedTupleGo
  cases tg <;> first
    | exact wpAny_pure hQ
    | (cases u <;> first
        | exact wpAny_pure hQ
        | (refine wpAny_bind (wpAny_load ho ?_)
           rw [hc, hd]
           show wpAny M A (if (["enumerate", "zip", "dict_itemiterator", "dict_reverseitemiterator", "odict_iterator", "itertools.zip_longest", "itertools.pairwise"].contains n && vs[0]? == some (rawInt _)) = true then _ else _) Q E s
           rw [if_neg (by intro h; rw [hn, Bool.false_and] at h; cases h)]
           exact wpAny_pure hQ))

/-- the list at a, as it stands at each turn (a loop may append to it) -/
def Itl (K : PySem.W.Frag) (a : Addr) : It :=
  ⟨fun i H => ∃ xs x, SqL K H a xs ∧ xs[i]? = some x, fun i H x H' => H' = H ∧ ∀ xs, SqL K H a xs → xs[i]? = some x, fun i H => ∃ xs, SqL K H a xs ∧ xs.length ≤ i⟩
/-- lo, lo + 1, .. (n of them) -/
def Itr (lo : Int) (n : Nat) : It := ⟨fun i _ => i < n, fun i H x H' => H' = H ∧ x = .int (lo + i), fun i _ => n ≤ i⟩
theorem turn_list {P : Program} {w : World} {K : PySem.W.Frag} {tg : Expr} (a it : Addr) : Turn P w K tg (Itl K a) [it] it (fun i h => h.IsListIter it a i) where
  mem := by simp
  obj := fun i h st b hb => by
    have e : b = it := by simpa using hb
    subst e
    obtain ⟨o, e, c, d⟩ := st
    exact ⟨o, e, fun v z => by rw [d] at z; cases z⟩
  keep := fun i h h' st k => st.at fun o e => k it (by simp) o e
  item := by
    intro X hP hw hK hc i pins s σ H E I hf st hg
    subst hP hw hK
    obtain ⟨xs, x, hq, hx⟩ := hg
    obtain ⟨its, rv, p, hz⟩ := I.list hq
    obtain ⟨u, hu, ru⟩ := rv.get hx
    obtain ⟨f0, f1, f2, f3, f4, f5⟩ := hf it (by simp)
    refine wpAny_pyNext_list_item st p.isList (x := u) (by simpa using hu) fun h' st' sb => ?_
    have I1 : Inv X pins σ H { s with heap := h' } := I.turned (t' := s.toks) (fun b o hb e => (sb.2 b hb).trans e) f0 f1 f3 f4 f5
    obtain ⟨o, e, c, d⟩ := id st'
    exact ⟨u, rfl, go_of (s := { s with heap := h' }) e c d (by decide) ⟨x, H, I1, ru, ⟨rfl, fun ys hy => by rw [I.list_inj hy hq]; exact hx⟩, st', fun b hb => (hf b hb).1⟩⟩
  done := by
    intro X hP hw hK hc i pins s σ H E I hf st hg
    subst hP hw hK
    obtain ⟨xs, hq, hx⟩ := hg
    obtain ⟨its, rv, p, hz⟩ := I.list hq
    obtain ⟨f0, f1, f2, f3, f4, f5⟩ := hf it (by simp)
    have hl := rv.length
    exact wpAny_pyNext_list_end (I.ok.hd hc) st p.isList (by simp; omega) fun h' eb => ⟨rfl, I.turned (t' := s.toks) (fun b o hb e => eb b o hb e) f0 f1 f3 f4 f5⟩
  self := fun _ _ _ _ _ st h => wpAny_pyIter_listiter st h
theorem turn_range {P : Program} {w : World} {K : PySem.W.Frag} {tg : Expr} (it : Addr) (lo : Int) (n : Nat) : Turn P w K tg (Itr lo n) [it] it (fun i h => IsRangeIter h it (lo + (i : Nat) * 1) ((n : Int) - (i : Nat)) 1) where
  mem := by simp
  obj := fun i h st b hb => by
    have e : b = it := by simpa using hb
    subst e
    exact ⟨_, st, fun v z => by
      have z' : Data.fields _ = Data.cell v := z
      cases z'⟩
  keep := fun i h h' st k => k it (by simp) _ st
  item := by
    intro X hP hw hK hc i pins s σ H E I hf st hg
    subst hP hw hK
    obtain ⟨f0, f1, f2, f3, f4, f5⟩ := hf it (by simp)
    have W := Walks.range (prog := X.prog) (w := X.w) (I.ok.hd hc) it lo 1 n
    refine W.item i s _ _ hg st fun v h' tk hv st' kk => ?_
    obtain ⟨t, rfl⟩ := hv
    have I1 : Inv X pins σ H { s with heap := h', toks := tk } := I.turned (fun b o hb e => kk b o (by simpa using hb) e) f0 f1 f3 f4 f5
    refine ⟨_, rfl, go_of (s := { s with heap := h', toks := tk }) (n := "range_iterator") st' rfl rfl (by decide) ⟨.int (lo + i), H, I1, ⟨t, ?_⟩, ⟨rfl, rfl⟩, st', fun b hb => (hf b hb).1⟩⟩
    rw [Int.mul_one]
  done := by
    intro X hP hw hK hc i pins s σ H E I hf st hg
    subst hP hw hK
    obtain ⟨f0, f1, f2, f3, f4, f5⟩ := hf it (by simp)
    exact wpAny_pyNext_range_end (I.ok.hd hc) st (by have : n ≤ i := hg; omega) fun h' eb => ⟨rfl, I.turned (t' := s.toks) (fun b o hb e => eb b o hb e) f0 f1 f3 f4 f5⟩
  self := fun _ _ _ _ _ st h => wpAny_pyIter_rangeiter st h
end L2

namespace L2
open PySem PySem.Spec PyProof.Rows
section
variable {X : Cx} {tg : Expr}
def iList (K : PySem.W.Frag) (tl : TE) : TI := fun σ H R => tl σ H fun x H1 => ∃ a, x = .ref a ∧ (∃ xs, SqL K H1 a xs) ∧ R (Itl K a) H1
theorem pi_list {l : Expr} {tl : TE} (hl : PE X l tl) : PI X tg l (iList X.K tl) := by
  intro pins s σ H R I h
  refine thn (hl pins s σ H _ I h) fun v s1 ⟨x, H1, I1, r1, q1⟩ => ?_
  obtain ⟨a, e, ⟨xs, hq⟩, q⟩ := q1
  subst e
  cases r1
  obtain ⟨its, rv, p, hz⟩ := I1.list hq
  refine wpAny_pyIter_list p.isList ?_
  refine ⟨s1.heap.objs.size, [s1.heap.objs.size], _, _, H1, rfl, I1.kept (t' := s1.toks) fun b o e => Heap.get?_push_of_some _ e, turn_list a _, ⟨_, Heap.get?_push_size _ rfl, rfl, rfl⟩, fun b hb => ?_, q⟩
  have e : b = s1.heap.objs.size := by simpa using hb
  subst e
  exact I1.fpOk (Nat.le_refl _) (I1.hok.fresh (Nat.le_refl _))
/-- a range object just made, walked -/
theorem range_it {pins : List (Addr × Obj)} {σ : St} {H : Hp} {s : Shared} {R : It → Hp → Prop} {E : Value → Shared → Prop} {lo hi : Int} {t u v : Tok} {tk : Nat} (I : Inv X pins σ H s) (h1 : -(2 ^ 62) ≤ lo) (h2 : lo < 2 ^ 62) (h3 : -(2 ^ 62) ≤ hi) (h4 : hi < 2 ^ 62)
    (q : R (Itr lo (hi - lo).toNat) H) : wpAny (model X.prog X.w) X.A (pyIter (.ref s.heap.objs.size)) (PIE X pins σ tg R) E { s with heap := s.heap.push { cls := .type "range", data := .fields #[.int lo t, .int hi u, .int 1 v] }, toks := tk } := by
  refine wpAny_pyIter_range (IsRange.new ..) (small_one h1 h2 h3 h4) ?_
  have I1 : Inv X pins σ H { s with heap := s.heap.push { cls := .type "range", data := .fields #[.int lo t, .int hi u, .int 1 v] }, toks := tk } := I.kept fun b o e => Heap.get?_push_of_some _ e
  refine ⟨(s.heap.push { cls := .type "range", data := .fields #[.int lo t, .int hi u, .int 1 v] }).objs.size, [(s.heap.push { cls := .type "range", data := .fields #[.int lo t, .int hi u, .int 1 v] }).objs.size], _, _, H, rfl,
    I1.kept (t' := tk) fun b o e => Heap.get?_push_of_some _ e, turn_range _ lo (hi - lo).toNat, ?_, fun b hb => ?_, q⟩
  · have e1 : lo + ((0 : Nat) : Int) * 1 = lo := by simp
    have e2 : (((hi - lo).toNat : Nat) : Int) - ((0 : Nat) : Int) = Builtin.Range.rangeSize lo hi 1 := by rw [rangeSize_one]; split <;> omega
    show IsRangeIter _ _ (lo + ((0 : Nat) : Int) * 1) ((((hi - lo).toNat : Nat) : Int) - ((0 : Nat) : Int)) 1
    rw [e1, e2]
    exact Heap.get?_push_size _ rfl
  · have e : b = (s.heap.push { cls := .type "range", data := .fields #[.int lo t, .int hi u, .int 1 v] }).objs.size := by simpa using hb
    subst e
    exact I1.fpOk (Nat.le_refl _) (I1.hok.fresh (Nat.le_refl _))
def iRng1 (ta : TA) : TI := fun σ H R => ta σ H fun vs H1 => ∃ j : Int, vs = [.int j] ∧ -(2 ^ 62) ≤ j ∧ j < 2 ^ 62 ∧ R (Itr 0 j.toNat) H1
theorem pi_range1 {a : Expr} {ta : TA} {p pos : Pos} (hg : Gl X "range") (hm : X.mg "range" = none) (ha : PA X [a] ta) (hs : starEach [a] X.env = [(false, eval a X.env)] := by rfl) : PI X tg (.Call (.Name "range" p) [a] [] pos) (iRng1 ta) := by
  intro pins s σ H R I h
  refine Call_ (ld_blt I hg hm boot_range (PyProof.Rows.callWith_type1 (thn (ha pos pins s σ H _ I h) fun us s1 ⟨vs, H1, I1, r1, q1⟩ => ?_) hs rfl))
  obtain ⟨j, e, q1, q2, q⟩ := q1
  subst e
  cases r1 with
  | cons r rr =>
    cases rr
    obtain ⟨t, rfl⟩ := r
    exact call_range_1 (range_it I1 (by omega) (by omega) q1 q2 (by simpa using q))
/-! ### for -/
/-- W: the invariant by the turn and a measure; N: what the body is to reach -/
def tFor (wi : TI) (g : TG) (tb : TS) : TS := fun D σ H => wi σ H fun J H1 => ∃ W : Nat → Nat → St → Hp → Prop, (∃ m, W 0 m σ H1) ∧ ∀ i m σ H, W i m σ H →
  (J.stop i H ∧ D.nx σ H) ∨ (J.go i H ∧ ∃ N : St → Hp → Prop, (∀ σ' H', N σ' H' → ∃ m', m' < m ∧ W (i + 1) m' σ' H') ∧ ∀ x H', J.yld i H x H' → g x σ H' fun σ2 H2 => tb { D with nx := N, ct := N, bk := D.nx } σ2 H2)
/-- the records at fp as they stand -/
def pinsAt (fp : List Addr) (h : Heap) : List (Addr × Obj) := fp.filterMap fun b => (h.get? b).map fun o => (b, o)
theorem mem_pinsAt {fp : List Addr} {h : Heap} {b : Addr} {o : Obj} (hb : b ∈ fp) (e : h.get? b = some o) : (b, o) ∈ pinsAt fp h := List.mem_filterMap.mpr ⟨b, hb, by rw [e]; rfl⟩
theorem of_pinsAt {fp : List Addr} {h : Heap} {p : Addr × Obj} (hp : p ∈ pinsAt fp h) : p.1 ∈ fp ∧ h.get? p.1 = some p.2 := by
  obtain ⟨b, hb, e⟩ := List.mem_filterMap.mp hp
  cases q : h.get? b with
  | none => rw [q] at e; cases e
  | some o =>
    rw [q] at e
    have e' : (b, o) = p := Option.some.inj e
    subst e'
    exact ⟨hb, q⟩
theorem Inv.pinned {pins : List (Addr × Obj)} {σ : St} {H : Hp} {s : Shared} {fp : List Addr} (I : Inv X pins σ H s) (hf : ∀ b ∈ fp, FpOk X pins H b) (ho : ∀ b ∈ fp, ∃ o, s.heap.get? b = some o ∧ ∀ v, o.data ≠ .cell v) : Inv X (pins ++ pinsAt fp s.heap) σ H s :=
  I.pins_of fun p hp => (List.mem_append.mp hp).elim (fun z => I.pin p (List.mem_append_right _ z)) fun z => by
    obtain ⟨hb, e⟩ := of_pinsAt z
    obtain ⟨f0, f1, f2, _⟩ := hf p.1 hb
    obtain ⟨o, e', d⟩ := ho p.1 hb
    rw [e] at e'; cases e'
    exact ⟨e, f0, f1, f2, d⟩
theorem Inv.unpinned {pins pl : List (Addr × Obj)} {σ : St} {H : Hp} {s : Shared} (I : Inv X (pins ++ pl) σ H s) : Inv X pins σ H s := I.pins_of fun p hp => I.pin p (List.mem_append_right _ (List.mem_append_left _ hp))
theorem ps_for {iter : Expr} {body : List Stmt} {wi : TI} {g : TG} {tb : TS} {pos : Pos} (hp : PassesOwn (model X.prog X.w) X.A X.env X.xe) (hc : X.calm = true) (hi : PI X tg iter wi) (hg : PG X tg g) (hb : PSs X body tb)
    (hs : ∀ x, foldedSetIterable iter X.env x = pure x := by intro _; rfl) : PS X (.For tg iter body [] pos) (tFor wi g tb) := by
  intro pins s σ H D I h
  refine wpAny_For (thn (hi pins s σ H _ I h) fun v s1 h1 => thn h1 fun itv s2 h2 => ?_) hs
  obtain ⟨it, fp, tn, J, H2, e, I2, T, st2, f2, W, ⟨m0, w0⟩, turn⟩ := h2
  subst e
  -- what stays true of the iterator's objects through the loop
  have stat : ∀ {H' : Hp}, (∀ b ∈ fp, H' b = none) → ∀ b ∈ fp, FpOk X pins H' b := fun hn b hb => ⟨hn b hb, (f2 b hb).2⟩
  refine codeAny_forLoop_any (fun n s' => ∃ i σ' H', Inv X pins σ' H' s' ∧ tn i s'.heap ∧ (∀ b ∈ fp, H' b = none) ∧ W i n σ' H') ?_ m0 ⟨0, σ, H2, I2, st2, fun b hb => (f2 b hb).1, w0⟩
  rintro n s3 ⟨i, σ3, H3, I3, st3, fr3, w3⟩
  rcases turn i n σ3 H3 w3 with ⟨stop, qn⟩ | ⟨go, N, hN, step⟩
  · refine wpAny_passesOwn hp (thn (T.done X rfl rfl rfl hc i pins s3 σ3 H3 X.xe I3 (stat fr3) st3 stop) fun r s4 ⟨hr, I4⟩ => ?_)
    subst hr
    exact wpAny_execs_nil ⟨σ3, H3, I4, qn⟩
  · refine wpAny_passesOwn hp (thn (T.item X rfl rfl rfl hc i pins s3 σ3 H3 X.xe I3 (stat fr3) st3 go) fun r s4 ⟨u, hr, h4⟩ => ?_)
    subst hr
    refine wpAny_passesOwn hp (thn h4 fun _ s5 ⟨x, H5, I5, r5, y5, st5, fr5⟩ => ?_)
    have I5' := I5.pinned (stat fr5) (T.obj _ _ st5)
    refine wpAny_passesOwn hp (thn (hg _ s5 σ3 H5 x u _ I5' r5 (step x H5 y5)) fun _ s6 ⟨σ6, H6, I6, q6⟩ => ?_)
    refine wpAny_passesOwn hp (thn (hb _ s6 σ6 H6 _ I6 q6) fun f s7 q7 => ?_)
    have again : ∀ {σ7 : St} {H7 : Hp}, Inv X (pins ++ pinsAt fp s5.heap) σ7 H7 s7 → N σ7 H7 → ∃ m, m < n ∧ ∃ i σ' H', Inv X pins σ' H' s7 ∧ tn i s7.heap ∧ (∀ b ∈ fp, H' b = none) ∧ W i m σ' H' := fun {σ7 H7} I7 n7 => by
      obtain ⟨m', hm, w7⟩ := hN σ7 H7 n7
      refine ⟨m', hm, i + 1, σ7, H7, I7.unpinned, T.keep _ _ _ st5 fun b hb o e => (I7.pin (b, o) (List.mem_append_right _ (List.mem_append_right _ (mem_pinsAt hb e)))).1, fun b hb => ?_, w7⟩
      obtain ⟨o, e, d⟩ := T.obj _ _ st5 b hb
      exact (I7.pin (b, o) (List.mem_append_right _ (List.mem_append_right _ (mem_pinsAt hb e)))).2.1
    cases f with
    | next => obtain ⟨σ7, H7, I7, n7⟩ := q7; exact again I7 n7
    | cont => obtain ⟨σ7, H7, I7, n7⟩ := q7; exact again I7 n7
    | brk => obtain ⟨σ7, H7, I7, q7⟩ := q7; exact ⟨σ7, H7, I7.unpinned, q7⟩
    | ret v => obtain ⟨x7, σ7, H7, I7, r7, q7⟩ := q7; exact ⟨x7, σ7, H7, I7.unpinned, r7, q7⟩
end

/-! ### the forms one uses -/
/-- over a list that the body leaves as it is -/
theorem for_list {K : PySem.W.Frag} {a : Addr} {xs : List V} {g : TG} {tb : TS} {D : Ends} {σ : St} {H : Hp} (Pv : Nat → St → Hp → Prop) (h0 : Pv 0 σ H) (hl : ∀ i σ H, i ≤ xs.length → Pv i σ H → SqL K H a xs)
    (hs : ∀ i x σ H, xs[i]? = some x → Pv i σ H → g x σ H fun σ2 H2 => tb { D with nx := Pv (i + 1), ct := Pv (i + 1), bk := D.nx } σ2 H2) (hd : ∀ σ H, Pv xs.length σ H → D.nx σ H) :
    ∃ W : Nat → Nat → St → Hp → Prop, (∃ m, W 0 m σ H) ∧ ∀ i m σ H, W i m σ H →
      ((Itl K a).stop i H ∧ D.nx σ H) ∨ ((Itl K a).go i H ∧ ∃ N : St → Hp → Prop, (∀ σ' H', N σ' H' → ∃ m', m' < m ∧ W (i + 1) m' σ' H') ∧ ∀ x H', (Itl K a).yld i H x H' → g x σ H' fun σ2 H2 => tb { D with nx := N, ct := N, bk := D.nx } σ2 H2) := by
  refine ⟨fun i m σ H => m = xs.length - i ∧ i ≤ xs.length ∧ Pv i σ H, ⟨xs.length, by simp, Nat.zero_le _, h0⟩, ?_⟩
  rintro i m σ H ⟨rfl, hi, p⟩
  have q := hl i σ H hi p
  by_cases hlt : i < xs.length
  · refine .inr ⟨⟨xs, xs[i], q, by simp [hlt]⟩, Pv (i + 1), fun σ' H' p' => ⟨xs.length - (i + 1), by omega, rfl, hlt, p'⟩, fun x H' y => ?_⟩
    obtain ⟨e, y⟩ := y
    subst e
    exact hs i x σ _ (y xs q) p
  · have e : i = xs.length := by omega
    subst e
    exact .inl ⟨⟨xs, q, Nat.le_refl _⟩, hd σ H p⟩
theorem for_range {lo : Int} {n : Nat} {g : TG} {tb : TS} {D : Ends} {σ : St} {H : Hp} (Pv : Nat → St → Hp → Prop) (h0 : Pv 0 σ H)
    (hs : ∀ i σ H, i < n → Pv i σ H → g (.int (lo + i)) σ H fun σ2 H2 => tb { D with nx := Pv (i + 1), ct := Pv (i + 1), bk := D.nx } σ2 H2) (hd : ∀ σ H, Pv n σ H → D.nx σ H) :
    ∃ W : Nat → Nat → St → Hp → Prop, (∃ m, W 0 m σ H) ∧ ∀ i m σ H, W i m σ H →
      ((Itr lo n).stop i H ∧ D.nx σ H) ∨ ((Itr lo n).go i H ∧ ∃ N : St → Hp → Prop, (∀ σ' H', N σ' H' → ∃ m', m' < m ∧ W (i + 1) m' σ' H') ∧ ∀ x H', (Itr lo n).yld i H x H' → g x σ H' fun σ2 H2 => tb { D with nx := N, ct := N, bk := D.nx } σ2 H2) := by
  refine ⟨fun i m σ H => m = n - i ∧ i ≤ n ∧ Pv i σ H, ⟨n, by simp, Nat.zero_le _, h0⟩, ?_⟩
  rintro i m σ H ⟨rfl, hi, p⟩
  by_cases hlt : i < n
  · refine .inr ⟨hlt, Pv (i + 1), fun σ' H' p' => ⟨n - (i + 1), by omega, rfl, hlt, p'⟩, fun x H' y => ?_⟩
    obtain ⟨e, y⟩ := y
    subst e y
    exact hs i σ _ hlt p
  · have e : i = n := by omega
    subst e
    exact .inl ⟨Nat.le_refl _, hd σ H p⟩
end L2

namespace L2
open PySem PySem.Spec PyProof.Rows

abbrev R2 := V → V → Hp → VK → Prop
/-- a two-place operation on values: f is binaryOp op, inplaceOp op or compareOp op -/
def OpR (X : Cx) (f : Value → Value → Sem Value) (r : R2) : Prop :=
  ∀ (pins : List (Addr × Obj)) (s : Shared) (σ : St) (H : Hp) (x y : V) (v u : Value) (Q : VK), Inv X pins σ H s → RelV x v → RelV y u → r x y H Q →
    wpAny (model X.prog X.w) X.A (f v u) (EP X pins σ Q) X.xe s
/-- a call of a value that is known (a builtin, a type) with values -/
def CallR (X : Cx) (f : Value) (r : List V → Hp → VK → Prop) : Prop :=
  ∀ (pins : List (Addr × Obj)) (s : Shared) (σ : St) (H : Hp) (xs : List V) (us : List Value) (Q : VK), Inv X pins σ H s → Vals xs us → r xs H Q →
    wpAny (model X.prog X.w) X.A (call f us) (EP X pins σ Q) X.xe s
def tOp (r : R2) (ta tb : TE) : TE := fun σ H Q => ta σ H fun x H1 => tb σ H1 fun y H2 => r x y H2 Q
/-- ints in, under C, and a value out -/
def rI (C : Int → Int → Prop) (g : Int → Int → V) : R2 := fun x y H Q => ∃ i j, x = .int i ∧ y = .int j ∧ C i j ∧ Q (g i j) H
def rI0 (g : Int → Int → V) : R2 := fun x y H Q => ∃ i j, x = .int i ∧ y = .int j ∧ Q (g i j) H
section
variable {X : Cx} {a b c : Expr} {ta tb tc : TE} {pos : Pos}

theorem binT (ha : PE X a ta) (hb : PE X b tb) {pins : List (Addr × Obj)} {s : Shared} {σ : St} {H : Hp} {R : V → V → Hp → Prop} (I : Inv X pins σ H s)
    (h : ta σ H fun x H1 => tb σ H1 fun y H2 => R x y H2) {Q : Value → Shared → Prop} {f : Value → Value → Sem Value}
    (hf : ∀ v u s2 x y H2, Inv X pins σ H2 s2 → RelV x v → RelV y u → R x y H2 → wpAny (model X.prog X.w) X.A (f v u) Q X.xe s2) :
    wpAny (model X.prog X.w) X.A (eval a X.env) (fun v s₁ => wpAny (model X.prog X.w) X.A (eval b X.env) (fun u s₂ => wpAny (model X.prog X.w) X.A (f v u) Q X.xe s₂) X.xe s₁) X.xe s := by
  refine thn (ha pins s σ H _ I h) fun v s1 ⟨x, H1, I1, r1, q1⟩ => ?_
  refine thn (hb pins s1 σ H1 _ I1 q1) fun u s2 ⟨y, H2, I2, r2, q2⟩ => ?_
  exact hf v u s2 x y H2 I2 r1 r2 q2

theorem pe_op {op : Operator} {r : R2} (ho : OpR X (binaryOp op) r) (ha : PE X a ta) (hb : PE X b tb) : PE X (.BinOp a op b pos) (tOp r ta tb) := by
  intro pins s σ H Q I h
  exact wpAny_BinOp (binT ha hb I h fun v u s2 x y H2 I2 rx ry q => ho pins s2 σ H2 x y v u Q I2 rx ry q)
/-! ### ints -/
theorem opI {f : Value → Value → Sem Value} {C : Int → Int → Prop} {g : Int → Int → Int}
    (rule : ∀ (i j : Int) (t u : Tok) (s : Shared) (Q : Value → Shared → Prop) (E : Value → Shared → Prop), C i j → Q (.int (g i j) s.toks) { s with toks := s.toks + 1 } → wpAny (model X.prog X.w) X.A (f (.int i t) (.int j u)) Q E s) :
    OpR X f (rI C fun i j => .int (g i j)) := by
  intro pins s σ H x y v u Q I rx ry h
  obtain ⟨i, j, rfl, rfl, hc, q⟩ := h
  obtain ⟨t, rfl⟩ := rx
  obtain ⟨t', rfl⟩ := ry
  exact rule i j t t' s _ _ hc ⟨.int (g i j), H, I.tok _, ⟨_, rfl⟩, q⟩
theorem opI0 {f : Value → Value → Sem Value} {g : Int → Int → Int}
    (rule : ∀ (i j : Int) (t u : Tok) (s : Shared) (Q : Value → Shared → Prop) (E : Value → Shared → Prop), Q (.int (g i j) s.toks) { s with toks := s.toks + 1 } → wpAny (model X.prog X.w) X.A (f (.int i t) (.int j u)) Q E s) :
    OpR X f (rI0 fun i j => .int (g i j)) := by
  intro pins s σ H x y v u Q I rx ry h
  obtain ⟨i, j, rfl, rfl, q⟩ := h
  obtain ⟨t, rfl⟩ := rx
  obtain ⟨t', rfl⟩ := ry
  exact rule i j t t' s _ _ ⟨.int (g i j), H, I.tok _, ⟨_, rfl⟩, q⟩
theorem opB0 {f : Value → Value → Sem Value} {g : Int → Int → Bool}
    (rule : ∀ (i j : Int) (t u : Tok) (s : Shared) (Q : Value → Shared → Prop) (E : Value → Shared → Prop), Q (.bool (g i j)) s → wpAny (model X.prog X.w) X.A (f (.int i t) (.int j u)) Q E s) :
    OpR X f (rI0 fun i j => .bl (g i j)) := by
  intro pins s σ H x y v u Q I rx ry h
  obtain ⟨i, j, rfl, rfl, q⟩ := h
  obtain ⟨t, rfl⟩ := rx
  obtain ⟨t', rfl⟩ := ry
  exact rule i j t t' s _ _ ⟨.bl (g i j), H, I, rfl, q⟩

theorem op_add : OpR X (binaryOp .Add) (rI0 fun i j => .int (i + j)) := opI0 fun _ _ _ _ _ _ _ q => add_int q
theorem op_sub : OpR X (binaryOp .Sub) (rI0 fun i j => .int (i - j)) := opI0 fun _ _ _ _ _ _ _ q => sub_int q
theorem op_modN : OpR X (binaryOp .Mod) (rI (fun _ j => j ≠ 0) fun i j => .int (i.fmod j)) := opI fun _ _ _ _ _ _ _ hc q => mod_int' hc q
/-! ### bools among ints: n += (a < b) -/
end

/-! ### comparisons -/
/-- the scalars that == tells apart as data does -/
def scal : V → V → Bool
  | .non, .non => true | .non, .int _ => true | .int _, .non => true | .non, .bl _ => true | .bl _, .non => true | .non, .str _ => true | .str _, .non => true
  | .int _, .int _ => true | .bl _, .bl _ => true | .str _, .str _ => true | .byt _, .byt _ => true
  | .int _, .str _ => true | .str _, .int _ => true | .bl _, .str _ => true | .str _, .bl _ => true
  | _, _ => false
def rEq : R2 := fun x y H Q => scal x y = true ∧ Q (.bl (decide (x = y))) H
def rNe : R2 := fun x y H Q => scal x y = true ∧ Q (.bl (!decide (x = y))) H

theorem dec_int {i j : Int} : decide (V.int i = V.int j) = (i == j) := by
  rw [Bool.eq_iff_iff]
  simp
theorem dec_bl {i j : Bool} : decide (V.bl i = V.bl j) = (i == j) := by
  rw [Bool.eq_iff_iff]
  simp
theorem dec_str {i j : Str} : decide (V.str i = V.str j) = (i == j) := by
  rw [Bool.eq_iff_iff]
  simp
theorem dec_byt {i j : Array UInt8} : decide (V.byt i = V.byt j) = (i.toList == j.toList) := by
  rw [Bool.eq_iff_iff]
  cases i
  cases j
  simp

section
variable {X : Cx} {a b c : Expr} {ta tb tc : TE} {pos : Pos}
theorem fin_bl {pins : List (Addr × Obj)} {σ : St} {H : Hp} {s : Shared} {Q : VK} {k k' : Bool} (I : Inv X pins σ H s) (q : Q (.bl k) H) (e : k = k') : EP X pins σ Q (.bool k') s := by
  subst e
  exact ⟨.bl k, H, I, rfl, q⟩
theorem op_eq : OpR X (compareOp .Eq) rEq := by
  intro pins s σ H x y v u Q I rx ry h
  obtain ⟨hs, q⟩ := h
  cases x with
  | non =>
    cases rx
    cases y with
    | non => cases ry; exact PySem.EqNone.eq_none_none (fin_bl I q (by simp))
    | bl j => cases ry; exact PySem.EqNone.eq_none_bool (fin_bl I q (by simp))
    | int j => obtain ⟨t', rfl⟩ := ry; exact PySem.EqNone.eq_none_int (fin_bl I q (by simp))
    | str j => obtain ⟨t', rfl⟩ := ry; exact PySem.EqNone.eq_none_str (fin_bl I q (by simp))
    | _ => exact absurd (show false = true from hs) Bool.false_ne_true
  | bl i =>
    cases rx
    cases y with
    | non => cases ry; exact PySem.EqNone.eq_bool_none (fin_bl I q (by simp))
    | bl j => cases ry; exact eq_bool (fin_bl I q dec_bl)
    | str j => obtain ⟨t', rfl⟩ := ry; exact PySem.EqMixed.eq_bool_str (fin_bl I q (by simp))
    | _ => exact absurd (show false = true from hs) Bool.false_ne_true
  | int i =>
    obtain ⟨t, rfl⟩ := rx
    cases y with
    | non => cases ry; exact PySem.EqNone.eq_int_none (fin_bl I q (by simp))
    | int j => obtain ⟨t', rfl⟩ := ry; exact eq_int (fin_bl I q dec_int)
    | str j => obtain ⟨t', rfl⟩ := ry; exact PySem.EqMixed.eq_int_str (fin_bl I q (by simp))
    | _ => exact absurd (show false = true from hs) Bool.false_ne_true
  | str i =>
    obtain ⟨t, rfl⟩ := rx
    cases y with
    | non => cases ry; exact PySem.EqNone.eq_str_none (fin_bl I q (by simp))
    | bl j => cases ry; exact PySem.EqMixed.eq_str_bool (fin_bl I q (by simp))
    | int j => obtain ⟨t', rfl⟩ := ry; exact PySem.EqMixed.eq_str_int (fin_bl I q (by simp))
    | str j => obtain ⟨t', rfl⟩ := ry; exact eq_str (fin_bl I q dec_str)
    | _ => exact absurd (show false = true from hs) Bool.false_ne_true
  | byt i =>
    obtain ⟨t, rfl⟩ := rx
    cases y with
    | byt j => obtain ⟨t', rfl⟩ := ry; exact PySem.W.eq_bytes (fin_bl I q dec_byt)
    | _ => exact absurd (show false = true from hs) Bool.false_ne_true
  | _ => cases y <;> exact absurd (show false = true from hs) Bool.false_ne_true
theorem op_ne : OpR X (compareOp .NotEq) rNe := by
  intro pins s σ H x y v u Q I rx ry h
  obtain ⟨hs, q⟩ := h
  cases x with
  | non =>
    cases rx
    cases y with
    | non => cases ry; exact PySem.EqNone.ne_none_none (fin_bl I q (by simp))
    | bl j => cases ry; exact PySem.EqNone.ne_none_bool (fin_bl I q (by simp))
    | int j => obtain ⟨t', rfl⟩ := ry; exact PySem.EqNone.ne_none_int (fin_bl I q (by simp))
    | str j => obtain ⟨t', rfl⟩ := ry; exact PySem.EqNone.ne_none_str (fin_bl I q (by simp))
    | _ => exact absurd (show false = true from hs) Bool.false_ne_true
  | bl i =>
    cases rx
    cases y with
    | non => cases ry; exact PySem.EqNone.ne_bool_none (fin_bl I q (by simp))
    | bl j => cases ry; exact ne_bool (fin_bl I q (congrArg not dec_bl))
    | str j => obtain ⟨t', rfl⟩ := ry; exact PySem.EqMixed.ne_bool_str (fin_bl I q (by simp))
    | _ => exact absurd (show false = true from hs) Bool.false_ne_true
  | int i =>
    obtain ⟨t, rfl⟩ := rx
    cases y with
    | non => cases ry; exact PySem.EqNone.ne_int_none (fin_bl I q (by simp))
    | int j => obtain ⟨t', rfl⟩ := ry; exact ne_int (fin_bl I q (congrArg not dec_int))
    | str j => obtain ⟨t', rfl⟩ := ry; exact PySem.EqMixed.ne_int_str (fin_bl I q (by simp))
    | _ => exact absurd (show false = true from hs) Bool.false_ne_true
  | str i =>
    obtain ⟨t, rfl⟩ := rx
    cases y with
    | non => cases ry; exact PySem.EqNone.ne_str_none (fin_bl I q (by simp))
    | bl j => cases ry; exact PySem.EqMixed.ne_str_bool (fin_bl I q (by simp))
    | int j => obtain ⟨t', rfl⟩ := ry; exact PySem.EqMixed.ne_str_int (fin_bl I q (by simp))
    | str j => obtain ⟨t', rfl⟩ := ry; exact ne_str (fin_bl I q (congrArg not dec_str))
    | _ => exact absurd (show false = true from hs) Bool.false_ne_true
  | byt i =>
    obtain ⟨t, rfl⟩ := rx
    cases y with
    | byt j => obtain ⟨t', rfl⟩ := ry; exact PySem.W.ne_bytes (fin_bl I q (congrArg not dec_byt))
    | _ => exact absurd (show false = true from hs) Bool.false_ne_true
  | _ => cases y <;> exact absurd (show false = true from hs) Bool.false_ne_true

theorem op_lt : OpR X (compareOp .Lt) (rI0 fun i j => .bl (decide (i < j))) := opB0 fun _ _ _ _ _ _ _ q => lt_int q
theorem op_gt : OpR X (compareOp .Gt) (rI0 fun i j => .bl (decide (j < i))) := opB0 fun _ _ _ _ _ _ _ q => gt_int q
/-- is None, is not None: the right side a value none -/
theorem op_isN : OpR X (compareOp .Is) (fun x y H Q => y = .non ∧ Q (.bl (decide (x = .non))) H) := by
  intro pins s σ H x y v u Q I rx ry h
  obtain ⟨rfl, q⟩ := h
  cases ry
  refine is_none_gen (fin_bl I q ?_)
  cases x <;> first
    | (cases rx; rfl)
    | (obtain ⟨t, rfl⟩ := rx; rfl)
theorem nomark (b : Expr) {op : CmpOp} (h : op ≠ .In := by decide) (h2 : op ≠ .NotIn := by decide) : behindInMarks op b = false := by
  have e1 : (op == CmpOp.In) = false := by cases op <;> first | rfl | exact absurd rfl h
  have e2 : (op == CmpOp.NotIn) = false := by cases op <;> first | rfl | exact absurd rfl h2
  cases b <;> simp [behindInMarks, e1, e2]
/-- a comparison as a value; hm: nomark b, or (for in, not in) by with_unfolding_all rfl -/
theorem pe_cmpR {op : CmpOp} {r : R2} (ho : OpR X (compareOp op) r) (ha : PE X a ta) (hb : PE X b tb) (hm : behindInMarks op b = false) : PE X (.Compare a [op] [b] pos) (tOp r ta tb) := by
  intro pins s σ H Q I h
  exact wpAny_Compare1 (binT ha hb I h fun v u s2 x y H2 I2 rx ry q => ho pins s2 σ H2 x y v u Q I2 rx ry q) hm
/-- a reading of a value as a test -/
def tTest (t : TE) : TT := fun σ H Q => t σ H fun x H' => ∃ k, x = .bl k ∧ Q k H'
theorem pt_cmpR {op : CmpOp} {r : R2} (ho : OpR X (compareOp op) r) (ha : PE X a ta) (hb : PE X b tb) (hm : behindInMarks op b = false) : PT X (.Compare a [op] [b] pos) (tTest (tOp r ta tb)) := by
  intro pins s σ H Q I h
  refine wpAny_isTrue_Compare1 (thn (ha pins s σ H _ I h) fun v s1 ⟨x, H1, I1, r1, q1⟩ => thn (hb pins s1 σ H1 _ I1 q1) fun u s2 ⟨y, H2, I2, r2, q2⟩ =>
    thn (ho pins s2 σ H2 x y v u _ I2 r1 r2 q2) fun c s3 ⟨z, H3, I3, r3, k, e, q3⟩ => ?_) hm
  subst e
  cases r3
  exact wpAny_truthy_bool ⟨H3, I3, q3⟩
/-! ### truth -/
theorem line63 : (sizeLine : Nat) < 2 ^ 63 := by rw [sizeLine_eq]; decide
/-! ### strs and bytes -/
theorem op_add_str : OpR X (binaryOp .Add) (fun x y H Q => ∃ i j, x = .str i ∧ y = .str j ∧ i.length + j.length ≤ sizeLine ∧ Q (.str (i ++ j)) H) := by
  intro pins s σ H x y v u Q I rx ry h
  obtain ⟨i, j, rfl, rfl, hz, q⟩ := h
  obtain ⟨t, rfl⟩ := rx
  obtain ⟨t', rfl⟩ := ry
  exact add_str (fun t' tk => ⟨.str (i ++ j), H, I.tok _, ⟨_, rfl⟩, q⟩) hz
/-! ### scalar builtins, by CallR -/
theorem vals1 {x : V} {us : List Value} (r : Vals [x] us) : ∃ u, us = [u] ∧ RelV x u := by
  cases r with
  | cons r1 r2 => cases r2; exact ⟨_, rfl, r1⟩
theorem vals2 {x y : V} {us : List Value} (r : Vals [x, y] us) : ∃ u w', us = [u, w'] ∧ RelV x u ∧ RelV y w' := by
  cases r with
  | cons r1 r2 =>
    cases r2 with
    | cons r3 r4 => cases r4; exact ⟨_, _, rfl, r1, r3⟩
theorem call_str_int : CallR X (.type "str") (fun xs H Q => ∃ i, xs = [.int i] ∧ i.natAbs.log2 < 1920 ∧ Q (.str (toString i)) H) := by
  intro pins s σ H xs us Q I r h
  obtain ⟨i, rfl, hz, q⟩ := h
  obtain ⟨u, rfl, t, rfl⟩ := vals1 r
  exact PySem.P.str_of_int hz ⟨.str _, H, I.tok _, ⟨_, rfl⟩, q⟩
end
end L2

namespace L2
open PySem PySem.Spec PyProof.Rows

/-! ### an instance, its attributes a map -/
structure ObjM (h : Heap) (x dx C : Addr) (mA : Str → Option Value) : Prop where
  obj : h.get? x = some (PySem.W.instObj C dx)
  ns : h.Ns1 dx mA
  ne : dx ≠ x

theorem lookIn_ns {h : Heap} {dx : Addr} {mA : Str → Option Value} (n : h.Ns1 dx mA) : ∃ od, h.get? dx = some od ∧ ∀ name, PySem.W.lookIn name od = some (mA name) := by
  obtain ⟨o, es, ep, ho, hd, hk, _, hm⟩ := n
  refine ⟨o, ho, fun name => ?_⟩
  have e := hm name
  unfold nsFind findBy at e
  rw [← Array.find?_toList] at e
  unfold PySem.W.lookIn
  rw [hd]
  dsimp only
  split
  · rename_i y q
    rw [q] at e
    exact congrArg some e
  · rename_i q
    rw [q] at e
    have a : es.toList.any (·.refKey) = false := by
      rw [List.any_eq_false]
      intro y hy
      obtain ⟨z, t, hkey⟩ := hk y (Array.mem_toList_iff.mp hy)
      simp [DictEntry.refKey, hkey]
    have a' : ¬ es.toList.any (·.refKey) = true := by rw [a]; exact Bool.false_ne_true
    rw [if_neg a']
    exact congrArg some e

theorem ObjM.look {h : Heap} {x dx C : Addr} {mA : Str → Option Value} (I : ObjM h x dx C mA) : ∃ od, PySem.W.InstAt h x (PySem.W.instObj C dx) C (some od) ∧ ∀ name, PySem.W.lookIn name od = some (mA name) :=
  let ⟨od, ho, hl⟩ := lookIn_ns I.ns
  ⟨od, ⟨I.obj, rfl, rfl, ho⟩, hl⟩

section
variable {prog : Program} {w : World} {A : Around} {E : Value → Shared → Prop} {s : Shared} {K : PySem.W.Frag} {x dx C f : Addr} {mA : Str → Option Value} {name : Str} {v : Value}

end

/-! ### the attributes as a list of pairs -/
theorem RelO.some_of {v : V} {o : Option Value} (r : RelO (some v) o) : ∃ u, o = some u ∧ RelV v u := by
  cases o with
  | none => exact (show False from r).elim
  | some u => exact ⟨u, rfl, r⟩
theorem handed_of {v : V} {u : Value} (r : RelV v u) : PySem.W.handedIn u = true := by
  cases v with
  | non => cases (show u = Value.none from r); rfl
  | bl b => cases (show u = Value.bool b from r); rfl
  | int i => obtain ⟨t, e⟩ := (show ∃ t, u = Value.int i t from r); cases e; rfl
  | str x => obtain ⟨t, e⟩ := (show ∃ t, u = Value.str x t from r); cases e; rfl
  | byt b => obtain ⟨t, e⟩ := (show ∃ t, u = Value.bytes b t from r); cases e; rfl
  | flt b => obtain ⟨t, e⟩ := (show ∃ t, u = Value.float b t from r); cases e; rfl
  | ref a => cases (show u = Value.ref a from r); rfl
  | ty n => cases (show u = Value.type n from r); rfl

section
variable {P : Program} {w : World} {H H' : Hp} {h h' : Heap} {a C dx : Addr} {fs fs' : List (Str × V)}
theorem ins_get (hok : HOk P w H h) (e : H a = some (.ins C dx fs)) : ∃ mA, ObjM h a dx C mA ∧ (∀ f, RelO (fs.lookup f) (mA f)) ∧ PySem.Within mA (fs.map (·.1)) ∧ fs.length ≤ 1000 ∧ H dx = some (.own a) := by
  obtain ⟨d, z, ne, ob, mA, n, r, q⟩ := (show ObjOk P w H h a (.ins C dx fs) from hok a _ e)
  exact ⟨mA, ⟨ob, n, ne⟩, r, q, z, d⟩
end

/-! ### what of the text a class must have -/
structure Cls (K : PySem.W.Frag) (C : Addr) : Prop where
  pg : PySem.W.plainGet K C Str.empty = true
  hd : PySem.W.hasDictIn K C = true
  po : PySem.W.plainOver K C = true
  sa : PySem.W.findIn K (.ref C) "__setattr__" = some (some (.builtin "object.__setattr__"))
theorem Cls.get {K : PySem.W.Frag} {C : Addr} (c : Cls K C) (f : Str) : PySem.W.plainGet K C f = true := c.pg
section
variable {X : Cx} {pins : List (Addr × Obj)} {σ : St} {H : Hp} {s : Shared} {a C dx : Addr} {fs : List (Str × V)} {f : Str} {v : V} {A : Around} {E : Value → Shared → Prop}

/-- e.f where nothing but the object is asked: through attributeBase (super) and the last hold -/
theorem attr_of {prog : Program} {w : World} {env : Env} {e : Expr} {f : Str} {pos : Pos} {s : Shared} {Q : Value → Shared → Prop} (hb : attributeBase e f env (eval e env) = eval e env)
    (h : wpAny (model prog w) A (eval e env) (fun o s₁ => wpAny (model prog w) A (getAttr o f true) Q E s₁) E s) : wpAny (model prog w) A (eval (.Attribute e f pos) env) Q E s :=
  Attribute_any_ h (by rw [arm_eval_Attribute, hb])
end

/-! ### readings and rules -/
section
variable {X : Cx} {o e value : Expr} {f : Str} {pos pos' tpos : Pos} {ta tv : TE}
end

/-! ### isinstance -/
section
variable {X : Cx} {pins : List (Addr × Obj)} {σ : St} {H : Hp} {s : Shared} {A : Around} {E : Value → Shared → Prop} {Q : Value → Shared → Prop} {c : Value} {b : Bool}
/-- the type of a value, as the fragment's deciders take it; for an instance its class -/
inductive TyOf (K : PySem.W.Frag) (H : Hp) : V → Value → Prop where
  | non : TyOf K H .non (.type "NoneType")
  | bl (x : Bool) : TyOf K H (.bl x) (.type "bool")
  | int (i : Int) : TyOf K H (.int i) (.type "int")
  | str (x : Str) : TyOf K H (.str x) (.type "str")
  | flt (x : UInt64) : TyOf K H (.flt x) (.type "float")
  | lst {a : Addr} {xs : List V} (e : H a = some (.lst xs)) : TyOf K H (.ref a) (.type "list")
  | frz {a : Addr} {o : Obj} {xs : List V} (e : H a = some (.frz o (.lst xs))) : TyOf K H (.ref a) (.type "list")
  | tup {a : Addr} {xs : List V} (e : H a = some (.tup xs)) : TyOf K H (.ref a) (.type "tuple")
  | dK {a : Addr} {kvs : List (Key × V)} (e : H a = some (.dK kvs)) : TyOf K H (.ref a) (.type "dict")
  | dT {a : Addr} {kvs : List (List Key × V)} (e : H a = some (.dT kvs)) : TyOf K H (.ref a) (.type "dict")
  | ins {a C dx : Addr} {fs : List (Str × V)} (e : H a = some (.ins C dx fs)) (cl : Cls K C) (ha : PySem.W.findIn K (.ref C) "__class__" = some (some (.builtin "object.__class__")))
      (hn : PySem.W.specialIn K (.builtin "object.__class__") "__get__" = some (some (.builtin "getset_descriptor.__get__"))) (htk : PySem.W.takesIn K (.builtin "object.__class__") = some true)
      (hm : PySem.W.mroIn K C (.type "object") = some true) : TyOf K H (.ref a) (.ref C)
/-- isinstance(x, c) for one class c, a built-in or an own one: kitOne's answer -/
theorem isinst_ok {x : V} {u t : Value} (I : Inv X pins σ H s) (rx : RelV x u) (ty : TyOf X.K H x t) (e : PySem.W.kitOne X.K t c = some b) (h : ∀ tk, Q (.bool b) { s with toks := tk }) :
    wpAny (model X.prog X.w) A (call (.builtin "isinstance") [u, c]) Q E s := by
  cases ty with
  | non => cases (show u = Value.none from rx); exact PySem.W.kia_one PySem.W.kitx_none I.kIn True.intro e (fun z => nomatch z) h
  | bl y => cases (show u = Value.bool y from rx); exact PySem.W.kia_one PySem.W.kitx_bool I.kIn True.intro e (fun z => nomatch z) h
  | int i => obtain ⟨t, q⟩ := (show ∃ t, u = Value.int i t from rx); cases q; exact PySem.W.kia_one PySem.W.kitx_int I.kIn True.intro e (fun z => nomatch z) h
  | str y => obtain ⟨t, q⟩ := (show ∃ t, u = Value.str y t from rx); cases q; exact PySem.W.kia_one PySem.W.kitx_str I.kIn True.intro e (fun z => nomatch z) h
  | flt y => obtain ⟨t, q⟩ := (show ∃ t, u = Value.float y t from rx); cases q; exact PySem.W.kia_one PySem.W.kitx_float I.kIn True.intro e (fun z => nomatch z) h
  | @lst a xs ea =>
    cases (show u = Value.ref a from rx)
    obtain ⟨_, _, n, _, h1⟩ := (show ObjOk X.prog X.w H s.heap a (.lst xs) from I.hok a _ ea)
    exact PySem.W.kia_one PySem.W.kitx_list I.kIn ⟨_, h1, rfl⟩ e (fun z => nomatch z) h
  | @frz a ob xs ea =>
    cases (show u = Value.ref a from rx)
    obtain ⟨_, _, _, n, _, h1⟩ := (show ObjOk X.prog X.w H s.heap a (.frz ob (.lst xs)) from I.hok a _ ea)
    exact PySem.W.kia_one PySem.W.kitx_list I.kIn ⟨_, h1, rfl⟩ e (fun z => nomatch z) h
  | @tup a xs ea =>
    cases (show u = Value.ref a from rx)
    obtain ⟨_, _, _, p⟩ := (show ObjOk X.prog X.w H s.heap a (.tup xs) from I.hok a _ ea)
    obtain ⟨o, h1, h2, _⟩ := p
    exact PySem.W.kia_one PySem.W.kitx_tuple I.kIn ⟨o, h1, h2⟩ e (fun z => nomatch z) h
  | @dK a kvs ea =>
    cases (show u = Value.ref a from rx)
    obtain ⟨_, _, vs, _, p⟩ := (show ObjOk X.prog X.w H s.heap a (.dK kvs) from I.hok a _ ea)
    obtain ⟨o, es, ep, h1, h2, _⟩ := p
    exact PySem.W.kia_one PySem.W.kitx_dict I.kIn ⟨o, h1, h2.1⟩ e (fun z => nomatch z) h
  | @dT a kvs ea =>
    cases (show u = Value.ref a from rx)
    obtain ⟨_, _, xs, _, o, es, ep, h1, h2, _⟩ := (show ObjOk X.prog X.w H s.heap a (.dT kvs) from I.hok a _ ea)
    exact PySem.W.kia_one PySem.W.kitx_dict I.kIn ⟨o, h1, h2.1⟩ e (fun z => nomatch z) h
  | @ins a C dx fs ea cl ha hn htk hm =>
    cases (show u = Value.ref a from rx)
    obtain ⟨mA, O, _⟩ := ins_get I.hok ea
    obtain ⟨od, J, _⟩ := O.look
    exact PySem.W.kia_one (PySem.W.kitx_own (cl.get _) cl.hd ha hn htk hm) I.kIn J e (fun z => nomatch z) h
end
end L2

namespace L2
open PySem PySem.Spec PyProof.Rows

/-! ### room -/
structure Room (k : Nat) (A : Around) : Prop where
  hd : A.handled = none
  dp : A.depth + 3 * k + 5 < recursionLimit
  un : A.units + 16 * k + 200 < cLine
theorem Room.mono {j k : Nat} {A : Around} (r : Room k A) (h : j ≤ k) : Room j A := ⟨r.hd, by have := r.dp; omega, by have := r.un; omega⟩
theorem Room.deeper {k : Nat} {A : Around} (r : Room (k + 1) A) (env : Env) : Room k (A.deeper env) :=
  ⟨r.hd, by have := r.dp; show A.depth + 1 + 3 * k + 5 < _; omega, by have := r.un; show A.units + 3 + 16 * k + 200 < _; omega⟩
theorem make_depth {A : Around} {C : Addr} {us : List Value} {kw : List (Str × Value)} : (A.under (.builtin "type.__call__" ⟨.ref C :: us, kw⟩)).depth = A.depth + 1 := by
  first | rfl | simp [Around.under, Code.weight, Code.isCreation, Code.isGuard, Code.isCaller, Code.frames, Code.isFrame, guardIds]
theorem make_units {A : Around} {C : Addr} {us : List Value} {kw : List (Str × Value)} : (A.under (.builtin "type.__call__" ⟨.ref C :: us, kw⟩)).units = A.units + 1 := by
  first | rfl | simp [Around.under, Code.cUnits, Code.frames, Code.isFrame]
theorem Room.make {k : Nat} {A : Around} (r : Room (k + 1) A) (C : Addr) (us : List Value) (kw : List (Str × Value)) : Room k (A.under (.builtin "type.__call__" ⟨.ref C :: us, kw⟩)) :=
  ⟨r.hd, by have := r.dp; rw [make_depth]; omega, by have := r.un; rw [make_units]; omega⟩
theorem Room.depth {k : Nat} {A : Around} (r : Room k A) : A.depth < recursionLimit := by have := r.dp; omega
theorem Room.units {k : Nat} {A : Around} (r : Room k A) : A.units + 64 < cLine := by have := r.un; omega
/-! ### argument lists and displays -/
def tNil : TA := fun _ H Q => Q [] H
def tCons (ta : TE) (tr : TA) : TA := fun σ H Q => ta σ H fun x H1 => tr σ H1 fun xs H2 => Q (x :: xs) H2
section
variable {X : Cx} {e : Expr} {es : List Expr} {te : TE} {t : TA} {pos : Pos}
theorem pa_nil : PA X [] tNil := fun _ _ _ _ H Q I h => Calls.spliced_nil ⟨[], H, I, .nil, h⟩
theorem pa_cons (ha : PE X e te) (hr : PA X es t) (hs : starEach (e :: es) X.env = (false, eval e X.env) :: starEach es X.env := by rfl) : PA X (e :: es) (tCons te t) := by
  intro pos pins s σ H Q I h
  rw [hs]
  show wpAny _ _ (spliced ((false, eval e X.env) :: backTo pos (starEach es X.env))) _ _ s
  refine Calls.spliced_cons (thn (ha pins s σ H _ I h) fun u s1 ⟨x, H1, I1, r1, q1⟩ => ?_)
  exact thn (hr pos pins s1 σ H1 _ I1 q1) fun us s2 ⟨xs, H2, I2, r2, q2⟩ => ⟨x :: xs, H2, I2, .cons r1 r2, q2⟩

/-- a tuple, a list of written items -/
def tTup (t : TA) : TE := fun σ H Q => t σ H fun xs H1 => xs.length ≤ sizeLine ∧ ∀ p, H1 p = none → Q (.ref p) (upd H1 p (.tup xs))
def tLst (t : TA) : TE := fun σ H Q => t σ H fun xs H1 => xs.length ≤ sizeLine ∧ ∀ p, H1 p = none → Q (.ref p) (upd H1 p (.lst xs))
theorem pe_tup {x1} (h : PA X es t) : PE X (.Tuple es x1 pos) (tTup t) := by
  intro pins s σ H Q I hq
  refine wpAny_Tuple_spliced (thn (h pos pins s σ H _ I hq) fun us s1 ⟨xs, H1, I1, r, z, q⟩ => ⟨by rw [← r.length]; exact z, ?_⟩)
  have hf : H1 s1.heap.objs.size = none := I1.hok.fresh (Nat.le_refl _)
  refine ⟨.ref s1.heap.objs.size, upd H1 s1.heap.objs.size (.tup xs), I1.laid (t' := s1.toks) (fun b u e => Heap.get?_push_of_some _ e) (Nat.le_refl _) ?_, rfl, q _ hf⟩
  exact ⟨z, us, r, ⟨_, Heap.get?_push_size _ rfl, rfl, _, rfl⟩⟩
theorem pe_lst (h : PA X es t) : PE X (.List es pos) (tLst t) := by
  intro pins s σ H Q I hq
  refine wpAny_List_spliced (thn (h pos pins s σ H _ I hq) fun us s1 ⟨xs, H1, I1, r, z, q⟩ => ⟨by rw [← r.length]; exact z, ?_⟩)
  have hf : H1 s1.heap.objs.size = none := I1.hok.fresh (Nat.le_refl _)
  refine ⟨.ref s1.heap.objs.size, upd H1 s1.heap.objs.size (.lst xs), I1.laid (t' := s1.toks) (fun b u e => Heap.get?_push_of_some _ e) (Nat.le_refl _) ?_, rfl, q _ hf⟩
  exact ⟨z, us, 0, r, Heap.get?_push_size _ rfl⟩
end

/-! ### what a def promises -/
/-- a def's promise: the bound arguments in the parameters' order, the heap, the wanted end, the wanted exception -/
abbrev Sp := List V → Hp → VK → XK → Prop
/-- how an exception lies behind a call (file 08 gives it): the callers' frames, abstract heap and state ahead of the call, the wish, the exception, the state -/
abbrev CXT := List Env → Hp → Shared → XK → Value → Shared → Prop

/-- the state at a call -/
structure Env0 (P : Program) (w : World) (K : PySem.W.Frag) (mg : Str → Option Value) (base : Heap) (A : Around) (outer : List Env) (s : Shared) (H : Hp) : Prop where
  frames : A.frames = some outer
  mod : Mod K mg base
  bs : ∀ b o, base.get? b = some o → s.heap.get? b = some o ∧ H b = none
  bsz : base.objs.size ≤ s.heap.objs.size
  funs : s.heap.FunFrames base outer
  frf : ∀ b ∈ frs outer, H b = none
  hok : HOk P w H s.heap
  bare : AllBare s.gens
/-- a call's end -/
def CE (outer : List Env) (P : Program) (w : World) (H : Hp) (s : Shared) (Q : VK) (u : Value) (s' : Shared) : Prop :=
  ∃ v H', s'.os = s.os ∧ AllBare s'.gens ∧ Un (frs outer) [] H H' s.heap s'.heap ∧ HOk P w H' s'.heap ∧ RelV v u ∧ Q v H'
def CR (CX : CXT) (outer : List Env) (P : Program) (w : World) (H : Hp) (s : Shared) (Q : VK) (E : XK) (r : Result) (s' : Shared) : Prop :=
  match r with
  | .ok (.ret u) => CE outer P w H s Q u s'
  | .ok _ => False
  | .error e => CX outer H s E e s'
structure FnOk (P : Program) (w : World) (K : PySem.W.Frag) (mg : Str → Option Value) (base : Heap) (CX : CXT) (k : Nat) (f : Addr) (fd : FuncData) (ps : List Str) (sp : Sp) : Prop where
  len : ∀ vs H Q E, sp vs H Q E → vs.length = ps.length
  run : ∀ (A : Around) (outer : List Env) (s : Shared) (H : Hp) (args : Args) (us : List Value) (vs : List V) (Q : VK) (E : XK), Room k A → Env0 P w K mg base A outer s H → BindsTo s fd args (ps.zip us) → Vals vs us → sp vs H Q E →
    codeAny (model P w) A (.call (.ref f) args) (CR CX outer P w H s Q E) s
theorem Env0.make {P : Program} {w : World} {K : PySem.W.Frag} {mg : Str → Option Value} {base : Heap} {A : Around} {outer : List Env} {s : Shared} {H : Hp} (e : Env0 P w K mg base A outer s H) (C : Addr) (us : List Value) (kw : List (Str × Value)) :
    Env0 P w K mg base (A.under (.builtin "type.__call__" ⟨.ref C :: us, kw⟩)) outer s H := ⟨by first | exact e.frames | (simpa [Around.under, Code.envs, Code.isFrame, pushEnvs] using e.frames), e.mod, e.bs, e.bsz, e.funs, e.frf, e.hok, e.bare⟩
section
variable {X : Cx} {pins : List (Addr × Obj)} {σ : St} {H : Hp} {s s' : Shared}
/-- from a body: what a callee wants -/
theorem Inv.env0 (I : Inv X pins σ H s) : Env0 X.prog X.w X.K X.mg X.base X.A X.stack s H :=
  ⟨I.ok.frames, I.ok.mod, I.bs, Nat.le_trans I.ok.bsz I.sz, I.stack, I.stkFree, I.hok, I.bare⟩
/-- behind a call -/
theorem Inv.after {Q : VK} {u : Value} (I : Inv X pins σ H s) (h : CE X.stack X.prog X.w H s Q u s') : EP X pins σ Q u s' := by
  obtain ⟨v, H', os, bare, un, hok, r, q⟩ := h
  obtain ⟨hh, g, d, t, os'⟩ := s'
  obtain rfl : os' = s.os := os
  exact ⟨v, H', I.call (h' := hh) (g' := g) (d' := d) (t' := t) (ch := []) un hok bare (fun b z => absurd z (by simp)), r, q⟩
end

/-! ### calls -/
/-- f(..): the written arguments, then the defaults dvs; E: what is wanted of an exception -/
def tCall (sp : Sp) (dvs : List V) (E : XK) (t : TA) : TE := fun σ H Q => t σ H fun vs H1 => sp (vs ++ dvs) H1 Q E
/-- how the parameters are bound: us the positional arguments, kw the keywords' values by name, ds the defaults that fill up -/
def Binds (K : PySem.W.Frag) (fd : FuncData) (ps : List Str) (ds : List Value) : Prop :=
  ∀ (s : Shared) (us : List Value), K.In s.heap → (us ++ ds).length = ps.length → BindsTo s fd ⟨us, []⟩ (ps.zip (us ++ ds))
/-- every parameter is given -/
theorem Binds.all {K : PySem.W.Frag} {fd : FuncData} {ps : List Str} (h : ∀ us : List Value, us.length = ps.length → bindArgs fd ⟨us, []⟩ = pure (ps.zip us)) : Binds K fd ps [] := fun s us _ hl => by
  rw [List.append_nil] at hl ⊢
  exact .of_eq (h us hl)

/-- an exception of a callee reaches what this body wants of exceptions -/
def Passes (CX : CXT) (X : Cx) (E : XK) : Prop := ∀ (pins : List (Addr × Obj)) (σ : St) (H : Hp) (s : Shared) (e : Value) (s' : Shared), Inv X pins σ H s → CX X.stack H s E e s' → X.xe e s'

section
variable {X : Cx} {CX : CXT} {k : Nat} {f C : Addr} {fd : FuncData} {ps : List Str} {sp : Sp} {dvs : List V} {ds : List Value} {E : XK} {x m : Str} {p pos apos : Pos} {e o : Expr} {es : List Expr} {ta : TE} {t : TA}

/-- the callee runs -/
theorem run_fn {pins : List (Addr × Obj)} {σ : St} {H : Hp} {s : Shared} {Q : VK} {us : List Value} {vs : List V} (F : FnOk X.prog X.w X.K X.mg X.base CX k f fd ps sp) (hr : Room k X.A) (hb : Binds X.K fd ps ds) (hd : Vals dvs ds) (hx : Passes CX X E)
    (I : Inv X pins σ H s) (r : Vals vs us) (h : sp (vs ++ dvs) H Q E) : wpAny (model X.prog X.w) X.A (call (.ref f) us) (EP X pins σ Q) X.xe s := by
  have r2 : Vals (vs ++ dvs) (us ++ ds) := r.append hd
  have hl : (us ++ ds).length = ps.length := by rw [← r2.length]; exact F.len _ _ _ _ h
  refine wpAny_call (codeAny_mono (F.run X.A X.stack s H ⟨us, []⟩ (us ++ ds) (vs ++ dvs) Q E hr I.env0 (hb s us I.kIn hl) r2 h) fun r s' hq => ?_)
  cases r with
  | error e => exact hx pins σ H s e s' I hq
  | ok fl =>
    cases fl with
    | ret u => exact I.after hq
    | next => exact False.elim hq
    | brk => exact False.elim hq
    | cont => exact False.elim hq

theorem pe_call (F : FnOk X.prog X.w X.K X.mg X.base CX k f fd ps sp) (hr : Room k X.A) (hg : Gl X x) (hm : X.mg x = some (.ref f)) (hk : PySem.W.keepIn X.K (.ref f) = true) (hb : Binds X.K fd ps ds) (hd : Vals dvs ds) (hx : Passes CX X E)
    (ha : PA X (e :: es) t) (hdb : (x == ("__debug__" : Str)) = false := by decide) (he : starEach (e :: es) X.env = (false, eval e X.env) :: starEach es X.env := by rfl) (hpl : (backTo pos (starEach es X.env)).any (·.1) = false := by rfl) :
    PE X (.Call (.Name x p) (e :: es) [] pos) (tCall sp dvs E t) := by
  intro pins s σ H Q I h
  refine wpAny_Call_Name_kw (ld_glob I hg hm ?_ hdb)
  refine PySem.W.callWith_K (h₀ := X.base) I.ok.mod.kin hk (thn (ha pos pins s σ H _ I h) fun us s1 ⟨vs, H1, I1, r, q⟩ => ⟨I1.kIn, ?_⟩) he hpl
  exact run_fn F hr hb hd hx I1 r q
end

/-! ### keywords -/
section
variable {X : Cx} {CX : CXT} {k : Nat} {f C : Addr} {fd : FuncData} {ps ks : List Str} {sp : Sp} {E : XK} {x m : Str} {p pos apos kpos : Pos} {e o : Expr} {es : List Expr} {kws : List Keyword} {te ta : TE} {t tk : TA} {nm : Option Str}
variable {g : List Value → List Value → List Value} {gV : List V → List V → List V}
end

/-! ### a def's body keeps its promise -/
/-- names: the parameters first -/
structure FnScope (N P : List Str) (sc : Scope) : Prop where
  kind : sc.kind = .function
  co : sc.isCoroutine = false
  gen : sc.isGenerator = false
  nd : N.Nodup
  pre : N.take P.length = P
  par : ∀ x ∈ P, sc.names.lookup x = some .local ∨ sc.names.lookup x = some .cell
  nofree : ∀ y ∈ sc.names, y.2 ≠ .free

theorem bindL_out {kindOf : Str → Option NameKind} {x : Str} : ∀ {binds : List (Str × Value)} {m : Str → Option Value}, (∀ v, (x, v) ∉ binds) → bindL kindOf binds m x = m x
  | [], _, _ => rfl
  | (n, v) :: r, m, h => by
    unfold bindL
    rw [bindL_out fun w hw => h w (List.mem_cons_of_mem _ hw)]
    split
    · have : x ≠ n := by rintro rfl; exact h v List.mem_cons_self
      simp [this]
    · rfl
theorem bindC_out {kindOf : Str → Option NameKind} {x : Str} : ∀ {binds : List (Str × Value)} {m : Str → Option Value}, (∀ v, (x, v) ∉ binds) → bindC kindOf binds m x = m x
  | [], _, _ => rfl
  | (n, v) :: r, m, h => by
    unfold bindC
    rw [bindC_out fun w hw => h w (List.mem_cons_of_mem _ hw)]
    split
    · rfl
    · have : x ≠ n := by rintro rfl; exact h v List.mem_cons_self
      simp [this]
theorem bindL_get {kindOf : Str → Option NameKind} {x : Str} {v : Value} : ∀ {P : List Str} {vs : List Value} {i : Nat} {m : Str → Option Value}, P.Nodup → P[i]? = some x → vs[i]? = some v → kindOf x = some .local →
    bindL kindOf (P.zip vs) m x = some v
  | [], _, _, _, _, h, _, _ => by simp at h
  | _ :: _, [], _, _, _, _, h, _ => by simp at h
  | p :: P, w :: vs, 0, m, nd, h1, h2, hk => by
    simp at h1 h2; subst h1; subst h2
    show bindL kindOf ((p, w) :: P.zip vs) m p = _
    unfold bindL
    rw [bindL_out fun v hv => (List.nodup_cons.mp nd).1 (List.of_mem_zip hv).1, if_pos hk]
    simp
  | p :: P, w :: vs, i + 1, m, nd, h1, h2, hk => by
    show bindL kindOf ((p, w) :: P.zip vs) m x = _
    unfold bindL
    exact bindL_get (i := i) (List.nodup_cons.mp nd).2 (by simpa using h1) (by simpa using h2) hk
theorem bindC_get {kindOf : Str → Option NameKind} {x : Str} {v : Value} : ∀ {P : List Str} {vs : List Value} {i : Nat} {m : Str → Option Value}, P.Nodup → P[i]? = some x → vs[i]? = some v → kindOf x ≠ some .local →
    bindC kindOf (P.zip vs) m x = some v
  | [], _, _, _, _, h, _, _ => by simp at h
  | _ :: _, [], _, _, _, _, h, _ => by simp at h
  | p :: P, w :: vs, 0, m, nd, h1, h2, hk => by
    simp at h1 h2; subst h1; subst h2
    show bindC kindOf ((p, w) :: P.zip vs) m p = _
    unfold bindC
    rw [bindC_out fun v hv => (List.nodup_cons.mp nd).1 (List.of_mem_zip hv).1, if_neg hk]
    simp
  | p :: P, w :: vs, i + 1, m, nd, h1, h2, hk => by
    show bindC kindOf ((p, w) :: P.zip vs) m x = _
    unfold bindC
    exact bindC_get (i := i) (List.nodup_cons.mp nd).2 (by simpa using h1) (by simpa using h2) hk

/-- the names' values at the entry -/
def start (N : List Str) (vs : List V) : St := vs.map some ++ List.replicate (N.length - vs.length) none

/-- the context of a def's body, at its entry; an exception leaves the frame, then lies as CX says -/
def cxOf (CX : CXT) (P : Program) (w : World) (K : PySem.W.Frag) (mg : Str → Option Value) (base : Heap) (N : List Str) (qual : Str) (scope : Scope) (f : Addr) (cd : Value) (A : Around) (outer : List Env) (s : Shared) (H : Hp) (E : XK) : Cx where
  prog := P
  w := w
  K := K
  mg := mg
  base := base
  A := A.deeper (envOfC qual scope s.heap.objs.size f cd)
  N := N
  s₀ := s
  H₀ := H
  env := envOfC qual scope s.heap.objs.size f cd
  outer := outer
  stack := envOfC qual scope s.heap.objs.size f cd :: outer
  ex := []
  calm := true
  fn := fun _ => true
  pn := []
  xe := fun e s' => wpAny (model P w) (A.deeper (envOfC qual scope s.heap.objs.size f cd)) (leaving (envOfC qual scope s.heap.objs.size f cd) e) (fun _ s'' => CX outer H s E e s'') (fun e' s'' => CX outer H s E e' s'') s'

theorem cell_has {sc : Scope} {n : Nat} {x : Str} (h : sc.names.lookup x = some .cell) : ∃ c, (cellsFrom n sc.names []).lookup x = some c := by
  have q := PySem.W.cellsFrom_some sc.names n [] (.inl h)
  exact Option.isSome_iff_exists.mp q

theorem inv_start {CX : CXT} {P : Program} {w : World} {K : PySem.W.Frag} {mg : Str → Option Value} {base : Heap} {N ps : List Str} {qual : Str} {scope : Scope} {f : Addr} {cd : Value} {A : Around} {outer : List Env} {s s1 : Shared} {H : Hp} {E : XK} {us : List Value} {vs : List V}
    (S : FnScope N ps scope) (hd : A.handled = none) (e0 : Env0 P w K mg base A outer s H) (hl : vs.length = ps.length) (r : Vals vs us)
    (x : InCallC s s.heap.objs.size (bindL (envOfC qual scope s.heap.objs.size f cd).kindOf (ps.zip us) fun _ => none) (cellsFrom (s.heap.objs.size + 1) scope.names []) (bindC (envOfC qual scope s.heap.objs.size f cd).kindOf (ps.zip us) fun _ => none) s1) :
    Inv (cxOf CX P w K mg base N qual scope f cd A outer s H E) [] (start N vs) H s1 := by
  have hpl : ps.length ≤ N.length := by have := congrArg List.length S.pre; rw [List.length_take] at this; omega
  obtain ⟨h1, tk, rfl, hk⟩ := x.done
  have noA : ∀ b : Addr, b ∉ (cxOf CX P w K mg base N qual scope f cd A outer s H E).ex := fun b z => absurd (show b ∈ ([] : List Addr) from z) (by simp)
  refine ⟨⟨e0.mod, S.kind, rfl, rfl, Nat.le_refl _, fun y z c h1 h2 => ?_, fun y hy => ?_, fun y c _ h => ?_, fun _ => hd, Around.frames_deeper e0.frames, .inr ⟨rfl, rfl⟩, fun b z => absurd z (noA b), e0.bs, e0.bsz, fun b _ _ => noA b, fun b z => absurd z (noA b), e0.funs, e0.frf⟩,
    rfl, e0.bare, Un.kept hk, ⟨_, x.toInCall.ns, fun i y v h1 h2 h3 => ?_⟩, fun y c h => ⟨_, x.cell y c h⟩, e0.hok.fresh (Nat.le_refl _), fun y c h => ?_, fun p hp => absurd (show p ∈ ([] : List (Addr × Obj)) from hp) (by simp), e0.hok.kept hk, ?_⟩
  · exact name_of_addr x.apart (PySem.mem_of_lookup h1) (PySem.mem_of_lookup h2)
  · have hy : scope.names.lookup y = some .cell ∨ scope.names.lookup y = some .free := hy
    rcases hy with hy | hy
    · exact cell_has hy
    · exact absurd rfl (S.nofree _ (PySem.mem_of_lookup hy))
  · exact Nat.le_of_lt (x.above y c (PySem.mem_of_lookup h))
  · have hi : i < vs.length := by
      unfold start at h2
      by_cases hi : i < vs.length
      · exact hi
      · rw [List.getElem?_append_right (by simpa using hi)] at h2
        rw [List.getElem?_replicate] at h2
        split at h2 <;> cases h2
    have ha : vs[i]? = some v := by
      unfold start at h2
      rw [List.getElem?_append_left (by simpa using hi), List.getElem?_map] at h2
      cases e : vs[i]? with
      | none => rw [e] at h2; cases h2
      | some a => rw [e] at h2; cases h2; rfl
    obtain ⟨u, hu, rv⟩ := r.get ha
    have hp : ps[i]? = some y := by
      rw [← S.pre, List.getElem?_take_of_lt (by omega)]; exact h1
    have ndP : ps.Nodup := by rw [← S.pre]; exact S.nd.sublist (List.take_sublist _ _)
    refine ⟨u, rv, ?_⟩
    rcases S.par y (List.mem_of_getElem? hp) with k | k
    · exact .inl ⟨k, bindL_get ndP hp hu k⟩
    · obtain ⟨c, e⟩ := cell_has (n := s.heap.objs.size + 1) k
      refine .inr ⟨.inl k, c, e, ?_⟩
      have q := x.cell y c e
      rw [bindC_get ndP hp hu (by show scope.names.lookup y ≠ _; rw [k]; decide)] at q
      exact q
  · exact e0.hok.fresh (Nat.le_of_lt (x.above y c (PySem.mem_of_lookup h)))
  · unfold start
    show _ = N.length
    rw [List.length_append, List.length_map, List.length_replicate]
    omega

/-- THE RULE: a def (or a method) of the text, by its body. The body's reading t is chosen for each entry; it is run at the parameters' values -/
theorem fn_of {CX : CXT} {P : Program} {w : World} {K : PySem.W.Frag} {mg : Str → Option Value} {base : Heap} {k : Nat} {f : Addr} {name qual : Str} {params : Arguments} {body : List Stmt} {scope : Scope} {dV kV doc pm cdv ct oc : Value} {an od : Option Addr}
    {osl : Array (Option Value)} {N ps : List Str} {sp : Sp} (lk : K.lookup f = some ⟨oc, od, .func (PySem.W.fnOf name qual params body scope dV kV doc pm an cdv ct), osl⟩) (hcd : PySem.W.codeIn K cdv qual = true) (S : FnScope N ps scope)
    (len : ∀ vs H Q E, sp vs H Q E → vs.length = ps.length)
    (hbody : ∀ (A : Around) (outer : List Env) (s : Shared) (H : Hp) (vs : List V) (Q : VK) (E : XK), Room k (A.deeper (envOfC qual scope s.heap.objs.size f cdv)) → sp vs H Q E →
      ∃ t, PSs (cxOf CX P w K mg base N qual scope f cdv A outer s H E) body t ∧ t { nx := fun _ H' => Q .non H', rt := Q } (start N vs) H) :
    FnOk P w K mg base CX (k + 1) f (PySem.W.fnOf name qual params body scope dV kV doc pm an cdv ct) ps sp := by
  refine ⟨len, fun A outer s H args us vs Q E hr e0 hb r hsp => ?_⟩
  have hl := len _ _ _ _ hsp
  have KX : K.In s.heap := e0.mod.kin.keeps fun b o e => (e0.bs b o e).1
  have lim : s.heap.NoLimit := e0.mod.nolimit.keeps fun b o e => (e0.bs b o e).1
  have hkind : ∀ y ∈ ps.zip us, scope.names.lookup y.1 = some .local ∨ (scope.names.lookup y.1 = some .cell ∧ ((cellsFrom (s.heap.objs.size + 1) scope.names []).lookup y.1).isSome = true) := fun ⟨n, v⟩ hy => by
    rcases S.par n (List.of_mem_zip hy).1 with q | q
    · exact .inl q
    · exact .inr ⟨q, PySem.W.cellsFrom_some _ _ _ (.inl q)⟩
  refine codeAny_call_function hr.depth (KX _ _ lk) rfl S.co S.gen rfl (PySem.W.codeRec_of KX hcd) (hb _ _ _ _ ?_)
  refine wpAny_newFunctionEnv_cells S.kind hkind fun env he s1 x => ?_
  subst he
  refine ⟨lim.keeps x.toInCall.keep, codeAny_func ?_⟩
  obtain ⟨t, ht, hq⟩ := hbody A outer s H vs Q E (hr.deeper _) hsp
  have I : Inv (cxOf CX P w K mg base N qual scope f cdv A outer s H E) [] (start N vs) H s1 := inv_start S hr.hd e0 hl r x
  refine wpAny_mono (ht [] s1 (start N vs) H _ I hq) (fun fl s' hs => ?_) fun e s' hs => hs
  have fin : ∀ {σ' : St} {H' : Hp} {v : V} {u : Value}, Inv (cxOf CX P w K mg base N qual scope f cdv A outer s H E) [] σ' H' s' → RelV v u → Q v H' → CE outer P w H s Q u s' :=
    fun {σ' H' v u} J rv q => ⟨v, H', J.os, J.bare, J.base, J.hok, rv, q⟩
  cases fl with
  | ret u =>
    obtain ⟨v, σ', H', J, rv, q⟩ := hs
    exact fin J rv q
  | next =>
    obtain ⟨σ', H', J, q⟩ := hs
    exact fin (v := V.non) (u := Value.none) J rfl q
  | brk =>
    obtain ⟨_, _, _, q⟩ := hs
    exact False.elim q
  | cont =>
    obtain ⟨_, _, _, q⟩ := hs
    exact False.elim q
end L2

namespace L2
open PySem PySem.Spec PyProof.Rows
section
variable {X : Cx} {x : Str} {p pos : Pos} {e : Expr} {es : List Expr} {t : TA} {id T : String} {r : List V → Hp → VK → Prop}

def tCB (r : List V → Hp → VK → Prop) (t : TA) : TE := fun σ H Q => t σ H fun vs H1 => r vs H1 Q
/-- f(e, ..), f a built-in function -/
theorem pe_callB (hc : CallR X (.builtin id) r) (hg : Gl X x) (hm : X.mg x = none) (hv : bootBuiltins x = some (.builtin id)) (ha : PA X (e :: es) t) (hn : x ≠ "__name__" := by decide) (hdb : (x == ("__debug__" : Str)) = false := by decide)
    (he : starEach (e :: es) X.env = (false, eval e X.env) :: starEach es X.env := by rfl) (hpl : (backTo pos (starEach es X.env)).any (·.1) = false := by rfl) : PE X (.Call (.Name x p) (e :: es) [] pos) (tCB r t) := by
  intro pins s σ H Q I h
  refine wpAny_Call_Name_kw (ld_blt I hg hm hv ?_ hn hdb)
  exact PyProof.Rows.callWith_builtin1 (thn (ha pos pins s σ H _ I h) fun us s1 ⟨vs, H1, I1, r1, q1⟩ => hc pins s1 σ H1 vs us Q I1 r1 q1) he hpl
/-- T(e, ..), T a built-in type -/
theorem pe_callTy (hc : CallR X (.type T) r) (hg : Gl X x) (hm : X.mg x = none) (hv : bootBuiltins x = some (.type T)) (ha : PA X (e :: es) t) (hn : x ≠ "__name__" := by decide) (hdb : (x == ("__debug__" : Str)) = false := by decide)
    (he : starEach (e :: es) X.env = (false, eval e X.env) :: starEach es X.env := by rfl) (hpl : (backTo pos (starEach es X.env)).any (·.1) = false := by rfl) : PE X (.Call (.Name x p) (e :: es) [] pos) (tCB r t) := by
  intro pins s σ H Q I h
  refine wpAny_Call_Name_kw (ld_blt I hg hm hv ?_ hn hdb)
  exact PyProof.Rows.callWith_type1 (thn (ha pos pins s σ H _ I h) fun us s1 ⟨vs, H1, I1, r1, q1⟩ => hc pins s1 σ H1 vs us Q I1 r1 q1) he hpl
end
end L2

namespace HT
open PySem PyProof.Rows

section
open PySem.SeqAt
open PySem.AutoSeq1 (wpAny_loadPart')
open PySem.MeetsSeq PySem.MeetsSeq2 PySem.MeetsSeq3

end

section
variable {prog : Program} {w : World} {A : Around} {E : Value → Shared → Prop} {s : Shared}

/-! ### t[a:b], not the whole -/
/-- a slice's bound as a place among n (d where it is left out) -/
def sIx (n d : Nat) : Option Int → Nat
  | none => d
  | some v => if v < 0 then (v + (n : Int)).toNat else min v.toNat n
theorem sIx_nat (n d k : Nat) : sIx n d (some (k : Int)) = min k n := by
  show (if (k : Int) < 0 then ((k : Int) + (n : Int)).toNat else min (k : Int).toNat n) = min k n
  rw [if_neg (by omega), Int.toNat_natCast]
end
end HT

namespace L2
open PySem PySem.Spec PyProof.Rows

/-! ### the parts of a slice -/
abbrev TO := St → Hp → (Option Int → Hp → Prop) → Prop
/-- a slice's part (left out, or an int) -/
def PO (X : Cx) (e : Option Expr) (t : TO) : Prop :=
  ∀ (pins : List (Addr × Obj)) (s : Shared) (σ : St) (H : Hp) (Q : Option Int → Hp → Prop), Inv X pins σ H s → t σ H Q →
    wpAny (model X.prog X.w) X.A (evalPart e X.env) (fun u s' => ∃ o H', Inv X pins σ H' s' ∧ IsPart u o ∧ Q o H') X.xe s
def tNoPart : TO := fun _ H Q => Q none H
def tPart (t : TE) : TO := fun σ H Q => t σ H fun x H1 => ∃ i, x = .int i ∧ Q (some i) H1

section
variable {X : Cx} {e : Expr} {te : TE} {lo hi : Option Expr} {tl th : TO} {pos p2 : Pos}

theorem po_none : PO X none tNoPart := by
  intro pins s σ H Q I h
  rw [evalPart_none]
  exact wpAny_pure ⟨none, H, I, .none, h⟩
theorem po_some (h : PE X e te) : PO X (some e) (tPart te) := by
  intro pins s σ H Q I hw
  rw [evalPart_some]
  refine thn (h pins s σ H _ I hw) fun u s1 ⟨x, H1, I1, r1, q1⟩ => ?_
  obtain ⟨i, rfl, q⟩ := q1
  obtain ⟨t, rfl⟩ := r1
  exact ⟨some i, H1, I1, .int i t, q⟩

/-- what a slice of a value is, by values: the slice object stands at sl -/
def SlR (X : Cx) (r : V → Option Int → Option Int → Hp → VK → Prop) : Prop :=
  ∀ (pins : List (Addr × Obj)) (s : Shared) (σ : St) (H : Hp) (x : V) (v vl vu : Value) (lo hi : Option Int) (sl : Addr) (Q : VK), Inv X pins σ H s → RelV x v → s.heap.IsSliceOf sl vl vu .none → IsPart vl lo → IsPart vu hi → r x lo hi H Q →
    ∃ T id, typeLookup (.type T) "__getitem__" = pure (some (.builtin id)) ∧ s.TypeIs v T ∧ wpAny (model X.prog X.w) X.A (getItem v (.ref sl)) (EP X pins σ Q) X.xe s
def tSl (r : V → Option Int → Option Int → Hp → VK → Prop) (te : TE) (tl th : TO) : TE := fun σ H Q => te σ H fun x H1 => tl σ H1 fun l H2 => th σ H2 fun u H3 => r x l u H3 Q
/-- a[lo:hi], any a -/
theorem pe_slice {r : V → Option Int → Option Int → Hp → VK → Prop} (hr : SlR X r) (he : PE X e te) (hl : PO X lo tl) (hu : PO X hi th) : PE X (.Subscript e (.Slice lo hi none p2) pos) (tSl r te tl th) := by
  intro pins s σ H Q I h
  refine Subscript_ (thn (he pins s σ H _ I h) fun v s1 ⟨x, H1, I1, r1, q1⟩ => ?_)
  refine wpAny_Slice (thn (hl pins s1 σ H1 _ I1 q1) fun vl s2 ⟨l, H2, I2, pl, q2⟩ => thn (hu pins s2 σ H2 _ I2 q2) fun vu s3 ⟨u, H3, I3, pu, q3⟩ => ?_)
  rw [evalPart_none]
  refine wpAny_pure ?_
  have I4 : Inv X pins σ H3 { s3 with heap := s3.heap.push { cls := .type "slice", data := .fields #[vl, vu, .none] } } := I3.kept (t' := s3.toks) fun b ob q => Heap.get?_push_of_some _ q
  obtain ⟨T, id, hT, ht, hg⟩ := hr pins { s3 with heap := s3.heap.push { cls := .type "slice", data := .fields #[vl, vu, .none] } } σ H3 x v vl vu l u s3.heap.objs.size Q I4 r1 (Heap.IsSliceOf.new ..) pl pu q3
  show wpAny (model X.prog X.w) X.A (subscriptTail e (.Slice lo hi none p2) v (.ref s3.heap.objs.size)) (EP X pins σ Q) X.xe { s3 with heap := s3.heap.push { cls := .type "slice", data := .fields #[vl, vu, .none] } }
  exact tail_any (ops := [.ref s3.heap.objs.size, v]) ht hT hg (by with_unfolding_all rfl)

/-- the items of xs[lo:hi] -/
def cutV (xs : List V) (lo hi : Option Int) : List V := (xs.drop (HT.sIx xs.length 0 lo)).take (HT.sIx xs.length xs.length hi - HT.sIx xs.length 0 lo)
theorem cutV_length (xs : List V) (lo hi : Option Int) : (cutV xs lo hi).length ≤ xs.length := by
  unfold cutV
  rw [List.length_take, List.length_drop]
  omega
/-! ### t < u, t + u -/
end
end L2

namespace L2
open PySem PySem.Spec PyProof.Rows

/-! ### places -/
/-- the place that an index of any sign means -/
def ixN (n : Nat) (i : Int) : Option Nat := if 0 ≤ i then (if i < n then some i.toNat else none) else if -(n : Int) ≤ i then some (i + n).toNat else none
def atI {α : Type} (xs : List α) (i : Int) : Option α := (ixN xs.length i).bind fun j => xs[j]?
theorem ixN_seq {n : Nat} {i : Int} {j : Nat} (h : ixN n i = some j) : seqIndex? i n = some j ∧ j < n ∧ -(n : Int) ≤ i ∧ i < n := by
  unfold ixN at h
  by_cases h0 : 0 ≤ i
  · rw [if_pos h0] at h
    by_cases h1 : i < n
    · rw [if_pos h1] at h
      have e : i.toNat = j := Option.some.inj h
      exact ⟨by rw [seqIndex_of h0 h1, e], by omega, by omega, h1⟩
    · rw [if_neg h1] at h; cases h
  · rw [if_neg h0] at h
    by_cases h1 : -(n : Int) ≤ i
    · rw [if_pos h1] at h
      have e : (i + n).toNat = j := Option.some.inj h
      exact ⟨by rw [seqIndex_neg (by omega) h1, e], by omega, h1, by omega⟩
    · rw [if_neg h1] at h; cases h
theorem atI_get {α : Type} {xs : List α} {i : Int} {v : α} (h : atI xs i = some v) : ∃ j, seqIndex? i xs.length = some j ∧ xs[j]? = some v ∧ j < xs.length ∧ -(xs.length : Int) ≤ i ∧ i < xs.length := by
  unfold atI at h
  cases e : ixN xs.length i with
  | none => rw [e] at h; cases h
  | some j =>
    rw [e] at h
    obtain ⟨h1, h2, h3, h4⟩ := ixN_seq e
    exact ⟨j, h1, h, h2, h3, h4⟩
theorem atI_nat {α : Type} {xs : List α} {j : Nat} {v : α} (h : xs[j]? = some v) : atI xs (j : Int) = some v := by
  have hj : j < xs.length := (List.getElem?_eq_some_iff.mp h).1
  have e : ixN xs.length (j : Int) = some j := by
    unfold ixN
    rw [if_pos (by omega), if_pos (by omega)]; simp
  unfold atI; rw [e]; exact h
/-! ### what may be subscripted -/
/-- what stands as an index of a plain subscript -/
def PlainIx (b : Expr) : Prop := ∀ o i, subscripted b false o i = operate [o, i] (getItem o i)
/-- a subscript by values -/
def IxR (X : Cx) (r : R2) : Prop :=
  ∀ (value slice : Expr) (pins : List (Addr × Obj)) (s : Shared) (σ : St) (H : Hp) (x y : V) (v u : Value) (Q : VK), Inv X pins σ H s → RelV x v → RelV y u → r x y H Q →
    subscripted slice false v u = operate [v, u] (getItem v u) → wpAny (model X.prog X.w) X.A (subscriptTail value slice v u) (EP X pins σ Q) X.xe s
/-- a call of a builtin's method by values: the receiver, the arguments -/
def MtR (X : Cx) (id : String) (r : V → List V → Hp → VK → Prop) : Prop :=
  ∀ (pins : List (Addr × Obj)) (s : Shared) (σ : St) (H : Hp) (x : V) (xs : List V) (v : Value) (us : List Value) (Q : VK), Inv X pins σ H s → RelV x v → Vals xs us → r x xs H Q →
    wpAny (model X.prog X.w) X.A (call (.builtin id) (v :: us)) (EP X pins σ Q) X.xe s
section
variable {X : Cx} {a b : Expr} {ta tb : TE} {pos : Pos}
/-- a[b] -/
theorem pe_ix {r : R2} (hr : IxR X r) (ha : PE X a ta) (hb : PE X b tb) (hs : PlainIx b) : PE X (.Subscript a b pos) (tOp r ta tb) := by
  intro pins s σ H Q I h
  exact Subscript_ (binT ha hb I h fun v u s2 x y H2 I2 rx ry q => hr a b pins s2 σ H2 x y v u Q I2 rx ry q (hs _ _))

def rIxL (K : PySem.W.Frag) : R2 := fun x y H Q => ∃ p xs i v, x = .ref p ∧ y = .int i ∧ SqL K H p xs ∧ atI xs i = some v ∧ Q v H
def rIxT (K : PySem.W.Frag) : R2 := fun x y H Q => ∃ p xs i v, x = .ref p ∧ y = .int i ∧ SqT K H p xs ∧ atI xs i = some v ∧ Q v H
def rIxS : R2 := fun x y H Q => ∃ z i c, x = .str z ∧ y = .int i ∧ z.length ≤ sizeLine ∧ atI z.cps.toList i = some c ∧ Q (.str ⟨#[c]⟩) H
theorem ix_list : IxR X (rIxL X.K) := by
  intro value slice pins s σ H x y v u Q I rx ry h hs
  obtain ⟨p, xs, i, z, rfl, rfl, hq, he, q⟩ := h
  cases rx
  obtain ⟨t, rfl⟩ := ry
  obtain ⟨its, r, pl, hz⟩ := I.list hq
  obtain ⟨j, h1, h2, h3, h4, h5⟩ := atI_get he
  obtain ⟨w, ew, rw'⟩ := r.get h2
  have hl := r.length
  have hn := line63
  have fin : EP X pins σ Q w s := ⟨z, H, I, rw', q⟩
  by_cases h0 : 0 ≤ i
  · have hj : i.toNat = j := by
      rw [seqIndex_of h0 h5] at h1
      exact Option.some.inj h1
    exact item_listR pl.isList h0 (by omega) (by rw [hj]; simpa using ew) fin hs
  · have hj : (i + (its.toArray.size : Int)).toNat = j := by
      rw [seqIndex_neg (by omega) h4] at h1
      rw [List.size_toArray, ← hl]
      exact Option.some.inj h1
    exact subscriptTail_builtinR (x := w) pl.isList.typeIs slot_list_getitem.lookup
      (wpAny_getItem_list_neg (Q := fun r s' => r = w ∧ EP X pins σ Q r s') pl.isList (by omega) (by rw [List.size_toArray] <;> omega) (by omega) (by rw [hj]; simpa using ew) ⟨rfl, fin⟩) hs
theorem ix_tup : IxR X (rIxT X.K) := by
  intro value slice pins s σ H x y v u Q I rx ry h hs
  obtain ⟨p, xs, i, z, rfl, rfl, hq, he, q⟩ := h
  cases rx
  obtain ⟨t, rfl⟩ := ry
  obtain ⟨its, r, pl, hz⟩ := I.tuple hq
  obtain ⟨j, h1, h2, h3, h4, h5⟩ := atI_get he
  obtain ⟨w, ew, rw'⟩ := r.get h2
  have hl := r.length
  have hn := line63
  have fin : EP X pins σ Q w s := ⟨z, H, I, rw', q⟩
  exact subscriptTail_builtinR (x := w) pl.typeIs slot_tuple_getitem.lookup
    (getItem_tuple (j := j) (Q := fun r s' => r = w ∧ EP X pins σ Q r s') pl (by omega) (by omega) (by rw [List.size_toArray, ← hl]; exact h1) (by simpa using ew) ⟨rfl, fin⟩) hs
theorem ix_str : IxR X rIxS := by
  intro value slice pins s σ H x y v u Q I rx ry h hs
  obtain ⟨z, i, c, rfl, rfl, hz, he, q⟩ := h
  obtain ⟨t, rfl⟩ := rx
  obtain ⟨t', rfl⟩ := ry
  obtain ⟨j, h1, h2, h3, h4, h5⟩ := atI_get he
  have hl : z.cps.toList.length = z.length := by simp [Str.length]
  rw [hl] at h1 h4 h5
  have hn := line63
  exact tail_any (typeIs_str s z t) slot_str_getitem.lookup (getItem_str (c := c) (by
    have e1 : decide (i < -(2 ^ 63 : Int)) = false := decide_eq_false (by omega)
    have e2 : decide (i ≥ 2 ^ 63) = false := decide_eq_false (by omega)
    rw [e1, e2, Bool.or_false]) (by rw [h1]; simpa using h2) ⟨.str ⟨#[c]⟩, H, I.tok _, ⟨_, rfl⟩, q⟩) hs
/-! ### xs[i] = v, any sign -/
/-! ### slices -/
theorem slice_bounds (lo hi : Option Int) (n : Nat) : (sliceBounds lo hi none n).1 = ((HT.sIx n 0 lo : Nat) : Int) ∧ (sliceBounds lo hi none n).2.1 = ((HT.sIx n n hi : Nat) : Int) ∧ (sliceBounds lo hi none n).2.2 = 1 := by
  refine ⟨?_, ?_, rfl⟩
  · cases lo with
    | none => simp [sliceBounds, HT.sIx]
    | some i =>
      simp only [sliceBounds, HT.sIx, Option.getD_none, show (1 : Int) > 0 by decide, if_true]
      by_cases h : i < 0
      · simp only [h, if_true] <;> omega
      · simp only [h, if_false] <;> omega
  · cases hi with
    | none => simp [sliceBounds, HT.sIx]
    | some i =>
      simp only [sliceBounds, HT.sIx, Option.getD_none, show (1 : Int) > 0 by decide, if_true]
      by_cases h : i < 0
      · simp only [h, if_true] <;> omega
      · simp only [h, if_false] <;> omega
theorem slicePick_cut (its : List Value) (lo hi : Option Int) : slicePick its.toArray lo hi none = ((its.drop (HT.sIx its.length 0 lo)).take (HT.sIx its.length its.length hi - HT.sIx its.length 0 lo)).toArray := by
  obtain ⟨h1, h2, h3⟩ := slice_bounds lo hi its.toArray.size
  unfold slicePick
  rw [h1, h2, h3]
  simp only [sliceRange_one, pick_run, List.size_toArray] <;> rfl
/-- xs[lo:hi] of a list: a new list -/
def rSlL (K : PySem.W.Frag) : V → Option Int → Option Int → Hp → VK → Prop := fun x lo hi H Q => ∃ a xs, x = .ref a ∧ SqL K H a xs ∧ ∀ p, H p = none → Q (.ref p) (upd H p (.lst (cutV xs lo hi)))
theorem sl_list : SlR X (rSlL X.K) := by
  intro pins s σ H x v vl vu lo hi sl Q I rx hs pl pu h
  obtain ⟨a, xs, rfl, hx, q⟩ := h
  cases rx
  obtain ⟨its, r, ht, hz⟩ := I.list hx
  have hlen := r.length
  refine ⟨"list", _, slot_list_getitem.lookup, ht.isList.typeIs, ?_⟩
  refine wpAny_getItem_list_slice ht.isList hs pl pu .none (by simp) ?_ (by rw [List.size_toArray] <;> omega)
  rw [slicePick_cut, ← hlen]
  refine ⟨.ref s.heap.objs.size, _, I.laid (t' := s.toks) (o := .lst (cutV xs lo hi)) (fun b ob q => Heap.get?_push_of_some _ q) (Nat.le_refl _) ?_, rfl, q _ (I.hok.fresh (Nat.le_refl _))⟩
  exact ⟨Nat.le_trans (cutV_length xs lo hi) hz, _, 0, (r.drop (HT.sIx xs.length 0 lo)).take (HT.sIx xs.length xs.length hi - HT.sIx xs.length 0 lo), Heap.get?_push_size _ rfl⟩

/-! ### in, not in: flat items -/
def flatV : V → Bool
  | .non => true
  | .bl _ => true
  | .int _ => true
  | .str _ => true
  | _ => false
/-- == of flat values -/
def eqV : V → V → Bool
  | .non, .non => true
  | .bl a, .bl b => a == b
  | .bl a, .int b => (if a then 1 else 0) == b
  | .int a, .bl b => a == (if b then 1 else 0)
  | .int a, .int b => a == b
  | .str a, .str b => a == b
  | _, _ => false
theorem eqAt_V {A : Around} {s : Shared} {y x : V} {u v : Value} (ry : RelV y u) (rx : RelV x v) (fy : flatV y = true) (fx : flatV x = true) : SeqAt.EqAt A s u v (eqV y x) := by
  cases y with
  | non =>
    cases ry
    cases x with
    | non => cases rx; exact SeqAt.EqAt.same _
    | bl b => cases rx; exact SeqAt.EqAt.none_bool b
    | int b => obtain ⟨t, rfl⟩ := rx; exact SeqAt.EqAt.none_int b t
    | str b => obtain ⟨t, rfl⟩ := rx; exact SeqAt.EqAt.none_str b t
    | _ => exact absurd (show false = true from fx) Bool.false_ne_true
  | bl a =>
    cases ry
    cases x with
    | non => cases rx; exact SeqAt.EqAt.bool_none a
    | bl b => cases rx; exact SeqAt.EqAt.bool_bool a b
    | int b => obtain ⟨t, rfl⟩ := rx; exact SeqAt.EqAt.bool_int a b t
    | str b => obtain ⟨t, rfl⟩ := rx; exact SeqAt.EqAt.bool_str a b t
    | _ => exact absurd (show false = true from fx) Bool.false_ne_true
  | int a =>
    obtain ⟨t', rfl⟩ := ry
    cases x with
    | non => cases rx; exact SeqAt.EqAt.int_none a t'
    | bl b => cases rx; exact SeqAt.EqAt.int_bool a t' b
    | int b => obtain ⟨t, rfl⟩ := rx; exact SeqAt.EqAt.int_int a t' b t
    | str b => obtain ⟨t, rfl⟩ := rx; exact SeqAt.EqAt.int_str a t' b t
    | _ => exact absurd (show false = true from fx) Bool.false_ne_true
  | str a =>
    obtain ⟨t', rfl⟩ := ry
    cases x with
    | non => cases rx; exact SeqAt.EqAt.str_none a t'
    | bl b => cases rx; exact SeqAt.EqAt.str_bool a t' b
    | int b => obtain ⟨t, rfl⟩ := rx; exact SeqAt.EqAt.str_int a t' b t
    | str b => obtain ⟨t, rfl⟩ := rx; exact SeqAt.EqAt.str_str a t' b t
    | _ => exact absurd (show false = true from fx) Bool.false_ne_true
  | _ => exact absurd (show false = true from fy) Bool.false_ne_true
/-- the items' answers, read off the values (a value's own answer does not lean on its token) -/
def eqU (x : V) (u : Value) : Bool := match u with
  | .none => eqV .non x
  | .bool b => eqV (.bl b) x
  | .int i _ => eqV (.int i) x
  | .str z _ => eqV (.str z) x
  | _ => false
theorem eqU_of {x y : V} {u : Value} (r : RelV y u) (f : flatV y = true) : eqU x u = eqV y x := by
  cases y with
  | non => cases r; rfl
  | bl b => cases r; rfl
  | int i => obtain ⟨t, rfl⟩ := r; rfl
  | str z => obtain ⟨t, rfl⟩ := r; rfl
  | _ => exact absurd (show false = true from f) Bool.false_ne_true
theorem any_eqU {x : V} : ∀ {xs : List V} {us : List Value}, Vals xs us → xs.all flatV = true → us.any (eqU x) = xs.any fun y => eqV y x
  | _, _, .nil, _ => rfl
  | y :: xs, u :: us, .cons r t, f => by
    rw [List.all_cons, Bool.and_eq_true] at f
    rw [List.any_cons, List.any_cons, eqU_of r f.1, any_eqU t f.2]
theorem mem_eqAt {A : Around} {s : Shared} {x : V} {v : Value} (rx : RelV x v) (fx : flatV x = true) : ∀ {xs : List V} {us : List Value}, Vals xs us → xs.all flatV = true → ∀ u ∈ us, SeqAt.EqAt A s u v (eqU x u)
  | _, _, .nil, _ => fun u hu => by cases hu
  | y :: xs, u :: us, .cons r t, f => fun u' hu => by
    rw [List.all_cons, Bool.and_eq_true] at f
    rcases List.mem_cons.mp hu with rfl | hu
    · rw [eqU_of r f.1]; exact eqAt_V r rx f.1 fx
    · exact mem_eqAt rx fx t f.2 u' hu
def inV (x : V) (xs : List V) : Bool := xs.any fun y => eqV y x
/-- x in a list or tuple of flat items -/
def rIn (K : PySem.W.Frag) (neg : Bool) : R2 := fun x y H Q => ∃ p xs, y = .ref p ∧ (SqL K H p xs ∨ SqT K H p xs) ∧ flatV x = true ∧ xs.all flatV = true ∧ Q (.bl (if neg then !inV x xs else inV x xs)) H
theorem op_in_seq : OpR X (compareOp .In) (rIn X.K false) := by
  intro pins s σ H x y v u Q I rx ry h
  obtain ⟨p, xs, rfl, hq, fx, fs, q⟩ := h
  cases ry
  rcases hq with hq | hq
  · obtain ⟨its, r, pl, hz⟩ := I.list hq
    refine SeqAt.in_listAt (eqU x) pl.isList (fun w hw => mem_eqAt rx fx r fs w (by simpa using hw)) ⟨.bl _, H, I, rfl, ?_⟩
    rw [show its.toArray.any (eqU x) = its.any (eqU x) by simp, any_eqU r fs]
    exact q
  · obtain ⟨its, r, pl, hz⟩ := I.tuple hq
    refine SeqAt.in_tupleAt (eqU x) pl (fun w hw => mem_eqAt rx fx r fs w (by simpa using hw)) ⟨.bl _, H, I, rfl, ?_⟩
    rw [show its.toArray.any (eqU x) = its.any (eqU x) by simp, any_eqU r fs]
    exact q
theorem op_notIn_str : OpR X (compareOp .NotIn) (fun x y H Q => ∃ i j, x = .str i ∧ y = .str j ∧ Q (.bl (!(!(Builtin.Str.occurrences j i 0 j.length 1).isEmpty))) H) := by
  intro pins s σ H x y v u Q I rx ry h
  obtain ⟨i, j, rfl, rfl, q⟩ := h
  obtain ⟨t, rfl⟩ := rx
  obtain ⟨t', rfl⟩ := ry
  exact notIn_str ⟨.bl _, H, I, rfl, q⟩

/-! ### len, list(x), tuple(x) of any list or tuple that is read -/
theorem call_len_seq : CallR X (.builtin "len") (fun xs H Q => ∃ p ys, xs = [.ref p] ∧ (SqL X.K H p ys ∨ SqT X.K H p ys) ∧ Q (.int ys.length) H) := by
  intro pins s σ H xs us Q I r h
  obtain ⟨p, ys, rfl, hq, q⟩ := h
  obtain ⟨u, rfl, rx⟩ := vals1 r
  cases rx
  have hn := line63
  rcases hq with hq | hq
  · obtain ⟨its, r', pl, hz⟩ := I.list hq
    have hlen := r'.length
    exact Calls.call_len_list pl.isList (by simp only [List.size_toArray] <;> omega) ⟨.int ys.length, H, I.tok _, ⟨s.toks + 1, by rw [List.size_toArray, hlen]⟩, q⟩
  · obtain ⟨its, r', pl, hz⟩ := I.tuple hq
    have hlen := r'.length
    exact len_tuple pl (by simp only [List.size_toArray] <;> omega) ⟨.int ys.length, H, I.tok _, ⟨s.toks + 1, by rw [List.size_toArray, hlen]⟩, q⟩
theorem call_len_str : CallR X (.builtin "len") (fun xs H Q => ∃ z, xs = [.str z] ∧ z.length ≤ sizeLine ∧ Q (.int z.length) H) := by
  intro pins s σ H xs us Q I r h
  obtain ⟨z, rfl, hz, q⟩ := h
  obtain ⟨u, rfl, t, rfl⟩ := vals1 r
  have hn := line63
  exact len_str (by omega) ⟨.int z.length, H, I.tok _, ⟨_, rfl⟩, q⟩
/-! ### the call of a builtin's method: o.m(..) -/
/-- the value is of that builtin type -/
def tyV (K : PySem.W.Frag) (T : String) (x : V) (H : Hp) : Prop := match x with
  | .str _ => T = "str"
  | .int _ => T = "int"
  | .ref p => (T = "list" ∧ ∃ xs, SqL K H p xs) ∨ (T = "tuple" ∧ ∃ o, K.lookup p = some o ∧ o.cls = .type "tuple" ∧ o.dict = none) ∨
      (T = "dict" ∧ ((∃ kvs, H p = some (.dK kvs)) ∨ ∃ kvs, H p = some (.dT kvs))) ∨ (T = "set" ∧ ∃ S n, H p = some (.set S n))
  | _ => False
theorem tyV_is {pins : List (Addr × Obj)} {σ : St} {H : Hp} {s : Shared} {T : String} {x : V} {v : Value} (I : Inv X pins σ H s) (r : RelV x v) (ty : tyV X.K T x H) :
    s.TypeIs v T ∧ ∀ a, v = .ref a → ∃ ob, s.heap.get? a = some ob ∧ ob.dict = none := by
  cases x with
  | str z =>
    obtain ⟨t, rfl⟩ := r
    cases (show T = "str" from ty)
    exact ⟨typeIs_str s z t, fun _ e => nomatch e⟩
  | int i =>
    obtain ⟨t, rfl⟩ := r
    cases (show T = "int" from ty)
    exact ⟨typeIs_int s i t, fun _ e => nomatch e⟩
  | ref p =>
    cases r
    rcases ty with ⟨rfl, xs, hq⟩ | ⟨rfl, o, hk, hc, hd⟩ | ⟨rfl, hk⟩ | ⟨rfl, S, n, hk⟩
    · obtain ⟨its, _, pl, _⟩ := I.list hq
      refine ⟨pl.isList.typeIs, fun a e => ?_⟩
      cases e
      obtain ⟨o, n, e, c, hd, _⟩ := pl
      exact ⟨o, e, hd⟩
    · refine ⟨⟨o, I.kIn p o hk, hc⟩, fun a e => ?_⟩
      cases e
      exact ⟨o, I.kIn _ o hk, hd⟩
    · have z : ∃ o, s.heap.get? p = some o ∧ o.ExactDict := by
        rcases hk with ⟨kvs, hk⟩ | ⟨kvs, hk⟩
        · obtain ⟨_, _, _, _, o, _, _, e, ex, _⟩ := I.hok p _ hk
          exact ⟨o, e, ex⟩
        · obtain ⟨_, _, _, _, o, _, _, e, ex, _⟩ := I.hok p _ hk
          exact ⟨o, e, ex⟩
      obtain ⟨o, e, ex⟩ := z
      refine ⟨⟨o, e, ex.1⟩, fun a e2 => ?_⟩
      cases e2
      exact ⟨o, e, ex.2.1⟩
    · obtain ⟨o, _, _, _, e, ex, _⟩ := I.hok p _ hk
      refine ⟨⟨o, e, ex.1⟩, fun a e2 => ?_⟩
      cases e2
      exact ⟨o, e, ex.2.1⟩
  | _ => exact False.elim ty
def tBM (K : PySem.W.Frag) (T : String) (r : V → List V → Hp → VK → Prop) (to : TE) (t : TA) : TE := fun σ H Q => to σ H fun x H1 => tyV K T x H1 ∧ t σ H1 fun xs H2 => r x xs H2 Q
variable {o e : Expr} {es : List Expr} {to : TE} {t : TA} {name : Str} {apos cpos : Pos} {T id : String} {r : V → List V → Hp → VK → Prop}
theorem pe_bm (pa : PlainAttrs T) (slot : Slot T name id) (hty : typeOf (.builtin id) = pure (.type "method_descriptor")) (hm : MtR X id r) (ho : PE X o to) (ha : PA X (e :: es) t)
    (hbase : attributeBase o name X.env (eval o X.env) = eval o X.env := by rfl)
    (hfew : ((backTo cpos (starEach (e :: es) X.env)).all (fun x => !x.1) && (backToKw cpos (keywordEach [] X.env)).all (fun x => x.1.isSome)
      && decide ((e :: es).length + ([] : List Keyword).length + (if ([] : List Keyword).isEmpty then 0 else 1) < 30)) = true := by rfl)
    (hline : (apos.endLine == cpos.line) = true := by rfl) (hs : starEach (e :: es) X.env = (false, eval e X.env) :: starEach es X.env := by rfl) (hplain : (backTo cpos (starEach es X.env)).any (·.1) = false := by rfl) :
    PE X (.Call (.Attribute o name apos) (e :: es) [] cpos) (tBM X.K T r to t) := by
  intro pins s σ H Q I h
  refine wpAny_Call_method_late hbase hfew hline rfl (thn (ho pins s σ H _ I h) fun v s1 ⟨x, H1, I1, r1, ty, q1⟩ => ?_)
  obtain ⟨h1, h2⟩ := tyV_is I1 r1 ty
  refine ⟨T, id, pa, slot, hty, h1, h2, ?_⟩
  have hA := ha cpos pins s1 σ H1 _ I1 q1
  rw [hs] at hA ⊢
  refine Calls.callWith_builtin (by show (false || (backTo cpos (starEach es X.env)).any (·.1)) = false; rw [hplain] <;> rfl) (Calls.evalArgs_plain ?_)
  exact thn hA fun us s2 ⟨vs, H2, I2, r2, q2⟩ => hm pins s2 σ H2 x vs v us Q I2 r1 r2 q2
/- xs.append(e), list.index on a module's tuple .. are MtR facts of 06m -/
end
end L2

namespace L2
open PySem PySem.Spec PyProof.Rows

def MtM (X : Cx) (id : String) (r : V → List V → Hp → VK → Prop) : Prop :=
  ∀ (pins : List (Addr × Obj)) (s : Shared) (σ : St) (H : Hp) (x : V) (xs : List V) (v : Value) (us : List Value) (Q : VK), Inv X pins σ H s → RelV x v → Vals xs us → r x xs H Q →
    wpAny (model X.prog X.w) X.A (call (.builtin id) (v :: us)) (EP X pins σ Q) X.xe s

/-! ### lists of values -/
theorem Vals.one : ∀ {x : V} {us : List Value}, Vals [x] us → ∃ u, us = [u] ∧ RelV x u
  | _, _, .cons r .nil => ⟨_, rfl, r⟩
section
variable {X : Cx} {pins : List (Addr × Obj)} {σ : St} {H : Hp} {s : Shared} {l b : Addr} {xs ys zs : List V}

/-! ### the two steps: a tracked list is rewritten, a new list is laid -/
theorem Inv.lset {its its' : List Value} {n : Nat} {f : Array Value → Array Value} {t' : Nat} (I : Inv X pins σ H s) (hH : H l = some (.lst xs))
    (e : s.heap.get? l = some { cls := .type "list", data := .seq its.toArray n }) (hf : f its.toArray = its'.toArray) (hv : Vals ys its') (hz : ys.length ≤ sizeLine) :
    Inv X pins σ (upd H l (.lst ys)) { s with heap := s.heap.update l (Obj.mapSeq f), toks := t' } := by
  have q := PySem.IsL.update e f
  rw [hf] at q
  refine I.write (x := l) (e := l) (by rw [hH]; exact trivial) (.inl rfl) (fun b' u hb hu => (Heap.get?_update_other s.heap (Obj.mapSeq f) (Ne.symm hb)).trans hu) ⟨_, q⟩ ?_
  exact ⟨hz, its', _, hv, q⟩
theorem Inv.lnew {its : List Value} {t' : Nat} (I : Inv X pins σ H s) (hv : Vals ys its) (hz : ys.length ≤ sizeLine) :
    Inv X pins σ (upd H s.heap.objs.size (.lst ys)) { s with heap := s.heap.push { cls := .type "list", data := .seq its.toArray }, toks := t' } :=
  I.laid (fun _ _ q => Heap.get?_push_of_some _ q) (Nat.le_refl _) ⟨hz, its, 0, hv, Heap.get?_push_size _ rfl⟩
theorem Inv.fresh (I : Inv X pins σ H s) : H s.heap.objs.size = none := I.hok.fresh (Nat.le_refl _)
theorem Inv.lstM (I : Inv X pins σ H s) (hH : H l = some (.lst xs)) : xs.length ≤ sizeLine ∧ ∃ (its : List Value) (n : Nat), Vals xs its ∧ xs.length = its.length ∧ s.heap.get? l = some { cls := .type "list", data := .seq its.toArray n } := by
  obtain ⟨z, its, n, r, e⟩ := I.hok l _ hH
  exact ⟨z, its, n, r, r.length, e⟩

theorem notLongL {n : Nat} (h : n ≤ sizeLine) : Builtin.List.listTooLong n = false := by
  unfold Builtin.List.listTooLong
  exact decide_eq_false (by omega)
end

section
variable {X : Cx}

/-! ### methods -/
def rAppend : V → List V → Hp → VK → Prop := fun x vs H Q => ∃ l xs y, x = .ref l ∧ vs = [y] ∧ H l = some (.lst xs) ∧ xs.length < sizeLine ∧ Q .non (upd H l (.lst (xs ++ [y])))
theorem mt_append : MtM X "list.append" rAppend := by
  intro pins s σ H x vs v us Q I rx rv h
  obtain ⟨l, xs, y, rfl, rfl, hH, hz, q⟩ := h
  cases rx
  obtain ⟨u, rfl, ru⟩ := rv.one
  obtain ⟨z, its, n, r, hl, e⟩ := I.lstM hH
  refine call_meets F.slot_list_append ⟨_, e, rfl⟩ F.entry_list_append (F.args_list_append_2 _ _) (PySem.list_append l its.toArray n u (by rw [List.size_toArray]; omega)) ⟨e, ?_⟩
  refine ⟨.non, _, I.lset (its' := its ++ [u]) hH e (by simp) (r.append (.cons ru .nil)) ?_, rfl, q⟩
  rw [List.length_append, List.length_singleton]
  omega

def rExtend : V → List V → Hp → VK → Prop := fun x vs H Q => ∃ l b xs zs, x = .ref l ∧ vs = [.ref b] ∧ H l = some (.lst xs) ∧ H b = some (.lst zs) ∧ xs.length + zs.length ≤ sizeLine ∧ Q .non (upd H l (.lst (xs ++ zs)))
theorem mt_extend : MtM X "list.extend" rExtend := by
  intro pins s σ H x vs v us Q I rx rv h
  obtain ⟨l, b, xs, zs, rfl, rfl, hH, hB, hz, q⟩ := h
  cases rx
  obtain ⟨u, rfl, ru⟩ := rv.one
  cases ru
  obtain ⟨z, its, n, r, hl, e⟩ := I.lstM hH
  obtain ⟨z2, its2, n2, r2, hl2, e2⟩ := I.lstM hB
  have hsz : its.toArray.size + its2.toArray.size ≤ sizeLine := by rw [List.size_toArray, List.size_toArray]; omega
  have hlong : ¬ (!its.toArray.isEmpty && Builtin.List.listTooLong (its.toArray.size + its2.toArray.size)) = true := by
    rw [notLongL hsz, Bool.and_false]
    exact Bool.false_ne_true
  refine call_meets F.slot_list_extend ⟨_, e, rfl⟩ F.entry_list_extend (F.args_list_extend_2 _ _)
    (AutoSeq1.list_extend_list_list_0 l its.toArray n b its2.toArray n2 hlong (by rw [List.size_toArray]; omega) (by omega)) ⟨e, e2, ?_⟩
  refine ⟨.non, _, I.lset (its' := its ++ its2) hH e (by simp) (r.append r2) ?_, rfl, q⟩
  rw [List.length_append]
  omega

/-! ### list + list, list += list, list * int -/
def rCat : R2 := fun x y H Q => ∃ l b xs zs, x = .ref l ∧ y = .ref b ∧ H l = some (.lst xs) ∧ H b = some (.lst zs) ∧ xs.length + zs.length ≤ sizeLine ∧ ∀ p, H p = none → Q (.ref p) (upd H p (.lst (xs ++ zs)))
theorem op_cat : OpR X (binaryOp .Add) rCat := by
  intro pins s σ H x y v u Q I rx ry h
  obtain ⟨l, b, xs, zs, rfl, rfl, hH, hB, hz, q⟩ := h
  cases rx
  cases ry
  obtain ⟨z, its, n, r, hl, e⟩ := I.lstM hH
  obtain ⟨z2, its2, n2, r2, hl2, e2⟩ := I.lstM hB
  refine PySem.P.add_list e e2 ?_ (by rw [List.size_toArray, List.size_toArray]; omega)
  have ea : its.toArray ++ its2.toArray = (its ++ its2).toArray := by simp
  rw [ea]
  exact ⟨.ref _, _, I.lnew (t' := s.toks) (r.append r2) (by rw [List.length_append]; omega), rfl, q _ I.fresh⟩
/-! ### del xs[i] -/
end

/-! ### xs[a:b] = ys -/
section
variable {prog : Program} {w : World} {A : Around} {E : Value → Shared → Prop} {s : Shared}
end

section
variable {X : Cx}
end
end L2

namespace L2
open PySem PySem.Spec PyProof.Rows

/-! ### lists of pairs as tables -/
section
variable {κ : Type} [DecidableEq κ]
end


/-! ### a tracked dict, its keys ints and texts or tuples of these -/
section
variable {P : Program} {w : World} {H : Hp} {h : Heap} {a : Addr}
end

section
variable {X : Cx} {pins : List (Addr × Obj)} {σ : St} {H : Hp} {s : Shared} {a : Addr} {y v : V} {u r : Value} {o : Option V} {A : Around} {E : Value → Shared → Prop}

theorem Inv.big (I : Inv X pins σ H s) : sysModules < s.heap.objs.size := by
  have h : mainGlobals < s.heap.objs.size := (I.mod.glob.keeps I.bk).lt
  exact Nat.lt_trans (by decide) h

end

section
variable {X : Cx} {pins : List (Addr × Obj)} {σ : St} {H : Hp} {s : Shared} {a : Addr} {kvs : List (Key × V)} {k : Key} {u : Value} {A : Around} {E : Value → Shared → Prop}
end


/-! ### readings and rules -/
section
variable {X : Cx} {o i e value : Expr} {pos pos' tpos : Pos} {td ty tv : TE}
end


/-! ### displays -/
theorem dk_empty {P : Program} {w : World} {H : Hp} (h : Heap) (hb : sysModules < h.objs.size) : ObjOk P w H (h.push { cls := .type "dict", data := .dict #[] }) h.objs.size (.dK []) :=
  ⟨Nat.zero_le _, beq_eq_false_iff_ne.mpr (Ne.symm (Nat.ne_of_lt hb)), [], .nil, Heap.DictOf.new h⟩
/-- {}, to be a dict of the kind that is wanted -/
def tDNewK : TE := fun _ H Q => ∀ p, H p = none → Q (.ref p) (upd H p (.dK []))
section
variable {X : Cx} {pos : Pos}
theorem pe_dnewK : PE X (.Dict [] [] pos) tDNewK := fun pins s σ H Q I h =>
  wpAny_Dict_empty ⟨.ref s.heap.objs.size, _, I.laid (a := s.heap.objs.size) (o := .dK []) (t' := s.toks) (fun _ _ q => Heap.get?_push_of_some _ q) (Nat.le_refl _) (dk_empty s.heap I.big), rfl, h _ (I.hok.fresh (Nat.le_refl _))⟩
end

/-! ### methods -/
section
variable {X : Cx} {pins : List (Addr × Obj)} {σ : St} {H : Hp} {s : Shared} {a : Addr} {y d : V} {u r : Value} {o : Option V} {A : Around} {E : Value → Shared → Prop}
end

section
variable {X : Cx} {o e f : Expr} {apos cpos : Pos} {td ty tx : TE}
end

/-! ### dict(d): a copy -/
section
variable {X : Cx} {pins : List (Addr × Obj)} {σ : St} {H : Hp} {s : Shared} {a : Addr} {kvs : List (Key × V)} {A : Around} {E : Value → Shared → Prop}
end


section
variable {X : Cx} {pins : List (Addr × Obj)} {σ : St} {H : Hp} {s : Shared} {a : Addr} {y : V} {u : Value} {A : Around} {E : Value → Shared → Prop}
end
end L2

namespace Att
open PySem PySem.W PySem.Calls PyProof.Rows

/-! ### the script -/
theorem ints_of_wellAll {P : Params} {h : Heap} : ∀ (ns : List Int) (vs : List Value), WellAll P h vs (ns.map WData.int) → IntsAre vs ns := by
  intro ns
  induction ns with
  | nil =>
    intro vs w
    rw [List.map_nil] at w
    cases w
    exact .nil
  | cons n ns ih =>
    intro vs w
    rw [List.map_cons] at w
    cases w with
    | cons a b =>
      cases a
      exact .cons _ _ (ih _ b)

theorem script_of {l : OpenLaw} {n : Nat} (hn : l.most = some n) {P : Params} {h : Heap} {args : List WData} {vals : List Value}
    (hpre : l.row.toRowW.claim.pre args = true) (hwl : WellAll P h vals args) :
    ∃ a vs ns, vals = [Value.ref a] ∧ args = [WData.list (ns.map WData.int)] ∧ h.get? a = some { cls := .type "list", data := .seq vs.toArray } ∧ IntsAre vs ns ∧ ns.length ≤ n := by
  have hsh : WShape.hasAll [] args [.list .int] = true := (pre_splitW hpre).1
  have hc : l.pre.holds [] { args := args } = true := (pre_splitW hpre).2
  obtain ⟨d, r, rfl, h1, h2⟩ := hasAllW_cons hsh
  obtain rfl := hasAllW_nil h2
  obtain ⟨xs, rfl, h3⟩ := hasW_list h1
  obtain ⟨ns, rfl⟩ := items_int h3
  have hlen : ns.length ≤ n := by
    unfold OpenLaw.pre at hc
    have h4 : (WTm.not (.lt (.lit (.int (n : Int))) (.len (.arg 0)))).holds [] { args := [.list (ns.map .int)] } = true := by
      have h4 := (holds_andW hc).1
      rw [hn] at h4
      exact h4
    have h5 := condW_of h4 (w_not (w_lt w_lit (w_len_list (w_arg rfl))))
    rw [List.length_map] at h5
    refine Nat.le_of_not_lt fun q => ?_
    have q' : (n : Int) < ((ns.length : Nat) : Int) := by omega
    first
      | (rw [decide_eq_true q'] at h5; exact absurd h5 (by decide))
      | (simp at h5; omega)
  cases hwl with
  | cons w1 w2 =>
    cases w2
    cases w1 with
    | list ho hall => exact ⟨_, _, ns, rfl, rfl, ho, ints_of_wellAll ns _ hall, hlen⟩

theorem post_true (l : OpenLaw) (args : List WData) : l.row.toRowW.claim.post args (.bool true) args = true :=
  postW_of (r := l.row.toRowW) (X := (true == true))
    (show WShape.has [] (.bool true) .bool = true by first | rfl | decide | simp [WShape.has, WShape.arms, WShape.armsAll])
    (show (WTm.eq .res (.lit (.bool true))).value [] { args := args, res := some (.bool true), after := args } = some (.bool (true == true)) from w_eq_bool (w_res rfl) w_lit) rfl

/-! ### the attachment: holds_open's last premise (the goal 'hc' behind k_head) from a wpAny of the law's body -/
/-- the same from a codeAny of the CALL (for a layer whose function contracts speak of calls) -/
theorem attach_call {l : OpenLaw} {n : Nat} {q : Program} {loose : List Str} {XP : (Str → Option Value) → Heap → Prop} {YP : World → Heap → Prop} {d : DefRec}
    (hn : l.most = some n) (hdf : d.params.defaults = [])
    (call : ∀ (w : World) (s₀ s₁ : Shared) (mg mb : Str → Option Value) (fa : Addr) (o : Obj) (pm cd doc : Value) (a : Addr) (vs : List Value) (ns : List Int),
      Ground q loose [] XP w s₀ mg mb s₁.heap → YP w s₁.heap →
      s₁.heap.get? fa = some o → o.data = .func (docDef d.name d.params d.body d.scope pm cd doc) → s₁.heap.CodeRec cd d.name → mg d.name = some (.ref fa) →
      s₁.heap.get? a = some { cls := .type "list", data := .seq vs.toArray } → IntsAre vs ns → ns.length ≤ n → s₁.gens = #[] →
      codeAny (model l.prog w) callerA (.call (.ref fa) ⟨[.ref a], []⟩) (fun r s' => r = .ok (.ret (.bool true)) ∧ OldK s₁.heap s'.heap ∧ s'.os = s₁.os ∧ AllBare s'.gens) s₁) :
    WalkO q loose XP YP l.row.toRowW d [] (fun f vs => PySem.call f vs) := by
  intro w s₀ s₁ mg mb G Y fa o pm cd doc dV kV ho hd hcd hD hmg hg args vals as hpre hlay hrd hwl hlo
  obtain rfl : dV = .none := Dflts.none hD hdf
  obtain rfl : kV = .none := Dflts.noKw hD
  obtain ⟨a, vs, ns, rfl, rfl, hobj, hints, hlen⟩ := script_of hn hpre hwl
  refine enter_call (codeAny_mono (call w s₀ s₁ mg mb fa o pm cd doc a vs ns G Y ho (fd_plain hd) hcd hmg hobj hints hlen hg) fun r s' hq => ?_)
  obtain ⟨rfl, h2, h3, h4⟩ := hq
  exact ⟨.inl ⟨.bool true, .bool true, [], rfl, fun _ => rfl, .bool true, post_true l _, fun _ => ⟨List.Pairwise.nil, fun _ hm => (nomatch hm)⟩⟩, h2, h3, h4⟩

/-! ### rules over ANY heap (no ledger) from facts about the written part K: the library's own take a ledger (News) for what they write -/
section
variable {prog : Program} {w : World} {A : Around} {E : Value → Shared → Prop} {s : Shared} {K : Frag}

/-! the whole heap as the ledger: makes every rule that writes through a ledger a rule over any heap -/
end
end Att

namespace L2
open PySem PySem.Spec PyProof.Rows

theorem vals_ints : ∀ {vs : List Value} {ns : List Int}, IntsAre vs ns → Vals (ns.map V.int) vs
  | _, _, .nil => .nil
  | _, _, .cons n t h => .cons ⟨t, rfl⟩ (vals_ints h)

/-- nothing is tracked but the script, known to the object (or it is an object of the module) -/
def Only (H : Hp) : Prop := ∀ b, H b = none ∨ ∃ o xs, H b = some (.frz o (.lst xs))

/-- THE HEAD: the law's promise, at the heap behind the top. F, the promise of the law's def, may use that base is part of the heap (so K.In base, base.Ns mainGlobals mg stand in Mod) -/
theorem law_call {P : Program} {w : World} {K : PySem.W.Frag} {mg mb : Str → Option Value} {CX : CXT} {k : Nat} {fa a : Addr} {fd : FuncData} {x : Str} {sp : Sp} {s₁ : Shared} {vs : List Value} {ns : List Int}
    (KX : K.In s₁.heap) (hns : s₁.heap.Ns mainGlobals mg) (hb : s₁.heap.Ns builtinsNs mb) (hbb : ∀ x : Str, x ≠ "__name__" → mb x = bootBuiltins x) (hlim : s₁.heap.NoLimit) (hg : s₁.gens = #[])
    (ha : s₁.heap.get? a = some { cls := .type "list", data := .seq vs.toArray }) (hi : IntsAre vs ns) (hl : ns.length ≤ sizeLine) (hr : Room k callerA)
    (F : ∀ base : Heap, K.In base → base.Ns mainGlobals mg → FnOk P w K mg base CX k fa fd [x] sp) (hbind : ∀ (s : Shared) (u : Value), BindsTo s fd ⟨[u], []⟩ [(x, u)])
    (hsp : ∀ H : Hp, Only H → SqL K H a (ns.map V.int) → sp [.ref a] H (fun v _ => v = .bl true) fun _ _ _ => False)
    (hCX : ∀ H e s', CX [] H s₁ (fun _ _ _ => False) e s' → False) :
    codeAny (model P w) callerA (.call (.ref fa) ⟨[.ref a], []⟩) (fun r s' => r = .ok (.ret (.bool true)) ∧ OldK s₁.heap s'.heap ∧ s'.os = s₁.os ∧ AllBare s'.gens) s₁ := by
  have rv := vals_ints hi
  have lenV := hi.length
  -- from an abstract heap in which nothing but the script may be tracked
  have core : ∀ H : Hp, Only H → SqL K H a (ns.map V.int) → HOk P w H s₁.heap → (∀ b, H b ≠ none → b = a) → (H a ≠ none → K.lookup a = none) →
      codeAny (model P w) callerA (.call (.ref fa) ⟨[.ref a], []⟩) (fun r s' => r = .ok (.ret (.bool true)) ∧ OldK s₁.heap s'.heap ∧ s'.os = s₁.os ∧ AllBare s'.gens) s₁ := by
    intro H hO hS hok hA hK
    have base_of : ∀ {b : Addr} {o : Obj}, s₁.heap.get? b = some o → H b = none → (hidT s₁.heap H).get? b = some o := fun e n => hidT_get e n
    have noA : ∀ {b : Addr} {o : Obj} {es : Array DictEntry} {ep : Nat}, s₁.heap.get? b = some o → o.data = .dict es ep → H b = none := fun {b o es ep} e d => by
      cases q : H b with
      | none => rfl
      | some u =>
        have e' : b = a := hA b (by rw [q]; simp)
        subst e'
        rw [ha] at e; cases e
        have d' : Data.seq vs.toArray _ = Data.dict es ep := d
        cases d'
    have nsK : ∀ {b : Addr} {m : Str → Option Value}, s₁.heap.Ns b m → (hidT s₁.heap H).Ns b m := fun {b m} ⟨o, es, ep, e, d, r⟩ => ⟨o, es, ep, base_of e (noA e d), d, r⟩
    have hKb : K.In (hidT s₁.heap H) := fun b o e => base_of (KX b o e) (by
      cases q : H b with
      | none => rfl
      | some u =>
        have e' : b = a := hA b (by rw [q]; simp)
        subst e'
        rw [hK (by rw [q]; simp)] at e; cases e)
    have hM : Mod K mg (hidT s₁.heap H) := ⟨hKb, nsK hns, ⟨mb, nsK hb, hbb⟩, let ⟨mc, h1, h2⟩ := hlim; ⟨mc, nsK h1, h2⟩⟩
    have e0 : Env0 P w K mg (hidT s₁.heap H) callerA [] s₁ H := ⟨rfl, hM, fun b o e => of_hidT e, Nat.le_of_eq (hidT_size _ _), trivial, fun b hb => absurd (show b ∈ ([] : List Addr) from hb) (by simp), hok, .of_eq hg⟩
    refine codeAny_mono ((F _ hKb (nsK hns)).run callerA [] s₁ H ⟨[.ref a], []⟩ [.ref a] [.ref a] _ _ hr e0 (hbind s₁ (.ref a)) (.cons rfl .nil) (hsp H hO hS)) fun r s' h => ?_
    cases r with
    | error e => exact (hCX H e s' h).elim
    | ok fl =>
      cases fl with
      | next => exact False.elim h
      | brk => exact False.elim h
      | cont => exact False.elim h
      | ret u =>
        obtain ⟨v, H', os, bare, un, hok', r', q⟩ := h
        have q' : v = .bl true := q
        subst q'
        obtain rfl : u = Value.bool true := r'
        refine ⟨rfl, OldK.of_keep fun b o e => ?_, os, bare⟩
        cases q : H b with
        | none => exact un.keep b o e q (by intro z; exact absurd (show b ∈ ([] : List Addr) from z) (by simp)) (by simp)
        | some u =>
          rcases hO b with z | ⟨ob, xs, z⟩
          · rw [q] at z; cases z
          · have z2 := un.frzs b ob _ z
            obtain ⟨e1, _⟩ := hok b _ z
            obtain ⟨e2, _⟩ := hok' b _ z2
            rw [e] at e1; cases e1
            exact e2
  cases hk : K.lookup a with
  | some o =>
    -- the script is one of the module's own objects
    have e := KX a o hk
    rw [ha] at e
    cases e
    refine core (fun _ => none) (fun _ => .inl rfl) (.inr ⟨_, vs.toArray, _, hk, rfl, rfl, rfl, by rw [List.size_toArray, lenV]; exact hl, by simpa using rv⟩) (fun b u z => by have z' : (none : Option HO) = some u := z; cases z') (fun b z => absurd rfl z) fun z => absurd rfl z
  | none =>
    refine core (fun b => if b = a then some (.frz { cls := .type "list", data := .seq vs.toArray } (.lst (ns.map V.int))) else none) (fun b => ?_) (.inl (.inr ⟨{ cls := .type "list", data := .seq vs.toArray }, if_pos rfl⟩)) (fun b u z => ?_) (fun b z => ?_) fun _ => hk
    · by_cases hb : b = a
      · exact .inr ⟨_, _, if_pos hb⟩
      · exact .inl (if_neg hb)
    · by_cases hb : b = a
      · have z' := (if_pos hb).symm.trans z
        cases z'
        subst hb
        exact ⟨ha, by rw [List.length_map]; exact hl, vs, _, rv, ha⟩
      · have z' := (if_neg hb).symm.trans z
        cases z'
    · by_cases hb : b = a
      · exact hb
      · exact absurd (if_neg hb) z
end L2

namespace L2
open PySem PySem.Spec PyProof.Rows

/-- the goal that k_head leaves (case hc), from the law's promise. F gives the function object fd (K's own) once, then the promise over every base -/
theorem walk_of {l : PySem.W.OpenLaw} {n k : Nat} {q : Program} {loose : List Str} {XP : (Str → Option Value) → Heap → Prop} {YP : World → Heap → Prop} {d : DefRec} {K : Params → PySem.W.Frag} {CX : World → CXT} {sp : World → Sp} {x : Str}
    (hn : l.most = some n) (hn2 : n ≤ sizeLine) (hdf : d.params.defaults = []) (hr : Room k callerA)
    (hY : ∀ (w : World) (h : Heap), YP w h → (K w.params).In h)
    (F : ∀ (w : World) (mg : Str → Option Value) (fa : Addr) (h : Heap), (K w.params).In h → h.Ns mainGlobals mg → mg d.name = some (.ref fa) →
      ∃ fd : FuncData, (∀ (s : Shared) (u : Value), BindsTo s fd ⟨[u], []⟩ [(x, u)]) ∧
        ∀ base : Heap, (K w.params).In base → base.Ns mainGlobals mg → FnOk l.prog w (K w.params) mg base (CX w) k fa fd [x] (sp w))
    (hsp : ∀ (w : World) (H : Hp) (a : Addr) (ns : List Int), ns.length ≤ n → Only H → SqL (K w.params) H a (ns.map V.int) → sp w [.ref a] H (fun v _ => v = .bl true) fun _ _ _ => False)
    (hCX : ∀ (w : World) (H : Hp) (s : Shared) (e : Value) (s' : Shared), CX w [] H s (fun _ _ _ => False) e s' → False) :
    PySem.W.WalkO q loose XP YP l.row.toRowW d [] (fun f vs => PySem.call f vs) := by
  refine Att.attach_call hn hdf fun w s₀ s₁ mg mb fa o pm cd doc a vs ns G Y ho hd hcd hmg hobj hints hlen hg => ?_
  have KX := hY w _ Y
  obtain ⟨fd, hb, hF⟩ := F w mg fa _ KX G.T.g hmg
  exact law_call KX G.T.g G.T.b G.T.builtins G.T.nolimit hg hobj hints (Nat.le_trans hlen hn2) hr hF hb (fun H hO hS => hsp w H a ns hlen hO hS) fun H e s' => hCX w H s₁ e s'
end L2

/- THE LAST THEOREM (shape; LID, My.* are yours):
   My.Adr: a structure of the addresses that your layer names (classes, functions); My.Txt K t: a structure (Prop) of the equations over K;
   My.txt_mk : {K} {implicit addresses ..} (e1 : nsIn K mainGlobals "law" = some (some (.ref f))) (e2 : K.lookup f = some ⟨oc, od, .func (fnOf "law" "law" params body scope dV kV doc pm an cdv ct), sl⟩) (e3 : codeIn K cdv "law" = true) .. : ∃ t, My.Txt K t

set_option maxRecDepth 100000 in
set_option maxHeartbeats 0 in
theorem PySem.Challenge.cw_LID_holds : PySem.Challenge.rw_LID.Holds := by
  w_on; o_law; k_head; (case hw => w_witness2)
  k_fill
  refine L2.walk_of (l := PySem.Challenge.rw_LID) (n := 63) (k := 40) (x := "script") (CX := fun w => ..) (sp := fun _ => My.sp_law) rfl (by decide) rfl ⟨rfl, by decide, by decide⟩ (fun w h Y => PySem.W.kIn_of Y) ?F ?S ?C
  case F =>
    intro w mg fa h KX G hmg
    have T : ∃ t, My.Txt (L2.KOf KX) t := by
      dsimp only [L2.KOf]                          -- K must stand as «<heap const> w.params» for k_is
      refine' My.txt_mk ?e1 ?e2 ?e3 ..
      (case e1 => PySem.W.k_is)                    -- in the order: a name -> its address -> its object -> its parts
      (case e2 => PySem.W.k_is)
      ..
    obtain ⟨t, T⟩ := T
    have e0 := hmg.symm.trans (PySem.W.mg_of KX G T.law)
    cases e0                                       -- fa is the law's own address
    exact ⟨_, fun s u => .of_eq rfl, fun base kb nb => My.law_fn T kb nb⟩     -- if «.of_eq rfl» comes too early: refine' ⟨_, ?b, fun base kb nb => My.law_fn T kb nb⟩; exact fun s u => .of_eq rfl
  case S => exact fun w H a ns hl hO hS => ..
  case C => exact ..
(the tactic k_is has no namespace: write k_is) -/

/-! SHORT WORDS over the layer: a def of the text, its body, what a loop and a test want. -/
namespace L2
open PySem PySem.Spec PyProof.Rows

/-! ### the text by places -/
def defArgs (s : Stmt) : Arguments := match s with
  | .FunctionDef _ a _ _ _ _ _ _ _ _ => a
  | _ => { posonlyargs := [], args := [], vararg := none, kwonlyargs := [], kw_defaults := [], kwarg := none, defaults := [] }
def defBody (s : Stmt) : List Stmt := match s with
  | .FunctionDef _ _ b _ _ _ _ _ _ _ => b
  | _ => []
def defScope (s : Stmt) : Scope := match s with
  | .FunctionDef _ _ _ _ _ _ sc _ _ _ => sc
  | _ => { kind := .function, names := [], isGenerator := false, isCoroutine := false }

/-! ### no exception leaves a def -/
abbrev CX0 : CXT := fun _ _ _ _ _ _ => False
abbrev E0 : XK := fun _ _ _ => False
theorem pass0 {X : Cx} : Passes CX0 X E0 := fun _ _ _ _ _ _ _ h => h.elim

/-! ### a def (or method) of the text as it stands behind the top -/
section
variable {P : Program} {w : World} {K : PySem.W.Frag} {mg : Str → Option Value} {base : Heap}
end
theorem hu_of {A : Around} {k : Nat} (hr : Room k A) : A.units + 1 < cLine := Nat.lt_of_le_of_lt (Nat.add_le_add_left (by decide : 1 ≤ 64) _) hr.units
/-! ### expressions in short: the name that stands in the i-th slot -/
section
variable {X : Cx}
theorem pv (i : Nat) {x : Str} {pos : Pos} (hN : X.N[i]? = some x := by rfl) (hv : Vis X.env.scope x := by first | exact Or.inl rfl | exact Or.inr (Or.inl rfl) | exact Or.inr (Or.inr rfl)) (hd : (x == ("__debug__" : Str)) = false := by decide)
    (hcd : (x == ("__classdict__" : Str)) = false := by decide) : PE X (.Name x pos) (tVar i) := pe_var hN hv hd hcd
end

/-! ### tests -/
theorem iteF {A B : Prop} (h : B) : if false = true then A else B := by
  rw [if_neg Bool.false_ne_true]
  exact h
theorem iteT {A B : Prop} (h : A) : if true = true then A else B := by
  rw [if_pos rfl]
  exact h
/-! ### heaps -/
/-- all that was tracked is as it was -/
def Same (H H' : Hp) : Prop := ∀ b o, H b = some o → H' b = some o
theorem Same.refl (H : Hp) : Same H H := fun _ _ h => h
theorem Same.trans {H H1 H2 : Hp} (a : Same H H1) (b : Same H1 H2) : Same H H2 := fun c o h => b c o (a c o h)
theorem Same.free {H H' : Hp} (e : Same H H') {l : Addr} (h : H' l = Option.none) : H l = Option.none := by
  cases q : H l with
  | none => rfl
  | some o =>
    rw [e l o q] at h
    cases h
theorem Same.seq {K : PySem.W.Frag} {H H' : Hp} {a : Addr} {xs : List V} (e : Same H H') (h : SqL K H a xs) : SqL K H' a xs := by
  rcases h with (h | ⟨o, h⟩) | h
  · exact .inl (.inl (e _ _ h))
  · exact .inl (.inr ⟨o, e _ _ h⟩)
  · exact .inr h

end L2
set_option Elab.async false
set_option linter.all false
set_option maxRecDepth 100000
namespace L2
open PySem PySem.Spec PyProof.Rows
section
variable {X : Cx}
theorem op_mulB : OpR X (binaryOp .Mult) (rI (fun i j => IntMulOk i j) fun i j => .int (i * j)) := opI fun _ _ _ _ _ _ _ hc q => mul_int q hc
theorem op_fdivB : OpR X (binaryOp .FloorDiv) (rI (fun i j => j ≠ 0 ∧ Builtin.divisionGoesByPylong i j = false) fun i j => .int (i.fdiv j)) := opI fun _ _ _ _ _ _ _ hc q => floordiv_int hc.1 q (.inl hc.2)
theorem op_powB : OpR X (binaryOp .Pow) (rI (fun i j => 0 ≤ j ∧ (Builtin.Int.intBits i : Int) * j ≤ 2 ^ 27) fun i j => .int (i ^ j.toNat)) := opI fun _ _ _ _ _ _ _ hc q => pow_int hc.1 hc.2 q
end
end L2
set_option Elab.async false
set_option linter.all false
set_option maxRecDepth 100000
namespace Sw
open PySem
/-! ### sizes -/
/-! ### divisors -/
/-! ### fractions -/
end Sw
set_option Elab.async false
set_option linter.all false
set_option maxRecDepth 100000
namespace L2
open PySem
end L2
namespace Sw
open PySem L2
theorem dT {p A B : Prop} [Decidable p] (h : p) (a : A) : if decide p = true then A else B := by rw [if_pos (decide_eq_true h)]; exact a
theorem dF {p A B : Prop} [Decidable p] (h : ¬ p) (b : B) : if decide p = true then A else B := by rw [if_neg (by simp [h])]; exact b
theorem d2 {p A B : Prop} [Decidable p] (h1 : p → A) (h2 : ¬ p → B) : if decide p = true then A else B := by
  by_cases h : p
  · exact dT h (h1 h)
  · exact dF h (h2 h)
theorem nT {p A B : Prop} [Decidable p] (h : ¬ p) (a : A) : if (!decide p) = true then A else B := by rw [if_pos (by simp [h])]; exact a
theorem nF {p A B : Prop} [Decidable p] (h : p) (b : B) : if (!decide p) = true then A else B := by rw [if_neg (by simp [h])]; exact b
theorem vi {a b : Int} (h : a = b) : V.int a = V.int b := by rw [h]
theorem vj {a b : Int} (h : V.int a = V.int b) : a = b := by cases h; rfl
theorem d2I {a b : Int} {A B : Prop} (h1 : a = b → A) (h2 : a ≠ b → B) : if decide (V.int a = V.int b) = true then A else B := d2 (fun h => h1 (vj h)) fun h => h2 fun e => h (vi e)
theorem nTI {a b : Int} {A B : Prop} (h : a ≠ b) (x : A) : if (!decide (V.int a = V.int b)) = true then A else B := nT (fun e => h (vj e)) x
theorem nFI {a b : Int} {A B : Prop} (h : a = b) (x : B) : if (!decide (V.int a = V.int b)) = true then A else B := nF (vi h) x
section
variable {X : Cx} {k j : Nat} {x : Str} {ps : List Str} {sp : Sp} {p pos : Pos} {e : Expr} {es : List Expr} {t : TA}
end
/-! ### promises -/
def spCell (K : PySem.W.Frag) : Sp := fun vs H Q _ => ∃ (a : Addr) (ns : List Int) (k : Int), vs = [.ref a, .int k] ∧ SqL K H a (ns.map V.int) ∧ 0 ≤ k ∧ ∀ v : Int, Q (.int v) H
def spLaw (K : PySem.W.Frag) : Sp := fun vs H Q _ => ∃ (a : Addr) (ns : List Int), vs = [.ref a] ∧ SqL K H a (ns.map V.int) ∧ ns.length ≤ 63 ∧ ∀ H', Q (.bl true) H'
theorem cell_ok {ns : List Int} {k : Int} (h0 : 0 ≤ k) (h : k < (((ns.map V.int).length : Nat) : Int)) : ∃ v : Int, atI (ns.map V.int) k = some (.int v) := by
  rw [List.length_map] at h
  have hk : k.toNat < ns.length := by omega
  have ek : k = ((k.toNat : Nat) : Int) := by omega
  have q : atI (ns.map V.int) ((k.toNat : Nat) : Int) = some (.int ns[k.toNat]) := atI_nat (by rw [List.getElem?_map, List.getElem?_eq_getElem hk] <;> rfl)
  rw [← ek] at q
  exact ⟨_, q⟩
end Sw
set_option Elab.async false
set_option linter.all false
set_option maxRecDepth 100000
namespace Sw
open PySem L2
theorem cut {t u : TS} {D : Ends} {σ : L2.St} {H : Hp} (I : L2.St → Hp → Prop) (h1 : ∀ N : L2.St → Hp → Prop, (∀ σ H, I σ H → N σ H) → t { D with nx := N } σ H) (h2 : ∀ σ H, I σ H → u D σ H) : tSeq t u D σ H := h1 _ h2
theorem same_new {H : Hp} {p : Addr} (h : H p = none) (o : HO) : Same H (upd H p o) := fun b u q => by rw [upd_ne (ne_of_none q h)]; exact q
end Sw
set_option Elab.async false
set_option linter.all false
set_option maxRecDepth 100000
namespace Sw
open PySem L2
structure FunD (K : PySem.W.Frag) (x qual : Str) (st : Stmt) (dV : Value) (f : Addr) (fd : FuncData) : Prop where
  ex : ∃ (oc : Value) (od : Option Addr) (kV doc pm : Value) (an : Option Addr) (cdv ct : Value) (osl : Array (Option Value)),
    fd = PySem.W.fnOf x qual (defArgs st) (defBody st) (defScope st) dV kV doc pm an cdv ct ∧ K.lookup f = some ⟨oc, od, .func fd, osl⟩ ∧ PySem.W.codeIn K cdv qual = true
  kp : PySem.W.keepIn K (.ref f) = true
section
variable {P : Program} {w : World} {K : PySem.W.Frag} {mg : Str → Option Value} {base : Heap}
theorem FunD.ok {x qual : Str} {st : Stmt} {dV : Value} {f : Addr} {fd : FuncData} {N ps : List Str} {k : Nat} {sp : Sp} (F : FunD K x qual st dV f fd) (S : FnScope N ps (defScope st)) (len : ∀ vs H Q E, sp vs H Q E → vs.length = ps.length)
    (hbody : ∀ (cdv : Value) (A : Around) (outer : List Env) (s : Shared) (H : Hp) (vs : List V) (Q : VK) (E : XK), Room k (A.deeper (PyProof.Rows.envOfC qual (defScope st) s.heap.objs.size f cdv)) → sp vs H Q E →
      ∃ t, PSs (cxOf CX0 P w K mg base N qual (defScope st) f cdv A outer s H E).nox (defBody st) t ∧ t { nx := fun _ H' => Q .non H', rt := Q } (start N vs) H) : FnOk P w K mg base CX0 (k + 1) f fd ps sp := by
  obtain ⟨oc, od, kV, doc, pm, an, cdv, ct, osl, rfl, lk, hcd⟩ := F.ex
  refine fn_of lk hcd S len fun A outer s H vs Q E hr hsp => ?_
  obtain ⟨t, h, q⟩ := hbody cdv A outer s H vs Q E hr hsp
  exact ⟨t, h.nox, q⟩
theorem FunD.binds0 {x qual : Str} {st : Stmt} {dV : Value} {f : Addr} {fd : FuncData} {ps : List Str} (F : FunD K x qual st dV f fd)
    (h : ∀ (kV doc pm : Value) (an : Option Addr) (cdv ct : Value) (us : List Value), us.length = ps.length → bindArgs (PySem.W.fnOf x qual (defArgs st) (defBody st) (defScope st) dV kV doc pm an cdv ct) ⟨us, []⟩ = pure (ps.zip us)) : Binds K fd ps [] := by
  obtain ⟨oc, od, kV, doc, pm, an, cdv, ct, osl, rfl, lk, hcd⟩ := F.ex
  exact .all (h kV doc pm an cdv ct)
theorem funD_mk {x qual : Str} {st : Stmt} {f : Addr} {oc dV : Value} {od an : Option Addr} {osl : Array (Option Value)} {kV doc pm cdv ct : Value} (l : K.lookup f = some ⟨oc, od, .func (PySem.W.fnOf x qual (defArgs st) (defBody st) (defScope st) dV kV doc pm an cdv ct), osl⟩)
    (c : PySem.W.codeIn K cdv qual = true) (k : PySem.W.keepIn K (.ref f) = true) : FunD K x qual st dV f (PySem.W.fnOf x qual (defArgs st) (defBody st) (defScope st) dV kV doc pm an cdv ct) := ⟨⟨oc, od, kV, doc, pm, an, cdv, ct, osl, rfl, l, c⟩, k⟩
end
section
variable {X : Cx} {k j : Nat} {x : Str} {ps : List Str} {sp : Sp} {p pos : Pos} {e : Expr} {es : List Expr} {t : TA} {dvs : List V}
end
/-! ### the mathematics of sums -/
end Sw
set_option Elab.async false
set_option linter.all false
set_option maxRecDepth 100000
namespace XH
open PySem
/-! ### what a frame's note and the flight of an exception change -/
structure Mv (fs ch : List Addr) (h h' : Heap) : Prop where
  keep : ∀ b o, b ∉ fs → b ∉ ch → h.get? b = some o → h'.get? b = some o
  slot : ∀ b o, b ∈ fs → b ∉ ch → h.get? b = some o → ∃ sl, h'.get? b = some { o with slots := sl }
  there : ∀ b o, h.get? b = some o → ∃ o', h'.get? b = some o'
theorem Mv.refl (fs ch : List Addr) (h : Heap) : Mv fs ch h h := ⟨fun _ _ _ _ q => q, fun _ o _ _ q => ⟨o.slots, q⟩, fun _ o q => ⟨o, q⟩⟩
theorem Mv.trans {fs c1 c2 ch : List Addr} {h h1 h2 : Heap} (x : Mv fs c1 h h1) (y : Mv fs c2 h1 h2) (k1 : ∀ b, b ∈ c1 → b ∈ ch) (k2 : ∀ b, b ∈ c2 → b ∈ ch) : Mv fs ch h h2 where
  keep := fun b o hf hc q => y.keep b o hf (fun z => hc (k2 b z)) (x.keep b o hf (fun z => hc (k1 b z)) q)
  slot := fun b o hf hc q => by
    obtain ⟨sl, q1⟩ := x.slot b o hf (fun z => hc (k1 b z)) q
    obtain ⟨sl2, q2⟩ := y.slot b _ hf (fun z => hc (k2 b z)) q1
    exact ⟨sl2, q2⟩
  there := fun b o q => by
    obtain ⟨o1, q1⟩ := x.there b o q
    exact y.there b o1 q1
/-- the note in an exception's traceback: none yet, or an entry in such a flight -/
inductive XSt where
  | new
  | fl (v : Value)
def XSt.Is (F : Addr → Prop) (h : Heap) (e : Addr) (vs : Array Value) : XSt → Prop
  | .new => vs[1]? = some .none
  | .fl v => ∃ T oT ts, vs[1]? = some (.ref T) ∧ F T ∧ T ≠ e ∧ h.get? T = some oT ∧ oT.data = .fields ts ∧ ts[3]? = some v
/-- room for its entries, and it came with no other one handled -/
def Fz (vs : Array Value) : Prop := 1 < vs.size ∧ vs[2]? = some .none
theorem Fz.set {vs : Array Value} (h : Fz vs) (v : Value) : Fz (vs.setIfInBounds 1 v) := ⟨by simpa using h.1, by rw [Array.getElem?_setIfInBounds]; simp [h.2]⟩
structure XO (F : Addr → Prop) (h : Heap) (e : Addr) (cls : Value) (dx : Option Addr) (st : XSt) : Prop where
  ex : ∃ oe vs, h.get? e = some oe ∧ oe.cls = cls ∧ oe.dict = dx ∧ oe.data = .fields vs ∧ Fz vs ∧ st.Is F h e vs
  fr : F e
theorem XO.mono {F G : Addr → Prop} {h : Heap} {e : Addr} {cls : Value} {dx : Option Addr} {st : XSt} (x : XO F h e cls dx st) (k : ∀ b, F b → G b) : XO G h e cls dx st := by
  obtain ⟨⟨oe, vs, a, b, c, d, f, g⟩, fr⟩ := x
  refine ⟨⟨oe, vs, a, b, c, d, f, ?_⟩, k _ fr⟩
  cases st with
  | new => exact g
  | fl v =>
    obtain ⟨T, oT, ts, g1, g2, g3⟩ := g
    exact ⟨T, oT, ts, g1, k _ g2, g3⟩
theorem mapf_dict (o : Obj) (f : Array Value → Array Value) : (o.mapFields f).dict = o.dict := by
  obtain ⟨c, d, dt, sl⟩ := o
  cases dt <;> rfl
section
variable {M : Model} {A : Around} {E : Value → Shared → Prop} {s : Shared}
theorem entry_ok {base : Heap} {env : Env} {outer : List Env} {L e : Addr} {oe : Obj} {vs : Array Value} {head : Value} {had : Bool} {Q : Unit → Shared → Prop}
    (hfr : A.frames = some (env :: outer)) (hl : s.heap.FunFrames base (env :: outer)) (hf : env.frame = some L) (he : s.heap.get? e = some oe) (hd : oe.data = .fields vs) (hsz : 1 < vs.size)
    (h : ∀ h' T, Mv ((env :: outer).filterMap (·.frame)) [e] s.heap h' → s.heap.get? T = none → T ≠ e → h'.get? e = some (oe.mapFields (·.setIfInBounds 1 (.ref T))) →
      (∃ oT ts, h'.get? T = some oT ∧ oT.data = .fields ts ∧ ts[3]? = some (rawInt L)) → Q () { s with heap := h' }) :
    wpAny M A (do let a ← frameOf env; let pl ← entryPlaceOf L had; let b ← EntryCells.newEntry head a .none (rawInt L) .none pl; setField (.ref e) 1 b) Q E s := by
  have hne : e ∉ (env :: outer).filterMap (·.frame) := by
    intro hm
    obtain ⟨_, o, ho, hnf⟩ := hl.mem hm
    rw [he] at ho
    cases ho
    exact hnf vs hd
  apply wpAny_bind
  apply wpAny_frameOf_fun hfr hl hf
  intro h1 hs
  apply wpAny_bind
  apply wpAny_entryPlaceOf
  intro pl hpl
  unfold EntryCells.newEntry newFields
  apply wpAny_bind
  refine wpAny_newObj_type ?_ (hpl.sizeOk5 ..)
  have e1 : h1.get? e = some oe := (hs.2.1 e hne).trans he
  generalize hob : ({ cls := .type "traceback", dict := none, data := .fields ([head, .ref L, .none, rawInt L, .none] ++ (if pl.isEmpty then List.replicate 6 Value.none else pl)).toArray } : Obj) = ob
  have e2 := Heap.get?_push_of_some (h := h1) ob e1
  refine wpAny_setField e2 hd hsz ?_
  have hTe : h1.objs.size ≠ e := Nat.ne_of_gt (Heap.lt_size e1)
  have d3 := Obj.data_mapFields hd (·.setIfInBounds 1 (Value.ref h1.objs.size))
  have e3 := Heap.get?_update_self (Obj.mapFields (·.setIfInBounds 1 (Value.ref h1.objs.size))) e2 (Obj.isFreed_of_fields d3)
  have kp : ∀ b o, b ≠ e → h1.get? b = some o → ((h1.push ob).update e (Obj.mapFields (·.setIfInBounds 1 (Value.ref h1.objs.size)))).get? b = some o := by
    intro b o hb q
    rw [Heap.get?_update_other _ _ (Ne.symm hb)]
    exact Heap.get?_push_of_some _ q
  have t3 : ((h1.push ob).update e (Obj.mapFields (·.setIfInBounds 1 (Value.ref h1.objs.size)))).get? h1.objs.size = some ob := by
    rw [Heap.get?_update_other _ _ (Ne.symm hTe)]
    exact Heap.get?_push_size h1 (by rw [← hob]; rfl)
  refine h _ h1.objs.size ⟨?_, ?_, ?_⟩ ?_ hTe e3 ?_
  · intro b o hb hc q
    exact kp b o (fun z => hc (by rw [z]; exact List.mem_singleton.mpr rfl)) ((hs.2.1 b hb).trans q)
  · intro b o hb hc q
    obtain ⟨sl, q1⟩ := hs.2.2 b o q
    exact ⟨sl, kp b _ (fun z => hc (by rw [z]; exact List.mem_singleton.mpr rfl)) q1⟩
  · intro b o q
    by_cases hb : b = e
    · subst hb
      exact ⟨_, e3⟩
    · obtain ⟨sl, q1⟩ := hs.2.2 b o q
      exact ⟨_, kp b _ hb q1⟩
  · exact Heap.get?_none_of_le (by rw [hs.1]; exact Nat.le_refl _)
  · subst hob
    refine ⟨_, _, t3, rfl, ?_⟩
    rcases hpl with rfl | ⟨_, _, _, _, _, _, _, rfl⟩ <;> simp
theorem flight_ok {F : Addr → Prop} {e : Addr} {cls v : Value} {dx fl : Option Addr} {Q : Unit → Shared → Prop} (x : XO F s.heap e cls dx (.fl v))
    (h : ∀ h' T, F T → Mv [] [T] s.heap h' → XO F h' e cls dx (.fl (fl.elim .none fun f => rawInt f)) → Q () { s with heap := h' }) : wpAny M A (setFlight (.ref e) fl) Q E s := by
  obtain ⟨⟨oe, vs, he, hc, hdx, hd, hsz, T, oT, ts, h1, hF, hTe, hT, hdT, h3⟩, fr⟩ := x
  have z3 : 3 < ts.size := (Array.getElem?_eq_some_iff.mp h3).1
  have oth : ∀ b, b ≠ T → (s.heap.update T (Obj.mapFields (·.setIfInBounds 3 (fl.elim Value.none fun f => rawInt f)))).get? b = s.heap.get? b := fun b hb => Heap.get?_update_other _ _ (Ne.symm hb)
  have t4 := Heap.get?_update_self (Obj.mapFields (·.setIfInBounds 3 (fl.elim Value.none fun f => rawInt f))) hT (Obj.isFreed_of_fields (Obj.data_mapFields hdT _))
  unfold setFlight
  apply wpAny_bind
  apply wpAny_field he hd h1
  rw [if_pos (by simp)]
  apply wpAny_setField hT hdT z3
  refine h _ T hF ⟨?_, fun b o hb => absurd hb (by simp), ?_⟩ ⟨⟨oe, vs, (oth e (Ne.symm hTe)).trans he, hc, hdx, hd, hsz, T, _, _, h1, hF, hTe, t4, Obj.data_mapFields hdT _, by simp [z3]⟩, fr⟩
  · intro b o _ hb q
    exact (oth b (fun z => hb (by rw [z]; exact List.mem_singleton.mpr rfl))).trans q
  · intro b o q
    by_cases hb : b = T
    · subst hb
      exact ⟨_, t4⟩
    · exact ⟨o, (oth b hb).trans q⟩
theorem note_ok {F : Addr → Prop} {base : Heap} {env : Env} {outer : List Env} {L e : Addr} {cls : Value} {dx : Option Addr} {st : XSt} {Q : Unit → Shared → Prop}
    (hfr : A.frames = some (env :: outer)) (hl : s.heap.FunFrames base (env :: outer)) (hf : env.frame = some L) (x : XO F s.heap e cls dx st)
    (h : ∀ h' ch, (∀ b ∈ ch, F b) → Mv ((env :: outer).filterMap (·.frame)) ch s.heap h' → XO (fun b => F b ∨ s.heap.get? b = none) h' e cls dx (.fl (rawInt L)) → Q () { s with heap := h' }) : wpAny M A (noteFrame (.ref e) env) Q E s := by
  obtain ⟨⟨oe, vs, he, hc, hdx, hd, hsz, hst⟩, fr⟩ := x
  unfold noteFrame
  simp only [hf]
  cases st with
  | new =>
    apply wpAny_bind
    apply wpAny_field he hd hst
    rw [if_neg (by decide)]
    refine entry_ok hfr hl hf he hd hsz.1 fun h' T mv tn tne he' ⟨oT, ts, hT, hdT, h3⟩ => ?_
    refine h h' [e] (fun b hb => by rw [List.mem_singleton.mp hb]; exact fr) mv ⟨⟨_, _, he', ?_, ?_, Obj.data_mapFields hd _, hsz.set _, T, oT, ts, by simp [hsz.1], .inr tn, tne, hT, hdT, h3⟩, .inl fr⟩
    · rw [Obj.cls_mapFields]; exact hc
    · rw [mapf_dict]; exact hdx
  | fl v =>
    obtain ⟨T, oT, ts, h1, hF, hTe, hT, hdT, h3⟩ := hst
    have z3 : 3 < ts.size := (Array.getElem?_eq_some_iff.mp h3).1
    apply wpAny_bind
    apply wpAny_field he hd h1
    rw [if_pos (by simp)]
    apply wpAny_bind
    apply wpAny_field hT hdT h3
    by_cases hv : (v == rawInt L) = true
    · rw [if_pos hv]
      have ev : v = rawInt L := beq_iff_eq.mp hv
      subst ev
      refine wpAny_pure (h s.heap [] (fun b hb => absurd hb (by simp)) (.refl ..) ⟨⟨oe, vs, he, hc, hdx, hd, hsz, T, oT, ts, h1, .inl hF, hTe, hT, hdT, h3⟩, .inl fr⟩)
    · rw [if_neg hv]
      apply wpAny_bind
      apply wpAny_setField hT hdT z3
      have oth : ∀ b, b ≠ T → (s.heap.update T (Obj.mapFields (·.setIfInBounds 3 Value.none))).get? b = s.heap.get? b := fun b hb => Heap.get?_update_other _ _ (Ne.symm hb)
      have t4 := Heap.get?_update_self (Obj.mapFields (·.setIfInBounds 3 Value.none)) hT (Obj.isFreed_of_fields (Obj.data_mapFields hdT _))
      have nrec : ∀ b o, s.heap.get? b = some o → (∀ vs, o.data ≠ .fields vs) → b ≠ T := by
        intro b o hb hn z
        rw [z, hT] at hb
        cases hb
        exact hn ts hdT
      have mv1 : Mv ((env :: outer).filterMap (·.frame)) [T] s.heap (s.heap.update T (Obj.mapFields (·.setIfInBounds 3 Value.none))) := by
        refine ⟨fun b o _ hb q => (oth b (fun z => hb (by rw [z]; exact List.mem_singleton.mpr rfl))).trans q, fun b o _ hb q => ⟨o.slots, (oth b (fun z => hb (by rw [z]; exact List.mem_singleton.mpr rfl))).trans q⟩, fun b o q => ?_⟩
        by_cases hb : b = T
        · subst hb
          exact ⟨_, t4⟩
        · exact ⟨o, (oth b hb).trans q⟩
      refine entry_ok (s := { s with heap := s.heap.update T (Obj.mapFields (·.setIfInBounds 3 Value.none)) }) hfr (hl.of_keeps fun b o hb hn => ⟨o, (oth b (nrec b o hb hn)).trans hb, rfl⟩) hf ((oth e (Ne.symm hTe)).trans he) hd hsz.1 fun h' T2 mv tn tne he' ⟨oT2, ts2, hT2, hdT2, h32⟩ => ?_
      refine h h' [T, e] ?_ (mv1.trans mv (fun b hb => by simp at hb; simp [hb]) (fun b hb => by simp at hb; simp [hb])) ⟨⟨_, _, he', ?_, ?_, Obj.data_mapFields hd _, hsz.set _, T2, oT2, ts2, by simp [hsz.1], .inr ?_, tne, hT2, hdT2, h32⟩, .inl fr⟩
      · intro b hb
        simp at hb
        rcases hb with rfl | rfl
        · exact hF
        · exact fr
      · rw [Obj.cls_mapFields]; exact hc
      · rw [mapf_dict]; exact hdx
      · cases q : s.heap.get? T2 with
        | none => rfl
        | some o =>
          obtain ⟨o', q'⟩ := mv1.there T2 o q
          rw [q'] at tn
          cases tn
end
end XH
set_option Elab.async false
set_option linter.all false
set_option maxRecDepth 100000
namespace L2
open PySem PySem.Spec PyProof.Rows XH
/-! ### an exception behind a call, in flight: it and its notes are untracked, and were not there ahead of the call -/
structure CXat (P : Program) (w : World) (outer : List Env) (H : Hp) (s : Shared) (a : Addr) (H' : Hp) (cls : Value) (dx : Option Addr) (st : XSt) (s' : Shared) : Prop where
  os : s'.os = s.os
  bare : AllBare s'.gens
  un : Un (frs outer) [] H H' s.heap s'.heap
  hok : HOk P w H' s'.heap
  xo : XO (fun b => s.heap.get? b = none ∧ H' b = none) s'.heap a cls dx st
def CX1 (P : Program) (w : World) : CXT := fun outer H s E e s' => ∃ a H' cls dx st, e = .ref a ∧ CXat P w outer H s a H' cls dx st s' ∧ E cls dx H'
section
variable {P : Program} {w : World} {H H' : Hp} {h h' h0 : Heap} {fs ch : List Addr} {a : Addr} {o : HO}
theorem ObjOk.there (x : ObjOk P w H h a o) : ∃ u, h.get? a = some u := by
  cases o with
  | lst xs => obtain ⟨_, _, _, _, e⟩ := x; exact ⟨_, e⟩
  | tup xs => obtain ⟨_, _, _, _, e, _⟩ := x; exact ⟨_, e⟩
  | dK kvs => obtain ⟨_, _, _, _, _, _, _, e, _⟩ := x; exact ⟨_, e⟩
  | dT kvs => obtain ⟨_, _, _, _, _, _, _, e, _⟩ := x; exact ⟨_, e⟩
  | set S n => obtain ⟨_, _, _, _, e, _⟩ := x; exact ⟨_, e⟩
  | ins C dx fs => obtain ⟨_, _, _, e, _⟩ := x; exact ⟨_, e⟩
  | own y => exact x
  | xd fs => obtain ⟨_, ⟨_, _, _, e, _⟩, _⟩ := x; exact ⟨_, e⟩
  | rng lo hi => obtain ⟨_, _, _, e⟩ := x; exact ⟨_, e⟩
  | frz ob u => obtain ⟨e, _⟩ := x; exact ⟨_, e⟩
  | tbl ps => exact ⟨_, show h.get? a = some _ from x⟩
  | met f y => exact ⟨_, show h.get? a = some _ from x⟩
  | ext φ => obtain ⟨_, ⟨_, e⟩, _⟩ := x; exact ⟨_, e⟩
theorem HOk.none_of (k : HOk P w H h) (q : h.get? a = none) : H a = none := by
  cases r : H a with
  | none => rfl
  | some o =>
    obtain ⟨u, e⟩ := (k a o r).there
    rw [q] at e
    cases e
theorem un_mv (u : Un fs [] H H' h0 h) (m : Mv fs ch h h') (hc : ∀ b ∈ ch, h0.get? b = none) : Un fs [] H H' h0 h' where
  keep := fun b o q n hb hx => m.keep b o hb (fun z => by rw [hc b z] at q; cases q) (u.keep b o q n hb hx)
  slot := fun b o q n hb hx => by
    obtain ⟨sl, q1⟩ := u.slot b o q n hb hx
    obtain ⟨sl2, q2⟩ := m.slot b _ hb (fun z => by rw [hc b z] at q; cases q) q1
    exact ⟨sl2, q2⟩
  free := u.free
  there := fun b o q hx => by
    obtain ⟨o1, q1⟩ := u.there b o q hx
    exact m.there b o1 q1
  tups := u.tups
  frzs := u.frzs
  tbls := u.tbls
theorem hok_mv (k : HOk P w H h) (m : Mv fs ch h h') (hc : ∀ b ∈ ch, H b = none) (hf : ∀ b ∈ fs, H b = none) : HOk P w H h' := fun a o e =>
  (k a o e).stay (fun b u hb q => by
    have t : H b ≠ none := by
      rcases hb with z | z
      · rw [z, e]; exact fun y => nomatch y
      · rw [z]; exact fun y => nomatch y
    exact m.keep b u (fun z => t (hf b z)) (fun z => t (hc b z)) q) (fun _ q => q) fun _ _ q => q
theorem _root_.XH.Mv.wider (m : Mv [] ch h h') : Mv fs ch h h' := ⟨fun b o _ hc q => m.keep b o (by simp) hc q, fun b o _ hc q => ⟨o.slots, m.keep b o (by simp) hc q⟩, m.there⟩
theorem funs_un {base : Heap} (u : Un fs [] H H' h h') : ∀ {l : List Env}, h.FunFrames base l → (∀ b ∈ frs l, b ∈ fs ∧ H b = none) → h'.FunFrames base l
  | [], _, _ => trivial
  | env :: r, ⟨hk, ⟨L, o, hf, hn, ho, hd⟩, hr⟩, hs => by
    have hL : L ∈ frs (env :: r) := by unfold frs; rw [List.filterMap_cons, hf]; exact List.mem_cons_self
    obtain ⟨sl, e⟩ := u.slot L o ho (hs L hL).2 (hs L hL).1 (by simp)
    exact ⟨hk, ⟨L, _, hf, hn, e, hd⟩, funs_un u hr fun b hb => hs b (by unfold frs; rw [List.filterMap_cons, hf]; exact List.mem_cons_of_mem _ hb)⟩
end
section
variable {P : Program} {w : World} {H H' : Hp} {s s' : Shared} {a L : Addr} {cls v : Value} {dx : Option Addr} {st : XSt} {env : Env} {outer : List Env} {base : Heap} {M : Model} {A : Around} {Z : Value → Shared → Prop} {Q : Unit → Shared → Prop}
theorem CXat.frees (c : CXat P w outer H s a H' cls dx st s') (hl : s.heap.FunFrames base outer) (hH : ∀ b ∈ frs outer, H b = none) : ∀ b ∈ frs outer, H' b = none := fun b hb => by
  obtain ⟨_, o, ho, _⟩ := hl.mem hb
  exact c.un.free b o ho (hH b hb) (by simp)
theorem CXat.note (c : CXat P w (env :: outer) H s a H' cls dx st s') (hfr : A.frames = some (env :: outer)) (hf : env.frame = some L) (hl : s.heap.FunFrames base (env :: outer)) (hH : ∀ b ∈ frs (env :: outer), H b = none)
    (h : ∀ s'', CXat P w (env :: outer) H s a H' cls dx (.fl (rawInt L)) s'' → Q () s'') : wpAny M A (noteFrame (.ref a) env) Q Z s' := by
  refine note_ok hfr (funs_un c.un hl fun b hb => ⟨hb, hH b hb⟩) hf c.xo fun h' ch hch mv x => h _ ?_
  refine ⟨c.os, c.bare, un_mv c.un mv fun b hb => (hch b hb).1, hok_mv c.hok mv (fun b hb => (hch b hb).2) (c.frees hl hH), x.mono ?_⟩
  rintro b (q | q)
  · exact q
  · refine ⟨?_, c.hok.none_of q⟩
    cases r : s.heap.get? b with
    | none => rfl
    | some o =>
      obtain ⟨o', r'⟩ := c.un.there b o r (by simp)
      rw [r'] at q
      cases q
theorem CXat.flight {fl : Option Addr} (c : CXat P w outer H s a H' cls dx (.fl v) s') (hl : s.heap.FunFrames base outer) (hH : ∀ b ∈ frs outer, H b = none)
    (h : ∀ s'', CXat P w outer H s a H' cls dx (.fl (fl.elim .none fun f => rawInt f)) s'' → Q () s'') : wpAny M A (setFlight (.ref a) fl) Q Z s' := by
  refine flight_ok c.xo fun h' T hT mv x => h _ ⟨c.os, c.bare, un_mv c.un mv.wider fun b hb => ?_, hok_mv c.hok (mv.wider (fs := frs outer)) (fun b hb => ?_) (c.frees hl hH), x⟩
  · rw [List.mem_singleton.mp hb]; exact hT.1
  · rw [List.mem_singleton.mp hb]; exact hT.2
end
/-- what is wanted of an exception in a body: E speaks of the names, its class, its dict, the heap -/
def XS (X : Cx) (E : St → XK) : Value → Shared → Prop := fun e s' => ∃ σ H0 s0, Inv X [] σ H0 s0 ∧ CX1 X.prog X.w X.stack H0 s0 (E σ) e s'
def PassX (X : Cx) (E : St → XK) : Prop := ∀ (pins : List (Addr × Obj)) (σ : St) (H : Hp) (s : Shared) (e : Value) (s' : Shared), Inv X pins σ H s → CX1 X.prog X.w X.stack H s (E σ) e s' → X.xe e s'
theorem passX {X : Cx} {E : St → XK} : PassX (X.wish (XS X E)) E := fun pins σ H s e s' I c => ⟨σ, H, s, I.unwish.pins_of (fun p hp => absurd hp (by simp)), c⟩
def tCallX (sp : Sp) (dvs : List V) (E : St → XK) (t : TA) : TE := fun σ H Q => t σ H fun vs H1 => sp (vs ++ dvs) H1 Q (E σ)
section
variable {X : Cx} {k : Nat} {f C : Addr} {fd : FuncData} {ps : List Str} {sp : Sp} {dvs : List V} {ds : List Value} {E : St → XK} {x m : Str} {p pos apos : Pos} {e o : Expr} {es : List Expr} {ta : TE} {t : TA}
theorem run_fnX {pins : List (Addr × Obj)} {σ : St} {H : Hp} {s : Shared} {Q : VK} {us : List Value} {vs : List V} (F : FnOk X.prog X.w X.K X.mg X.base (CX1 X.prog X.w) k f fd ps sp) (hr : Room k X.A) (hb : Binds X.K fd ps ds) (hd : Vals dvs ds) (hx : PassX X E)
    (I : Inv X pins σ H s) (r : Vals vs us) (h : sp (vs ++ dvs) H Q (E σ)) : wpAny (model X.prog X.w) X.A (call (.ref f) us) (EP X pins σ Q) X.xe s := by
  have r2 : Vals (vs ++ dvs) (us ++ ds) := r.append hd
  have hl : (us ++ ds).length = ps.length := by rw [← r2.length]; exact F.len _ _ _ _ h
  refine wpAny_call (codeAny_mono (F.run X.A X.stack s H ⟨us, []⟩ (us ++ ds) (vs ++ dvs) Q (E σ) hr I.env0 (hb s us I.kIn hl) r2 h) fun r s' hq => ?_)
  cases r with
  | error e => exact hx pins σ H s e s' I hq
  | ok fl =>
    cases fl with
    | ret u => exact I.after hq
    | next => exact False.elim hq
    | brk => exact False.elim hq
    | cont => exact False.elim hq
theorem pe_callX (F : FnOk X.prog X.w X.K X.mg X.base (CX1 X.prog X.w) k f fd ps sp) (hr : Room k X.A) (hg : Gl X x) (hm : X.mg x = some (.ref f)) (hk : PySem.W.keepIn X.K (.ref f) = true) (hb : Binds X.K fd ps ds) (hd : Vals dvs ds) (hx : PassX X E)
    (ha : PA X (e :: es) t) (hdb : (x == ("__debug__" : Str)) = false := by decide) (he : starEach (e :: es) X.env = (false, eval e X.env) :: starEach es X.env := by rfl) (hpl : (backTo pos (starEach es X.env)).any (·.1) = false := by rfl) :
    PE X (.Call (.Name x p) (e :: es) [] pos) (tCallX sp dvs E t) := by
  intro pins s σ H Q I h
  refine wpAny_Call_Name_kw (ld_glob I hg hm ?_ hdb)
  refine PySem.W.callWith_K (h₀ := X.base) I.ok.mod.kin hk (thn (ha pos pins s σ H _ I h) fun us s1 ⟨vs, H1, I1, r, q⟩ => ⟨I1.kIn, ?_⟩) he hpl
  exact run_fnX F hr hb hd hx I1 r q
end
theorem PSs.toX {X : Cx} {E' : Value → Shared → Prop} {st : List Stmt} {t : TS} (h : PSs (X.wish E') st t) (k : ∀ e s, E' e s → X.xe e s) : PSs X st t := fun pins s σ H D I hw =>
  wpAny_mono (h pins s σ H D (I.wish _) hw) (fun _ _ q => q.unwish) fun e s z => k e s z
section
variable {P : Program} {w : World} {K : PySem.W.Frag} {mg : Str → Option Value} {base : Heap}
theorem leave_ok {N : List Str} {qual : Str} {scope : Scope} {f : Addr} {cd : Value} {A : Around} {outer : List Env} {s : Shared} {H : Hp} {E : XK} {e : Value} {s' : Shared}
    (h : XS (cxOf (CX1 P w) P w K mg base N qual scope f cd A outer s H E) (fun _ => E) e s') : (cxOf (CX1 P w) P w K mg base N qual scope f cd A outer s H E).xe e s' := by
  obtain ⟨σ, H0, s0, I, a, H', cls, dx, st, rfl, c, hE⟩ := h
  show wpAny (model P w) (A.deeper (envOfC qual scope s.heap.objs.size f cd)) (leaving (envOfC qual scope s.heap.objs.size f cd) (.ref a)) (fun _ s'' => CX1 P w outer H s E (.ref a) s'') (fun e' s'' => CX1 P w outer H s E e' s'') s'
  unfold leaving
  apply wpAny_bind
  refine c.note (L := s.heap.objs.size) I.ok.frames rfl I.stack I.stkFree fun s1 c1 => ?_
  refine c1.flight I.stack I.stkFree fun s2 c2 => ?_
  have J := I.call' c2.os c2.un c2.hok c2.bare (fun b z => absurd z (by simp))
  refine ⟨a, H', cls, dx, _, rfl, ⟨J.os, c2.bare, J.base, c2.hok, c2.xo.mono fun b q => ⟨?_, q.2⟩⟩, hE⟩
  cases r : s.heap.get? b with
  | none => rfl
  | some o =>
    obtain ⟨o', r'⟩ := I.base.there b o r (fun z => absurd (show b ∈ ([] : List Addr) from z) (by simp))
    rw [q.1] at r'
    cases r'
/-- THE RULE for a def that may refuse -/
theorem fn_ofX {k : Nat} {f : Addr} {name qual : Str} {params : Arguments} {body : List Stmt} {scope : Scope} {dV kV doc pm cdv ct oc : Value} {an od : Option Addr}
    {osl : Array (Option Value)} {N ps : List Str} {sp : Sp} (lk : K.lookup f = some ⟨oc, od, .func (PySem.W.fnOf name qual params body scope dV kV doc pm an cdv ct), osl⟩) (hcd : PySem.W.codeIn K cdv qual = true) (S : FnScope N ps scope)
    (len : ∀ vs H Q E, sp vs H Q E → vs.length = ps.length)
    (hbody : ∀ (A : Around) (outer : List Env) (s : Shared) (H : Hp) (vs : List V) (Q : VK) (E : XK), Room k (A.deeper (envOfC qual scope s.heap.objs.size f cdv)) → sp vs H Q E →
      ∃ t, PSs ((cxOf (CX1 P w) P w K mg base N qual scope f cdv A outer s H E).wish (XS (cxOf (CX1 P w) P w K mg base N qual scope f cdv A outer s H E) fun _ => E)) body t ∧ t { nx := fun _ H' => Q .non H', rt := Q } (start N vs) H) :
    FnOk P w K mg base (CX1 P w) (k + 1) f (PySem.W.fnOf name qual params body scope dV kV doc pm an cdv ct) ps sp := by
  refine fn_of lk hcd S len fun A outer s H vs Q E hr hsp => ?_
  obtain ⟨t, h, q⟩ := hbody A outer s H vs Q E hr hsp
  exact ⟨t, h.toX fun e s' z => leave_ok z, q⟩
/-- a promise under which it refuses nothing -/
theorem FnOk.noraise {k : Nat} {f : Addr} {fd : FuncData} {ps : List Str} {sp sp0 : Sp} (F : FnOk P w K mg base (CX1 P w) k f fd ps sp) (h : ∀ vs H Q E, sp0 vs H Q E → sp vs H Q E0) : FnOk P w K mg base CX0 k f fd ps sp0 :=
  ⟨fun vs H Q E q => F.len vs H Q E0 (h _ _ _ _ q), fun A outer s H args us vs Q E hr he hb hv hs => codeAny_mono (F.run A outer s H args us vs Q E0 hr he hb hv (h _ _ _ _ hs)) fun r s' hq => by
    cases r with
    | error e => obtain ⟨_, _, _, _, _, _, _, z⟩ := hq; exact z.elim
    | ok fl => cases fl <;> exact hq⟩
end
/-! ### try -/
abbrev Cx.tried (X : Cx) (pins : List (Addr × Obj)) : Cx := { X with pn := X.pn ++ pins }
abbrev Cx.suite (X : Cx) (pins : List (Addr × Obj)) (a : Addr) : Cx := { X with A := X.A.mark (some (.ref a)), calm := false, pn := X.pn ++ pins, xe := fun _ _ => False }
/-- an exception that was caught or made, tracked -/
def excB (n : Bool) (a : Addr) (cls : Value) (dx : Option Addr) : HO := .ext fun h => ∃ ox vs, h.get? a = some ox ∧ ox.cls = cls ∧ ox.dict = dx ∧ ox.data = .fields vs ∧ vs[2]? = some .none ∧ (n = true → 1 < vs.size ∧ vs[1]? = some .none)
abbrev excO := excB false
theorem excB_ok {P : Program} {w : World} {H : Hp} {h : Heap} {n : Bool} {a : Addr} {cls : Value} {dx : Option Addr} {ox : Obj} {vs : Array Value} (h1 : h.get? a = some ox) (h2 : ox.cls = cls) (h3 : ox.dict = dx) (h4 : ox.data = .fields vs) (h6 : vs[2]? = some .none) (h5 : n = true → 1 < vs.size ∧ vs[1]? = some .none) : ObjOk P w H h a (excB n a cls dx) :=
  ⟨⟨ox, vs, h1, h2, h3, h4, h6, h5⟩, ⟨ox, h1⟩, fun _ _ ⟨oy, ws, q, r⟩ kp => ⟨oy, ws, kp _ q, r⟩⟩
abbrev TH := Ends → St → Value → Option Addr → Hp → Addr → Prop
def PH (X : Cx) (hs : List ExceptHandler) (th : TH) : Prop :=
  ∀ (pins : List (Addr × Obj)) (σ : St) (H0 : Hp) (s0 : Shared) (D : Ends) (a : Addr) (H' : Hp) (cls v : Value) (dx : Option Addr) (s' : Shared), Inv X pins σ H0 s0 → CXat X.prog X.w X.stack H0 s0 a H' cls dx (.fl v) s' → th D σ cls dx H' a →
    wpAny (model X.prog X.w) X.A (handleBy (.ref a) X.env hs) (SP X pins D) X.xe s'
section
variable {X : Cx} {pins : List (Addr × Obj)} {σ : St} {H H' : Hp} {s s' : Shared}
theorem Inv.tried (I : Inv X pins σ H s) : Inv (X.tried pins) [] σ H s :=
  ⟨⟨I.ok.mod, I.ok.kind, I.ok.glob, I.ok.blt, I.ok.above, I.ok.inj, I.ok.has, I.ok.cab, I.ok.hd, I.ok.frames, I.ok.stk, I.ok.exf, I.ok.bs, I.ok.bsz, I.ok.noex, I.ok.exfs, I.ok.funs, I.ok.frf⟩,
    I.os, I.bare, I.base, I.loc, I.cell, I.free, I.freeC, fun p hp => I.pin p (by simpa using hp), I.hok, I.len⟩
theorem Inv.untried (I : Inv (X.tried pins) [] σ H s) : Inv X pins σ H s :=
  ⟨⟨I.ok.mod, I.ok.kind, I.ok.glob, I.ok.blt, I.ok.above, I.ok.inj, I.ok.has, I.ok.cab, I.ok.hd, I.ok.frames, I.ok.stk, I.ok.exf, I.ok.bs, I.ok.bsz, I.ok.noex, I.ok.exfs, I.ok.funs, I.ok.frf⟩,
    I.os, I.bare, I.base, I.loc, I.cell, I.free, I.freeC, fun p hp => I.pin p (by simpa using hp), I.hok, I.len⟩
theorem Inv.insuite (I : Inv X pins σ H s) (a : Addr) : Inv (X.suite pins a) [] σ H s :=
  ⟨⟨I.ok.mod, I.ok.kind, I.ok.glob, I.ok.blt, I.ok.above, I.ok.inj, I.ok.has, I.ok.cab, fun z => (Bool.noConfusion z), I.ok.frames, I.ok.stk, I.ok.exf, I.ok.bs, I.ok.bsz, I.ok.noex, I.ok.exfs, I.ok.funs, I.ok.frf⟩,
    I.os, I.bare, I.base, I.loc, I.cell, I.free, I.freeC, fun p hp => I.pin p (by simpa using hp), I.hok, I.len⟩
theorem Inv.outsuite {a : Addr} (ok : X.Ok) (I : Inv (X.suite pins a) [] σ H s) : Inv X pins σ H s :=
  ⟨ok, I.os, I.bare, I.base, I.loc, I.cell, I.free, I.freeC, fun p hp => I.pin p (by simpa using hp), I.hok, I.len⟩
/-- a name that goes -/
theorem Inv.unbound {n : Str} {i : Nat} {h' : Heap} {m : Str → Option Value} {v : Option Value} {t' : Nat} (I : Inv X pins σ H s) (hi : X.N[i]? = some n) (hN : X.N.Nodup)
    (hm : ∀ (j : Nat) (x : Str) (v : V), X.N[j]? = some x → σ[j]? = some (some v) → Vis X.env.scope x → ∃ u, RelV v u ∧ Look X.env s.heap m x u)
    (hn : h'.Ns X.env.locals (fun x => if x = n then v else m x)) (hs : Heap.SameBut X.env.locals s.heap h') : Inv X pins (σ.set i none) H { s with heap := h', toks := t' } := by
  obtain ⟨m0, hn0, _⟩ := id I.loc
  obtain ⟨oL, _, _, hoL, _⟩ := id hn0
  have cne := I.cne
  have low : ∀ b o, X.s₀.heap.get? b = some o → b ≠ X.env.locals := fun b o e => Nat.ne_of_lt (Nat.lt_of_lt_of_le (Heap.lt_size e) I.ok.above)
  refine ⟨I.ok, I.os, I.bare, ⟨fun b o e n hb hx => ?_, fun b o e n hb hx => ?_, I.base.free, fun b o e hx => ?_, I.base.tups, I.base.frzs, I.base.tbls⟩, ⟨_, hn, fun j y v' e1 e2 e3 => ?_⟩, fun y c e => ?_, I.free, I.freeC, fun p hp => ?_, fun b ob e => ?_, by simpa using I.len⟩
  · exact (hs.2 b (low b o e)).trans (I.base.keep b o e n hb hx)
  · obtain ⟨sl, e1⟩ := I.base.slot b o e n hb hx
    exact ⟨sl, (hs.2 b (low b o e)).trans e1⟩
  · obtain ⟨o', e1⟩ := I.base.there b o e hx
    exact ⟨o', (hs.2 b (low b o e)).trans e1⟩
  · by_cases hj : j = i
    · subst hj
      rw [List.getElem?_set] at e2
      simp at e2
    · rw [List.getElem?_set_ne (Ne.symm hj)] at e2
      obtain ⟨u', r', q⟩ := hm j y v' e1 e2 e3
      refine ⟨u', r', ?_⟩
      rcases q with ⟨k, e⟩ | ⟨k, c, e, z⟩
      · refine .inl ⟨k, ?_⟩
        have : y ≠ n := fun e => hj (nodup_ix hN e1 (e ▸ hi))
        simp [this, e]
      · exact .inr ⟨k, c, e, z.sameBut hs (cne y c e)⟩
  · obtain ⟨w', z⟩ := I.cell y c e
    exact ⟨w', z.sameBut hs (cne y c e)⟩
  · obtain ⟨e, n, ne, nf, d⟩ := I.pin p hp
    exact ⟨(hs.2 p.1 ne).trans e, n, ne, nf, d⟩
  · refine (I.hok b ob e).stay (fun c w' hc q => (hs.2 c ?_).trans q) (fun _ q => q) fun _ _ q => q
    rintro rfl
    rcases hc with rfl | hc
    · rw [I.free] at e; cases e
    · rw [I.free] at hc; cases hc
/-- the exception is tracked from here on -/
theorem un_track {fs : List Addr} {h0 h : Heap} {a : Addr} {o : HO} (u : Un fs [] H H' h0 h) (n0 : h0.get? a = none) (na : H' a = none) : Un fs [] H (upd H' a o) h0 h where
  keep := u.keep
  slot := u.slot
  free := fun b ob q n hx => by
    have : b ≠ a := fun z => by rw [z, n0] at q; cases q
    rw [upd_ne this]
    exact u.free b ob q n hx
  there := u.there
  tups := fun b xs e => by
    have q := u.tups b xs e
    rw [upd_ne (ne_of_none q na)]
    exact q
  frzs := fun b o' w' e => by
    have q := u.frzs b o' w' e
    rw [upd_ne (ne_of_none q na)]
    exact q
  tbls := fun b ps e => by
    obtain ⟨mo, q⟩ := u.tbls b ps e
    exact ⟨mo, by rw [upd_ne (ne_of_none q na)]; exact q⟩
theorem hok_track {P : Program} {w : World} {h : Heap} {a : Addr} {o : HO} (k : HOk P w H h) (na : H a = none) (new : ObjOk P w (upd H a o) h a o) : HOk P w (upd H a o) h := fun b u e => by
  by_cases hb : b = a
  · subst hb; rw [upd_same] at e; cases e; exact new
  · rw [upd_ne hb] at e
    exact (k b u e).stay (fun c v _ q => q) (fun c q => by rw [upd_ne (ne_of_none q na)]; exact q) fun c xs q => by rw [upd_ne (ne_of_none q na)]; exact q
theorem CXat.caughtN {a : Addr} {cls : Value} {dx : Option Addr} (I : Inv X pins σ H s) (c : CXat X.prog X.w X.stack H s a H' cls dx .new s') : Inv X pins σ (upd H' a (excB true a cls dx)) s' := by
  obtain ⟨⟨oe, vs, he, hc, hd, hda, hz, hn⟩, n0, na⟩ := c.xo
  refine I.call' c.os (un_track c.un n0 na) (hok_track c.hok na (excB_ok he hc hd hda hz.2 fun _ => ⟨hz.1, hn⟩)) c.bare fun b z => absurd z (by simp)
theorem CXat.caught {a : Addr} {cls : Value} {dx : Option Addr} {st : XSt} (I : Inv X pins σ H s) (c : CXat X.prog X.w X.stack H s a H' cls dx st s') : Inv X pins σ (upd H' a (excO a cls dx)) s' := by
  obtain ⟨⟨oe, vs, he, hc, hd, hda, hz, _⟩, n0, na⟩ := c.xo
  refine I.call' c.os (un_track c.un n0 na) (hok_track c.hok na (excB_ok he hc hd hda hz.2 fun z => nomatch z)) c.bare fun b z => absurd z (by simp)
end
section
variable {X : Cx} {body : List Stmt} {h₀ : ExceptHandler} {hs : List ExceptHandler} {pos : Pos} {th : TH}
def tTry (tb : (St → XK) → TS) (th : TH) : TS := fun D σ H => tb (fun σ' cls dx H' => ∀ a, H' a = none → th D σ' cls dx H' a) D σ H
theorem SP.untried {pins : List (Addr × Obj)} {E : Value → Shared → Prop} {D : Ends} {f : Flow} {s' : Shared} (h : SP ((X.tried pins).wish E) [] D f s') : SP X pins D f s' := by
  cases f with
  | next => obtain ⟨σ', H', I, q⟩ := h; exact ⟨σ', H', I.unwish.untried, q⟩
  | brk => obtain ⟨σ', H', I, q⟩ := h; exact ⟨σ', H', I.unwish.untried, q⟩
  | cont => obtain ⟨σ', H', I, q⟩ := h; exact ⟨σ', H', I.unwish.untried, q⟩
  | ret u => obtain ⟨v, σ', H', I, r, q⟩ := h; exact ⟨v, σ', H', I.unwish.untried, r, q⟩
theorem ps_try {tb : (St → XK) → TS} (hstk : X.stack = X.env :: X.outer) (hfm : X.env.frame = some X.env.locals)
    (hb : ∀ (pins : List (Addr × Obj)) (E : St → XK), PSs ((X.tried pins).wish (XS (X.tried pins) E)) body (tb E)) (hh : PH X (h₀ :: hs) th) : PS X (.Try body (h₀ :: hs) [] [] pos) (tTry tb th) := by
  intro pins s σ H D I h
  refine wpAny_Try_except ?_
  refine wpAny_mono (hb pins _ [] s σ H D (I.tried.wish _) h) (fun f s1 q => ?_) fun e s1 hx => ?_
  · have q := q.untried
    cases f with
    | next => exact wpAny_execs_nil q
    | brk => exact q
    | cont => exact q
    | ret u => exact q
  · obtain ⟨σ', H0, s0, I0, a, H', cls, dx, st, rfl, c, hE⟩ := hx
    have c' : CXat X.prog X.w (X.env :: X.outer) H0 s0 a H' cls dx st s1 := hstk ▸ c
    have J := I0.untried
    have fr : X.A.frames = some (X.env :: X.outer) := by rw [← hstk]; exact J.ok.frames
    have st1 : s0.heap.FunFrames X.base (X.env :: X.outer) := by rw [← hstk]; exact J.stack
    have sf : ∀ b ∈ frs (X.env :: X.outer), H0 b = none := by rw [← hstk]; exact J.stkFree
    refine c'.note fr hfm st1 sf fun s2 c2 => ?_
    refine c2.flight st1 sf fun s3 c3 => ?_
    exact hh pins σ' H0 s0 D a H' cls _ dx s3 J (hstk ▸ c3) (hE a c3.xo.fr.2)
theorem ph_nil : PH X [] (fun _ _ _ _ _ _ => False) := fun _ _ _ _ _ _ _ _ _ _ _ _ _ h => h.elim
end
/-- what an except clause asks of its class -/
structure XT (K : PySem.W.Frag) (C : Addr) : Prop where
  ty : PySem.W.typeIn K (.ref C) = some (.type "type")
  cl : (PySem.W.clsIn K C).isSome = true
  ex : PySem.W.subIn K (.ref C) (.type "BaseException") = some true
theorem looks_isType {K : PySem.W.Frag} {M : Model} {h : Heap} {C : Addr} (X : K.In h) (e : (PySem.W.clsIn K C).isSome = true) : PySem.W.Looks M h (isType (.ref C)) true := by
  unfold PySem.W.clsIn at e
  split at e
  · rename_i ho
    intro A' Q' E' s' k q
    unfold isType loadHead
    exact wpAny_bind (wpAny_loadPart (k _ _ (X _ _ ho)) (wpAny_pure q))
  · cases e
end L2
set_option Elab.async false
set_option linter.all false
set_option maxRecDepth 100000
namespace L2
open PySem PySem.Spec PyProof.Rows XH
structure XG (K : PySem.W.Frag) (C : Addr) : Prop where
  ga : PySem.W.findIn K (.ref C) "__getattribute__" = some (some (.builtin "BaseException.__getattribute__"))
  gt : PySem.W.findIn K (.ref C) "__getattr__" = some none
  be : PySem.W.mroIn K C (.type "BaseException") = some true
section
variable {prog : Program} {w : World} {A : Around} {E : Value → Shared → Prop} {K : PySem.W.Frag} {h : Heap} {g : Array GenState} {d : Drawn} {t : Nat} {os : OsState} {x C : Addr} {ox : Obj} {od : Option Obj} {name : Str}
open PySem.W in
theorem exc_check {nameV : Value} {Q : Unit → Shared → Prop} (X : K.In h) (I : InstAt h x ox C od) (G : XG K C) (hq : Q () ⟨h, g, d, t, os⟩) :
    wpAny (model prog w) A (checkBuiltinCall "BaseException.__getattribute__" ⟨[.ref x, nameV], []⟩) Q E ⟨h, g, d, t, os⟩ := by
  have hk : builtinKind "BaseException.__getattribute__" = some .slot := by decide +kernel
  have hs : splitId "BaseException.__getattribute__" = some ("BaseException", "__getattribute__") := by decide +kernel
  have l0 := I.type (M := model prog w)
  have l1 := looks_mroIn (M := model prog w) X G.be
  have ha := F.args_bexc_ga (.ref x) nameV
  have l2 : Looks (model prog w) h (isInstance (.ref x) (.type "BaseException")) true := l0.andThen l1
  simp only [checkBuiltinCall, hk, hs]
  refine wpAny_bind ?_
  unfold isInstance
  have hx := I.at_
  have hc := I.cls
  repeat (first | (with_reducible refine wpAny_loadPart_at hx ?_; rw [hc]) | with_reducible refine l1.at ?_ | wp_step)
  exact hq
open PySem.W in
theorem exc_entry_value {tk : Tok} {v : Value} {Q : Fin → Shared → Prop} (X : K.In h) (I : InstAt h x ox C od) (hf : findObj K C od name = some (.value v)) (hq : Q (.done (.ret v)) ⟨h, g, d, t, os⟩) :
    wpAny (model prog w) A (Builtin.«object.__getattribute__» ⟨[.ref x, .str name tk], []⟩) Q E ⟨h, g, d, t, os⟩ := by
  have l0 := I.type (M := model prog w)
  have l1 := looks_find (M := model prog w) X I hf
  unfold Builtin.«object.__getattribute__»
  refine wpAny_bind (wpAny_pure (wpAny_bind (wpAny_pure (wpAny_bind (l0.at (wpAny_bind (l1.at ?_)))))))
  exact wpAny_pure hq
open PySem.W in
theorem exc_entry_bind {tk : Tok} {gv a : Value} {Q : Fin → Shared → Prop} (X : K.In h) (I : InstAt h x ox C od) (hf : findObj K C od name = some (.bind gv a))
    (hq : wpAny (model prog w) A (call gv [a, .ref x, .ref C]) (fun v s' => Q (.done (.ret v)) s') E ⟨h, g, d, t, os⟩) :
    wpAny (model prog w) A (Builtin.«object.__getattribute__» ⟨[.ref x, .str name tk], []⟩) Q E ⟨h, g, d, t, os⟩ := by
  have l0 := I.type (M := model prog w)
  have l1 := looks_find (M := model prog w) X I hf
  unfold Builtin.«object.__getattribute__»
  refine wpAny_bind (wpAny_pure (wpAny_bind (wpAny_pure (wpAny_bind (l0.at (wpAny_bind (l1.at ?_)))))))
  show wpAny _ _ (holding [a] (call gv [a, .ref x, .ref C]) >>= ret) _ _ _
  exact wpAny_bind (wpAny_holding (wpAny_mono hq (fun v s' z => wpAny_pure z) fun _ _ z => z))
open PySem.W in
theorem exc_by {tk : Tok} {fill expr : Bool} {Q : Value → Shared → Prop} (X : K.In h) (I : InstAt h x ox C od) (G : XG K C)
    (hq : ∀ A' : Around, wpAny (model prog w) A' (Builtin.«object.__getattribute__» ⟨[.ref x, .str name tk], []⟩) (fun fin s' => match fin with | .done (.ret v) => wpAny (model prog w) A (handedOut v) Q E s' | _ => False) (fun _ _ => False) ⟨h, g, d, t, os⟩) :
    wpAny (model prog w) A (getAttrBy (.ref x) (.str name tk) fill expr) Q E ⟨h, g, d, t, os⟩ := by
  have l0 := I.type (M := model prog w)
  have l1 := looks_findIn (M := model prog w) X G.ga
  have l2 := looks_findIn (M := model prog w) X G.gt
  have fb := F.attrBase_ValueError
  have f3 := fb.ga.bind (.ref x)
  unfold getAttrBy
  refine wpAny_holding (wpAny_bind (l0.at (wpAny_bind (l1.at ?_))))
  have hx2 : (Value.builtin "BaseException.__getattribute__" == Value.builtin "object.__getattribute__") = false := by decide +kernel
  simp only [hx2, Bool.and_false, Bool.false_eq_true, if_false]
  unfold getAttrByItsOwn hookBefore
  refine wpAny_bind ?_
  rw [if_pos (show onTheHeap (.ref C) = true from rfl)]
  refine l2.at ?_
  refine wpAny_bind (wpAny_attempt (wpAny_holding ?_))
  unfold callGetattribute
  rw [if_neg (by cases expr <;> exact Bool.false_ne_true)]
  unfold boundAndCalled
  refine wpAny_bind (wpAny_of_eq f3 ?_)
  refine wpAny_call (codeAny_call_builtin fb.ga.plain F.entry_bexc_ga (exc_check X I G (wpAny_mono (hq _) (fun fin s' z => ?_) fun _ _ z => z.elim)))
  rcases fin with (_ | _ | _ | _) | _ <;> first | exact z.elim | exact z
end
end L2
set_option Elab.async false
set_option linter.all false
set_option maxRecDepth 100000
namespace L2
open PySem PySem.Spec PyProof.Rows XH
section
variable {prog : Program} {w : World} {A : Around} {E : Value → Shared → Prop} {K : PySem.W.Frag}
theorem matches_ok {h : Heap} {g : Array GenState} {d : Drawn} {t : Nat} {os : OsState} {e C C' : Addr} {oe : Obj} {b : Bool} {Q : Bool → Shared → Prop} (KX : K.In h) (he : h.get? e = some oe) (hc : oe.cls = .ref C) (T : XT K C')
    (hsub : PySem.W.subIn K (.ref C) (.ref C') = some b) (hq : Q b ⟨h, g, d, t, os⟩) : wpAny (model prog w) A (excMatches (.ref e) (.ref C')) Q E ⟨h, g, d, t, os⟩ := by
  have l1 := PySem.W.looks_typeIn (M := model prog w) KX T.ty
  have l2 := PySem.W.looks_subIn (M := model prog w) KX T.ex
  have l3 := PySem.W.looks_subIn (M := model prog w) KX hsub
  have l4 := looks_isType (M := model prog w) KX T.cl
  have l5 : PySem.W.Looks (model prog w) h (isInstance (.ref C') (.type "tuple")) false := l1.andThen (PySem.W.Looks.of_pure tc_notTuple)
  have l6 : PySem.W.Looks (model prog w) h (isExcClass (.ref C')) true := by
    unfold isExcClass
    refine l4.andThen ?_
    exact l2
  unfold excMatches
  repeat (first | with_reducible refine wpAny_bind (l5.at ?_) | with_reducible refine wpAny_bind (l6.at ?_) | with_reducible refine wpAny_bind (l3.at ?_) | (with_reducible refine wpAny_loadPart_at he ?_; rw [hc]) | wp_step)
  cases b <;> (wp_walk; exact hq)
end
/-- a name that goes behind its suite -/
def offE (i : Nat) (D : Ends) : Ends := { nx := fun σ H => D.nx (σ.set i none) H, rt := D.rt, bk := fun σ H => D.bk (σ.set i none) H, ct := fun σ H => D.ct (σ.set i none) H }
section
variable {X : Cx} {x n : Str} {np pos : Pos} {b0 : Stmt} {suite : List Stmt} {rest : List ExceptHandler} {i : Nat} {C' : Addr} {t : TS} {th : TH}
theorem gone_ok {pins : List (Addr × Obj)} {a : Addr} {D : Ends} {f : Flow} {s : Shared} {M : Model} {A : Around} {E : Value → Shared → Prop} (ok : X.Ok) (hN : X.N.Nodup) (hi : X.N[i]? = some n) (hloc : X.env.scope.names.lookup n = some .local)
    (q : SP (X.suite pins a) [] (offE i D) f s) : wpAny M A (do bindName X.env n .none; unbindBehindTheSuite X.env n pos) (fun _ s' => SP X pins D f s') E s := by
  have hcls : (X.env.scope.kind == .class || (X.env.scope.kind == .module && X.env.locals != X.env.globals)) = false := by rw [ok.kind]; rfl
  cases f with
  | next =>
    obtain ⟨σ, H, I, q⟩ := q
    have J := I.outsuite ok
    obtain ⟨m, hn, hl⟩ := id J.loc
    exact wpAny_nameGoes_keeps hloc hn hcls fun h' v hn' hs => ⟨_, H, J.unbound hi hN hl hn' hs, q⟩
  | brk =>
    obtain ⟨σ, H, I, q⟩ := q
    have J := I.outsuite ok
    obtain ⟨m, hn, hl⟩ := id J.loc
    exact wpAny_nameGoes_keeps hloc hn hcls fun h' v hn' hs => ⟨_, H, J.unbound hi hN hl hn' hs, q⟩
  | cont =>
    obtain ⟨σ, H, I, q⟩ := q
    have J := I.outsuite ok
    obtain ⟨m, hn, hl⟩ := id J.loc
    exact wpAny_nameGoes_keeps hloc hn hcls fun h' v hn' hs => ⟨_, H, J.unbound hi hN hl hn' hs, q⟩
  | ret u =>
    obtain ⟨v, σ, H, I, r, q⟩ := q
    have J := I.outsuite ok
    obtain ⟨m, hn, hl⟩ := id J.loc
    exact wpAny_nameGoes_keeps hloc hn hcls fun h' v' hn' hs => ⟨v, _, H, J.unbound hi hN hl hn' hs, r, q⟩
/-- an exception that passes a loop of this body -/
theorem own_XS {E : St → XK} (hstk : X.stack = X.env :: X.outer) (hfm : X.env.frame = some X.env.locals) : PassesOwn (model X.prog X.w) X.A X.env (XS X E) := by
  intro e s1 hx
  obtain ⟨σ', H0, s0, J, a, H', cls, dx, st, rfl, c, hE⟩ := hx
  have c' : CXat X.prog X.w (X.env :: X.outer) H0 s0 a H' cls dx st s1 := hstk ▸ c
  have fr : X.A.frames = some (X.env :: X.outer) := by rw [← hstk]; exact J.ok.frames
  have st1 : s0.heap.FunFrames X.base (X.env :: X.outer) := by rw [← hstk]; exact J.stack
  have sf : ∀ b ∈ frs (X.env :: X.outer), H0 b = none := by rw [← hstk]; exact J.stkFree
  unfold notedBy
  refine c'.note fr hfm st1 sf fun s2 c2 => ?_
  unfold cameBackBy
  obtain ⟨oe, vs, he, _, _, hd, _, T, _, _, h1, _⟩ := c2.xo.ex
  apply wpAny_bind
  apply wpAny_field he hd h1
  rw [if_neg (by simp)]
  refine c2.flight st1 sf fun s3 c3 => ?_
  exact ⟨σ', H0, s0, J, a, H', cls, dx, _, rfl, hstk ▸ c3, hE⟩
end
/-! ### raise -/
def bmV : List Value := [.type "ValueError", .type "Exception", .type "BaseException", .type "object"]
section
variable {X : Cx} {x : Str} {np cpos pos : Pos} {e₀ : Expr} {rest : List Expr} {C : Addr} {t : TA} {E : St → XK}
theorem made_cx {pins : List (Addr × Obj)} {σ : St} {H : Hp} {s : Shared} {h' : Heap} {e : Addr} {us : List Value} (I : Inv X pins σ H s) (mk : Heap.MadeExcOf s.heap h' e (.ref C) us) : CXat X.prog X.w X.stack H s e H (.ref C) none .new { s with heap := h' } := by
  obtain ⟨t, ht, _, _⟩ := mk.there
  exact ⟨rfl, I.bare, Un.kept mk.keeps, I.hok.kept mk.keeps, ⟨⟨_, _, ht, rfl, rfl, rfl, ⟨by show 1 < 6; decide, rfl⟩, rfl⟩, mk.new, I.hok.none_of mk.new⟩⟩
end
/-! ### isinstance of an exception -/
structure XI (K : PySem.W.Frag) (C : Addr) : Prop where
  gg : XG K C
  cl : (PySem.W.clsIn K C).isSome = true
  at_ : PySem.W.findIn K (.ref C) "__class__" = some (some (.builtin "object.__class__"))
  gt : PySem.W.specialIn K (.builtin "object.__class__") "__get__" = some (some (.builtin "getset_descriptor.__get__"))
  tk : PySem.W.takesIn K (.builtin "object.__class__") = some true
  ob : PySem.W.mroIn K C (.type "object") = some true
theorem findObj_cls {K : PySem.W.Frag} {C : Addr} {od : Option Obj} (x : XI K C) : PySem.W.findObj K C od "__class__" = some (.bind (.builtin "getset_descriptor.__get__") (.builtin "object.__class__")) := by
  obtain ⟨cd, hc⟩ := Option.isSome_iff_exists.mp x.cl
  unfold PySem.W.findObj
  rw [hc, Option.bind_some, x.at_, Option.bind_some]
  simp [x.gt, x.tk]
theorem kitx_exc {K : PySem.W.Frag} {a C : Addr} (x : XI K C) : PySem.W.KitX K (.ref a) (.ref C) (fun h => ∃ ox od, PySem.W.InstAt h a ox C od) where
  ty := fun _ _ _ ⟨_, _, I⟩ => I.type
  it := fun _ _ X _ => looks_isType X x.cl
  ne := fun h tp dd its n sl X htp => by
    refine Bool.eq_false_iff.mpr fun q => ?_
    have e : C = tp := Value.ref.inj (beq_iff_eq.mp q)
    subst e
    have c := x.cl
    unfold PySem.W.clsIn at c
    split at c
    · rename_i ho
      have z := (X _ _ ho).symm.trans htp
      cases z
    · cases c
  ca := fun {_ _ _ _ _ s} X I k => by
    obtain ⟨ox, od, I⟩ := I
    obtain ⟨hh, g, d, t, os⟩ := s
    unfold getAttr? getAttrBy?
    refine wpAny_bind (wpAny_mkText (wpAny_bind (wpAny_attempt (exc_by (h := hh) X I x.gg fun A' => exc_entry_bind X I (findObj_cls x) ?_))))
    exact wpAny_call (PySem.W.class_get (s := ⟨hh, g, d, t + 1, os⟩) (ox := ox) (od := od) X I x.ob (PySem.W.handed_on rfl (wpAny_pure k)))
def XDict (H : Hp) (dx : Option Addr) : Prop := match dx with
  | none => True
  | some d => ∃ fs, H d = some (.xd fs)
theorem inst_of {X : Cx} {pins : List (Addr × Obj)} {σ : St} {H : Hp} {s : Shared} {a C : Addr} {n : Bool} {dx : Option Addr} (I : Inv X pins σ H s) (e : H a = some (excB n a (.ref C) dx)) (d : XDict H dx) : ∃ ox od, PySem.W.InstAt s.heap a ox C od := by
  obtain ⟨⟨ox, vs, h1, h2, h3, h4, _⟩, _⟩ := (show ObjOk X.prog X.w H s.heap a (excB n a (.ref C) dx) from I.hok a _ e)
  have nc : PySem.W.notCls ox = true := by unfold PySem.W.notCls; rw [h4]
  cases dx with
  | none => exact ⟨ox, none, h1, h2, nc, by rw [h3]; trivial⟩
  | some d' =>
    obtain ⟨fs, hd⟩ := d
    obtain ⟨mA, ⟨o, es, ep, e', _⟩, _⟩ := (show ObjOk X.prog X.w H s.heap d' (.xd fs) from I.hok d' _ hd)
    exact ⟨ox, some o, h1, h2, nc, by rw [h3]; exact e'⟩
/-- the answer for a class of the text, for one of Python's own -/
inductive XIs (K : PySem.W.Frag) (C : Addr) : V → Bool → Prop where
  | own {D : Addr} {b : Bool} (h : PySem.W.kitOne K (.ref C) (.ref D) = some b) : XIs K C (.ref D) b
  | ty {T : String} {b : Bool} (h : PySem.W.kitOne K (.ref C) (.type T) = some b) : XIs K C (.ty T) b
theorem call_isiX {X : Cx} {K : PySem.W.Frag} (hK : X.K = K) : CallR X (.builtin "isinstance") (fun xs H Q => ∃ a C dx c b, xs = [.ref a, c] ∧ (∃ n, H a = some (excB n a (.ref C) dx)) ∧ XDict H dx ∧ XI K C ∧ XIs K C c b ∧ Q (.bl b) H) := by
  subst hK
  intro pins s σ H xs us Q I r h
  obtain ⟨a, C, dx, c, b, rfl, ⟨n, e⟩, d, xi, xs, q⟩ := h
  obtain ⟨u, w', rfl, e1, e2⟩ := vals2 r
  cases e1
  cases xs with
  | own h =>
    cases e2
    exact PySem.W.kia_one (kitx_exc xi) I.kIn (inst_of I e d) h (fun z => nomatch z) fun tk => ⟨.bl b, H, I.tok tk, rfl, q⟩
  | ty h =>
    cases e2
    exact PySem.W.kia_one (kitx_exc xi) I.kIn (inst_of I e d) h (fun z => nomatch z) fun tk => ⟨.bl b, H, I.tok tk, rfl, q⟩
end L2
set_option Elab.async false
set_option linter.all false
set_option maxRecDepth 100000
namespace L2
open PySem PySem.Spec PyProof.Rows XH
/-! ### list comprehensions -/
abbrev Cx.block (X : Cx) (scope : Scope) (cl : List (Str × Addr)) (C : Addr) (N : List Str) (own : Str) (fp : List Addr) (s : Shared) (H : Hp) : Cx :=
  { X with env := compEnvC scope cl C X.env, N := N, s₀ := s, H₀ := H, outer := X.stack, stack := X.stack, ex := fp, fn := fun y => y == own, pn := [], xe := fun _ _ => False }
/-- what a comprehension's scope must have; ys: the names it takes from around, at the slots js there -/
structure CompOk (X : Cx) (scope : Scope) (cl : List (Str × Addr)) (own : Str) (ys : List Str) (js : List Nat) : Prop where
  clos : closureFor scope X.env = pure cl
  nocell : (scope.names.all fun p => !(p.2 == .cell)) = true
  kind : scope.kind = .function
  loc : (scope.names.all fun p => !(p.2 == .local) || scope.names.lookup p.1 == some .local) = true
  ownL : scope.names.lookup own = some .local
  sub : ∀ p ∈ cl, X.env.cells.lookup p.1 = some p.2
  has : ((relabel scope X.env).names.all fun p => !(p.2 == .cell || p.2 == .free) || (cl.lookup p.1).isSome) = true
  noown : cl.lookup own = none
  nd : (own :: ys).Nodup
  at_ : ∀ (i : Nat) (y : Str), ys[i]? = some y → ∃ j : Nat, js[i]? = some j ∧ X.N[j]? = some y ∧ (X.env.scope.names.lookup y = some .cell ∨ X.env.scope.names.lookup y = some .free) ∧ ((relabel scope X.env).names.lookup y = some .cell ∨ (relabel scope X.env).names.lookup y = some .free)
  len : js.length = ys.length
def freesOf (js : List Nat) (σ : St) : St := js.map fun j => (σ[j]?).getD none
def compR (js : List Nat) (te : TE) (σ : St) (Q : VK) : It → Hp → Prop := fun J H1 => ∀ p, H1 p = none → ∃ W : Nat → Nat → List V → Hp → Prop, (∃ m, W 0 m [] (upd H1 p (.lst []))) ∧
  ∀ i m ys H2, W i m ys H2 → H2 p = some (.lst ys) ∧ ((J.stop i H2 ∧ Q (.ref p) H2) ∨ (J.go i H2 ∧ ys.length < sizeLine ∧ ∀ x H3, J.yld i H2 x H3 → te (some x :: freesOf js σ) H3 fun y H4 => H4 p = some (.lst ys) ∧ ∃ m', m' < m ∧ W (i + 1) m' (ys ++ [y]) (upd H4 p (.lst (ys ++ [y])))))
def tComp (wi : TI) (js : List Nat) (te : TE) : TE := fun σ H Q => wi σ H (compR js te σ Q)
theorem lookup_all {α : Type} {f : Str × α → Bool} {x : Str} {a : α} : ∀ {l : List (Str × α)}, l.all f = true → l.lookup x = some a → f (x, a) = true := by
  intro l h e
  exact List.all_eq_true.mp h _ (PySem.mem_of_lookup e)
section
variable {prog : Program} {w : World} {A : Around} {R : Result → Shared → Prop} {s : Shared}
theorem compLoop_own {elt target iter : Expr} {scope : Scope} {pos : Pos} {it acc : Value} {env : Env} (I : Nat → Shared → Prop)
    (turn : ∀ n s, I n s → wpAny (model prog w) A (pyNext it) (fun r s1 => match r with
      | none => R (.ok .next) s1
      | some v => wpAny (model prog w) A (letOwnedTupleGo target it v) (fun _ s2 => wpAny (model prog w) A (assign target env v) (fun _ s3 => wpAny (model prog w) A (eval elt env) (fun x s4 =>
          wpAny (model prog w) A (call (.builtin "list.append") [acc, x]) (fun _ s5 => ∃ m, m < n ∧ I m s5) (fun _ _ => False) s4) (fun _ _ => False) s3) (fun _ _ => False) s2) (fun _ _ => False) s1) (fun _ _ => False) s)
    (n : Nat) (h : I n s) : codeAny (model prog w) A (.compLoop (.ListComp elt [⟨target, iter, [], 0⟩] scope pos) 0 it acc env) R s := by
  apply codeAny_loop rfl I ?_ n h
  intro n s hI
  show wpAny _ _ ((compTurn (.ListComp elt [⟨target, iter, [], 0⟩] scope pos) 0 it acc env).onRaise _) _ _ s
  apply wpAny_noted
  rw [compTurn_list1]
  apply wpAny_bind
  apply wpAny_standAt
  apply wpAny_bind
  refine wpAny_mono (turn n s hI) (fun r s1 h1 => ?_) fun _ _ z => z.elim
  cases r with
  | none => exact wpAny_pure h1
  | some v =>
    apply wpAny_bind
    refine wpAny_mono h1 (fun _ s2 h2 => ?_) fun _ _ z => z.elim
    apply wpAny_bind
    refine wpAny_mono h2 (fun _ s3 h3 => ?_) fun _ _ z => z.elim
    apply wpAny_bind
    apply wpAny_bind
    refine wpAny_mono h3 (fun x s4 h4 => ?_) fun _ _ z => z.elim
    apply wpAny_bind
    refine wpAny_mono h4 (fun _ s5 h5 => ?_) fun _ _ z => z.elim
    exact wpAny_pure (wpAny_pure ⟨rfl, h5⟩)
end
section
variable {X : Cx} {scope : Scope} {cl : List (Str × Addr)} {own : Str} {ys : List Str} {js : List Nat} {fp : List Addr} {pins : List (Addr × Obj)} {σ : St} {H : Hp} {s s4 : Shared}
theorem block_start {h1 : Heap} (ok : CompOk X scope cl own ys js) (I : Inv X pins σ H s) (hf : ∀ b ∈ fp, FpOk X pins H b) (hlt : ∀ b ∈ fp, b < s.heap.objs.size) (hns : h1.Ns s.heap.objs.size (fun _ => none))
    (hk : ∀ b o, s.heap.get? b = some o → h1.get? b = some o) (tk : Nat) :
    Inv (X.block scope cl s.heap.objs.size (own :: ys) own fp s H) [] (none :: freesOf js σ) H { s with heap := h1, toks := tk } := by
  have sub : ∀ y c, cl.lookup y = some c → X.env.cells.lookup y = some c := fun y c e => ok.sub (y, c) (PySem.mem_of_lookup e)
  refine ⟨⟨I.ok.mod, ok.kind, I.ok.glob, I.ok.blt, Nat.le_refl _, fun x y c e1 e2 => I.ok.inj x y c (sub x c e1) (sub y c e2), fun x hx => ?_, fun x c e1 e2 => ?_, I.ok.hd, I.ok.frames, .inl rfl, fun b hb => ⟨Nat.ne_of_lt (hlt b hb), fun x c e => (hf b hb).2.2.2.2.1 x c (sub x c e)⟩,
    I.bs, Nat.le_trans I.ok.bsz I.sz, fun b o e hb => ?_, fun b hb z => ?_, I.stack, I.stkFree⟩, rfl, I.bare, Un.kept hk, ⟨_, hns, fun i y v e1 e2 e3 => ?_⟩, fun y c e => ?_, I.hok.fresh (Nat.le_refl _), fun y c e => I.freeC y c (sub y c e), fun p hp => absurd (show p ∈ ([] : List (Addr × Obj)) from hp) (by simp), I.hok.kept hk, ?_⟩
  · have hx' : (relabel scope X.env).names.lookup x = some .cell ∨ (relabel scope X.env).names.lookup x = some .free := hx
    rcases hx' with z | z
    · have q := lookup_all ok.has z
      simp only [beq_self_eq_true, Bool.true_or, Bool.not_true, Bool.false_or] at q
      exact Option.isSome_iff_exists.mp q
    · have q := lookup_all ok.has z
      simp only [beq_self_eq_true, Bool.or_true, Bool.not_true, Bool.false_or] at q
      exact Option.isSome_iff_exists.mp q
  · have e1' : (x == own) = true := e1
    have e : x = own := beq_iff_eq.mp e1'
    have e2' : cl.lookup x = some c := e2
    rw [e, ok.noown] at e2'
    cases e2'
  · rcases (hf b hb).2.2.2.1 with z | z
    · exact I.ok.noex b o e z
    · exact absurd (Nat.lt_of_lt_of_le (Heap.lt_size (I.ok.bs b o e).1) z) (Nat.lt_irrefl _)
  · rcases List.mem_cons.mp (I.stkSub b z) with q | q
    · exact (hf b hb).2.1 q
    · exact (hf b hb).2.2.1 q
  · cases i with
    | zero => cases e2
    | succ i =>
      have e1' : ys[i]? = some y := e1
      obtain ⟨j, hj, hN, hX, hc⟩ := ok.at_ i y e1'
      have e2' : (freesOf js σ)[i]? = some (some v) := e2
      unfold freesOf at e2'
      rw [List.getElem?_map, hj] at e2'
      have hs : σ[j]? = some (some v) := by
        cases q : σ[j]? with
        | none => rw [Option.map_some, q] at e2'; cases e2'
        | some o => rw [Option.map_some, q] at e2'; exact e2'
      obtain ⟨m, hn, hl⟩ := I.loc
      obtain ⟨u, r, l⟩ := hl j y v hN hs (hX.elim (fun z => .inr (.inl z)) fun z => .inr (.inr z))
      refine ⟨u, r, .inr ⟨hc, ?_⟩⟩
      rcases l with ⟨k, _⟩ | ⟨k, c, hcl, hcell⟩
      · have k' : X.env.scope.names.lookup y = some .local := k
        rcases hX with z | z <;> (rw [z] at k'; cases k')
      · have ex : ∃ c', cl.lookup y = some c' := by
          rcases hc with z | z
          · have q := lookup_all ok.has z
            simp only [beq_self_eq_true, Bool.true_or, Bool.not_true, Bool.false_or] at q
            exact Option.isSome_iff_exists.mp q
          · have q := lookup_all ok.has z
            simp only [beq_self_eq_true, Bool.or_true, Bool.not_true, Bool.false_or] at q
            exact Option.isSome_iff_exists.mp q
        obtain ⟨c', hc'⟩ := ex
        have e := sub y c' hc'
        rw [hcl] at e
        cases e
        obtain ⟨oc, hoc, hd⟩ := hcell
        exact ⟨c, hc', oc, hk _ _ hoc, hd⟩
  · obtain ⟨v, oc, hoc, hd⟩ := I.cell y c (sub y c e)
    exact ⟨v, oc, hk _ _ hoc, hd⟩
  · show (none :: freesOf js σ).length = (own :: ys).length
    simp [freesOf, ok.len]
theorem block_end {H' : Hp} {h' : Heap} {σ' : St} (I : Inv X pins σ H s) (hf : ∀ b ∈ fp, FpOk X pins H b) (J : Inv (X.block scope cl s.heap.objs.size (own :: ys) own fp s H) [] σ' H' s4) (hs : Heap.SameBut s.heap.objs.size s4.heap h') :
    Inv X pins σ H' { s4 with heap := h' } := by
  have low : ∀ b o, s.heap.get? b = some o → b ≠ s.heap.objs.size := fun b o e => Nat.ne_of_lt (Heap.lt_size e)
  have B := J.base
  have u : Un (frs X.stack) fp H H' s.heap h' := {
    keep := fun b o q n hb hx => (hs.2 b (low b o q)).trans (B.keep b o q n hb hx)
    slot := fun b o q n hb hx => by
      obtain ⟨sl, e⟩ := B.slot b o q n hb hx
      exact ⟨sl, (hs.2 b (low b o q)).trans e⟩
    free := B.free
    there := fun b o q hx => by
      obtain ⟨o', e⟩ := B.there b o q hx
      exact ⟨o', (hs.2 b (low b o q)).trans e⟩
    tups := B.tups
    frzs := B.frzs
    tbls := B.tbls }
  have hn : H' s.heap.objs.size = none := J.free
  have hk : HOk X.prog X.w H' h' := fun a o e => (J.hok a o e).stay (fun b v hb q => (hs.2 b (by
    intro z
    rcases hb with z' | z'
    · rw [← z', z, hn] at e; cases e
    · rw [z, hn] at z'; cases z')).trans q) (fun _ q => q) fun _ _ q => q
  exact I.call' (s' := { s4 with heap := h' }) (ch := fp) J.os u hk J.bare fun b hb => ⟨(hf b hb).2.2.2.1, (hf b hb).2.1, (hf b hb).2.2.2.2.1, (hf b hb).2.2.2.2.2⟩
end
section
variable {X : Cx} {scope : Scope} {cl : List (Str × Addr)} {own : Str} {ys : List Str} {js : List Nat} {elt iter : Expr} {px pos : Pos} {wi : TI} {te : TE}
theorem pe_comp (hc : X.calm = true) (ok : CompOk X scope cl own ys js) (hi : PI X (.Name own px) iter wi)
    (he : ∀ (C : Addr) (fp : List Addr) (s : Shared) (H : Hp), PE (X.block scope cl C (own :: ys) own fp s H) elt te)
    (hs : ∀ x, foldedSetIterable iter X.env x = pure x := by intro _; rfl) : PE X (.ListComp elt [⟨.Name own px, iter, [], 0⟩] scope pos) (tComp wi js te) := by
  intro pins s σ H Q I h
  rw [eval_ListComp]
  have ncell : ∀ y ∈ scope.names, y.2 ≠ .cell := fun y hy z => by
    have q := List.all_eq_true.mp ok.nocell y hy
    rw [z] at q
    simp at q
  have nloc : ∀ y ∈ scope.names, y.2 = .local → scope.names.lookup y.1 = some .local := fun y hy z => by
    have q := List.all_eq_true.mp ok.loc y hy
    rw [z] at q
    simpa using q
  refine wpAny_comprehension_free (use := none) rfl hs ok.clos ok.kind nloc (thn (hi pins s σ H _ I h) fun v s1 h1 => thn h1 fun itv s2 h2 => ?_)
  obtain ⟨it, fp, tn, J, H2, rfl, I2, T, st2, f2, q2⟩ := h2
  obtain ⟨W, ⟨m0, w0⟩, turn⟩ := q2 s2.heap.objs.size (I2.hok.fresh (Nat.le_refl _))
  refine wpAny_newObj_type (wpAny_newFunctionEnv ncell (by intro y hy; simp at hy) (fun h1 hns hsb => ?_) ok.kind)
  have I3 := I2.laid (a := s2.heap.objs.size) (o := .lst []) (h' := s2.heap.push { cls := .type "list", dict := none, data := .seq ([] : List Value).toArray }) (t' := s2.toks) (fun b u q => Heap.get?_push_of_some _ q) (Nat.le_refl _)
    ⟨Nat.zero_le _, [], 0, .nil, Heap.get?_push_size _ rfl⟩
  have fpo : ∀ b ∈ fp, b < s2.heap.objs.size := fun b hb => by
    obtain ⟨o, e, _⟩ := T.obj 0 _ st2 b hb
    exact Heap.lt_size e
  have f3 : ∀ b ∈ fp, FpOk X pins (upd H2 s2.heap.objs.size (.lst [])) b := fun b hb => ⟨by rw [upd_ne (Nat.ne_of_lt (fpo b hb))]; exact (f2 b hb).1, (f2 b hb).2⟩
  generalize hs3 : ({ s2 with heap := s2.heap.push { cls := .type "list", dict := none, data := .seq ([] : List Value).toArray }, toks := s2.toks } : Shared) = s3 at I3
  have e3 : s3.heap = s2.heap.push { cls := .type "list", dict := none, data := .seq ([] : List Value).toArray } := by rw [← hs3]
  have lt3 : ∀ b ∈ fp, b < s3.heap.objs.size := fun b hb => by rw [e3, Heap.size_push]; exact Nat.lt_succ_of_lt (fpo b hb)
  dsimp only at hns hsb ⊢
  rw [← e3] at hns hsb
  have hk : ∀ b o, s3.heap.get? b = some o → h1.get? b = some o := fun b o e => hsb.extBut b o (Nat.ne_of_lt (Heap.lt_size e)) (Heap.get?_push_of_some _ e)
  have J0 := block_start (h1 := h1) ok I3 f3 lt3 hns hk (s2.toks + 0)
  have t0 : tn 0 h1 := T.keep 0 _ _ st2 fun b hb o e => hk b o (by rw [e3]; exact Heap.get?_push_of_some _ e)
  have fpB : ∀ {H' : Hp}, (∀ b ∈ fp, H' b = none) → ∀ b ∈ fp, FpOk (X.block scope cl s3.heap.objs.size (own :: ys) own fp s3 (upd H2 s2.heap.objs.size (.lst []))) [] H' b := fun {H'} hn b hb =>
    ⟨hn b hb, Nat.ne_of_lt (lt3 b hb), fun z => (List.mem_cons.mp (I3.stkSub b z)).elim (f3 b hb).2.1 (f3 b hb).2.2.1, .inl hb, fun x c e => (f3 b hb).2.2.2.2.1 x c (ok.sub (x, c) (PySem.mem_of_lookup e)), fun p hp => absurd (show p ∈ ([] : List (Addr × Obj)) from hp) (by simp)⟩
  have loop : codeAny (model X.prog X.w) X.A (.compLoop (.ListComp elt [⟨.Name own px, iter, [], 0⟩] scope pos) 0 (.ref it) (.ref s2.heap.objs.size) (compEnvC scope cl s3.heap.objs.size X.env))
      (compPost (model X.prog X.w) X.A X.xe none (EP X pins σ Q) (.ref s2.heap.objs.size) s3.heap.objs.size) { s3 with heap := h1, toks := s2.toks + 0 } := by
    refine compLoop_own (fun n s' => ∃ i zs o0 H', Inv (X.block scope cl s3.heap.objs.size (own :: ys) own fp s3 (upd H2 s2.heap.objs.size (.lst []))) [] (o0 :: freesOf js σ) H' s' ∧ tn i s'.heap ∧ (∀ b ∈ fp, H' b = none) ∧ W i n zs H') ?_ m0
      ⟨0, [], none, _, J0, t0, fun b hb => (f3 b hb).1, w0⟩
    rintro n s5 ⟨i, zs, o0, H5, I5, t5, n5, w5⟩
    obtain ⟨hD, hw⟩ := turn i n zs H5 w5
    rcases hw with ⟨stop, qn⟩ | ⟨go, hz, step⟩
    · refine thn (T.done (X.block scope cl s3.heap.objs.size (own :: ys) own fp s3 (upd H2 s2.heap.objs.size (.lst []))) rfl rfl rfl hc i [] s5 _ H5 (fun _ _ => False) I5 (fpB n5) t5 stop) fun r s6 ⟨hr, I6⟩ => ?_
      subst hr
      obtain ⟨m, hn, _⟩ := id I6.loc
      exact ⟨m, hn, fun h' hs' => ⟨V.ref s2.heap.objs.size, H5, block_end I3 f3 I6 hs', rfl, qn⟩⟩
    · refine thn (T.item (X.block scope cl s3.heap.objs.size (own :: ys) own fp s3 (upd H2 s2.heap.objs.size (.lst []))) rfl rfl rfl hc i [] s5 _ H5 (fun _ _ => False) I5 (fpB n5) t5 go) fun r s6 ⟨u, hr, h6⟩ => ?_
      subst hr
      refine thn h6 fun _ s7 ⟨x, H7, I7, r7, y7, t7, n7⟩ => ?_
      have I7' := I7.pinned (fpB n7) (T.obj _ _ t7)
      have hst := step x H7 y7
      have own' : (relabel scope X.env).names.lookup own = some .local := lookup_relabel_local ok.ownL
      refine thn (pg_name (X := X.block scope cl s3.heap.objs.size (own :: ys) own fp s3 (upd H2 s2.heap.objs.size (.lst []))) (i := 0) (x := own) (pos := px) ok.nd rfl (.inl own') (.inr own') _ s7 _ H7 x u (fun σ' H' => σ' = some x :: freesOf js σ ∧ H' = H7) I7' r7 ⟨rfl, rfl⟩) fun _ s8 ⟨σ8, H8, I8, e8, eH8⟩ => ?_
      subst e8 eH8
      refine thn (he _ _ _ _ _ s8 _ H8 _ I8 hst) fun yv s9 ⟨y, H9, I9, r9, hD9, m', hm, w9⟩ => ?_
      refine thn (mt_append _ s9 _ H9 (.ref s2.heap.objs.size) [y] (.ref s2.heap.objs.size) [yv] (fun _ H' => H' = upd H9 s2.heap.objs.size (.lst (zs ++ [y]))) I9 rfl (.cons r9 .nil) ⟨_, zs, y, rfl, rfl, hD9, hz, rfl⟩) fun _ s10 ⟨_, H10, I10, _, e10⟩ => ?_
      subst e10
      refine ⟨m', hm, i + 1, zs ++ [y], some x, _, I10.unpinned, T.keep _ _ _ t7 fun b hb o e => (I10.pin (b, o) (List.mem_append_right _ (List.mem_append_right _ (mem_pinsAt hb e)))).1, fun b hb => ?_, w9⟩
      obtain ⟨o, e, d⟩ := T.obj _ _ t7 b hb
      exact (I10.pin (b, o) (List.mem_append_right _ (List.mem_append_right _ (mem_pinsAt hb e)))).2.1
  subst hs3
  exact codeAny_compStart_list loop (T.self _ 0 _ _ _ t0 loop)
end
end L2
set_option Elab.async false
set_option linter.all false
set_option maxRecDepth 100000
namespace L2
open PySem PySem.Spec PyProof.Rows XH PySem.Builtin PySem.Builtin.ObjectAttr
/-! ### an own refusal's __init__: its field -/
/-- the classes above it, as a store asks -/
structure XA (K : PySem.W.Frag) (C S : Addr) : Prop where
  sa : PySem.W.findIn K (.ref C) "__setattr__" = some (some (.builtin "object.__setattr__"))
  mro : (PySem.W.clsIn K C).map (·.mro) = some (.ref C :: .ref S :: bmV)
  dct : PySem.W.hasDictIn K C = true
  ob : PySem.W.mroIn K C (.type "object") = some true
theorem refuse_V (self : Value) (C S : Addr) : refuseLoop self "__setattr__" (.ref C :: .ref S :: bmV) = pure () := by
  rw [refuseLoop_ref, refuseLoop_ref]
  kernel_rfl
section
variable {prog : Program} {w : World} {A : Around} {E : Value → Shared → Prop} {s : Shared} {K : PySem.W.Frag} {x C S : Addr} {ox : Obj} {od : Option Obj} {name : Str} {v : Value}
open PySem.W in
theorem osa_exc {R : Result → Shared → Prop} {tk : Tok} (X : K.In s.heap) (I : InstAt s.heap x ox C od) (N : XA K C S) (hn : findIn K (.ref C) name = some none)
    (h : wpAny (model prog w) A.in1 (storeInOwnDict (.ref x) (.ref C) (.str name tk) name v false) (fun fin s' => match fin with | .done f => R (.ok f) s' | .again c' => c'.quiet = true ∧ codeAny (model prog w) A c' R s') (fun e s' => R (.error e) s') s) :
    codeAny (model prog w) A (.call (.builtin "object.__setattr__") ⟨[.ref x, .str name tk, v], []⟩) R s := by
  have so := PySem.F.store_object
  obtain ⟨cd, hc, hm⟩ := Option.map_eq_some_iff.mp N.mro
  have sub : Looks (model prog w) s.heap (isInstance (.ref x) (.type "object")) true := I.type.andThen (looks_mroIn X N.ob)
  have lm : Looks (model prog w) s.heap (mroOf (.ref C)) cd.mro := (looks_clsIn X hc).andThen .now
  have ck : ∀ {A' : Around} {Q' : Unit → Shared → Prop} {E' : Value → Shared → Prop}, Q' () s → wpAny (model prog w) A' (checkBuiltinCall "object.__setattr__" ⟨[.ref x, .str name tk, v], []⟩) Q' E' s := fun {A' Q' E'} q =>
    check_slot (M := model prog w) (A := A') (E := E') (s := s) (i := "object.__setattr__") (owner := "object") (n := "__setattr__") (self := .ref x) (rest := [.str name tk, v]) (kw := []) (Q := Q') so.kind so.split sub (so.args (.ref x) (.str name tk) v) q
  refine codeAny_call_builtin so.slot.plain so.entry (ck ?_)
  rw [osa_eq, refuse_eq]
  refine wpAny_bind (wpAny_bind (I.type.here ?_))
  refine wpAny_bind (lm.here ?_)
  rw [hm, refuse_V]
  refine wpAny_pure (wpAny_bind ?_)
  refine I.type.here (wpAny_bind ?_)
  refine (looks_findIn X hn).here (wpAny_bind (wpAny_pure ?_))
  exact h
open PySem.W in
theorem set_exc {vs : Array Value} {Q : Unit → Shared → Prop} (X : K.In s.heap) (he : s.heap.get? x = some ox) (hc : ox.cls = .ref C) (hdx : ox.dict = none) (hda : ox.data = .fields vs) (N : XA K C S) (hn : findIn K (.ref C) name = some none)
    (h : ∀ h', (∀ b o, b ≠ x → s.heap.get? b = some o → h'.get? b = some o) → h'.get? x = some { ox with dict := some s.heap.objs.size } → h'.Ns1 s.heap.objs.size (fun y => if y = name then some v else none) →
      Q () { s with heap := h', toks := s.toks + 2 }) : wpAny (model prog w) A (setAttr (.ref x) name v) Q E s := by
  have I : InstAt s.heap x ox C none := ⟨he, hc, by unfold notCls; rw [hda], by rw [hdx]; trivial⟩
  apply set_plain X I N.sa
  have I2 : InstAt ({ s with toks := s.toks + 1 } : Shared).heap x ox C none := I
  apply osa_exc (s := { s with toks := s.toks + 1 }) X I2 N hn
  obtain ⟨cd, hcd, hd⟩ := any_some N.dct
  obtain ⟨oc, odi, oda, osl⟩ := ox
  dsimp only at hc hdx hda
  subst hc hdx hda
  refine wpAny_bind (wpAny_pure (wpAny_bind (wpAny_bind (wpAny_loadPart he ?_))))
  refine wpAny_bind (Looks.here (s := { s with toks := s.toks + 1 }) (looks_clsIn X hcd) ?_)
  rw [hd]
  show wpAny _ _ (alloc { cls := .type "dict", data := .dict #[] } >>= fun d => update x (fun o => { o with dict := some d }) >>= fun _ => dictMade (.ref C) x d) _ _ _
  refine wpAny_bind (wpAny_alloc ?_)
  have lt := Heap.lt_size he
  have hne : x ≠ s.heap.objs.size := Nat.ne_of_lt lt
  have he1 := Heap.get?_push_of_some (h := s.heap) { cls := .type "dict", data := .dict #[] } he
  have e1 : (s.heap.push PySem.W.emptyDict).get? s.heap.objs.size = some PySem.W.emptyDict := Heap.get?_push_size s.heap rfl
  have e2 : (s.heap.push PySem.W.emptyDict).Ns s.heap.objs.size (fun _ => none) := ⟨PySem.W.emptyDict, #[], _, e1, rfl, (fun e he => absurd he (by simp)), fun _ => rfl⟩
  refine wpAny_bind (wpAny_update he1 ?_)
  refine wpAny_pure ?_
  have up : ∀ b, b ≠ x → ((s.heap.push PySem.W.emptyDict).update x (fun o => { o with dict := some s.heap.objs.size })).get? b = (s.heap.push PySem.W.emptyDict).get? b := fun b hb => Heap.get?_update_other _ _ (Ne.symm hb)
  have e3 : ((s.heap.push PySem.W.emptyDict).update x (fun o => { o with dict := some s.heap.objs.size })).Ns1 s.heap.objs.size (fun _ => none) := (Heap.Ns1.of_empty e2).at fun o q => (up _ (Ne.symm hne)).trans q
  have e4 : ((s.heap.push PySem.W.emptyDict).update x (fun o => { o with dict := some s.heap.objs.size })).get? x = some ⟨.ref C, some s.heap.objs.size, .fields vs, osl⟩ := Heap.get?_update_self _ he1 rfl
  refine wpAny_bind (wpAny_pure (wpAny_bind ?_))
  refine wpAny_nsSet1 (s := ⟨(s.heap.push PySem.W.emptyDict).update x (fun o => { o with dict := some s.heap.objs.size }), s.gens, s.drawn, s.toks + 1, s.os⟩) e3 fun h' hn2 hs2 => ?_
  obtain ⟨oD, esD, epD, hoD, hdD, hcD⟩ := hn2.count (ns := [name]) (PySem.Within.cons (ns := []) name v (fun y hy => absurd rfl hy))
  refine wpAny_bind (wpAny_lookBehind hoD (by rw [hdD]; exact pastItsLine_dict (Nat.le_trans hcD (by show 1 ≤ sizeLine + 1; decide))) ?_)
  refine wpAny_pure (h h' (fun b o hb q => ?_) ((hs2.2 x hne).trans e4) hn2)
  have hbd : b ≠ s.heap.objs.size := Nat.ne_of_lt (Heap.lt_size q)
  exact (hs2.2 b hbd).trans ((up b hb).trans (Heap.get?_push_of_some _ q))
end
/-- self.f = e in the __init__ of an own refusal -/
def sFldX (K : PySem.W.Frag) (ta tv : TE) (f : Str) : TS := fun D σ H => tv σ H fun y H1 => ta σ H1 fun x H2 => ∃ a C S n, x = .ref a ∧ H2 a = some (excB n a (.ref C) none) ∧ XA K C S ∧ PySem.W.findIn K (.ref C) f = some none ∧
  ∀ d, H2 d = none → D.nx σ (upd (upd H2 d (.xd [(f, y)])) a (excB n a (.ref C) (some d)))
section
variable {X : Cx} {o value : Expr} {f : Str} {pos pos' : Pos} {ta tv : TE}
theorem setx_ok {pins : List (Addr × Obj)} {σ : St} {H : Hp} {s : Shared} {a C S : Addr} {y : V} {u : Value} {n : Bool} {A : Around} {E : Value → Shared → Prop} {Q : Unit → Shared → Prop} (I : Inv X pins σ H s) (e : H a = some (excB n a (.ref C) none)) (N : XA X.K C S)
    (hn : PySem.W.findIn X.K (.ref C) f = some none) (ry : RelV y u) (h : ∀ d s', H d = none → Inv X pins σ (upd (upd H d (.xd [(f, y)])) a (excB n a (.ref C) (some d))) s' → Q () s') :
    wpAny (model X.prog X.w) A (setAttr (.ref a) f u) Q E s := by
  obtain ⟨⟨ox, vs, h1, h2, h3, h4, h6, h5⟩, _⟩ := (show ObjOk X.prog X.w H s.heap a (excB n a (.ref C) none) from I.hok a _ e)
  refine set_exc I.kIn h1 h2 h3 h4 N hn fun h' kp ha hd => ?_
  have nd : H s.heap.objs.size = none := I.hok.fresh (Nat.le_refl _)
  have ad : a ≠ s.heap.objs.size := ne_of_none e nd
  refine h s.heap.objs.size _ nd ?_
  have ne : ∀ b o, H b = some o → b ≠ s.heap.objs.size := fun b o q => ne_of_none q nd
  have nea : ∀ b, H b = none → b ≠ a := fun b q z => by rw [z, e] at q; cases q
  refine I.un (t' := s.toks + 2) (h' := h') ⟨?_, ?_, ?_, ?_, ?_, ?_, ?_⟩ ?_
  · intro b o q n hb _
    exact kp b o (nea b n) q
  · intro b o q n hb _
    exact ⟨o.slots, kp b o (nea b n) q⟩
  · intro b o q n _
    rw [upd_ne (nea b n), upd_ne (Nat.ne_of_lt (Heap.lt_size q))]
    exact n
  · intro b o q _
    by_cases hb : b = a
    · subst hb
      exact ⟨_, ha⟩
    · exact ⟨o, kp b o hb q⟩
  · intro b xs q
    have hb : b ≠ a := ne_of q e (by intro z; cases z)
    rw [upd_ne hb, upd_ne (ne b _ q)]
    exact q
  · intro b o' u' q
    have hb : b ≠ a := ne_of q e (by intro z; cases z)
    rw [upd_ne hb, upd_ne (ne b _ q)]
    exact q
  · intro b ps q
    have hb : b ≠ a := ne_of q e (by intro z; cases z)
    exact ⟨#[], by rw [upd_ne hb, upd_ne (ne b _ q), q]; simp⟩
  · intro b ob q
    by_cases hb : b = a
    · subst hb
      rw [upd_same] at q
      cases q
      exact excB_ok ha h2 rfl h4 h6 h5
    · rw [upd_ne hb] at q
      by_cases hbd : b = s.heap.objs.size
      · subst hbd
        rw [upd_same] at q
        cases q
        refine ⟨_, hd, fun g => ?_⟩
        show RelO (List.lookup g [(f, y)]) (if g = f then some u else none)
        by_cases hg : g = f
        · subst hg
          rw [if_pos rfl]
          simp only [List.lookup, beq_self_eq_true]
          exact ry
        · rw [if_neg hg]
          have : (g == f) = false := beq_eq_false_iff_ne.mpr hg
          simp only [List.lookup, this]
          trivial
      · rw [upd_ne hbd] at q
        refine (I.hok b ob q).stay (fun c v hc z => kp c v (fun y => ?_) z) (fun c z => ?_) fun c xs z => ?_
        · rcases hc with z' | z'
          · exact hb (z'.symm.trans y)
          · rw [y, e] at z'; cases z'
        · have hc : c ≠ a := ne_of z e (by intro z; cases z)
          rw [upd_ne hc, upd_ne (ne c _ z)]
          exact z
        · have hc : c ≠ a := ne_of z e (by intro z; cases z)
          rw [upd_ne hc, upd_ne (ne c _ z)]
          exact z
end
end L2
set_option Elab.async false
set_option linter.all false
set_option maxRecDepth 100000
namespace L2
open PySem PySem.Spec PyProof.Rows XH
section
variable {X : Cx} {o e value : Expr} {f : Str} {pos pos' : Pos} {ta tv : TE}
theorem ps_fldX {K : PySem.W.Frag} (hK : X.K = K) (ha : PE X o ta) (hv : PE X value tv) (hs : swapsWith value (some (.Attribute o f pos')) pos.line X.env = pure false) : PS X (.Assign [.Attribute o f pos'] value pos) (sFldX K ta tv f) := by
  subst hK
  intro pins s σ H D I h
  refine plainObj_wpAny_Assign_Attribute (thn (hv pins s σ H _ I h) fun u s1 ⟨y, H1, I1, ry, q⟩ => thn (ha pins s1 σ H1 _ I1 q) fun ov s2 ⟨x, H2, I2, rx, a, C, S, nb, ex, ea, n, hn, q2⟩ => ?_) hs
  subst ex
  obtain rfl : ov = Value.ref a := rx
  exact setx_ok I2 ea n hn ry fun d s3 nd I3 => ⟨σ, _, I3, q2 d nd⟩
/-- e.f of a refusal that has the field -/
structure XF (K : PySem.W.Frag) (C : Addr) (f : Str) : Prop where
  gg : XG K C
  dct : PySem.W.hasDictIn K C = true
  no : PySem.W.findIn K (.ref C) f = some none
def tFldX (K : PySem.W.Frag) (ta : TE) (f : Str) : TE := fun σ H Q => ta σ H fun x H1 => ∃ a C d fs v n, x = .ref a ∧ H1 a = some (excB n a (.ref C) (some d)) ∧ H1 d = some (.xd fs) ∧ XF K C f ∧ fs.lookup f = some v ∧ Q v H1
theorem pe_fldX {K : PySem.W.Frag} (hK : X.K = K) (he : PE X e ta) (hb : attributeBase e f X.env (eval e X.env) = eval e X.env) : PE X (.Attribute e f pos) (tFldX K ta f) := by
  subst hK
  intro pins s σ H Q I h
  refine attr_of hb (thn (he pins s σ H _ I h) fun ov s1 ⟨x, H1, I1, rx, a, C, d, fs, v, nb, ex, ea, ed, n, l, q⟩ => ?_)
  subst ex
  obtain rfl : ov = Value.ref a := rx
  obtain ⟨⟨ox, vs, h1, h2, h3, h4, _⟩, _⟩ := (show ObjOk X.prog X.w H1 s1.heap a (excB nb a (.ref C) (some d)) from I1.hok a _ ea)
  obtain ⟨mA, ns, rel⟩ := (show ObjOk X.prog X.w H1 s1.heap d (.xd fs) from I1.hok d _ ed)
  obtain ⟨od, hod, lk⟩ := lookIn_ns ns
  obtain ⟨u, hu, ru⟩ := RelO.some_of (v := v) (o := mA f) (by rw [← l]; exact rel f)
  have J : PySem.W.InstAt s1.heap a ox C (some od) := ⟨h1, h2, by unfold PySem.W.notCls; rw [h4], by rw [h3]; exact hod⟩
  have KX := I1.kIn
  have I2 := I1.tok (s1.toks + 1)
  obtain ⟨hh, g, dr, t, os⟩ := s1
  unfold getAttr
  refine wpAny_bind (wpAny_mkText (exc_by (h := hh) KX J n.gg fun A' => exc_entry_value KX J (PySem.W.findObj_own n.dct n.no rfl (by rw [lk, hu])) ?_))
  exact PySem.W.handed_on (handed_of ru) ⟨v, H1, I2, ru, q⟩
end
/-! ### a refusal with an __init__ is made -/
theorem ns_some {K : PySem.W.Frag} {h : Heap} {N : Addr} {mg : Str → Option Value} {n : Str} {v : Value} (X : K.In h) (G : h.Ns N mg) (e : PySem.W.nsIn K N n = some (some v)) : mg n = some v := by
  obtain ⟨o, es, ep, ho, hd, _, hf⟩ := G
  unfold PySem.W.nsIn at e
  split at e
  · rename_i q
    have z := X _ _ q
    rw [ho] at z
    cases z
    cases hd
    split at e
    · rename_i he
      cases e
      rw [← hf]
      unfold nsFind findBy
      rw [← Array.find?_toList, he]
      rfl
    · split at e <;> cases e
  · cases e
structure XCi (K : PySem.W.Frag) (C f : Addr) : Prop where
  ex : ∃ bm N nm q bs hdct sn sub ab col dd k0 k1 k2 k3 k5, K.lookup C = some (excClassObj nm q C N bs bm hdct sn sub ab col dd k0 k1 k2 k3 k5 "ValueError.__new__") ∧ PySem.W.nsOkIn K N = true ∧ PySem.W.nsIn K N "__init__" = some (some (.ref f)) ∧ PySem.W.tailIn K bmV bm = true
  fn : PySem.W.typeIn K (.ref f) = some (.type "function")
  kp : PySem.W.keepIn K (.ref C) = true
section
variable {prog : Program} {w : World} {A : Around} {E : Value → Shared → Prop} {h : Heap} {g : Array GenState} {d : Drawn} {t : Nat} {os : OsState}
variable {nm q : Str} {C N : Addr} {bs bm : List Value} {hdct : Bool} {sn : List Str} {sub : List Value} {ab : Bool} {col : Option Bool} {dd : Option Addr} {k0 k1 k2 k3 k5 : Option Value}
theorem type_call_init {mN : Str → Option Value} {rest : List Value} {fI : Addr} {oI : Obj} {Q : Fin → Shared → Prop} (tl : OwnTail h bmV bm)
    (cl : h.get? C = some (excClassObj nm q C N bs bm hdct sn sub ab col dd k0 k1 k2 k3 k5 "ValueError.__new__")) (nn : h.Ns N mN) (ni : mN "__init__" = some (.ref fI)) (gI : h.get? fI = some oI) (cI : oI.cls = .type "function")
    (kq : ∀ h' e, Heap.MadeExcOf h h' e (.ref C) rest → wpAny (model prog w) A (call (.ref fI) (.ref e :: rest)) (fun r s' => r = .none ∧ Q (.done (.ret (.ref e))) s') E ⟨h', g, d, t, os⟩) (lr : rest.length ≤ sizeLine) :
    wpAny (model prog w) A (Builtin.«type.__call__» ⟨.ref C :: rest, []⟩) Q E ⟨h, g, d, t, os⟩ := by
  have FV := PySem.F.excBase_ValueError
  repeat (first | with_reducible refine wpAny_loadPart_at cl ?_ | with_reducible refine wpAny_madeBy_exc cl ?_ | wp_step)
  refine codeAny_call_builtin_code (Code.quiet_builtin _ FV.quiet) (wpAny_check_new_subT FV tl cl ?_)
  refine codeAny_exc_new_subT FV tl cl ?_ lr
  show wpAny _ _ _ _ _ _
  generalize hp : (h.push { cls := .type "tuple", data := .seq rest.toArray }).push { cls := .ref C, data := .fields #[.ref h.objs.size, .none, .none, .none, .bool false, .none] } = h2
  have kp : ∀ b o, h.get? b = some o → h2.get? b = some o := fun b o z => by rw [← hp]; exact Heap.get?_push_of_some _ (Heap.get?_push_of_some _ z)
  have ge : h2.get? (h.objs.size + 1) = some { cls := .ref C, data := .fields #[.ref h.objs.size, .none, .none, .none, .bool false, .none] } := by rw [← hp]; heap_get
  have gt : h2.get? h.objs.size = some { cls := .type "tuple", data := .seq rest.toArray } := by rw [← hp]; exact Heap.get?_push_of_some _ (Heap.get?_push_at rfl rfl)
  have cl2 := kp _ _ cl
  have nn2 : h2.Ns N mN := nn.keeps kp
  have self : (Value.ref C :: bm).contains (.ref C) = true := by simp
  unfold isInstance
  repeat (first | with_reducible refine wpAny_loadPart_at ge ?_ | (with_reducible refine wpAny_isSubtype_exc cl2 ?_; rw [self]) | wp_step)
  show wpAny _ _ (typeLookup (.ref C) _) _ _ _
  refine wpAny_typeLookup_tail cl2 nn2 (tl.keeps kp) FV.mroIs FV.init.lookup ?_
  rw [ni]
  refine wpAny_holding (wpAny_bind ?_)
  unfold bindSpecial
  refine wpAny_bind (wpAny_typeOf (T := "function") ⟨_, kp _ _ gI, cI⟩ ?_)
  rw [if_pos (by decide)]
  refine wpAny_pure (wpAny_bind ?_)
  refine wpAny_mono (kq h2 (h.objs.size + 1) ⟨kp, Heap.get?_none_of_le (Nat.le_succ _), h.objs.size, ge, Heap.get?_none_of_le (Nat.le_refl _), gt⟩) (fun r s' hr => ?_) fun _ _ z => z
  obtain ⟨rfl, z⟩ := hr
  wp_walk
  exact z
theorem call_init {mN : Str → Option Value} {rest : List Value} {fI : Addr} {oI : Obj} {Q : Value → Shared → Prop} (tl : OwnTail h bmV bm)
    (cl : h.get? C = some (excClassObj nm q C N bs bm hdct sn sub ab col dd k0 k1 k2 k3 k5 "ValueError.__new__")) (nn : h.Ns N mN) (ni : mN "__init__" = some (.ref fI)) (gI : h.get? fI = some oI) (cI : oI.cls = .type "function")
    (kq : ∀ h' e, Heap.MadeExcOf h h' e (.ref C) rest → wpAny (model prog w) (A.under (.builtin "type.__call__" ⟨.ref C :: rest, []⟩)) (call (.ref fI) (.ref e :: rest)) (fun r s' => r = .none ∧ Q (.ref e) s') E ⟨h', g, d, t, os⟩) (lr : rest.length ≤ sizeLine) :
    wpAny (model prog w) A (call (.ref C) rest) Q E ⟨h, g, d, t, os⟩ := by
  have a1 := tc_lookup
  have a2 := tc_bind (.ref C)
  have ty : (⟨h, g, d, t, os⟩ : Shared).TypeIs (.ref C) "type" := ⟨_, cl, rfl⟩
  refine wpAny_call (codeAny_of_tree ?_)
  show wpAny _ _ (callAny (.ref C) _) _ _ _
  repeat (any_goals (first | assumption | with_reducible refine wpAny_loadPart_at cl ?_ | wp_step))
  refine ⟨rfl, ?_⟩
  refine codeAny_call_builtin_at (Code.quiet_builtin _ (by decide +kernel)) entry_typeCall (wpAny_check_type_call_sub cl ?_)
  exact type_call_init tl cl nn ni gI cI (fun h' e mk => kq h' e mk) lr
end
section
variable {X : Cx} {x : Str} {p pos : Pos} {e : Expr} {es : List Expr} {C fI : Addr} {t : TA} {k : Nat} {fd : FuncData} {ps : List Str} {sp : Sp}
theorem run_init {pins : List (Addr × Obj)} {σ : St} {H : Hp} {s : Shared} {Q : Value → Shared → Prop} {us : List Value} {vs : List V} {E : Value → Shared → Prop} {R : Addr → Hp → Prop} (M : XCi X.K C fI) (F : FnOk X.prog X.w X.K X.mg X.base CX0 k fI fd ps sp) (hr : Room (k + 1) X.A) (hb : Binds X.K fd ps [])
    (I : Inv X pins σ H s) (r : Vals vs us) (lr : vs.length ≤ sizeLine) (h : ∀ a, H a = none → sp (.ref a :: vs) (upd H a (excB true a (.ref C) none)) (fun v H2 => v = .non ∧ R a H2) E0)
    (hq : ∀ a h' H2 s2, Heap.MadeExcOf s.heap h' a (.ref C) us → s2.os = s.os → AllBare s2.gens → Un (frs X.stack) [] H H2 s.heap s2.heap → HOk X.prog X.w H2 s2.heap → R a H2 → Q (.ref a) s2) :
    wpAny (model X.prog X.w) X.A (call (.ref C) us) Q E s := by
  obtain ⟨bm, N, nm, qn, bs, hdct, sn, sub, ab, col, dd, k0, k1, k2, k3, k5, lk, ok, ini, tl⟩ := M.ex
  have KX := I.kIn
  have lr' : us.length ≤ sizeLine := by rw [← r.length]; exact lr
  have fn := M.fn
  unfold PySem.W.typeIn at fn
  obtain ⟨oI, gI, cI⟩ := Option.map_eq_some_iff.mp fn
  have nn : s.heap.Ns N (s.heap.nsMap N) := .of_isNs (PySem.W.isNs_of_in KX ok)
  have key := fun h' a (mk : Heap.MadeExcOf s.heap h' a (.ref C) us) => (made_cx I mk).caughtN I
  have un := fun h' a (mk : Heap.MadeExcOf s.heap h' a (.ref C) us) => un_track (o := excB true a (.ref C) none) (Un.kept (fs := frs X.stack) (ex := []) (H := H) mk.keeps) mk.new (I.hok.none_of mk.new)
  obtain ⟨hh, g, d, tk, os⟩ := s
  refine call_init (PySem.W.tail_of_in KX tl) (KX _ _ lk) nn (ns_some KX nn ini) (KX _ _ gI) cI (fun h' a mk => ?_) lr'
  have I2 := key h' a mk
  have na : H a = none := I.hok.none_of mk.new
  have hs := h a na
  have r2 : Vals (V.ref a :: vs) (Value.ref a :: us) := .cons rfl r
  have hl : (Value.ref a :: us ++ []).length = ps.length := by
    rw [List.append_nil, ← r2.length]
    exact F.len _ _ _ _ hs
  have hb' := hb ⟨h', g, d, tk, os⟩ (Value.ref a :: us) I2.kIn hl
  rw [List.append_nil] at hb'
  refine wpAny_call (codeAny_mono (F.run _ X.stack _ _ ⟨Value.ref a :: us, []⟩ (Value.ref a :: us) _ _ E0 (hr.make C us []) (I2.env0.make C us []) hb' r2 hs) fun rr s' hq' => ?_)
  cases rr with
  | error z => exact hq'.elim
  | ok fl =>
    cases fl with
    | ret u =>
      obtain ⟨v, H2, os', bare, un2, hok, rv, ev, q2⟩ := hq'
      subst ev
      exact ⟨rv, hq a h' H2 s' mk os' bare ((un h' a mk).trans un2) hok q2⟩
    | next => exact False.elim hq'
    | brk => exact False.elim hq'
    | cont => exact False.elim hq'
end
end L2
set_option Elab.async false
set_option linter.all false
set_option maxRecDepth 100000
namespace L2
open PySem PySem.Spec PyProof.Rows XH
section
variable {M : Model} {A : Around} {E : Value → Shared → Prop} {env : Env}
variable {nm q : Str} {C N : Addr} {bs bm : List Value} {hdct : Bool} {sn : List Str} {sub : List Value} {ab : Bool} {col : Option Bool} {dd : Option Addr} {k0 k1 k2 k3 k5 : Option Value} {nw : String}
theorem raise_any {s : Shared} {x : Sem Value} {Q : Flow → Shared → Prop} (hb : bm.contains (.type "BaseException") = true) (hh : A.handled = none)
    (h : wpAny M A x (fun v s1 => ∃ e dx ws sl, v = .ref e ∧ s1.heap.get? C = some (excClassObj nm q C N bs bm hdct sn sub ab col dd k0 k1 k2 k3 k5 nw) ∧ s1.heap.get? e = some ⟨.ref C, dx, .fields ws, sl⟩ ∧ ws[1]? = some .none ∧ E (.ref e) s1) E s) :
    wpAny M A (raiseStmt env (some x) none) Q E s := by
  have cb : (Value.ref C :: bm).contains (.type "BaseException") = true := by rw [List.contains_cons, hb, Bool.or_true]
  unfold raiseStmt
  apply wpAny_bind
  refine wpAny_mono h (fun v s1 h1 => ?_) fun _ _ z => z
  obtain ⟨e, dx, ws, sl, rfl, cl, ge, n1, he⟩ := h1
  obtain ⟨hp, g, d, tk, os⟩ := s1
  repeat (first | with_reducible refine wpAny_loadPart_at ge ?_ | with_reducible refine wpAny_loadPart_at cl ?_ | (with_reducible refine wpAny_isSubtype_exc cl ?_; rw [cb]) | wp_step)
  rw [n1]
  refine wpAny_pure ?_
  rw [if_neg (by decide)]
  exact wpAny_pure (wpAny_raiseNew_none hh he)
end
def del (H : Hp) (a : Addr) : Hp := fun b => if b = a then none else H b
theorem del_ne {H : Hp} {a b : Addr} (h : b ≠ a) : del H a b = H b := if_neg h
theorem del_same {H : Hp} {a : Addr} : del H a a = none := if_pos rfl
theorem un_del {fs : List Addr} {H H2 : Hp} {h0 h : Heap} {a : Addr} (u : Un fs [] H H2 h0 h) (na : H a = none) : Un fs [] H (del H2 a) h0 h where
  keep := u.keep
  slot := u.slot
  free := fun b o q n hx => by
    by_cases hb : b = a
    · rw [hb, del_same]
    · rw [del_ne hb]; exact u.free b o q n hx
  there := u.there
  tups := fun b xs e => by rw [del_ne (ne_of_none e na)]; exact u.tups b xs e
  frzs := fun b o w e => by rw [del_ne (ne_of_none e na)]; exact u.frzs b o w e
  tbls := fun b ps e => by rw [del_ne (ne_of_none e na)]; exact u.tbls b ps e
theorem hok_del {P : Program} {w : World} {H : Hp} {h : Heap} {a : Addr} {φ : Heap → Prop} (k : HOk P w H h) (e : H a = some (.ext φ)) : HOk P w (del H a) h := fun b o q => by
  by_cases hb : b = a
  · rw [hb, del_same] at q; cases q
  · rw [del_ne hb] at q
    refine (k b o q).stay (fun c v _ z => z) (fun c z => ?_) fun c xs z => ?_
    · rw [del_ne (ne_of z e (by intro y; cases y))]; exact z
    · rw [del_ne (ne_of z e (by intro y; cases y))]; exact z
def tRaiseI (C : Addr) (sp : Sp) (E : St → XK) (t : TA) : TS := fun _ σ H => t σ H fun vs H1 => vs.length ≤ sizeLine ∧ ∀ a, H1 a = none → sp (.ref a :: vs) (upd H1 a (excB true a (.ref C) none)) (fun v H2 => v = .non ∧ ∃ d, H2 a = some (excB true a (.ref C) (some d)) ∧ E σ (.ref C) (some d) (del H2 a)) E0
section
variable {X : Cx} {x : Str} {np cpos pos : Pos} {e₀ : Expr} {rest : List Expr} {C fI : Addr} {t : TA} {k : Nat} {fd : FuncData} {ps : List Str} {sp : Sp} {E : St → XK}
theorem ps_raiseI (M : XCi X.K C fI) (F : FnOk X.prog X.w X.K X.mg X.base CX0 k fI fd ps sp) (hr : Room (k + 1) X.A) (hg : Gl X x) (hm : X.mg x = some (.ref C)) (hb : Binds X.K fd ps []) (hc : X.calm = true) (hp : PassX X E) (ha : PA X (e₀ :: rest) t) (hd : (x == ("__debug__" : Str)) = false := by decide)
    (he : starEach (e₀ :: rest) X.env = (false, eval e₀ X.env) :: starEach rest X.env := by rfl) (hpl : (backTo cpos (starEach rest X.env)).any (·.1) = false := by rfl) :
    PS X (.Raise (some (.Call (.Name x np) (e₀ :: rest) [] cpos)) none pos) (tRaiseI C sp E t) := by
  intro pins s σ H D I h
  obtain ⟨bm, N, nm, qn, bs, hdct, sn, sub, ab, col, dd, k0, k1, k2, k3, k5, lk, ok, ini, tl⟩ := M.ex
  have bb : bm.contains (.type "BaseException") = true := (PySem.W.tail_of_in I.kIn tl).hasType PySem.F.excBase_ValueError.hasBase
  have body : wpAny (model X.prog X.w) X.A (eval (.Call (.Name x np) (e₀ :: rest) [] cpos) X.env) (fun v s1 => ∃ e dx ws sl, v = .ref e ∧ s1.heap.get? C = some (excClassObj nm qn C N bs bm hdct sn sub ab col dd k0 k1 k2 k3 k5 "ValueError.__new__") ∧ s1.heap.get? e = some ⟨.ref C, dx, .fields ws, sl⟩ ∧ ws[1]? = some .none ∧ X.xe (.ref e) s1) X.xe s := by
    refine wpAny_Call_Name_kw (ld_glob I hg hm ?_ hd)
    refine PySem.W.callWith_K (h₀ := X.base) I.ok.mod.kin M.kp (thn (ha cpos pins s σ H _ I h) fun us s1 ⟨vs, H1, I1, r, lr, q⟩ => ⟨I1.kIn, ?_⟩) he hpl
    refine run_init M F hr hb I1 r lr q fun a h' H2 s2 mk os bare un hok q2 => ?_
    obtain ⟨d, ed, hE⟩ := q2
    have I2 := I1.call' os un hok bare (fun b z => absurd z (by simp))
    obtain ⟨⟨ox, ws, g1, g2, g3, g4, g6, g5⟩, _⟩ := (show ObjOk X.prog X.w H2 s2.heap a (excB true a (.ref C) (some d)) from hok a _ ed)
    have na := I1.hok.none_of mk.new
    obtain ⟨oc, odx, oda, osl⟩ := ox
    dsimp only at g2 g3 g4
    subst g2 g3 g4
    refine ⟨a, some d, ws, osl, rfl, I2.kIn _ _ lk, g1, (g5 rfl).2, hp pins σ H1 s1 _ _ I1 ⟨a, del H2 a, .ref C, some d, .new, rfl, ⟨os, bare, un_del un na, hok_del hok ed, ⟨⟨_, ws, g1, rfl, rfl, rfl, ⟨(g5 rfl).1, g6⟩, (g5 rfl).2⟩, mk.new, del_same⟩⟩, hE⟩⟩
  rw [arm_exec_Raise]
  apply wpAny_bind
  apply wpAny_standAt
  refine raise_any (C := C) (nm := nm) (q := qn) (N := N) (bs := bs) (bm := bm) (hdct := hdct) (sn := sn) (sub := sub) (ab := ab) (col := col) (dd := dd) (k0 := k0) (k1 := k1) (k2 := k2) (k3 := k3) (k5 := k5) (nw := "ValueError.__new__") bb (I.ok.hd hc) ?_
  apply wpAny_bind
  refine wpAny_mono body (fun v s1 h1 => ?_) fun _ _ z => z
  apply wpAny_bind
  apply wpAny_standAt
  exact wpAny_pure h1
end
end L2
set_option Elab.async false
set_option linter.all false
set_option maxRecDepth 100000
namespace L2
open PySem PySem.Spec PyProof.Rows XH
/-! ### within an except suite, and in what is called there -/
theorem entry_unchain : entryFor table "proto.unchain" = some Builtin.«proto.unchain» := entryFor_of_fast (by kernel_rfl)
/-- what is known of the handled exception, if there is one -/
def HdOk (hd : Option Value) (H : Hp) : Prop := ∀ v, hd = some v → ∃ a n cls dx, v = .ref a ∧ H a = some (excB n a cls dx)
theorem HdOk.no {H : Hp} : HdOk none H := fun _ z => nomatch z
section
variable {prog : Program} {w : World} {A : Around} {E : Value → Shared → Prop} {s : Shared}
theorem range_endH {it hx : Addr} {ox : Obj} {vs : Array Value} {x left step : Int} {Q : Option Value → Shared → Prop} (hh : A.handled = some (.ref hx)) (ho : s.heap.get? hx = some ox) (hd : ox.data = .fields vs) (h2 : vs[2]? = some .none)
    (hit : IsRangeIter s.heap it x left step) (hleft : left ≤ 0) (hQ : ∀ h', Heap.ExtBut it s.heap h' → Q none { s with heap := h' }) : wpAny (model prog w) A (pyNext (.ref it)) Q E s := by
  have hT : s.TypeIs (.ref it) "range_iterator" := ⟨_, hit, rfl⟩
  unfold pyNext
  refine wpAny_bind (wpAny_attempt (wpAny_callSpecial?_slot (name := Str.ofString "__next__") hT F.slot_range_iterator_next
    (wpAny_call_entry F.slot_range_iterator_next hT F.entry_range_iterator_next ?_ (F.args_range_iterator_next_1 _))))
  show wpAny _ _ (field (.ref it) 0 >>= _) _ _ s
  refine wpAny_bind (wpAny_field hit rfl (x := rawInt x) rfl ?_)
  show wpAny _ _ (field (.ref it) 1 >>= _) _ _ s
  refine wpAny_bind (wpAny_field hit rfl (x := rawInt left) rfl ?_)
  show wpAny _ _ (field (.ref it) 2 >>= _) _ _ s
  refine wpAny_bind (wpAny_field hit rfl (x := rawInt step) rfl ?_)
  show wpAny _ _ (if left ≤ 0 then _ else _) _ _ s
  rw [if_pos hleft]
  refine wpAny_bind (wpAny_rule ?_)
  refine wpAny_bind ?_
  show wpAny _ _ (newExc (.type "StopIteration") [] >>= _) _ _ _
  refine wpAny_bind ?_
  simp only [newExc, newTuple]
  refine wpAny_bind (wpAny_newObj_type ?_ (by size_fits))
  refine wpAny_bind (m := firstArgMember _ _) (wpAny_of_eq (a := Value.none) (by first | rfl | (simp only [firstArgMember]; rfl)) ?_)
  refine wpAny_newObj_type ?_ (by size_fits)
  simp only [raiseNew]
  refine wpAny_bind (wpAny_handled ?_)
  rw [show A.in1.handled = some (.ref hx) from hh]
  have g0 : s.heap.get? (s.heap.push { cls := .type "tuple", dict := none, data := .seq ([] : List Value).toArray }).objs.size = none := Heap.get?_none_of_le (by rw [Heap.size_push]; omega)
  have ne : hx ≠ (s.heap.push { cls := .type "tuple", dict := none, data := .seq ([] : List Value).toArray }).objs.size := fun z => by
    rw [z, g0] at ho
    cases ho
  dsimp only
  rw [if_pos (bne_iff_ne.mpr fun z => ne (Value.ref.inj z))]
  refine wpAny_bind (wpAny_holding (wpAny_runValue (codeAny_builtin entry_unchain ?_)))
  show wpAny _ _ (field (.ref hx) 2 >>= _) _ _ _
  refine wpAny_bind (wpAny_field (Heap.get?_push_of_some _ (Heap.get?_push_of_some _ ho)) hd h2 ?_)
  rw [if_pos (by rfl)]
  refine wpAny_bind (wpAny_pure (wpAny_pure ?_))
  refine wpAny_bind (m := updateField _ 2 _) (wpAny_setField (Heap.get?_push_size _ rfl) rfl (by show 2 < 6; decide) ?_)
  refine wpAny_throw ?_
  refine wpAny_bind (wpAny_isInstance (T := "StopIteration") (b := true) ⟨_, Heap.get?_update_self _ (Heap.get?_push_size _ rfl) rfl, rfl⟩ isSubtype_stop ?_)
  refine wpAny_pure (hQ _ fun b o hb e => ?_)
  rw [Heap.get?_update_other _ _ (by
    intro z
    rw [z] at g0
    rw [g0] at e
    cases e)]
  exact Heap.get?_push_of_some _ (Heap.get?_push_of_some _ e)
end
/-! ### iterators under a handled exception -/
structure TurnH (hd : Option Value) (P : Program) (w : World) (K : PySem.W.Frag) (tg : Expr) (J : It) (fp : List Addr) (it : Addr) (tn : Nat → Heap → Prop) : Prop where
  mem : it ∈ fp
  obj : ∀ i h, tn i h → ∀ b ∈ fp, ∃ o, h.get? b = some o ∧ ∀ v, o.data ≠ .cell v
  keep : ∀ i h h', tn i h → (∀ b ∈ fp, ∀ o, h.get? b = some o → h'.get? b = some o) → tn i h'
  item : ∀ (X : Cx), X.prog = P → X.w = w → X.K = K → X.A.handled = hd → ∀ (i : Nat) (pins : List (Addr × Obj)) (s : Shared) (σ : St) (H : Hp) (E : Value → Shared → Prop), Inv X pins σ H s → (∀ b ∈ fp, FpOk X pins H b) → tn i s.heap → J.go i H →
    wpAny (model P w) X.A (pyNext (.ref it)) (fun r s1 => ∃ u, r = some u ∧
      wpAny (model P w) X.A (letOwnedTupleGo tg (.ref it) u) (fun _ s2 => ∃ x H', Inv X pins σ H' s2 ∧ RelV x u ∧ J.yld i H x H' ∧ tn (i + 1) s2.heap ∧ ∀ b ∈ fp, H' b = none) E s1) E s
  done : ∀ (X : Cx), X.prog = P → X.w = w → X.K = K → X.A.handled = hd → ∀ (i : Nat) (pins : List (Addr × Obj)) (s : Shared) (σ : St) (H : Hp) (E : Value → Shared → Prop), Inv X pins σ H s → (∀ b ∈ fp, FpOk X pins H b) → tn i s.heap → J.stop i H →
    wpAny (model P w) X.A (pyNext (.ref it)) (fun r s1 => r = none ∧ Inv X pins σ H s1) E s
  self : ∀ (A : Around) (i : Nat) (s : Shared) (Q : Value → Shared → Prop) (E : Value → Shared → Prop), tn i s.heap → Q (.ref it) s → wpAny (model P w) A (pyIter (.ref it)) Q E s
def PIEH (hd : Option Value) (X : Cx) (pins : List (Addr × Obj)) (σ : St) (tg : Expr) (R : It → Hp → Prop) (itv : Value) (s2 : Shared) : Prop :=
  ∃ (it : Addr) (fp : List Addr) (tn : Nat → Heap → Prop) (J : It) (H' : Hp), itv = .ref it ∧ Inv X pins σ H' s2 ∧ TurnH hd X.prog X.w X.K tg J fp it tn ∧ tn 0 s2.heap ∧ (∀ b ∈ fp, FpOk X pins H' b) ∧ R J H'
def PIH (hd : Option Value) (X : Cx) (tg iter : Expr) (wi : TI) : Prop :=
  ∀ (pins : List (Addr × Obj)) (s : Shared) (σ : St) (H : Hp) (R : It → Hp → Prop), Inv X pins σ H s → wi σ H R →
    wpAny (model X.prog X.w) X.A (eval iter X.env) (fun v s1 => wpAny (model X.prog X.w) X.A (pyIter v) (PIEH hd X pins σ tg R) X.xe s1) X.xe s
def ItrH (hd : Option Value) (lo : Int) (n : Nat) : It := ⟨fun i _ => i < n, fun i H x H' => H' = H ∧ x = .int (lo + i), fun i H => n ≤ i ∧ HdOk hd H⟩
theorem turn_rangeH {hd : Option Value} {P : Program} {w : World} {K : PySem.W.Frag} {tg : Expr} (it : Addr) (lo : Int) (n : Nat) : TurnH hd P w K tg (ItrH hd lo n) [it] it (fun i h => IsRangeIter h it (lo + (i : Nat) * 1) ((n : Int) - (i : Nat)) 1) where
  mem := by simp
  obj := fun i h st b hb => by
    have e : b = it := by simpa using hb
    subst e
    exact ⟨_, st, fun v z => by
      have z' : Data.fields _ = Data.cell v := z
      cases z'⟩
  keep := fun i h h' st k => k it (by simp) _ st
  item := by
    intro X hP hw hK hA i pins s σ H E I hf st hg
    subst hP hw hK
    obtain ⟨f0, f1, f2, f3, f4, f5⟩ := hf it (by simp)
    have hg' : i < n := hg
    refine wpAny_pyNext_range_item st (by omega) fun h' st' sb => ?_
    have I1 : Inv X pins σ H { s with heap := h', toks := s.toks + 1 } := I.turned (fun b o hb e => (sb.2 b hb).trans e) f0 f1 f3 f4 f5
    have st2 : IsRangeIter h' it (lo + ((i + 1 : Nat) : Int) * 1) ((n : Int) - ((i + 1 : Nat) : Int)) 1 := by
      have e1 : lo + ((i + 1 : Nat) : Int) * 1 = lo + (i : Int) * 1 + 1 := by push_cast; omega
      have e2 : (n : Int) - ((i + 1 : Nat) : Int) = (n : Int) - (i : Int) - 1 := by push_cast; omega
      rw [e1, e2]
      exact st'
    refine ⟨_, rfl, go_of (s := { s with heap := h', toks := s.toks + 1 }) (n := "range_iterator") st2 rfl rfl (by decide) ⟨.int (lo + i), H, I1, ⟨s.toks, ?_⟩, ⟨rfl, rfl⟩, st2, fun b hb => (hf b hb).1⟩⟩
    rw [Int.mul_one]
  done := by
    intro X hP hw hK hA i pins s σ H E I hf st hg
    subst hP hw hK
    obtain ⟨f0, f1, f2, f3, f4, f5⟩ := hf it (by simp)
    obtain ⟨hl, hk⟩ := hg
    cases hd with
    | none => exact wpAny_pyNext_range_end hA st (by omega) fun h' eb => ⟨rfl, I.turned (t' := s.toks) (fun b o hb e => eb b o hb e) f0 f1 f3 f4 f5⟩
    | some v =>
      obtain ⟨a, m, cls, dx, rfl, e⟩ := hk v rfl
      obtain ⟨⟨ox, vs, h1, h2, h3, h4, h6, h5⟩, _⟩ := (show ObjOk X.prog X.w H s.heap a (excB m a cls dx) from I.hok a _ e)
      exact range_endH hA h1 h4 h6 st (by omega) fun h' eb => ⟨rfl, I.turned (t' := s.toks) (fun b o hb e => eb b o hb e) f0 f1 f3 f4 f5⟩
  self := fun _ _ _ _ _ st h => wpAny_pyIter_rangeiter st h
def iRngH (hd : Option Value) (ta : TA) : TI := fun σ H R => ta σ H fun vs H1 => ∃ j : Int, vs = [.int j] ∧ -(2 ^ 62) ≤ j ∧ j < 2 ^ 62 ∧ R (ItrH hd 0 j.toNat) H1
section
variable {X : Cx} {tg : Expr} {hd : Option Value}
theorem range_itH {pins : List (Addr × Obj)} {σ : St} {H : Hp} {s : Shared} {R : It → Hp → Prop} {E : Value → Shared → Prop} {lo hi : Int} {t u v : Tok} {tk : Nat} (I : Inv X pins σ H s) (h1 : -(2 ^ 62) ≤ lo) (h2 : lo < 2 ^ 62) (h3 : -(2 ^ 62) ≤ hi) (h4 : hi < 2 ^ 62)
    (q : R (ItrH hd lo (hi - lo).toNat) H) : wpAny (model X.prog X.w) X.A (pyIter (.ref s.heap.objs.size)) (PIEH hd X pins σ tg R) E { s with heap := s.heap.push { cls := .type "range", data := .fields #[.int lo t, .int hi u, .int 1 v] }, toks := tk } := by
  refine wpAny_pyIter_range (IsRange.new ..) (small_one h1 h2 h3 h4) ?_
  have I1 : Inv X pins σ H { s with heap := s.heap.push { cls := .type "range", data := .fields #[.int lo t, .int hi u, .int 1 v] }, toks := tk } := I.kept fun b o e => Heap.get?_push_of_some _ e
  refine ⟨(s.heap.push { cls := .type "range", data := .fields #[.int lo t, .int hi u, .int 1 v] }).objs.size, [(s.heap.push { cls := .type "range", data := .fields #[.int lo t, .int hi u, .int 1 v] }).objs.size], _, _, H, rfl,
    I1.kept (t' := tk) fun b o e => Heap.get?_push_of_some _ e, turn_rangeH _ lo (hi - lo).toNat, ?_, fun b hb => ?_, q⟩
  · have e1 : lo + ((0 : Nat) : Int) * 1 = lo := by simp
    have e2 : (((hi - lo).toNat : Nat) : Int) - ((0 : Nat) : Int) = Builtin.Range.rangeSize lo hi 1 := by rw [rangeSize_one]; split <;> omega
    show IsRangeIter _ _ (lo + ((0 : Nat) : Int) * 1) ((((hi - lo).toNat : Nat) : Int) - ((0 : Nat) : Int)) 1
    rw [e1, e2]
    exact Heap.get?_push_size _ rfl
  · have e : b = (s.heap.push { cls := .type "range", data := .fields #[.int lo t, .int hi u, .int 1 v] }).objs.size := by simpa using hb
    subst e
    exact I1.fpOk (Nat.le_refl _) (I1.hok.fresh (Nat.le_refl _))
theorem pi_rangeH {a : Expr} {ta : TA} {p pos : Pos} (hg : Gl X "range") (hm : X.mg "range" = none) (ha : PA X [a] ta) (hs : starEach [a] X.env = [(false, eval a X.env)] := by rfl) : PIH hd X tg (.Call (.Name "range" p) [a] [] pos) (iRngH hd ta) := by
  intro pins s σ H R I h
  refine Call_ (ld_blt I hg hm boot_range (PyProof.Rows.callWith_type1 (thn (ha pos pins s σ H _ I h) fun us s1 ⟨vs, H1, I1, r1, q1⟩ => ?_) hs rfl))
  obtain ⟨j, e, q1, q2, q⟩ := q1
  subst e
  cases r1 with
  | cons r rr =>
    cases rr
    obtain ⟨t, rfl⟩ := r
    exact call_range_1 (range_itH I1 (by omega) (by omega) q1 q2 (by simpa using q))
end
section
variable {X : Cx} {scope : Scope} {cl : List (Str × Addr)} {own : Str} {ys : List Str} {js : List Nat} {elt iter : Expr} {px pos : Pos} {wi : TI} {te : TE} {hd : Option Value}
theorem ps_compH {i : Nat} {y : Str} {py spos : Pos} (hN : X.N.Nodup) (hi' : X.N[i]? = some y) (hy : X.env.scope.names.lookup y = some .local) (hA : X.A.handled = hd) (ok : CompOk X scope cl own ys js) (hi : PIH hd X (.Name own px) iter wi)
    (he : ∀ (C : Addr) (fp : List Addr) (s : Shared) (H : Hp), PE (X.block scope cl C (own :: ys) own fp s H) elt te)
    (hsw : swapsWith (.ListComp elt [⟨.Name own px, iter, [], 0⟩] scope pos) (some (.Name y py)) spos.line X.env = pure true := by rfl) (hs : ∀ x, foldedSetIterable iter X.env x = pure x := by intro _; rfl) :
    PS X (.Assign [.Name y py] (.ListComp elt [⟨.Name own px, iter, [], 0⟩] scope pos) spos) (tAsg (tComp wi js te) (gName i)) := by
  intro pins s σ H D I h
  have ncell : ∀ y ∈ scope.names, y.2 ≠ .cell := fun y hy z => by
    have q := List.all_eq_true.mp ok.nocell y hy
    rw [z] at q
    simp at q
  have nloc : ∀ y ∈ scope.names, y.2 = .local → scope.names.lookup y.1 = some .local := fun y hy z => by
    have q := List.all_eq_true.mp ok.loc y hy
    rw [z] at q
    simpa using q
  show wpAny _ _ (exec _ X.env) _ _ _
  rw [exec_Assign_Name_used _ _ _ _ hsw]
  refine wpAny_bind (wpAny_standAt (wpAny_bind ?_))
  show wpAny _ X.A (do let _ ← comprehension (.ListComp elt [⟨.Name own px, iter, [], 0⟩] scope pos) scope X.env _ (newList []) false (eval iter X.env) (some (assign (.Name y py) X.env))) _ _ s
  refine wpAny_bind (wpAny_mono (wpAny_comprehension_free (use := some (assign (.Name y py) X.env)) (Q := fun _ s' => SP X pins D .next s') rfl hs ok.clos ok.kind nloc (thn (hi pins s σ H _ I h) fun v s1 h1 => thn h1 fun itv s2 h2 => ?_)) (fun _ s' hq => wpAny_pure (wpAny_pure hq)) fun _ _ e => e)
  obtain ⟨it, fp, tn, J, H2, rfl, I2, T, st2, f2, q2⟩ := h2
  obtain ⟨W, ⟨m0, w0⟩, turn⟩ := q2 s2.heap.objs.size (I2.hok.fresh (Nat.le_refl _))
  refine wpAny_newObj_type (wpAny_newFunctionEnv ncell (by intro y hy; simp at hy) (fun h1 hns hsb => ?_) ok.kind)
  have I3 := I2.laid (a := s2.heap.objs.size) (o := .lst []) (h' := s2.heap.push { cls := .type "list", dict := none, data := .seq ([] : List Value).toArray }) (t' := s2.toks) (fun b u q => Heap.get?_push_of_some _ q) (Nat.le_refl _)
    ⟨Nat.zero_le _, [], 0, .nil, Heap.get?_push_size _ rfl⟩
  have fpo : ∀ b ∈ fp, b < s2.heap.objs.size := fun b hb => by
    obtain ⟨o, e, _⟩ := T.obj 0 _ st2 b hb
    exact Heap.lt_size e
  have f3 : ∀ b ∈ fp, FpOk X pins (upd H2 s2.heap.objs.size (.lst [])) b := fun b hb => ⟨by rw [upd_ne (Nat.ne_of_lt (fpo b hb))]; exact (f2 b hb).1, (f2 b hb).2⟩
  generalize hs3 : ({ s2 with heap := s2.heap.push { cls := .type "list", dict := none, data := .seq ([] : List Value).toArray }, toks := s2.toks } : Shared) = s3 at I3
  have e3 : s3.heap = s2.heap.push { cls := .type "list", dict := none, data := .seq ([] : List Value).toArray } := by rw [← hs3]
  have lt3 : ∀ b ∈ fp, b < s3.heap.objs.size := fun b hb => by rw [e3, Heap.size_push]; exact Nat.lt_succ_of_lt (fpo b hb)
  dsimp only at hns hsb ⊢
  rw [← e3] at hns hsb
  have hk : ∀ b o, s3.heap.get? b = some o → h1.get? b = some o := fun b o e => hsb.extBut b o (Nat.ne_of_lt (Heap.lt_size e)) (Heap.get?_push_of_some _ e)
  have J0 := block_start (h1 := h1) ok I3 f3 lt3 hns hk (s2.toks + 0)
  have t0 : tn 0 h1 := T.keep 0 _ _ st2 fun b hb o e => hk b o (by rw [e3]; exact Heap.get?_push_of_some _ e)
  have fpB : ∀ {H' : Hp}, (∀ b ∈ fp, H' b = none) → ∀ b ∈ fp, FpOk (X.block scope cl s3.heap.objs.size (own :: ys) own fp s3 (upd H2 s2.heap.objs.size (.lst []))) [] H' b := fun {H'} hn b hb =>
    ⟨hn b hb, Nat.ne_of_lt (lt3 b hb), fun z => (List.mem_cons.mp (I3.stkSub b z)).elim (f3 b hb).2.1 (f3 b hb).2.2.1, .inl hb, fun x c e => (f3 b hb).2.2.2.2.1 x c (ok.sub (x, c) (PySem.mem_of_lookup e)), fun p hp => absurd (show p ∈ ([] : List (Addr × Obj)) from hp) (by simp)⟩
  have loop : codeAny (model X.prog X.w) X.A (.compLoop (.ListComp elt [⟨.Name own px, iter, [], 0⟩] scope pos) 0 (.ref it) (.ref s2.heap.objs.size) (compEnvC scope cl s3.heap.objs.size X.env))
      (compPost (model X.prog X.w) X.A X.xe (some (assign (.Name y py) X.env)) (fun _ s' => SP X pins D .next s') (.ref s2.heap.objs.size) s3.heap.objs.size) { s3 with heap := h1, toks := s2.toks + 0 } := by
    refine compLoop_own (fun n s' => ∃ i zs o0 H', Inv (X.block scope cl s3.heap.objs.size (own :: ys) own fp s3 (upd H2 s2.heap.objs.size (.lst []))) [] (o0 :: freesOf js σ) H' s' ∧ tn i s'.heap ∧ (∀ b ∈ fp, H' b = none) ∧ W i n zs H') ?_ m0
      ⟨0, [], none, _, J0, t0, fun b hb => (f3 b hb).1, w0⟩
    rintro n s5 ⟨i, zs, o0, H5, I5, t5, n5, w5⟩
    obtain ⟨hD, hw⟩ := turn i n zs H5 w5
    rcases hw with ⟨stop, qn⟩ | ⟨go, hz, step⟩
    · refine thn (T.done (X.block scope cl s3.heap.objs.size (own :: ys) own fp s3 (upd H2 s2.heap.objs.size (.lst []))) rfl rfl rfl hA i [] s5 _ H5 (fun _ _ => False) I5 (fpB n5) t5 stop) fun r s6 ⟨hr, I6⟩ => ?_
      subst hr
      obtain ⟨m, hn, _⟩ := id I6.loc
      have J : Inv X pins σ H5 s6 := block_end (h' := s6.heap) I3 f3 I6 (Heap.SameBut.refl _ _)
      have fC := I3.fpOk (Nat.le_refl _) (show H5 s3.heap.objs.size = none from I6.free)
      obtain ⟨k0, k1, k2, k3, k4, k5⟩ := fC
      show wpAny _ X.A (assign (.Name y py) X.env (.ref s2.heap.objs.size)) _ _ _
      refine wpAny_assign_Name (store_ok2 (v := .ref s2.heap.objs.size) J hN hi' (.inl hy) rfl (fun s7 I7 hsb => ?_) (.inr hy))
      obtain ⟨a', sb, ha⟩ := hsb
      have ne : s3.heap.objs.size ≠ a' := by
        rcases ha with z | z
        · rw [z]; exact k1
        · exact fun w => k4 _ _ z w.symm
      exact ⟨m, hn.sameBut sb ne, fun h' hs' => ⟨_, H5, I7.turned (t' := s7.toks) (fun b o hb e => (hs'.2 b hb).trans e) k0 k1 k3 k4 k5, qn⟩⟩
    · refine thn (T.item (X.block scope cl s3.heap.objs.size (own :: ys) own fp s3 (upd H2 s2.heap.objs.size (.lst []))) rfl rfl rfl hA i [] s5 _ H5 (fun _ _ => False) I5 (fpB n5) t5 go) fun r s6 ⟨u, hr, h6⟩ => ?_
      subst hr
      refine thn h6 fun _ s7 ⟨x, H7, I7, r7, y7, t7, n7⟩ => ?_
      have I7' := I7.pinned (fpB n7) (T.obj _ _ t7)
      have hst := step x H7 y7
      have own' : (relabel scope X.env).names.lookup own = some .local := lookup_relabel_local ok.ownL
      refine thn (pg_name (X := X.block scope cl s3.heap.objs.size (own :: ys) own fp s3 (upd H2 s2.heap.objs.size (.lst []))) (i := 0) (x := own) (pos := px) ok.nd rfl (.inl own') (.inr own') _ s7 _ H7 x u (fun σ' H' => σ' = some x :: freesOf js σ ∧ H' = H7) I7' r7 ⟨rfl, rfl⟩) fun _ s8 ⟨σ8, H8, I8, e8, eH8⟩ => ?_
      subst e8 eH8
      refine thn (he _ _ _ _ _ s8 _ H8 _ I8 hst) fun yv s9 ⟨y, H9, I9, r9, hD9, m', hm, w9⟩ => ?_
      refine thn (mt_append _ s9 _ H9 (.ref s2.heap.objs.size) [y] (.ref s2.heap.objs.size) [yv] (fun _ H' => H' = upd H9 s2.heap.objs.size (.lst (zs ++ [y]))) I9 rfl (.cons r9 .nil) ⟨_, zs, y, rfl, rfl, hD9, hz, rfl⟩) fun _ s10 ⟨_, H10, I10, _, e10⟩ => ?_
      subst e10
      refine ⟨m', hm, i + 1, zs ++ [y], some x, _, I10.unpinned, T.keep _ _ _ t7 fun b hb o e => (I10.pin (b, o) (List.mem_append_right _ (List.mem_append_right _ (mem_pinsAt hb e)))).1, fun b hb => ?_, w9⟩
      obtain ⟨o, e, d⟩ := T.obj _ _ t7 b hb
      exact (I10.pin (b, o) (List.mem_append_right _ (List.mem_append_right _ (mem_pinsAt hb e)))).2.1
  subst hs3
  exact codeAny_compStart_list loop (T.self _ 0 _ _ _ t0 loop)
end
/-! ### an except suite whose reading knows the exception -/
def tHasA (K : PySem.W.Frag) (C' : Addr) (i : Nat) (t : Addr → TS) (r : TH) : TH := fun D σ cls dx H a => ∃ C b, cls = .ref C ∧ PySem.W.subIn K (.ref C) (.ref C') = some b ∧
  if b = true then t a (offE i D) (σ.set i (some (.ref a))) (upd H a (excO a cls dx)) else r D σ cls dx H a
section
variable {X : Cx} {x n : Str} {np pos : Pos} {b0 : Stmt} {suite : List Stmt} {rest : List ExceptHandler} {i : Nat} {C' : Addr} {tA : Addr → TS} {th : TH}
theorem ph_asA (T : XT X.K C') (hg : Gl X x) (hm : X.mg x = some (.ref C')) (hN : X.N.Nodup) (hi : X.N[i]? = some n) (hloc : X.env.scope.names.lookup n = some .local)
    (hs : ∀ (pins : List (Addr × Obj)) (a : Addr), PSs (X.suite pins a) (b0 :: suite) (tA a)) (hrest : PH X rest th) (hd : (x == ("__debug__" : Str)) = false := by decide) :
    PH X (.ExceptHandler (some (.Name x np)) (some n) (b0 :: suite) pos :: rest) (tHasA X.K C' i tA th) := by
  intro pins σ H0 s0 D a H' cls v dx s' I c h
  obtain ⟨C, b, rfl, hsub, h⟩ := h
  have J : Inv X pins σ H' s' := I.call' c.os c.un c.hok c.bare (fun b z => absurd z (by simp))
  obtain ⟨oe, vs, he, hc, _, _, _⟩ := c.xo.ex
  refine wpAny_handleBy_cons (codeAny_handlers_test (ld_glob (X := X.suite pins a) (J.insuite a) hg hm ?_ hd)) (by intro q; cases q)
  have KX := J.kIn
  obtain ⟨hh, g, d, tk, os⟩ := s'
  refine matches_ok KX he hc T hsub ?_
  cases b with
  | false => exact hrest pins σ H0 s0 D a H' _ v dx _ I c h
  | true =>
    refine codeAny_handlers_suite_as ?_
    refine c.flight I.stack I.stkFree fun s2 c2 => ?_
    have J2 := (c2.caught I).insuite a
    refine store_ok (X := X.suite pins a) (v := V.ref a) J2 hN hi (.inl hloc) (show RelV (V.ref a) (Value.ref a) from rfl) (fun s3 I3 => ?_) (.inr hloc)
    refine wpAny_mono (hs pins a [] s3 _ _ _ I3 h) (fun f s4 q => ?_) fun _ _ z => z.elim
    exact gone_ok I.ok hN hi hloc q
end
/-! ### calls, whatever is handled -/
structure RoomH (hd : Option Value) (k : Nat) (A : Around) : Prop where
  hd : A.handled = hd
  dp : A.depth + 3 * k + 5 < recursionLimit
  un : A.units + 16 * k + 200 < cLine
theorem RoomH.mono {hd : Option Value} {j k : Nat} {A : Around} (r : RoomH hd k A) (h : j ≤ k) : RoomH hd j A := ⟨r.hd, by have := r.dp; omega, by have := r.un; omega⟩
theorem RoomH.deeper {hd : Option Value} {k : Nat} {A : Around} (r : RoomH hd (k + 1) A) (env : Env) : RoomH hd k (A.deeper env) :=
  ⟨r.hd, by have := r.dp; show A.depth + 1 + 3 * k + 5 < _; omega, by have := r.un; show A.units + 3 + 16 * k + 200 < _; omega⟩
theorem RoomH.depth {hd : Option Value} {k : Nat} {A : Around} (r : RoomH hd k A) : A.depth < recursionLimit := by have := r.dp; omega
theorem Room.h {k : Nat} {A : Around} (r : Room k A) : RoomH none k A := ⟨r.hd, r.dp, r.un⟩
theorem Room.suite {k : Nat} {A : Around} (r : Room k A) (v : Value) : RoomH (some v) k (A.mark (some v)) := ⟨rfl, r.dp, r.un⟩
structure FnH (hd : Option Value) (P : Program) (w : World) (K : PySem.W.Frag) (mg : Str → Option Value) (base : Heap) (k : Nat) (f : Addr) (fd : FuncData) (ps : List Str) (sp : Sp) : Prop where
  len : ∀ vs H Q E, sp vs H Q E → vs.length = ps.length
  run : ∀ (A : Around) (outer : List Env) (s : Shared) (H : Hp) (args : Args) (us : List Value) (vs : List V) (Q : VK) (E : XK), RoomH hd k A → Env0 P w K mg base A outer s H → BindsTo s fd args (ps.zip us) → Vals vs us → sp vs H Q E →
    codeAny (model P w) A (.call (.ref f) args) (CR CX0 outer P w H s Q E) s
section
variable {P : Program} {w : World} {K : PySem.W.Frag} {mg : Str → Option Value} {base : Heap} {hd : Option Value}
theorem FnH.calm {k : Nat} {f : Addr} {fd : FuncData} {ps : List Str} {sp : Sp} (F : FnH none P w K mg base k f fd ps sp) : FnOk P w K mg base CX0 k f fd ps sp :=
  ⟨F.len, fun A outer s H args us vs Q E hr => F.run A outer s H args us vs Q E hr.h⟩
def cxH (hd : Option Value) (P : Program) (w : World) (K : PySem.W.Frag) (mg : Str → Option Value) (base : Heap) (N : List Str) (qual : Str) (scope : Scope) (f : Addr) (cd : Value) (A : Around) (outer : List Env) (s : Shared) (H : Hp) (E : XK) : Cx :=
  { cxOf CX0 P w K mg base N qual scope f cd A outer s H E with calm := hd.isNone }
theorem inv_startH {N ps : List Str} {qual : Str} {scope : Scope} {f : Addr} {cd : Value} {A : Around} {outer : List Env} {s s1 : Shared} {H : Hp} {E : XK} {us : List Value} {vs : List V}
    (S : FnScope N ps scope) (hA : A.handled = hd) (e0 : Env0 P w K mg base A outer s H) (hl : vs.length = ps.length) (r : Vals vs us)
    (x : InCallC s s.heap.objs.size (bindL (envOfC qual scope s.heap.objs.size f cd).kindOf (ps.zip us) fun _ => none) (cellsFrom (s.heap.objs.size + 1) scope.names []) (bindC (envOfC qual scope s.heap.objs.size f cd).kindOf (ps.zip us) fun _ => none) s1) :
    Inv (cxH hd P w K mg base N qual scope f cd A outer s H E) [] (start N vs) H s1 := by
  have e0' : Env0 P w K mg base { A with handled := none } outer s H := ⟨e0.frames, e0.mod, e0.bs, e0.bsz, e0.funs, e0.frf, e0.hok, e0.bare⟩
  have I := inv_start (CX := CX0) (E := E) S (A := { A with handled := none }) rfl e0' hl r x
  have hh : (cxH hd P w K mg base N qual scope f cd A outer s H E).calm = true → (cxH hd P w K mg base N qual scope f cd A outer s H E).A.handled = none := fun z => by
    cases hd with
    | none => exact hA
    | some v => cases (show false = true from z)
  exact ⟨⟨I.ok.mod, I.ok.kind, I.ok.glob, I.ok.blt, I.ok.above, I.ok.inj, I.ok.has, I.ok.cab, hh, I.ok.frames, I.ok.stk, I.ok.exf, I.ok.bs, I.ok.bsz, I.ok.noex, I.ok.exfs, I.ok.funs, I.ok.frf⟩,
    I.os, I.bare, I.base, I.loc, I.cell, I.free, I.freeC, I.pin, I.hok, I.len⟩
theorem fn_ofH {k : Nat} {f : Addr} {name qual : Str} {params : Arguments} {body : List Stmt} {scope : Scope} {dV kV doc pm cdv ct oc : Value} {an od : Option Addr}
    {osl : Array (Option Value)} {N ps : List Str} {sp : Sp} (lk : K.lookup f = some ⟨oc, od, .func (PySem.W.fnOf name qual params body scope dV kV doc pm an cdv ct), osl⟩) (hcd : PySem.W.codeIn K cdv qual = true) (S : FnScope N ps scope)
    (len : ∀ vs H Q E, sp vs H Q E → vs.length = ps.length)
    (hbody : ∀ (A : Around) (outer : List Env) (s : Shared) (H : Hp) (vs : List V) (Q : VK) (E : XK), RoomH hd k (A.deeper (envOfC qual scope s.heap.objs.size f cdv)) → sp vs H Q E →
      ∃ t, PSs (cxH hd P w K mg base N qual scope f cdv A outer s H E) body t ∧ t { nx := fun _ H' => Q .non H', rt := Q } (start N vs) H) :
    FnH hd P w K mg base (k + 1) f (PySem.W.fnOf name qual params body scope dV kV doc pm an cdv ct) ps sp := by
  refine ⟨len, fun A outer s H args us vs Q E hr e0 hb r hsp => ?_⟩
  have hl := len _ _ _ _ hsp
  have KX : K.In s.heap := e0.mod.kin.keeps fun b o e => (e0.bs b o e).1
  have lim : s.heap.NoLimit := e0.mod.nolimit.keeps fun b o e => (e0.bs b o e).1
  have hkind : ∀ y ∈ ps.zip us, scope.names.lookup y.1 = some .local ∨ (scope.names.lookup y.1 = some .cell ∧ ((cellsFrom (s.heap.objs.size + 1) scope.names []).lookup y.1).isSome = true) := fun ⟨n, v⟩ hy => by
    rcases S.par n (List.of_mem_zip hy).1 with q | q
    · exact .inl q
    · exact .inr ⟨q, PySem.W.cellsFrom_some _ _ _ (.inl q)⟩
  refine codeAny_call_function hr.depth (KX _ _ lk) rfl S.co S.gen rfl (PySem.W.codeRec_of KX hcd) (hb _ _ _ _ ?_)
  refine wpAny_newFunctionEnv_cells S.kind hkind fun env he s1 x => ?_
  subst he
  refine ⟨lim.keeps x.toInCall.keep, codeAny_func ?_⟩
  obtain ⟨t, ht, hq⟩ := hbody A outer s H vs Q E (hr.deeper _) hsp
  have I : Inv (cxH hd P w K mg base N qual scope f cdv A outer s H E) [] (start N vs) H s1 := inv_startH S hr.hd e0 hl r x
  refine wpAny_mono (ht [] s1 (start N vs) H _ I hq) (fun fl s' hs => ?_) fun e s' hs => hs
  have fin : ∀ {σ' : St} {H' : Hp} {v : V} {u : Value}, Inv (cxH hd P w K mg base N qual scope f cdv A outer s H E) [] σ' H' s' → RelV v u → Q v H' → CE outer P w H s Q u s' :=
    fun {σ' H' v u} J rv q => ⟨v, H', J.os, J.bare, J.base, J.hok, rv, q⟩
  cases fl with
  | ret u =>
    obtain ⟨v, σ', H', J, rv, q⟩ := hs
    exact fin J rv q
  | next =>
    obtain ⟨σ', H', J, q⟩ := hs
    exact fin (v := V.non) (u := Value.none) J rfl q
  | brk =>
    obtain ⟨_, _, _, q⟩ := hs
    exact False.elim q
  | cont =>
    obtain ⟨_, _, _, q⟩ := hs
    exact False.elim q
end
section
variable {X : Cx} {k : Nat} {f : Addr} {fd : FuncData} {ps : List Str} {sp : Sp} {dvs : List V} {ds : List Value} {x : Str} {p pos : Pos} {e : Expr} {es : List Expr} {t : TA} {hd : Option Value}
theorem run_fnH {pins : List (Addr × Obj)} {σ : St} {H : Hp} {s : Shared} {Q : VK} {us : List Value} {vs : List V} (F : FnH hd X.prog X.w X.K X.mg X.base k f fd ps sp) (hr : RoomH hd k X.A) (hb : Binds X.K fd ps ds) (hv : Vals dvs ds)
    (I : Inv X pins σ H s) (r : Vals vs us) (h : sp (vs ++ dvs) H Q E0) : wpAny (model X.prog X.w) X.A (call (.ref f) us) (EP X pins σ Q) X.xe s := by
  have r2 : Vals (vs ++ dvs) (us ++ ds) := r.append hv
  have hl : (us ++ ds).length = ps.length := by rw [← r2.length]; exact F.len _ _ _ _ h
  refine wpAny_call (codeAny_mono (F.run X.A X.stack s H ⟨us, []⟩ (us ++ ds) (vs ++ dvs) Q E0 hr I.env0 (hb s us I.kIn hl) r2 h) fun r s' hq => ?_)
  cases r with
  | error e => exact False.elim hq
  | ok fl =>
    cases fl with
    | ret u => exact I.after hq
    | next => exact False.elim hq
    | brk => exact False.elim hq
    | cont => exact False.elim hq
theorem pe_callH (F : FnH hd X.prog X.w X.K X.mg X.base k f fd ps sp) (hr : RoomH hd k X.A) (hg : Gl X x) (hm : X.mg x = some (.ref f)) (hk : PySem.W.keepIn X.K (.ref f) = true) (hb : Binds X.K fd ps ds) (hv : Vals dvs ds)
    (ha : PA X (e :: es) t) (hdb : (x == ("__debug__" : Str)) = false := by decide) (he : starEach (e :: es) X.env = (false, eval e X.env) :: starEach es X.env := by rfl) (hpl : (backTo pos (starEach es X.env)).any (·.1) = false := by rfl) :
    PE X (.Call (.Name x p) (e :: es) [] pos) (tCall sp dvs E0 t) := by
  intro pins s σ H Q I h
  refine wpAny_Call_Name_kw (ld_glob I hg hm ?_ hdb)
  refine PySem.W.callWith_K (h₀ := X.base) I.ok.mod.kin hk (thn (ha pos pins s σ H _ I h) fun us s1 ⟨vs, H1, I1, r, q⟩ => ⟨I1.kIn, ?_⟩) he hpl
  exact run_fnH F hr hb hv I1 r q
end
end L2
set_option Elab.async false
set_option linter.all false
set_option maxRecDepth 100000
namespace Sw
open PySem L2 XH
/-- a def as its callers see it -/
structure Dx (P : Program) (w : World) (K : PySem.W.Frag) (mg : Str → Option Value) (base : Heap) (CX : CXT) (k : Nat) (x : Str) (ps : List Str) (dvs : List V) (sp : Sp) where
  f : Addr
  fd : FuncData
  ok : FnOk P w K mg base CX k f fd ps sp
  m : mg x = some (.ref f)
  q : PySem.W.keepIn K (.ref f) = true
  b : Binds K fd ps []
  bd : ∃ ds, Binds K fd ps ds ∧ Vals dvs ds
def Dx.calm {P : Program} {w : World} {K : PySem.W.Frag} {mg : Str → Option Value} {base : Heap} {k : Nat} {x : Str} {ps : List Str} {dvs : List V} {sp sp0 : Sp} (D : Dx P w K mg base (CX1 P w) k x ps dvs sp) (h : ∀ vs H Q E, sp0 vs H Q E → sp vs H Q E0) : Dx P w K mg base CX0 k x ps dvs sp0 :=
  ⟨D.f, D.fd, D.ok.noraise h, D.m, D.q, D.b, D.bd⟩
section
variable {X : Cx} {k j : Nat} {x : Str} {ps : List Str} {sp : Sp} {p pos : Pos} {e : Expr} {es : List Expr} {t : TA} {dvs : List V} {E : St → XK}
theorem pcall0 (D : Dx X.prog X.w X.K X.mg X.base CX0 k x ps dvs sp) (hr : Room j X.A) (hk : k ≤ j) (hg : Gl X x) (ha : PA X (e :: es) t) (hdb : (x == ("__debug__" : Str)) = false := by decide)
    (he : starEach (e :: es) X.env = (false, eval e X.env) :: starEach es X.env := by rfl) (hpl : (backTo pos (starEach es X.env)).any (·.1) = false := by rfl) :
    PE X (.Call (.Name x p) (e :: es) [] pos) (tCall sp [] E0 t) :=
  pe_call D.ok (hr.mono hk) hg D.m D.q D.b .nil pass0 ha hdb he hpl
theorem pcall1 (D : Dx X.prog X.w X.K X.mg X.base (CX1 X.prog X.w) k x ps dvs sp) (hr : Room j X.A) (hk : k ≤ j) (hg : Gl X x) (hx : PassX X E) (ha : PA X (e :: es) t) (hdb : (x == ("__debug__" : Str)) = false := by decide)
    (he : starEach (e :: es) X.env = (false, eval e X.env) :: starEach es X.env := by rfl) (hpl : (backTo pos (starEach es X.env)).any (·.1) = false := by rfl) :
    PE X (.Call (.Name x p) (e :: es) [] pos) (tCallX sp [] E t) :=
  pe_callX D.ok (hr.mono hk) hg D.m D.q D.b .nil hx ha hdb he hpl
end
theorem FunD.okX {P : Program} {w : World} {K : PySem.W.Frag} {mg : Str → Option Value} {base : Heap} {x qual : Str} {st : Stmt} {dV : Value} {f : Addr} {fd : FuncData} {N ps : List Str} {k : Nat} {sp : Sp} (F : FunD K x qual st dV f fd) (S : FnScope N ps (defScope st)) (len : ∀ vs H Q E, sp vs H Q E → vs.length = ps.length)
    (hbody : ∀ (cdv : Value) (A : Around) (outer : List Env) (s : Shared) (H : Hp) (vs : List V) (Q : VK) (E : XK), Room k (A.deeper (PyProof.Rows.envOfC qual (defScope st) s.heap.objs.size f cdv)) → sp vs H Q E →
      ∃ t, PSs ((cxOf (CX1 P w) P w K mg base N qual (defScope st) f cdv A outer s H E).wish (XS (cxOf (CX1 P w) P w K mg base N qual (defScope st) f cdv A outer s H E) fun _ => E)) (defBody st) t ∧ t { nx := fun _ H' => Q .non H', rt := Q } (start N vs) H) : FnOk P w K mg base (CX1 P w) (k + 1) f fd ps sp := by
  obtain ⟨oc, od, kV, doc, pm, an, cdv, ct, osl, rfl, lk, hcd⟩ := F.ex
  exact fn_ofX lk hcd S len fun A outer s H vs Q E hr hsp => hbody cdv A outer s H vs Q E hr hsp
end Sw
set_option Elab.async false
set_option linter.all false
set_option maxRecDepth 100000
namespace Sw
open PySem L2 XH
end Sw
set_option Elab.async false
set_option linter.all false
set_option maxRecDepth 100000
namespace L2
open PySem PySem.Spec PyProof.Rows XH
theorem call_isiT {X : Cx} {K : PySem.W.Frag} (hK : X.K = K) : CallR X (.builtin "isinstance") (fun xs H Q => ∃ x t T b, xs = [x, .ty T] ∧ TyOf K H x t ∧ PySem.W.kitOne K t (.type T) = some b ∧ Q (.bl b) H) := by
  subst hK
  intro pins s σ H xs us Q I r h
  obtain ⟨x, t, T, b, rfl, ty, e, q⟩ := h
  obtain ⟨u, w', rfl, e1, e2⟩ := vals2 r
  cases e2
  exact isinst_ok I e1 ty e fun tk => ⟨.bl b, H, I.tok tk, rfl, q⟩
end L2
namespace Sw
open PySem L2 XH
/-! ### whatever is handed in: is it a whole number, is it a fraction -/
section
variable {K : PySem.W.Frag} {H : Hp}
end
end Sw
set_option Elab.async false
set_option linter.all false
set_option maxRecDepth 100000
namespace L2
open PySem PySem.Spec PyProof.Rows XH
end L2
set_option Elab.async false
set_option linter.all false
set_option maxRecDepth 100000
namespace Sw
open PySem L2 XH PyProof.Rows
/-! ### defs that are called from a handler too, and refusals' __init__ -/
structure DxH (hd : Option Value) (P : Program) (w : World) (K : PySem.W.Frag) (mg : Str → Option Value) (base : Heap) (k : Nat) (x : Str) (ps : List Str) (sp : Sp) where
  f : Addr
  fd : FuncData
  ok : FnH hd P w K mg base k f fd ps sp
  m : mg x = some (.ref f)
  q : PySem.W.keepIn K (.ref f) = true
  b : Binds K fd ps []
def DxH.calm {P : Program} {w : World} {K : PySem.W.Frag} {mg : Str → Option Value} {base : Heap} {k : Nat} {x : Str} {ps : List Str} {sp : Sp} (D : DxH none P w K mg base k x ps sp) : Dx P w K mg base CX0 k x ps [] sp :=
  ⟨D.f, D.fd, D.ok.calm, D.m, D.q, D.b, ⟨[], D.b, .nil⟩⟩
structure DxI (P : Program) (w : World) (K : PySem.W.Frag) (mg : Str → Option Value) (base : Heap) (k : Nat) (C : Addr) (ps : List Str) (sp : Sp) where
  f : Addr
  fd : FuncData
  ok : FnOk P w K mg base CX0 k f fd ps sp
  ci : XCi K C f
  b : Binds K fd ps []
section
variable {X : Cx} {k j : Nat} {x : Str} {ps : List Str} {sp : Sp} {p np pos cpos : Pos} {e : Expr} {es : List Expr} {t : TA} {hd : Option Value} {C : Addr} {E : L2.St → XK}
theorem pcallH (D : DxH hd X.prog X.w X.K X.mg X.base k x ps sp) (hr : RoomH hd j X.A) (hk : k ≤ j) (hg : Gl X x) (ha : PA X (e :: es) t) (hdb : (x == ("__debug__" : Str)) = false := by decide)
    (he : starEach (e :: es) X.env = (false, eval e X.env) :: starEach es X.env := by rfl) (hpl : (backTo pos (starEach es X.env)).any (·.1) = false := by rfl) :
    PE X (.Call (.Name x p) (e :: es) [] pos) (tCall sp [] E0 t) :=
  pe_callH D.ok (hr.mono hk) hg D.m D.q D.b .nil ha hdb he hpl
theorem praiseI (D : DxI X.prog X.w X.K X.mg X.base k C ps sp) (hr : Room j X.A) (hk : k + 1 ≤ j) (hg : Gl X x) (hm : X.mg x = some (.ref C)) (hc : X.calm = true) (hp : PassX X E) (ha : PA X (e :: es) t) (hdb : (x == ("__debug__" : Str)) = false := by decide)
    (he : starEach (e :: es) X.env = (false, eval e X.env) :: starEach es X.env := by rfl) (hpl : (backTo cpos (starEach es X.env)).any (·.1) = false := by rfl) :
    PS X (.Raise (some (.Call (.Name x np) (e :: es) [] cpos)) none pos) (tRaiseI C sp E t) :=
  ps_raiseI D.ci D.ok (hr.mono hk) hg hm D.b hc hp ha hdb he hpl
end
theorem FunD.okH {hd : Option Value} {P : Program} {w : World} {K : PySem.W.Frag} {mg : Str → Option Value} {base : Heap} {x qual : Str} {st : Stmt} {dV : Value} {f : Addr} {fd : FuncData} {N ps : List Str} {k : Nat} {sp : Sp} (F : FunD K x qual st dV f fd) (S : FnScope N ps (defScope st)) (len : ∀ vs H Q E, sp vs H Q E → vs.length = ps.length)
    (hbody : ∀ (cdv : Value) (A : Around) (outer : List Env) (s : Shared) (H : Hp) (vs : List V) (Q : VK) (E : XK), RoomH hd k (A.deeper (envOfC qual (defScope st) s.heap.objs.size f cdv)) → sp vs H Q E →
      ∃ t, PSs (cxH hd P w K mg base N qual (defScope st) f cdv A outer s H E) (defBody st) t ∧ t { nx := fun _ H' => Q .non H', rt := Q } (start N vs) H) : FnH hd P w K mg base (k + 1) f fd ps sp := by
  obtain ⟨oc, od, kV, doc, pm, an, cdv, ct, osl, rfl, lk, hcd⟩ := F.ex
  exact fn_ofH lk hcd S len fun A outer s H vs Q E hr hsp => hbody cdv A outer s H vs Q E hr hsp
theorem hdSame {hd : Option Value} {H H' : Hp} (h : HdOk hd H) (g : Same H H') : HdOk hd H' := fun v e => by
  obtain ⟨a, n, cls, dx, e1, e2⟩ := h v e
  exact ⟨a, n, cls, dx, e1, g _ _ e2⟩
theorem sUpd {H H' : Hp} {p : Addr} (g : Same H H') (h : H p = none) (o : HO) : Same H (upd H' p o) := fun b u q => by
  rw [upd_ne (ne_of_none q h)]
  exact g b u q
def CompAt (X : Cx) (scope : Scope) (ys : List Str) (js : List Nat) : Prop := ∀ (i : Nat) (y : Str), ys[i]? = some y → ∃ j : Nat, js[i]? = some j ∧ X.N[j]? = some y ∧ (X.env.scope.names.lookup y = some .cell ∨ X.env.scope.names.lookup y = some .free) ∧ ((relabel scope X.env).names.lookup y = some .cell ∨ (relabel scope X.env).names.lookup y = some .free)
theorem atn {X : Cx} {scope : Scope} : CompAt X scope [] [] := fun i y h => by simp at h
theorem atc {X : Cx} {scope : Scope} {ys : List Str} {js : List Nat} {y : Str} {j : Nat} (t : CompAt X scope ys js) (h1 : X.N[j]? = some y := by rfl) (h2 : X.env.scope.names.lookup y = some .cell ∨ X.env.scope.names.lookup y = some .free := by first | exact Or.inl rfl | exact Or.inr rfl)
    (h3 : (relabel scope X.env).names.lookup y = some .cell ∨ (relabel scope X.env).names.lookup y = some .free := by first | exact Or.inl rfl | exact Or.inr rfl) : CompAt X scope (y :: ys) (j :: js) := fun i z h => by
  cases i with
  | zero =>
    cases h
    exact ⟨j, rfl, h1, h2, h3⟩
  | succ i => exact t i z h
/-- the names that a comprehension takes from around -/
inductive Subs (X : Cx) : List (Str × Addr) → Prop where
  | nil : Subs X []
  | cons {y : Str} {c : Addr} {cl : List (Str × Addr)} (h : X.env.cells.lookup y = some c) (t : Subs X cl) : Subs X ((y, c) :: cl)
theorem Subs.all {X : Cx} {cl : List (Str × Addr)} (h : Subs X cl) : ∀ p ∈ cl, X.env.cells.lookup p.1 = some p.2 := by
  induction h with
  | nil => intro p hp; simp at hp
  | cons h _ ih =>
    intro p hp
    rcases List.mem_cons.mp hp with e | e
    · rw [e]; exact h
    · exact ih p e
theorem cok {X : Cx} {scope : Scope} {cl : List (Str × Addr)} {own : Str} {ys : List Str} {js : List Nat} (a : CompAt X scope ys js) (s : Subs X cl) (nd : (own :: ys).Nodup) (len : js.length = ys.length) (clos : closureFor scope X.env = pure cl) (nocell : (scope.names.all fun p => !(p.2 == .cell)) = true) (kind : scope.kind = .function)
    (loc : (scope.names.all fun p => !(p.2 == .local) || scope.names.lookup p.1 == some .local) = true) (ownL : scope.names.lookup own = some .local) (has : ((relabel scope X.env).names.all fun p => !(p.2 == .cell || p.2 == .free) || (cl.lookup p.1).isSome) = true) (noown : cl.lookup own = none) : CompOk X scope cl own ys js :=
  ⟨clos, nocell, kind, loc, ownL, s.all, has, noown, nd, a, len⟩
/-! ### the sixteen refusals -/
section
variable {K : PySem.W.Frag} {cs : List Addr} {S C D : Addr} {i j : Nat}
end
def spInit (C : Addr) (f : Str) : Sp := fun vs H Q _ => ∃ a y n, vs = [.ref a, y] ∧ H a = some (excB n a (.ref C) none) ∧ ∀ d, H d = none → Q .non (L2.upd (L2.upd H d (.xd [(f, y)])) a (excB n a (.ref C) (some d)))
theorem init_of {H : Hp} {Q : VK} {a C : Addr} {f : Str} {y : V} (na : H a = none) (h : ∀ d H2, Same H H2 → H2 a = some (excB true a (.ref C) (some d)) → H2 d = some (.xd [(f, y)]) → d ≠ a → Same H (del H2 a) → del H2 a d = some (.xd [(f, y)]) → Q .non H2) {E : XK} :
    spInit C f [.ref a, y] (L2.upd H a (excB true a (.ref C) none)) Q E := by
  refine ⟨a, y, true, rfl, upd_same, fun d hd => ?_⟩
  have ne : d ≠ a := by
    intro z
    rw [z, upd_same] at hd
    cases hd
  have nd : H d = none := by rwa [upd_ne ne] at hd
  have g : Same H (L2.upd (L2.upd (L2.upd H a (excB true a (.ref C) none)) d (.xd [(f, y)])) a (excB true a (.ref C) (some d))) := sUpd (sUpd (sUpd (fun _ _ q => q) na _) nd _) na _
  have e2 : L2.upd (L2.upd (L2.upd H a (excB true a (.ref C) none)) d (.xd [(f, y)])) a (excB true a (.ref C) (some d)) d = some (.xd [(f, y)]) := by rw [upd_ne ne, upd_same]
  exact h d _ g upd_same e2 ne (fun b o q => by rw [del_ne (ne_of_none q na)]; exact g b o q) (by rw [del_ne ne]; exact e2)
end Sw
set_option Elab.async false
set_option linter.all false
set_option maxRecDepth 100000
namespace Sw
open PySem L2 XH
/-! ### own classes: their defs as callers see them -/
section
variable {X : Cx} {k j : Nat} {f C : Addr} {ps : List Str} {sp : Sp} {dvs : List V} {x m : Str} {p pos apos : Pos} {e o : Expr} {es : List Expr} {ta tb : TE} {t : TA}
end
end Sw
set_option Elab.async false
set_option linter.all false
set_option maxRecDepth 100000
namespace Sw
open PySem L2 XH
/-! ### defs of own classes that may refuse -/
section
variable {X : Cx} {k j : Nat} {f C : Addr} {ps : List Str} {sp : Sp} {dvs : List V} {x m : Str} {p pos apos : Pos} {e o : Expr} {es : List Expr} {ta tb : TE} {t : TA} {E : L2.St → XK}
end
end Sw
set_option Elab.async false
set_option linter.all false
set_option maxRecDepth 100000
namespace L2
open PySem PySem.Spec PyProof.Rows
section
variable {X : Cx} {pins : List (Addr × Obj)} {σ : St} {H : Hp} {s : Shared} {h' : Heap}
/-- records of ours have turned, and a new thing was laid -/
theorem Inv.turnedNew {ch : List Addr} {T : Addr} {o : HO} {t' : Nat} (I : Inv X pins σ H s) (hf : ∀ b ∈ ch, FpOk X pins H b) (k : ∀ b u, b ∉ ch → s.heap.get? b = some u → h'.get? b = some u) (hp : s.heap.objs.size ≤ T) (new : ObjOk X.prog X.w (upd H T o) h' T o) :
    Inv X pins σ (upd H T o) { s with heap := h', toks := t' } := by
  have nT : H T = none := I.hok.fresh hp
  have ne : ∀ b u, H b = some u → b ≠ T := fun b u e z => by rw [z, nT] at e; cases e
  have nch : ∀ b u, H b = some u → b ∉ ch := fun b u e z => by rw [(hf b z).1] at e; cases e
  have up : ∀ b u, H b = some u → upd H T o b = some u := fun b u e => by rw [upd_ne (ne b u e)]; exact e
  refine I.step (g' := s.gens) (d' := s.drawn) (ch := ch) (fun b hb => ?_) (fun b u _ _ hc e _ => k b u hc e) (fun b u _ _ hc e _ => ⟨u.slots, k b u hc e⟩) (fun b u _ e n => ?_)
    (fun b u hc e => ⟨u, k b u hc e⟩) (fun b xs e => up b _ e) (fun b u v e => up b _ e) (fun b ps e => ⟨#[], by rw [up b _ e]; simp⟩) (fun m hm => ?_) (fun b u e => ?_) I.bare
  · obtain ⟨f0, f1, f2, f3, f4, f5⟩ := hf b hb
    exact ⟨f3, f1, f4, f5⟩
  · have : b ≠ T := Nat.ne_of_lt (Nat.lt_of_lt_of_le (Heap.lt_size e) hp)
    rw [upd_ne this]
    exact n
  · obtain ⟨u, es, ep, ho, r⟩ := hm
    exact ⟨u, es, ep, k _ u (fun z => (hf _ z).2.1 rfl) ho, r⟩
  · by_cases c : b = T
    · subst c
      rw [upd_same] at e
      cases e
      exact new
    · rw [upd_ne c] at e
      refine (I.hok b u e).stay (fun c' v hc q => k c' v ?_ q) (fun _ q => up _ _ q) fun _ _ q => up _ _ q
      rcases hc with z | z
      · rw [z]; exact nch b u e
      · exact nch c' _ z
theorem Inv.turnedAll {ch : List Addr} {t' : Nat} (I : Inv X pins σ H s) (hf : ∀ b ∈ ch, FpOk X pins H b) (k : ∀ b u, b ∉ ch → s.heap.get? b = some u → h'.get? b = some u) : Inv X pins σ H { s with heap := h', toks := t' } := by
  have nch : ∀ b u, H b = some u → b ∉ ch := fun b u e z => by rw [(hf b z).1] at e; cases e
  refine I.step (g' := s.gens) (d' := s.drawn) (ch := ch) (fun b hb => ?_) (fun b u _ _ hc e _ => k b u hc e) (fun b u _ _ hc e _ => ⟨u.slots, k b u hc e⟩) (fun b u _ e n => n)
    (fun b u hc e => ⟨u, k b u hc e⟩) (fun b xs e => e) (fun b u v e => e) (fun b ps e => ⟨#[], by rw [e]; simp⟩) (fun m hm => ?_) (fun b u e => ?_) I.bare
  · obtain ⟨f0, f1, f2, f3, f4, f5⟩ := hf b hb
    exact ⟨f3, f1, f4, f5⟩
  · obtain ⟨u, es, ep, ho, r⟩ := hm
    exact ⟨u, es, ep, k _ u (fun z => (hf _ z).2.1 rfl) ho, r⟩
  · refine (I.hok b u e).stay (fun c' v hc q => k c' v ?_ q) (fun _ q => q) fun _ _ q => q
    rcases hc with z | z
    · rw [z]; exact nch b u e
    · exact nch c' _ z
end
/-- the list at l, each thing with its place -/
def Ite (K : PySem.W.Frag) (l : Addr) : It :=
  ⟨fun i H => ∃ xs x, SqL K H l xs ∧ xs[i]? = some x, fun i H v H' => ∃ (T : Addr) (x : V), v = .ref T ∧ H T = none ∧ (∀ xs, SqL K H l xs → xs[i]? = some x) ∧ H' = upd H T (.tup [.int i, x]), fun i H => ∃ xs, SqL K H l xs ∧ xs.length ≤ i⟩
theorem turn_enum {P : Program} {w : World} {K : PySem.W.Frag} {elts : List Expr} {k : Nat} {pos : Pos} (l e it : Addr) (ne : e ≠ it) : Turn P w K (.Tuple elts k pos) (Ite K l) [e, it] e (fun i h => (∃ old, IsEnum h e it i old) ∧ h.IsListIter it l i) where
  mem := by simp
  obj := fun i h st b hb => by
    obtain ⟨⟨old, he⟩, o, e1, c, d⟩ := st
    rcases List.mem_cons.mp hb with z | z
    · subst z
      exact ⟨_, he, fun v z => by cases z⟩
    · rw [List.mem_singleton.mp z]
      exact ⟨o, e1, fun v z => by rw [d] at z; cases z⟩
  keep := fun i h h' st k => ⟨let ⟨old, he⟩ := st.1; ⟨old, k e (by simp) _ he⟩, st.2.at fun o q => k it (by simp) o q⟩
  item := by
    intro X hP hw hK hc i pins s σ H E I hf st hg
    subst hP hw hK
    obtain ⟨xs, x, hq, hx⟩ := hg
    obtain ⟨its, rv, p, hz⟩ := I.list hq
    obtain ⟨u, hu, ru⟩ := rv.get hx
    obtain ⟨⟨old, he⟩, hit⟩ := st
    refine wpAny_pyNext_enum_item he hit p.isList (x := u) (by simpa using hu) ne fun h1 ho hit' hT hsz hk => ?_
    refine ⟨_, rfl, wpAny_letOwnedTupleGo_enum (s := { s with heap := h1, toks := s.toks + 1 }) ho fun h2 he2 hs2 => ?_⟩
    have nT : H s.heap.objs.size = none := I.hok.fresh (Nat.le_refl _)
    have el : e < s.heap.objs.size := Heap.lt_size he
    have il : it < s.heap.objs.size := by obtain ⟨_, q, _⟩ := hit; exact Heap.lt_size q
    have hT2 : h2.get? s.heap.objs.size = some { cls := .type "tuple", data := .seq #[.int i s.toks, u] } := (hs2.2 _ (Nat.ne_of_gt el)).trans hT
    have kp : ∀ b o, b ∉ [e, it] → s.heap.get? b = some o → h2.get? b = some o := fun b o hb q => by
      simp at hb
      exact (hs2.2 b hb.1).trans (hk b o hb.1 hb.2 q)
    refine ⟨.ref s.heap.objs.size, upd H s.heap.objs.size (.tup [.int i, x]), I.turnedNew (t' := s.toks + 1) (ch := [e, it]) hf kp (Nat.le_refl _) ⟨by show 2 ≤ sizeLine; decide, [.int i s.toks, u], .cons ⟨_, rfl⟩ (.cons ru .nil), ⟨_, hT2, rfl, 0, rfl⟩⟩, rfl,
      ⟨_, x, rfl, nT, fun ys hy => by rw [I.list_inj hy hq]; exact hx, rfl⟩, ⟨⟨u, ?_⟩, ?_⟩, fun b hb => ?_⟩
    · simpa using he2
    · exact hit'.at fun o q => (hs2.2 it (Ne.symm ne)).trans q
    · have bl : b ≠ s.heap.objs.size := by
        rcases List.mem_cons.mp hb with z | z
        · rw [z]; exact Nat.ne_of_lt el
        · rw [List.mem_singleton.mp z]; exact Nat.ne_of_lt il
      rw [upd_ne bl]
      exact (hf b hb).1
  done := by
    intro X hP hw hK hc i pins s σ H E I hf st hg
    subst hP hw hK
    obtain ⟨xs, hq, hx⟩ := hg
    obtain ⟨its, rv, p, hz⟩ := I.list hq
    obtain ⟨⟨old, he⟩, hit⟩ := st
    have hl := rv.length
    exact wpAny_pyNext_enum_end (I.ok.hd hc) he hit p.isList (by simp; omega) fun h' eb => ⟨rfl, I.turnedAll (t' := s.toks) (ch := [e, it]) hf fun b o hb q => eb b o (fun z => hb (by simp [z])) q⟩
  self := fun _ _ _ _ _ st h => let ⟨_, he⟩ := st.1; wpAny_pyIter_enum he h
def iEnum (K : PySem.W.Frag) (ta : TA) : TI := fun σ H R => ta σ H fun vs H1 => ∃ l : Addr, vs = [.ref l] ∧ (∃ xs, SqL K H1 l xs) ∧ R (Ite K l) H1
theorem boot_enumerate : bootBuiltins "enumerate" = some (.type "enumerate") := by kernel_rfl
theorem pi_enum {X : Cx} {a : Expr} {ta : TA} {elts : List Expr} {k : Nat} {tp p pos : Pos} (hg : Gl X "enumerate") (hm : X.mg "enumerate" = none) (ha : PA X [a] ta) (hs : starEach [a] X.env = [(false, eval a X.env)] := by rfl) : PI X (.Tuple elts k tp) (.Call (.Name "enumerate" p) [a] [] pos) (iEnum X.K ta) := by
  intro pins s σ H R I h
  refine Call_ (ld_blt I hg hm boot_enumerate (PyProof.Rows.callWith_type1 (thn (ha pos pins s σ H _ I h) fun us s1 ⟨vs, H1, I1, r1, q1⟩ => ?_) hs rfl))
  obtain ⟨l, e, ⟨xs, hq⟩, q⟩ := q1
  subst e
  cases r1 with
  | cons r rr =>
    cases rr
    cases r
    obtain ⟨its, rv, p1, hz⟩ := I1.list hq
    refine call_enumerate_list p1.isList fun h' he hit hsz hk => ?_
    refine wpAny_pyIter_enum (s := { s1 with heap := h' }) he ?_
    have I2 : Inv X pins σ H1 { s1 with heap := h' } := I1.kept (t' := s1.toks) hk
    refine ⟨s1.heap.objs.size + 1, [s1.heap.objs.size + 1, s1.heap.objs.size], _, _, H1, rfl, I2, turn_enum l _ _ (Nat.succ_ne_self _), ⟨⟨_, by simpa using he⟩, hit⟩, fun b hb => ?_, q⟩
    have bl : s1.heap.objs.size ≤ b := by
      rcases List.mem_cons.mp hb with z | z
      · rw [z]; exact Nat.le_succ _
      · rw [List.mem_singleton.mp z]; exact Nat.le_refl _
    exact I1.fpOk bl (I1.hok.fresh bl)
/-- over a list, each thing with its place; the body leaves the list as it is -/
theorem for_enum {K : PySem.W.Frag} {a : Addr} {xs : List V} {g : TG} {tb : TS} {D : Ends} {σ : St} {H : Hp} (Pv : Nat → St → Hp → Prop) (h0 : Pv 0 σ H) (hl : ∀ i σ H, i ≤ xs.length → Pv i σ H → SqL K H a xs)
    (hs : ∀ i x σ H (T : Addr), xs[i]? = some x → Pv i σ H → H T = none → g (.ref T) σ (upd H T (.tup [.int i, x])) fun σ2 H2 => tb { D with nx := Pv (i + 1), ct := Pv (i + 1), bk := D.nx } σ2 H2) (hd : ∀ σ H, Pv xs.length σ H → D.nx σ H) :
    ∃ W : Nat → Nat → St → Hp → Prop, (∃ m, W 0 m σ H) ∧ ∀ i m σ H, W i m σ H →
      ((Ite K a).stop i H ∧ D.nx σ H) ∨ ((Ite K a).go i H ∧ ∃ N : St → Hp → Prop, (∀ σ' H', N σ' H' → ∃ m', m' < m ∧ W (i + 1) m' σ' H') ∧ ∀ x H', (Ite K a).yld i H x H' → g x σ H' fun σ2 H2 => tb { D with nx := N, ct := N, bk := D.nx } σ2 H2) := by
  refine ⟨fun i m σ H => m = xs.length - i ∧ i ≤ xs.length ∧ Pv i σ H, ⟨xs.length, by simp, Nat.zero_le _, h0⟩, ?_⟩
  rintro i m σ H ⟨rfl, hi, p⟩
  have q := hl i σ H hi p
  by_cases hlt : i < xs.length
  · refine .inr ⟨⟨xs, xs[i], q, by simp [hlt]⟩, Pv (i + 1), fun σ' H' p' => ⟨xs.length - (i + 1), by omega, rfl, hlt, p'⟩, fun x H' y => ?_⟩
    obtain ⟨T, z, rfl, nT, hz, rfl⟩ := y
    exact hs i z σ H T (hz xs q) p nT
  · have e : i = xs.length := by omega
    subst e
    exact .inl ⟨⟨xs, q, Nat.le_refl _⟩, hd σ H p⟩
end L2
set_option Elab.async false
set_option linter.all false
set_option maxRecDepth 100000
namespace L2
open PySem PySem.Spec PyProof.Rows
/-- two lists walked side by side -/
def Itz (K : PySem.W.Frag) (l1 l2 : Addr) : It :=
  ⟨fun i H => ∃ xs ys x y, SqL K H l1 xs ∧ SqL K H l2 ys ∧ xs[i]? = some x ∧ ys[i]? = some y,
   fun i H v H' => ∃ (T : Addr) (x y : V), v = .ref T ∧ H T = none ∧ (∀ xs, SqL K H l1 xs → xs[i]? = some x) ∧ (∀ ys, SqL K H l2 ys → ys[i]? = some y) ∧ H' = upd H T (.tup [x, y]),
   fun i H => ∃ xs ys, SqL K H l1 xs ∧ SqL K H l2 ys ∧ (xs.length ≤ i ∨ ys.length ≤ i)⟩
structure ZipSt (h : Heap) (z TI TO i1 i2 l1 l2 : Addr) (i : Nat) : Prop where
  zip : IsZip h z TI TO .none
  ti : IsPair h TI (.ref i1) (.ref i2)
  to : ∃ a b, IsPair h TO a b
  it1 : h.IsListIter i1 l1 i
  it2 : h.IsListIter i2 l2 i
theorem list_ne {h : Heap} {l b : Addr} {its : Array Value} {o : Obj} {n : String} (hl : h.IsList l its) (e : h.get? b = some o) (c : o.cls = .type n) (ne : n ≠ "list") : l ≠ b := fun z => by
  obtain ⟨o', e', c', _⟩ := hl
  rw [z, e] at e'
  cases e'
  rw [c] at c'
  injection c' with c'
  exact ne c'
theorem ZipSt.apart {h : Heap} {z TI TO i1 i2 l1 l2 : Addr} {i : Nat} {xs ys : Array Value} (st : ZipSt h z TI TO i1 i2 l1 l2 i) (d : [z, TI, TO, i1, i2].Nodup) (h1 : h.IsList l1 xs) (h2 : h.IsList l2 ys) : ZipApart z TI TO i1 i2 l1 l2 := by
  obtain ⟨a, b, eto⟩ := st.to
  obtain ⟨o1, e1, c1, _⟩ := st.it1
  obtain ⟨o2, e2, c2, _⟩ := st.it2
  simp only [List.nodup_cons, List.mem_cons, List.not_mem_nil, or_false, not_or, List.nodup_nil, and_true] at d
  obtain ⟨⟨d1, d2, d3, d4⟩, ⟨d5, d6, d7⟩, ⟨d8, d9⟩, d10, _⟩ := d
  have lz : ∀ {l : Addr} {its : Array Value}, h.IsList l its → l ≠ z ∧ l ≠ TI ∧ l ≠ TO ∧ l ≠ i1 ∧ l ≠ i2 := fun hl => ⟨list_ne hl st.zip rfl (by decide), list_ne hl st.ti rfl (by decide), list_ne hl eto rfl (by decide), list_ne hl e1 c1 (by decide), list_ne hl e2 c2 (by decide)⟩
  obtain ⟨p1, p2, p3, p4, p5⟩ := lz h1
  obtain ⟨q1, q2, q3, q4, q5⟩ := lz h2
  constructor <;> first | assumption | exact Ne.symm (by assumption)
theorem turn_zip {P : Program} {w : World} {K : PySem.W.Frag} {elts : List Expr} {k : Nat} {pos : Pos} (l1 l2 z TI TO i1 i2 : Addr) (d : [z, TI, TO, i1, i2].Nodup) : Turn P w K (.Tuple elts k pos) (Itz K l1 l2) [z, TI, TO, i1, i2] z (fun i h => ZipSt h z TI TO i1 i2 l1 l2 i) where
  mem := by simp
  obj := fun i h st b hb => by
    obtain ⟨a, b', eto⟩ := st.to
    obtain ⟨o1, e1, c1, d1⟩ := st.it1
    obtain ⟨o2, e2, c2, d2⟩ := st.it2
    simp only [List.mem_cons, List.not_mem_nil, or_false] at hb
    rcases hb with q | q | q | q | q <;> subst q
    · exact ⟨_, st.zip, fun v z => by cases z⟩
    · exact ⟨_, st.ti, fun v z => by cases z⟩
    · exact ⟨_, eto, fun v z => by cases z⟩
    · exact ⟨o1, e1, fun v z => by rw [d1] at z; cases z⟩
    · exact ⟨o2, e2, fun v z => by rw [d2] at z; cases z⟩
  keep := fun i h h' st k => ⟨k _ (by simp) _ st.zip, k _ (by simp) _ st.ti, let ⟨a, b, e⟩ := st.to; ⟨a, b, k _ (by simp) _ e⟩, st.it1.at fun o q => k _ (by simp) o q, st.it2.at fun o q => k _ (by simp) o q⟩
  item := by
    intro X hP hw hK hc i pins s σ H E I hf st hg
    subst hP hw hK
    obtain ⟨xs, ys, x, y, hq1, hq2, hx, hy⟩ := hg
    obtain ⟨is1, rv1, p1, hz1⟩ := I.list hq1
    obtain ⟨is2, rv2, p2, hz2⟩ := I.list hq2
    obtain ⟨u, hu, ru⟩ := rv1.get hx
    obtain ⟨v, hv, rv⟩ := rv2.get hy
    have ap := st.apart d p1.isList p2.isList
    obtain ⟨a, b, eto⟩ := st.to
    refine wpAny_pyNext_zip_item ap st.zip st.ti eto st.it1 st.it2 p1.isList p2.isList (x := u) (y := v) (by simpa using hu) (by simpa using hv) fun h1 ho hto hi1 hi2 hT hsz hk => ?_
    refine ⟨_, rfl, wpAny_letOwnedTupleGo_zip (s := { s with heap := h1 }) ho fun h2 hz2' hs2 => ?_⟩
    have nT : H s.heap.objs.size = none := I.hok.fresh (Nat.le_refl _)
    have lt : ∀ b ∈ [z, TI, TO, i1, i2], b < s.heap.objs.size := fun b hb => by
      obtain ⟨o1, e1, _⟩ := st.it1
      obtain ⟨o2, e2, _⟩ := st.it2
      simp only [List.mem_cons, List.not_mem_nil, or_false] at hb
      rcases hb with q | q | q | q | q <;> subst q
      · exact Heap.lt_size st.zip
      · exact Heap.lt_size st.ti
      · exact Heap.lt_size eto
      · exact Heap.lt_size e1
      · exact Heap.lt_size e2
    have zl := lt z (by simp)
    have hT2 : IsPair h2 s.heap.objs.size u v := (hs2.2 _ (Nat.ne_of_gt zl)).trans hT
    have kp : ∀ b o, b ∉ [z, TI, TO, i1, i2] → s.heap.get? b = some o → h2.get? b = some o := fun b o hb q => by
      simp only [List.mem_cons, List.not_mem_nil, or_false, not_or] at hb
      exact (hs2.2 b hb.1).trans (hk b o hb.1 hb.2.2.1 hb.2.2.2.1 hb.2.2.2.2 q)
    have eti : h1.get? TI = some { cls := .type "tuple", data := .seq #[.ref i1, .ref i2] } := hk TI _ ap.TIz ap.TITO ap.TIi1 ap.TIi2 st.ti
    refine ⟨.ref s.heap.objs.size, upd H s.heap.objs.size (.tup [x, y]), I.turnedNew (t' := s.toks) (ch := [z, TI, TO, i1, i2]) hf kp (Nat.le_refl _) ⟨by show 2 ≤ sizeLine; decide, [u, v], .cons ru (.cons rv .nil), ⟨_, hT2, rfl, 0, rfl⟩⟩, rfl,
      ⟨_, x, y, rfl, nT, fun ys hy' => by rw [I.list_inj hy' hq1]; exact hx, fun ys hy' => by rw [I.list_inj hy' hq2]; exact hy, rfl⟩, ⟨hz2', (hs2.2 _ ap.TIz).trans eti, ⟨u, v, (hs2.2 _ ap.TOz).trans hto⟩, hi1.at fun o q => (hs2.2 _ ap.i1z).trans q, hi2.at fun o q => (hs2.2 _ ap.i2z).trans q⟩, fun b hb => ?_⟩
    rw [upd_ne (Nat.ne_of_lt (lt b hb))]
    exact (hf b hb).1
  done := by
    intro X hP hw hK hc i pins s σ H E I hf st hg
    subst hP hw hK
    obtain ⟨xs, ys, hq1, hq2, hx⟩ := hg
    obtain ⟨is1, rv1, p1, hz1⟩ := I.list hq1
    obtain ⟨is2, rv2, p2, hz2⟩ := I.list hq2
    have ap := st.apart d p1.isList p2.isList
    obtain ⟨a, b, eto⟩ := st.to
    have e1 := rv1.length
    have e2 := rv2.length
    refine wpAny_pyNext_zip_end (I.ok.hd hc) ap st.zip st.ti eto st.it1 st.it2 p1.isList p2.isList (by rcases hx with q | q; exact .inl (by simp; omega); exact .inr (by simp; omega)) fun h' hk => ⟨rfl, I.turnedAll (t' := s.toks) (ch := [z, TI, TO, i1, i2]) hf fun b o hb q => ?_⟩
    simp only [List.mem_cons, List.not_mem_nil, or_false, not_or] at hb
    exact hk b o hb.1 hb.2.2.1 hb.2.2.2.1 hb.2.2.2.2 q
  self := fun _ _ _ _ _ st h => wpAny_pyIter_zip st.zip h
theorem nodup5 (n : Nat) : [n + 4, n + 2, n + 3, n, n + 1].Nodup := by
  simp
def iZip (K : PySem.W.Frag) (ta : TA) : TI := fun σ H R => ta σ H fun vs H1 => ∃ l1 l2 : Addr, vs = [.ref l1, .ref l2] ∧ (∃ xs, SqL K H1 l1 xs) ∧ (∃ ys, SqL K H1 l2 ys) ∧ R (Itz K l1 l2) H1
theorem boot_zip : bootBuiltins "zip" = some (.type "zip") := by kernel_rfl
theorem pi_zip {X : Cx} {a b : Expr} {ta : TA} {elts : List Expr} {k : Nat} {tp p pos : Pos} (hg : Gl X "zip") (hm : X.mg "zip" = none) (ha : PA X [a, b] ta) (hs : starEach [a, b] X.env = [(false, eval a X.env), (false, eval b X.env)] := by rfl) (hs2 : starEach [b] X.env = [(false, eval b X.env)] := by rfl) :
    PI X (.Tuple elts k tp) (.Call (.Name "zip" p) [a, b] [] pos) (iZip X.K ta) := by
  intro pins s σ H R I h
  refine Call_ (ld_blt I hg hm boot_zip (PyProof.Rows.callWith_type1 (thn (ha pos pins s σ H _ I h) fun us s1 ⟨vs, H1, I1, r1, q1⟩ => ?_) (by rw [hs, hs2]) (by rw [hs2]; rfl)))
  obtain ⟨l1, l2, e, ⟨xs, hq1⟩, ⟨ys, hq2⟩, q⟩ := q1
  subst e
  cases r1 with
  | cons r rr =>
    cases rr with
    | cons r' rr =>
      cases rr
      cases r
      cases r'
      obtain ⟨is1, rv1, p1, hz1⟩ := I1.list hq1
      obtain ⟨is2, rv2, p2, hz2⟩ := I1.list hq2
      refine call_zip_2 p1.isList p2.isList fun h' hz hti hto hi1 hi2 hsz hk => ?_
      refine wpAny_pyIter_zip (s := { s1 with heap := h' }) hz ?_
      have I2 : Inv X pins σ H1 { s1 with heap := h' } := I1.kept (t' := s1.toks) hk
      refine ⟨s1.heap.objs.size + 4, [s1.heap.objs.size + 4, s1.heap.objs.size + 2, s1.heap.objs.size + 3, s1.heap.objs.size, s1.heap.objs.size + 1], _, _, H1, rfl, I2, turn_zip l1 l2 _ _ _ _ _ (nodup5 _), ⟨hz, hti, ⟨_, _, hto⟩, hi1, hi2⟩, fun b hb => ?_, q⟩
      have bl : s1.heap.objs.size ≤ b := by
        simp only [List.mem_cons, List.not_mem_nil, or_false] at hb
        rcases hb with q | q | q | q | q <;> rw [q] <;> first | exact Nat.le_refl _ | exact Nat.le_add_right _ _
      exact I1.fpOk bl (I1.hok.fresh bl)
end L2
set_option Elab.async false
set_option linter.all false
set_option maxRecDepth 100000
namespace L2
open PySem PySem.Spec PyProof.Rows XH
/-! ### a text, walked sign by sign -/
def Its (x : Str) : It := ⟨fun i _ => i < x.cps.size, fun i H v H' => H' = H ∧ ∃ c, x.cps[i]? = some c ∧ v = .str ⟨#[c]⟩, fun i _ => i = x.cps.size⟩
theorem turn_str {P : Program} {w : World} {K : PySem.W.Frag} {tg : Expr} {ty : String} (hty : ty = "str_ascii_iterator" ∨ ty = "str_iterator") (it : Addr) (x : Str) (t : Tok) : Turn P w K tg (Its x) [it] it (fun i h => h.IsStrIter it ty x t i) where
  mem := by simp
  obj := fun i h st b hb => by
    have e : b = it := by simpa using hb
    subst e
    obtain ⟨o, e, c, d⟩ := st
    exact ⟨o, e, fun v z => by rw [d] at z; cases z⟩
  keep := fun i h h' st k => by
    obtain ⟨o, e, c, d⟩ := st
    exact ⟨o, k it (by simp) o e, c, d⟩
  item := by
    intro X hP hw hK hc i pins s σ H E I hf st hg
    subst hP hw hK
    obtain ⟨f0, f1, f2, f3, f4, f5⟩ := hf it (by simp)
    have W : Walks X.prog X.w X.A it [it] [it] x.cps.size (SignAt x) (fun i h => h.IsStrIter it ty x t i) := by
      rcases hty with rfl | rfl
      · exact Walks.strAscii (I.ok.hd hc) it x t
      · exact Walks.strWide (I.ok.hd hc) it x t
    refine W.item i s _ _ hg st fun v h' tk hv st' kk => ?_
    obtain ⟨c, u, hc', rfl⟩ := hv
    have I1 : Inv X pins σ H { s with heap := h', toks := tk } := I.turned (fun b o hb e => kk b o (by simpa using hb) e) f0 f1 f3 f4 f5
    obtain ⟨o, e, c1, d1⟩ := id st'
    refine ⟨_, rfl, go_of (s := { s with heap := h', toks := tk }) (n := ty) e c1 d1 (by rcases hty with rfl | rfl <;> decide) ⟨.str ⟨#[c]⟩, H, I1, ⟨u, rfl⟩, ⟨rfl, c, hc', rfl⟩, st', fun b hb => (hf b hb).1⟩⟩
  done := by
    intro X hP hw hK hc i pins s σ H E I hf st hg
    subst hP hw hK
    obtain ⟨f0, f1, f2, f3, f4, f5⟩ := hf it (by simp)
    have W : Walks X.prog X.w X.A it [it] [it] x.cps.size (SignAt x) (fun i h => h.IsStrIter it ty x t i) := by
      rcases hty with rfl | rfl
      · exact Walks.strAscii (I.ok.hd hc) it x t
      · exact Walks.strWide (I.ok.hd hc) it x t
    have hg' : i = x.cps.size := hg
    subst hg'
    exact W.done s _ _ st fun h' tk kk => ⟨rfl, I.turned (fun b o hb e => kk b o (by simpa using hb) e) f0 f1 f3 f4 f5⟩
  self := fun _ _ _ _ _ st h => by
    rcases hty with rfl | rfl
    · exact wpAny_pyIter_striter_ascii st h
    · exact wpAny_pyIter_striter_wide st h
def iStr (tl : TE) : TI := fun σ H R => tl σ H fun x H1 => ∃ z, x = .str z ∧ R (Its z) H1
section
variable {X : Cx} {tg : Expr}
theorem pi_str {l : Expr} {tl : TE} (hl : PE X l tl) : PI X tg l (iStr tl) := by
  intro pins s σ H R I h
  refine thn (hl pins s σ H _ I h) fun v s1 ⟨x, H1, I1, r1, q1⟩ => ?_
  obtain ⟨z, rfl, q⟩ := q1
  obtain ⟨t, rfl⟩ := r1
  have fin : ∀ {ty : String} {o : Obj}, (ty = "str_ascii_iterator" ∨ ty = "str_iterator") → (s1.heap.push o).IsStrIter s1.heap.objs.size ty z t 0 → PIE X pins σ tg R (.ref s1.heap.objs.size) { s1 with heap := s1.heap.push o } := fun {ty o} hty st => by
    refine ⟨s1.heap.objs.size, [s1.heap.objs.size], _, _, H1, rfl, I1.kept (t' := s1.toks) fun b o e => Heap.get?_push_of_some _ e, turn_str hty _ z t, st, fun b hb => ?_, q⟩
    have e : b = s1.heap.objs.size := by simpa using hb
    subst e
    exact I1.fpOk (Nat.le_refl _) (I1.hok.fresh (Nat.le_refl _))
  cases ha : z.cps.all (· < 128)
  · exact wpAny_pyIter_wide ha (fin (.inr rfl) ⟨_, Heap.get?_push_size _ rfl, rfl, rfl⟩)
  · exact wpAny_pyIter_ascii ha (fin (.inl rfl) ⟨_, Heap.get?_push_size _ rfl, rfl, rfl⟩)
end
/-- for, over a text -/
theorem for_str {z : Str} {g : TG} {tb : TS} {D : Ends} {σ : St} {H : Hp} (Pv : Nat → St → Hp → Prop) (h0 : Pv 0 σ H)
    (hs : ∀ i c σ H, z.cps[i]? = some c → Pv i σ H → g (.str ⟨#[c]⟩) σ H fun σ2 H2 => tb { D with nx := Pv (i + 1), ct := Pv (i + 1), bk := D.nx } σ2 H2) (hd : ∀ σ H, Pv z.cps.size σ H → D.nx σ H) :
    ∃ W : Nat → Nat → St → Hp → Prop, (∃ m, W 0 m σ H) ∧ ∀ i m σ H, W i m σ H →
      ((Its z).stop i H ∧ D.nx σ H) ∨ ((Its z).go i H ∧ ∃ N : St → Hp → Prop, (∀ σ' H', N σ' H' → ∃ m', m' < m ∧ W (i + 1) m' σ' H') ∧ ∀ x H', (Its z).yld i H x H' → g x σ H' fun σ2 H2 => tb { D with nx := N, ct := N, bk := D.nx } σ2 H2) := by
  refine ⟨fun i m σ H => m = z.cps.size - i ∧ i ≤ z.cps.size ∧ Pv i σ H, ⟨z.cps.size, by simp, Nat.zero_le _, h0⟩, ?_⟩
  rintro i m σ H ⟨rfl, hi, p⟩
  by_cases hlt : i < z.cps.size
  · refine .inr ⟨hlt, Pv (i + 1), fun σ' H' p' => ⟨z.cps.size - (i + 1), by omega, rfl, hlt, p'⟩, fun x H' y => ?_⟩
    obtain ⟨e, c, hc, rfl⟩ := y
    subst e
    exact hs i c σ _ hc p
  · have e : i = z.cps.size := by omega
    subst e
    exact .inl ⟨rfl, hd σ H p⟩
/-! ### x[lo:hi] of a text -/
/-! ### methods of texts -/
end L2
set_option Elab.async false
set_option linter.all false
set_option maxRecDepth 100000
namespace Sw
open PySem PySem.NumText
/-! ### the figures of a number -/
def dg (n : Nat) : List Nat := (Nat.toDigits 10 n).map Char.toNat
theorem dg_val (n : Nat) : digitsVal (dg n) = n := PySem.W.KIN.val_back n
theorem dg_small {n : Nat} (h : n < 10) : dg n = [48 + n] := by
  unfold dg
  rw [Nat.toDigits_of_lt_base h]
  revert h
  revert n
  decide
theorem dg_big {n : Nat} (h : 10 ≤ n) : dg n = dg (n / 10) ++ [48 + n % 10] := by
  have hm : n % 10 < 10 := Nat.mod_lt _ (by decide)
  rw [← dg_small hm]
  unfold dg
  rw [← List.map_append, Nat.toDigits_append_toDigits (by decide) (by omega) hm, Nat.div_add_mod]
theorem dg_digit (n : Nat) : AllDigits (dg n) := by
  induction n using Nat.strongRecOn with
  | _ n ih =>
    by_cases h : n < 10
    · rw [dg_small h]
      intro c hc
      simp at hc
      omega
    · rw [dg_big (by omega)]
      intro c hc
      rcases List.mem_append.mp hc with z | z
      · exact ih (n / 10) (by omega) c z
      · simp at z
        omega
theorem dg_ne (n : Nat) : dg n ≠ [] := by
  by_cases h : n < 10
  · rw [dg_small h]; simp
  · rw [dg_big (by omega)]; simp
theorem dg_head (n : Nat) : (dg n).head? = some 48 → n = 0 := by
  induction n using Nat.strongRecOn with
  | _ n ih =>
    intro e
    by_cases h : n < 10
    · rw [dg_small h] at e
      simp at e
      exact e
    · rw [dg_big (by omega), List.head?_append] at e
      cases q : (dg (n / 10)).head? with
      | none => exact absurd (List.head?_eq_none_iff.mp q) (dg_ne _)
      | some c =>
        rw [q] at e
        simp at e
        subst e
        have := ih (n / 10) (by omega) q
        omega
theorem dg_zero : dg 0 = [48] := dg_small (by decide)
theorem dg_len {n : Nat} : ∀ {k : Nat}, n < 10 ^ (k + 1) → (dg n).length ≤ k + 1 := by
  induction n using Nat.strongRecOn with
  | _ n ih =>
    intro k hk
    by_cases h : n < 10
    · rw [dg_small h]; simp
    · rw [dg_big (by omega), List.length_append]
      cases k with
      | zero => omega
      | succ k =>
        have h1 : n / 10 < 10 ^ (k + 1) := by
          rw [Nat.pow_succ 10 (k + 1)] at hk
          generalize 10 ^ (k + 1) = m at *
          omega
        have := ih (n / 10) (by omega) h1
        simp
        omega
/-! ### a number of a text -/
def Fig (l : List Nat) : Prop := 1 ≤ l.length ∧ l.length ≤ 30 ∧ (l.head? ≠ some 48 ∨ l = [48]) ∧ AllDigits l
open Classical in
noncomputable def fig? (l : List Nat) : Option Nat := if Fig l then some (digitsVal l) else none
theorem fig_dg {n : Nat} (h : (dg n).length ≤ 30) : fig? (dg n) = some n := by
  unfold fig?
  rw [if_pos, dg_val]
  refine ⟨?_, h, ?_, dg_digit n⟩
  · have := dg_ne n
    cases q : dg n with
    | nil => exact absurd q this
    | cons => simp
  · by_cases z : (dg n).head? = some 48
    · exact .inr (by rw [dg_head n z]; exact dg_zero)
    · exact .inl z
theorem fig_is {l : List Nat} (h : Fig l) : fig? l = some (digitsVal l) := if_pos h
theorem fig_not {l : List Nat} (h : ¬ Fig l) : fig? l = none := if_neg h
/-! ### a text cut at a sign -/
def cut1 (c : Nat) (l : List Nat) : List Nat × List Nat := (l.takeWhile (· != c), (l.dropWhile (· != c)).tail)
theorem cut_app {c : Nat} {a b : List Nat} (h : c ∉ a) : cut1 c (a ++ c :: b) = (a, b) := by
  unfold cut1
  have p : ∀ x ∈ a, (x != c) = true := fun x hx => by
    rw [bne_iff_ne]
    exact fun z => h (z ▸ hx)
  rw [List.takeWhile_append_of_pos p, List.dropWhile_append_of_pos p]
  simp
/-! ### what is read -/
end Sw
set_option Elab.async false
set_option linter.all false
set_option maxRecDepth 100000
namespace L2
open PySem PySem.Spec PyProof.Rows XH
section
variable {X : Cx} {a b e o : Expr} {es : List Expr} {t te to : TE} {ta : TA} {pos apos cpos : Pos} {x y : Str}
/-! ### a text with numbers and texts put in -/
/-! ### int(text), max(list), values of the file's top -/
theorem call_int_str : CallR X (.type "int") (fun xs H Q => ∃ z n, xs = [.str z] ∧ intText? z = some n ∧ z.length ≤ 640 ∧ Q (.int n) H) := by
  intro pins s σ H xs us Q I r h
  obtain ⟨z, n, rfl, hn, hl, q⟩ := h
  obtain ⟨u, rfl, t, rfl⟩ := vals1 r
  exact PySem.W.KIN.call_text hn hl ⟨.int n, H, I.tok _, ⟨_, rfl⟩, q⟩
theorem pe_globS {z : Str} {p : Pos} (hg : Gl X x) (h : ∃ t, X.mg x = some (.str z t)) (hd : (x == ("__debug__" : Str)) = false := by decide) : PE X (.Name x p) (tC (.str z)) := by
  obtain ⟨t, h⟩ := h
  exact pe_glob hg h ⟨t, rfl⟩ hd
theorem pe_globI {i : Int} {p : Pos} (hg : Gl X x) (h : ∃ t, X.mg x = some (.int i t)) (hd : (x == ("__debug__" : Str)) = false := by decide) : PE X (.Name x p) (tC (.int i)) := by
  obtain ⟨t, h⟩ := h
  exact pe_glob hg h ⟨t, rfl⟩ hd
/-! ### tuples of numbers that are alike -/
/-! ### a list walked in a comprehension -/
/-! ### split -/
theorem vals_strs : ∀ (l : List Str) (n : Nat), Vals (l.map V.str) (strsFrom n l)
  | [], _ => .nil
  | x :: l, n => .cons ⟨_, rfl⟩ (vals_strs l (n + 1))
theorem mt_split : MtR X "str.split" (fun x vs H Q => ∃ z c, x = .str z ∧ vs = [.str ⟨#[c]⟩] ∧ z.length + 2 ≤ sizeLine ∧ ∀ p, H p = none → Q (.ref p) (upd H p (.lst ((Txt.split z ⟨#[c]⟩).map V.str)))) := by
  intro pins s σ H x vs v us Q I rx rv h
  obtain ⟨z, c, rfl, rfl, hz, q⟩ := h
  obtain ⟨t, rfl⟩ := rx
  obtain ⟨u, rfl, t', rfl⟩ := vals1 rv
  have q' := q s.heap.objs.size (I.hok.fresh (Nat.le_refl _))
  have hn : (Builtin.Str.occurrences z ⟨#[c]⟩ 0 z.length (z.length + 1)).length ≤ z.length + 1 := StrLaws.occ_length_le _ _ _ _ _
  unfold Txt.split at q'
  cases h1 : (decide (z.length < (⟨#[c]⟩ : Str).length) || decide (Builtin.Str.strKind z < Builtin.Str.strKind ⟨#[c]⟩)) with
  | true =>
    rw [h1] at q'
    refine call_meets F.slot_str_split (typeIs_str s z t) F.entry_str_split (F.args_str_split_2 _ _) (meets_str_split_cannot_occur z ⟨#[c]⟩ t t' h1) ?_
    exact ⟨.ref s.heap.objs.size, _, I.laid (o := .lst [.str z]) (t' := s.toks) (fun b ob e => Heap.get?_push_of_some _ e) (Nat.le_refl _) ⟨by show 1 ≤ sizeLine; decide, [.str z t], 0, .cons ⟨_, rfl⟩ .nil, Heap.get?_push_size _ rfl⟩, rfl, q'⟩
  | false =>
    rw [h1] at q'
    cases hf : (Builtin.Str.occurrences z ⟨#[c]⟩ 0 z.length (z.length + 1)).isEmpty with
    | true =>
      rw [hf] at q'
      refine call_meets F.slot_str_split (typeIs_str s z t) F.entry_str_split (F.args_str_split_2 _ _) (meets_str_split_not_found z ⟨#[c]⟩ t t' h1 rfl hf) ?_
      exact ⟨.ref s.heap.objs.size, _, I.laid (o := .lst [.str z]) (t' := s.toks) (fun b ob e => Heap.get?_push_of_some _ e) (Nat.le_refl _) ⟨by show 1 ≤ sizeLine; decide, [.str z t], 0, .cons ⟨_, rfl⟩ .nil, Heap.get?_push_size _ rfl⟩, rfl, q'⟩
    | false =>
      rw [hf] at q'
      have hp : (Builtin.Str.partsBetween z (Builtin.Str.occurrences z ⟨#[c]⟩ 0 z.length (z.length + 1)) (⟨#[c]⟩ : Str).length).length ≤ sizeLine := by
        unfold Builtin.Str.partsBetween
        simp only [List.length_map, List.length_zip, List.length_cons, List.length_append, List.length_nil]
        omega
      refine call_meets F.slot_str_split (typeIs_str s z t) F.entry_str_split (F.args_str_split_2 _ _) (meets_str_split_sep z ⟨#[c]⟩ t t' h1 rfl hf (by omega) hp) ?_
      exact ⟨.ref s.heap.objs.size, _, I.laid (o := .lst ((Builtin.Str.partsBetween z (Builtin.Str.occurrences z ⟨#[c]⟩ 0 z.length (z.length + 1)) (⟨#[c]⟩ : Str).length).map V.str)) (fun b ob e => Heap.get?_push_of_some _ e) (Nat.le_refl _) ⟨by rw [List.length_map]; exact hp, _, 0, vals_strs _ _, Heap.get?_push_size _ rfl⟩, rfl, q'⟩
/-! ### replace: the two texts must be made behind something else -/
end
end L2
set_option Elab.async false
set_option linter.all false
set_option maxRecDepth 100000
namespace L2
open PySem PySem.Spec PyProof.Rows XH
/-! ### a dict, walked key by key; while it is walked it is known to the object -/
section
variable {X : Cx} {tg : Expr}
end
end L2
set_option Elab.async false
set_option linter.all false
set_option maxRecDepth 100000
namespace L2
open PySem PySem.Spec PyProof.Rows XH
section
variable {X : Cx} {a b c d : Expr} {ta tb tc td : TE} {pos : Pos}
end
end L2
set_option Elab.async false
set_option linter.all false
set_option maxRecDepth 100000
namespace So
open PySem PyProof.Rows
section
variable {prog : Program} {w : World} {A : Around} {E : Value → Shared → Prop} {s : Shared} {κ : KeyKind} {kd : SortKind}
end
end So
set_option Elab.async false
set_option linter.all false
set_option maxRecDepth 100000
namespace So
open PySem PyProof.Rows
section
variable {κ : KeyKind} {kd : SortKind} {a b out : Array Keyed} {ia ib : Nat}
end
end So
set_option Elab.async false
set_option linter.all false
set_option maxRecDepth 100000
namespace So
open PySem PyProof.Rows
section
variable {prog : Program} {w : World} {A : Around} {E : Value → Shared → Prop} {s : Shared} {κ : KeyKind} {kd : SortKind}
end
end So
set_option Elab.async false
set_option linter.all false
set_option maxRecDepth 100000
namespace So
open PySem PyProof.Rows
section
variable {κ : KeyKind} {kd : SortKind} {a b out : Array Keyed} {na nb : Nat}
end
section
variable {prog : Program} {w : World} {A : Around} {E : Value → Shared → Prop} {s : Shared} {κ : KeyKind} {kd : SortKind}
end
end So
set_option Elab.async false
set_option linter.all false
set_option maxRecDepth 100000
namespace So
open PySem PyProof.Rows
section
variable {prog : Program} {w : World} {A : Around} {E : Value → Shared → Prop} {s : Shared} {κ : KeyKind} {kd : SortKind}
end
section
variable {prog : Program} {w : World} {A : Around} {E : Value → Shared → Prop} {s : Shared} {κ : KeyKind} {kd : SortKind}
end
end So
set_option Elab.async false
set_option linter.all false
set_option maxRecDepth 100000
namespace So
open PySem PyProof.Rows
section
variable {prog : Program} {w : World} {A : Around} {E : Value → Shared → Prop} {s : Shared} {κ : KeyKind} {kd : SortKind}
end
end So
set_option Elab.async false
set_option linter.all false
set_option maxRecDepth 100000
namespace So
open PySem PyProof.Rows
section
variable {prog : Program} {w : World} {A : Around} {E : Value → Shared → Prop} {s : Shared} {κ : KeyKind} {kd : SortKind}
end
end So
set_option Elab.async false
set_option linter.all false
set_option maxRecDepth 100000
namespace So
open PySem PyProof.Rows
/-! ### the runs that wait -/
section
variable {κ : KeyKind} {kd : SortKind}
end
section
variable {prog : Program} {w : World} {A : Around} {E : Value → Shared → Prop} {s : Shared} {κ : KeyKind} {kd : SortKind}
end
end So
set_option Elab.async false
set_option linter.all false
set_option maxRecDepth 100000
namespace So
open PySem PyProof.Rows
section
variable {prog : Program} {w : World} {A : Around} {E : Value → Shared → Prop} {s : Shared} {κ : KeyKind} {kd : SortKind}
end
end So
set_option Elab.async false
set_option linter.all false
set_option maxRecDepth 100000
namespace So
open PySem PyProof.Rows
section
variable {prog : Program} {w : World} {A : Around} {E : Value → Shared → Prop} {s : Shared} {κ : KeyKind}
end
end So
set_option Elab.async false
set_option linter.all false
set_option maxRecDepth 100000
namespace Sw
open PySem L2 XH PySem.NumText
/-! ### texts and their signs -/
def sL (z : Str) : List Nat := z.cps.toList
def mkS (l : List Nat) : Str := ⟨l.toArray⟩
theorem sL_mk (l : List Nat) : sL (mkS l) = l := by simp [sL, mkS]
theorem mk_sL (z : Str) : mkS (sL z) = z := by simp [sL, mkS]
theorem sL_inj {x y : Str} (h : sL x = sL y) : x = y := by rw [← mk_sL x, ← mk_sL y, h]
theorem sL_len (z : Str) : (sL z).length = z.length := by simp [sL, Str.length]
theorem mk_len (l : List Nat) : (mkS l).length = l.length := by rw [← sL_len, sL_mk]
theorem sL_app (x y : Str) : sL (x ++ y) = sL x ++ sL y := by
  show (x.cps ++ y.cps).toList = _
  rw [Array.toList_append]
  rfl
theorem str_num (n : Nat) : Str.ofString (toString ((n : Nat) : Int)) = mkS (dg n) := sL_inj (by rw [sL_mk]; exact PySem.W.KIN.signs_num n)
theorem one_mk (c : Nat) : (⟨#[c]⟩ : Str) = mkS [c] := rfl
theorem in_one (z : Str) (c : Nat) : (!(Builtin.Str.occurrences z (mkS [c]) 0 z.length 1).isEmpty) = decide (c ∈ sL z) := StrLaws.found_one z c
/-! ### a text split at a sign -/
theorem join_cons2 (s x y : Str) (r : List Str) : Str.join s (x :: y :: r) = x ++ s ++ Str.join s (y :: r) := rfl
theorem join_inj (c : Nat) : ∀ (xs ys : List Str), xs ≠ [] → ys ≠ [] → (∀ x ∈ xs, c ∉ sL x) → (∀ y ∈ ys, c ∉ sL y) → Str.join (mkS [c]) xs = Str.join (mkS [c]) ys → xs = ys
  | [], _, h, _, _, _, _ => absurd rfl h
  | _, [], _, h, _, _, _ => absurd rfl h
  | [x], [y], _, _, _, _, e => by
    have e' : x = y := e
    rw [e']
  | [x], y :: z :: r, _, _, hx, _, e => by
    exfalso
    have e' : x = y ++ mkS [c] ++ Str.join (mkS [c]) (z :: r) := e
    refine hx x (by simp) ?_
    rw [e', sL_app, sL_app, sL_mk]
    simp
  | x :: z :: r, [y], _, _, _, hy, e => by
    exfalso
    have e' : x ++ mkS [c] ++ Str.join (mkS [c]) (z :: r) = y := e
    refine hy y (by simp) ?_
    rw [← e', sL_app, sL_app, sL_mk]
    simp
  | x :: x' :: r, y :: y' :: r', _, _, hx, hy, e => by
    rw [join_cons2, join_cons2] at e
    have e1 := congrArg sL e
    rw [sL_app, sL_app, sL_app, sL_app, sL_mk, List.append_assoc, List.append_assoc] at e1
    have e2 := congrArg (cut1 c) e1
    simp only [List.cons_append, List.nil_append] at e2
    rw [cut_app (hx x (by simp)), cut_app (hy y (by simp))] at e2
    injection e2 with e3 e4
    have ih := join_inj c (x' :: r) (y' :: r') (by simp) (by simp) (fun z hz => hx z (by simp at hz ⊢; exact .inr hz)) (fun z hz => hy z (by simp at hz ⊢; exact .inr hz)) (sL_inj e4)
    rw [sL_inj e3, ih]
theorem split_ne (x : Str) (c : Nat) : Txt.split x (mkS [c]) ≠ [] := by
  unfold Txt.split
  split
  · simp
  · split
    · simp
    · rw [StrLaws.partsBetween_eq]
      obtain ⟨p, r, e⟩ := StrLaws.partsFrom_ne x (mkS [c]).length 0 (Builtin.Str.occurrences x (mkS [c]) 0 x.length (x.length + 1))
      rw [e]
      simp
theorem split_of {c : Nat} {ws : List Str} (ne : ws ≠ []) (free : ∀ w ∈ ws, c ∉ sL w) : Txt.split (Str.join (mkS [c]) ws) (mkS [c]) = ws :=
  join_inj c _ _ (split_ne _ c) ne (StrLaws.split_free _ c) free (StrLaws.join_split _ _)
/-! ### promises -/
def figT : Str := "0123456789"
theorem fig_mem (c : Nat) : (!(Builtin.Str.occurrences figT (mkS [c]) 0 figT.length 1).isEmpty) = decide (48 ≤ c ∧ c ≤ 57) := by
  rw [in_one]
  have e : sL figT = [48, 49, 50, 51, 52, 53, 54, 55, 56, 57] := by decide
  rw [e, decide_eq_decide]
  simp
  omega
def spFigs : Sp := fun vs H Q _ => ∃ z : Str, vs = [.str z] ∧ z.length ≤ 1000000 ∧ (fig? (sL z) = none → Q .non H) ∧ ∀ n : Nat, fig? (sL z) = some n → Q (.int n) H
end Sw
namespace Sw
open PySem L2 XH PySem.NumText
theorem int_text {z : Str} (h : Fig (sL z)) : intText? z = some ((digitsVal (sL z) : Nat) : Int) := by
  refine intText_digits h.2.2.2 (fun e => ?_) ?_
  · have := h.1
    rw [show sL z = [] from e] at this
    simp at this
  · have := h.2.1
    rw [sL_len] at this
    omega
theorem str_ne {a b : Str} {A B : Prop} (h1 : a ≠ b → A) (h2 : a = b → B) : if (!decide (V.str a = V.str b)) = true then A else B := by
  by_cases e : a = b
  · exact nF (by rw [e]) (h2 e)
  · exact nT (fun z => by cases z; exact e rfl) (h1 e)
theorem str_eq {a b : Str} {A B : Prop} (h1 : a = b → A) (h2 : a ≠ b → B) : if decide (V.str a = V.str b) = true then A else B := by
  by_cases e : a = b
  · exact dT (by rw [e]) (h1 e)
  · exact dF (fun z => by cases z; exact e rfl) (h2 e)
theorem nnT {b : Bool} {A B : Prop} (h1 : b = false → A) (h2 : b = true → B) : if (!b) = true then A else B := by
  cases b with
  | false => exact iteT (h1 rfl)
  | true => exact iteF (h2 rfl)
theorem zero_mk : (Str.ofString "0") = mkS [48] := by decide
theorem lg {n : Nat} (h : n < 2 ^ 1900) : (n : Int).natAbs.log2 < 1920 := by
  rw [Int.natAbs_natCast]
  by_cases z : n = 0
  · subst z; decide
  · exact Nat.lt_trans ((Nat.log2_lt z).mpr h) (by decide)
end Sw
namespace Sw
open PySem L2 XH PySem.NumText
end Sw
namespace Sw
open PySem L2 XH PySem.NumText
end Sw
namespace Sw
open PySem L2 XH PySem.NumText
end Sw
namespace Sw
open PySem L2 XH PySem.NumText
end Sw
set_option Elab.async false
set_option linter.all false
set_option maxRecDepth 100000
namespace L2
open PySem PySem.Spec PyProof.Rows XH
/-! ### list comprehensions with one test -/
section
variable {prog : Program} {w : World} {A : Around} {R : Result → Shared → Prop} {s : Shared}
end
section
variable {X : Cx} {scope : Scope} {cl : List (Str × Addr)} {own : Str} {ys : List Str} {js : List Nat} {elt iter cond : Expr} {px pos : Pos} {wi : TI} {te : TE} {tc : TT}
end
end L2
set_option Elab.async false
set_option linter.all false
set_option maxRecDepth 100000
namespace L2
open PySem PySem.Spec PyProof.Rows XH
/-! ### setdefault -/
section
variable {X : Cx}
end
/-! ### dicts that are alike -/
section
variable {prog : Program} {w : World} {κ : Type} [DecidableEq κ] {knd : KeyKind prog w κ} {A : Around} {E : Value → Shared → Prop} {s : Shared}
end
end L2
set_option Elab.async false
set_option linter.all false
set_option maxRecDepth 100000
namespace L2
open PySem PySem.Spec PyProof.Rows XH
/-! ### list(reversed(xs)) -/
section
variable {prog : Program} {w : World} {A : Around} {R : Result → Shared → Prop} {s : Shared} {I l S : Addr} {items : Array Value}
end
section
variable {X : Cx} {e : Expr} {te : TE} {p1 p2 pos pos2 : Pos}
end
end L2
set_option Elab.async false
set_option linter.all false
set_option maxRecDepth 100000
namespace L2
open PySem PySem.Spec PyProof.Rows XH
/-! ### set(xs) of texts and numbers that are all unlike -/
section
variable {prog : Program} {w : World} {A : Around} {R : Result → Shared → Prop} {I : Addr} {fp wr : List Addr} {G : Array GenState → Array GenState → Prop} {n : Nat} {P : Nat → Value → Prop} {St : Nat → Shared → Prop}
end
section
variable {prog : Program} {w : World} {A : Around} {E : Value → Shared → Prop} {s : Shared}
end
end L2
namespace L2
open PySem PySem.Spec PyProof.Rows XH
/-! ### len(set(xs)) -/
section
variable {X : Cx} {e : Expr} {te : TE} {p1 p2 pos pos2 : Pos}
end
end L2
set_option Elab.async false
set_option linter.all false
set_option maxRecDepth 100000
namespace L2
open PySem PySem.Spec PyProof.Rows XH
end L2
namespace Sw
open PySem L2
/-! ### what parts lead to -/
/-! ### dicts with one value for all keys -/
/-! ### how many of a list are not yet there -/
/-! ### a list of pairs -/
end Sw
namespace Sw
open PySem L2
end Sw
set_option Elab.async false
set_option linter.all false
set_option maxRecDepth 100000
namespace Sw
open PySem L2
/-! ### parts as a dict of dicts -/
/-! ### as it lies in the heap -/
end Sw
set_option Elab.async false
set_option linter.all false
set_option maxRecDepth 100000
namespace Sw
open PySem L2
/-! ### all that is in a good, each with the one ahead of it -/
end Sw
set_option Elab.async false
set_option linter.all false
set_option maxRecDepth 100000
namespace Sw
open PySem L2
/-! ### a way down, kept from its end -/
end Sw
set_option Elab.async false
set_option linter.all false
set_option maxRecDepth 100000
namespace L2
open PySem PySem.Spec PyProof.Rows XH
section
variable {X : Cx} {scope : Scope} {cl : List (Str × Addr)} {own : Str} {ys : List Str} {js : List Nat} {elt iter cond : Expr} {px pos : Pos} {wi : TI} {te : TE} {tc : TT}
end
end L2
set_option Elab.async false
set_option linter.all false
set_option maxRecDepth 100000
namespace L2
open PySem PySem.Spec PyProof.Rows XH
/-! ### x == [] -/
/-! ### comprehensions with a test that changes nothing -/
end L2
namespace Sw
open PySem L2 PyProof.Rows
/-! ### dicts of dicts that are alike -/
/-! ### a way down to one of the goals -/
end Sw
set_option Elab.async false
set_option linter.all false
set_option maxRecDepth 100000
namespace Sw
open PySem L2 PyProof.Rows
end Sw
set_option Elab.async false
set_option linter.all false
set_option maxRecDepth 100000
namespace L2
open PySem PySem.Spec PyProof.Rows XH Sw So
end L2
set_option Elab.async false
set_option linter.all false
set_option maxRecDepth 100000
namespace So
open PySem PySem.Spec PyProof.Rows
end So
set_option Elab.async false
set_option linter.all false
set_option maxRecDepth 100000
namespace So
open PySem PyProof.Rows
section
variable {prog : Program} {w : World} {A : Around} {E : Value → Shared → Prop} {s : Shared} {κ : KeyKind} {kd : SortKind}
end
end So
set_option Elab.async false
set_option linter.all false
set_option maxRecDepth 100000
namespace L2
open PySem PySem.Spec PyProof.Rows XH Sw So
section
variable {prog : Program} {w : World} {A : Around} {E : Value → Shared → Prop} {s : Shared}
end
end L2
set_option Elab.async false
set_option linter.all false
set_option maxRecDepth 100000
namespace L2
open PySem PySem.Spec PyProof.Rows XH Sw So
end L2
set_option Elab.async false
set_option linter.all false
namespace Hm
/-! ### things of a heap, by their numbers; the order of them -/
/-! ### the heap -/
end Hm
set_option Elab.async false
set_option linter.all false
set_option maxRecDepth 100000
namespace Hm
open PySem PySem.SeqAt PySem.MeetsSeq
/-! ### less than, of tuples of whole numbers -/
section
variable {prog : Program} {w : World} {A : Around} {E : Value → Shared → Prop} {s : Shared}
end
end Hm
set_option Elab.async false
set_option linter.all false
set_option maxRecDepth 100000
namespace L2
open PySem PySem.Spec PyProof.Rows XH Sw So Hm
/-! ### things: whole numbers, or tuples of such -/
section
variable {prog : Program} {w : World} {A : Around} {E : Value → Shared → Prop} {s : Shared}
end
end L2
set_option Elab.async false
set_option linter.all false
set_option maxRecDepth 100000
namespace L2
open PySem PySem.Spec PyProof.Rows XH
section
variable {X : Cx} {scope : Scope} {cl : List (Str × Addr)} {own : Str} {ys : List Str} {js : List Nat} {elt iter : Expr} {px pos : Pos} {wi : TI} {te : TE}
theorem ps_compA {i : Nat} {y : Str} {py spos : Pos} (hN : X.N.Nodup) (hi' : X.N[i]? = some y) (hy : X.env.scope.names.lookup y = some .local) (hc : X.calm = true) (ok : CompOk X scope cl own ys js) (hi : PI X (.Name own px) iter wi)
    (he : ∀ (C : Addr) (fp : List Addr) (s : Shared) (H : Hp), PE (X.block scope cl C (own :: ys) own fp s H) elt te)
    (hsw : swapsWith (.ListComp elt [⟨.Name own px, iter, [], 0⟩] scope pos) (some (.Name y py)) spos.line X.env = pure true := by rfl) (hs : ∀ x, foldedSetIterable iter X.env x = pure x := by intro _; rfl) :
    PS X (.Assign [.Name y py] (.ListComp elt [⟨.Name own px, iter, [], 0⟩] scope pos) spos) (tAsg (tComp wi js te) (gName i)) := by
  intro pins s σ H D I h
  have ncell : ∀ y ∈ scope.names, y.2 ≠ .cell := fun y hy z => by
    have q := List.all_eq_true.mp ok.nocell y hy
    rw [z] at q
    simp at q
  have nloc : ∀ y ∈ scope.names, y.2 = .local → scope.names.lookup y.1 = some .local := fun y hy z => by
    have q := List.all_eq_true.mp ok.loc y hy
    rw [z] at q
    simpa using q
  show wpAny _ _ (exec _ X.env) _ _ _
  rw [exec_Assign_Name_used _ _ _ _ hsw]
  refine wpAny_bind (wpAny_standAt (wpAny_bind ?_))
  show wpAny _ X.A (do let _ ← comprehension (.ListComp elt [⟨.Name own px, iter, [], 0⟩] scope pos) scope X.env _ (newList []) false (eval iter X.env) (some (assign (.Name y py) X.env))) _ _ s
  refine wpAny_bind (wpAny_mono (wpAny_comprehension_free (use := some (assign (.Name y py) X.env)) (Q := fun _ s' => SP X pins D .next s') rfl hs ok.clos ok.kind nloc (thn (hi pins s σ H _ I h) fun v s1 h1 => thn h1 fun itv s2 h2 => ?_)) (fun _ s' hq => wpAny_pure (wpAny_pure hq)) fun _ _ e => e)
  obtain ⟨it, fp, tn, J, H2, rfl, I2, T, st2, f2, q2⟩ := h2
  obtain ⟨W, ⟨m0, w0⟩, turn⟩ := q2 s2.heap.objs.size (I2.hok.fresh (Nat.le_refl _))
  refine wpAny_newObj_type (wpAny_newFunctionEnv ncell (by intro y hy; simp at hy) (fun h1 hns hsb => ?_) ok.kind)
  have I3 := I2.laid (a := s2.heap.objs.size) (o := .lst []) (h' := s2.heap.push { cls := .type "list", dict := none, data := .seq ([] : List Value).toArray }) (t' := s2.toks) (fun b u q => Heap.get?_push_of_some _ q) (Nat.le_refl _)
    ⟨Nat.zero_le _, [], 0, .nil, Heap.get?_push_size _ rfl⟩
  have fpo : ∀ b ∈ fp, b < s2.heap.objs.size := fun b hb => by
    obtain ⟨o, e, _⟩ := T.obj 0 _ st2 b hb
    exact Heap.lt_size e
  have f3 : ∀ b ∈ fp, FpOk X pins (upd H2 s2.heap.objs.size (.lst [])) b := fun b hb => ⟨by rw [upd_ne (Nat.ne_of_lt (fpo b hb))]; exact (f2 b hb).1, (f2 b hb).2⟩
  generalize hs3 : ({ s2 with heap := s2.heap.push { cls := .type "list", dict := none, data := .seq ([] : List Value).toArray }, toks := s2.toks } : Shared) = s3 at I3
  have e3 : s3.heap = s2.heap.push { cls := .type "list", dict := none, data := .seq ([] : List Value).toArray } := by rw [← hs3]
  have lt3 : ∀ b ∈ fp, b < s3.heap.objs.size := fun b hb => by rw [e3, Heap.size_push]; exact Nat.lt_succ_of_lt (fpo b hb)
  dsimp only at hns hsb ⊢
  rw [← e3] at hns hsb
  have hk : ∀ b o, s3.heap.get? b = some o → h1.get? b = some o := fun b o e => hsb.extBut b o (Nat.ne_of_lt (Heap.lt_size e)) (Heap.get?_push_of_some _ e)
  have J0 := block_start (h1 := h1) ok I3 f3 lt3 hns hk (s2.toks + 0)
  have t0 : tn 0 h1 := T.keep 0 _ _ st2 fun b hb o e => hk b o (by rw [e3]; exact Heap.get?_push_of_some _ e)
  have fpB : ∀ {H' : Hp}, (∀ b ∈ fp, H' b = none) → ∀ b ∈ fp, FpOk (X.block scope cl s3.heap.objs.size (own :: ys) own fp s3 (upd H2 s2.heap.objs.size (.lst []))) [] H' b := fun {H'} hn b hb =>
    ⟨hn b hb, Nat.ne_of_lt (lt3 b hb), fun z => (List.mem_cons.mp (I3.stkSub b z)).elim (f3 b hb).2.1 (f3 b hb).2.2.1, .inl hb, fun x c e => (f3 b hb).2.2.2.2.1 x c (ok.sub (x, c) (PySem.mem_of_lookup e)), fun p hp => absurd (show p ∈ ([] : List (Addr × Obj)) from hp) (by simp)⟩
  have loop : codeAny (model X.prog X.w) X.A (.compLoop (.ListComp elt [⟨.Name own px, iter, [], 0⟩] scope pos) 0 (.ref it) (.ref s2.heap.objs.size) (compEnvC scope cl s3.heap.objs.size X.env))
      (compPost (model X.prog X.w) X.A X.xe (some (assign (.Name y py) X.env)) (fun _ s' => SP X pins D .next s') (.ref s2.heap.objs.size) s3.heap.objs.size) { s3 with heap := h1, toks := s2.toks + 0 } := by
    refine compLoop_own (fun n s' => ∃ i zs o0 H', Inv (X.block scope cl s3.heap.objs.size (own :: ys) own fp s3 (upd H2 s2.heap.objs.size (.lst []))) [] (o0 :: freesOf js σ) H' s' ∧ tn i s'.heap ∧ (∀ b ∈ fp, H' b = none) ∧ W i n zs H') ?_ m0
      ⟨0, [], none, _, J0, t0, fun b hb => (f3 b hb).1, w0⟩
    rintro n s5 ⟨i, zs, o0, H5, I5, t5, n5, w5⟩
    obtain ⟨hD, hw⟩ := turn i n zs H5 w5
    rcases hw with ⟨stop, qn⟩ | ⟨go, hz, step⟩
    · refine thn (T.done (X.block scope cl s3.heap.objs.size (own :: ys) own fp s3 (upd H2 s2.heap.objs.size (.lst []))) rfl rfl rfl hc i [] s5 _ H5 (fun _ _ => False) I5 (fpB n5) t5 stop) fun r s6 ⟨hr, I6⟩ => ?_
      subst hr
      obtain ⟨m, hn, _⟩ := id I6.loc
      have J : Inv X pins σ H5 s6 := block_end (h' := s6.heap) I3 f3 I6 (Heap.SameBut.refl _ _)
      have fC := I3.fpOk (Nat.le_refl _) (show H5 s3.heap.objs.size = none from I6.free)
      obtain ⟨k0, k1, k2, k3, k4, k5⟩ := fC
      show wpAny _ X.A (assign (.Name y py) X.env (.ref s2.heap.objs.size)) _ _ _
      refine wpAny_assign_Name (store_ok2 (v := .ref s2.heap.objs.size) J hN hi' (.inl hy) rfl (fun s7 I7 hsb => ?_) (.inr hy))
      obtain ⟨a', sb, ha⟩ := hsb
      have ne : s3.heap.objs.size ≠ a' := by
        rcases ha with z | z
        · rw [z]; exact k1
        · exact fun w => k4 _ _ z w.symm
      exact ⟨m, hn.sameBut sb ne, fun h' hs' => ⟨_, H5, I7.turned (t' := s7.toks) (fun b o hb e => (hs'.2 b hb).trans e) k0 k1 k3 k4 k5, qn⟩⟩
    · refine thn (T.item (X.block scope cl s3.heap.objs.size (own :: ys) own fp s3 (upd H2 s2.heap.objs.size (.lst []))) rfl rfl rfl hc i [] s5 _ H5 (fun _ _ => False) I5 (fpB n5) t5 go) fun r s6 ⟨u, hr, h6⟩ => ?_
      subst hr
      refine thn h6 fun _ s7 ⟨x, H7, I7, r7, y7, t7, n7⟩ => ?_
      have I7' := I7.pinned (fpB n7) (T.obj _ _ t7)
      have hst := step x H7 y7
      have own' : (relabel scope X.env).names.lookup own = some .local := lookup_relabel_local ok.ownL
      refine thn (pg_name (X := X.block scope cl s3.heap.objs.size (own :: ys) own fp s3 (upd H2 s2.heap.objs.size (.lst []))) (i := 0) (x := own) (pos := px) ok.nd rfl (.inl own') (.inr own') _ s7 _ H7 x u (fun σ' H' => σ' = some x :: freesOf js σ ∧ H' = H7) I7' r7 ⟨rfl, rfl⟩) fun _ s8 ⟨σ8, H8, I8, e8, eH8⟩ => ?_
      subst e8 eH8
      refine thn (he _ _ _ _ _ s8 _ H8 _ I8 hst) fun yv s9 ⟨y, H9, I9, r9, hD9, m', hm, w9⟩ => ?_
      refine thn (mt_append _ s9 _ H9 (.ref s2.heap.objs.size) [y] (.ref s2.heap.objs.size) [yv] (fun _ H' => H' = upd H9 s2.heap.objs.size (.lst (zs ++ [y]))) I9 rfl (.cons r9 .nil) ⟨_, zs, y, rfl, rfl, hD9, hz, rfl⟩) fun _ s10 ⟨_, H10, I10, _, e10⟩ => ?_
      subst e10
      refine ⟨m', hm, i + 1, zs ++ [y], some x, _, I10.unpinned, T.keep _ _ _ t7 fun b hb o e => (I10.pin (b, o) (List.mem_append_right _ (List.mem_append_right _ (mem_pinsAt hb e)))).1, fun b hb => ?_, w9⟩
      obtain ⟨o, e, d⟩ := T.obj _ _ t7 b hb
      exact (I10.pin (b, o) (List.mem_append_right _ (List.mem_append_right _ (mem_pinsAt hb e)))).2.1
  subst hs3
  exact codeAny_compStart_list loop (T.self _ 0 _ _ _ t0 loop)
end
end L2
set_option Elab.async false
set_option linter.all false
set_option maxRecDepth 100000
namespace L2
open PySem PySem.Spec PyProof.Rows XH
section
variable {X : Cx}
theorem strs_are : ∀ {ws : List Str} {us : List Value}, Vals (ws.map V.str) us → StrsAre us ws
  | [], _, h => by cases h; exact .nil
  | w :: ws, _, h => by
    cases h with
    | cons r rr =>
      obtain ⟨t, rfl⟩ := r
      exact .cons _ _ (strs_are rr)
theorem mt_join : MtR X "str.join" (fun x vs H Q => ∃ z a ws, x = .str z ∧ vs = [.ref a] ∧ SqL X.K H a (ws.map V.str) ∧ z.length ≤ 16 ∧ (ws.map (fun x => x.length)).sum + ws.length ≤ 1048576 ∧ Q (.str (Txt.join z ws)) H) := by
  intro pins s σ H x vs v us Q I rx rv h
  obtain ⟨z, a, ws, rfl, rfl, hS, hz, hl, q⟩ := h
  obtain ⟨t, rfl⟩ := rx
  obtain ⟨u, rfl, ru⟩ := vals1 rv
  cases ru
  obtain ⟨its, r, p, _⟩ := I.list hS
  exact join_listW p.isList (by simpa using strs_are r) hz hl fun t' k => ⟨.str _, H, I.tok _, ⟨_, rfl⟩, q⟩
end
end L2
namespace Sw
open PySem L2 XH PySem.NumText
theorem join_len (sep : Str) (ws : List Str) : (Txt.join sep ws).length = (ws.map (fun x => x.length)).sum + (ws.length - 1) * sep.length := PySem.size_glued sep ws
/-! ### a row's words, sign by sign -/
def spSplit : Sp := fun vs H Q _ => ∃ z : Str, vs = [.str z] ∧ z.length ≤ 1000 ∧ (Str.empty ∈ Txt.split z (mkS [32]) → ∀ H', Same H H' → Q .non H') ∧ (Str.empty ∉ Txt.split z (mkS [32]) → ∀ (l : Addr) (H' : Hp), Same H H' → H' l = some (.lst ((Txt.split z (mkS [32])).map V.str)) → Q (.ref l) H')
def spNumOf : Sp := fun vs H Q _ => ∃ (z : Str) (lo hi : Int), vs = [.str z, .int lo, .int hi] ∧ z.length ≤ 1000000 ∧ (fig? (sL z) = none → Q .non H) ∧ ∀ n : Nat, fig? (sL z) = some n → Q (if (n : Int) < lo ∨ hi < (n : Int) then .non else .int n) H
theorem inT_str (x : Str) (gs : List Str) : inV (.str x) (gs.map V.str) = decide (x ∈ gs) := by
  unfold inV
  rw [Bool.eq_iff_iff]
  simp [eqV]
theorem flatT (gs : List Str) : (gs.map V.str).all flatV = true := by
  rw [List.all_eq_true]
  intro x hx
  obtain ⟨g, _, rfl⟩ := List.mem_map.mp hx
  rfl
theorem inT {x : Str} {gs : List Str} {A B : Prop} (h1 : x ∈ gs → A) (h2 : x ∉ gs → B) : if (if false = true then !inV (.str x) (gs.map V.str) else inV (.str x) (gs.map V.str)) = true then A else B := by
  rw [if_neg (by decide : ¬ false = true), inT_str]
  exact d2 h1 h2
theorem cutV_one {xs : List V} (h : 1 ≤ xs.length) : cutV xs (some 1) none = xs.drop 1 := by
  have e1 : HT.sIx xs.length 0 (some 1) = 1 := by
    unfold HT.sIx
    simp
    omega
  have e2 : HT.sIx xs.length xs.length none = xs.length := rfl
  unfold cutV
  rw [e1, e2, List.take_of_length_le (by rw [List.length_drop]; omega)]
theorem dQt {v : V} {Q : V → Prop} (q : Q (.bl true)) : Q (.bl (decide (v = v))) := by rw [decide_eq_true rfl]; exact q
/-- PA, shut -/
structure PAk (X : Cx) (es : List Expr) (t : TA) : Prop where
  h : PA X es t
theorem pak_nil {X : Cx} : PAk X [] tNil := ⟨pa_nil⟩
theorem pak_str {X : Cx} {z : Str} {p : Pos} {j} {es : List Expr} {t : TA} (h : PAk X es t) : PAk X (.Constant (.str z) j p :: es) (tCons (tC (.str z)) t) := ⟨pa_cons pe_str h.h⟩
theorem pe_lstk {X : Cx} {es : List Expr} {t : TA} {pos : Pos} (h : PAk X es t) : PE X (.List es pos) (tLst t) := pe_lst h.h
end Sw
set_option Elab.async false
set_option linter.all false
set_option maxRecDepth 100000
namespace L2
open PySem PySem.Spec PyProof.Rows XH Sw So Hm
theorem cut_take {xs : List V} {c : Nat} (h : c ≤ xs.length) : cutV xs none (some (c : Int)) = xs.take c := by
  have e1 : HT.sIx xs.length 0 none = 0 := rfl
  have e2 : HT.sIx xs.length xs.length (some (c : Int)) = c := by
    show (if (c : Int) < 0 then ((c : Int) + (xs.length : Int)).toNat else min (c : Int).toNat xs.length) = c
    rw [if_neg (by omega)]
    omega
  unfold cutV
  rw [e1, e2, List.drop_zero, Nat.sub_zero]
theorem cut_drop {xs : List V} {c : Nat} (h : c ≤ xs.length) : cutV xs (some (c : Int)) none = xs.drop c := by
  have e1 : HT.sIx xs.length 0 (some (c : Int)) = c := by
    show (if (c : Int) < 0 then ((c : Int) + (xs.length : Int)).toNat else min (c : Int).toNat xs.length) = c
    rw [if_neg (by omega)]
    omega
  have e2 : HT.sIx xs.length xs.length none = xs.length := rfl
  unfold cutV
  rw [e1, e2, List.take_of_length_le (by rw [List.length_drop]; omega)]
end L2
namespace Sw
open PySem L2 XH Hm
section
variable {X : Cx} {k j : Nat} {f C : Addr} {ps : List Str} {sp : Sp} {dvs : List V} {x m : Str} {p pos apos : Pos} {e o : Expr} {es : List Expr} {ta tb : TE} {t : TA} {E : L2.St → XK}
end
/-! ### a heap that is kept in a list -/
theorem at_zero {xs : List V} {i : Nat} {v : V} (h : xs[i]? = some v) : atI xs (0 + (i : Int)) = some v := by
  rw [Int.zero_add]
  exact atI_nat h
end Sw
set_option Elab.async false
set_option linter.all false
set_option maxRecDepth 100000
namespace L2
open PySem PySem.Spec PyProof.Rows XH Sw Hm
end L2
namespace Sw
open PySem L2 XH Hm
/-! ### nets and plans: what lies at the addresses -/
end Sw
set_option Elab.async false
set_option linter.all false
set_option maxRecDepth 100000
namespace L2
open PySem PySem.Spec PyProof.Rows XH
end L2
namespace Sw
open PySem L2 XH Hm
end Sw
set_option Elab.async false
set_option linter.all false
set_option maxRecDepth 100000
namespace L2
open PySem PySem.Spec PyProof.Rows XH
abbrev Cx.blockT (X : Cx) (scope : Scope) (cl : List (Str × Addr)) (C : Addr) (N : List Str) (os : List Str) (fp : List Addr) (s : Shared) (H : Hp) : Cx :=
  { X with env := compEnvC scope cl C X.env, N := N, s₀ := s, H₀ := H, outer := X.stack, stack := X.stack, ex := fp, fn := fun y => os.contains y, pn := [], xe := fun _ _ => False }
/-- what a comprehension's scope must have; os: its own names -/
structure CompOkT (X : Cx) (scope : Scope) (cl : List (Str × Addr)) (os : List Str) (ys : List Str) (js : List Nat) : Prop where
  clos : closureFor scope X.env = pure cl
  nocell : (scope.names.all fun p => !(p.2 == .cell)) = true
  kind : scope.kind = .function
  loc : (scope.names.all fun p => !(p.2 == .local) || scope.names.lookup p.1 == some .local) = true
  sub : ∀ p ∈ cl, X.env.cells.lookup p.1 = some p.2
  has : ((relabel scope X.env).names.all fun p => !(p.2 == .cell || p.2 == .free) || (cl.lookup p.1).isSome) = true
  noown : ∀ x ∈ os, cl.lookup x = none
  at_ : Sw.CompAt X scope ys js
  len : js.length = ys.length
def compRT (n : Nat) (g : TG) (js : List Nat) (te : TE) (σ : St) (Q : VK) : It → Hp → Prop := fun J H1 => ∀ p, H1 p = none → ∃ W : Nat → Nat → List V → Hp → Prop, (∃ m, W 0 m [] (upd H1 p (.lst []))) ∧
  ∀ i m ys H2, W i m ys H2 → H2 p = some (.lst ys) ∧ ((J.stop i H2 ∧ Q (.ref p) H2) ∨ (J.go i H2 ∧ ys.length < sizeLine ∧ ∀ x H3, J.yld i H2 x H3 → ∀ o : St, o.length = n → g x (o ++ freesOf js σ) H3 fun σ4 H4 => (∃ o' : St, o'.length = n ∧ σ4 = o' ++ freesOf js σ) ∧
    te σ4 H4 fun y H5 => H5 p = some (.lst ys) ∧ ∃ m', m' < m ∧ W (i + 1) m' (ys ++ [y]) (upd H5 p (.lst (ys ++ [y])))))
def tCompT (wi : TI) (n : Nat) (g : TG) (js : List Nat) (te : TE) : TE := fun σ H Q => wi σ H (compRT n g js te σ Q)
section
variable {X : Cx} {scope : Scope} {cl : List (Str × Addr)} {os : List Str} {ys : List Str} {js : List Nat} {fp : List Addr} {pins : List (Addr × Obj)} {σ : St} {H : Hp} {s s4 : Shared}
theorem block_startT {h1 : Heap} (ok : CompOkT X scope cl os ys js) (I : Inv X pins σ H s) (hf : ∀ b ∈ fp, FpOk X pins H b) (hlt : ∀ b ∈ fp, b < s.heap.objs.size) (hns : h1.Ns s.heap.objs.size (fun _ => none))
    (hk : ∀ b o, s.heap.get? b = some o → h1.get? b = some o) (tk : Nat) :
    Inv (X.blockT scope cl s.heap.objs.size (os ++ ys) os fp s H) [] (os.map (fun _ => none) ++ freesOf js σ) H { s with heap := h1, toks := tk } := by
  have sub : ∀ y c, cl.lookup y = some c → X.env.cells.lookup y = some c := fun y c e => ok.sub (y, c) (PySem.mem_of_lookup e)
  refine ⟨⟨I.ok.mod, ok.kind, I.ok.glob, I.ok.blt, Nat.le_refl _, fun x y c e1 e2 => I.ok.inj x y c (sub x c e1) (sub y c e2), fun x hx => ?_, fun x c e1 e2 => ?_, I.ok.hd, I.ok.frames, .inl rfl, fun b hb => ⟨Nat.ne_of_lt (hlt b hb), fun x c e => (hf b hb).2.2.2.2.1 x c (sub x c e)⟩,
    I.bs, Nat.le_trans I.ok.bsz I.sz, fun b o e hb => ?_, fun b hb z => ?_, I.stack, I.stkFree⟩, rfl, I.bare, Un.kept hk, ⟨_, hns, fun i y v e1 e2 e3 => ?_⟩, fun y c e => ?_, I.hok.fresh (Nat.le_refl _), fun y c e => I.freeC y c (sub y c e), fun p hp => absurd (show p ∈ ([] : List (Addr × Obj)) from hp) (by simp), I.hok.kept hk, ?_⟩
  · have hx' : (relabel scope X.env).names.lookup x = some .cell ∨ (relabel scope X.env).names.lookup x = some .free := hx
    rcases hx' with z | z
    · have q := lookup_all ok.has z
      simp only [beq_self_eq_true, Bool.true_or, Bool.not_true, Bool.false_or] at q
      exact Option.isSome_iff_exists.mp q
    · have q := lookup_all ok.has z
      simp only [beq_self_eq_true, Bool.or_true, Bool.not_true, Bool.false_or] at q
      exact Option.isSome_iff_exists.mp q
  · have e1' : os.contains x = true := e1
    have e2' : cl.lookup x = some c := e2
    rw [ok.noown x (List.contains_iff_mem.mp e1')] at e2'
    cases e2'
  · rcases (hf b hb).2.2.2.1 with z | z
    · exact I.ok.noex b o e z
    · exact absurd (Nat.lt_of_lt_of_le (Heap.lt_size (I.ok.bs b o e).1) z) (Nat.lt_irrefl _)
  · rcases List.mem_cons.mp (I.stkSub b z) with q | q
    · exact (hf b hb).2.1 q
    · exact (hf b hb).2.2.1 q
  · by_cases hi : i < os.length
    · have e2' : (os.map (fun _ => (none : Option V)) ++ freesOf js σ)[i]? = some (some v) := e2
      rw [List.getElem?_append_left (by rw [List.length_map]; exact hi), List.getElem?_map, List.getElem?_eq_getElem hi] at e2'
      cases e2'
    · have e1'' : (os ++ ys)[i]? = some y := e1
      have e2'' : (os.map (fun _ => (none : Option V)) ++ freesOf js σ)[i]? = some (some v) := e2
      rw [List.getElem?_append_right (by omega)] at e1''
      rw [List.getElem?_append_right (by rw [List.length_map]; omega), List.length_map] at e2''
      have e1' := e1''
      have e2 := e2''
      clear e1 e1'' e2''
      generalize i - os.length = i at e1' e2
      obtain ⟨j, hj, hN, hX, hc⟩ := ok.at_ i y e1'
      have e2' : (freesOf js σ)[i]? = some (some v) := e2
      unfold freesOf at e2'
      rw [List.getElem?_map, hj] at e2'
      have hs : σ[j]? = some (some v) := by
        cases q : σ[j]? with
        | none => rw [Option.map_some, q] at e2'; cases e2'
        | some o => rw [Option.map_some, q] at e2'; exact e2'
      obtain ⟨m, hn, hl⟩ := I.loc
      obtain ⟨u, r, l⟩ := hl j y v hN hs (hX.elim (fun z => .inr (.inl z)) fun z => .inr (.inr z))
      refine ⟨u, r, .inr ⟨hc, ?_⟩⟩
      rcases l with ⟨k, _⟩ | ⟨k, c, hcl, hcell⟩
      · have k' : X.env.scope.names.lookup y = some .local := k
        rcases hX with z | z <;> (rw [z] at k'; cases k')
      · have ex : ∃ c', cl.lookup y = some c' := by
          rcases hc with z | z
          · have q := lookup_all ok.has z
            simp only [beq_self_eq_true, Bool.true_or, Bool.not_true, Bool.false_or] at q
            exact Option.isSome_iff_exists.mp q
          · have q := lookup_all ok.has z
            simp only [beq_self_eq_true, Bool.or_true, Bool.not_true, Bool.false_or] at q
            exact Option.isSome_iff_exists.mp q
        obtain ⟨c', hc'⟩ := ex
        have e := sub y c' hc'
        rw [hcl] at e
        cases e
        obtain ⟨oc, hoc, hd⟩ := hcell
        exact ⟨c, hc', oc, hk _ _ hoc, hd⟩
  · obtain ⟨v, oc, hoc, hd⟩ := I.cell y c (sub y c e)
    exact ⟨v, oc, hk _ _ hoc, hd⟩
  · show (os.map (fun _ => (none : Option V)) ++ freesOf js σ).length = (os ++ ys).length
    simp [freesOf, ok.len]
theorem block_endT {H' : Hp} {h' : Heap} {σ' : St} (I : Inv X pins σ H s) (hf : ∀ b ∈ fp, FpOk X pins H b) (J : Inv (X.blockT scope cl s.heap.objs.size (os ++ ys) os fp s H) [] σ' H' s4) (hs : Heap.SameBut s.heap.objs.size s4.heap h') :
    Inv X pins σ H' { s4 with heap := h' } := by
  have low : ∀ b o, s.heap.get? b = some o → b ≠ s.heap.objs.size := fun b o e => Nat.ne_of_lt (Heap.lt_size e)
  have B := J.base
  have u : Un (frs X.stack) fp H H' s.heap h' := {
    keep := fun b o q n hb hx => (hs.2 b (low b o q)).trans (B.keep b o q n hb hx)
    slot := fun b o q n hb hx => by
      obtain ⟨sl, e⟩ := B.slot b o q n hb hx
      exact ⟨sl, (hs.2 b (low b o q)).trans e⟩
    free := B.free
    there := fun b o q hx => by
      obtain ⟨o', e⟩ := B.there b o q hx
      exact ⟨o', (hs.2 b (low b o q)).trans e⟩
    tups := B.tups
    frzs := B.frzs
    tbls := B.tbls }
  have hn : H' s.heap.objs.size = none := J.free
  have hk : HOk X.prog X.w H' h' := fun a o e => (J.hok a o e).stay (fun b v hb q => (hs.2 b (by
    intro z
    rcases hb with z' | z'
    · rw [← z', z, hn] at e; cases e
    · rw [z, hn] at z'; cases z')).trans q) (fun _ q => q) fun _ _ q => q
  exact I.call' (s' := { s4 with heap := h' }) (ch := fp) J.os u hk J.bare fun b hb => ⟨(hf b hb).2.2.2.1, (hf b hb).2.1, (hf b hb).2.2.2.2.1, (hf b hb).2.2.2.2.2⟩
end
section
variable {X : Cx} {scope : Scope} {cl : List (Str × Addr)} {os : List Str} {ys : List Str} {js : List Nat} {elt iter tg : Expr} {px pos : Pos} {wi : TI} {te : TE} {g : TG}
theorem pe_compT (hc : X.calm = true) (ok : CompOkT X scope cl os ys js) (hi : PI X tg iter wi)
    (hg : ∀ (C : Addr) (fp : List Addr) (s : Shared) (H : Hp), PG (X.blockT scope cl C (os ++ ys) os fp s H) tg g)
    (he : ∀ (C : Addr) (fp : List Addr) (s : Shared) (H : Hp), PE (X.blockT scope cl C (os ++ ys) os fp s H) elt te)
    (hs : ∀ x, foldedSetIterable iter X.env x = pure x := by intro _; rfl) : PE X (.ListComp elt [⟨tg, iter, [], 0⟩] scope pos) (tCompT wi os.length g js te) := by
  intro pins s σ H Q I h
  rw [eval_ListComp]
  have ncell : ∀ y ∈ scope.names, y.2 ≠ .cell := fun y hy z => by
    have q := List.all_eq_true.mp ok.nocell y hy
    rw [z] at q
    simp at q
  have nloc : ∀ y ∈ scope.names, y.2 = .local → scope.names.lookup y.1 = some .local := fun y hy z => by
    have q := List.all_eq_true.mp ok.loc y hy
    rw [z] at q
    simpa using q
  refine wpAny_comprehension_free (use := none) rfl hs ok.clos ok.kind nloc (thn (hi pins s σ H _ I h) fun v s1 h1 => thn h1 fun itv s2 h2 => ?_)
  obtain ⟨it, fp, tn, J, H2, rfl, I2, T, st2, f2, q2⟩ := h2
  obtain ⟨W, ⟨m0, w0⟩, turn⟩ := q2 s2.heap.objs.size (I2.hok.fresh (Nat.le_refl _))
  refine wpAny_newObj_type (wpAny_newFunctionEnv ncell (by intro y hy; simp at hy) (fun h1 hns hsb => ?_) ok.kind)
  have I3 := I2.laid (a := s2.heap.objs.size) (o := .lst []) (h' := s2.heap.push { cls := .type "list", dict := none, data := .seq ([] : List Value).toArray }) (t' := s2.toks) (fun b u q => Heap.get?_push_of_some _ q) (Nat.le_refl _)
    ⟨Nat.zero_le _, [], 0, .nil, Heap.get?_push_size _ rfl⟩
  have fpo : ∀ b ∈ fp, b < s2.heap.objs.size := fun b hb => by
    obtain ⟨o, e, _⟩ := T.obj 0 _ st2 b hb
    exact Heap.lt_size e
  have f3 : ∀ b ∈ fp, FpOk X pins (upd H2 s2.heap.objs.size (.lst [])) b := fun b hb => ⟨by rw [upd_ne (Nat.ne_of_lt (fpo b hb))]; exact (f2 b hb).1, (f2 b hb).2⟩
  generalize hs3 : ({ s2 with heap := s2.heap.push { cls := .type "list", dict := none, data := .seq ([] : List Value).toArray }, toks := s2.toks } : Shared) = s3 at I3
  have e3 : s3.heap = s2.heap.push { cls := .type "list", dict := none, data := .seq ([] : List Value).toArray } := by rw [← hs3]
  have lt3 : ∀ b ∈ fp, b < s3.heap.objs.size := fun b hb => by rw [e3, Heap.size_push]; exact Nat.lt_succ_of_lt (fpo b hb)
  dsimp only at hns hsb ⊢
  rw [← e3] at hns hsb
  have hk : ∀ b o, s3.heap.get? b = some o → h1.get? b = some o := fun b o e => hsb.extBut b o (Nat.ne_of_lt (Heap.lt_size e)) (Heap.get?_push_of_some _ e)
  have J0 := block_startT (h1 := h1) ok I3 f3 lt3 hns hk (s2.toks + 0)
  have t0 : tn 0 h1 := T.keep 0 _ _ st2 fun b hb o e => hk b o (by rw [e3]; exact Heap.get?_push_of_some _ e)
  have fpB : ∀ {H' : Hp}, (∀ b ∈ fp, H' b = none) → ∀ b ∈ fp, FpOk (X.blockT scope cl s3.heap.objs.size (os ++ ys) os fp s3 (upd H2 s2.heap.objs.size (.lst []))) [] H' b := fun {H'} hn b hb =>
    ⟨hn b hb, Nat.ne_of_lt (lt3 b hb), fun z => (List.mem_cons.mp (I3.stkSub b z)).elim (f3 b hb).2.1 (f3 b hb).2.2.1, .inl hb, fun x c e => (f3 b hb).2.2.2.2.1 x c (ok.sub (x, c) (PySem.mem_of_lookup e)), fun p hp => absurd (show p ∈ ([] : List (Addr × Obj)) from hp) (by simp)⟩
  have loop : codeAny (model X.prog X.w) X.A (.compLoop (.ListComp elt [⟨tg, iter, [], 0⟩] scope pos) 0 (.ref it) (.ref s2.heap.objs.size) (compEnvC scope cl s3.heap.objs.size X.env))
      (compPost (model X.prog X.w) X.A X.xe none (EP X pins σ Q) (.ref s2.heap.objs.size) s3.heap.objs.size) { s3 with heap := h1, toks := s2.toks + 0 } := by
    refine compLoop_own (fun n s' => ∃ i zs o0 H', Inv (X.blockT scope cl s3.heap.objs.size (os ++ ys) os fp s3 (upd H2 s2.heap.objs.size (.lst []))) [] (o0 ++ freesOf js σ) H' s' ∧ o0.length = os.length ∧ tn i s'.heap ∧ (∀ b ∈ fp, H' b = none) ∧ W i n zs H') ?_ m0
      ⟨0, [], os.map (fun _ => none), _, J0, List.length_map _, t0, fun b hb => (f3 b hb).1, w0⟩
    rintro n s5 ⟨i, zs, o0, H5, I5, l5, t5, n5, w5⟩
    obtain ⟨hD, hw⟩ := turn i n zs H5 w5
    rcases hw with ⟨stop, qn⟩ | ⟨go, hz, step⟩
    · refine thn (T.done (X.blockT scope cl s3.heap.objs.size (os ++ ys) os fp s3 (upd H2 s2.heap.objs.size (.lst []))) rfl rfl rfl hc i [] s5 _ H5 (fun _ _ => False) I5 (fpB n5) t5 stop) fun r s6 ⟨hr, I6⟩ => ?_
      subst hr
      obtain ⟨m, hn, _⟩ := id I6.loc
      exact ⟨m, hn, fun h' hs' => ⟨V.ref s2.heap.objs.size, H5, block_endT I3 f3 I6 hs', rfl, qn⟩⟩
    · refine thn (T.item (X.blockT scope cl s3.heap.objs.size (os ++ ys) os fp s3 (upd H2 s2.heap.objs.size (.lst []))) rfl rfl rfl hc i [] s5 _ H5 (fun _ _ => False) I5 (fpB n5) t5 go) fun r s6 ⟨u, hr, h6⟩ => ?_
      subst hr
      refine thn h6 fun _ s7 ⟨x, H7, I7, r7, y7, t7, n7⟩ => ?_
      have I7' := I7.pinned (fpB n7) (T.obj _ _ t7)
      have hst := step x H7 y7
      refine thn (hg _ _ _ _ _ s7 _ H7 x u _ I7' r7 (hst o0 l5)) fun _ s8 ⟨σ8, H8, I8, ⟨o8, l8, e8⟩, hst⟩ => ?_
      subst e8
      refine thn (he _ _ _ _ _ s8 _ H8 _ I8 hst) fun yv s9 ⟨y, H9, I9, r9, hD9, m', hm, w9⟩ => ?_
      refine thn (mt_append _ s9 _ H9 (.ref s2.heap.objs.size) [y] (.ref s2.heap.objs.size) [yv] (fun _ H' => H' = upd H9 s2.heap.objs.size (.lst (zs ++ [y]))) I9 rfl (.cons r9 .nil) ⟨_, zs, y, rfl, rfl, hD9, hz, rfl⟩) fun _ s10 ⟨_, H10, I10, _, e10⟩ => ?_
      subst e10
      refine ⟨m', hm, i + 1, zs ++ [y], o8, _, I10.unpinned, l8, T.keep _ _ _ t7 fun b hb o e => (I10.pin (b, o) (List.mem_append_right _ (List.mem_append_right _ (mem_pinsAt hb e)))).1, fun b hb => ?_, w9⟩
      obtain ⟨o, e, d⟩ := T.obj _ _ t7 b hb
      exact (I10.pin (b, o) (List.mem_append_right _ (List.mem_append_right _ (mem_pinsAt hb e)))).2.1
  subst hs3
  exact codeAny_compStart_list loop (T.self _ 0 _ _ _ t0 loop)
end
end L2

namespace Sw
open PySem L2 XH
theorem cokT {X : Cx} {scope : Scope} {cl : List (Str × Addr)} {os ys : List Str} {js : List Nat} (a : CompAt X scope ys js) (s : Subs X cl) (len : js.length = ys.length) (clos : closureFor scope X.env = pure cl) (nocell : (scope.names.all fun p => !(p.2 == .cell)) = true) (kind : scope.kind = .function)
    (loc : (scope.names.all fun p => !(p.2 == .local) || scope.names.lookup p.1 == some .local) = true) (has : ((relabel scope X.env).names.all fun p => !(p.2 == .cell || p.2 == .free) || (cl.lookup p.1).isSome) = true) (noown : (os.all fun x => (cl.lookup x).isNone) = true) : CompOkT X scope cl os ys js :=
  ⟨clos, nocell, kind, loc, s.all, has, fun x hx => by have := List.all_eq_true.mp noown x hx; simpa using this, a, len⟩
theorem pg_tupK {X : Cx} {K : PySem.W.Frag} {es : List Expr} {k : Nat} {t : TGs} {n : Nat} {pos : Pos} (hK : X.K = K) (hc : X.calm = true) (h : PGs X es t) (hn : (assignEach es X.env).length = n := by rfl) (hst : (assignEach es X.env).findIdx? (·.1) = none := by rfl) : PG X (.Tuple es k pos) (gTup K n t) := by
  subst hK
  exact pg_tup hc h hn hst
theorem pg_nameT {X : Cx} {scope : Scope} {cl : List (Str × Addr)} {C : Addr} {fp : List Addr} {s : Shared} {H : Hp} {os ys : List Str} {i : Nat} {x : Str} {pos : Pos} (nd : (os ++ ys).Nodup) (hi : (os ++ ys)[i]? = some x) (hl : (relabel scope X.env).names.lookup x = some .local) : PG (X.blockT scope cl C (os ++ ys) os fp s H) (.Name x pos) (gName i) :=
  pg_name (X := X.blockT scope cl C (os ++ ys) os fp s H) nd hi (.inl hl) (.inr hl)
end Sw
set_option Elab.async false
set_option linter.all false
set_option maxRecDepth 100000
namespace L2
open PySem PySem.Spec PyProof.Rows XH
section
variable {X : Cx} {scope : Scope} {cl : List (Str × Addr)} {os : List Str} {ys : List Str} {js : List Nat} {elt iter tg : Expr} {px pos : Pos} {wi : TI} {te : TE} {g : TG}
end
end L2
set_option Elab.async false
set_option linter.all false
set_option maxRecDepth 100000
namespace Sw
open PySem L2 XH
/-! ### packs -/
end Sw
namespace L2
open PySem PySem.Spec PyProof.Rows
end L2
namespace Sw
open PySem L2 XH
end Sw
set_option Elab.async false
set_option linter.all false
set_option maxRecDepth 100000
namespace Sw
open PySem L2 XH
/-! ### many needs: tops, bottoms, and how many figures of two a bottom has -/
end Sw
set_option Elab.async false
set_option linter.all false
set_option maxRecDepth 100000
namespace Sw
open PySem L2 XH
end Sw
namespace L2
open PySem PySem.Spec PyProof.Rows
end L2
set_option Elab.async false
set_option linter.all false
set_option maxRecDepth 100000
namespace Sw
open PySem L2 XH
/-! ### steps: their fields -/
/-! ### rounds -/
end Sw
set_option Elab.async false
set_option linter.all false
set_option maxRecDepth 100000
namespace L2
open PySem PySem.Spec PyProof.Rows XH
section
variable {X : Cx}
end
/-! ### things alike, of any depth -/
end L2
namespace Sw
open PySem L2 XH
def spNever : Sp := fun _ _ _ _ => False
/-! ### recipes -/
end Sw
set_option Elab.async false
set_option linter.all false
set_option maxRecDepth 100000
namespace L2
open PySem PySem.Spec PyProof.Rows XH Sw So
end L2
namespace Sw
open PySem L2 XH Hm
/-! ### breaches: lists of tuples (text, number) -/
end Sw
namespace L2
open PySem PySem.Spec PyProof.Rows XH Sw Hm
end L2
namespace Sw
open PySem L2 XH Hm
/-! ### plans -/
theorem getDo {α : Type} {xs : List α} {i : Nat} {v d : α} (h : xs[i]? = some v) : xs.getD i d = v := by rw [List.getD_eq_getElem?_getD, h]; rfl
theorem map_at {α : Type} {f : α → V} {xs : List α} {i : Nat} {x : α} (h : xs[i]? = some x) : (xs.map f)[i]? = some (f x) := by rw [List.getElem?_map, h]; rfl
end Sw
set_option Elab.async false
set_option linter.all false
set_option maxRecDepth 100000
namespace Sw
open PySem L2 XH Hm
/-! ### the law on turns and arcs: what its own defs promise -/
theorem fm {a n : Int} (h : 0 < n) : 0 ≤ a.fmod n ∧ a.fmod n < n := ⟨Int.fmod_nonneg_of_pos a h, Int.fmod_lt_of_pos a h⟩
end Sw
set_option Elab.async false
set_option linter.all false
set_option maxRecDepth 100000
namespace L2
open PySem PySem.Spec PyProof.Rows XH Sw Hm
end L2
namespace Sw
open PySem L2 XH Hm
end Sw
set_option Elab.async false
set_option linter.all false
set_option maxRecDepth 100000
namespace L2
open PySem PySem.Spec PyProof.Rows XH Sw Hm
section
variable {X : Cx} {pins : List (Addr × Obj)} {σ : St} {H : Hp} {s : Shared}
end
end L2
set_option Elab.async false
set_option linter.all false
set_option maxRecDepth 100000
namespace L2
open PySem PySem.Spec PyProof.Rows XH Sw Hm
theorem cut_dropB {xs : List V} {c : Nat} : cutV xs (some (c : Int)) none = xs.drop c := by
  by_cases h : c ≤ xs.length
  · exact cut_drop h
  · rw [List.drop_eq_nil_of_le (by omega)]
    apply List.eq_nil_of_length_eq_zero
    unfold cutV
    rw [List.length_take, List.length_drop]
    have : HT.sIx xs.length 0 (some (c : Int)) = xs.length := by
      show (if (c : Int) < 0 then ((c : Int) + (xs.length : Int)).toNat else min (c : Int).toNat xs.length) = xs.length
      rw [if_neg (by omega)]
      omega
    rw [this]
    omega
end L2
namespace Sw
open PySem L2 XH Hm
end Sw
set_option Elab.async false
set_option linter.all false
set_option maxRecDepth 100000
namespace L2
open PySem PySem.Spec PyProof.Rows XH Sw Hm
end L2
namespace Sw
open PySem L2 XH Hm
theorem lenOf1 {α : Type} {P : List α → Prop} (h : ∀ a, P [a]) : ∀ us : List α, us.length = 1 → P us
  | [a], _ => h a
theorem lenOf2 {α : Type} {P : List α → Prop} (h : ∀ a b, P [a, b]) : ∀ us : List α, us.length = 2 → P us
  | [a, b], _ => h a b
theorem lenOf3 {α : Type} {P : List α → Prop} (h : ∀ a b c, P [a, b, c]) : ∀ us : List α, us.length = 3 → P us
  | [a, b, c], _ => h a b c
end Sw
set_option Elab.async false
set_option linter.all false
set_option maxRecDepth 100000
namespace Sw
open PySem L2 XH Hm
/-- a def as it lies -/
abbrev FnAt (K : PySem.W.Frag) (f : Addr) (n q : Str) (st : Stmt) (dV : Value) : Prop := ∃ (oc : Value) (od : Option Addr) (kV dc pm : Value) (an : Option Addr) (cd ct : Value) (sl : Array (Option Value)), K.lookup f = some ⟨oc, od, .func (PySem.W.fnOf n q (defArgs st) (defBody st) (defScope st) dV kV dc pm an cd ct), sl⟩ ∧ PySem.W.codeIn K cd q = true ∧ PySem.W.keepIn K (.ref f) = true
abbrev GfAt (K : PySem.W.Frag) (f : Addr) (x : Str) (st : Stmt) (dV : Value) : Prop := PySem.W.nsIn K mainGlobals x = some (some (.ref f)) ∧ FnAt K f x x st dV
abbrev BdAt (n q : Str) (st : Stmt) (dV : Value) (ps : List Str) : Prop := ∀ (kV doc pm : Value) (an : Option Addr) (cdv ct : Value) (us : List Value), us.length = ps.length → bindArgs (PySem.W.fnOf n q (defArgs st) (defBody st) (defScope st) dV kV doc pm an cdv ct) ⟨us, []⟩ = pure (ps.zip us)
theorem scK {N P : List Str} {sc : Scope} (h : N.Nodup ∧ (∀ x ∈ P, sc.names.lookup x = some .local ∨ sc.names.lookup x = some .cell) ∧ ∀ y ∈ sc.names, y.2 ≠ .free) (h1 : sc.kind = .function := by rfl) (h2 : sc.isCoroutine = false := by rfl) (h3 : sc.isGenerator = false := by rfl) (h4 : N.take P.length = P := by rfl) : FnScope N P sc := ⟨h1, h2, h3, h.1, h4, h.2.1, h.2.2⟩
section
variable {P : Program} {w : World} {K : PySem.W.Frag} {mg : Str → Option Value} {base h : Heap} {CX : CXT} {k : Nat} {f c : Addr} {x m q : Str} {st : Stmt} {ps : List Str} {sp : Sp}
theorem FnAt.ex {n q : Str} {dV : Value} (a : FnAt K f n q st dV) : ∃ fd, FunD K n q st dV f fd ∧ PySem.W.keepIn K (.ref f) = true := by
  obtain ⟨_, _, _, _, _, _, _, _, _, l, c, k⟩ := a
  exact ⟨_, funD_mk (st := st) l c k, k⟩
/-- which program, world, heap -/
structure Bx (P : Program) (w : World) (base : Heap) : Prop
noncomputable def mkD (_ : Bx P w base) (X : K.In h) (G : h.Ns mainGlobals mg) (a : GfAt K f x st .none) (b : BdAt x x st .none ps) (ok : ∀ {fd : FuncData}, FunD K x x st .none f fd → FnOk P w K mg base CX k f fd ps sp) : Dx P w K mg base CX k x ps [] sp :=
  have e := a.2.ex
  ⟨f, e.choose, ok e.choose_spec.1, PySem.W.mg_of X G a.1, e.choose_spec.2, e.choose_spec.1.binds0 b, [], e.choose_spec.1.binds0 b, .nil⟩
end
end Sw
set_option Elab.async false
set_option linter.all false
set_option maxRecDepth 100000
namespace L2
open PySem PySem.Spec PyProof.Rows XH
/-! ### set(xs) of texts, alike or unlike: what lies in it, and that it can be walked -/
section
variable {prog : Program} {w : World} {A : Around} {E : Value → Shared → Prop} {s : Shared}
end
end L2
set_option Elab.async false
set_option linter.all false
set_option maxRecDepth 100000
namespace L2
open PySem PySem.Spec PyProof.Rows XH
section
variable {prog : Program} {w : World} {A : Around} {R : Result → Shared → Prop} {I : Addr} {fp wr : List Addr} {G : Array GenState → Array GenState → Prop} {n : Nat} {P : Nat → Value → Prop} {St : Nat → Shared → Prop}
end
section
variable {prog : Program} {w : World} {A : Around} {E : Value → Shared → Prop} {s : Shared}
end
end L2
set_option Elab.async false
set_option linter.all false
set_option maxRecDepth 100000
namespace L2
open PySem PySem.Spec PyProof.Rows XH
/-! ### a set of texts walked -/
section
variable {prog : Program} {w : World} {A : Around} {E : Value → Shared → Prop} {s : Shared}
end
end L2
set_option Elab.async false
set_option linter.all false
set_option maxRecDepth 100000
namespace L2
open PySem PySem.Spec PyProof.Rows XH
section
variable {prog : Program} {w : World} {A : Around} {E : Value → Shared → Prop} {s : Shared}
end
end L2
set_option Elab.async false
set_option linter.all false
set_option maxRecDepth 100000
namespace L2
open PySem PySem.Spec PyProof.Rows XH
section
variable {prog : Program} {w : World} {A : Around} {E : Value → Shared → Prop} {s : Shared}
end
end L2
set_option Elab.async false
set_option linter.all false
set_option maxRecDepth 100000
namespace L2
open PySem PySem.Spec PyProof.Rows XH
section
variable {prog : Program} {w : World} {A : Around} {E : Value → Shared → Prop} {s : Shared}
end
end L2
set_option Elab.async false
set_option linter.all false
set_option maxRecDepth 100000
namespace L2
open PySem PySem.Spec PyProof.Rows XH Sw So
section
variable {prog : Program} {w : World} {A : Around} {E : Value → Shared → Prop} {s : Shared}
end
end L2
set_option Elab.async false
set_option linter.all false
set_option maxRecDepth 100000
namespace L2
open PySem PySem.Spec PyProof.Rows XH Sw So
/-! ### sorted(set(xs)), xs texts -/
section
variable {X : Cx} {e : Expr} {te : TE} {p1 p2 pos pos2 : Pos}
end
end L2
set_option Elab.async false
set_option linter.all false
set_option maxRecDepth 100000
namespace L2
open PySem PySem.Spec PyProof.Rows XH
/-! ### the places of a set's table rise -/
end L2
set_option Elab.async false
set_option linter.all false
set_option maxRecDepth 100000
namespace L2
open PySem PySem.Spec PyProof.Rows XH
section
variable {prog : Program} {w : World} {A : Around} {E : Value → Shared → Prop} {s : Shared}
end
end L2
set_option Elab.async false
set_option linter.all false
set_option maxRecDepth 100000
namespace L2
open PySem PySem.Spec PyProof.Rows XH
section
variable {prog : Program} {w : World} {A : Around} {R : Result → Shared → Prop} {I : Addr} {fp wr : List Addr} {G : Array GenState → Array GenState → Prop} {n : Nat} {P : Nat → Value → Prop} {St : Nat → Shared → Prop}
end
section
variable {prog : Program} {w : World} {A : Around} {E : Value → Shared → Prop} {s : Shared}
end
end L2
set_option Elab.async false
set_option linter.all false
set_option maxRecDepth 100000
namespace L2
open PySem PySem.Spec PyProof.Rows XH Sw So
section
variable {prog : Program} {w : World} {A : Around} {E : Value → Shared → Prop} {s : Shared}
end
section
variable {prog : Program} {w : World} {A : Around} {E : Value → Shared → Prop} {s : Shared}
end
end L2
set_option Elab.async false
set_option linter.all false
set_option maxRecDepth 100000
namespace L2
open PySem PySem.Spec PyProof.Rows XH Sw So
/-! ### sorted(set(xs)), xs numbers -/
section
variable {X : Cx} {e : Expr} {te : TE} {p1 p2 pos pos2 : Pos}
end
end L2
set_option Elab.async false
set_option linter.all false
set_option maxRecDepth 100000
namespace L2
open PySem PySem.Spec PyProof.Rows XH Sw So
end L2
set_option Elab.async false
set_option linter.all false
set_option maxRecDepth 100000
namespace Sw
open PySem L2 XH Hm
/-! ### things as they lie, with the addresses that they reach -/
def isSq : HO → Bool
  | .lst _ => true
  | .tup _ => true
  | _ => false
abbrev RA (α : Type) := (Addr → Prop) → Hp → V → α → Prop
def An : Addr → Prop := fun _ => True
class Mv {α : Type} (R : RA α) : Prop where
  mv : ∀ {P P' : Addr → Prop} {H H' : Hp} {v : V} {x : α}, (∀ a o, P a → isSq o = true → H a = some o → P' a ∧ H' a = some o) → R P H v x → R P' H' v x
theorem mvS {α : Type} {R : RA α} [Mv R] {P : Addr → Prop} {H H' : Hp} {v : V} {x : α} (h : R P H v x) (g : Same H H') : R P H' v x := Mv.mv (fun a o p _ e => ⟨p, g a o e⟩) h
theorem mvP {α : Type} {R : RA α} [Mv R] {P P' : Addr → Prop} {H : Hp} {v : V} {x : α} (h : R P H v x) (g : ∀ a, P a → P' a) : R P' H v x := Mv.mv (fun a o p _ e => ⟨g a p, e⟩) h
theorem mvA {α : Type} {R : RA α} [Mv R] {P : Addr → Prop} {H : Hp} {v : V} {x : α} (h : R P H v x) : R An H v x := mvP h fun _ _ => trivial
/-- one address, which isn't reached, may change -/
theorem mvU {α : Type} {R : RA α} [Mv R] {P : Addr → Prop} {H : Hp} {v : V} {x : α} {l : Addr} (h : R P H v x) (n : ¬ P l) (o : HO) : R P (upd H l o) v x := Mv.mv (fun a u p _ e => ⟨p, by
    have : a ≠ l := fun z => n (by rw [← z]; exact p)
    rw [upd_ne this]
    exact e⟩) h
def A2 {α : Type} (R : V → α → Prop) (vs : List V) (xs : List α) : Prop := vs.length = xs.length ∧ ∀ (i : Nat) (v : V) (x : α), vs[i]? = some v → xs[i]? = some x → R v x
theorem A2.imp {α : Type} {R S : V → α → Prop} {vs : List V} {xs : List α} (h : A2 R vs xs) (f : ∀ v x, R v x → S v x) : A2 S vs xs := ⟨h.1, fun i v x e1 e2 => f v x (h.2 i v x e1 e2)⟩
theorem A2.get {α : Type} {R : V → α → Prop} {vs : List V} {xs : List α} (h : A2 R vs xs) {i : Nat} {x : α} (e : xs[i]? = some x) : ∃ v, vs[i]? = some v ∧ R v x := by
  have il : i < vs.length := by rw [h.1]; exact (List.getElem?_eq_some_iff.mp e).1
  exact ⟨_, List.getElem?_eq_getElem il, h.2 i _ x (List.getElem?_eq_getElem il) e⟩
theorem A2.at_ {α : Type} {R : V → α → Prop} {vs : List V} {xs : List α} (h : A2 R vs xs) {i : Nat} {v : V} (e : vs[i]? = some v) : ∃ x, xs[i]? = some x ∧ R v x := by
  have il : i < xs.length := by rw [← h.1]; exact (List.getElem?_eq_some_iff.mp e).1
  exact ⟨_, List.getElem?_eq_getElem il, h.2 i v _ e (List.getElem?_eq_getElem il)⟩
theorem A2.nil {α : Type} {R : V → α → Prop} : A2 R [] ([] : List α) := ⟨rfl, fun i a x e => by simp at e⟩
theorem A2.append {α : Type} {R : V → α → Prop} {as bs : List V} {xs ys : List α} (h : A2 R as xs) (k : A2 R bs ys) : A2 R (as ++ bs) (xs ++ ys) := by
  refine ⟨by simp [h.1, k.1], fun i a x e1 e2 => ?_⟩
  by_cases c : i < as.length
  · rw [List.getElem?_append_left c] at e1
    rw [List.getElem?_append_left (by rw [← h.1]; exact c)] at e2
    exact h.2 i a x e1 e2
  · rw [List.getElem?_append_right (by omega)] at e1
    rw [List.getElem?_append_right (by rw [← h.1]; omega), ← h.1] at e2
    exact k.2 _ a x e1 e2
theorem A2.one {α : Type} {R : V → α → Prop} {v : V} {x : α} (h : R v x) : A2 R [v] [x] := ⟨rfl, fun i a y e1 e2 => by
  cases i with
  | zero => simp at e1 e2; subst e1 e2; exact h
  | succ n => simp at e1⟩
theorem A2.snoc {α : Type} {R : V → α → Prop} {vs : List V} {xs : List α} (h : A2 R vs xs) {v : V} {x : α} (r : R v x) : A2 R (vs ++ [v]) (xs ++ [x]) := h.append (.one r)
/-- a list at an address, what it holds within P -/
def LsA {α : Type} (R : RA α) (P : Addr → Prop) (H : Hp) (l : Addr) (xs : List α) : Prop := ∃ vs, H l = some (.lst vs) ∧ A2 (R P H) vs xs
def rLst {α : Type} (R : RA α) : RA (List α) := fun P H v xs => ∃ l, v = .ref l ∧ P l ∧ LsA R P H l xs
instance {α : Type} {R : RA α} [Mv R] : Mv (rLst R) where
  mv := fun {P P' H H' v x} g h => by
    obtain ⟨l, rfl, p, vs, e, r⟩ := h
    obtain ⟨p', e'⟩ := g l _ p rfl e
    exact ⟨l, rfl, p', vs, e', r.imp fun v x q => Mv.mv g q⟩
def rVal {α : Type} (f : α → V) : RA α := fun _ _ v x => v = f x
instance {α : Type} {f : α → V} : Mv (rVal f) where
  mv := fun _ h => h
theorem A2.val {α : Type} {f : α → V} {P : Addr → Prop} {H : Hp} {vs : List V} {xs : List α} (h : A2 (rVal f P H) vs xs) : vs = xs.map f := by
  apply List.ext_getElem (by rw [List.length_map]; exact h.1)
  intro i h1 h2
  rw [List.getElem_map]
  exact h.2 i _ _ (List.getElem?_eq_getElem h1) (List.getElem?_eq_getElem (by rw [List.length_map] at h2; exact h2))
theorem A2.ofVal {α : Type} (f : α → V) (P : Addr → Prop) (H : Hp) (xs : List α) : A2 (rVal f P H) (xs.map f) xs := ⟨List.length_map _, fun i v x e1 e2 => by
  rw [List.getElem?_map, e2] at e1
  cases e1
  rfl⟩
theorem LsA.same {α : Type} {R : RA α} [Mv R] {P : Addr → Prop} {H H' : Hp} {l : Addr} {xs : List α} (h : LsA R P H l xs) (g : Same H H') : LsA R P H' l xs := let ⟨vs, e, r⟩ := h; ⟨vs, g _ _ e, r.imp fun _ _ q => mvS q g⟩
theorem LsA.any {α : Type} {R : RA α} [Mv R] {P : Addr → Prop} {H : Hp} {l : Addr} {xs : List α} (h : LsA R P H l xs) : LsA R An H l xs := let ⟨vs, e, r⟩ := h; ⟨vs, e, r.imp fun _ _ q => mvA q⟩
theorem LsA.mono {α : Type} {R : RA α} [Mv R] {P P' : Addr → Prop} {H : Hp} {l : Addr} {xs : List α} (h : LsA R P H l xs) (g : ∀ a, P a → P' a) : LsA R P' H l xs := let ⟨vs, e, r⟩ := h; ⟨vs, e, r.imp fun _ _ q => mvP q g⟩
/-- another list is changed -/
theorem LsA.upd {α : Type} {R : RA α} [Mv R] {P : Addr → Prop} {H : Hp} {l x : Addr} {xs : List α} (h : LsA R P H l xs) (n : ¬ P x) (lx : l ≠ x) (o : HO) : LsA R P (L2.upd H x o) l xs := by
  obtain ⟨vs, e, r⟩ := h
  exact ⟨vs, by rw [upd_ne lx]; exact e, r.imp fun _ _ q => mvU q n o⟩
theorem LsA.put {α : Type} {R : RA α} [Mv R] {P : Addr → Prop} {H : Hp} {l : Addr} {vs : List V} {xs : List α} {v : V} {x : α} (n : ¬ P l) (r : A2 (R P H) vs xs) (h : R P H v x) : LsA R P (L2.upd H l (.lst (vs ++ [v]))) l (xs ++ [x]) :=
  ⟨_, upd_same, (r.snoc h).imp fun _ _ q => mvU q n _⟩
theorem LsA.new {α : Type} {R : RA α} {P : Addr → Prop} {H : Hp} {l : Addr} : LsA R P (L2.upd H l (.lst [])) l ([] : List α) := ⟨[], upd_same, A2.nil⟩
end Sw
namespace L2
open PySem PySem.Spec PyProof.Rows XH Sw Hm
/-- a comprehension without a test, whatever is walked -/
theorem comp_R {J : It} {β : Type} {n : Nat} {js : List Nat} {te : TE} {σ : L2.St} {H1 : Hp} {Q : VK} (R : RA β) [Mv R] (Z : Addr → Prop) (f : Nat → β) (hz : n ≤ sizeLine) (hZ : ∀ a, Z a → H1 a ≠ none)
    (hgo : ∀ i H2, Same H1 H2 → i < n → J.go i H2) (hst : ∀ H2, Same H1 H2 → J.stop n H2)
    (step : ∀ i, i < n → ∀ H2 x H3, Same H1 H2 → J.yld i H2 x H3 → H3 = H2 ∧ ∀ Q' : VK, (∀ y H5, Same H2 H5 → R (fun a => H2 a = none ∨ Z a) H5 y (f i) → Q' y H5) → te (some x :: freesOf js σ) H2 Q')
    (fin : ∀ p H', H1 p = none → Same H1 H' → LsA R (fun a => a ≠ p ∧ (H1 a = none ∨ Z a)) H' p ((List.range n).map f) → Q (.ref p) H') : compR js te σ Q J H1 := by
  intro p hp
  refine ⟨fun i m ys H2 => i ≤ n ∧ m = n - i ∧ Same H1 H2 ∧ H2 p = some (.lst ys) ∧ A2 (R (fun a => a ≠ p ∧ (H1 a = none ∨ Z a)) H2) ys ((List.range i).map f), ⟨n, Nat.zero_le _, rfl, Sw.same_new hp _, upd_same, A2.nil⟩, ?_⟩
  rintro i m ys H2 ⟨hi, rfl, g, e, r⟩
  refine ⟨e, ?_⟩
  by_cases hin : i < n
  · refine .inr ⟨hgo i H2 g hin, ?_, fun x H3 hy => ?_⟩
    · have := r.1
      rw [List.length_map, List.length_range] at this
      omega
    obtain ⟨rfl, h2⟩ := step i hin H2 x H3 g hy
    refine h2 _ fun y H5 g5 ry => ⟨g5 _ _ e, n - (i + 1), by omega, hin, rfl, Sw.sUpd (g.trans g5) hp _, upd_same, ?_⟩
    rw [List.range_succ, List.map_append]
    have np : ¬ (p ≠ p ∧ (H1 p = none ∨ Z p)) := fun z => z.1 rfl
    refine ((r.imp fun v b q => mvS q g5).snoc (mvP ry fun a ha => ?_)).imp fun v b q => mvU q np _
    rcases ha with h | h
    · exact ⟨(fun z => by rw [z, e] at h; cases h), .inl (g.free h)⟩
    · exact ⟨fun z => hZ a h (z ▸ hp), .inr h⟩
  · have e2 : i = n := by omega
    subst e2
    exact .inl ⟨hst H2 g, fin p H2 hp g ⟨ys, e, r⟩⟩
section
variable {K : PySem.W.Frag} {β : Type} {a : Addr} {xs : List V} {n : Nat} {js : List Nat} {tc : TT} {te : TE} {σ : L2.St} {H1 : Hp} {Q : VK}
theorem comp_Rl (R : RA β) [Mv R] (Z : Addr → Prop) (f : Nat → β) (hS : SqL K H1 a xs) (hz : xs.length ≤ sizeLine) (hZ : ∀ a, Z a → H1 a ≠ none)
    (s2 : ∀ i x, xs[i]? = some x → ∀ H2, Same H1 H2 → ∀ Q' : VK, (∀ y H5, Same H2 H5 → R (fun a => H2 a = none ∨ Z a) H5 y (f i) → Q' y H5) → te (some x :: freesOf js σ) H2 Q')
    (fin : ∀ p H', H1 p = none → Same H1 H' → LsA R (fun a => a ≠ p ∧ (H1 a = none ∨ Z a)) H' p ((List.range xs.length).map f) → Q (.ref p) H') : compR js te σ Q (Itl K a) H1 := by
  refine comp_R R Z f hz hZ (fun i H2 g hi => ⟨xs, xs[i], g.seq hS, List.getElem?_eq_getElem hi⟩) (fun H2 g => ⟨xs, g.seq hS, Nat.le_refl _⟩) (fun i hi H2 x H3 g hy => ?_) fin
  obtain ⟨rfl, hx⟩ := hy
  exact ⟨rfl, s2 i x (hx xs (g.seq hS)) _ g⟩
theorem comp_RrH {hd : Option Value} (R : RA β) [Mv R] (Z : Addr → Prop) (f : Nat → β) (hok : HdOk hd H1) (hz : n ≤ sizeLine) (hZ : ∀ a, Z a → H1 a ≠ none)
    (s2 : ∀ i : Nat, i < n → ∀ H2, Same H1 H2 → ∀ Q' : VK, (∀ y H5, Same H2 H5 → R (fun a => H2 a = none ∨ Z a) H5 y (f i) → Q' y H5) → te (some (.int (0 + (i : Int))) :: freesOf js σ) H2 Q')
    (fin : ∀ p H', H1 p = none → Same H1 H' → LsA R (fun a => a ≠ p ∧ (H1 a = none ∨ Z a)) H' p ((List.range n).map f) → Q (.ref p) H') : compR js te σ Q (ItrH hd 0 n) H1 := by
  refine comp_R R Z f hz hZ (fun i H2 g hi => hi) (fun H2 g => ⟨Nat.le_refl n, hdSame hok g⟩) (fun i hi H2 x H3 g hy => ?_) fin
  obtain ⟨rfl, rfl⟩ := hy
  exact ⟨rfl, s2 i hi _ g⟩
end
end L2
namespace Sw
open PySem L2 XH Hm
/-! ### things alike -/
end Sw
set_option Elab.async false
set_option linter.all false
set_option maxRecDepth 100000
namespace Sw
open PySem L2 XH PySem.NumText
/-! ### names -/
def letT : Str := "abcdefghijklmnopqrstuvwxyz"
def Nm (z : Str) : Prop := 1 ≤ (sL z).length ∧ (sL z).length ≤ 12 ∧ ∀ c ∈ sL z, 97 ≤ c ∧ c ≤ 122
theorem let_mem (c : Nat) : (!(Builtin.Str.occurrences letT (mkS [c]) 0 letT.length 1).isEmpty) = decide (97 ≤ c ∧ c ≤ 122) := by
  rw [in_one]
  have e : sL letT = (List.range 26).map (97 + ·) := by decide
  rw [e]
  apply decide_eq_decide.mpr
  constructor
  · intro h
    obtain ⟨i, hi, rfl⟩ := List.mem_map.mp h
    have := List.mem_range.mp hi
    omega
  · intro h
    exact List.mem_map.mpr ⟨c - 97, List.mem_range.mpr (by omega), by omega⟩
def spIsName (K : PySem.W.Frag) : Sp := fun vs H Q _ => ∃ x : V, vs = [x] ∧ ((∃ z : Str, x = .str z ∧ z.length ≤ 1000000 ∧ (Nm z → Q (.bl true) H) ∧ (¬ Nm z → Q (.bl false) H)) ∨ ∃ ty, TyOf K H x ty ∧ PySem.W.kitOne K ty (.type "str") = some false ∧ Q (.bl false) H)
end Sw
set_option Elab.async false
set_option linter.all false
set_option maxRecDepth 100000
namespace Sw
open PySem L2 XH Hm
/-! ### nets with tools and uses -/
/-! ### the net's own defs -/
/-! ### plans -/
/-! ### what the plans' defs promise -/
section
variable (C : Addr)
end
end Sw
namespace L2
open PySem PySem.Spec PyProof.Rows XH Sw
end L2
namespace Sw
open PySem L2 XH Hm
theorem rng_getD {α : Type} (xs : List α) (d : α) : (List.range xs.length).map (fun i => xs.getD i d) = xs := by
  apply List.ext_getElem
  · rw [List.length_map, List.length_range]
  · intro i h1 h2
    rw [List.getElem_map, List.getElem_range, getDo (List.getElem?_eq_getElem h2)]
end Sw
set_option Elab.async false
set_option linter.all false
set_option maxRecDepth 100000
namespace Sw
open PySem L2 XH Hm
end Sw
set_option Elab.async false
set_option linter.all false
set_option maxRecDepth 100000
namespace Sw
open PySem L2 XH
/-! ### larders: names refused -/
end Sw
set_option Elab.async false
set_option linter.all false
set_option maxRecDepth 100000
namespace Sw
open PySem L2 PyProof.Rows So
end Sw
set_option Elab.async false
set_option linter.all false
set_option maxRecDepth 100000
namespace Sw
open PySem L2 XH PyProof.Rows
end Sw
namespace Sw
open PySem L2 XH PyProof.Rows
end Sw
set_option Elab.async false
set_option linter.all false
set_option maxRecDepth 100000
namespace Sw
open PySem L2 XH PyProof.Rows
/-! ### steps with their uses and second ways -/
end Sw
set_option Elab.async false
set_option linter.all false
set_option maxRecDepth 100000
namespace L2
open PySem PySem.Spec PyProof.Rows XH Sw
end L2
namespace Sw
open PySem L2 XH PyProof.Rows
end Sw
set_option Elab.async false
set_option linter.all false
set_option maxRecDepth 100000
namespace L2
open PySem PySem.Spec PyProof.Rows XH Sw
theorem vals_refs' {cs : List Addr} {its : List Value} (h : Vals (cs.map V.ref) its) : its = cs.map Value.ref := by
  induction cs generalizing its with
  | nil => cases h; rfl
  | cons c cs ih =>
    cases h with
    | cons r rr => cases r; rw [ih rr]; rfl
/-- isinstance(e, (C, ..)) of a refusal -/
theorem call_isiXt {X : Cx} {K : PySem.W.Frag} (hK : X.K = K) : CallR X (.builtin "isinstance") (fun xs H Q => ∃ (a C : Addr) (dx : Option Addr) (t : Addr) (cs : List Addr) (b : Bool), xs = [.ref a, .ref t] ∧ (∃ n, H a = some (excB n a (.ref C) dx)) ∧ XDict H dx ∧ XI K C ∧ H t = some (.tup (cs.map V.ref)) ∧ PySem.W.kitAny K (.ref C) (cs.map Value.ref) = some b ∧ Q (.bl b) H) := by
  subst hK
  intro pins s σ H xs us Q I r h
  obtain ⟨a, C, dx, t, cs, b, rfl, ⟨n, e⟩, d, xi, et, ka, q⟩ := h
  obtain ⟨u, w', rfl, e1, e2⟩ := vals2 r
  cases e1
  cases e2
  obtain ⟨_, its, hv, ht⟩ := (show ObjOk X.prog X.w H s.heap t (.tup (cs.map V.ref)) from I.hok t _ et)
  rw [vals_refs' hv] at ht
  obtain ⟨⟨oc, od, odt, osl⟩, hg, h1, m, h2⟩ := ht
  cases h1
  cases h2
  exact PySem.W.kia_tup (kitx_exc xi) I.kIn (inst_of I e d) hg ka (fun z => nomatch z) fun tk => ⟨.bl b, H, I.tok tk, rfl, q⟩
/-! ### long lists of constants and small displays -/
section
variable {X : Cx} {es es' : List Expr} {t t' : TA} {p : Pos} 
end
section
variable {X : Cx} {k j : Nat} {f C : Addr} {ps : List Str} {sp : Sp} {dvs : List V} {x m : Str} {p pos apos : Pos} {e o : Expr} {es : List Expr} {ta tb : TE} {t : TA} {E : L2.St → XK}
end
end L2
set_option Elab.async false
set_option linter.all false
set_option maxRecDepth 100000
namespace L2
open PySem PySem.Spec PyProof.Rows XH Sw
/-! ### pairs of texts in a list of such -/
section
variable {X : Cx} {pins : List (Addr × Obj)} {σ : St} {H : Hp} {s : Shared}
end
end L2
set_option Elab.async false
set_option linter.all false
set_option maxRecDepth 100000
namespace Sw
open PySem L2 XH PyProof.Rows
/-! ### names by letters -/
def Lt (z : Str) : Prop := ∀ c ∈ sL z, 97 ≤ c ∧ c ≤ 122
theorem Lt.app {x y : Str} (h : Lt x) (k : Lt y) : Lt (x ++ y) := fun c hc => by
  rw [sL_app] at hc
  rcases List.mem_append.mp hc with q | q
  · exact h c q
  · exact k c q
theorem Lt.nil : Lt "" := fun c hc => by
  have : c ∈ ([] : List Nat) := hc
  simp at this
theorem Lt.one {c : Nat} (h : 97 ≤ c ∧ c ≤ 122) : Lt ⟨#[c]⟩ := fun d hd => by
  have : d ∈ [c] := hd
  rw [List.mem_singleton.mp this]
  exact h
theorem Lt.nm {z : Str} (h : Lt z) (h1 : 1 ≤ z.length) (h2 : z.length ≤ 12) : Nm z := ⟨by rw [sL_len]; exact h1, by rw [sL_len]; exact h2, h⟩
end Sw
set_option Elab.async false
set_option linter.all false
set_option maxRecDepth 100000
namespace L2
open PySem PySem.Spec PyProof.Rows XH Sw
end L2
namespace Sw
open PySem L2 XH Hm PySem.NumText
/-! ### tools of the laws' nets -/
end Sw
namespace L2
open PySem PySem.Spec PyProof.Rows XH Sw
end L2
set_option Elab.async false
set_option linter.all false
set_option maxRecDepth 100000
namespace Sw
open PySem L2 XH Hm
/-! ### the law on tools at turns -/
end Sw
set_option Elab.async false
set_option linter.all false
set_option maxRecDepth 100000
namespace Sw
open PySem L2 XH Hm
/-! ### chains: what counts between two points, totals -/
def oV : Option Int → V
  | none => .non
  | some g => .int g
end Sw
set_option Elab.async false
set_option linter.all false
set_option maxRecDepth 100000
namespace Sw
open PySem L2 XH Hm
/-! ### walks back along what is kept of a raise -/
/-! lists of such walks -/
/-! ### totals of such walks, told from their ends -/
end Sw
namespace L2
open PySem PySem.Spec PyProof.Rows XH Sw Hm
end L2
set_option Elab.async false
set_option linter.all false
set_option maxRecDepth 100000
namespace L2
open PySem PySem.Spec PyProof.Rows XH Sw
section
variable {X : Cx}
end
/-! ### len(set(xs)), xs any numbers -/
section
variable {X : Cx} {e : Expr} {te : TE} {p1 p2 pos pos2 : Pos}
end
end L2
namespace Sw
open PySem L2 XH Hm
/-! ### cases -/
section
variable (C : Addr)
end
/-! ### clashes -/
section
variable (C : Addr)
end
end Sw
set_option Elab.async false
set_option linter.all false
set_option maxRecDepth 100000
namespace Sw
open PySem L2 XH Hm
/-! ### what calls and operators ask, by short names: the text's objects are fewer -/
end Sw
set_option Elab.async false
set_option linter.all false
set_option maxRecDepth 100000
namespace Sw
open PySem L2 XH Hm
/-! ### steps of a reading by lemmas: the rest is copied once -/
end Sw
set_option Elab.async false
set_option linter.all false
set_option maxRecDepth 100000
namespace L2
open PySem PySem.Spec PyProof.Rows XH Sw
/-! ### pairs of numbers in a list of such -/
section
variable {X : Cx} {pins : List (Addr × Obj)} {σ : St} {H : Hp} {s : Shared}
end
end L2
set_option Elab.async false
set_option linter.all false
set_option maxRecDepth 100000
namespace Sw
open PySem L2 XH Hm
/-! ### crowds -/
/-! ### what the defs promise -/
section
variable (C : Addr)
end
end Sw
namespace Sw
open PySem L2 XH Hm
end Sw
set_option Elab.async false
set_option linter.all false
set_option maxRecDepth 100000
namespace Sw
open PySem L2 XH Hm PySem.NumText
/-! ### nets built round a plan -/
end Sw
set_option Elab.async false
set_option linter.all false
set_option maxRecDepth 100000
namespace L2
open PySem
end L2
namespace Sw
open PySem L2 XH Hm PySem.NumText
/-! ### clashes, told by the law's own rows -/
end Sw
set_option Elab.async false
set_option linter.all false
set_option maxRecDepth 100000
namespace L2
open PySem
end L2
namespace Sw
open PySem L2 XH Hm PySem.NumText
/-! ### a built plan fits; of tasks that clash some run ends before another begins -/
section
variable {f : Int} {n0 n1 : Str} {m0 m1 : Int} {hs1 hs2 : List Int} {T : Tk} {R : List Rn} {M : List Int}
end
end Sw
set_option Elab.async false
set_option linter.all false
set_option maxRecDepth 100000
namespace L2
open PySem
end L2
namespace Sw
open PySem L2 XH Hm PySem.NumText
/-! ### wants, works and heats, told by the law's own sums -/
end Sw
set_option Elab.async false
set_option linter.all false
set_option maxRecDepth 100000
namespace Sw
open PySem L2 XH Hm PySem.NumText
/-! ### the arcs of a case -/
end Sw
set_option Elab.async false
set_option linter.all false
set_option maxRecDepth 100000
namespace L2
open PySem PySem.Spec PyProof.Rows XH
end L2
namespace Sw
open PySem L2 XH Hm PySem.NumText
/-! ### whether a plan obeys a case -/
end Sw
set_option Elab.async false
set_option linter.all false
set_option maxRecDepth 100000
namespace Sw
open PySem L2 XH Hm PySem.NumText
/-! ### cases told: copies that are new (k65) -/
end Sw
namespace L2
open PySem PySem.Spec PyProof.Rows XH Sw Hm
end L2
namespace Sw
open PySem L2 XH Hm PySem.NumText
end Sw
namespace Sw
open PySem L2 XH Hm PySem.NumText
end Sw
set_option Elab.async false
set_option linter.all false
set_option maxRecDepth 100000
namespace L2
open PySem PySem.Spec PyProof.Rows XH Sw Hm
/-- a comprehension over zip -/
theorem comp_Rz {K : PySem.W.Frag} {β : Type} {l1 l2 : Addr} {xs ys : List V} {n : Nat} {g : TG} {js : List Nat} {te : TE} {σ : L2.St} {H1 : Hp} {Q : VK} (R : RA β) [Mv R] (Z : Addr → Prop) (f : Nat → β) (q1 : SqL K H1 l1 xs) (q2 : SqL K H1 l2 ys) (hz : min xs.length ys.length ≤ sizeLine) (hZ : ∀ a, Z a → H1 a ≠ none)
    (step : ∀ (i : Nat) (x y : V), xs[i]? = some x → ys[i]? = some y → ∀ H2, Same H1 H2 → ∀ T, H2 T = none → ∀ o : L2.St, o.length = n → ∀ Q' : VK, (∀ v H5, Same (upd H2 T (.tup [x, y])) H5 → R (fun a => H2 a = none ∨ Z a) H5 v (f i) → Q' v H5) →
      g (.ref T) (o ++ freesOf js σ) (upd H2 T (.tup [x, y])) fun σ4 H4 => (∃ o' : L2.St, o'.length = n ∧ σ4 = o' ++ freesOf js σ) ∧ te σ4 H4 Q')
    (fin : ∀ p H', H1 p = none → Same H1 H' → LsA R (fun a => a ≠ p ∧ (H1 a = none ∨ Z a)) H' p ((List.range (min xs.length ys.length)).map f) → Q (.ref p) H') : compRT n g js te σ Q (Itz K l1 l2) H1 := by
  intro p hp
  refine ⟨fun i m zs H2 => i ≤ min xs.length ys.length ∧ m = min xs.length ys.length - i ∧ Same H1 H2 ∧ H2 p = some (.lst zs) ∧ A2 (R (fun a => a ≠ p ∧ (H1 a = none ∨ Z a)) H2) zs ((List.range i).map f), ⟨min xs.length ys.length, Nat.zero_le _, rfl, Sw.same_new hp _, upd_same, A2.nil⟩, ?_⟩
  rintro i m zs H2 ⟨hi, rfl, gg, e, r⟩
  refine ⟨e, ?_⟩
  have s1 := gg.seq q1
  have s2 := gg.seq q2
  by_cases hin : i < min xs.length ys.length
  · refine .inr ⟨⟨xs, ys, xs[i]'(by omega), ys[i]'(by omega), s1, s2, List.getElem?_eq_getElem _, List.getElem?_eq_getElem _⟩, ?_, fun x H3 hy o ho => ?_⟩
    · have := r.1
      rw [List.length_map, List.length_range] at this
      omega
    obtain ⟨T, a, b, rfl, nT, ha, hb, rfl⟩ := hy
    have gT := Sw.same_new nT (.tup [a, b])
    refine step i a b (ha xs s1) (hb ys s2) H2 gg T nT o ho _ fun v H5 g5 ry => ?_
    have g25 := gT.trans g5
    refine ⟨g25 _ _ e, min xs.length ys.length - (i + 1), by omega, hin, rfl, Sw.sUpd (gg.trans g25) hp _, upd_same, ?_⟩
    rw [List.range_succ, List.map_append]
    have np : ¬ (p ≠ p ∧ (H1 p = none ∨ Z p)) := fun z => z.1 rfl
    refine ((r.imp fun v b q => mvS q g25).snoc (mvP ry fun a ha => ?_)).imp fun v b q => mvU q np _
    rcases ha with h | h
    · exact ⟨(fun z => by rw [z, e] at h; cases h), .inl (gg.free h)⟩
    · exact ⟨fun z => hZ a h (z ▸ hp), .inr h⟩
  · have e2 : i = min xs.length ys.length := by omega
    subst e2
    exact .inl ⟨⟨xs, ys, s1, s2, by omega⟩, fin p H2 hp gg ⟨zs, e, r⟩⟩
end L2
namespace Sw
open PySem L2 XH Hm PySem.NumText
/-! ### stretches -/
end Sw
namespace Sw
open PySem L2 XH Hm PySem.NumText
theorem two_of {α : Type} {o : List α} (h : o.length = 2) : ∃ a b, o = [a, b] := by
  match o, h with
  | [a, b], _ => exact ⟨a, b, rfl⟩
theorem flatO (os : List (Option Int)) : (os.map oV).all flatV = true := by
  rw [List.all_eq_true]
  intro y hy
  obtain ⟨o, _, rfl⟩ := List.mem_map.mp hy
  cases o <;> rfl
theorem inO (os : List (Option Int)) : inV .non (os.map oV) = os.any fun o => o.isNone := by
  unfold inV
  rw [List.any_map]
  congr 1
  funext o
  cases o <;> rfl
theorem inO2 {os : List (Option Int)} {A B : Prop} (h1 : none ∈ os → A) (h2 : none ∉ os → B) : if (if false = true then !inV .non (os.map oV) else inV .non (os.map oV)) = true then A else B := by
  rw [if_neg (show ¬ (false = true) by decide), inO]
  by_cases h : none ∈ os
  · rw [if_pos]
    · exact h1 h
    · rw [List.any_eq_true]
      exact ⟨none, h, rfl⟩
  · rw [if_neg]
    · exact h2 h
    · rw [List.any_eq_true]
      rintro ⟨o, ho, e⟩
      cases o with
      | none => exact h ho
      | some _ => cases e
end Sw
namespace Sw
open PySem L2 XH Hm PySem.NumText
end Sw
namespace Sw
open PySem L2 XH Hm PySem.NumText
end Sw
namespace L2
open PySem PySem.Spec PyProof.Rows XH Sw Hm
end L2
namespace Sw
open PySem L2 XH Hm PySem.NumText
end Sw
namespace Sw
open PySem L2 XH Hm PySem.NumText
end Sw
namespace Sw
open PySem L2 XH Hm PySem.NumText
end Sw
namespace Sw
open PySem L2 XH Hm PySem.NumText
end Sw
set_option Elab.async false
set_option linter.all false
set_option maxRecDepth 100000
namespace L2
open PySem PySem.Spec PyProof.Rows XH Sw
theorem call_strV {X : Cx} : CallR X (.type "str") (fun xs H Q => (∃ i, xs = [.int i] ∧ i.natAbs.log2 < 1920 ∧ Q (.str (toString i)) H) ∨ ∃ z, xs = [.str z] ∧ Q (.str z) H) := by
  intro pins s σ H xs us Q I r h
  rcases h with h | ⟨z, rfl, q⟩
  · exact call_str_int pins s σ H xs us Q I r h
  · obtain ⟨u, rfl, t, rfl⟩ := vals1 r
    exact PySem.P.str_of_str ⟨.str z, H, I, ⟨_, rfl⟩, q⟩
def isNo : Value → Bool
  | .none => true
  | _ => false
theorem no_any : ∀ {xs : List V} {us : List Value}, Vals xs us → (∀ v ∈ xs, v = .non ∨ ∃ a, v = .ref a) → us.any isNo = decide (V.non ∈ xs)
  | [], [], .nil, _ => rfl
  | x :: xs, u :: us, .cons r t, h => by
    rw [List.any_cons, no_any t fun v hv => h v (List.mem_cons_of_mem _ hv)]
    rcases h x List.mem_cons_self with rfl | ⟨a, rfl⟩
    · cases r
      simp [isNo]
    · cases r
      simp [isNo]
theorem no_eq {X : Cx} {pins : List (Addr × Obj)} {σ : St} {H : Hp} {s : Shared} (I : Inv X pins σ H s) {A : Around} (hu : A.units < cLine) : ∀ {xs : List V} {us : List Value}, Vals xs us → (∀ v ∈ xs, v = .non ∨ ∃ a zs, v = .ref a ∧ SqL X.K H a zs) → ∀ u ∈ us, SeqAt.EqAt A s u .none (isNo u)
  | [], [], .nil, _ => fun u hu => by cases hu
  | x :: xs, u :: us, .cons r t, h => fun u' hu' => by
    rcases List.mem_cons.mp hu' with rfl | hu'
    · rcases h x List.mem_cons_self with rfl | ⟨a, zs, rfl, k⟩
      · cases r
        exact SeqAt.EqAt.same _
      · cases r
        obtain ⟨its, _, pl, _⟩ := I.list k
        exact SeqAt.EqAt.list_none pl.isList hu
    · exact no_eq I hu t (fun v hv => h v (List.mem_cons_of_mem _ hv)) u' hu'
/-- None in a list of lists and Nones -/
theorem op_inN {X : Cx} (hu : X.A.units + 1 < cLine) : OpR X (compareOp .In) (fun x y H Q => ∃ (p : Addr) (xs : List V), x = .non ∧ y = .ref p ∧ SqL X.K H p xs ∧ (∀ v ∈ xs, v = .non ∨ ∃ a zs, v = .ref a ∧ SqL X.K H a zs) ∧ Q (.bl (decide (V.non ∈ xs))) H) := by
  intro pins s σ H x y v u Q I rx ry h
  obtain ⟨p, xs, rfl, rfl, hS, hx, q⟩ := h
  cases rx
  cases ry
  obtain ⟨its, r, pl, hz⟩ := I.list hS
  refine SeqAt.in_listAt isNo pl.isList (fun w hw => no_eq I (by first | omega | (show X.A.units + 1 < cLine; omega)) r hx w (by simpa using hw)) ⟨.bl _, H, I, rfl, ?_⟩
  rw [show its.toArray.any isNo = its.any isNo by simp, no_any r fun v hv => (hx v hv).imp id fun ⟨a, _, e, _⟩ => ⟨a, e⟩]
  exact q
theorem ifBT {b : Bool} {A B : Prop} (h : b = true) (a : A) : if b = true then A else B := by rw [if_pos h]; exact a
theorem ifBF {b : Bool} {A B : Prop} (h : b = false) (a : B) : if b = true then A else B := by rw [if_neg (by rw [h]; decide)]; exact a
theorem eS2 {a b : Str} {p q : Prop} (h1 : a = b → p) (h2 : a ≠ b → q) : if decide (V.str a = V.str b) = true then p else q := by
  by_cases e : a = b
  · subst e
    rw [if_pos (by simp)]; exact h1 rfl
  · rw [if_neg (by simp [e])]; exact h2 e
end L2
namespace Sw
open PySem L2 XH Hm PySem.NumText
/-! ### k92: papers as texts (own work) -/
/-- a number's text -/
def numT (n : Nat) : Str := mkS (dg n)
def vN (n : Nat) : V := .int (n : Int)
def cma : Str := mkS [44]
def cln : Str := mkS [58]
def blk : Str := mkS [32]
def nwl : Str := mkS [10]
def chT (ns : List Nat) : Str := Txt.join cma (ns.map numT)
inductive Rw where
  | lst (w : Str) (ns : List Nat)
  | ways (n : Nat)
  | full (z : Str) (fs bs : List (List Nat))
def pairT (f b : List Nat) : Str := Txt.join cln [chT f, chT b]
def rowWs : Rw → List Str
  | .lst w ns => w :: ns.map numT
  | .ways n => ["ways", numT n]
  | .full z fs bs => "full" :: z :: List.zipWith pairT fs bs
def rowT (r : Rw) : Str := Txt.join blk (rowWs r)
def paperT (rs : List Rw) : Str := Txt.join nwl (rs.map rowT)
/-! reading -/
def figB (l : List Nat) : Bool := decide (1 ≤ l.length) && decide (l.length ≤ 30) && (decide (l.head? ≠ some 48) || decide (l = [48])) && l.all fun c => decide (48 ≤ c ∧ c ≤ 57)
def numR (z : Str) : Option Nat := if figB (sL z) = true ∧ digitsVal (sL z) ≤ 999999999 then some (digitsVal (sL z)) else none
def numsR : List Str → Option (List Nat)
  | [] => some []
  | w :: ws => match numR w, numsR ws with
    | some n, some ns => some (n :: ns)
    | _, _ => none
def chR (z : Str) : Option (List Nat) := if z = "" then some [] else numsR (Txt.split z cma)
def halfR (w : Str) : Option (List Nat × List Nat) := match Txt.split w cln with
  | [a, b] => match chR a, chR b with
    | some x, some y => some (x, y)
    | _, _ => none
  | _ => none
def halvesR : List Str → Option (List (List Nat) × List (List Nat))
  | [] => some ([], [])
  | w :: ws => match halfR w, halvesR ws with
    | some (x, y), some (xs, ys) => some (x :: xs, y :: ys)
    | _, _ => none
def nmB (z : Str) : Bool := decide (1 ≤ (sL z).length) && decide ((sL z).length ≤ 12) && (sL z).all fun c => decide (97 ≤ c ∧ c ≤ 122)
theorem nmB_iff (z : Str) : nmB z = true ↔ Nm z := by
  unfold nmB Nm
  simp [and_assoc]
def Listed (w : Str) : Prop := w = "split" ∨ w = "chain" ∨ w = "ring"
instance (w : Str) : Decidable (Listed w) := inferInstanceAs (Decidable (_ ∨ _))
def waysR (rest : List Str) : Option Rw := match numsR rest with
  | some [n] => some (.ways n)
  | _ => none
def fullR : List Str → Option Rw
  | z :: cs => if nmB z = true then (halvesR cs).map fun p => .full z p.1 p.2 else none
  | [] => none
def wordsR : List Str → Option Rw
  | [] => none
  | w :: rest => if Listed w then (numsR rest).map (.lst w) else if w = "ways" then waysR rest else if w = "full" then fullR rest else none
theorem words_lst {w : Str} {rest : List Str} (h : Listed w) : wordsR (w :: rest) = (numsR rest).map (.lst w) := if_pos h
theorem words_ways {w : Str} {rest : List Str} (h : ¬ Listed w) (k : w = "ways") : wordsR (w :: rest) = waysR rest := (if_neg h).trans (if_pos k)
theorem words_full {w : Str} {rest : List Str} (h : ¬ Listed w) (k : w ≠ "ways") (j : w = "full") : wordsR (w :: rest) = fullR rest := (if_neg h).trans ((if_neg k).trans (if_pos j))
theorem words_no {w : Str} {rest : List Str} (h : ¬ Listed w) (k : w ≠ "ways") (j : w ≠ "full") : wordsR (w :: rest) = none := (if_neg h).trans ((if_neg k).trans (if_neg j))
def rowR (line : Str) : Option Rw := if Str.empty ∈ Txt.split line blk then none else wordsR (Txt.split line blk)
/-! what lies -/
abbrev rNs : RA (List Nat) := rLst (rVal vN)
def rRow : RA Rw := fun P H v r => ∃ t, v = .ref t ∧ P t ∧ match r with
  | .lst w ns => ∃ l, H t = some (.tup [.str w, .ref l]) ∧ rNs P H (.ref l) ns
  | .ways n => H t = some (.tup [.str "ways", vN n])
  | .full z fs bs => ∃ f b, H t = some (.tup [.str "full", .str z, .ref f, .ref b]) ∧ rLst rNs P H (.ref f) fs ∧ rLst rNs P H (.ref b) bs
instance : Mv rRow where
  mv := fun {P P' H H' v x} g h => by
    obtain ⟨t, rfl, p, h⟩ := h
    refine ⟨t, rfl, ?_⟩
    cases x with
    | lst w ns =>
      obtain ⟨l, e, k⟩ := h
      exact ⟨(g t _ p rfl e).1, l, (g t _ p rfl e).2, Mv.mv g k⟩
    | ways n => exact ⟨(g t _ p rfl h).1, (g t _ p rfl h).2⟩
    | full z fs bs =>
      obtain ⟨f, b, e, k1, k2⟩ := h
      exact ⟨(g t _ p rfl e).1, f, b, (g t _ p rfl e).2, Mv.mv g k1, Mv.mv g k2⟩
def NsOk (m : Nat) (ns : List Nat) : Prop := ns.length ≤ m ∧ ∀ n ∈ ns, n ≤ 999999999
def RwOk : Rw → Prop
  | .lst w ns => Listed w ∧ NsOk 6 ns
  | .ways n => n ≤ 999999999
  | .full z fs bs => Nm z ∧ fs.length = bs.length ∧ fs.length ≤ 3 ∧ (∀ f ∈ fs, NsOk 4 f) ∧ ∀ b ∈ bs, NsOk 4 b
/-- a module's tuple of texts -/
def TupG (K : PySem.W.Frag) (a : Addr) (xs : List Str) : Prop := ∃ (o : Obj) (its : Array Value) (n : Nat), K.lookup a = some o ∧ o.cls = .type "tuple" ∧ o.data = .seq its n ∧ its.size ≤ sizeLine ∧ Vals (xs.map V.str) its.toList
theorem TupG.sq {K : PySem.W.Frag} {a : Addr} {xs : List Str} (h : TupG K a xs) (H : Hp) : SqT K H a (xs.map V.str) := .inr h
theorem numT_len {n : Nat} (h : n ≤ 999999999) : (numT n).length ≤ 9 := by
  have := dg_len (n := n) (k := 8) (by omega)
  rw [← sL_len, numT, sL_mk]
  exact this
theorem num_lg {n : Nat} (h : n ≤ 999999999) : (n : Int).natAbs.log2 < 1920 := lg (Nat.lt_of_le_of_lt h (by decide))
theorem sum_len {m : Nat} : ∀ {ws : List Str}, (∀ w ∈ ws, w.length ≤ m) → (ws.map fun x => x.length).sum ≤ m * ws.length
  | [], _ => Nat.le_refl _
  | w :: ws, h => by
    have h1 := h w List.mem_cons_self
    have h2 := sum_len (ws := ws) fun x hx => h x (List.mem_cons_of_mem _ hx)
    rw [List.map_cons, List.sum_cons, List.length_cons, Nat.mul_add]
    omega
theorem numTs_len {m : Nat} {ns : List Nat} (h : NsOk m ns) : ∀ w ∈ ns.map numT, w.length ≤ 9 := fun w hw => by
  obtain ⟨n, hn, rfl⟩ := List.mem_map.mp hw
  exact numT_len (h.2 n hn)
theorem chT_len {m : Nat} {ns : List Nat} (h : NsOk m ns) : (chT ns).length ≤ 10 * m := by
  have h1 := sum_len (numTs_len h)
  have h2 := h.1
  unfold chT
  rw [join_len]
  rw [List.length_map] at h1 ⊢
  rw [show cma.length = 1 from rfl]
  omega
theorem pairT_len {m : Nat} {f b : List Nat} (h : NsOk m f) (k : NsOk m b) : (pairT f b).length ≤ 20 * m + 1 := by
  have h1 := chT_len h
  have h2 := chT_len k
  unfold pairT
  rw [join_len, show cln.length = 1 from rfl]
  show ((chT f).length + ((chT b).length + 0)) + 1 * 1 ≤ _
  omega
theorem rNs.l {P : Addr → Prop} {H : Hp} {l : Addr} {ns : List Nat} (h : rNs P H (.ref l) ns) : H l = some (.lst (ns.map vN)) := by
  obtain ⟨l', e, _, vs, el, r⟩ := h
  cases e
  rw [el, r.val]
theorem NsOk.up {m k : Nat} {ns : List Nat} (h : NsOk m ns) (l : m ≤ k) : NsOk k ns := ⟨by have := h.1; omega, h.2⟩
theorem map_getD {α β : Type} (f : α → β) (xs : List α) (d : α) : (List.range xs.length).map (fun i => f (xs.getD i d)) = xs.map f := by
  conv => rhs; rw [← rng_getD xs d, List.map_map]
  rfl
theorem zip_getD {α β : Type} (f : α → α → β) (d : α) : ∀ (xs ys : List α), (List.range (min xs.length ys.length)).map (fun i => f (xs.getD i d) (ys.getD i d)) = List.zipWith f xs ys := fun xs ys => by
  apply List.ext_getElem
  · simp
  · intro i h1 h2
    rw [List.length_map, List.length_range] at h1
    rw [List.getElem_map, List.getElem_range, List.getElem_zipWith, getDo (List.getElem?_eq_getElem (by omega)), getDo (List.getElem?_eq_getElem (by omega))]
/-! specs -/
def spNumsT : Sp := fun vs H Q _ => ∃ (l : Addr) (ns : List Nat), vs = [.ref l] ∧ H l = some (.lst (ns.map vN)) ∧ NsOk 100 ns ∧ ∀ H', Same H H' → Q (.str (chT ns)) H'
def spChainsT : Sp := fun vs H Q _ => ∃ (f b : Addr) (fs bs : List Nat), vs = [.ref f, .ref b] ∧ H f = some (.lst (fs.map vN)) ∧ H b = some (.lst (bs.map vN)) ∧ NsOk 100 fs ∧ NsOk 100 bs ∧ ∀ H', Same H H' → Q (.str (pairT fs bs)) H'
def spRowT : Sp := fun vs H Q _ => ∃ (v : V) (r : Rw), vs = [v] ∧ rRow An H v r ∧ RwOk r ∧ ∀ H', Same H H' → Q (.str (rowT r)) H'
def spPaperT : Sp := fun vs H Q _ => ∃ (l : Addr) (rs : List Rw), vs = [.ref l] ∧ LsA rRow An H l rs ∧ rs.length ≤ 40 ∧ (∀ r ∈ rs, RwOk r) ∧ ∀ H', Same H H' → Q (.str (paperT rs)) H'
def WsB (ws : List Str) : Prop := ws.length ≤ 100000 ∧ ∀ w ∈ ws, w.length ≤ 10000
def spReadNs : Sp := fun vs H Q _ => ∃ (l : Addr) (ws : List Str), vs = [.ref l] ∧ H l = some (.lst (ws.map V.str)) ∧ WsB ws ∧ (numsR ws = none → ∀ H', Same H H' → Q .non H') ∧ ∀ ns, numsR ws = some ns → ∀ (p : Addr) (H' : Hp), Same H H' → H p = none → H' p = some (.lst (ns.map vN)) → Q (.ref p) H'
def spReadCh : Sp := fun vs H Q _ => ∃ z : Str, vs = [.str z] ∧ z.length ≤ 10000 ∧ (chR z = none → ∀ H', Same H H' → Q .non H') ∧ ∀ ns, chR z = some ns → ∀ (p : Addr) (H' : Hp), Same H H' → H p = none → H' p = some (.lst (ns.map vN)) → Q (.ref p) H'
/-- what is told of words: None, or a row that is new -/
def toldR (o : Option Rw) (H : Hp) (Q : VK) : Prop := (o = none → ∀ H', Same H H' → Q .non H') ∧ ∀ r, o = some r → ∀ (v : V) (H' : Hp), Same H H' → rRow (fun a => H a = none) H' v r → Q v H'
def spReadWs (f : List Str → Option Rw) : Sp := fun vs H Q _ => ∃ (l : Addr) (w : Str) (rest : List Str), vs = [.ref l] ∧ H l = some (.lst ((w :: rest).map V.str)) ∧ WsB (w :: rest) ∧ toldR (f rest) H Q
def spReadRow : Sp := fun vs H Q _ => ∃ z : Str, vs = [.str z] ∧ z.length ≤ 900 ∧ toldR (rowR z) H Q
theorem rowWs_len {r : Rw} (h : RwOk r) : (rowT r).length ≤ 300 := by
  unfold rowT
  rw [join_len, show blk.length = 1 from rfl]
  cases r with
  | lst w ns =>
    have s := sum_len (numTs_len h.2)
    have l := h.2.1
    have w5 : w.length ≤ 5 := by rcases h.1 with rfl | rfl | rfl <;> decide
    show (w.length + ((ns.map numT).map fun x => x.length).sum) + ((ns.map numT).length + 1 - 1) * 1 ≤ _
    rw [List.length_map] at s ⊢
    omega
  | ways n =>
    have l := numT_len h
    show (4 + ((numT n).length + 0)) + 1 * 1 ≤ _
    omega
  | full z fs bs =>
    obtain ⟨nm, lfb, l3, fo, bo⟩ := h
    have lz : z.length ≤ 12 := by have := nm.2.1; rwa [sL_len] at this
    have s81 : ∀ w ∈ List.zipWith pairT fs bs, w.length ≤ 81 := fun w hw => by
      obtain ⟨i, hi⟩ := List.mem_iff_getElem?.mp hw
      rw [List.getElem?_zipWith_eq_some] at hi
      obtain ⟨f, b, hf, hb, rfl⟩ := hi
      exact pairT_len (fo f (List.mem_of_getElem? hf)) (bo b (List.mem_of_getElem? hb))
    have s4 := sum_len s81
    have lw := List.length_zipWith (f := pairT) (l₁ := fs) (l₂ := bs)
    show (4 + (z.length + ((List.zipWith pairT fs bs).map fun x => x.length).sum)) + ((List.zipWith pairT fs bs).length + 1 + 1 - 1) * 1 ≤ _
    omega
theorem figB_iff (l : List Nat) : figB l = true ↔ Fig l := by
  unfold figB Fig AllDigits
  simp [and_assoc]
theorem numR_none {z : Str} (h : fig? (sL z) = none) : numR z = none := by
  unfold numR
  rw [if_neg]
  rintro ⟨a, _⟩
  unfold fig? at h
  rw [if_pos ((figB_iff _).mp a)] at h
  cases h
theorem numR_some {z : Str} {n : Nat} (h : fig? (sL z) = some n) : numR z = if n ≤ 999999999 then some n else none := by
  unfold fig? at h
  split at h
  · rename_i f
    cases h
    unfold numR
    by_cases c : digitsVal (sL z) ≤ 999999999
    · rw [if_pos c, if_pos ⟨(figB_iff _).mpr f, c⟩]
    · rw [if_neg c, if_neg fun k => c k.2]
  · cases h
def numI (z : Str) : Option Int := (numR z).map Int.ofNat
theorem numsR_none {ws : List Str} : numsR ws = none ↔ none ∈ ws.map numI := by
  induction ws with
  | nil => simp [numsR]
  | cons w ws ih =>
    rw [List.map_cons, List.mem_cons, ← ih, show numsR (w :: ws) = (match numR w, numsR ws with | some n, some ns => some (n :: ns) | _, _ => none) from rfl]
    unfold numI
    cases numR w <;> cases numsR ws <;> simp
theorem numsR_some {ws : List Str} {ns : List Nat} (h : numsR ws = some ns) : ws.map numI = ns.map fun n => some (Int.ofNat n) := by
  induction ws generalizing ns with
  | nil => cases h; rfl
  | cons w ws ih =>
    unfold numsR at h
    cases h1 : numR w with
    | none => rw [h1] at h; cases h
    | some n =>
      cases h2 : numsR ws with
      | none => rw [h1, h2] at h; cases h
      | some ms =>
        rw [h1, h2] at h
        cases h
        rw [List.map_cons, List.map_cons, ih h2]
        unfold numI
        rw [h1]
        rfl
theorem split_b {z : Str} {c : Nat} (h : z.length ≤ 10000) : WsB (Txt.split z (mkS [c])) := by
  have j := congrArg Str.length (StrLaws.join_split z (mkS [c]))
  rw [← StrLaws.glued_eq_join, PySem.size_glued, mk_len] at j
  have one : ∀ {ws : List Str} {w : Str}, w ∈ ws → w.length ≤ (ws.map fun x => x.length).sum := fun {ws w} hw => by
    induction ws with
    | nil => cases hw
    | cons x ws ih =>
      rw [List.map_cons, List.sum_cons]
      rcases List.mem_cons.mp hw with rfl | hw
      · omega
      · have := ih hw; omega
  refine ⟨?_, fun w hw => ?_⟩
  · simp at j
    omega
  · have := one hw
    omega
/-- a list of numbers, or None -/
def rOpN : RA (Option (List Nat)) := fun P H v o => match o with
  | none => v = .non
  | some ns => rNs P H v ns
instance : Mv rOpN where
  mv := fun {P P' H H' v x} g h => by
    cases x with
    | none => exact h
    | some ns => exact Mv.mv (R := rNs) g h
theorem rOpN.ty {K : PySem.W.Frag} {P : Addr → Prop} {H : Hp} {v : V} {o : Option (List Nat)} (h : rOpN P H v o) : (v = .non ∧ o = none) ∨ ∃ a zs, v = .ref a ∧ SqL K H a zs ∧ ∃ ns, o = some ns ∧ rNs P H v ns := by
  cases o with
  | none => exact .inl ⟨h, rfl⟩
  | some ns =>
    have h : rNs P H v ns := h
    obtain ⟨l, rfl, p, vs, e, r⟩ := id h
    exact .inr ⟨l, vs, rfl, SqL.of e, ns, rfl, h⟩
theorem half_eq (w : Str) : halfR w = (match (Txt.split w cln).map chR with | [some x, some y] => some (x, y) | _ => none) := by
  unfold halfR
  match Txt.split w cln with
  | [] => rfl
  | [a] => cases h : chR a <;> simp [h]
  | [a, b] => cases h1 : chR a <;> cases h2 : chR b <;> simp [h1, h2]
  | a :: b :: c :: r => cases h1 : chR a <;> cases h2 : chR b <;> simp [h1, h2]
theorem halves_none {cs : List Str} {w : Str} (m : w ∈ cs) (h : halfR w = none) : halvesR cs = none := by
  induction cs with
  | nil => cases m
  | cons x cs ih =>
    rw [show halvesR (x :: cs) = (match halfR x, halvesR cs with | some (a, b), some (xs, ys) => some (a :: xs, b :: ys) | _, _ => none) from rfl]
    rcases List.mem_cons.mp m with rfl | m
    · rw [h]
    · rw [ih m]
      cases halfR x <;> rfl
theorem halves_snoc {cs : List Str} {w : Str} {a b : List Nat} {xs ys : List (List Nat)} (h : halvesR cs = some (xs, ys)) (k : halfR w = some (a, b)) : halvesR (cs ++ [w]) = some (xs ++ [a], ys ++ [b]) := by
  induction cs generalizing xs ys with
  | nil =>
    cases h
    show (match halfR w, halvesR [] with | some (a, b), some (xs, ys) => some (a :: xs, b :: ys) | _, _ => none) = _
    rw [k]
    rfl
  | cons x cs ih =>
    rw [show halvesR (x :: cs) = (match halfR x, halvesR cs with | some (a, b), some (xs, ys) => some (a :: xs, b :: ys) | _, _ => none) from rfl] at h
    show (match halfR x, halvesR (cs ++ [w]) with | some (a, b), some (xs, ys) => some (a :: xs, b :: ys) | _, _ => none) = _
    cases h1 : halfR x with
    | none => rw [h1] at h; cases h
    | some p =>
      cases h2 : halvesR cs with
      | none => rw [h1, h2] at h; cases h
      | some q =>
        rw [h1, h2] at h
        cases h
        rw [ih h2]
        rfl
/-! whole papers -/
def rowsR : List Str → Option (List Rw)
  | [] => some []
  | w :: ws => match rowR w, rowsR ws with
    | some r, some rs => some (r :: rs)
    | _, _ => none
def paperR (z : Str) : Option (List Rw) := if z = "" then some [] else rowsR (Txt.split z nwl)
/-- the first i lines are rows, the next one isn't -/
def BadAt (ws : List Str) (i : Nat) : Prop := (∃ w, ws[i]? = some w ∧ rowR w = none) ∧ ∀ j w, j < i → ws[j]? = some w → rowR w ≠ none
theorem rows_cons (w : Str) (ws : List Str) : rowsR (w :: ws) = (match rowR w, rowsR ws with | some r, some rs => some (r :: rs) | _, _ => none) := rfl
theorem rows_snoc {ws : List Str} {w : Str} {rs : List Rw} {r : Rw} (h : rowsR ws = some rs) (k : rowR w = some r) : rowsR (ws ++ [w]) = some (rs ++ [r]) := by
  induction ws generalizing rs with
  | nil =>
    cases h
    show rowsR [w] = _
    rw [rows_cons, k]
    rfl
  | cons x ws ih =>
    rw [rows_cons] at h
    rw [List.cons_append, rows_cons]
    cases h1 : rowR x with
    | none => rw [h1] at h; cases h
    | some p =>
      cases h2 : rowsR ws with
      | none => rw [h1, h2] at h; cases h
      | some q =>
        rw [h1, h2] at h
        cases h
        rw [ih h2]
        rfl
theorem rows_len {ws : List Str} {rs : List Rw} (h : rowsR ws = some rs) : rs.length = ws.length := by
  induction ws generalizing rs with
  | nil => cases h; rfl
  | cons x ws ih =>
    rw [rows_cons] at h
    cases h1 : rowR x with
    | none => rw [h1] at h; cases h
    | some p =>
      cases h2 : rowsR ws with
      | none => rw [h1, h2] at h; cases h
      | some q =>
        rw [h1, h2] at h
        cases h
        simp [ih h2]
theorem rows_ok {ws : List Str} {rs : List Rw} (h : rowsR ws = some rs) : ∀ (j : Nat) w, ws[j]? = some w → rowR w ≠ none := by
  induction ws generalizing rs with
  | nil => intro j w e; simp at e
  | cons x ws ih =>
    rw [rows_cons] at h
    cases h1 : rowR x with
    | none => rw [h1] at h; cases h
    | some p =>
      cases h2 : rowsR ws with
      | none => rw [h1, h2] at h; cases h
      | some q =>
        intro j w e
        cases j with
        | zero => cases e; rw [h1]; exact nofun
        | succ j => exact ih h2 j w (by simpa using e)
def atF (i : Nat) : HO := .xd [("at", .int (i : Int))]
def spReadPX (K : PySem.W.Frag) (c : Addr) : Sp := fun vs H Q E => ∃ v : V, vs = [v] ∧
  ((∃ z, v = .str z ∧ z.length ≤ 30000 ∧ (Txt.split z nwl).length ≤ 100 ∧ (∀ w ∈ Txt.split z nwl, w.length ≤ 900) ∧ (∀ rs, paperR z = some rs → ∀ (l : Addr) (H' : Hp), Same H H' → H l = none → LsA rRow (fun a => a ≠ l ∧ H a = none) H' l rs → Q (.ref l) H') ∧ (z ≠ "" → ∀ i, BadAt (Txt.split z nwl) i → ∀ d H', Same H H' → H' d = some (atF i) → E (.ref c) (some d) H')) ∨
   ∃ ty, TyOf K H v ty ∧ PySem.W.kitOne K ty (.type "str") = some false ∧ ∀ d H', Same H H' → H' d = some (atF 0) → E (.ref c) (some d) H')
def spReadPC : Sp := fun vs H Q _ => ∃ (z : Str) (rs : List Rw), vs = [.str z] ∧ z.length ≤ 30000 ∧ (Txt.split z nwl).length ≤ 100 ∧ (∀ w ∈ Txt.split z nwl, w.length ≤ 900) ∧ paperR z = some rs ∧ ∀ (l : Addr) (H' : Hp), Same H H' → H l = none → LsA rRow (fun a => a ≠ l ∧ H a = none) H' l rs → Q (.ref l) H'
theorem readPX_of {K : PySem.W.Frag} {c : Addr} (vs : List V) (H : Hp) (Q : VK) (E : XK) : spReadPC vs H Q E → spReadPX K c vs H Q E0 := fun ⟨z, rs, e, h1, h2, h3, hr, q⟩ =>
  ⟨.str z, e, .inl ⟨z, rfl, h1, h2, h3, fun rs' e' => by rw [hr] at e'; cases e'; exact q, fun ne i b => by
    unfold paperR at hr
    rw [if_neg ne] at hr
    obtain ⟨⟨w, hw, hn⟩, _⟩ := b
    exact absurd hn (rows_ok hr i w hw)⟩⟩
end Sw
set_option Elab.async false
set_option linter.all false
set_option maxRecDepth 100000
namespace Sw
open PySem L2 XH Hm PySem.NumText
/-! ### k92: what the law draws (own work) -/
def n92 (c : Int) (k : Int) : Int := (((c.fdiv 40).fmod 1000003 + 1) * (k * k + 3 * k + 7) * 48271).fmod 999983
def m92 (c : Int) (k : Int) : Int := if (n92 c k).fmod 7 = 3 then 999999999 - n92 c k * c.fmod 3 else ((n92 c k).fdiv 7).fmod 61
theorem m92_b (c k : Int) : 0 ≤ m92 c k ∧ m92 c k ≤ 999999999 := by
  have h1 : 0 ≤ n92 c k ∧ n92 c k < 999983 := fm (by decide)
  have h2 := fm (a := c) (n := 3) (by decide)
  have h3 := fm (a := (n92 c k).fdiv 7) (n := 61) (by decide)
  unfold m92
  split
  · have : 0 ≤ n92 c k * c.fmod 3 := Int.mul_nonneg h1.1 h2.1
    have : n92 c k * c.fmod 3 ≤ 999983 * 3 := Int.mul_le_mul (by omega) (by omega) h2.1 (by decide)
    omega
  · omega
def numsF (c : Int) (m : Nat) : List Nat := (List.range m).map fun k : Nat => (m92 c (0 + (k : Int))).toNat
theorem numsF_ok (c : Int) (m : Nat) : NsOk m (numsF c m) := by
  refine ⟨by unfold numsF; rw [List.length_map, List.length_range]; exact Nat.le_refl _, fun n hn => ?_⟩
  obtain ⟨k, _, rfl⟩ := List.mem_map.mp hn
  have := m92_b c (0 + (k : Int))
  omega
theorem numsF_succ (c : Int) (m : Nat) : numsF c (m + 1) = numsF c m ++ [(m92 c (0 + (m : Int))).toNat] := by unfold numsF; rw [List.range_succ, List.map_append]; rfl
theorem vN_m (c k : Int) : vN (m92 c k).toNat = .int (m92 c k) := by
  unfold vN
  rw [Int.toNat_of_nonneg (m92_b c k).1]
def spNumbers : Sp := fun vs H Q _ => ∃ (c m : Int), vs = [.int c, .int m] ∧ 0 ≤ m ∧ m ≤ 7 ∧ ∀ (p : Addr) (H' : Hp), H p = none → Same H H' → H' p = some (.lst ((numsF c m.toNat).map vN)) → Q (.ref p) H'
/-! tools' names -/
def t92 (c k : Int) : Int := ((((c.fdiv 12).fmod 1009 + 1) * (k * k + k + 3)).fmod 1013).fmod 26
def toolT (c : Int) : Nat → Str
  | 0 => ""
  | k + 1 => toolT c k ++ ⟨#[97 + (t92 c (0 + (k : Int))).toNat]⟩
theorem t92_b (c k : Int) : 0 ≤ t92 c k ∧ t92 c k < 26 := fm (by decide)
theorem toolT_len (c : Int) : ∀ k, (toolT c k).length = k
  | 0 => rfl
  | k + 1 => by
    show (toolT c k ++ _).length = _
    rw [Str.length_append, toolT_len c k]
    rfl
theorem toolT_lt (c : Int) : ∀ k, Lt (toolT c k)
  | 0 => Lt.nil
  | k + 1 => (toolT_lt c k).app (Lt.one (by have := t92_b c (0 + (k : Int)); omega))
def toolF (c : Int) : Str := toolT c (1 + c.fmod 12).toNat
theorem toolF_nm (c : Int) : Nm (toolF c) := by
  have m := fm (a := c) (n := 12) (by decide)
  refine (toolT_lt c _).nm ?_ ?_ <;> rw [toolT_len] <;> omega
theorem az_let {i : Int} (h0 : 0 ≤ i) (h : i < 26) : atI (Str.ofString "abcdefghijklmnopqrstuvwxyz").cps.toList i = some (97 + i.toNat) := by
  obtain ⟨k, rfl⟩ := Int.eq_ofNat_of_zero_le h0
  refine atI_nat ?_
  have e : (Str.ofString "abcdefghijklmnopqrstuvwxyz").cps.toList = (List.range 26).map (97 + ·) := by decide
  rw [e, List.getElem?_map, List.getElem?_range (by omega)]
  simp
def spTool92 : Sp := fun vs H Q _ => ∃ c : Int, vs = [.int c] ∧ Q (.str (toolF c)) H
/-! rows -/
def w92 (i : Int) : Str := if i = 0 then "split" else if i = 1 then "chain" else "ring"
def rowF (c : Int) : Rw :=
  if c.fmod 5 < 3 then .lst (w92 (c.fmod 5)) (numsF c ((c.fdiv 5).fmod 7).toNat)
  else if c.fmod 5 = 3 then .ways (m92 c (0 + ((0 : Nat) : Int))).toNat
  else .full (toolF ((c.fdiv 20).fmod 100003)) ((List.range ((c.fdiv 5).fmod 4).toNat).map fun k : Nat => numsF (c + 41 * (0 + (k : Int))) (((c.fdiv 20) + (0 + (k : Int))).fmod 5).toNat) ((List.range ((c.fdiv 5).fmod 4).toNat).map fun k : Nat => numsF (c + 43 * (0 + (k : Int)) + 7) (((c.fdiv 100) + (0 + (k : Int)) * (0 + (k : Int))).fmod 5).toNat)
theorem w92_at {i : Int} (h0 : 0 ≤ i) (h : i < 3) : atI [V.str "split", V.str "chain", V.str "ring"] i = some (.str (w92 i)) := by
  rcases (by omega : i = 0 ∨ i = 1 ∨ i = 2) with rfl | rfl | rfl <;> rfl
theorem rowF_ok (c : Int) : RwOk (rowF c) := by
  have m5 := fm (a := c) (n := 5) (by decide)
  have m7 := fm (a := c.fdiv 5) (n := 7) (by decide)
  have m4 := fm (a := c.fdiv 5) (n := 4) (by decide)
  unfold rowF
  split
  · refine ⟨?_, (numsF_ok c _).up (by omega)⟩
    unfold w92 Listed
    split
    · exact .inl rfl
    · split
      · exact .inr (.inl rfl)
      · exact .inr (.inr rfl)
  · split
    · have := m92_b c (0 + ((0 : Nat) : Int))
      show (m92 c _).toNat ≤ 999999999
      omega
    · refine ⟨toolF_nm _, by simp, by simp; omega, fun f hf => ?_, fun f hf => ?_⟩
      · obtain ⟨k, _, rfl⟩ := List.mem_map.mp hf
        have := fm (a := (c.fdiv 20) + (0 + (k : Int))) (n := 5) (by decide)
        exact (numsF_ok _ _).up (by omega)
      · obtain ⟨k, _, rfl⟩ := List.mem_map.mp hf
        have := fm (a := (c.fdiv 100) + (0 + (k : Int)) * (0 + (k : Int))) (n := 5) (by decide)
        exact (numsF_ok _ _).up (by omega)
def spRow92 : Sp := fun vs H Q _ => ∃ c : Int, vs = [.int c] ∧ ∀ (v : V) (H' : Hp), Same H H' → rRow (fun a => H a = none) H' v (rowF c) → Q v H'
/-! lines -/
theorem join_eq (s : Str) (ws : List Str) : Txt.join s ws = Str.join s ws := StrLaws.glued_eq_join s ws
theorem join_snoc {s : Str} : ∀ {ws : List Str} {w : Str}, ws ≠ [] → Txt.join s (ws ++ [w]) = Txt.join s ws ++ s ++ w := fun {ws w} ne => by
  rw [join_eq, join_eq]
  induction ws with
  | nil => exact absurd rfl ne
  | cons x ws ih =>
    cases ws with
    | nil => rfl
    | cons y ws =>
      rw [List.cons_append, List.cons_append, join_cons2, join_cons2, ← List.cons_append, ih (by simp)]
      simp only [Str.append_assoc]
def spLine92 : Sp := fun vs H Q _ => ∃ (v : V) (r : Rw), vs = [v] ∧ rRow An H v r ∧ RwOk r ∧ ∀ H', Same H H' → Q (.str (rowT r)) H'
theorem lst_line {w : Str} {ns : List Nat} (hw : Listed w) (no : NsOk 6 ns) (i : Nat) : (Txt.join blk (w :: (ns.map numT).take i)).length ≤ 100 := by
  have w5 : w.length ≤ 5 := by rcases hw with rfl | rfl | rfl <;> decide
  have s := sum_len (m := 9) (ws := (ns.map numT).take i) fun x hx => numTs_len no x (List.mem_of_mem_take hx)
  have l := no.1
  rw [join_len, show blk.length = 1 from rfl, List.map_cons, List.sum_cons, List.length_cons]
  rw [List.length_take, List.length_map] at s ⊢
  omega
theorem pair_le {fs bs : List (List Nat)} (fo : ∀ f ∈ fs, NsOk 4 f) (bo : ∀ b ∈ bs, NsOk 4 b) : ∀ w ∈ List.zipWith pairT fs bs, w.length ≤ 81 := fun w hw => by
  obtain ⟨i, hi⟩ := List.mem_iff_getElem?.mp hw
  rw [List.getElem?_zipWith_eq_some] at hi
  obtain ⟨f, b, hf, hb, rfl⟩ := hi
  exact pairT_len (fo f (List.mem_of_getElem? hf)) (bo b (List.mem_of_getElem? hb))
theorem full_line {z : Str} {fs bs : List (List Nat)} (nm : Nm z) (l3 : fs.length ≤ 3) (fo : ∀ f ∈ fs, NsOk 4 f) (bo : ∀ b ∈ bs, NsOk 4 b) (i : Nat) : (Txt.join blk ("full" :: z :: (List.zipWith pairT fs bs).take i)).length ≤ 300 := by
  have lz : z.length ≤ 12 := by have := nm.2.1; rwa [sL_len] at this
  have s := sum_len (m := 81) (ws := (List.zipWith pairT fs bs).take i) fun x hx => pair_le fo bo x (List.mem_of_mem_take hx)
  have lw := List.length_zipWith (f := pairT) (l₁ := fs) (l₂ := bs)
  rw [join_len, show blk.length = 1 from rfl, List.map_cons, List.sum_cons, List.length_cons, List.map_cons, List.sum_cons, List.length_cons]
  rw [List.length_take] at s ⊢
  show (4 + _) + _ ≤ _
  omega
theorem pairT_eq (f b : List Nat) : pairT f b = chT f ++ cln ++ chT b := rfl
/-- an exception with the place of a row -/
def spAlone92 (C : Addr) : Sp := fun vs H Q _ => ∃ (a d : Addr) (i : Nat), vs = [.ref a] ∧ (∃ n, H a = some (excB n a (.ref C) (some d))) ∧ H d = some (atF i) ∧ ∀ H', Same H H' → Q (.bl true) H'
/-- what read_paper refuses, at the place i -/
def Refd (K : PySem.W.Frag) (H : Hp) (v : V) (i : Nat) : Prop := (∃ z, v = .str z ∧ z ≠ "" ∧ z.length ≤ 30000 ∧ (Txt.split z nwl).length ≤ 100 ∧ (∀ w ∈ Txt.split z nwl, w.length ≤ 900) ∧ BadAt (Txt.split z nwl) i) ∨ (i = 0 ∧ ∃ ty, TyOf K H v ty ∧ PySem.W.kitOne K ty (.type "str") = some false)
def spRefused92 (K : PySem.W.Frag) : Sp := fun vs H Q _ => ∃ (v : V) (i : Nat), vs = [v, .int (i : Int)] ∧ Refd K H v i ∧ ∀ H', Same H H' → Q (.bl true) H'
theorem bad_uniq {ws : List Str} {i j : Nat} (h : BadAt ws i) (k : BadAt ws j) : i = j := by
  obtain ⟨⟨w, hw, hn⟩, h2⟩ := h
  obtain ⟨⟨w', hw', hn'⟩, k2⟩ := k
  rcases Nat.lt_trichotomy i j with l | l | l
  · exact absurd hn (k2 i w l hw)
  · exact l
  · exact absurd hn' (h2 j w' l hw')
theorem rows_bad {ws : List Str} {i : Nat} (b : BadAt ws i) : rowsR ws = none := by
  cases h : rowsR ws with
  | none => rfl
  | some rs =>
    obtain ⟨⟨w, hw, hn⟩, _⟩ := b
    exact absurd hn (rows_ok h i w hw)
def LfA (x y : V) : Prop := x = y ∧ ((∃ z : Str, x = .str z) ∨ ∃ i : Int, x = .int i)
def AlS (H : Hp) : Nat → V → V → Prop
  | 0, x, y => LfA x y
  | n + 1, x, y => LfA x y ∨ ∃ (a b : Addr) (xs ys : List V), x = .ref a ∧ y = .ref b ∧ ((H a = some (.lst xs) ∧ H b = some (.lst ys)) ∨ (H a = some (.tup xs) ∧ H b = some (.tup ys))) ∧ xs.length = ys.length ∧ xs.length ≤ 1000 ∧ ∀ (i : Nat) (u v : V), xs[i]? = some u → ys[i]? = some v → AlS H n u v
def spAlS (n : Nat) : Sp := fun vs H Q _ => ∃ x y : V, vs = [x, y] ∧ AlS H n x y ∧ Q (.bl true) H
theorem als_str (H : Hp) (n : Nat) (z : Str) : AlS H n (.str z) (.str z) := by
  cases n with
  | zero => exact ⟨rfl, .inl ⟨z, rfl⟩⟩
  | succ n => exact .inl ⟨rfl, .inl ⟨z, rfl⟩⟩
theorem als_int (H : Hp) (n : Nat) (z : Int) : AlS H n (.int z) (.int z) := by
  cases n with
  | zero => exact ⟨rfl, .inr ⟨z, rfl⟩⟩
  | succ n => exact .inl ⟨rfl, .inr ⟨z, rfl⟩⟩
theorem als_ns {H : Hp} {n : Nat} {a b : Addr} {ns : List Nat} (h1 : H a = some (.lst (ns.map vN))) (h2 : H b = some (.lst (ns.map vN))) (l : ns.length ≤ 1000) : AlS H (n + 1) (.ref a) (.ref b) := .inr ⟨a, b, _, _, rfl, rfl, .inl ⟨h1, h2⟩, rfl, by rw [List.length_map]; exact l, fun i u v e1 e2 => by
  rw [e1] at e2
  cases e2
  rw [List.getElem?_map] at e1
  obtain ⟨z, _, rfl⟩ := Option.map_eq_some_iff.mp e1
  exact als_int _ _ _⟩
theorem als_nss {H : Hp} {n : Nat} {P P' : Addr → Prop} {a b : Addr} {fs : List (List Nat)} (h1 : rLst rNs P H (.ref a) fs) (h2 : rLst rNs P' H (.ref b) fs) (l : fs.length ≤ 1000) (ls : ∀ f ∈ fs, f.length ≤ 1000) : AlS H (n + 2) (.ref a) (.ref b) := by
  obtain ⟨_, e, _, vs, ea, ra⟩ := h1
  cases e
  obtain ⟨_, e, _, us, eb, rb⟩ := h2
  cases e
  refine .inr ⟨a, b, vs, us, rfl, rfl, .inl ⟨ea, eb⟩, ra.1.trans rb.1.symm, by rw [ra.1]; exact l, fun i u v e1 e2 => ?_⟩
  obtain ⟨f, hf, k1⟩ := ra.at_ e1
  obtain ⟨f', hf', k2⟩ := rb.at_ e2
  rw [hf] at hf'
  cases hf'
  obtain ⟨x, rfl, _⟩ := id k1
  obtain ⟨y, rfl, _⟩ := id k2
  exact als_ns (rNs.l k1) (rNs.l k2) (ls f (List.mem_of_getElem? hf))
theorem als_row {H : Hp} {P P' : Addr → Prop} {v w : V} {r : Rw} (h1 : rRow P H v r) (h2 : rRow P' H w r) (ok : RwOk r) : AlS H 3 v w := by
  obtain ⟨t, rfl, _, h1⟩ := h1
  obtain ⟨s, rfl, _, h2⟩ := h2
  cases r with
  | lst z ns =>
    obtain ⟨l, e1, k1⟩ := h1
    obtain ⟨m, e2, k2⟩ := h2
    refine .inr ⟨t, s, _, _, rfl, rfl, .inr ⟨e1, e2⟩, rfl, (by show 2 ≤ 1000; decide), fun i u v a b => ?_⟩
    match i, a, b with
    | 0, a, b => cases a; cases b; exact als_str _ _ _
    | 1, a, b => cases a; cases b; exact als_ns (rNs.l k1) (rNs.l k2) (by have := ok.2.1; omega)
  | ways n =>
    have h1 : H t = some (.tup [.str "ways", vN n]) := h1
    have h2 : H s = some (.tup [.str "ways", vN n]) := h2
    refine .inr ⟨t, s, _, _, rfl, rfl, .inr ⟨h1, h2⟩, rfl, (by show 2 ≤ 1000; decide), fun i u v a b => ?_⟩
    match i, a, b with
    | 0, a, b => cases a; cases b; exact als_str _ _ _
    | 1, a, b => cases a; cases b; exact als_int _ _ _
  | full z fs bs =>
    obtain ⟨f1, b1, e1, kf1, kb1⟩ := h1
    obtain ⟨f2, b2, e2, kf2, kb2⟩ := h2
    obtain ⟨_, lfb, l3, fo, bo⟩ := ok
    refine .inr ⟨t, s, _, _, rfl, rfl, .inr ⟨e1, e2⟩, rfl, (by show 4 ≤ 1000; decide), fun i u v a b => ?_⟩
    match i, a, b with
    | 0, a, b => cases a; cases b; exact als_str _ _ _
    | 1, a, b => cases a; cases b; exact als_str _ _ _
    | 2, a, b => cases a; cases b; exact als_nss kf1 kf2 (by omega) fun f hf => by have := (fo f hf).1; omega
    | 3, a, b => cases a; cases b; exact als_nss kb1 kb2 (by omega) fun f hf => by have := (bo f hf).1; omega
theorem als_paper {H : Hp} {P P' : Addr → Prop} {a b : Addr} {rs : List Rw} (h1 : LsA rRow P H a rs) (h2 : LsA rRow P' H b rs) (l : rs.length ≤ 1000) (ok : ∀ r ∈ rs, RwOk r) : AlS H 4 (.ref a) (.ref b) := by
  obtain ⟨vs, ea, ra⟩ := h1
  obtain ⟨us, eb, rb⟩ := h2
  refine .inr ⟨a, b, vs, us, rfl, rfl, .inl ⟨ea, eb⟩, ra.1.trans rb.1.symm, by rw [ra.1]; exact l, fun i u v e1 e2 => ?_⟩
  obtain ⟨r, hr, k1⟩ := ra.at_ e1
  obtain ⟨r', hr', k2⟩ := rb.at_ e2
  rw [hr] at hr'
  cases hr'
  exact als_row k1 k2 (ok r (List.mem_of_getElem? hr))
end Sw
namespace L2
open PySem
theorem ix_or {X : Cx} {r1 r2 : R2} (h1 : IxR X r1) (h2 : IxR X r2) : IxR X (fun x y H Q => r1 x y H Q ∨ r2 x y H Q) := by
  intro va sl pins s σ H x y v u Q I rx ry h
  rcases h with h | h
  · exact h1 va sl pins s σ H x y v u Q I rx ry h
  · exact h2 va sl pins s σ H x y v u Q I rx ry h
end L2
set_option Elab.async false
set_option linter.all false
set_option maxRecDepth 100000
namespace Sw
open PySem L2 XH Hm PySem.NumText
/-! ### rows that are none, as lists of signs (own work) -/
def wr0 : List Str := [mkS [], mkS [32], mkS [115, 112, 108, 105, 116, 32, 32, 48], mkS [32, 115, 112, 108, 105, 116, 32, 48], mkS [115, 112, 108, 105, 116, 32, 48, 32], mkS [115, 112, 108, 105, 116, 32, 97], mkS [115, 112, 108, 105, 116, 32, 48, 49], mkS [115, 112, 108, 105, 116, 32, 45, 49], mkS [115, 112, 108, 105, 116, 32, 49, 48, 48, 48, 48, 48, 48, 48, 48, 48]]
def wr1 : List Str := [mkS [115, 112, 108, 105, 116, 32, 48, 44, 49], mkS [83, 112, 108, 105, 116, 32, 48], mkS [99, 104, 97, 105, 110, 32, 48, 120, 49], mkS [114, 105, 110, 103, 32, 43, 49], mkS [119, 97, 121, 115], mkS [119, 97, 121, 115, 32, 49, 32, 50], mkS [119, 97, 121, 115, 32, 97], mkS [102, 117, 108, 108], mkS [49, 32, 50]]
def wr2 : List Str := [mkS [102, 117, 108, 108, 32, 79, 118, 101, 110, 32, 48, 58, 49], mkS [102, 117, 108, 108, 32, 111, 118, 101, 110, 32, 48], mkS [102, 117, 108, 108, 32, 111, 118, 101, 110, 32, 48, 44, 49], mkS [102, 117, 108, 108, 32, 111, 118, 101, 110, 32, 48, 58, 49, 58, 50], mkS [102, 117, 108, 108, 32, 111, 118, 101, 110, 32, 48, 44, 58, 49], mkS [99, 104, 97, 105, 110, 115, 32, 49]]
def wr3 : List Str := [mkS [102, 117, 108, 108, 32, 111, 118, 101, 110, 32, 44, 48, 58, 49], mkS [102, 117, 108, 108, 32, 111, 118, 101, 110, 32, 48, 58, 49, 44], mkS [102, 117, 108, 108, 32, 111, 118, 101, 110, 32, 48, 44, 44, 49, 58, 50], mkS [102, 117, 108, 108, 32, 111, 118, 101, 110, 32, 97, 58, 49], mkS [102, 117, 108, 108, 32, 111, 118, 101, 110, 32, 48, 58, 48, 49]]
def wr4 : List Str := [mkS [102, 117, 108, 108, 32, 111, 118, 101, 110, 32, 48, 58, 49, 48, 48, 48, 48, 48, 48, 48, 48, 48], mkS [102, 117, 108, 108, 115, 32, 111, 118, 101, 110, 32, 48, 58, 49], mkS [102, 117, 108, 108, 32, 111, 118, 101, 110, 111, 118, 101, 110, 111, 118, 101, 110, 97, 32, 48, 58, 49], mkS [102, 117, 108, 108, 32, 111, 118, 101, 110, 49, 32, 48, 58, 49]]
def wr5 : List Str := [mkS [102, 117, 108, 108, 32, 111, 118, 101, 110, 32, 58, 32, 48], mkS [102, 117, 108, 108, 32, 111, 118, 101, 110, 32, 48, 59, 49, 58, 50], mkS [102, 117, 108, 108, 32, 111, 118, 101, 110, 32, 48, 46, 53, 58, 49], mkS [119, 97, 121, 115, 32, 48, 49], mkS [99, 104, 97, 105, 110, 32, 49, 32, 49, 48, 48, 48, 48, 48, 48, 48, 48, 48]]
def wr6 : List Str := [mkS [119, 97, 121, 115, 32, 49, 48, 48, 48, 48, 48, 48, 48, 48, 48], mkS [114, 105, 110, 103, 32, 48, 58, 49]]
def wrongs : List Str := wr0 ++ wr1 ++ wr2 ++ wr3 ++ wr4 ++ wr5 ++ wr6
theorem wrongs_no : wrongs.all (fun z => (rowR z).isNone && decide (z.length ≤ 30) && !(sL z).contains 10) = true := by decide +kernel
theorem wrong_no {z : Str} (h : z ∈ wrongs) : rowR z = none ∧ z.length ≤ 30 ∧ 10 ∉ sL z := by
  have := List.all_eq_true.mp wrongs_no z h
  simp only [Bool.and_eq_true, decide_eq_true_eq, Bool.not_eq_true', List.contains_eq_mem, decide_eq_false_iff_not] at this
  exact ⟨Option.isNone_iff_eq_none.mp this.1.1, this.1.2, this.2⟩
theorem wrongs_len : wrongs.length = 40 := by decide
def spWrong92 : Sp := fun vs H Q _ => ∃ c : Int, vs = [.int c] ∧ ∀ (z : Str) (H' : Hp), z ∈ wrongs → Same H H' → Q (.str z) H'
end Sw
set_option Elab.async false
set_option linter.all false
set_option maxRecDepth 100000
namespace L2
open PySem PySem.Spec PyProof.Rows XH Sw
theorem vals_strsB : ∀ {xs : List Str} {us : List Value}, Vals (xs.map V.str) us → ∀ (i : Nat) (v : Value), us[i]? = some v → ∃ t, v = .str (xs.getD i "") t
  | [], _, .nil, i, v, h => by simp at h
  | x :: xs, _, .cons r t, 0, v, h => by
    obtain ⟨t', e⟩ := r
    have : v = .str x t' := by simpa [e] using h.symm
    exact ⟨t', by simpa using this⟩
  | x :: xs, _, .cons _ t, i + 1, v, h => by
    obtain ⟨t', e⟩ := vals_strsB (xs := xs) t i v (by simpa using h)
    exact ⟨t', by simpa using e⟩
theorem strs_all (xs ys : List Str) (h : xs.length = ys.length) : ((List.range xs.length).all fun j => xs.getD j "" == ys.getD j "") = decide (xs = ys) := by
  by_cases e : xs = ys
  · subst e
    rw [decide_eq_true rfl, List.all_eq_true]
    intro j _
    simp
  · rw [decide_eq_false e, ← Bool.not_eq_true, List.all_eq_true]
    intro hh
    apply e
    apply List.ext_getElem h
    intro i h1 h2
    have := hh i (List.mem_range.mpr h1)
    rw [List.getD_eq_getElem?_getD, List.getElem?_eq_getElem h1, List.getD_eq_getElem?_getD, List.getElem?_eq_getElem h2] at this
    simpa using this
theorem op_neLS {X : Cx} (hu : X.A.units + 1 < cLine) : OpR X (compareOp .NotEq) (fun x y H Q => ∃ (a b : Addr) (xs ys : List Str), x = .ref a ∧ y = .ref b ∧ H a = some (.lst (xs.map V.str)) ∧ H b = some (.lst (ys.map V.str)) ∧ Q (.bl (!decide (xs = ys))) H) := by
  intro pins s σ H x y v u Q I rx ry h
  obtain ⟨a, b, xs, ys, rfl, rfl, h1, h2, hq⟩ := h
  cases rx
  cases ry
  obtain ⟨i1, r1, p1, _⟩ := I.list (SqL.of h1)
  obtain ⟨i2, r2, p2, _⟩ := I.list (SqL.of h2)
  have l1 : i1.length = xs.length := by rw [← r1.length, List.length_map]
  have l2 : i2.length = ys.length := by rw [← r2.length, List.length_map]
  by_cases hl : xs.length = ys.length
  · refine SeqAt.RcNeAt.lists (e := fun j => xs.getD j "" == ys.getD j "") p1.isList p2.isList (by simp [l1, l2, hl]) (by omega) (fun j g1 g2 => ?_) _ _ _ _ ⟨.bl (!decide (xs = ys)), H, I, ?_, hq⟩
    · have g1' : j < i1.length := by simpa using g1
      have g2' : j < i2.length := by simpa using g2
      obtain ⟨t, e⟩ := vals_strsB r1 j i1[j] (List.getElem?_eq_getElem g1')
      obtain ⟨t', e'⟩ := vals_strsB r2 j i2[j] (List.getElem?_eq_getElem g2')
      simp only [List.getElem_toArray, e, e']
      exact SeqAt.EqAt.str_str _ _ _ _
    · show Value.bool _ = Value.bool _
      rw [List.size_toArray, l1, strs_all xs ys hl]
  · refine SeqAt.RcNeAt.lists_lengths p1.isList p2.isList (by simp [l1, l2, hl]) (by omega) _ _ _ _ ⟨.bl (!decide (xs = ys)), H, I, ?_, hq⟩
    show Value.bool _ = Value.bool _
    rw [decide_eq_false (fun e => hl (by rw [e]))]
    rfl
end L2
namespace Sw
open PySem L2 XH Hm PySem.NumText
/-! ### k92: there and back (own work) -/
theorem cut_some {ns : List Int} : ∃ cs : List Int, cutV (ns.map V.int) (some 2) (some 40) = cs.map V.int ∧ cs.length ≤ 38 := by
  refine ⟨(ns.drop (HT.sIx (ns.map V.int).length 0 (some 2))).take (HT.sIx (ns.map V.int).length (ns.map V.int).length (some 40) - HT.sIx (ns.map V.int).length 0 (some 2)), ?_, ?_⟩
  · unfold cutV
    rw [List.map_take, List.map_drop]
  · rw [List.length_take, show (some 40 : Option Int) = some ((40 : Nat) : Int) from rfl, show (some 2 : Option Int) = some ((2 : Nat) : Int) from rfl, HT.sIx_nat, HT.sIx_nat, List.length_drop, List.length_map]
    omega
/-- which signs stand in a text -/
def Sg (p : Nat → Prop) (z : Str) : Prop := ∀ c ∈ sL z, p c
theorem Sg.app {p : Nat → Prop} {x y : Str} (h : Sg p x) (k : Sg p y) : Sg p (x ++ y) := fun c hc => by
  rw [sL_app] at hc
  rcases List.mem_append.mp hc with q | q
  · exact h c q
  · exact k c q
theorem Sg.join {p : Nat → Prop} {s : Str} (hs : Sg p s) : ∀ {ws : List Str}, (∀ w ∈ ws, Sg p w) → Sg p (Txt.join s ws) := fun {ws} h => by
  rw [join_eq]
  induction ws with
  | nil =>
    intro c hc
    have : c ∈ ([] : List Nat) := hc
    cases this
  | cons x ws ih =>
    cases ws with
    | nil => exact h x List.mem_cons_self
    | cons y ws =>
      rw [join_cons2]
      exact ((h x List.mem_cons_self).app hs).app (ih fun w hw => h w (List.mem_cons_of_mem _ hw))
theorem Sg.imp {p q : Nat → Prop} {z : Str} (h : Sg p z) (f : ∀ c, p c → q c) : Sg q z := fun c hc => f c (h c hc)
theorem sg_num (n : Nat) : Sg (fun c => 48 ≤ c ∧ c ≤ 57) (numT n) := fun c hc => by
  rw [numT, sL_mk] at hc
  exact dg_digit n c hc
theorem numT_ne (n : Nat) : numT n ≠ "" := fun e => by
  have := congrArg sL e
  rw [numT, sL_mk] at this
  exact dg_ne n this
theorem numR_T {n : Nat} (h : n ≤ 999999999) : numR (numT n) = some n := by
  have l := numT_len h
  rw [← sL_len, numT, sL_mk] at l
  have f : fig? (sL (numT n)) = some n := by rw [numT, sL_mk]; exact fig_dg (by omega)
  rw [numR_some f, if_pos h]
theorem numsR_T : ∀ {ns : List Nat}, (∀ n ∈ ns, n ≤ 999999999) → numsR (ns.map numT) = some ns
  | [], _ => rfl
  | n :: ns, h => by
    show (match numR (numT n), numsR (ns.map numT) with | some n, some ns => some (n :: ns) | _, _ => none) = _
    rw [numR_T (h n List.mem_cons_self), numsR_T fun m hm => h m (List.mem_cons_of_mem _ hm)]
/-- the signs of a chain: figures and commas -/
theorem sg_ch (ns : List Nat) : Sg (fun c => c = 44 ∨ 48 ≤ c ∧ c ≤ 57) (chT ns) := Sg.join (fun c hc => .inl (by simpa [cma, sL_mk] using hc)) fun w hw => by
  obtain ⟨n, _, rfl⟩ := List.mem_map.mp hw
  exact (sg_num n).imp fun c h => .inr h
theorem chR_T {m : Nat} {ns : List Nat} (h : NsOk m ns) : chR (chT ns) = some ns := by
  cases ns with
  | nil => exact if_pos rfl
  | cons n ns =>
    have ne : chT (n :: ns) ≠ "" := fun e => by
      have l := congrArg Str.length e
      unfold chT at l
      rw [join_len, List.map_cons, List.map_cons, List.sum_cons] at l
      have : (numT n).length ≠ 0 := fun z => numT_ne n (by
        apply sL_inj
        rw [← sL_len] at z
        exact List.length_eq_zero_iff.mp z)
      have : ("" : Str).length = 0 := rfl
      omega
    unfold chR
    rw [if_neg ne]
    unfold chT cma
    rw [join_eq, split_of (by simp) fun w hw => ?_]
    · exact numsR_T h.2
    · obtain ⟨k, _, rfl⟩ := List.mem_map.mp hw
      exact fun hc => by have := sg_num k 44 hc; omega
theorem sg_pair (f b : List Nat) : Sg (fun c => c = 44 ∨ 48 ≤ c ∧ c ≤ 58) (pairT f b) := Sg.join (fun c hc => .inr (by have : c = 58 := by simpa [cln, sL_mk] using hc
                                                                                                                       omega)) fun w hw => by
  have : w = chT f ∨ w = chT b := by simpa using hw
  rcases this with rfl | rfl
  · exact (sg_ch f).imp fun c h => h.imp id fun h => by omega
  · exact (sg_ch b).imp fun c h => h.imp id fun h => by omega
theorem halfR_T {m : Nat} {f b : List Nat} (hf : NsOk m f) (hb : NsOk m b) : halfR (pairT f b) = some (f, b) := by
  rw [half_eq]
  unfold pairT cln
  rw [join_eq, split_of (by simp) fun w hw => ?_]
  · show (match [chR (chT f), chR (chT b)] with | [some x, some y] => some (x, y) | _ => none) = _
    rw [chR_T hf, chR_T hb]
  · have : w = chT f ∨ w = chT b := by simpa using hw
    rcases this with rfl | rfl
    · exact fun hc => by have := sg_ch f 58 hc; omega
    · exact fun hc => by have := sg_ch b 58 hc; omega
theorem halvesR_T : ∀ {fs bs : List (List Nat)}, fs.length = bs.length → (∀ f ∈ fs, NsOk 4 f) → (∀ b ∈ bs, NsOk 4 b) → halvesR (List.zipWith pairT fs bs) = some (fs, bs)
  | [], [], _, _, _ => rfl
  | [], _ :: _, h, _, _ => by simp at h
  | _ :: _, [], h, _, _ => by simp at h
  | f :: fs, b :: bs, h, hf, hb => by
    show (match halfR (pairT f b), halvesR (List.zipWith pairT fs bs) with | some (a, b), some (xs, ys) => some (a :: xs, b :: ys) | _, _ => none) = _
    rw [halfR_T (hf f List.mem_cons_self) (hb b List.mem_cons_self), halvesR_T (by simpa using h) (fun x hx => hf x (List.mem_cons_of_mem _ hx)) fun x hx => hb x (List.mem_cons_of_mem _ hx)]
/-- words have no blank, no new row, and some sign -/
def Wd (z : Str) : Prop := z ≠ "" ∧ Sg (fun c => 33 ≤ c) z
theorem wd_num (n : Nat) : Wd (numT n) := ⟨numT_ne n, (sg_num n).imp fun c h => by omega⟩
theorem pair_ne (f b : List Nat) : pairT f b ≠ "" := fun e => by
  have := congrArg sL e
  rw [pairT_eq, sL_app, sL_app] at this
  have h : (58 : Nat) ∈ ([] : List Nat) := by
    rw [show sL "" = ([] : List Nat) from rfl] at this
    rw [← this]
    simp [cln, sL_mk]
  cases h
theorem row_wd {r : Rw} (h : RwOk r) : ∀ w ∈ rowWs r, Wd w := by
  have lit : ∀ z : Str, (z = "split" ∨ z = "chain" ∨ z = "ring" ∨ z = "ways" ∨ z = "full") → Wd z := fun z hz => by
    rcases hz with rfl | rfl | rfl | rfl | rfl <;> exact ⟨by decide, fun c hc => by revert c hc; decide⟩
  cases r with
  | lst w ns =>
    intro x hx
    rcases List.mem_cons.mp hx with rfl | hx
    · exact lit _ (by rcases h.1 with e | e | e <;> simp [e])
    · obtain ⟨n, _, rfl⟩ := List.mem_map.mp hx
      exact wd_num n
  | ways n =>
    intro x hx
    have : x = "ways" ∨ x = numT n := by simpa [rowWs] using hx
    rcases this with rfl | rfl
    · exact lit _ (by simp)
    · exact wd_num n
  | full z fs bs =>
    intro x hx
    have : x = "full" ∨ x = z ∨ x ∈ List.zipWith pairT fs bs := by simpa [rowWs] using hx
    rcases this with rfl | rfl | hx
    · exact lit _ (by simp)
    · have nm := h.1
      exact ⟨fun e => by rw [e] at nm; exact absurd nm.1 (by decide), fun c hc => by have := nm.2.2 c hc; omega⟩
    · obtain ⟨i, hi⟩ := List.mem_iff_getElem?.mp hx
      rw [List.getElem?_zipWith_eq_some] at hi
      obtain ⟨f, b, _, _, rfl⟩ := hi
      exact ⟨pair_ne f b, (sg_pair f b).imp fun c h => by omega⟩
theorem rowWs_ne (r : Rw) : rowWs r ≠ [] := by cases r <;> simp [rowWs]
theorem split_row {r : Rw} (h : RwOk r) : Txt.split (rowT r) blk = rowWs r := by
  unfold rowT blk
  rw [join_eq, split_of (rowWs_ne r) fun w hw hc => ?_]
  have := (row_wd h w hw).2 32 hc
  omega
theorem rowR_T {r : Rw} (h : RwOk r) : rowR (rowT r) = some r := by
  have ne : ¬ (Str.empty ∈ rowWs r) := fun m => (row_wd h _ m).1 rfl
  unfold rowR
  rw [split_row h, if_neg ne]
  cases r with
  | lst w ns => exact (words_lst h.1).trans (by rw [numsR_T h.2.2]; rfl)
  | ways n =>
    refine (words_ways (by decide) rfl).trans ?_
    unfold waysR
    rw [show [numT n] = [n].map numT from rfl, numsR_T fun m hm => by rw [List.mem_singleton.mp hm]; exact h]
  | full z fs bs =>
    refine (words_full (by decide) (by decide) rfl).trans ?_
    show (if nmB z = true then _ else none) = _
    rw [if_pos ((nmB_iff z).mpr h.1), halvesR_T h.2.1 h.2.2.2.1 h.2.2.2.2]
    rfl
theorem row_nl {r : Rw} (h : RwOk r) : 10 ∉ sL (rowT r) := fun hc => by
  have : Sg (fun c => 32 ≤ c) (rowT r) := Sg.join (fun c hc => by have : c = 32 := by simpa [blk, sL_mk] using hc
                                                                  omega) fun w hw => ((row_wd h w hw).2).imp fun c h => by omega
  have := this 10 hc
  omega
theorem rowsR_T : ∀ {rs : List Rw}, (∀ r ∈ rs, RwOk r) → rowsR (rs.map rowT) = some rs
  | [], _ => rfl
  | r :: rs, h => by
    rw [List.map_cons, rows_cons, rowR_T (h r List.mem_cons_self), rowsR_T fun x hx => h x (List.mem_cons_of_mem _ hx)]
theorem rowT_ne {r : Rw} (h : RwOk r) : rowT r ≠ "" := fun e => by
  have k := rowR_T h
  rw [e] at k
  have : rowR "" = none := by decide +kernel
  rw [this] at k
  cases k
theorem split_lines {ws : List Str} (ne : ws ≠ []) (h : ∀ w ∈ ws, 10 ∉ sL w) : Txt.split (Txt.join nwl ws) nwl = ws := by
  unfold nwl
  rw [join_eq]
  exact split_of ne h
theorem join_ne {ws : List Str} {w : Str} (m : w ∈ ws) (h : w ≠ "") : Txt.join nwl ws ≠ "" := fun e => by
  have l := congrArg Str.length e
  rw [join_len] at l
  have one : w.length ≤ (ws.map fun x => x.length).sum := by
    clear e l
    induction ws with
    | nil => cases m
    | cons x ws ih =>
      rw [List.map_cons, List.sum_cons]
      rcases List.mem_cons.mp m with rfl | m
      · omega
      · have := ih m; omega
  have : w.length ≠ 0 := fun z => h (by
    apply sL_inj
    rw [← sL_len] at z
    exact List.length_eq_zero_iff.mp z)
  have : ("" : Str).length = 0 := rfl
  omega
theorem paperR_T {rs : List Rw} (h : ∀ r ∈ rs, RwOk r) : paperR (paperT rs) = some rs := by
  cases rs with
  | nil => exact if_pos rfl
  | cons r rs =>
    have ne : paperT (r :: rs) ≠ "" := join_ne (w := rowT r) (by simp) (rowT_ne (h r List.mem_cons_self))
    unfold paperR
    rw [if_neg ne]
    unfold paperT
    rw [split_lines (by simp) fun w hw => ?_]
    · exact rowsR_T h
    · obtain ⟨x, hx, rfl⟩ := List.mem_map.mp hw
      exact row_nl (h x hx)
theorem paperT_len {rs : List Rw} (h : ∀ r ∈ rs, RwOk r) (l : rs.length ≤ 40) : (paperT rs).length ≤ 30000 := by
  have s := sum_len (m := 300) (ws := rs.map rowT) fun w hw => by
    obtain ⟨x, hx, rfl⟩ := List.mem_map.mp hw
    exact rowWs_len (h x hx)
  unfold paperT
  rw [join_len, show nwl.length = 1 from rfl]
  rw [List.length_map] at s ⊢
  omega
theorem paper_split {rs : List Rw} (h : ∀ r ∈ rs, RwOk r) (l : rs.length ≤ 40) : (Txt.split (paperT rs) nwl).length ≤ 100 ∧ ∀ w ∈ Txt.split (paperT rs) nwl, w.length ≤ 900 := by
  cases rs with
  | nil =>
    have e : Txt.split (paperT []) nwl = ([""] : List Str) := by decide +kernel
    rw [e]
    exact ⟨by decide, fun w hw => by rw [List.mem_singleton.mp hw]; decide⟩
  | cons r rs =>
    unfold paperT
    rw [split_lines (by simp) fun w hw => by
      obtain ⟨x, hx, rfl⟩ := List.mem_map.mp hw
      exact row_nl (h x hx)]
    refine ⟨by rw [List.length_map]; omega, fun w hw => ?_⟩
    obtain ⟨x, hx, rfl⟩ := List.mem_map.mp hw
    have := rowWs_len (h x hx)
    omega
/-- lines, one of them wrong, perhaps one more behind -/
theorem bad_text {K : PySem.W.Frag} {H : Hp} {rs : List Rw} {i : Nat} {z : Str} {more : List Str} (h : ∀ r ∈ rs, RwOk r) (l : rs.length ≤ 40) (hi : i ≤ rs.length) (hz : z ∈ wrongs) (hm : ∀ w ∈ more, w ∈ wrongs) (lm : more.length ≤ 1) (ne : (rs.map rowT).take i ++ [z] ++ (rs.map rowT).drop i ++ more ≠ ([""] : List Str)) :
    Refd K H (.str (Txt.join nwl ((rs.map rowT).take i ++ [z] ++ (rs.map rowT).drop i ++ more))) i := by
  have wz := wrong_no hz
  have all : ∀ w ∈ (rs.map rowT).take i ++ [z] ++ (rs.map rowT).drop i ++ more, 10 ∉ sL w ∧ w.length ≤ 300 := fun w hw => by
    rcases List.mem_append.mp hw with hw | hw
    · rcases List.mem_append.mp hw with hw | hw
      · rcases List.mem_append.mp hw with hw | hw
        · obtain ⟨x, hx, rfl⟩ := List.mem_map.mp (List.mem_of_mem_take hw)
          exact ⟨row_nl (h x hx), rowWs_len (h x hx)⟩
        · rw [List.mem_singleton.mp hw]
          exact ⟨wz.2.2, by have := wz.2.1; omega⟩
      · obtain ⟨x, hx, rfl⟩ := List.mem_map.mp (List.mem_of_mem_drop hw)
        exact ⟨row_nl (h x hx), rowWs_len (h x hx)⟩
    · have := wrong_no (hm w hw)
      exact ⟨this.2.2, by have := this.2.1; omega⟩
  have li : ((rs.map rowT).take i).length = i := by rw [List.length_take, List.length_map]; omega
  have len : ((rs.map rowT).take i ++ [z] ++ (rs.map rowT).drop i ++ more).length = rs.length + 1 + more.length := by
    rw [List.length_append, List.length_append, List.length_append, li, List.length_drop, List.length_map]
    show i + 1 + _ + _ = _
    omega
  have atz : ((rs.map rowT).take i ++ [z] ++ (rs.map rowT).drop i ++ more)[i]? = some z := by
    rw [List.append_assoc, List.append_assoc, List.getElem?_append_right (by omega), li, Nat.sub_self]
    rfl
  have atj : ∀ j w, j < i → ((rs.map rowT).take i ++ [z] ++ (rs.map rowT).drop i ++ more)[j]? = some w → rowR w ≠ none := fun j w hj e => by
    rw [List.append_assoc, List.append_assoc, List.getElem?_append_left (by omega), List.getElem?_take, if_pos hj, List.getElem?_map] at e
    obtain ⟨r, hr, rfl⟩ := Option.map_eq_some_iff.mp e
    rw [rowR_T (h r (List.mem_of_getElem? hr))]
    exact nofun
  generalize (rs.map rowT).take i ++ [z] ++ (rs.map rowT).drop i ++ more = ws at ne all len atz atj ⊢
  have nw : ws ≠ [] := fun e => by rw [e] at atz; simp at atz
  have sp := split_lines nw fun w hw => (all w hw).1
  have s := sum_len (m := 300) fun w hw => (all w hw).2
  refine .inl ⟨_, rfl, ?_, ?_, by rw [sp]; omega, by rw [sp]; exact fun w hw => by have := (all w hw).2; omega, by rw [sp]; exact ⟨⟨z, atz, wz.1⟩, atj⟩⟩
  · intro e
    have := congrArg (fun t => Txt.split t nwl) e
    simp only [sp] at this
    exact ne (this.trans (by decide +kernel))
  · rw [join_len, show nwl.length = 1 from rfl]
    omega
theorem six_at {K : PySem.W.Frag} {H : Hp} {l1 t1 d1 : Addr} {xs ys : List V} {kv : List (Key × V)} {i : Int} (e1 : H l1 = some (.lst xs)) (e2 : H t1 = some (.tup ys)) (e3 : H d1 = some (.dK kv)) (h0 : 0 ≤ i) (h : i < 6) : ∃ v : V, atI [V.non, V.int 5, V.bl true, V.ref l1, V.ref t1, V.ref d1] i = some v ∧ Refd K H v 0 := by
  rcases (by omega : i = 0 ∨ i = 1 ∨ i = 2 ∨ i = 3 ∨ i = 4 ∨ i = 5) with rfl | rfl | rfl | rfl | rfl | rfl
  · exact ⟨_, rfl, .inr ⟨rfl, _, .non, rfl⟩⟩
  · exact ⟨_, rfl, .inr ⟨rfl, _, .int _, rfl⟩⟩
  · exact ⟨_, rfl, .inr ⟨rfl, _, .bl _, rfl⟩⟩
  · exact ⟨_, rfl, .inr ⟨rfl, _, .lst e1, rfl⟩⟩
  · exact ⟨_, rfl, .inr ⟨rfl, _, .tup e2, rfl⟩⟩
  · exact ⟨_, rfl, .inr ⟨rfl, _, .dK e3, rfl⟩⟩
end Sw
set_option Elab.async false
set_option linter.all false
set_option maxRecDepth 100000
namespace Lk92
open PySem L2 Sw XH PyProof.Rows Hm
def top (i : Nat) : Stmt := PySem.Challenge.pw_stovework_k92_papers_written.main.body.getD i (.Pass ⟨0, 0, 0, 0⟩)
def clsAt (s : Stmt) (i : Nat) : Stmt := match s with | .ClassDef _ _ _ body _ _ _ _ _ _ _ => body.getD i (.Pass ⟨0, 0, 0, 0⟩) | _ => s
abbrev sread_figures : Stmt := top 25
abbrev sis_name : Stmt := top 21
abbrev swords_of : Stmt := top 27
abbrev snumber_of : Stmt := top 28
abbrev snumbers_text : Stmt := top 35
abbrev schains_text : Stmt := top 34
abbrev srow_text : Stmt := top 33
abbrev spaper_text : Stmt := top 32
abbrev sread_numbers : Stmt := top 38
abbrev sread_chain : Stmt := top 41
abbrev sread_ways : Stmt := top 39
abbrev sread_full : Stmt := top 40
abbrev sread_row : Stmt := top 37
abbrev sread_paper : Stmt := top 36
abbrev s_law_cell_at : Stmt := top 43
abbrev s_law_numbers : Stmt := top 45
abbrev s_law_tool : Stmt := top 46
abbrev s_law_row : Stmt := top 47
abbrev s_law_points : Stmt := top 48
abbrev s_law_line : Stmt := top 49
abbrev s_law_alike_vf : Stmt := top 44
abbrev s_law_alike_v0 : Stmt := top 44
abbrev s_law_alike_v1 : Stmt := top 44
abbrev s_law_alike_v2 : Stmt := top 44
abbrev s_law_alike_v3 : Stmt := top 44
abbrev s_law_alike : Stmt := top 44
abbrev s_law_alone : Stmt := top 51
abbrev s_law_wrong : Stmt := top 50
abbrev s_law_refused : Stmt := top 52
abbrev slaw : Stmt := top 53
abbrev s_NoRow : Stmt := clsAt (top 13) 0
structure Bn (K : PySem.W.Frag) (mg : Str → Option Value) (c_EmptyHeap c_InRing c_LISTED c_NoAmount c_NoDish c_NoName c_NoNet c_NoNumber c_NoPack c_NoPlan c_NoRow c_NoStand c_NoStandIn c_NoStep c_StoveError c_TooFew c_TooMany c_Twice : Addr) : Prop where
  g_LETTERS : ∃ t, mg "LETTERS" = some (.str "abcdefghijklmnopqrstuvwxyz" t)
  g_MOST_LETTERS : ∃ t, mg "MOST_LETTERS" = some (.int 12 t)
  g_FIGURES : ∃ t, mg "FIGURES" = some (.str "0123456789" t)
  g_MOST_FIGURES : ∃ t, mg "MOST_FIGURES" = some (.int 30 t)
  g_GREATEST_WRITTEN : ∃ t, mg "GREATEST_WRITTEN" = some (.int 999999999 t)
  b_bool : mg "bool" = none
  b_enumerate : mg "enumerate" = none
  b_int : mg "int" = none
  b_isinstance : mg "isinstance" = none
  b_len : mg "len" = none
  b_list : mg "list" = none
  b_range : mg "range" = none
  b_str : mg "str" = none
  b_tuple : mg "tuple" = none
  b_zip : mg "zip" = none
  m_EmptyHeap : mg "EmptyHeap" = some (.ref c_EmptyHeap)
  m_InRing : mg "InRing" = some (.ref c_InRing)
  m_LISTED : mg "LISTED" = some (.ref c_LISTED)
  m_NoAmount : mg "NoAmount" = some (.ref c_NoAmount)
  m_NoDish : mg "NoDish" = some (.ref c_NoDish)
  m_NoName : mg "NoName" = some (.ref c_NoName)
  m_NoNet : mg "NoNet" = some (.ref c_NoNet)
  m_NoNumber : mg "NoNumber" = some (.ref c_NoNumber)
  m_NoPack : mg "NoPack" = some (.ref c_NoPack)
  m_NoPlan : mg "NoPlan" = some (.ref c_NoPlan)
  m_NoRow : mg "NoRow" = some (.ref c_NoRow)
  m_NoStand : mg "NoStand" = some (.ref c_NoStand)
  m_NoStandIn : mg "NoStandIn" = some (.ref c_NoStandIn)
  m_NoStep : mg "NoStep" = some (.ref c_NoStep)
  m_StoveError : mg "StoveError" = some (.ref c_StoveError)
  m_TooFew : mg "TooFew" = some (.ref c_TooFew)
  m_TooMany : mg "TooMany" = some (.ref c_TooMany)
  m_Twice : mg "Twice" = some (.ref c_Twice)
  tg_LISTED : TupG K c_LISTED ["split", "chain", "ring"]
  t_NoRow : XT K c_NoRow
  s_NoRow_NoRow : PySem.W.subIn K (.ref c_NoRow) (.ref c_NoRow) = some true
  k_NoRow_StoveError : PySem.W.kitOne K (.ref c_NoRow) (.ref c_StoveError) = some true
  a_NoRow : XA K c_NoRow c_StoveError
  n_NoRow : PySem.W.findIn K (.ref c_NoRow) "at" = some none
  i_NoRow : XI K c_NoRow
  ka_NoRow_1 : PySem.W.kitAny K (.ref c_NoRow) [.ref c_EmptyHeap, .ref c_InRing, .ref c_NoAmount, .ref c_NoDish, .ref c_NoName, .ref c_NoNet, .ref c_NoNumber, .ref c_NoPack, .ref c_NoPlan, .ref c_NoStand] = some false
  ka_NoRow_2 : PySem.W.kitAny K (.ref c_NoRow) [.ref c_NoStandIn, .ref c_NoStep, .ref c_TooFew, .ref c_TooMany, .ref c_Twice] = some false
section
variable {P : Program} {w : World} {K : PySem.W.Frag} {mg : Str → Option Value} {base : Heap} {f : Addr} {fd : FuncData} {c_EmptyHeap c_InRing c_LISTED c_NoAmount c_NoDish c_NoName c_NoNet c_NoNumber c_NoPack c_NoPlan c_NoRow c_NoStand c_NoStandIn c_NoStep c_StoveError c_TooFew c_TooMany c_Twice : Addr}
variable (B : Bn K mg c_EmptyHeap c_InRing c_LISTED c_NoAmount c_NoDish c_NoName c_NoNet c_NoNumber c_NoPack c_NoPlan c_NoRow c_NoStand c_NoStandIn c_NoStep c_StoveError c_TooFew c_TooMany c_Twice)
include B
theorem ok_NoRow {dV : Value} (F : FunD K "__init__" "NoRow.__init__" s_NoRow dV f fd) : FnOk P w K mg base CX0 1 f fd ["self", "at"] (spInit c_NoRow "at") := by
  have sc : FnScope ["self", "at"] ["self", "at"] (defScope s_NoRow) := scK (by decide +kernel)
  refine F.ok sc (fun vs H Q E h => ?_) (fun cdv A outer s H vs Q E hr h => ?_)
  · obtain ⟨a, y, n, rfl, _⟩ := h
    rfl
  obtain ⟨a, y, n, rfl, e, q⟩ := h
  exact ⟨_, (pss_one (ps_fldX (K := K) rfl (pv 0) (pv 1) rfl)), y, rfl, _, rfl, a, c_NoRow, c_StoveError, n, rfl, e, B.a_NoRow, B.n_NoRow, q⟩
set_option maxHeartbeats 4000000 in
theorem okread_figures {dV : Value} (F : FunD K "read_figures" "read_figures" sread_figures dV f fd)  : FnOk P w K mg base CX0 1 f fd ["word"] spFigs := by
  have sc : FnScope ["word", "sign"] ["word"] (defScope sread_figures) := scK (by decide +kernel)
  refine F.ok sc (fun vs H Q E h => ?_) (fun cdv A outer s H vs Q E hr h => ?_)
  · obtain ⟨_, rfl, _⟩ := h
    rfl
  obtain ⟨z, rfl, hz, q0, q1⟩ := h
  have hz' : z.length ≤ sizeLine := Nat.le_trans hz (by decide)
  have hl := sL_len z
  refine ⟨_, (pss_cons (ps_if (PW.pt (pw_or (pt_cmpR op_lt (pe_callB call_len_str rfl B.b_len boot_len (@pa_cons _ _ _ _ _ (pv 0) pa_nil rfl)) pe_int (nomark _)) (pw_or1 (pt_cmpR op_gt (pe_callB call_len_str rfl B.b_len boot_len (@pa_cons _ _ _ _ _ (pv 0) pa_nil rfl)) (pe_globI rfl B.g_MOST_FIGURES) (nomark _))))) (pss_one (ps_ret pe_non)) pss_nil) (pss_cons (ps_if (PW.pt (pw_and (pt_cmpR op_eq (pe_ix ix_str (pv 0) pe_int (fun _ _ => rfl)) pe_str (nomark _)) (pw_and1 (pt_cmpR op_ne (pv 0) pe_str (nomark _))))) (pss_one (ps_ret pe_non)) pss_nil) (pss_cons (ps_for PassesOwn.never rfl (pi_str (pv 0)) (pg_name (i := 1) sc.nd rfl (Or.inl rfl)) (pss_one (ps_if (pt_cmpR op_notIn_str (pv 1) (pe_globS rfl B.g_FIGURES) (by with_unfolding_all rfl)) (pss_one (ps_ret pe_non)) pss_nil))) (pss_one (ps_ret (pe_callTy call_int_str rfl B.b_int boot_int (@pa_cons _ _ _ _ _ (pv 0) pa_nil rfl))))))), ?_⟩
  try dsimp only [cxK]
  refine ⟨_, rfl, z, rfl, hz', _, _, rfl, rfl, _, rfl, d2 (fun c => ?_) (fun c1 => ⟨_, rfl, z, rfl, hz', _, _, rfl, rfl, _, rfl, d2 (fun c => ?_) (fun c2 => ?_)⟩)⟩
  · exact q0 (fig_not fun f => by have := f.1; omega)
  · exact q0 (fig_not fun f => by have := f.2.1; omega)
  obtain ⟨c0, r0, el⟩ : ∃ c r, sL z = c :: r := by
    cases e : sL z with
    | nil => rw [e] at hl; simp at hl; omega
    | cons c r => exact ⟨c, r, rfl⟩
  try dsimp only [gName, tNext]
  refine cut (fun σ H' => σ = [some (.str z), none] ∧ H' = H ∧ (c0 ≠ 48 ∨ sL z = [48])) (fun N hN => ?_) ?_
  · refine ⟨_, rfl, z, 0, c0, rfl, rfl, hz', (by show atI (sL z) ((0 : Nat) : Int) = some c0; exact atI_nat (by rw [el]; rfl)), rfl, _, rfl, str_eq (fun e1 => ⟨_, rfl, rfl, _, rfl, str_ne (fun e2 => ?_) (fun e2 => ?_)⟩) (fun e1 => ?_)⟩
    · refine q0 (fig_not fun f => ?_)
      have c48 : c0 = 48 := by
        have := congrArg sL (e1.trans zero_mk)
        rw [one_mk, sL_mk, sL_mk] at this
        cases this
        rfl
      rcases f.2.2.1 with h | h
      · exact h (by rw [el, c48]; rfl)
      · exact e2 (sL_inj (by rw [h, zero_mk, sL_mk]))
    · exact hN _ _ ⟨rfl, rfl, .inr (by rw [e2, zero_mk, sL_mk])⟩
    · refine hN _ _ ⟨rfl, rfl, .inl fun e => e1 ?_⟩
      rw [e, zero_mk]
      rfl
  rintro σ H' ⟨rfl, rfl, hd⟩
  refine ⟨_, rfl, z, rfl, for_str (fun i σ H2 => H2 = H' ∧ (∃ o, σ = [some (.str z), o]) ∧ ∀ j c, j < i → z.cps[j]? = some c → 48 ≤ c ∧ c ≤ 57) ⟨rfl, ⟨_, rfl⟩, fun j c h => absurd h (by omega)⟩ (fun i c σ H2 hc hP => ?_) (fun σ H2 hP => ?_)⟩
  · obtain ⟨rfl, ⟨o, rfl⟩, hP⟩ := hP
    refine ⟨_, rfl, _, _, rfl, rfl, _, rfl, nnT (fun e => ?_) (fun e => ?_)⟩
    · have e' := (fig_mem c).symm.trans e
      refine q0 (fig_not fun f => ?_)
      have := f.2.2.2 c (List.mem_of_getElem? (show (sL z)[i]? = some c by rw [← hc]; exact Array.getElem?_toList))
      rw [decide_eq_true this] at e'
      cases e'
    · have e' := (fig_mem c).symm.trans e
      refine ⟨rfl, ⟨_, rfl⟩, fun j c' hj hc' => ?_⟩
      rcases Nat.lt_succ_iff_lt_or_eq.mp hj with k | k
      · exact hP j c' k hc'
      · subst k
        rw [hc] at hc'
        cases hc'
        exact of_decide_eq_true e'
  · obtain ⟨rfl, ⟨o, rfl⟩, hP⟩ := hP
    have f : Fig (sL z) := by
      refine ⟨by omega, by omega, ?_, fun c hc => ?_⟩
      · rcases hd with h | h
        · exact .inl (by rw [el]; simp; exact h)
        · exact .inr h
      · obtain ⟨i, hi⟩ := List.mem_iff_getElem?.mp hc
        have hi' : z.cps[i]? = some c := by rw [← hi]; exact Array.getElem?_toList.symm
        exact hP i c (by have := (Array.getElem?_eq_some_iff.mp hi').1; exact this) hi'
    exact ⟨_, rfl, z, _, rfl, int_text f, by have := f.2.1; omega, q1 _ (fig_is f)⟩

set_option maxHeartbeats 4000000 in
theorem okis_name {dV : Value} (F : FunD K "is_name" "is_name" sis_name dV f fd)  : FnOk P w K mg base CX0 1 f fd ["thing"] (spIsName K) := by
  have sc : FnScope ["thing", "sign"] ["thing"] (defScope sis_name) := scK (by decide +kernel)
  refine F.ok sc (fun vs H Q E h => ?_) (fun cdv A outer s H vs Q E hr h => ?_)
  · obtain ⟨_, rfl, _⟩ := h
    rfl
  obtain ⟨x, rfl, h⟩ := h
  refine ⟨_, (pss_cons (ps_if (PW.pt (pw_or (pt_not (pt_val (pe_callB (call_isiT (K := K) rfl) rfl B.b_isinstance boot_isinstance (@pa_cons _ _ _ _ _ (pv 0) (@pa_cons _ _ _ _ _ (pe_bltn (v := .ty "str") rfl B.b_str boot_str rfl) pa_nil rfl) rfl)))) (pw_or (pt_cmpR op_lt (pe_callB call_len_str rfl B.b_len boot_len (@pa_cons _ _ _ _ _ (pv 0) pa_nil rfl)) pe_int (nomark _)) (pw_or1 (pt_cmpR op_gt (pe_callB call_len_str rfl B.b_len boot_len (@pa_cons _ _ _ _ _ (pv 0) pa_nil rfl)) (pe_globI rfl B.g_MOST_LETTERS) (nomark _)))))) (pss_one (ps_ret pe_bl)) pss_nil) (pss_cons (ps_for PassesOwn.never rfl (pi_str (pv 0)) (pg_name (i := 1) sc.nd rfl (Or.inl rfl)) (pss_one (ps_if (pt_cmpR op_notIn_str (pv 1) (pe_globS rfl B.g_LETTERS) (by with_unfolding_all rfl)) (pss_one (ps_ret pe_bl)) pss_nil))) (pss_one (ps_ret pe_bl)))), ?_⟩
  try dsimp only [cxK]
  rcases h with ⟨z, rfl, hz, q1, q0⟩ | ⟨ty, hty, hk, q⟩
  · have hz' : z.length ≤ sizeLine := Nat.le_trans hz (by decide)
    have hl := sL_len z
    try dsimp only [gName, tNext]
    refine cut (fun σ H' => H = H' ∧ σ = [some (.str z), none] ∧ 1 ≤ z.length ∧ z.length ≤ 12) (fun N hN => ?_) ?_
    · refine ⟨_, rfl, _, _, _, true, rfl, .str _, rfl, _, rfl, iteF ⟨_, rfl, z, rfl, hz', _, _, rfl, rfl, _, rfl, d2 (fun c => ?_) (fun c1 => ⟨_, rfl, z, rfl, hz', _, _, rfl, rfl, _, rfl, d2 (fun c => ?_) (fun c2 => ?_)⟩)⟩⟩
      · exact q0 fun n => by have := n.1; omega
      · exact q0 fun n => by have := n.2.1; omega
      · exact hN _ _ ⟨rfl, rfl, by omega, by omega⟩
    rintro σ _ ⟨rfl, rfl, l1, l2⟩
    refine ⟨_, rfl, z, rfl, for_str (fun i σ H2 => H = H2 ∧ (∃ o, σ = [some (.str z), o]) ∧ ∀ j c, j < i → z.cps[j]? = some c → 97 ≤ c ∧ c ≤ 122) ⟨rfl, ⟨_, rfl⟩, fun j c h => absurd h (by omega)⟩ (fun i c σ H2 hc hP => ?_) (fun σ H2 hP => ?_)⟩
    · obtain ⟨rfl, ⟨o, rfl⟩, hP⟩ := hP
      refine ⟨_, rfl, _, _, rfl, rfl, _, rfl, nnT (fun e => ?_) (fun e => ?_)⟩
      · have e' := (let_mem c).symm.trans e
        refine q0 fun n => ?_
        have := n.2.2 c (List.mem_of_getElem? (show (sL z)[i]? = some c by rw [← hc]; exact Array.getElem?_toList))
        rw [decide_eq_true this] at e'
        cases e'
      · have e' := (let_mem c).symm.trans e
        refine ⟨rfl, ⟨_, rfl⟩, fun j c' hj hc' => ?_⟩
        rcases Nat.lt_succ_iff_lt_or_eq.mp hj with k | k
        · exact hP j c' k hc'
        · subst k
          rw [hc] at hc'
          cases hc'
          exact of_decide_eq_true e'
    · obtain ⟨rfl, ⟨o, rfl⟩, hP⟩ := hP
      refine q1 ⟨by omega, by omega, fun c hc => ?_⟩
      obtain ⟨i, hi⟩ := List.mem_iff_getElem?.mp hc
      have hi' : z.cps[i]? = some c := by rw [← hi]; exact Array.getElem?_toList.symm
      exact hP i c (by have := (Array.getElem?_eq_some_iff.mp hi').1; exact this) hi'
  · exact ⟨_, rfl, _, _, _, false, rfl, hty, hk, _, rfl, iteT q⟩

set_option maxHeartbeats 4000000 in
theorem okwords_of {dV : Value} (F : FunD K "words_of" "words_of" swords_of dV f fd)  : FnOk P w K mg base CX0 1 f fd ["row"] spSplit := by
  have sc : FnScope ["row", "words"] ["row"] (defScope swords_of) := scK (by decide +kernel)
  refine F.ok sc (fun vs H Q E h => ?_) (fun cdv A outer s H vs Q E hr h => ?_)
  · obtain ⟨_, rfl, _⟩ := h
    rfl
  obtain ⟨z, rfl, hz, q0, q1⟩ := h
  have s4 : (5000 : Nat) ≤ sizeLine := by decide
  refine ⟨_, (pss_cons (ps_set (i := 1) sc.nd rfl (Or.inl rfl) (pe_bm PySem.F.plainAttrs_str PySem.F.slot_str_split PySem.F.type_str_split mt_split (pv 0) (@pa_cons _ _ _ _ _ pe_str pa_nil rfl))) (pss_cons (ps_if (pt_cmpR op_in_seq pe_str (pv 1) (by with_unfolding_all rfl)) (pss_one (ps_ret pe_non)) pss_nil) (pss_one (ps_ret (pv 1))))), ?_⟩
  try dsimp only [cxK]
  refine ⟨_, rfl, rfl, z, 32, rfl, rfl, by omega, fun p np => ?_⟩
  have g1 := same_new np (.lst ((Txt.split z (mkS [32])).map V.str))
  try dsimp only [gName, tNext]
  refine ⟨_, rfl, p, _, rfl, .inl (SqL.of upd_same), rfl, flatT _, _, rfl, inT (fun e => q0 e _ g1) (fun e => ⟨_, rfl, q1 e p _ g1 upd_same⟩)⟩

set_option maxHeartbeats 4000000 in
theorem oknumber_of {dV : Value} (F : FunD K "number_of" "number_of" snumber_of dV f fd) (Dread_figures : Dx P w K mg base CX0 1 "read_figures" ["word"] [] spFigs) : FnOk P w K mg base CX0 2 f fd ["word", "low", "high"] spNumOf := by
  have sc : FnScope ["word", "low", "high", "number"] ["word", "low", "high"] (defScope snumber_of) := scK (by decide +kernel)
  refine F.ok sc (fun vs H Q E h => ?_) (fun cdv A outer s H vs Q E hr h => ?_)
  · obtain ⟨_, _, _, rfl, _⟩ := h
    rfl
  obtain ⟨z, lo, hi, rfl, hz, q0, q1⟩ := h
  refine ⟨_, (pss_cons (ps_set (i := 3) sc.nd rfl (Or.inl rfl) (pcall0 Dread_figures hr (by decide) rfl (@pa_cons _ _ _ _ _ (pv 0) pa_nil rfl))) (pss_cons (ps_if (PW.pt (pw_or (pt_cmpR op_isN (pv 3) pe_non (nomark _)) (pw_or (pt_cmpR op_lt (pv 3) (pv 1) (nomark _)) (pw_or1 (pt_cmpR op_gt (pv 3) (pv 2) (nomark _)))))) (pss_one (ps_ret pe_non)) pss_nil) (pss_one (ps_ret (pv 3))))), ?_⟩
  try dsimp only [cxK]
  refine ⟨_, rfl, z, rfl, hz, fun e => ⟨_, rfl, rfl, _, rfl, dT rfl (q0 e)⟩, fun n e => ⟨_, rfl, rfl, _, rfl, dF (fun z => nomatch z) ?_⟩⟩
  have q := q1 n e
  refine ⟨_, rfl, _, rfl, _, _, rfl, rfl, _, rfl, d2 (fun c => ?_) (fun c => ⟨_, rfl, _, rfl, _, _, rfl, rfl, _, rfl, d2 (fun c2 => ?_) (fun c2 => ⟨_, rfl, ?_⟩)⟩)⟩
  · rw [if_pos (.inl c)] at q
    exact q
  · rw [if_pos (.inr c2)] at q
    exact q
  · rw [if_neg (fun k => k.elim c c2)] at q
    exact q

set_option maxHeartbeats 4000000 in
theorem oknumbers_text {dV : Value} (F : FunD K "numbers_text" "numbers_text" snumbers_text dV f fd)  : FnOk P w K mg base CX0 1 f fd ["numbers"] spNumsT := by
  have sc : FnScope ["numbers"] ["numbers"] (defScope snumbers_text) := scK (by decide +kernel)
  refine F.ok sc (fun vs H Q E h => ?_) (fun cdv A outer s H vs Q E hr h => ?_)
  · obtain ⟨_, _, rfl, _⟩ := h
    rfl
  obtain ⟨l, ns, rfl, el, ok, q⟩ := h
  refine ⟨_, (pss_one (ps_ret (pe_bm PySem.F.plainAttrs_str PySem.F.slot_str_join PySem.F.type_str_join mt_join pe_str (@pa_cons _ _ _ _ _ (pe_comp (own := "number") (ys := []) (js := []) rfl (cok atn .nil (by decide) rfl rfl rfl rfl rfl rfl rfl rfl) (pi_list (pv 0)) (fun C fp s H => (pe_callTy call_str_int rfl B.b_str boot_str (@pa_cons _ _ _ _ _ (pv 0) pa_nil rfl)))) pa_nil rfl)))), ?_⟩
  try dsimp only [cxK]
  have sl : sizeLine = 16777216 := sizeLine_eq
  have l100 := ok.1
  refine ⟨rfl, _, rfl, l, rfl, ⟨_, SqL.of el⟩, comp_Rl (rVal V.str) (fun _ => False) (fun i => numT (ns.getD i 0)) (SqL.of el) (by rw [List.length_map]; omega) (fun a h => h.elim) (fun i y hy H2 g Q' hQ => ?_) fun p H' np g hp => ?_⟩
  · rw [List.getElem?_map] at hy
    obtain ⟨n, hn, rfl⟩ := Option.map_eq_some_iff.mp hy
    rw [getDo hn] at hQ
    refine ⟨_, rfl, _, rfl, num_lg (ok.2 n (List.mem_of_getElem? hn)), ?_⟩
    rw [str_num]
    exact hQ _ _ (.refl _) rfl
  · obtain ⟨vs, ep, rp⟩ := hp
    have e1 : vs = (ns.map numT).map V.str := by
      rw [rp.val, List.length_map, map_getD numT ns 0]
    rw [e1] at ep
    refine ⟨_, p, _, rfl, rfl, SqL.of ep, (by decide), ?_, q _ g⟩
    have := sum_len (numTs_len ok)
    rw [List.length_map] at this ⊢
    omega

set_option maxHeartbeats 4000000 in
theorem okchains_text {dV : Value} (F : FunD K "chains_text" "chains_text" schains_text dV f fd) (Dnumbers_text : Dx P w K mg base CX0 1 "numbers_text" ["numbers"] [] spNumsT) : FnOk P w K mg base CX0 2 f fd ["front", "back"] spChainsT := by
  have sc : FnScope ["front", "back"] ["front", "back"] (defScope schains_text) := scK (by decide +kernel)
  refine F.ok sc (fun vs H Q E h => ?_) (fun cdv A outer s H vs Q E hr h => ?_)
  · obtain ⟨_, _, _, _, rfl, _⟩ := h
    rfl
  obtain ⟨f, b, fs, bs, rfl, ef, eb, fo, bo, q⟩ := h
  refine ⟨_, (pss_one (ps_ret (pe_bm PySem.F.plainAttrs_str PySem.F.slot_str_join PySem.F.type_str_join mt_join pe_str (@pa_cons _ _ _ _ _ (@pe_lst _ _ _ _ (@pa_cons _ _ _ _ _ (pcall0 Dnumbers_text hr (by decide) rfl (@pa_cons _ _ _ _ _ (pv 0) pa_nil rfl)) (@pa_cons _ _ _ _ _ (pcall0 Dnumbers_text hr (by decide) rfl (@pa_cons _ _ _ _ _ (pv 1) pa_nil rfl)) pa_nil rfl) rfl)) pa_nil rfl)))), ?_⟩
  try dsimp only [cxK]
  have sl : sizeLine = 16777216 := sizeLine_eq
  refine ⟨rfl, _, rfl, f, fs, rfl, ef, fo, fun H1 g1 => ⟨_, rfl, b, bs, rfl, g1 _ _ eb, bo, fun H2 g2 => ⟨(by show 2 ≤ sizeLine; decide), fun l nl => ?_⟩⟩⟩
  have g3 := same_new nl (.lst [.str (chT fs), .str (chT bs)])
  have h1 := chT_len fo
  have h2 := chT_len bo
  exact ⟨_, l, [chT fs, chT bs], rfl, rfl, SqL.of upd_same, (by decide), (by show ((chT fs).length + ((chT bs).length + 0)) + 2 ≤ _; omega), q _ ((g1.trans g2).trans g3)⟩

set_option maxHeartbeats 4000000 in
theorem okrow_text {dV : Value} (F : FunD K "row_text" "row_text" srow_text dV f fd) (Dchains_text : Dx P w K mg base CX0 2 "chains_text" ["front", "back"] [] spChainsT) : FnOk P w K mg base CX0 3 f fd ["row"] spRowT := by
  have sc : FnScope ["row", "words"] ["row"] (defScope srow_text) := scK (by decide +kernel)
  refine F.ok sc (fun vs H Q E h => ?_) (fun cdv A outer s H vs Q E hr h => ?_)
  · obtain ⟨_, _, rfl, _⟩ := h
    rfl
  obtain ⟨v, r, rfl, ⟨t, rfl, _, h⟩, ok, q⟩ := h
  refine ⟨_, (pss_cons (ps_set (i := 1) sc.nd rfl (Or.inl rfl) (@pe_lst _ _ _ _ (@pa_cons _ _ _ _ _ (pe_ix ix_tup (pv 0) pe_int (fun _ _ => rfl)) pa_nil rfl))) (pss_cons (ps_if (pt_cmpR op_in_seq (pe_ix ix_tup (pv 0) pe_int (fun _ _ => rfl)) (pe_glob (v := V.ref c_LISTED) rfl B.m_LISTED rfl) (by with_unfolding_all rfl)) (pss_one (ps_expr (pe_bm PySem.F.plainAttrs_list PySem.F.slot_list_extend PySem.F.type_list_extend mt_extend (pv 1) (@pa_cons _ _ _ _ _ (pe_comp (own := "number") (ys := []) (js := []) rfl (cok atn .nil (by decide) rfl rfl rfl rfl rfl rfl rfl rfl) (pi_list (pe_ix ix_tup (pv 0) pe_int (fun _ _ => rfl))) (fun C fp s H => (pe_callTy call_str_int rfl B.b_str boot_str (@pa_cons _ _ _ _ _ (pv 0) pa_nil rfl)))) pa_nil rfl)))) (pss_one (ps_expr (pe_bm PySem.F.plainAttrs_list PySem.F.slot_list_append PySem.F.type_list_append mt_append (pv 1) (@pa_cons _ _ _ _ _ (pe_callTy call_strV rfl B.b_str boot_str (@pa_cons _ _ _ _ _ (pe_ix ix_tup (pv 0) pe_int (fun _ _ => rfl)) pa_nil rfl)) pa_nil rfl))))) (pss_cons (ps_if (pt_cmpR op_eq (pe_ix ix_tup (pv 0) pe_int (fun _ _ => rfl)) pe_str (nomark _)) (pss_one (ps_expr (pe_bm PySem.F.plainAttrs_list PySem.F.slot_list_extend PySem.F.type_list_extend mt_extend (pv 1) (@pa_cons _ _ _ _ _ (pe_compT (os := ["front", "back"]) (ys := []) (js := []) rfl (cokT atn .nil rfl rfl rfl rfl rfl rfl rfl) (pi_zip rfl B.b_zip (@pa_cons _ _ _ _ _ (pe_ix ix_tup (pv 0) pe_int (fun _ _ => rfl)) (@pa_cons _ _ _ _ _ (pe_ix ix_tup (pv 0) pe_int (fun _ _ => rfl)) pa_nil rfl) rfl)) (fun C fp s H => pg_tupK (K := K) (n := 2) rfl rfl (pgs_cons (pg_nameT (os := ["front", "back"]) (ys := []) (i := 0) (by decide) rfl rfl) (pgs_cons (pg_nameT (os := ["front", "back"]) (ys := []) (i := 1) (by decide) rfl rfl) pgs_nil))) (fun C fp s H => (pcall0 Dchains_text hr (by decide) rfl (@pa_cons _ _ _ _ _ (pv 0) (@pa_cons _ _ _ _ _ (pv 1) pa_nil rfl) rfl)))) pa_nil rfl)))) pss_nil) (pss_one (ps_ret (pe_bm PySem.F.plainAttrs_str PySem.F.slot_str_join PySem.F.type_str_join mt_join pe_str (@pa_cons _ _ _ _ _ (pv 1) pa_nil rfl))))))), ?_⟩
  try dsimp only [cxK]
  have sl : sizeLine = 16777216 := sizeLine_eq
  cases r with
  | lst w ns =>
    obtain ⟨l, et, k⟩ := h
    have el := rNs.l k
    obtain ⟨hw, no⟩ := ok
    have l6 := no.1
    have s9 := sum_len (numTs_len no)
    have wl5 : w.length ≤ 5 := by rcases hw with rfl | rfl | rfl <;> decide
    refine ⟨_, rfl, t, _, _, _, rfl, rfl, SqT.of et, rfl, (by show 1 ≤ sizeLine; decide), fun wl nwl => ?_⟩
    have g1 := same_new nwl (.lst [.str w])
    have e1 : upd H wl (.lst [.str w]) wl = some (.lst [.str w]) := upd_same
    generalize upd H wl (.lst [.str w]) = H1 at g1 e1 ⊢
    try dsimp only [gName, tNext]
    refine cut (fun σ H' => σ = [some (.ref t), some (.ref wl)] ∧ Same H H' ∧ H' wl = some (.lst ((w :: ns.map numT).map V.str))) (fun N hN => ?_) ?_
    · refine ⟨_, rfl, t, _, _, _, rfl, rfl, SqT.of (g1 _ _ et), rfl, c_LISTED, _, rfl, .inr (B.tg_LISTED.sq _), rfl, flatT _, _, rfl, inT (gs := ["split", "chain", "ring"]) (fun _ => ?_) fun z => absurd (by simpa [Listed] using hw) z⟩
      refine ⟨_, rfl, .inl ⟨rfl, _, SqL.of e1⟩, _, rfl, t, _, _, _, rfl, rfl, SqT.of (g1 _ _ et), rfl, l, rfl, ⟨_, SqL.of (g1 _ _ el)⟩, comp_Rl (rVal V.str) (fun _ => False) (fun i => numT (ns.getD i 0)) (SqL.of (g1 _ _ el)) (by rw [List.length_map]; omega) (fun a h => h.elim) (fun i y hy H2 g Q' hQ => ?_) fun p H2 np g hp => ?_⟩
      · rw [List.getElem?_map] at hy
        obtain ⟨n, hn, rfl⟩ := Option.map_eq_some_iff.mp hy
        rw [getDo hn] at hQ
        refine ⟨_, rfl, _, rfl, num_lg (no.2 n (List.mem_of_getElem? hn)), ?_⟩
        rw [str_num]
        exact hQ _ _ (.refl _) rfl
      · obtain ⟨vs, ep, rp⟩ := hp
        have e2 : vs = (ns.map numT).map V.str := by rw [rp.val, List.length_map, map_getD numT ns 0]
        rw [e2] at ep
        exact ⟨wl, p, _, _, rfl, rfl, g _ _ e1, ep, by rw [List.length_map, List.length_map]; show 1 + _ ≤ _; omega, hN _ _ ⟨rfl, sUpd (g1.trans g) nwl _, upd_same⟩⟩
    rintro σ H2 ⟨rfl, g2, e2⟩
    refine cut (fun σ H' => σ = [some (.ref t), some (.ref wl)] ∧ H2 = H') (fun N hN => ?_) ?_
    · exact ⟨_, rfl, t, _, _, _, rfl, rfl, SqT.of (g2 _ _ et), rfl, rfl, _, rfl, eS2 (fun z => absurd z (by rcases hw with rfl | rfl | rfl <;> decide)) fun _ => hN _ _ ⟨rfl, rfl⟩⟩
    rintro σ H3 ⟨rfl, rfl⟩
    refine ⟨rfl, _, rfl, _, wl, _, rfl, rfl, SqL.of e2, (by decide), ?_, q _ g2⟩
    rw [List.map_cons, List.sum_cons, List.length_cons]
    rw [List.length_map] at s9 ⊢
    omega
  | ways n =>
    have et : H t = some (.tup [.str "ways", vN n]) := h
    have nl9 := numT_len ok
    refine ⟨_, rfl, t, _, _, _, rfl, rfl, SqT.of et, rfl, (by show 1 ≤ sizeLine; decide), fun wl nwl => ?_⟩
    have g1 := same_new nwl (.lst [.str "ways"])
    have e1 : upd H wl (.lst [.str "ways"]) wl = some (.lst [.str "ways"]) := upd_same
    generalize upd H wl (.lst [.str "ways"]) = H1 at g1 e1 ⊢
    try dsimp only [gName, tNext]
    refine cut (fun σ H' => σ = [some (.ref t), some (.ref wl)] ∧ Same H H' ∧ H' wl = some (.lst ((["ways", numT n] : List Str).map V.str))) (fun N hN => ?_) ?_
    · refine ⟨_, rfl, t, _, _, _, rfl, rfl, SqT.of (g1 _ _ et), rfl, c_LISTED, _, rfl, .inr (B.tg_LISTED.sq _), rfl, flatT _, _, rfl, inT (gs := ["split", "chain", "ring"]) (fun z => absurd z (by decide)) fun _ => ?_⟩
      refine ⟨_, rfl, .inl ⟨rfl, _, SqL.of e1⟩, _, rfl, t, _, _, _, rfl, rfl, SqT.of (g1 _ _ et), rfl, .inl ⟨_, rfl, num_lg ok, ?_⟩⟩
      rw [str_num]
      exact ⟨wl, _, _, rfl, rfl, e1, (by show 1 < sizeLine; decide), hN _ _ ⟨rfl, sUpd g1 nwl _, upd_same⟩⟩
    rintro σ H2 ⟨rfl, g2, e2⟩
    refine cut (fun σ H' => σ = [some (.ref t), some (.ref wl)] ∧ H2 = H') (fun N hN => ?_) ?_
    · exact ⟨_, rfl, t, _, _, _, rfl, rfl, SqT.of (g2 _ _ et), rfl, rfl, _, rfl, eS2 (fun z => absurd z (by decide)) fun _ => hN _ _ ⟨rfl, rfl⟩⟩
    rintro σ H3 ⟨rfl, rfl⟩
    exact ⟨rfl, _, rfl, _, wl, _, rfl, rfl, SqL.of e2, (by decide), (by show (4 + ((numT n).length + 0)) + 2 ≤ _; omega), q _ g2⟩
  | full z fs bs =>
    obtain ⟨f', b, et, kf, kb⟩ := h
    obtain ⟨nm, lfb, l3, fo, bo⟩ := ok
    obtain ⟨_, e, _, vf, ef, rf⟩ := kf
    cases e
    obtain ⟨_, e, _, vb, eb, rb⟩ := kb
    cases e
    have lz : z.length ≤ 12 := by have := nm.2.1; rwa [sL_len] at this
    have lf : vf.length = fs.length := rf.1
    have lb : vb.length = bs.length := rb.1
    refine ⟨_, rfl, t, _, _, _, rfl, rfl, SqT.of et, rfl, (by show 1 ≤ sizeLine; decide), fun wl nwl => ?_⟩
    have g1 := same_new nwl (.lst [.str "full"])
    have e1 : upd H wl (.lst [.str "full"]) wl = some (.lst [.str "full"]) := upd_same
    generalize upd H wl (.lst [.str "full"]) = H1 at g1 e1 ⊢
    try dsimp only [gName, tNext]
    refine cut (fun σ H' => σ = [some (.ref t), some (.ref wl)] ∧ Same H H' ∧ H' wl = some (.lst ((["full", z] : List Str).map V.str))) (fun N hN => ?_) ?_
    · refine ⟨_, rfl, t, _, _, _, rfl, rfl, SqT.of (g1 _ _ et), rfl, c_LISTED, _, rfl, .inr (B.tg_LISTED.sq _), rfl, flatT _, _, rfl, inT (gs := ["split", "chain", "ring"]) (fun z => absurd z (by decide)) fun _ => ?_⟩
      exact ⟨_, rfl, .inl ⟨rfl, _, SqL.of e1⟩, _, rfl, t, _, _, _, rfl, rfl, SqT.of (g1 _ _ et), rfl, .inr ⟨z, rfl, wl, _, _, rfl, rfl, e1, (by show 1 < sizeLine; decide), hN _ _ ⟨rfl, sUpd g1 nwl _, upd_same⟩⟩⟩
    rintro σ H2 ⟨rfl, g2, e2⟩
    refine cut (fun σ H' => σ = [some (.ref t), some (.ref wl)] ∧ Same H H' ∧ H' wl = some (.lst ((rowWs (.full z fs bs)).map V.str))) (fun N hN => ?_) ?_
    · refine ⟨_, rfl, t, _, _, _, rfl, rfl, SqT.of (g2 _ _ et), rfl, rfl, _, rfl, eS2 (fun _ => ?_) fun z => absurd rfl z⟩
      refine ⟨_, rfl, .inl ⟨rfl, _, SqL.of e2⟩, _, rfl, t, _, _, _, rfl, rfl, SqT.of (g2 _ _ et), rfl, _, rfl, t, _, _, _, rfl, rfl, SqT.of (g2 _ _ et), rfl, f', b, rfl, ⟨_, SqL.of (g2 _ _ ef)⟩, ⟨_, SqL.of (g2 _ _ eb)⟩, comp_Rz (rVal V.str) (fun _ => False) (fun i => pairT (fs.getD i []) (bs.getD i [])) (SqL.of (g2 _ _ ef)) (SqL.of (g2 _ _ eb)) (by omega) (fun a h => h.elim) (fun i y y' hy hy' H3 g3 T' nT o ho Q' hQ => ?_) fun p H3 np g3 hp => ?_⟩
      · obtain ⟨o1, o2, rfl⟩ := two_of ho
        obtain ⟨f, hf, kf⟩ := rf.at_ hy
        obtain ⟨b, hb, kb⟩ := rb.at_ hy'
        obtain ⟨cf, rfl, _, _⟩ := id kf
        obtain ⟨cb, rfl, _, _⟩ := id kb
        have g4 := (g2.trans g3).trans (same_new nT (.tup [.ref cf, .ref cb]))
        rw [getDo hf, getDo hb] at hQ
        exact ⟨T', _, rfl, SqT.of upd_same, rfl, _, _, rfl, _, _, rfl, rfl, ⟨[some (.ref cf), some (.ref cb)], rfl, rfl⟩, _, rfl, _, rfl, cf, cb, f, b, rfl, g4 _ _ (rNs.l kf), g4 _ _ (rNs.l kb), (fo f (List.mem_of_getElem? hf)).up (by decide), (bo b (List.mem_of_getElem? hb)).up (by decide), fun H5 g5 => hQ _ _ g5 rfl⟩
      · obtain ⟨vs, ep, rp⟩ := hp
        have e4 : vs = (List.zipWith pairT fs bs).map V.str := by rw [rp.val, lf, lb, zip_getD pairT []]
        rw [e4] at ep
        refine ⟨wl, p, _, _, rfl, rfl, g3 _ _ e2, ep, by rw [List.length_map, List.length_map, List.length_zipWith]; show 2 + _ ≤ _; omega, hN _ _ ⟨rfl, sUpd (g2.trans g3) nwl _, upd_same⟩⟩
    rintro σ H3 ⟨rfl, g3, e3⟩
    refine ⟨rfl, _, rfl, _, wl, _, rfl, rfl, SqL.of e3, (by decide), ?_, q _ g3⟩
    have s81 : ∀ w ∈ List.zipWith pairT fs bs, w.length ≤ 81 := fun w hw => by
      obtain ⟨i, hi⟩ := List.mem_iff_getElem?.mp hw
      rw [List.getElem?_zipWith_eq_some] at hi
      obtain ⟨f, b, hf, hb, rfl⟩ := hi
      exact pairT_len (fo f (List.mem_of_getElem? hf)) (bo b (List.mem_of_getElem? hb))
    have s4 := sum_len s81
    have lw := List.length_zipWith (f := pairT) (l₁ := fs) (l₂ := bs)
    show (4 + (z.length + ((List.zipWith pairT fs bs).map fun x => x.length).sum)) + ((List.zipWith pairT fs bs).length + 1 + 1) ≤ _
    omega

set_option maxHeartbeats 4000000 in
theorem okpaper_text {dV : Value} (F : FunD K "paper_text" "paper_text" spaper_text dV f fd) (Drow_text : Dx P w K mg base CX0 3 "row_text" ["row"] [] spRowT) : FnOk P w K mg base CX0 4 f fd ["paper"] spPaperT := by
  have sc : FnScope ["paper"] ["paper"] (defScope spaper_text) := scK (by decide +kernel)
  refine F.ok sc (fun vs H Q E h => ?_) (fun cdv A outer s H vs Q E hr h => ?_)
  · obtain ⟨_, _, rfl, _⟩ := h
    rfl
  obtain ⟨l, rs, rfl, ⟨vs, el, r⟩, l40, ok, q⟩ := h
  refine ⟨_, (pss_one (ps_ret (pe_bm PySem.F.plainAttrs_str PySem.F.slot_str_join PySem.F.type_str_join mt_join pe_str (@pa_cons _ _ _ _ _ (pe_comp (own := "row") (ys := []) (js := []) rfl (cok atn .nil (by decide) rfl rfl rfl rfl rfl rfl rfl rfl) (pi_list (pv 0)) (fun C fp s H => (pcall0 Drow_text hr (by decide) rfl (@pa_cons _ _ _ _ _ (pv 0) pa_nil rfl)))) pa_nil rfl)))), ?_⟩
  try dsimp only [cxK]
  have sl : sizeLine = 16777216 := sizeLine_eq
  have lv : vs.length = rs.length := r.1
  refine ⟨rfl, _, rfl, l, rfl, ⟨_, SqL.of el⟩, comp_Rl (rVal V.str) (fun _ => False) (fun i => rowT (rs.getD i (.ways 0))) (SqL.of el) (by omega) (fun a h => h.elim) (fun i y hy H2 g Q' hQ => ?_) fun p H' np g hp => ?_⟩
  · obtain ⟨x, hx, kx⟩ := r.at_ hy
    rw [getDo hx] at hQ
    exact ⟨_, rfl, _, x, rfl, mvS kx g, ok x (List.mem_of_getElem? hx), fun H3 g3 => hQ _ _ g3 rfl⟩
  · obtain ⟨us, ep, rp⟩ := hp
    have e1 : us = (rs.map rowT).map V.str := by rw [rp.val, lv, map_getD rowT rs (.ways 0)]
    rw [e1] at ep
    refine ⟨_, p, _, rfl, rfl, SqL.of ep, (by decide), ?_, q _ g⟩
    have := sum_len (m := 300) (ws := rs.map rowT) fun w hw => by
      obtain ⟨x, hx, rfl⟩ := List.mem_map.mp hw
      exact rowWs_len (ok x hx)
    rw [List.length_map] at this ⊢
    omega

set_option maxHeartbeats 4000000 in
theorem okread_numbers {dV : Value} (F : FunD K "read_numbers" "read_numbers" sread_numbers dV f fd) (Dnumber_of : Dx P w K mg base CX0 2 "number_of" ["word", "low", "high"] [] spNumOf) : FnOk P w K mg base CX0 3 f fd ["words"] spReadNs := by
  have sc : FnScope ["words", "numbers"] ["words"] (defScope sread_numbers) := scK (by decide +kernel)
  refine F.ok sc (fun vs H Q E h => ?_) (fun cdv A outer s H vs Q E hr h => ?_)
  · obtain ⟨_, _, rfl, _⟩ := h
    rfl
  obtain ⟨l, ws, rfl, el, wb, qn, qs⟩ := h
  refine ⟨_, (pss_cons (ps_compA (own := "word") (ys := []) (js := []) sc.nd (i := 1) rfl rfl rfl (cok atn .nil (by decide) rfl rfl rfl rfl rfl rfl rfl rfl) (pi_list (pv 0)) (fun C fp s H => (pcall0 Dnumber_of hr (by decide) rfl (@pa_cons _ _ _ _ _ (pv 0) (@pa_cons _ _ _ _ _ pe_int (@pa_cons _ _ _ _ _ (pe_globI rfl B.g_GREATEST_WRITTEN) pa_nil rfl) rfl) rfl)))) (pss_one (ps_ret (pe_ifExp (pt_cmpR op_in_seq pe_non (pv 1) (by with_unfolding_all rfl)) pe_non (pv 1))))), ?_⟩
  try dsimp only [cxK]
  have sl : sizeLine = 16777216 := sizeLine_eq
  have lw := wb.1
  refine ⟨_, rfl, l, rfl, ⟨_, SqL.of el⟩, comp_Rl (rVal oV) (fun _ => False) (fun i => numI (ws.getD i "")) (SqL.of el) (by rw [List.length_map]; omega) (fun a h => h.elim) (fun i y hy H2 g Q' hQ => ?_) fun p H' np g hp => ?_⟩
  · rw [List.getElem?_map] at hy
    obtain ⟨x, hx, rfl⟩ := Option.map_eq_some_iff.mp hy
    rw [getDo hx] at hQ
    have xb := wb.2 x (List.mem_of_getElem? hx)
    refine ⟨_, rfl, x, _, _, rfl, by omega, fun e => hQ _ _ (.refl _) (by rw [numI, numR_none e]; rfl), fun n e => hQ _ _ (.refl _) ?_⟩
    have := numR_some e
    show _ = oV (numI x)
    unfold numI
    rw [this]
    by_cases c : n ≤ 999999999
    · rw [if_pos c, if_neg (by omega)]; rfl
    · rw [if_neg c, if_pos (by omega)]; rfl
  · obtain ⟨us, ep, rp⟩ := hp
    have e1 : us = (ws.map numI).map oV := by rw [rp.val, List.length_map, map_getD numI ws ""]
    rw [e1] at ep
    refine ⟨_, rfl, p, _, rfl, .inl (SqL.of ep), rfl, flatO _, _, rfl, inO2 (fun c => qn (numsR_none.mpr c) _ g) fun c => ?_⟩
    cases hn : numsR ws with
    | none => exact absurd (numsR_none.mp hn) c
    | some ns =>
      refine ⟨_, rfl, qs ns hn p _ g np ?_⟩
      rw [ep, numsR_some hn, List.map_map]
      rfl

set_option maxHeartbeats 4000000 in
theorem okread_chain {dV : Value} (F : FunD K "read_chain" "read_chain" sread_chain dV f fd) (Dread_numbers : Dx P w K mg base CX0 3 "read_numbers" ["words"] [] spReadNs) : FnOk P w K mg base CX0 4 f fd ["text"] spReadCh := by
  have sc : FnScope ["text"] ["text"] (defScope sread_chain) := scK (by decide +kernel)
  refine F.ok sc (fun vs H Q E h => ?_) (fun cdv A outer s H vs Q E hr h => ?_)
  · obtain ⟨_, rfl, _⟩ := h
    rfl
  obtain ⟨z, rfl, hz, qn, qs⟩ := h
  refine ⟨_, (pss_cons (ps_if (pt_cmpR op_eq (pv 0) pe_str (nomark _)) (pss_one (ps_ret (@pe_lst _ _ _ _ pa_nil))) pss_nil) (pss_one (ps_ret (pcall0 Dread_numbers hr (by decide) rfl (@pa_cons _ _ _ _ _ (pe_bm PySem.F.plainAttrs_str PySem.F.slot_str_split PySem.F.type_str_split mt_split (pv 0) (@pa_cons _ _ _ _ _ pe_str pa_nil rfl)) pa_nil rfl))))), ?_⟩
  try dsimp only [cxK]
  have sl : sizeLine = 16777216 := sizeLine_eq
  refine cut (fun σ H' => σ = [some (.str z)] ∧ H = H' ∧ z ≠ "") (fun N hN => ?_) ?_
  · refine ⟨_, rfl, rfl, _, rfl, eS2 (fun e => ?_) fun e => hN _ _ ⟨rfl, rfl, e⟩⟩
    exact ⟨(by show 0 ≤ sizeLine; decide), fun l nl => qs [] (if_pos e) l _ (same_new nl _) nl upd_same⟩
  rintro σ H' ⟨rfl, rfl, ne⟩
  have ec : chR z = numsR (Txt.split z cma) := if_neg ne
  refine ⟨_, rfl, rfl, z, 44, rfl, rfl, by omega, fun p np => ?_⟩
  have g := same_new np (.lst ((Txt.split z cma).map V.str))
  exact ⟨p, _, rfl, upd_same, split_b hz, fun e H2 g2 => qn (ec.trans e) H2 (g.trans g2), fun ns e p2 H2 g2 np2 e2 => qs ns (ec.trans e) p2 H2 (g.trans g2) (g.free np2) e2⟩

set_option maxHeartbeats 4000000 in
theorem okread_ways {dV : Value} (F : FunD K "read_ways" "read_ways" sread_ways dV f fd) (Dread_numbers : Dx P w K mg base CX0 3 "read_numbers" ["words"] [] spReadNs) : FnOk P w K mg base CX0 4 f fd ["words"] (spReadWs waysR) := by
  have sc : FnScope ["words", "numbers"] ["words"] (defScope sread_ways) := scK (by decide +kernel)
  refine F.ok sc (fun vs H Q E h => ?_) (fun cdv A outer s H vs Q E hr h => ?_)
  · obtain ⟨_, _, _, rfl, _⟩ := h
    rfl
  obtain ⟨l, w, rest, rfl, el, wb, qn, qs⟩ := h
  refine ⟨_, (pss_cons (ps_set (i := 1) sc.nd rfl (Or.inl rfl) (pcall0 Dread_numbers hr (by decide) rfl (@pa_cons _ _ _ _ _ (pe_slice sl_list (pv 0) (po_some pe_int) po_none) pa_nil rfl))) (pss_cons (ps_if (PW.pt (pw_or (pt_cmpR op_isN (pv 1) pe_non (nomark _)) (pw_or1 (pt_cmpR op_ne (pe_callB call_len_seq rfl B.b_len boot_len (@pa_cons _ _ _ _ _ (pv 1) pa_nil rfl)) pe_int (nomark _))))) (pss_one (ps_ret pe_non)) pss_nil) (pss_one (ps_ret (@pe_tup _ _ _ _ _ (@pa_cons _ _ _ _ _ pe_str (@pa_cons _ _ _ _ _ (pe_ix ix_list (pv 1) pe_int (fun _ _ => rfl)) pa_nil rfl) rfl)))))), ?_⟩
  try dsimp only [cxK]
  have sl : sizeLine = 16777216 := sizeLine_eq
  have ec : cutV ((w :: rest).map V.str) (some 1) none = rest.map V.str := cutV_one (by simp)
  have wb' : WsB rest := ⟨by have := wb.1; simp at this; omega, fun w hw => wb.2 w (List.mem_cons_of_mem _ hw)⟩
  refine ⟨_, rfl, _, rfl, l, _, rfl, SqL.of el, fun p np => ?_⟩
  rw [ec]
  have g1 := same_new np (.lst (rest.map V.str))
  refine ⟨p, rest, rfl, upd_same, wb', fun e H2 g2 => ?_, fun ns e p2 H2 g2 np2 e2 => ?_⟩
  · exact ⟨_, rfl, rfl, _, rfl, dT rfl (qn (by unfold waysR; rw [e]) _ (g1.trans g2))⟩
  · have g12 := g1.trans g2
    refine ⟨_, rfl, rfl, _, rfl, dF (fun z => nomatch z) ⟨_, rfl, p2, _, rfl, .inl (SqL.of e2), rfl, _, rfl, ?_⟩⟩
    by_cases c : ((ns.map vN).length : Int) = 1
    rotate_left
    · refine nTI c (qn ?_ _ g12)
      rw [List.length_map] at c
      unfold waysR
      rw [e]
      match ns, c with
      | [], _ => rfl
      | [_], c => exact absurd rfl c
      | _ :: _ :: _, _ => rfl
    refine nFI c ?_
    rw [List.length_map] at c
    match ns, c with
    | [n], _ =>
      refine ⟨_, rfl, p2, _, _, _, rfl, rfl, SqL.of e2, rfl, (by show 2 ≤ sizeLine; decide), fun t nt => ?_⟩
      exact qs (.ways n) (by unfold waysR; rw [e]) _ _ (g12.trans (same_new nt _)) ⟨t, rfl, g12.free nt, upd_same⟩
    | [], c => simp at c
    | _ :: _ :: _, c => simp at c; omega

set_option maxHeartbeats 4000000 in
theorem okread_full {dV : Value} (F : FunD K "read_full" "read_full" sread_full dV f fd) (Dis_name : Dx P w K mg base CX0 1 "is_name" ["thing"] [] (spIsName K)) (Dread_chain : Dx P w K mg base CX0 4 "read_chain" ["text"] [] spReadCh) : FnOk P w K mg base CX0 5 f fd ["words"] (spReadWs fullR) := by
  have sc : FnScope ["words", "fronts", "backs", "word", "halves"] ["words"] (defScope sread_full) := scK (by decide +kernel)
  refine F.ok sc (fun vs H Q E h => ?_) (fun cdv A outer s H vs Q E hr h => ?_)
  · obtain ⟨_, _, _, rfl, _⟩ := h
    rfl
  obtain ⟨l, w, rest, rfl, el, wb, qn, qs⟩ := h
  refine ⟨_, (pss_cons (ps_if (PW.pt (pw_or (pt_cmpR op_lt (pe_callB call_len_seq rfl B.b_len boot_len (@pa_cons _ _ _ _ _ (pv 0) pa_nil rfl)) pe_int (nomark _)) (pw_or1 (pt_not (pt_val (pcall0 Dis_name hr (by decide) rfl (@pa_cons _ _ _ _ _ (pe_ix ix_list (pv 0) pe_int (fun _ _ => rfl)) pa_nil rfl))))))) (pss_one (ps_ret pe_non)) pss_nil) (pss_cons (ps_set (i := 1) sc.nd rfl (Or.inl rfl) (@pe_lst _ _ _ _ pa_nil)) (pss_cons (ps_set (i := 2) sc.nd rfl (Or.inl rfl) (@pe_lst _ _ _ _ pa_nil)) (pss_cons (ps_for PassesOwn.never rfl (pi_list (pe_slice sl_list (pv 0) (po_some pe_int) po_none)) (pg_name (i := 3) sc.nd rfl (Or.inl rfl)) (pss_cons (ps_compA (own := "half") (ys := []) (js := []) sc.nd (i := 4) rfl rfl rfl (cok atn .nil (by decide) rfl rfl rfl rfl rfl rfl rfl rfl) (pi_list (pe_bm PySem.F.plainAttrs_str PySem.F.slot_str_split PySem.F.type_str_split mt_split (pv 3) (@pa_cons _ _ _ _ _ pe_str pa_nil rfl))) (fun C fp s H => (pcall0 Dread_chain hr (by decide) rfl (@pa_cons _ _ _ _ _ (pv 0) pa_nil rfl)))) (pss_cons (ps_if (PW.pt (pw_or (pt_cmpR op_ne (pe_callB call_len_seq rfl B.b_len boot_len (@pa_cons _ _ _ _ _ (pv 4) pa_nil rfl)) pe_int (nomark _)) (pw_or1 (pt_cmpR (op_inN (hu_of hr)) pe_non (pv 4) (by with_unfolding_all rfl))))) (pss_one (ps_ret pe_non)) pss_nil) (pss_cons (ps_expr (pe_bm PySem.F.plainAttrs_list PySem.F.slot_list_append PySem.F.type_list_append mt_append (pv 1) (@pa_cons _ _ _ _ _ (pe_ix ix_list (pv 4) pe_int (fun _ _ => rfl)) pa_nil rfl))) (pss_one (ps_expr (pe_bm PySem.F.plainAttrs_list PySem.F.slot_list_append PySem.F.type_list_append mt_append (pv 2) (@pa_cons _ _ _ _ _ (pe_ix ix_list (pv 4) pe_int (fun _ _ => rfl)) pa_nil rfl)))))))) (pss_one (ps_ret (@pe_tup _ _ _ _ _ (@pa_cons _ _ _ _ _ pe_str (@pa_cons _ _ _ _ _ (pe_ix ix_list (pv 0) pe_int (fun _ _ => rfl)) (@pa_cons _ _ _ _ _ (pv 1) (@pa_cons _ _ _ _ _ (pv 2) pa_nil rfl) rfl) rfl) rfl)))))))), ?_⟩
  try dsimp only [cxK]
  have sl : sizeLine = 16777216 := sizeLine_eq
  have ec : cutV ((w :: rest).map V.str) (some 1) none = rest.map V.str := cutV_one (by simp)
  have wb' : WsB rest := ⟨by have := wb.1; simp at this; omega, fun w hw => wb.2 w (List.mem_cons_of_mem _ hw)⟩
  cases rest with
  | nil => exact ⟨_, rfl, l, _, rfl, .inl (SqL.of el), _, _, rfl, rfl, _, rfl, d2 (fun _ => qn rfl _ (.refl _)) fun z => absurd (by show (1 : Int) < 2; decide) z⟩
  | cons z cs =>
  have zb := wb'.2 z List.mem_cons_self
  try dsimp only [gName, tNext]
  refine cut (fun σ H' => σ = [some (.ref l), none, none, none, none] ∧ H = H' ∧ Nm z) (fun N hN => ?_) ?_
  · refine ⟨_, rfl, l, _, rfl, .inl (SqL.of el), _, _, rfl, rfl, _, rfl, d2 (fun c => ?_) fun _ => ?_⟩
    · rw [List.length_map] at c
      simp at c
      omega
    refine ⟨_, rfl, l, _, _, _, rfl, rfl, SqL.of el, (atI_nat (j := 1) rfl), _, rfl, .inl ⟨z, rfl, by omega, fun nm => ⟨_, rfl, iteF (hN _ _ ⟨rfl, rfl, nm⟩)⟩, fun nm => ⟨_, rfl, iteT (qn ?_ _ (.refl _))⟩⟩⟩
    show (if nmB z = true then _ else none) = none
    rw [if_neg fun k => nm ((nmB_iff z).mp k)]
  rintro σ H' ⟨rfl, rfl, nm⟩
  have ef : fullR (z :: cs) = (halvesR cs).map fun p => .full z p.1 p.2 := if_pos ((nmB_iff z).mpr nm)
  refine ⟨(by show 0 ≤ sizeLine; decide), fun fl nfl => ?_⟩
  have g1 := same_new nfl (.lst [])
  have e1 : upd H fl (.lst []) fl = some (.lst []) := upd_same
  generalize upd H fl (.lst []) = H1 at g1 e1 ⊢
  refine ⟨(by show 0 ≤ sizeLine; decide), fun bl nbl => ?_⟩
  have g2 := same_new nbl (.lst [])
  have e2 : upd H1 bl (.lst []) bl = some (.lst []) := upd_same
  have fb : fl ≠ bl := fun z => by rw [← z, e1] at nbl; cases nbl
  have e12 := g2 _ _ e1
  have nbl0 := g1.free nbl
  have g12 := g1.trans g2
  generalize upd H1 bl (.lst []) = H2 at g2 g12 e2 e12 ⊢
  refine ⟨_, rfl, _, rfl, l, _, rfl, SqL.of (g12 _ _ el), fun sl' nsl => ?_⟩
  have ec2 : cutV ((w :: z :: cs).map V.str) (some 2) none = cs.map V.str := cut_dropB (c := 2)
  rw [ec2]
  have g3 := same_new nsl (.lst (cs.map V.str))
  have e3 : upd H2 sl' (.lst (cs.map V.str)) sl' = some (.lst (cs.map V.str)) := upd_same
  have hF0 : LsA rNs (fun a => a ≠ fl ∧ a ≠ bl ∧ H a = none) (upd H2 sl' (.lst (cs.map V.str))) fl [] := ⟨[], g3 _ _ e12, A2.nil⟩
  have hB0 : LsA rNs (fun a => a ≠ fl ∧ a ≠ bl ∧ H a = none) (upd H2 sl' (.lst (cs.map V.str))) bl [] := ⟨[], g3 _ _ e2, A2.nil⟩
  have sf : sl' ≠ fl := fun z => by rw [z, e12] at nsl; cases nsl
  have sb : sl' ≠ bl := fun z => by rw [z, e2] at nsl; cases nsl
  have g13 := g12.trans g3
  generalize upd H2 sl' (.lst (cs.map V.str)) = H3 at g13 e3 hF0 hB0 ⊢
  clear g3 g12 g2 g1 e1 e2 e12 nbl nsl
  have lc := wb'.1
  refine ⟨sl', rfl, ⟨_, SqL.of e3⟩, for_list (xs := cs.map V.str) (fun i σ H' => (∃ o3 o4 : Option V, σ = [some (.ref l), some (.ref fl), some (.ref bl), o3, o4]) ∧ Same H H' ∧ H' sl' = some (.lst (cs.map V.str)) ∧ ∃ xs ys, halvesR (cs.take i) = some (xs, ys) ∧ xs.length = i ∧ ys.length = i ∧ LsA rNs (fun a => a ≠ fl ∧ a ≠ bl ∧ H a = none) H' fl xs ∧ LsA rNs (fun a => a ≠ fl ∧ a ≠ bl ∧ H a = none) H' bl ys) ⟨⟨none, none, rfl⟩, g13, e3, [], [], rfl, rfl, rfl, hF0, hB0⟩ (fun i σ H' _ h => SqL.of h.2.2.1) ?_ ?_⟩
  · rintro i y σ H4 hy ⟨⟨o3, o4, rfl⟩, g4, e4, xs, ys, hv, lx, ly, ⟨vx, ex, rx⟩, ⟨vy, ey, ry⟩⟩
    rw [List.getElem?_map] at hy
    obtain ⟨x, hx, rfl⟩ := Option.map_eq_some_iff.mp hy
    have mx := List.mem_of_getElem? hx
    have xb := wb'.2 x (List.mem_cons_of_mem _ mx)
    have il := (List.getElem?_eq_some_iff.mp hx).1
    have lx' : vx.length = xs.length := rx.1
    have ly' : vy.length = ys.length := ry.1
    have cl : cs.length ≤ 100000 := by simp at lc; omega
    refine ⟨_, rfl, rfl, x, 58, rfl, rfl, by omega, fun hp nhp => ?_⟩
    have g5 := same_new nhp (.lst ((Txt.split x cln).map V.str))
    have ehp : upd H4 hp (.lst ((Txt.split x cln).map V.str)) hp = some (.lst ((Txt.split x cln).map V.str)) := upd_same
    have sb2 := split_b (z := x) (c := 58) xb
    have g45 := g4.trans g5
    have e45 := g5 _ _ e4
    have ex5 := g5 _ _ ex
    have ey5 := g5 _ _ ey
    have rx5 := rx.imp fun _ _ q => mvS q g5
    have ry5 := ry.imp fun _ _ q => mvS q g5
    refine ⟨hp, rfl, ⟨_, SqL.of ehp⟩, ?_⟩
    rw [show ({ cps := #[58] } : Str) = cln from rfl]
    generalize upd H4 hp (.lst ((Txt.split x cln).map V.str)) = H5 at g5 ehp g45 e45 ex5 ey5 rx5 ry5 ⊢
    have hs := sb2.1
    change (Txt.split x cln).length ≤ _ at hs
    refine comp_Rl rOpN (fun _ => False) (fun i => chR ((Txt.split x cln).getD i "")) (SqL.of ehp) (by rw [List.length_map]; omega) (fun a h => h.elim) (fun j v hv' H6 g6 Q' hQ => ?_) fun p H6 np g6 hP => ?_
    · rw [List.getElem?_map] at hv'
      obtain ⟨s1, hs1, rfl⟩ := Option.map_eq_some_iff.mp hv'
      rw [getDo hs1] at hQ
      refine ⟨_, rfl, s1, rfl, sb2.2 s1 (List.mem_of_getElem? hs1), fun e H7 g7 => hQ _ _ g7 (by rw [e]; exact rfl), fun ns e p2 H7 g7 np2 e2 => hQ _ _ g7 ?_⟩
      rw [e]
      exact ⟨p2, rfl, .inl np2, _, e2, A2.ofVal _ _ _ _⟩
    obtain ⟨us, ep, rp⟩ := hP
    rw [List.length_map, map_getD chR (Txt.split x cln) ""] at rp
    have lu : us.length = (Txt.split x cln).length := by rw [rp.1, List.length_map]
    have he := half_eq x
    have g46 := g45.trans g6
    have bad : halfR x = none → Q .non H6 := fun e => qn (by rw [ef, halves_none mx e]; rfl) _ g46
    try dsimp only [gName, tNext]
    refine cut (fun σ H' => σ = [some (.ref l), some (.ref fl), some (.ref bl), some (.str x), some (.ref p)] ∧ H6 = H' ∧ ∃ (a b : List Nat) (va vb : V), halfR x = some (a, b) ∧ us = [va, vb] ∧ rNs (fun a => a ≠ p ∧ (H5 a = none ∨ False)) H6 va a ∧ rNs (fun a => a ≠ p ∧ (H5 a = none ∨ False)) H6 vb b) (fun N hN => ?_) ?_
    · refine ⟨_, rfl, p, _, rfl, .inl (SqL.of ep), rfl, _, rfl, ?_⟩
      by_cases c : (us.length : Int) = 2
      rotate_left
      · refine nTI c (iteT (bad ?_))
        rw [he]
        match hq : (Txt.split x cln).map chR with
        | [] => rfl
        | [_] => cases ‹Option _› <;> rfl
        | [_, _] =>
          have : us.length = 2 := by rw [rp.1, hq]; rfl
          omega
        | _ :: _ :: _ :: _ => rename_i a b d r; cases a <;> cases b <;> rfl
      refine nFI c ⟨_, rfl, p, us, rfl, rfl, SqL.of ep, fun v hv' => ?_, _, rfl, ?_⟩
      · obtain ⟨j, hj⟩ := List.mem_iff_getElem?.mp hv'
        obtain ⟨o, ho, k⟩ := rp.at_ hj
        rcases rOpN.ty (K := K) k with ⟨e, _⟩ | ⟨a, zs, e, hS, _⟩
        · exact .inl e
        · exact .inr ⟨a, zs, e, hS⟩
      · have c2 : us.length = 2 := by omega
        have o2 : ((Txt.split x cln).map chR).length = 2 := by rw [← rp.1]; exact c2
        obtain ⟨v0, v1, rfl⟩ := two_of c2
        obtain ⟨o0, o1, hO⟩ := two_of o2
        rw [hO] at rp he
        have k0 := rp.2 0 v0 o0 rfl rfl
        have k1 := rp.2 1 v1 o1 rfl rfl
        cases o0 with
        | none =>
          have k0 : v0 = .non := k0
          subst k0
          exact ifBT (by simp) (bad he)
        | some a =>
          cases o1 with
          | none =>
            have k1 : v1 = .non := k1
            subst k1
            exact ifBT (by simp) (bad he)
          | some b =>
            have k0 : rNs (fun a => a ≠ p ∧ (H5 a = none ∨ False)) H6 v0 a := k0
            have k1 : rNs (fun a => a ≠ p ∧ (H5 a = none ∨ False)) H6 v1 b := k1
            obtain ⟨a0, rfl, _⟩ := id k0
            obtain ⟨a1, rfl, _⟩ := id k1
            exact ifBF (by simp) (hN _ _ ⟨rfl, rfl, a, b, _, _, he, rfl, k0, k1⟩)
    rintro σ H7 ⟨rfl, rfl, a, b, va, vb, hh, rfl, ka, kb⟩
    have nw : ∀ {c : Addr}, (c ≠ p ∧ (H5 c = none ∨ False)) → c ≠ fl ∧ c ≠ bl ∧ H c = none := fun {c} h => by
      have h5 := h.2.elim id False.elim
      exact ⟨(fun z => by rw [z, ex5] at h5; cases h5), (fun z => by rw [z, ey5] at h5; cases h5), g45.free h5⟩
    have ka' := mvP ka fun c h => nw h
    have kb' := mvP kb fun c h => nw h
    have ex6 := g6 _ _ ex5
    have ey6 := g6 _ _ ey5
    have rx6 := rx5.imp fun _ _ q => mvS q g6
    have ry6 := ry5.imp fun _ _ q => mvS q g6
    have pf : p ≠ fl := fun z => by rw [z, ex5] at np; cases np
    have pb : p ≠ bl := fun z => by rw [z, ey5] at np; cases np
    have nF : ¬ (fl ≠ fl ∧ fl ≠ bl ∧ H fl = none) := fun z => z.1 rfl
    have nB : ¬ (bl ≠ fl ∧ bl ≠ bl ∧ H bl = none) := fun z => z.2.1 rfl
    refine ⟨_, rfl, .inl ⟨rfl, _, SqL.of ex6⟩, _, rfl, p, _, _, _, rfl, rfl, SqL.of ep, rfl, fl, _, _, rfl, rfl, ex6, by omega, ?_⟩
    refine ⟨_, rfl, .inl ⟨rfl, _, SqL.of (by rw [upd_ne (Ne.symm fb)]; exact ey6)⟩, _, rfl, p, _, _, _, rfl, rfl, SqL.of (by rw [upd_ne pf]; exact ep), rfl, bl, _, _, rfl, rfl, by rw [upd_ne (Ne.symm fb)]; exact ey6, by omega, ⟨_, _, rfl⟩, sUpd (sUpd g46 nfl _) nbl0 _, ?_, xs ++ [a], ys ++ [b], ?_, ?_, ?_, ?_, ?_⟩
    · rw [upd_ne sb, upd_ne sf]
      exact g6 _ _ e45
    · rw [List.take_succ, hx]
      exact halves_snoc hv hh
    · rw [List.length_append, lx]; rfl
    · rw [List.length_append, ly]; rfl
    · exact (LsA.put nF rx6 ka').upd nB fb _
    · exact LsA.put nB (ry6.imp fun _ _ q => mvU q nF _) (mvU kb' nF _)
  · rintro σ H4 ⟨⟨o3, o4, rfl⟩, g4, e4, xs, ys, hv, lx, ly, hX, hY⟩
    rw [List.length_map, List.take_length] at hv
    refine ⟨_, rfl, l, _, _, _, rfl, rfl, SqL.of (g4 _ _ el), (atI_nat (j := 1) rfl), _, rfl, _, rfl, (by show 4 ≤ sizeLine; decide), fun t nt => ?_⟩
    have g5 := same_new nt (.tup [.str "full", .str z, .ref fl, .ref bl])
    exact qs (.full z xs ys) (by rw [ef, hv]; rfl) _ _ (g4.trans g5) ⟨t, rfl, g4.free nt, fl, bl, upd_same, ⟨fl, rfl, nfl, (hX.same g5).mono fun a h => h.2.2⟩, ⟨bl, rfl, nbl0, (hY.same g5).mono fun a h => h.2.2⟩⟩

set_option maxHeartbeats 4000000 in
theorem okread_row {dV : Value} (F : FunD K "read_row" "read_row" sread_row dV f fd) (Dwords_of : Dx P w K mg base CX0 1 "words_of" ["row"] [] spSplit) (Dread_numbers : Dx P w K mg base CX0 3 "read_numbers" ["words"] [] spReadNs) (Dread_ways : Dx P w K mg base CX0 4 "read_ways" ["words"] [] (spReadWs waysR)) (Dread_full : Dx P w K mg base CX0 5 "read_full" ["words"] [] (spReadWs fullR)) : FnOk P w K mg base CX0 6 f fd ["line"] spReadRow := by
  have sc : FnScope ["line", "words", "numbers"] ["line"] (defScope sread_row) := scK (by decide +kernel)
  refine F.ok sc (fun vs H Q E h => ?_) (fun cdv A outer s H vs Q E hr h => ?_)
  · obtain ⟨_, rfl, _⟩ := h
    rfl
  obtain ⟨z, rfl, hz, qn, qs⟩ := h
  refine ⟨_, (pss_cons (ps_set (i := 1) sc.nd rfl (Or.inl rfl) (pcall0 Dwords_of hr (by decide) rfl (@pa_cons _ _ _ _ _ (pv 0) pa_nil rfl))) (pss_cons (ps_if (pt_cmpR op_isN (pv 1) pe_non (nomark _)) (pss_one (ps_ret pe_non)) pss_nil) (pss_cons (ps_if (pt_cmpR op_in_seq (pe_ix ix_list (pv 1) pe_int (fun _ _ => rfl)) (pe_glob (v := V.ref c_LISTED) rfl B.m_LISTED rfl) (by with_unfolding_all rfl)) (pss_cons (ps_set (i := 2) sc.nd rfl (Or.inl rfl) (pcall0 Dread_numbers hr (by decide) rfl (@pa_cons _ _ _ _ _ (pe_slice sl_list (pv 1) (po_some pe_int) po_none) pa_nil rfl))) (pss_one (ps_ret (pe_ifExp (pt_cmpR op_isN (pv 2) pe_non (nomark _)) pe_non (@pe_tup _ _ _ _ _ (@pa_cons _ _ _ _ _ (pe_ix ix_list (pv 1) pe_int (fun _ _ => rfl)) (@pa_cons _ _ _ _ _ (pv 2) pa_nil rfl) rfl)))))) pss_nil) (pss_cons (ps_if (pt_cmpR op_eq (pe_ix ix_list (pv 1) pe_int (fun _ _ => rfl)) pe_str (nomark _)) (pss_one (ps_ret (pcall0 Dread_ways hr (by decide) rfl (@pa_cons _ _ _ _ _ (pv 1) pa_nil rfl)))) pss_nil) (pss_cons (ps_if (pt_cmpR op_eq (pe_ix ix_list (pv 1) pe_int (fun _ _ => rfl)) pe_str (nomark _)) (pss_one (ps_ret (pcall0 Dread_full hr (by decide) rfl (@pa_cons _ _ _ _ _ (pv 1) pa_nil rfl)))) pss_nil) (pss_one (ps_ret pe_non))))))), ?_⟩
  try dsimp only [cxK]
  have sl : sizeLine = 16777216 := sizeLine_eq
  refine ⟨_, rfl, z, rfl, by omega, fun e H1 g1 => ?_, fun e p H1 g1 ep => ?_⟩
  · exact ⟨_, rfl, rfl, _, rfl, dT rfl (qn (if_pos e) _ g1)⟩
  have er : rowR z = wordsR (Txt.split z blk) := if_neg e
  rw [er] at qn qs
  have wb : WsB (Txt.split z blk) := split_b (c := 32) (by omega)
  have nee := split_ne z 32
  change H1 p = some (.lst ((Txt.split z blk).map V.str)) at ep
  change Txt.split z blk ≠ [] at nee
  generalize Txt.split z blk = ws at ep wb nee qn qs
  try dsimp only [gName, tNext]
  refine cut (fun σ H' => σ = [some (.str z), some (.ref p), none] ∧ H1 = H') (fun N hN => ?_) ?_
  · exact ⟨_, rfl, rfl, _, rfl, dF (fun z => nomatch z) (hN _ _ ⟨rfl, rfl⟩)⟩
  rintro σ H' ⟨rfl, rfl⟩
  cases ws with
  | nil => exact absurd rfl nee
  | cons w rest =>
  have ec : cutV ((w :: rest).map V.str) (some 1) none = rest.map V.str := cutV_one (by simp)
  have wb' : WsB rest := ⟨by have := wb.1; simp at this; omega, fun w hw => wb.2 w (List.mem_cons_of_mem _ hw)⟩
  have at0 : atI ((w :: rest).map V.str) 0 = some (.str w) := atI_nat (j := 0) rfl
  refine cut (fun σ H' => σ = [some (.str z), some (.ref p), none] ∧ H1 = H' ∧ ¬ Listed w) (fun N hN => ?_) ?_
  · refine ⟨_, rfl, p, _, _, _, rfl, rfl, SqL.of ep, at0, c_LISTED, _, rfl, .inr (B.tg_LISTED.sq _), rfl, flatT _, _, rfl, inT (gs := ["split", "chain", "ring"]) (fun m => ?_) fun m => hN _ _ ⟨rfl, rfl, fun k => m (by simpa [Listed] using k)⟩⟩
    have li : Listed w := by simpa [Listed] using m
    rw [words_lst li] at qn qs
    refine ⟨_, rfl, _, rfl, p, _, rfl, SqL.of ep, fun p1 np1 => ?_⟩
    rw [ec]
    have g2 := same_new np1 (.lst (rest.map V.str))
    refine ⟨p1, rest, rfl, upd_same, wb', fun e H2 g3 => ?_, fun ns e p2 H2 g3 np2 e2 => ?_⟩
    · exact ⟨_, rfl, rfl, _, rfl, dT rfl (qn (by rw [e]; rfl) _ (g1.trans (g2.trans g3)))⟩
    · have g4 := g1.trans (g2.trans g3)
      refine ⟨_, rfl, rfl, _, rfl, dF (fun z => nomatch z) ⟨_, rfl, p, _, _, _, rfl, rfl, SqL.of (g3 _ _ (g2 _ _ ep)), at0, _, rfl, (by show 2 ≤ sizeLine; decide), fun t nt => ?_⟩⟩
      have g5 := same_new nt (.tup [.str w, .ref p2])
      exact qs (.lst w ns) (by rw [e]; rfl) _ _ (g4.trans g5) ⟨t, rfl, g4.free nt, p2, upd_same, p2, rfl, (g1.trans g2).free np2, _, g5 _ _ e2, A2.ofVal _ _ _ _⟩
  rintro σ H' ⟨rfl, rfl, nl⟩
  refine cut (fun σ H' => σ = [some (.str z), some (.ref p), none] ∧ H1 = H' ∧ w ≠ "ways") (fun N hN => ?_) ?_
  · refine ⟨_, rfl, p, _, _, _, rfl, rfl, SqL.of ep, at0, rfl, _, rfl, eS2 (fun m => ?_) fun m => hN _ _ ⟨rfl, rfl, m⟩⟩
    rw [words_ways nl m] at qn qs
    exact ⟨_, rfl, p, w, rest, rfl, ep, wb, fun e H2 g2 => qn e _ (g1.trans g2), fun r e v H2 g2 k => qs r e v _ (g1.trans g2) (mvP k fun a h => g1.free h)⟩
  rintro σ H' ⟨rfl, rfl, nw⟩
  refine cut (fun σ H' => σ = [some (.str z), some (.ref p), none] ∧ H1 = H' ∧ w ≠ "full") (fun N hN => ?_) ?_
  · refine ⟨_, rfl, p, _, _, _, rfl, rfl, SqL.of ep, at0, rfl, _, rfl, eS2 (fun m => ?_) fun m => hN _ _ ⟨rfl, rfl, m⟩⟩
    rw [words_full nl nw m] at qn qs
    exact ⟨_, rfl, p, w, rest, rfl, ep, wb, fun e H2 g2 => qn e _ (g1.trans g2), fun r e v H2 g2 k => qs r e v _ (g1.trans g2) (mvP k fun a h => g1.free h)⟩
  rintro σ H' ⟨rfl, rfl, nf⟩
  exact qn (words_no nl nw nf) _ g1

set_option maxHeartbeats 4000000 in
theorem okread_paper {dV : Value} (F : FunD K "read_paper" "read_paper" sread_paper dV f fd) (Dread_row : Dx P w K mg base CX0 6 "read_row" ["line"] [] spReadRow) (I_NoRow : DxI P w K mg base 1 c_NoRow ["self", "at"] (spInit c_NoRow "at")) : FnOk P w K mg base (CX1 P w) 7 f fd ["text"] (spReadPX K c_NoRow) := by
  have sc : FnScope ["text", "paper", "at", "line", "row"] ["text"] (defScope sread_paper) := scK (by decide +kernel)
  refine F.okX sc (fun vs H Q E h => ?_) (fun cdv A outer s H vs Q E hr h => ?_)
  · obtain ⟨_, rfl, _⟩ := h
    rfl
  obtain ⟨v, rfl, h⟩ := h
  refine ⟨_, (pss_cons (ps_if (pt_not (pt_val (pe_callB (call_isiT (K := K) rfl) rfl B.b_isinstance boot_isinstance (@pa_cons _ _ _ _ _ (pv 0) (@pa_cons _ _ _ _ _ (pe_bltn (v := .ty "str") rfl B.b_str boot_str rfl) pa_nil rfl) rfl)))) (pss_one (praiseI I_NoRow hr (by decide) rfl B.m_NoRow rfl passX (@pa_cons _ _ _ _ _ pe_int pa_nil rfl))) pss_nil) (pss_cons (ps_if (pt_cmpR op_eq (pv 0) pe_str (nomark _)) (pss_one (ps_ret (@pe_lst _ _ _ _ pa_nil))) pss_nil) (pss_cons (ps_set (i := 1) sc.nd rfl (Or.inl rfl) (@pe_lst _ _ _ _ pa_nil)) (pss_cons (ps_for (own_XS rfl rfl) rfl (pi_enum rfl B.b_enumerate (@pa_cons _ _ _ _ _ (pe_bm PySem.F.plainAttrs_str PySem.F.slot_str_split PySem.F.type_str_split mt_split (pv 0) (@pa_cons _ _ _ _ _ pe_str pa_nil rfl)) pa_nil rfl)) (pg_tup rfl (pgs_cons (pg_name (i := 2) sc.nd rfl (Or.inl rfl)) (pgs_cons (pg_name (i := 3) sc.nd rfl (Or.inl rfl)) pgs_nil))) (pss_cons (ps_set (i := 4) sc.nd rfl (Or.inl rfl) (pcall0 Dread_row hr (by decide) rfl (@pa_cons _ _ _ _ _ (pv 3) pa_nil rfl))) (pss_cons (ps_if (pt_cmpR op_isN (pv 4) pe_non (nomark _)) (pss_one (praiseI I_NoRow hr (by decide) rfl B.m_NoRow rfl passX (@pa_cons _ _ _ _ _ (pv 2) pa_nil rfl))) pss_nil) (pss_one (ps_expr (pe_bm PySem.F.plainAttrs_list PySem.F.slot_list_append PySem.F.type_list_append mt_append (pv 1) (@pa_cons _ _ _ _ _ (pv 4) pa_nil rfl))))))) (pss_one (ps_ret (pv 1))))))), ?_⟩
  try dsimp only [cxK]
  have sl : sizeLine = 16777216 := sizeLine_eq
  rcases h with ⟨z, rfl, hz, l100, lw, qs, qx⟩ | ⟨ty, hty, hk, qx⟩
  rotate_left
  · refine ⟨_, rfl, _, _, _, false, rfl, hty, hk, _, rfl, iteT ?_⟩
    exact ⟨(by show 1 ≤ sizeLine; decide), fun xa na => init_of na fun d H9 g9 ea9 ed9 ne9 gd9 edd9 => ⟨rfl, d, ea9, qx d _ gd9 edd9⟩⟩
  refine cut (fun σ H' => σ = [some (.str z), none, none, none, none] ∧ H = H') (fun N hN => ?_) ?_
  · exact ⟨_, rfl, _, _, _, true, rfl, .str _, rfl, _, rfl, iteF (hN _ _ ⟨rfl, rfl⟩)⟩
  rintro σ H' ⟨rfl, rfl⟩
  refine cut (fun σ H' => σ = [some (.str z), none, none, none, none] ∧ H = H' ∧ z ≠ "") (fun N hN => ?_) ?_
  · refine ⟨_, rfl, rfl, _, rfl, eS2 (fun e => ?_) fun e => hN _ _ ⟨rfl, rfl, e⟩⟩
    exact ⟨(by show 0 ≤ sizeLine; decide), fun l nl => qs [] (if_pos e) l _ (same_new nl _) nl LsA.new⟩
  rintro σ H' ⟨rfl, rfl, ne⟩
  have ep : paperR z = rowsR (Txt.split z nwl) := if_neg ne
  refine ⟨(by show 0 ≤ sizeLine; decide), fun l nl => ?_⟩
  have g1 := same_new nl (.lst [])
  have h1 : LsA rRow (fun a => a ≠ l ∧ H a = none) (upd H l (.lst [])) l [] := LsA.new
  generalize upd H l (.lst []) = H1 at g1 h1 ⊢
  refine ⟨_, rfl, rfl, z, 10, rfl, rfl, by omega, fun p np => ?_⟩
  have g2 := same_new np (.lst ((Txt.split z nwl).map V.str))
  have e2 : upd H1 p (.lst ((Txt.split z nwl).map V.str)) p = some (.lst ((Txt.split z nwl).map V.str)) := upd_same
  have pl : p ≠ l := fun z => by
    obtain ⟨_, e, _⟩ := h1
    rw [z, e] at np
    cases np
  have g12 := g1.trans g2
  have h2 := h1.same g2
  rw [show ({ cps := #[10] } : Str) = nwl from rfl]
  generalize upd H1 p (.lst ((Txt.split z nwl).map V.str)) = H2 at g12 e2 h2 ⊢
  clear g2 g1 h1 np
  generalize Txt.split z nwl = ws at e2 l100 lw ep qx ⊢
  refine ⟨p, rfl, ⟨_, SqL.of e2⟩, for_enum (xs := ws.map V.str) (fun i σ H' => (∃ o2 o3 o4 : Option V, σ = [some (.str z), some (.ref l), o2, o3, o4]) ∧ Same H H' ∧ H' p = some (.lst (ws.map V.str)) ∧ ∃ rs, rowsR (ws.take i) = some rs ∧ LsA rRow (fun a => a ≠ l ∧ H a = none) H' l rs) ⟨⟨none, none, none, rfl⟩, g12, e2, [], rfl, h2⟩ (fun i σ H' _ h => SqL.of h.2.2.1) ?_ ?_⟩
  · rintro i y σ H3 T' hy ⟨⟨o2, o3, o4, rfl⟩, g3, e3, rs, hr, ⟨vr, er, rr⟩⟩ nT'
    rw [List.getElem?_map] at hy
    obtain ⟨x, hx, rfl⟩ := Option.map_eq_some_iff.mp hy
    have mx := List.mem_of_getElem? hx
    have il := (List.getElem?_eq_some_iff.mp hx).1
    have lr : rs.length = i := by rw [rows_len hr, List.length_take]; omega
    have lv : vr.length = rs.length := rr.1
    have g4 := same_new nT' (.tup [.int (i : Int), .str x])
    have g34 := g3.trans g4
    refine ⟨T', _, rfl, SqT.of upd_same, rfl, _, _, rfl, _, _, rfl, rfl, ?_⟩
    refine ⟨_, rfl, x, rfl, lw x mx, fun e H5 g5 => ?_, fun r e v H5 g5 k => ?_⟩
    · refine ⟨_, rfl, rfl, _, rfl, dT rfl ⟨_, rfl, ?_⟩⟩
      exact ⟨(by show 1 ≤ sizeLine; decide), fun xa na => init_of na fun d H9 g9 ea9 ed9 ne9 gd9 edd9 => ⟨rfl, d, ea9, qx ne i ⟨⟨x, hx, e⟩, fun j w hj hw => rows_ok hr j w (by rw [List.getElem?_take, if_pos hj]; exact hw)⟩ d _ ((g34.trans g5).trans gd9) edd9⟩⟩
    · have e6 := g5 _ _ (g4 _ _ er)
      have g6 := g34.trans g5
      obtain ⟨t, rfl, _⟩ := id k
      try dsimp only [gName, tNext]
      refine cut (fun σ H' => σ = [some (.str z), some (.ref l), some (.int (i : Int)), some (.str x), some (.ref t)] ∧ H5 = H') (fun N hN => ?_) ?_
      · exact ⟨_, rfl, rfl, _, rfl, dF (fun z => nomatch z) (hN _ _ ⟨rfl, rfl⟩)⟩
      rintro σ H' ⟨rfl, rfl⟩
      have nP : ¬ (l ≠ l ∧ H l = none) := fun z => z.1 rfl
      refine ⟨_, rfl, .inl ⟨rfl, _, SqL.of e6⟩, _, rfl, l, _, _, rfl, rfl, e6, by omega, ⟨_, _, _, rfl⟩, sUpd g6 nl _, by rw [upd_ne pl]; exact g5 _ _ (g4 _ _ e3), rs ++ [r], ?_, LsA.put nP (rr.imp fun _ _ q => mvS q (g4.trans g5)) (mvP k fun a h => ⟨(fun z => by rw [z, g4 _ _ er] at h; cases h), g34.free h⟩)⟩
      rw [List.take_succ, hx]
      exact rows_snoc hr e
  · rintro σ H3 ⟨⟨o2, o3, o4, rfl⟩, g3, e3, rs, hr, hR⟩
    rw [List.length_map, List.take_length] at hr
    exact ⟨_, rfl, qs rs (ep.trans hr) l _ g3 nl hR⟩

set_option maxHeartbeats 4000000 in
theorem ok_law_cell_at {dV : Value} (F : FunD K "_law_cell_at" "_law_cell_at" s_law_cell_at dV f fd)  : FnOk P w K mg base CX0 1 f fd ["_law_script", "_law_k"] (spCell K) := by
  have sc : FnScope ["_law_script", "_law_k"] ["_law_script", "_law_k"] (defScope s_law_cell_at) := scK (by decide +kernel)
  refine F.ok sc (fun vs H Q E h => ?_) (fun cdv A outer s H vs Q E hr h => ?_)
  · obtain ⟨_, _, _, rfl, _⟩ := h
    rfl
  obtain ⟨a, ns, k, rfl, hS, h0, q⟩ := h
  refine ⟨_, (pss_cons (ps_if (pt_cmpR op_lt (pv 1) (pe_callB call_len_seq rfl B.b_len boot_len (@pa_cons _ _ _ _ _ (pv 0) pa_nil rfl)) (nomark _)) (pss_one (ps_ret (pe_ix ix_list (pv 0) (pv 1) (fun _ _ => rfl)))) pss_nil) (pss_one (ps_ret pe_int))), ?_⟩
  try dsimp only [cxK]
  refine ⟨_, rfl, _, rfl, a, _, rfl, .inl hS, _, _, rfl, rfl, _, rfl, d2 (fun c => ?_) (fun c => ?_)⟩
  · obtain ⟨v, hv⟩ := cell_ok h0 c
    exact ⟨_, rfl, _, rfl, a, _, _, _, rfl, rfl, hS, hv, q v⟩
  · exact q 0

set_option maxHeartbeats 4000000 in
theorem ok_law_numbers {dV : Value} (F : FunD K "_law_numbers" "_law_numbers" s_law_numbers dV f fd)  : FnOk P w K mg base CX0 1 f fd ["_law_cell", "_law_many"] spNumbers := by
  have sc : FnScope ["_law_cell", "_law_many", "_law_found", "_law_k", "_law_number"] ["_law_cell", "_law_many"] (defScope s_law_numbers) := scK (by decide +kernel)
  refine F.ok sc (fun vs H Q E h => ?_) (fun cdv A outer s H vs Q E hr h => ?_)
  · obtain ⟨_, _, rfl, _⟩ := h
    rfl
  obtain ⟨c, m, rfl, m0, m7, q⟩ := h
  refine ⟨_, (pss_cons (ps_set (i := 2) sc.nd rfl (Or.inl rfl) (@pe_lst _ _ _ _ pa_nil)) (pss_cons (ps_for PassesOwn.never rfl (pi_range1 rfl B.b_range (@pa_cons _ _ _ _ _ (pv 1) pa_nil rfl)) (pg_name (i := 3) sc.nd rfl (Or.inl rfl)) (pss_cons (ps_set (i := 4) sc.nd rfl (Or.inl rfl) (pe_op op_modN (pe_op op_mulB (pe_op op_mulB (pe_op op_add (pe_op op_modN (pe_op op_fdivB (pv 0) pe_int) pe_int) pe_int) (pe_op op_add (pe_op op_add (pe_op op_mulB (pv 3) (pv 3)) (pe_op op_mulB pe_int (pv 3))) pe_int)) pe_int) pe_int)) (pss_cons (ps_if (pt_cmpR op_eq (pe_op op_modN (pv 4) pe_int) pe_int (nomark _)) (pss_one (ps_set (i := 4) sc.nd rfl (Or.inl rfl) (pe_op op_sub pe_int (pe_op op_mulB (pv 4) (pe_op op_modN (pv 0) pe_int))))) (pss_one (ps_set (i := 4) sc.nd rfl (Or.inl rfl) (pe_op op_modN (pe_op op_fdivB (pv 4) pe_int) pe_int)))) (pss_one (ps_expr (pe_bm PySem.F.plainAttrs_list PySem.F.slot_list_append PySem.F.type_list_append mt_append (pv 2) (@pa_cons _ _ _ _ _ (pv 4) pa_nil rfl))))))) (pss_one (ps_ret (pv 2))))), ?_⟩
  try dsimp only [cxK]
  have sl : sizeLine = 16777216 := sizeLine_eq
  refine ⟨(by show 0 ≤ sizeLine; decide), fun l nl => ?_⟩
  have g0 := same_new nl (.lst [])
  have e0 : upd H l (.lst []) l = some (.lst []) := upd_same
  generalize upd H l (.lst []) = H0 at g0 e0 ⊢
  refine ⟨_, rfl, m, rfl, by omega, by omega, for_range (fun i σ H' => (∃ o3 o4 : Option V, σ = [some (.int c), some (.int m), some (.ref l), o3, o4]) ∧ Same H H' ∧ H' l = some (.lst ((numsF c i).map vN))) ⟨⟨none, none, rfl⟩, g0, e0⟩ ?_ ?_⟩
  · rintro i σ H1 hi ⟨⟨o3, o4, rfl⟩, g1, e1⟩
    have a1 := fm (a := c.fdiv 40) (n := 1000003) (by decide)
    have k49 : (0 + (i : Int)) * (0 + (i : Int)) ≤ 49 := by
      have : (0 + (i : Int)) ≤ 7 := by omega
      exact Int.le_trans (Int.mul_le_mul this this (by omega) (by decide)) (by decide)
    have k0 : 0 ≤ (0 + (i : Int)) * (0 + (i : Int)) := Int.mul_nonneg (by omega) (by omega)
    have li : (numsF c i).length = i := by unfold numsF; rw [List.length_map, List.length_range]
    refine ⟨_, rfl, _, _, rfl, rfl, ⟨by decide, PyProof.noPylong_small (by decide)⟩, _, _, rfl, rfl, (by show (1000003 : Int) ≠ 0; decide), _, _, rfl, rfl, _, rfl, _, rfl, _, _, rfl, rfl, IntMulOk.of_left (intBits_le_64 (by omega) (by omega)), _, rfl, _, _, rfl, rfl, IntMulOk.of_left (by decide), _, _, rfl, rfl, _, _, rfl, rfl, _, _, rfl, rfl, IntMulOk.of_left (intBits_le_64 (by omega) (by omega)), _, _, rfl, rfl, IntMulOk.of_right (by decide), _, _, rfl, rfl, (by show (999983 : Int) ≠ 0; decide), ?_⟩
    try dsimp only [gName, tNext]
    have en : (((c.fdiv 40).fmod 1000003 + 1) * ((0 + (i : Int)) * (0 + (i : Int)) + 3 * (0 + (i : Int)) + 7) * 48271).fmod 999983 = n92 c (0 + (i : Int)) := rfl
    rw [en]
    have nb : 0 ≤ n92 c (0 + (i : Int)) ∧ n92 c (0 + (i : Int)) < 999983 := fm (by decide)
    refine cut (fun σ H' => σ = [some (.int c), some (.int m), some (.ref l), some (.int (0 + (i : Int))), some (.int (m92 c (0 + (i : Int))))] ∧ H1 = H') (fun N hN => ?_) ?_
    · refine ⟨_, rfl, _, _, rfl, rfl, (by show (7 : Int) ≠ 0; decide), rfl, _, rfl, d2I (fun h => ?_) fun h => ?_⟩
      · exact ⟨_, rfl, _, rfl, _, _, rfl, rfl, (by show (3 : Int) ≠ 0; decide), _, _, rfl, rfl, IntMulOk.of_left (intBits_le_64 (by omega) (by omega)), _, _, rfl, rfl, hN _ _ ⟨by rw [show m92 c (0 + (i : Int)) = 999999999 - n92 c (0 + (i : Int)) * c.fmod 3 from if_pos h]; rfl, rfl⟩⟩
      · exact ⟨_, rfl, _, _, rfl, rfl, ⟨by decide, PyProof.noPylong_small (by decide)⟩, _, _, rfl, rfl, (by show (61 : Int) ≠ 0; decide), hN _ _ ⟨by rw [show m92 c (0 + (i : Int)) = ((n92 c (0 + (i : Int))).fdiv 7).fmod 61 from if_neg h]; rfl, rfl⟩⟩
    rintro σ H' ⟨rfl, rfl⟩
    refine ⟨_, rfl, .inl ⟨rfl, _, SqL.of e1⟩, _, rfl, l, _, _, rfl, rfl, e1, by rw [List.length_map, li]; omega, ⟨_, _, rfl⟩, sUpd g1 nl _, ?_⟩
    rw [numsF_succ, List.map_append, List.map_cons, List.map_nil, vN_m]
    exact upd_same
  · rintro σ H1 ⟨⟨o3, o4, rfl⟩, g1, e1⟩
    exact ⟨_, rfl, q l H1 nl g1 e1⟩

set_option maxHeartbeats 4000000 in
theorem ok_law_tool {dV : Value} (F : FunD K "_law_tool" "_law_tool" s_law_tool dV f fd)  : FnOk P w K mg base CX0 1 f fd ["_law_cell"] spTool92 := by
  have sc : FnScope ["_law_cell", "_law_letters", "_law_word", "_law_k"] ["_law_cell"] (defScope s_law_tool) := scK (by decide +kernel)
  refine F.ok sc (fun vs H Q E h => ?_) (fun cdv A outer s H vs Q E hr h => ?_)
  · obtain ⟨_, rfl, _⟩ := h
    rfl
  obtain ⟨c, rfl, q⟩ := h
  refine ⟨_, (pss_cons (ps_set (i := 1) sc.nd rfl (Or.inl rfl) pe_str) (pss_cons (ps_set (i := 2) sc.nd rfl (Or.inl rfl) pe_str) (pss_cons (ps_for PassesOwn.never rfl (pi_range1 rfl B.b_range (@pa_cons _ _ _ _ _ (pe_op op_add pe_int (pe_op op_modN (pv 0) pe_int)) pa_nil rfl)) (pg_name (i := 3) sc.nd rfl (Or.inl rfl)) (pss_one (ps_set (i := 2) sc.nd rfl (Or.inl rfl) (pe_op op_add_str (pv 2) (pe_ix ix_str (pv 1) (pe_op op_modN (pe_op op_modN (pe_op op_mulB (pe_op op_add (pe_op op_modN (pe_op op_fdivB (pv 0) pe_int) pe_int) pe_int) (pe_op op_add (pe_op op_add (pe_op op_mulB (pv 3) (pv 3)) (pv 3)) pe_int)) pe_int) pe_int) (fun _ _ => rfl)))))) (pss_one (ps_ret (pv 2)))))), ?_⟩
  try dsimp only [cxK]
  have sl : sizeLine = 16777216 := sizeLine_eq
  have m12 := fm (a := c) (n := 12) (by decide)
  try dsimp only [gName, tNext]
  refine ⟨_, rfl, _, _, rfl, rfl, (by show (12 : Int) ≠ 0; decide), _, _, rfl, rfl, _, rfl, by omega, by omega, for_range (fun i σ H' => (∃ o3 : Option V, σ = [some (.int c), some (.str "abcdefghijklmnopqrstuvwxyz"), some (.str (toolT c i)), o3]) ∧ H = H') ⟨⟨none, rfl⟩, rfl⟩ ?_ ?_⟩
  · rintro i σ H1 hi ⟨⟨o3, rfl⟩, rfl⟩
    have a1 := fm (a := c.fdiv 12) (n := 1009) (by decide)
    have k49 : (0 + (i : Int)) * (0 + (i : Int)) ≤ 144 := by
      have : (0 + (i : Int)) ≤ 12 := by omega
      exact Int.le_trans (Int.mul_le_mul this this (by omega) (by decide)) (by decide)
    have k0 : 0 ≤ (0 + (i : Int)) * (0 + (i : Int)) := Int.mul_nonneg (by omega) (by omega)
    have tb := t92_b c (0 + (i : Int))
    have tl := toolT_len c i
    refine ⟨_, rfl, _, rfl, _, rfl, _, _, rfl, rfl, ⟨by decide, PyProof.noPylong_small (by decide)⟩, _, _, rfl, rfl, (by show (1009 : Int) ≠ 0; decide), _, _, rfl, rfl, _, rfl, _, rfl, _, _, rfl, rfl, IntMulOk.of_left (intBits_le_64 (by omega) (by omega)), _, rfl, _, _, rfl, rfl, _, _, rfl, rfl, _, _, rfl, rfl, IntMulOk.of_left (intBits_le_64 (by omega) (by omega)), _, _, rfl, rfl, (by show (1013 : Int) ≠ 0; decide), _, _, rfl, rfl, (by show (26 : Int) ≠ 0; decide), _, _, _, rfl, rfl, (by decide), az_let tb.1 tb.2, _, _, rfl, rfl, (by show (toolT c i).length + 1 ≤ _; omega), ⟨_, rfl⟩, rfl⟩
  · rintro σ H1 ⟨⟨o3, rfl⟩, rfl⟩
    exact ⟨_, rfl, q⟩

set_option maxHeartbeats 4000000 in
theorem ok_law_row {dV : Value} (F : FunD K "_law_row" "_law_row" s_law_row dV f fd) (D_law_numbers : Dx P w K mg base CX0 1 "_law_numbers" ["_law_cell", "_law_many"] [] spNumbers) (D_law_tool : Dx P w K mg base CX0 1 "_law_tool" ["_law_cell"] [] spTool92) : FnOk P w K mg base CX0 2 f fd ["_law_cell"] spRow92 := by
  have sc : FnScope ["_law_cell", "_law_way", "_law_many", "_law_fronts", "_law_backs"] ["_law_cell"] (defScope s_law_row) := scK (by decide +kernel)
  refine F.ok sc (fun vs H Q E h => ?_) (fun cdv A outer s H vs Q E hr h => ?_)
  · obtain ⟨_, rfl, _⟩ := h
    rfl
  obtain ⟨c, rfl, q⟩ := h
  refine ⟨_, (pss_cons (ps_set (i := 1) sc.nd rfl (Or.inl rfl) (pe_op op_modN (pv 0) pe_int)) (pss_cons (ps_if (pt_cmpR op_lt (pv 1) pe_int (nomark _)) (pss_one (ps_ret (@pe_tup _ _ _ _ _ (@pa_cons _ _ _ _ _ (pe_ix ix_list (@pe_lst _ _ _ _ (@pa_cons _ _ _ _ _ pe_str (@pa_cons _ _ _ _ _ pe_str (@pa_cons _ _ _ _ _ pe_str pa_nil rfl) rfl) rfl)) (pv 1) (fun _ _ => rfl)) (@pa_cons _ _ _ _ _ (pcall0 D_law_numbers hr (by decide) rfl (@pa_cons _ _ _ _ _ (pv 0) (@pa_cons _ _ _ _ _ (pe_op op_modN (pe_op op_fdivB (pv 0) pe_int) pe_int) pa_nil rfl) rfl)) pa_nil rfl) rfl)))) pss_nil) (pss_cons (ps_if (pt_cmpR op_eq (pv 1) pe_int (nomark _)) (pss_one (ps_ret (@pe_tup _ _ _ _ _ (@pa_cons _ _ _ _ _ pe_str (@pa_cons _ _ _ _ _ (pe_ix ix_list (pcall0 D_law_numbers hr (by decide) rfl (@pa_cons _ _ _ _ _ (pv 0) (@pa_cons _ _ _ _ _ pe_int pa_nil rfl) rfl)) pe_int (fun _ _ => rfl)) pa_nil rfl) rfl)))) pss_nil) (pss_cons (ps_set (i := 2) sc.nd rfl (Or.inl rfl) (pe_op op_modN (pe_op op_fdivB (pv 0) pe_int) pe_int)) (pss_cons (ps_compH (hd := none) (own := "_law_k") (ys := ["_law_cell"]) (js := [0]) sc.nd (i := 3) rfl rfl hr.hd (cok (atc atn) (.cons rfl .nil) (by decide) rfl rfl rfl rfl rfl rfl rfl rfl) (pi_rangeH rfl B.b_range (@pa_cons _ _ _ _ _ (pv 2) pa_nil rfl)) (fun C fp s H => (pcall0 D_law_numbers hr (by decide) rfl (@pa_cons _ _ _ _ _ (pe_op op_add (pv 1) (pe_op op_mulB pe_int (pv 0))) (@pa_cons _ _ _ _ _ (pe_op op_modN (pe_op op_add (pe_op op_fdivB (pv 1) pe_int) (pv 0)) pe_int) pa_nil rfl) rfl)))) (pss_cons (ps_compH (hd := none) (own := "_law_k") (ys := ["_law_cell"]) (js := [0]) sc.nd (i := 4) rfl rfl hr.hd (cok (atc atn) (.cons rfl .nil) (by decide) rfl rfl rfl rfl rfl rfl rfl rfl) (pi_rangeH rfl B.b_range (@pa_cons _ _ _ _ _ (pv 2) pa_nil rfl)) (fun C fp s H => (pcall0 D_law_numbers hr (by decide) rfl (@pa_cons _ _ _ _ _ (pe_op op_add (pe_op op_add (pv 1) (pe_op op_mulB pe_int (pv 0))) pe_int) (@pa_cons _ _ _ _ _ (pe_op op_modN (pe_op op_add (pe_op op_fdivB (pv 1) pe_int) (pe_op op_mulB (pv 0) (pv 0))) pe_int) pa_nil rfl) rfl)))) (pss_one (ps_ret (@pe_tup _ _ _ _ _ (@pa_cons _ _ _ _ _ pe_str (@pa_cons _ _ _ _ _ (pcall0 D_law_tool hr (by decide) rfl (@pa_cons _ _ _ _ _ (pe_op op_modN (pe_op op_fdivB (pv 0) pe_int) pe_int) pa_nil rfl)) (@pa_cons _ _ _ _ _ (pv 3) (@pa_cons _ _ _ _ _ (pv 4) pa_nil rfl) rfl) rfl) rfl)))))))))), ?_⟩
  try dsimp only [cxK]
  have sl : sizeLine = 16777216 := sizeLine_eq
  have m5 := fm (a := c) (n := 5) (by decide)
  have m7 := fm (a := c.fdiv 5) (n := 7) (by decide)
  have m4 := fm (a := c.fdiv 5) (n := 4) (by decide)
  refine ⟨_, rfl, _, _, rfl, rfl, (by show (5 : Int) ≠ 0; decide), ?_⟩
  try dsimp only [gName, tNext]
  refine cut (fun σ H' => σ = [some (.int c), some (.int (c.fmod 5)), none, none, none] ∧ H = H' ∧ ¬ c.fmod 5 < 3) (fun N hN => ?_) ?_
  · refine ⟨_, rfl, _, _, rfl, rfl, _, rfl, d2 (fun h => ?_) fun h => hN _ _ ⟨rfl, rfl, h⟩⟩
    have er : rowF c = .lst (w92 (c.fmod 5)) (numsF c ((c.fdiv 5).fmod 7).toNat) := if_pos h
    rw [er] at q
    refine ⟨(by show 3 ≤ sizeLine; decide), fun l1 nl1 => ⟨_, rfl, l1, _, _, _, rfl, rfl, SqL.of upd_same, (w92_at m5.1 h), _, rfl, _, rfl, _, _, rfl, rfl, ⟨by decide, PyProof.noPylong_small (by decide)⟩, _, _, rfl, rfl, (by show (7 : Int) ≠ 0; decide), c, _, rfl, m7.1, (by omega), fun p H1 np g1 ep => ⟨(by show 2 ≤ sizeLine; decide), fun t nt => ?_⟩⟩⟩
    have g0 := same_new nl1 (.lst [.str "split", .str "chain", .str "ring"])
    have g2 := same_new nt (.tup [.str (w92 (c.fmod 5)), .ref p])
    exact q _ _ ((g0.trans g1).trans g2) ⟨t, rfl, (g0.trans g1).free nt, p, upd_same, p, rfl, g0.free np, _, g2 _ _ ep, A2.ofVal _ _ _ _⟩
  rintro σ H' ⟨rfl, rfl, h3⟩
  refine cut (fun σ H' => σ = [some (.int c), some (.int (c.fmod 5)), none, none, none] ∧ H = H' ∧ c.fmod 5 ≠ 3) (fun N hN => ?_) ?_
  · refine ⟨_, rfl, rfl, _, rfl, d2I (fun h => ?_) fun h => hN _ _ ⟨rfl, rfl, h⟩⟩
    have er : rowF c = .ways (m92 c (0 + ((0 : Nat) : Int))).toNat := (if_neg h3).trans (if_pos h)
    rw [er] at q
    refine ⟨_, rfl, c, 1, rfl, by decide, by decide, fun p H1 np g1 ep => ?_⟩
    have e1 : H1 p = some (.lst [vN (m92 c (0 + ((0 : Nat) : Int))).toNat]) := ep
    refine ⟨p, _, _, _, rfl, rfl, SqL.of e1, rfl, (by show 2 ≤ sizeLine; decide), fun t nt => ?_⟩
    exact q _ _ (g1.trans (same_new nt _)) ⟨t, rfl, g1.free nt, upd_same⟩
  rintro σ H' ⟨rfl, rfl, h4⟩
  refine ⟨_, rfl, _, _, rfl, rfl, ⟨by decide, PyProof.noPylong_small (by decide)⟩, _, _, rfl, rfl, (by show (4 : Int) ≠ 0; decide), ?_⟩
  try dsimp only [gName, tNext]
  refine ⟨_, rfl, _, rfl, by omega, by omega, comp_RrH rNs (fun _ => False) (fun k => numsF (c + 41 * (0 + (k : Int))) (((c.fdiv 20) + (0 + (k : Int))).fmod 5).toNat) HdOk.no (by omega) (fun a h => h.elim) (fun k hk H1 g1 Q' hQ => ?_) fun fl H1 nfl g1 hf => ?_⟩
  · have b5 := fm (a := (c.fdiv 20) + (0 + (k : Int))) (n := 5) (by decide)
    exact ⟨_, rfl, _, rfl, _, _, rfl, rfl, IntMulOk.of_left (by decide), _, _, rfl, rfl, _, rfl, _, _, rfl, rfl, ⟨by decide, PyProof.noPylong_small (by decide)⟩, _, rfl, _, _, rfl, rfl, _, _, rfl, rfl, (by show (5 : Int) ≠ 0; decide), _, _, rfl, b5.1, (by omega), fun p H2 np g2 ep => hQ _ _ g2 ⟨p, rfl, .inl np, _, ep, A2.ofVal _ _ _ _⟩⟩
  try dsimp only [gName, tNext]
  refine ⟨_, rfl, _, rfl, by omega, by omega, comp_RrH rNs (fun _ => False) (fun k => numsF (c + 43 * (0 + (k : Int)) + 7) (((c.fdiv 100) + (0 + (k : Int)) * (0 + (k : Int))).fmod 5).toNat) HdOk.no (by omega) (fun a h => h.elim) (fun k hk H2 g2 Q' hQ => ?_) fun bl H2 nbl g2 hb => ?_⟩
  · have b5 := fm (a := (c.fdiv 100) + (0 + (k : Int)) * (0 + (k : Int))) (n := 5) (by decide)
    exact ⟨_, rfl, _, rfl, _, _, rfl, rfl, IntMulOk.of_left (by decide), _, _, rfl, rfl, _, _, rfl, rfl, _, rfl, _, _, rfl, rfl, ⟨by decide, PyProof.noPylong_small (by decide)⟩, _, rfl, _, rfl, _, _, rfl, rfl, IntMulOk.of_left (intBits_le_64 (by omega) (by omega)), _, _, rfl, rfl, _, _, rfl, rfl, (by show (5 : Int) ≠ 0; decide), _, _, rfl, b5.1, (by omega), fun p H3 np g3 ep => hQ _ _ g3 ⟨p, rfl, .inl np, _, ep, A2.ofVal _ _ _ _⟩⟩
  try dsimp only [gName, tNext]
  have er : rowF c = .full (toolF ((c.fdiv 20).fmod 100003)) ((List.range ((c.fdiv 5).fmod 4).toNat).map fun k : Nat => numsF (c + 41 * (0 + (k : Int))) (((c.fdiv 20) + (0 + (k : Int))).fmod 5).toNat) ((List.range ((c.fdiv 5).fmod 4).toNat).map fun k : Nat => numsF (c + 43 * (0 + (k : Int)) + 7) (((c.fdiv 100) + (0 + (k : Int)) * (0 + (k : Int))).fmod 5).toNat) := (if_neg h3).trans (if_neg h4)
  rw [er] at q
  refine ⟨_, rfl, _, _, rfl, rfl, ⟨by decide, PyProof.noPylong_small (by decide)⟩, _, _, rfl, rfl, (by show (100003 : Int) ≠ 0; decide), _, rfl, _, rfl, _, rfl, (by show 4 ≤ sizeLine; decide), fun t nt => ?_⟩
  have g12 := g1.trans g2
  have g3 := same_new nt (.tup [.str "full", .str (toolF ((c.fdiv 20).fmod 100003)), .ref fl, .ref bl])
  exact q _ _ (g12.trans g3) ⟨t, rfl, g12.free nt, fl, bl, upd_same, ⟨fl, rfl, nfl, ((hf.mono fun a h => h.2.elim id False.elim).same g2).same g3⟩, ⟨bl, rfl, g1.free nbl, (hb.mono fun a h => g1.free (h.2.elim id False.elim)).same g3⟩⟩

set_option maxHeartbeats 4000000 in
theorem ok_law_points {dV : Value} (F : FunD K "_law_points" "_law_points" s_law_points dV f fd)  : FnOk P w K mg base CX0 1 f fd ["_law_points_here"] spNumsT := by
  have sc : FnScope ["_law_points_here"] ["_law_points_here"] (defScope s_law_points) := scK (by decide +kernel)
  refine F.ok sc (fun vs H Q E h => ?_) (fun cdv A outer s H vs Q E hr h => ?_)
  · obtain ⟨_, _, rfl, _⟩ := h
    rfl
  obtain ⟨l, ns, rfl, el, ok, q⟩ := h
  refine ⟨_, (pss_one (ps_ret (pe_bm PySem.F.plainAttrs_str PySem.F.slot_str_join PySem.F.type_str_join mt_join pe_str (@pa_cons _ _ _ _ _ (pe_comp (own := "_law_point") (ys := []) (js := []) rfl (cok atn .nil (by decide) rfl rfl rfl rfl rfl rfl rfl rfl) (pi_list (pv 0)) (fun C fp s H => (pe_callTy call_str_int rfl B.b_str boot_str (@pa_cons _ _ _ _ _ (pv 0) pa_nil rfl)))) pa_nil rfl)))), ?_⟩
  try dsimp only [cxK]
  have sl : sizeLine = 16777216 := sizeLine_eq
  have l100 := ok.1
  refine ⟨rfl, _, rfl, l, rfl, ⟨_, SqL.of el⟩, comp_Rl (rVal V.str) (fun _ => False) (fun i => numT (ns.getD i 0)) (SqL.of el) (by rw [List.length_map]; omega) (fun a h => h.elim) (fun i y hy H2 g Q' hQ => ?_) fun p H' np g hp => ?_⟩
  · rw [List.getElem?_map] at hy
    obtain ⟨n, hn, rfl⟩ := Option.map_eq_some_iff.mp hy
    rw [getDo hn] at hQ
    refine ⟨_, rfl, _, rfl, num_lg (ok.2 n (List.mem_of_getElem? hn)), ?_⟩
    rw [str_num]
    exact hQ _ _ (.refl _) rfl
  · obtain ⟨vs, ep, rp⟩ := hp
    have e1 : vs = (ns.map numT).map V.str := by
      rw [rp.val, List.length_map, map_getD numT ns 0]
    rw [e1] at ep
    refine ⟨_, p, _, rfl, rfl, SqL.of ep, (by decide), ?_, q _ g⟩
    have := sum_len (numTs_len ok)
    rw [List.length_map] at this ⊢
    omega

set_option maxHeartbeats 4000000 in
theorem ok_law_line {dV : Value} (F : FunD K "_law_line" "_law_line" s_law_line dV f fd) (D_law_points : Dx P w K mg base CX0 1 "_law_points" ["_law_points_here"] [] spNumsT) : FnOk P w K mg base CX0 2 f fd ["_law_row_here"] spLine92 := by
  have sc : FnScope ["_law_row_here", "_law_line_here", "_law_k", "_law_number"] ["_law_row_here"] (defScope s_law_line) := scK (by decide +kernel)
  refine F.ok sc (fun vs H Q E h => ?_) (fun cdv A outer s H vs Q E hr h => ?_)
  · obtain ⟨_, _, rfl, _⟩ := h
    rfl
  obtain ⟨v, r, rfl, ⟨t, rfl, _, h⟩, ok, q⟩ := h
  refine ⟨_, (pss_cons (ps_if (pt_cmpR op_eq (pe_ix ix_tup (pv 0) pe_int (fun _ _ => rfl)) pe_str (nomark _)) (pss_one (ps_ret (pe_op op_add_str pe_str (pe_callTy call_str_int rfl B.b_str boot_str (@pa_cons _ _ _ _ _ (pe_ix ix_tup (pv 0) pe_int (fun _ _ => rfl)) pa_nil rfl))))) pss_nil) (pss_cons (ps_set (i := 1) sc.nd rfl (Or.inl rfl) (pe_ix ix_tup (pv 0) pe_int (fun _ _ => rfl))) (pss_cons (ps_if (pt_cmpR op_eq (pe_ix ix_tup (pv 0) pe_int (fun _ _ => rfl)) pe_str (nomark _)) (pss_cons (ps_set (i := 1) sc.nd rfl (Or.inl rfl) (pe_op op_add_str (pe_op op_add_str (pv 1) pe_str) (pe_ix ix_tup (pv 0) pe_int (fun _ _ => rfl)))) (pss_one (ps_for PassesOwn.never rfl (pi_range1 rfl B.b_range (@pa_cons _ _ _ _ _ (pe_callB call_len_seq rfl B.b_len boot_len (@pa_cons _ _ _ _ _ (pe_ix ix_tup (pv 0) pe_int (fun _ _ => rfl)) pa_nil rfl)) pa_nil rfl)) (pg_name (i := 2) sc.nd rfl (Or.inl rfl)) (pss_cons (ps_set (i := 1) sc.nd rfl (Or.inl rfl) (pe_op op_add_str (pe_op op_add_str (pv 1) pe_str) (pcall0 D_law_points hr (by decide) rfl (@pa_cons _ _ _ _ _ (pe_ix ix_list (pe_ix ix_tup (pv 0) pe_int (fun _ _ => rfl)) (pv 2) (fun _ _ => rfl)) pa_nil rfl)))) (pss_one (ps_set (i := 1) sc.nd rfl (Or.inl rfl) (pe_op op_add_str (pe_op op_add_str (pv 1) pe_str) (pcall0 D_law_points hr (by decide) rfl (@pa_cons _ _ _ _ _ (pe_ix ix_list (pe_ix ix_tup (pv 0) pe_int (fun _ _ => rfl)) (pv 2) (fun _ _ => rfl)) pa_nil rfl))))))))) (pss_one (ps_for PassesOwn.never rfl (pi_list (pe_ix ix_tup (pv 0) pe_int (fun _ _ => rfl))) (pg_name (i := 3) sc.nd rfl (Or.inl rfl)) (pss_one (ps_set (i := 1) sc.nd rfl (Or.inl rfl) (pe_op op_add_str (pe_op op_add_str (pv 1) pe_str) (pe_callTy call_str_int rfl B.b_str boot_str (@pa_cons _ _ _ _ _ (pv 3) pa_nil rfl)))))))) (pss_one (ps_ret (pv 1)))))), ?_⟩
  try dsimp only [cxK]
  have sl : sizeLine = 16777216 := sizeLine_eq
  have rl := rowWs_len ok
  cases r with
  | ways n =>
    have et : H t = some (.tup [.str "ways", vN n]) := h
    have nl9 := numT_len ok
    refine ⟨_, rfl, t, _, _, _, rfl, rfl, SqT.of et, rfl, rfl, _, rfl, eS2 (fun _ => ?_) fun z => absurd rfl z⟩
    refine ⟨_, rfl, t, _, _, _, rfl, rfl, SqT.of et, rfl, _, rfl, num_lg ok, ?_⟩
    rw [str_num]
    refine ⟨_, _, rfl, rfl, (by show 5 + (numT n).length ≤ _; omega), ?_⟩
    have := q H (.refl _)
    have e : rowT (.ways n) = "ways " ++ numT n := rfl
    rw [e] at this
    exact this
  | lst w ns =>
    obtain ⟨l, et, k⟩ := h
    have el := rNs.l k
    obtain ⟨hw, no⟩ := ok
    refine cut (fun σ H' => σ = [some (.ref t), none, none, none] ∧ H = H') (fun N hN => ?_) ?_
    · exact ⟨_, rfl, t, _, _, _, rfl, rfl, SqT.of et, rfl, rfl, _, rfl, eS2 (fun z => absurd z (by rcases hw with rfl | rfl | rfl <;> decide)) fun _ => hN _ _ ⟨rfl, rfl⟩⟩
    rintro σ H' ⟨rfl, rfl⟩
    refine ⟨_, rfl, t, _, _, _, rfl, rfl, SqT.of et, rfl, ?_⟩
    try dsimp only [gName, tNext]
    refine cut (fun σ H' => (∃ o2 o3 : Option V, σ = [some (.ref t), some (.str (rowT (.lst w ns))), o2, o3]) ∧ H = H') (fun N hN => ?_) ?_
    · refine ⟨_, rfl, t, _, _, _, rfl, rfl, SqT.of et, rfl, rfl, _, rfl, eS2 (fun z => absurd z (by rcases hw with rfl | rfl | rfl <;> decide)) fun _ => ?_⟩
      refine ⟨_, rfl, t, _, _, _, rfl, rfl, SqT.of et, rfl, l, rfl, ⟨_, SqL.of el⟩, for_list (xs := ns.map vN) (fun i σ H' => (∃ o2 o3 : Option V, σ = [some (.ref t), some (.str (Txt.join blk (w :: (ns.map numT).take i))), o2, o3]) ∧ H = H') ⟨⟨none, none, rfl⟩, rfl⟩ (fun i σ H' _ h => by rw [← h.2]; exact SqL.of el) ?_ ?_⟩
      · rintro i y σ H1 hy ⟨⟨o2, o3, rfl⟩, rfl⟩
        rw [List.getElem?_map] at hy
        obtain ⟨n, hn, rfl⟩ := Option.map_eq_some_iff.mp hy
        have nb := no.2 n (List.mem_of_getElem? hn)
        have ll := lst_line hw no i
        have n9 := numT_len nb
        refine ⟨_, rfl, _, _, rfl, rfl, (by show _ + 1 ≤ _; omega), _, rfl, _, rfl, num_lg nb, ?_⟩
        rw [str_num]
        refine ⟨_, _, rfl, rfl, (by rw [Str.length_append]; show _ + 1 + (numT n).length ≤ _; omega), ⟨o2, some (vN n), ?_⟩, rfl⟩
        have e : Txt.join blk (w :: (ns.map numT).take (i + 1)) = Txt.join blk (w :: (ns.map numT).take i) ++ blk ++ numT n := by
          rw [List.take_succ, List.getElem?_map, hn, ← List.cons_append]
          exact join_snoc (by simp)
        rw [e]
        rfl
      · rintro σ H1 ⟨⟨o2, o3, rfl⟩, rfl⟩
        exact hN _ _ ⟨⟨_, _, by rw [List.take_of_length_le (by rw [List.length_map, List.length_map]; exact Nat.le_refl _)]; rfl⟩, rfl⟩
    rintro σ H' ⟨⟨o2, o3, rfl⟩, rfl⟩
    exact ⟨_, rfl, q H (.refl _)⟩
  | full z fs bs =>
    obtain ⟨f', b, et, kf, kb⟩ := h
    obtain ⟨nm, lfb, l3, fo, bo⟩ := ok
    obtain ⟨_, e, _, vf, ef, rf⟩ := kf
    cases e
    obtain ⟨_, e, _, vb, eb, rb⟩ := kb
    cases e
    have lz : z.length ≤ 12 := by have := nm.2.1; rwa [sL_len] at this
    have lf : vf.length = fs.length := rf.1
    have lb : vb.length = bs.length := rb.1
    refine cut (fun σ H' => σ = [some (.ref t), none, none, none] ∧ H = H') (fun N hN => ?_) ?_
    · exact ⟨_, rfl, t, _, _, _, rfl, rfl, SqT.of et, rfl, rfl, _, rfl, eS2 (fun z => absurd z (by decide)) fun _ => hN _ _ ⟨rfl, rfl⟩⟩
    rintro σ H' ⟨rfl, rfl⟩
    refine ⟨_, rfl, t, _, _, _, rfl, rfl, SqT.of et, rfl, ?_⟩
    try dsimp only [gName, tNext]
    refine cut (fun σ H' => (∃ o2 o3 : Option V, σ = [some (.ref t), some (.str (rowT (.full z fs bs))), o2, o3]) ∧ Same H H') (fun N hN => ?_) ?_
    · refine ⟨_, rfl, t, _, _, _, rfl, rfl, SqT.of et, rfl, rfl, _, rfl, eS2 (fun _ => ?_) fun z => absurd rfl z⟩
      refine ⟨_, rfl, _, _, rfl, rfl, (by show 4 + 1 ≤ sizeLine; decide), _, rfl, t, _, _, _, rfl, rfl, SqT.of et, rfl, _, _, rfl, rfl, (by show 5 + z.length ≤ _; omega), ?_⟩
      refine ⟨_, rfl, t, _, _, _, rfl, rfl, SqT.of et, rfl, f', _, rfl, .inl (SqL.of ef), _, rfl, by omega, by omega, for_range (fun i σ H' => (∃ o2 o3 : Option V, σ = [some (.ref t), some (.str (Txt.join blk ("full" :: z :: (List.zipWith pairT fs bs).take i))), o2, o3]) ∧ Same H H') ⟨⟨none, none, rfl⟩, .refl _⟩ ?_ ?_⟩
      · rintro i σ H1 hi ⟨⟨o2, o3, rfl⟩, g1⟩
        have if' : i < fs.length := by omega
        have ib' : i < bs.length := by omega
        have hf := List.getElem?_eq_getElem if'
        have hb := List.getElem?_eq_getElem ib'
        have mf := List.getElem_mem if'
        have mb := List.getElem_mem ib'
        generalize fs[i] = f at hf mf
        generalize bs[i] = b1 at hb mb
        obtain ⟨v1, hv1, k1⟩ := rf.get hf
        obtain ⟨v2, hv2, k2⟩ := rb.get hb
        obtain ⟨a1, rfl, _⟩ := id k1
        obtain ⟨a2, rfl, _⟩ := id k2
        have at1 : atI vf (0 + (i : Int)) = some (.ref a1) := at_zero hv1
        have at2 : atI vb (0 + (i : Int)) = some (.ref a2) := at_zero hv2
        have ll := full_line nm l3 fo bo i
        have c1 := chT_len (fo f mf)
        have c2 := chT_len (bo b1 mb)
        refine ⟨_, rfl, _, _, rfl, rfl, (by show _ + 1 ≤ _; omega), _, rfl, t, _, _, _, rfl, rfl, SqT.of (g1 _ _ et), rfl, _, rfl, f', _, _, _, rfl, rfl, SqL.of (g1 _ _ ef), at1, a1, f, rfl, g1 _ _ (rNs.l k1), (fo f mf).up (by decide), fun H2 g2 => ⟨_, _, rfl, rfl, (by rw [Str.length_append]; show _ + 1 + _ ≤ _; omega), ?_⟩⟩
        have g12 := g1.trans g2
        refine ⟨_, rfl, _, _, rfl, rfl, (by rw [Str.length_append, Str.length_append]; show _ + 1 + _ + 1 ≤ _; omega), _, rfl, t, _, _, _, rfl, rfl, SqT.of (g12 _ _ et), rfl, _, rfl, b, _, _, _, rfl, rfl, SqL.of (g12 _ _ eb), at2, a2, b1, rfl, g12 _ _ (rNs.l k2), (bo b1 mb).up (by decide), fun H3 g3 => ⟨_, _, rfl, rfl, (by rw [Str.length_append, Str.length_append, Str.length_append]; show _ + 1 + _ + 1 + _ ≤ _; omega), ⟨some (.int (0 + (i : Int))), o3, ?_⟩, g12.trans g3⟩⟩
        have e : Txt.join blk ("full" :: z :: (List.zipWith pairT fs bs).take (i + 1)) = Txt.join blk ("full" :: z :: (List.zipWith pairT fs bs).take i) ++ blk ++ pairT f b1 := by
          rw [List.take_succ, show (List.zipWith pairT fs bs)[i]? = some (pairT f b1) by rw [List.getElem?_zipWith_eq_some]; exact ⟨f, b1, hf, hb, rfl⟩, ← List.cons_append, ← List.cons_append]
          exact join_snoc (by simp)
        rw [e, pairT_eq, ← Str.append_assoc, ← Str.append_assoc]
        rfl
      · rintro σ H1 ⟨⟨o2, o3, rfl⟩, g1⟩
        exact hN _ _ ⟨⟨_, _, by rw [List.take_of_length_le (by rw [List.length_zipWith]; omega)]; rfl⟩, g1⟩
    rintro σ H' ⟨⟨o2, o3, rfl⟩, g⟩
    exact ⟨_, rfl, q _ g⟩

set_option maxHeartbeats 4000000 in
theorem ok_law_alike_vf {dV : Value} (F : FunD K "_law_alike" "_law_alike" s_law_alike_vf dV f fd)  : FnOk P w K mg base CX0 1 f fd ["_law_found", "_law_due"] spNever := by
  have sc : FnScope ["_law_found", "_law_due", "_law_k"] ["_law_found", "_law_due"] (defScope s_law_alike_vf) := scK (by decide +kernel)
  exact ⟨fun _ _ _ _ h => h.elim, fun _ _ _ _ _ _ _ _ _ _ _ _ _ h => h.elim⟩

set_option maxHeartbeats 4000000 in
theorem ok_law_alike_v0 {dV : Value} (F : FunD K "_law_alike" "_law_alike" s_law_alike_v0 dV f fd) (D_law_alike_vf : Dx P w K mg base CX0 1 "_law_alike" ["_law_found", "_law_due"] [] spNever) : FnOk P w K mg base CX0 2 f fd ["_law_found", "_law_due"] (spAlS 0) := by
  have sc : FnScope ["_law_found", "_law_due", "_law_k"] ["_law_found", "_law_due"] (defScope s_law_alike_v0) := scK (by decide +kernel)
  refine F.ok sc (fun vs H Q E h => ?_) (fun cdv A outer s H vs Q E hr h => ?_)
  · obtain ⟨_, _, rfl, _⟩ := h
    rfl
  obtain ⟨x, y, rfl, al, q⟩ := h
  refine ⟨_, (pss_cons (ps_if (pt_val (pe_callB (call_isiT (K := K) rfl) rfl B.b_isinstance boot_isinstance (@pa_cons _ _ _ _ _ (pv 1) (@pa_cons _ _ _ _ _ (pe_bltn (v := .ty "str") rfl B.b_str boot_str rfl) pa_nil rfl) rfl))) (pss_one (ps_ret (pe_and (pe_callB (call_isiT (K := K) rfl) rfl B.b_isinstance boot_isinstance (@pa_cons _ _ _ _ _ (pv 0) (@pa_cons _ _ _ _ _ (pe_bltn (v := .ty "str") rfl B.b_str boot_str rfl) pa_nil rfl) rfl)) (pe_one (pe_cmpR op_eq (pv 0) (pv 1) (nomark _)))))) pss_nil) (pss_cons (ps_if (pt_val (pe_callB (call_isiT (K := K) rfl) rfl B.b_isinstance boot_isinstance (@pa_cons _ _ _ _ _ (pv 1) (@pa_cons _ _ _ _ _ (pe_bltn (v := .ty "int") rfl B.b_int boot_int rfl) pa_nil rfl) rfl))) (pss_one (ps_ret (pe_and (pe_callB (call_isiT (K := K) rfl) rfl B.b_isinstance boot_isinstance (@pa_cons _ _ _ _ _ (pv 0) (@pa_cons _ _ _ _ _ (pe_bltn (v := .ty "int") rfl B.b_int boot_int rfl) pa_nil rfl) rfl)) (pe_and (pe_not (pe_callB (call_isiT (K := K) rfl) rfl B.b_isinstance boot_isinstance (@pa_cons _ _ _ _ _ (pv 0) (@pa_cons _ _ _ _ _ (pe_bltn (v := .ty "bool") rfl B.b_bool boot_bool rfl) pa_nil rfl) rfl))) (pe_one (pe_cmpR op_eq (pv 0) (pv 1) (nomark _))))))) pss_nil) (pss_cons (ps_if (pt_val (pe_callB (call_isiT (K := K) rfl) rfl B.b_isinstance boot_isinstance (@pa_cons _ _ _ _ _ (pv 1) (@pa_cons _ _ _ _ _ (pe_bltn (v := .ty "tuple") rfl B.b_tuple boot_tuple rfl) pa_nil rfl) rfl))) (pss_one (ps_if (pt_not (pt_val (pe_callB (call_isiT (K := K) rfl) rfl B.b_isinstance boot_isinstance (@pa_cons _ _ _ _ _ (pv 0) (@pa_cons _ _ _ _ _ (pe_bltn (v := .ty "tuple") rfl B.b_tuple boot_tuple rfl) pa_nil rfl) rfl)))) (pss_one (ps_ret pe_bl)) pss_nil)) (pss_one (ps_if (pt_not (pt_val (pe_callB (call_isiT (K := K) rfl) rfl B.b_isinstance boot_isinstance (@pa_cons _ _ _ _ _ (pv 0) (@pa_cons _ _ _ _ _ (pe_bltn (v := .ty "list") rfl B.b_list boot_list rfl) pa_nil rfl) rfl)))) (pss_one (ps_ret pe_bl)) pss_nil))) (pss_cons (ps_if (pt_cmpR op_ne (pe_callB call_len_seq rfl B.b_len boot_len (@pa_cons _ _ _ _ _ (pv 0) pa_nil rfl)) (pe_callB call_len_seq rfl B.b_len boot_len (@pa_cons _ _ _ _ _ (pv 1) pa_nil rfl)) (nomark _)) (pss_one (ps_ret pe_bl)) pss_nil) (pss_cons (ps_for PassesOwn.never rfl (pi_range1 rfl B.b_range (@pa_cons _ _ _ _ _ (pe_callB call_len_seq rfl B.b_len boot_len (@pa_cons _ _ _ _ _ (pv 1) pa_nil rfl)) pa_nil rfl)) (pg_name (i := 2) sc.nd rfl (Or.inl rfl)) (pss_one (ps_if (pt_not (pt_val (pcall0 D_law_alike_vf hr (by decide) rfl (@pa_cons _ _ _ _ _ (pe_ix (ix_or ix_list ix_tup) (pv 0) (pv 2) (fun _ _ => rfl)) (@pa_cons _ _ _ _ _ (pe_ix (ix_or ix_list ix_tup) (pv 1) (pv 2) (fun _ _ => rfl)) pa_nil rfl) rfl)))) (pss_one (ps_ret pe_bl)) pss_nil))) (pss_one (ps_ret pe_bl))))))), ?_⟩
  try dsimp only [cxK]
  obtain ⟨rfl, hl⟩ := al
  · rcases hl with ⟨z, rfl⟩ | ⟨i, rfl⟩
    · refine ⟨_, rfl, _, _, _, true, rfl, .str _, rfl, _, rfl, iteT ?_⟩
      exact ⟨_, rfl, _, _, _, true, rfl, .str _, rfl, _, rfl, iteT ⟨_, rfl, _, rfl, rfl, dQt (Q := fun v => Q v _) q⟩⟩
    · refine ⟨_, rfl, _, _, _, false, rfl, .int _, rfl, _, rfl, iteF ?_⟩
      refine ⟨_, rfl, _, _, _, true, rfl, .int _, rfl, _, rfl, iteT ?_⟩
      exact ⟨_, rfl, _, _, _, true, rfl, .int _, rfl, _, rfl, iteT ⟨_, rfl, _, _, _, false, rfl, .int _, rfl, _, rfl, _, rfl, iteT ⟨_, rfl, _, rfl, rfl, dQt (Q := fun v => Q v _) q⟩⟩⟩

set_option maxHeartbeats 4000000 in
theorem ok_law_alike_v1 {dV : Value} (F : FunD K "_law_alike" "_law_alike" s_law_alike_v1 dV f fd) (D_law_alike_v0 : Dx P w K mg base CX0 2 "_law_alike" ["_law_found", "_law_due"] [] (spAlS 0)) : FnOk P w K mg base CX0 3 f fd ["_law_found", "_law_due"] (spAlS 1) := by
  have sc : FnScope ["_law_found", "_law_due", "_law_k"] ["_law_found", "_law_due"] (defScope s_law_alike_v1) := scK (by decide +kernel)
  refine F.ok sc (fun vs H Q E h => ?_) (fun cdv A outer s H vs Q E hr h => ?_)
  · obtain ⟨_, _, rfl, _⟩ := h
    rfl
  obtain ⟨x, y, rfl, al, q⟩ := h
  refine ⟨_, (pss_cons (ps_if (pt_val (pe_callB (call_isiT (K := K) rfl) rfl B.b_isinstance boot_isinstance (@pa_cons _ _ _ _ _ (pv 1) (@pa_cons _ _ _ _ _ (pe_bltn (v := .ty "str") rfl B.b_str boot_str rfl) pa_nil rfl) rfl))) (pss_one (ps_ret (pe_and (pe_callB (call_isiT (K := K) rfl) rfl B.b_isinstance boot_isinstance (@pa_cons _ _ _ _ _ (pv 0) (@pa_cons _ _ _ _ _ (pe_bltn (v := .ty "str") rfl B.b_str boot_str rfl) pa_nil rfl) rfl)) (pe_one (pe_cmpR op_eq (pv 0) (pv 1) (nomark _)))))) pss_nil) (pss_cons (ps_if (pt_val (pe_callB (call_isiT (K := K) rfl) rfl B.b_isinstance boot_isinstance (@pa_cons _ _ _ _ _ (pv 1) (@pa_cons _ _ _ _ _ (pe_bltn (v := .ty "int") rfl B.b_int boot_int rfl) pa_nil rfl) rfl))) (pss_one (ps_ret (pe_and (pe_callB (call_isiT (K := K) rfl) rfl B.b_isinstance boot_isinstance (@pa_cons _ _ _ _ _ (pv 0) (@pa_cons _ _ _ _ _ (pe_bltn (v := .ty "int") rfl B.b_int boot_int rfl) pa_nil rfl) rfl)) (pe_and (pe_not (pe_callB (call_isiT (K := K) rfl) rfl B.b_isinstance boot_isinstance (@pa_cons _ _ _ _ _ (pv 0) (@pa_cons _ _ _ _ _ (pe_bltn (v := .ty "bool") rfl B.b_bool boot_bool rfl) pa_nil rfl) rfl))) (pe_one (pe_cmpR op_eq (pv 0) (pv 1) (nomark _))))))) pss_nil) (pss_cons (ps_if (pt_val (pe_callB (call_isiT (K := K) rfl) rfl B.b_isinstance boot_isinstance (@pa_cons _ _ _ _ _ (pv 1) (@pa_cons _ _ _ _ _ (pe_bltn (v := .ty "tuple") rfl B.b_tuple boot_tuple rfl) pa_nil rfl) rfl))) (pss_one (ps_if (pt_not (pt_val (pe_callB (call_isiT (K := K) rfl) rfl B.b_isinstance boot_isinstance (@pa_cons _ _ _ _ _ (pv 0) (@pa_cons _ _ _ _ _ (pe_bltn (v := .ty "tuple") rfl B.b_tuple boot_tuple rfl) pa_nil rfl) rfl)))) (pss_one (ps_ret pe_bl)) pss_nil)) (pss_one (ps_if (pt_not (pt_val (pe_callB (call_isiT (K := K) rfl) rfl B.b_isinstance boot_isinstance (@pa_cons _ _ _ _ _ (pv 0) (@pa_cons _ _ _ _ _ (pe_bltn (v := .ty "list") rfl B.b_list boot_list rfl) pa_nil rfl) rfl)))) (pss_one (ps_ret pe_bl)) pss_nil))) (pss_cons (ps_if (pt_cmpR op_ne (pe_callB call_len_seq rfl B.b_len boot_len (@pa_cons _ _ _ _ _ (pv 0) pa_nil rfl)) (pe_callB call_len_seq rfl B.b_len boot_len (@pa_cons _ _ _ _ _ (pv 1) pa_nil rfl)) (nomark _)) (pss_one (ps_ret pe_bl)) pss_nil) (pss_cons (ps_for PassesOwn.never rfl (pi_range1 rfl B.b_range (@pa_cons _ _ _ _ _ (pe_callB call_len_seq rfl B.b_len boot_len (@pa_cons _ _ _ _ _ (pv 1) pa_nil rfl)) pa_nil rfl)) (pg_name (i := 2) sc.nd rfl (Or.inl rfl)) (pss_one (ps_if (pt_not (pt_val (pcall0 D_law_alike_v0 hr (by decide) rfl (@pa_cons _ _ _ _ _ (pe_ix (ix_or ix_list ix_tup) (pv 0) (pv 2) (fun _ _ => rfl)) (@pa_cons _ _ _ _ _ (pe_ix (ix_or ix_list ix_tup) (pv 1) (pv 2) (fun _ _ => rfl)) pa_nil rfl) rfl)))) (pss_one (ps_ret pe_bl)) pss_nil))) (pss_one (ps_ret pe_bl))))))), ?_⟩
  try dsimp only [cxK]
  have s4 : (5000 : Nat) ≤ sizeLine := by decide
  rcases al with ⟨rfl, hl⟩ | ⟨a, b, xs, ys, rfl, rfl, ⟨e1, e2⟩ | ⟨e1, e2⟩, len, lx, each⟩
  · rcases hl with ⟨z, rfl⟩ | ⟨i, rfl⟩
    · refine ⟨_, rfl, _, _, _, true, rfl, .str _, rfl, _, rfl, iteT ?_⟩
      exact ⟨_, rfl, _, _, _, true, rfl, .str _, rfl, _, rfl, iteT ⟨_, rfl, _, rfl, rfl, dQt (Q := fun v => Q v _) q⟩⟩
    · refine ⟨_, rfl, _, _, _, false, rfl, .int _, rfl, _, rfl, iteF ?_⟩
      refine ⟨_, rfl, _, _, _, true, rfl, .int _, rfl, _, rfl, iteT ?_⟩
      exact ⟨_, rfl, _, _, _, true, rfl, .int _, rfl, _, rfl, iteT ⟨_, rfl, _, _, _, false, rfl, .int _, rfl, _, rfl, _, rfl, iteT ⟨_, rfl, _, rfl, rfl, dQt (Q := fun v => Q v _) q⟩⟩⟩
  · refine ⟨_, rfl, _, _, _, false, rfl, .lst e2, rfl, _, rfl, iteF ?_⟩
    refine ⟨_, rfl, _, _, _, false, rfl, .lst e2, rfl, _, rfl, iteF ?_⟩
    try dsimp only [gName, tNext]
    refine cut (fun σ H' => H = H' ∧ σ = [some (.ref a), some (.ref b), none]) (fun N hN => ?_) ?_
    · exact ⟨_, rfl, _, _, _, false, rfl, .lst e2, rfl, _, rfl, iteF ⟨_, rfl, _, _, _, true, rfl, .lst e1, rfl, _, rfl, iteF (hN _ _ ⟨rfl, rfl⟩)⟩⟩
    rintro σ _ ⟨rfl, rfl⟩
    refine ⟨_, rfl, a, _, rfl, .inl (SqL.of e1), _, rfl, b, _, rfl, .inl (SqL.of e2), rfl, _, rfl, nF (congrArg (fun n : Nat => V.int (n : Int)) len) ?_⟩
    refine ⟨_, rfl, b, _, rfl, .inl (SqL.of e2), _, rfl, (by omega), (by omega), for_range (fun i σ H' => H = H' ∧ ∃ o2 : Option V, σ = [some (.ref a), some (.ref b), o2]) ⟨rfl, none, rfl⟩ (fun i σ H' hi hP => ?_) (fun σ H' hP => ?_)⟩
    · obtain ⟨rfl, o2, rfl⟩ := hP
      have iy : i < ys.length := by omega
      have ixx : i < xs.length := by omega
      have a1 : atI xs (0 + (i : Int)) = some xs[i] := by
        rw [Int.zero_add]
        exact atI_nat (List.getElem?_eq_getElem ixx)
      have a2 : atI ys (0 + (i : Int)) = some ys[i] := by
        rw [Int.zero_add]
        exact atI_nat (List.getElem?_eq_getElem iy)
      exact ⟨_, rfl, _, rfl, .inl ⟨a, _, _, _, rfl, rfl, SqL.of e1, a1, _, rfl, _, rfl, .inl ⟨b, _, _, _, rfl, rfl, SqL.of e2, a2, _, _, rfl, each i _ _ (List.getElem?_eq_getElem ixx) (List.getElem?_eq_getElem iy), _, rfl, iteF ⟨rfl, _, rfl⟩⟩⟩⟩
    · obtain ⟨rfl, o2, rfl⟩ := hP
      exact q
  · refine ⟨_, rfl, _, _, _, false, rfl, .tup e2, rfl, _, rfl, iteF ?_⟩
    refine ⟨_, rfl, _, _, _, false, rfl, .tup e2, rfl, _, rfl, iteF ?_⟩
    try dsimp only [gName, tNext]
    refine cut (fun σ H' => H = H' ∧ σ = [some (.ref a), some (.ref b), none]) (fun N hN => ?_) ?_
    · exact ⟨_, rfl, _, _, _, true, rfl, .tup e2, rfl, _, rfl, iteT ⟨_, rfl, _, _, _, true, rfl, .tup e1, rfl, _, rfl, iteF (hN _ _ ⟨rfl, rfl⟩)⟩⟩
    rintro σ _ ⟨rfl, rfl⟩
    refine ⟨_, rfl, a, _, rfl, .inr (SqT.of e1), _, rfl, b, _, rfl, .inr (SqT.of e2), rfl, _, rfl, nF (congrArg (fun n : Nat => V.int (n : Int)) len) ?_⟩
    refine ⟨_, rfl, b, _, rfl, .inr (SqT.of e2), _, rfl, (by omega), (by omega), for_range (fun i σ H' => H = H' ∧ ∃ o2 : Option V, σ = [some (.ref a), some (.ref b), o2]) ⟨rfl, none, rfl⟩ (fun i σ H' hi hP => ?_) (fun σ H' hP => ?_)⟩
    · obtain ⟨rfl, o2, rfl⟩ := hP
      have iy : i < ys.length := by omega
      have ixx : i < xs.length := by omega
      have a1 : atI xs (0 + (i : Int)) = some xs[i] := by
        rw [Int.zero_add]
        exact atI_nat (List.getElem?_eq_getElem ixx)
      have a2 : atI ys (0 + (i : Int)) = some ys[i] := by
        rw [Int.zero_add]
        exact atI_nat (List.getElem?_eq_getElem iy)
      exact ⟨_, rfl, _, rfl, .inr ⟨a, _, _, _, rfl, rfl, SqT.of e1, a1, _, rfl, _, rfl, .inr ⟨b, _, _, _, rfl, rfl, SqT.of e2, a2, _, _, rfl, each i _ _ (List.getElem?_eq_getElem ixx) (List.getElem?_eq_getElem iy), _, rfl, iteF ⟨rfl, _, rfl⟩⟩⟩⟩
    · obtain ⟨rfl, o2, rfl⟩ := hP
      exact q

set_option maxHeartbeats 4000000 in
theorem ok_law_alike_v2 {dV : Value} (F : FunD K "_law_alike" "_law_alike" s_law_alike_v2 dV f fd) (D_law_alike_v1 : Dx P w K mg base CX0 3 "_law_alike" ["_law_found", "_law_due"] [] (spAlS 1)) : FnOk P w K mg base CX0 4 f fd ["_law_found", "_law_due"] (spAlS 2) := by
  have sc : FnScope ["_law_found", "_law_due", "_law_k"] ["_law_found", "_law_due"] (defScope s_law_alike_v2) := scK (by decide +kernel)
  refine F.ok sc (fun vs H Q E h => ?_) (fun cdv A outer s H vs Q E hr h => ?_)
  · obtain ⟨_, _, rfl, _⟩ := h
    rfl
  obtain ⟨x, y, rfl, al, q⟩ := h
  refine ⟨_, (pss_cons (ps_if (pt_val (pe_callB (call_isiT (K := K) rfl) rfl B.b_isinstance boot_isinstance (@pa_cons _ _ _ _ _ (pv 1) (@pa_cons _ _ _ _ _ (pe_bltn (v := .ty "str") rfl B.b_str boot_str rfl) pa_nil rfl) rfl))) (pss_one (ps_ret (pe_and (pe_callB (call_isiT (K := K) rfl) rfl B.b_isinstance boot_isinstance (@pa_cons _ _ _ _ _ (pv 0) (@pa_cons _ _ _ _ _ (pe_bltn (v := .ty "str") rfl B.b_str boot_str rfl) pa_nil rfl) rfl)) (pe_one (pe_cmpR op_eq (pv 0) (pv 1) (nomark _)))))) pss_nil) (pss_cons (ps_if (pt_val (pe_callB (call_isiT (K := K) rfl) rfl B.b_isinstance boot_isinstance (@pa_cons _ _ _ _ _ (pv 1) (@pa_cons _ _ _ _ _ (pe_bltn (v := .ty "int") rfl B.b_int boot_int rfl) pa_nil rfl) rfl))) (pss_one (ps_ret (pe_and (pe_callB (call_isiT (K := K) rfl) rfl B.b_isinstance boot_isinstance (@pa_cons _ _ _ _ _ (pv 0) (@pa_cons _ _ _ _ _ (pe_bltn (v := .ty "int") rfl B.b_int boot_int rfl) pa_nil rfl) rfl)) (pe_and (pe_not (pe_callB (call_isiT (K := K) rfl) rfl B.b_isinstance boot_isinstance (@pa_cons _ _ _ _ _ (pv 0) (@pa_cons _ _ _ _ _ (pe_bltn (v := .ty "bool") rfl B.b_bool boot_bool rfl) pa_nil rfl) rfl))) (pe_one (pe_cmpR op_eq (pv 0) (pv 1) (nomark _))))))) pss_nil) (pss_cons (ps_if (pt_val (pe_callB (call_isiT (K := K) rfl) rfl B.b_isinstance boot_isinstance (@pa_cons _ _ _ _ _ (pv 1) (@pa_cons _ _ _ _ _ (pe_bltn (v := .ty "tuple") rfl B.b_tuple boot_tuple rfl) pa_nil rfl) rfl))) (pss_one (ps_if (pt_not (pt_val (pe_callB (call_isiT (K := K) rfl) rfl B.b_isinstance boot_isinstance (@pa_cons _ _ _ _ _ (pv 0) (@pa_cons _ _ _ _ _ (pe_bltn (v := .ty "tuple") rfl B.b_tuple boot_tuple rfl) pa_nil rfl) rfl)))) (pss_one (ps_ret pe_bl)) pss_nil)) (pss_one (ps_if (pt_not (pt_val (pe_callB (call_isiT (K := K) rfl) rfl B.b_isinstance boot_isinstance (@pa_cons _ _ _ _ _ (pv 0) (@pa_cons _ _ _ _ _ (pe_bltn (v := .ty "list") rfl B.b_list boot_list rfl) pa_nil rfl) rfl)))) (pss_one (ps_ret pe_bl)) pss_nil))) (pss_cons (ps_if (pt_cmpR op_ne (pe_callB call_len_seq rfl B.b_len boot_len (@pa_cons _ _ _ _ _ (pv 0) pa_nil rfl)) (pe_callB call_len_seq rfl B.b_len boot_len (@pa_cons _ _ _ _ _ (pv 1) pa_nil rfl)) (nomark _)) (pss_one (ps_ret pe_bl)) pss_nil) (pss_cons (ps_for PassesOwn.never rfl (pi_range1 rfl B.b_range (@pa_cons _ _ _ _ _ (pe_callB call_len_seq rfl B.b_len boot_len (@pa_cons _ _ _ _ _ (pv 1) pa_nil rfl)) pa_nil rfl)) (pg_name (i := 2) sc.nd rfl (Or.inl rfl)) (pss_one (ps_if (pt_not (pt_val (pcall0 D_law_alike_v1 hr (by decide) rfl (@pa_cons _ _ _ _ _ (pe_ix (ix_or ix_list ix_tup) (pv 0) (pv 2) (fun _ _ => rfl)) (@pa_cons _ _ _ _ _ (pe_ix (ix_or ix_list ix_tup) (pv 1) (pv 2) (fun _ _ => rfl)) pa_nil rfl) rfl)))) (pss_one (ps_ret pe_bl)) pss_nil))) (pss_one (ps_ret pe_bl))))))), ?_⟩
  try dsimp only [cxK]
  have s4 : (5000 : Nat) ≤ sizeLine := by decide
  rcases al with ⟨rfl, hl⟩ | ⟨a, b, xs, ys, rfl, rfl, ⟨e1, e2⟩ | ⟨e1, e2⟩, len, lx, each⟩
  · rcases hl with ⟨z, rfl⟩ | ⟨i, rfl⟩
    · refine ⟨_, rfl, _, _, _, true, rfl, .str _, rfl, _, rfl, iteT ?_⟩
      exact ⟨_, rfl, _, _, _, true, rfl, .str _, rfl, _, rfl, iteT ⟨_, rfl, _, rfl, rfl, dQt (Q := fun v => Q v _) q⟩⟩
    · refine ⟨_, rfl, _, _, _, false, rfl, .int _, rfl, _, rfl, iteF ?_⟩
      refine ⟨_, rfl, _, _, _, true, rfl, .int _, rfl, _, rfl, iteT ?_⟩
      exact ⟨_, rfl, _, _, _, true, rfl, .int _, rfl, _, rfl, iteT ⟨_, rfl, _, _, _, false, rfl, .int _, rfl, _, rfl, _, rfl, iteT ⟨_, rfl, _, rfl, rfl, dQt (Q := fun v => Q v _) q⟩⟩⟩
  · refine ⟨_, rfl, _, _, _, false, rfl, .lst e2, rfl, _, rfl, iteF ?_⟩
    refine ⟨_, rfl, _, _, _, false, rfl, .lst e2, rfl, _, rfl, iteF ?_⟩
    try dsimp only [gName, tNext]
    refine cut (fun σ H' => H = H' ∧ σ = [some (.ref a), some (.ref b), none]) (fun N hN => ?_) ?_
    · exact ⟨_, rfl, _, _, _, false, rfl, .lst e2, rfl, _, rfl, iteF ⟨_, rfl, _, _, _, true, rfl, .lst e1, rfl, _, rfl, iteF (hN _ _ ⟨rfl, rfl⟩)⟩⟩
    rintro σ _ ⟨rfl, rfl⟩
    refine ⟨_, rfl, a, _, rfl, .inl (SqL.of e1), _, rfl, b, _, rfl, .inl (SqL.of e2), rfl, _, rfl, nF (congrArg (fun n : Nat => V.int (n : Int)) len) ?_⟩
    refine ⟨_, rfl, b, _, rfl, .inl (SqL.of e2), _, rfl, (by omega), (by omega), for_range (fun i σ H' => H = H' ∧ ∃ o2 : Option V, σ = [some (.ref a), some (.ref b), o2]) ⟨rfl, none, rfl⟩ (fun i σ H' hi hP => ?_) (fun σ H' hP => ?_)⟩
    · obtain ⟨rfl, o2, rfl⟩ := hP
      have iy : i < ys.length := by omega
      have ixx : i < xs.length := by omega
      have a1 : atI xs (0 + (i : Int)) = some xs[i] := by
        rw [Int.zero_add]
        exact atI_nat (List.getElem?_eq_getElem ixx)
      have a2 : atI ys (0 + (i : Int)) = some ys[i] := by
        rw [Int.zero_add]
        exact atI_nat (List.getElem?_eq_getElem iy)
      exact ⟨_, rfl, _, rfl, .inl ⟨a, _, _, _, rfl, rfl, SqL.of e1, a1, _, rfl, _, rfl, .inl ⟨b, _, _, _, rfl, rfl, SqL.of e2, a2, _, _, rfl, each i _ _ (List.getElem?_eq_getElem ixx) (List.getElem?_eq_getElem iy), _, rfl, iteF ⟨rfl, _, rfl⟩⟩⟩⟩
    · obtain ⟨rfl, o2, rfl⟩ := hP
      exact q
  · refine ⟨_, rfl, _, _, _, false, rfl, .tup e2, rfl, _, rfl, iteF ?_⟩
    refine ⟨_, rfl, _, _, _, false, rfl, .tup e2, rfl, _, rfl, iteF ?_⟩
    try dsimp only [gName, tNext]
    refine cut (fun σ H' => H = H' ∧ σ = [some (.ref a), some (.ref b), none]) (fun N hN => ?_) ?_
    · exact ⟨_, rfl, _, _, _, true, rfl, .tup e2, rfl, _, rfl, iteT ⟨_, rfl, _, _, _, true, rfl, .tup e1, rfl, _, rfl, iteF (hN _ _ ⟨rfl, rfl⟩)⟩⟩
    rintro σ _ ⟨rfl, rfl⟩
    refine ⟨_, rfl, a, _, rfl, .inr (SqT.of e1), _, rfl, b, _, rfl, .inr (SqT.of e2), rfl, _, rfl, nF (congrArg (fun n : Nat => V.int (n : Int)) len) ?_⟩
    refine ⟨_, rfl, b, _, rfl, .inr (SqT.of e2), _, rfl, (by omega), (by omega), for_range (fun i σ H' => H = H' ∧ ∃ o2 : Option V, σ = [some (.ref a), some (.ref b), o2]) ⟨rfl, none, rfl⟩ (fun i σ H' hi hP => ?_) (fun σ H' hP => ?_)⟩
    · obtain ⟨rfl, o2, rfl⟩ := hP
      have iy : i < ys.length := by omega
      have ixx : i < xs.length := by omega
      have a1 : atI xs (0 + (i : Int)) = some xs[i] := by
        rw [Int.zero_add]
        exact atI_nat (List.getElem?_eq_getElem ixx)
      have a2 : atI ys (0 + (i : Int)) = some ys[i] := by
        rw [Int.zero_add]
        exact atI_nat (List.getElem?_eq_getElem iy)
      exact ⟨_, rfl, _, rfl, .inr ⟨a, _, _, _, rfl, rfl, SqT.of e1, a1, _, rfl, _, rfl, .inr ⟨b, _, _, _, rfl, rfl, SqT.of e2, a2, _, _, rfl, each i _ _ (List.getElem?_eq_getElem ixx) (List.getElem?_eq_getElem iy), _, rfl, iteF ⟨rfl, _, rfl⟩⟩⟩⟩
    · obtain ⟨rfl, o2, rfl⟩ := hP
      exact q

set_option maxHeartbeats 4000000 in
theorem ok_law_alike_v3 {dV : Value} (F : FunD K "_law_alike" "_law_alike" s_law_alike_v3 dV f fd) (D_law_alike_v2 : Dx P w K mg base CX0 4 "_law_alike" ["_law_found", "_law_due"] [] (spAlS 2)) : FnOk P w K mg base CX0 5 f fd ["_law_found", "_law_due"] (spAlS 3) := by
  have sc : FnScope ["_law_found", "_law_due", "_law_k"] ["_law_found", "_law_due"] (defScope s_law_alike_v3) := scK (by decide +kernel)
  refine F.ok sc (fun vs H Q E h => ?_) (fun cdv A outer s H vs Q E hr h => ?_)
  · obtain ⟨_, _, rfl, _⟩ := h
    rfl
  obtain ⟨x, y, rfl, al, q⟩ := h
  refine ⟨_, (pss_cons (ps_if (pt_val (pe_callB (call_isiT (K := K) rfl) rfl B.b_isinstance boot_isinstance (@pa_cons _ _ _ _ _ (pv 1) (@pa_cons _ _ _ _ _ (pe_bltn (v := .ty "str") rfl B.b_str boot_str rfl) pa_nil rfl) rfl))) (pss_one (ps_ret (pe_and (pe_callB (call_isiT (K := K) rfl) rfl B.b_isinstance boot_isinstance (@pa_cons _ _ _ _ _ (pv 0) (@pa_cons _ _ _ _ _ (pe_bltn (v := .ty "str") rfl B.b_str boot_str rfl) pa_nil rfl) rfl)) (pe_one (pe_cmpR op_eq (pv 0) (pv 1) (nomark _)))))) pss_nil) (pss_cons (ps_if (pt_val (pe_callB (call_isiT (K := K) rfl) rfl B.b_isinstance boot_isinstance (@pa_cons _ _ _ _ _ (pv 1) (@pa_cons _ _ _ _ _ (pe_bltn (v := .ty "int") rfl B.b_int boot_int rfl) pa_nil rfl) rfl))) (pss_one (ps_ret (pe_and (pe_callB (call_isiT (K := K) rfl) rfl B.b_isinstance boot_isinstance (@pa_cons _ _ _ _ _ (pv 0) (@pa_cons _ _ _ _ _ (pe_bltn (v := .ty "int") rfl B.b_int boot_int rfl) pa_nil rfl) rfl)) (pe_and (pe_not (pe_callB (call_isiT (K := K) rfl) rfl B.b_isinstance boot_isinstance (@pa_cons _ _ _ _ _ (pv 0) (@pa_cons _ _ _ _ _ (pe_bltn (v := .ty "bool") rfl B.b_bool boot_bool rfl) pa_nil rfl) rfl))) (pe_one (pe_cmpR op_eq (pv 0) (pv 1) (nomark _))))))) pss_nil) (pss_cons (ps_if (pt_val (pe_callB (call_isiT (K := K) rfl) rfl B.b_isinstance boot_isinstance (@pa_cons _ _ _ _ _ (pv 1) (@pa_cons _ _ _ _ _ (pe_bltn (v := .ty "tuple") rfl B.b_tuple boot_tuple rfl) pa_nil rfl) rfl))) (pss_one (ps_if (pt_not (pt_val (pe_callB (call_isiT (K := K) rfl) rfl B.b_isinstance boot_isinstance (@pa_cons _ _ _ _ _ (pv 0) (@pa_cons _ _ _ _ _ (pe_bltn (v := .ty "tuple") rfl B.b_tuple boot_tuple rfl) pa_nil rfl) rfl)))) (pss_one (ps_ret pe_bl)) pss_nil)) (pss_one (ps_if (pt_not (pt_val (pe_callB (call_isiT (K := K) rfl) rfl B.b_isinstance boot_isinstance (@pa_cons _ _ _ _ _ (pv 0) (@pa_cons _ _ _ _ _ (pe_bltn (v := .ty "list") rfl B.b_list boot_list rfl) pa_nil rfl) rfl)))) (pss_one (ps_ret pe_bl)) pss_nil))) (pss_cons (ps_if (pt_cmpR op_ne (pe_callB call_len_seq rfl B.b_len boot_len (@pa_cons _ _ _ _ _ (pv 0) pa_nil rfl)) (pe_callB call_len_seq rfl B.b_len boot_len (@pa_cons _ _ _ _ _ (pv 1) pa_nil rfl)) (nomark _)) (pss_one (ps_ret pe_bl)) pss_nil) (pss_cons (ps_for PassesOwn.never rfl (pi_range1 rfl B.b_range (@pa_cons _ _ _ _ _ (pe_callB call_len_seq rfl B.b_len boot_len (@pa_cons _ _ _ _ _ (pv 1) pa_nil rfl)) pa_nil rfl)) (pg_name (i := 2) sc.nd rfl (Or.inl rfl)) (pss_one (ps_if (pt_not (pt_val (pcall0 D_law_alike_v2 hr (by decide) rfl (@pa_cons _ _ _ _ _ (pe_ix (ix_or ix_list ix_tup) (pv 0) (pv 2) (fun _ _ => rfl)) (@pa_cons _ _ _ _ _ (pe_ix (ix_or ix_list ix_tup) (pv 1) (pv 2) (fun _ _ => rfl)) pa_nil rfl) rfl)))) (pss_one (ps_ret pe_bl)) pss_nil))) (pss_one (ps_ret pe_bl))))))), ?_⟩
  try dsimp only [cxK]
  have s4 : (5000 : Nat) ≤ sizeLine := by decide
  rcases al with ⟨rfl, hl⟩ | ⟨a, b, xs, ys, rfl, rfl, ⟨e1, e2⟩ | ⟨e1, e2⟩, len, lx, each⟩
  · rcases hl with ⟨z, rfl⟩ | ⟨i, rfl⟩
    · refine ⟨_, rfl, _, _, _, true, rfl, .str _, rfl, _, rfl, iteT ?_⟩
      exact ⟨_, rfl, _, _, _, true, rfl, .str _, rfl, _, rfl, iteT ⟨_, rfl, _, rfl, rfl, dQt (Q := fun v => Q v _) q⟩⟩
    · refine ⟨_, rfl, _, _, _, false, rfl, .int _, rfl, _, rfl, iteF ?_⟩
      refine ⟨_, rfl, _, _, _, true, rfl, .int _, rfl, _, rfl, iteT ?_⟩
      exact ⟨_, rfl, _, _, _, true, rfl, .int _, rfl, _, rfl, iteT ⟨_, rfl, _, _, _, false, rfl, .int _, rfl, _, rfl, _, rfl, iteT ⟨_, rfl, _, rfl, rfl, dQt (Q := fun v => Q v _) q⟩⟩⟩
  · refine ⟨_, rfl, _, _, _, false, rfl, .lst e2, rfl, _, rfl, iteF ?_⟩
    refine ⟨_, rfl, _, _, _, false, rfl, .lst e2, rfl, _, rfl, iteF ?_⟩
    try dsimp only [gName, tNext]
    refine cut (fun σ H' => H = H' ∧ σ = [some (.ref a), some (.ref b), none]) (fun N hN => ?_) ?_
    · exact ⟨_, rfl, _, _, _, false, rfl, .lst e2, rfl, _, rfl, iteF ⟨_, rfl, _, _, _, true, rfl, .lst e1, rfl, _, rfl, iteF (hN _ _ ⟨rfl, rfl⟩)⟩⟩
    rintro σ _ ⟨rfl, rfl⟩
    refine ⟨_, rfl, a, _, rfl, .inl (SqL.of e1), _, rfl, b, _, rfl, .inl (SqL.of e2), rfl, _, rfl, nF (congrArg (fun n : Nat => V.int (n : Int)) len) ?_⟩
    refine ⟨_, rfl, b, _, rfl, .inl (SqL.of e2), _, rfl, (by omega), (by omega), for_range (fun i σ H' => H = H' ∧ ∃ o2 : Option V, σ = [some (.ref a), some (.ref b), o2]) ⟨rfl, none, rfl⟩ (fun i σ H' hi hP => ?_) (fun σ H' hP => ?_)⟩
    · obtain ⟨rfl, o2, rfl⟩ := hP
      have iy : i < ys.length := by omega
      have ixx : i < xs.length := by omega
      have a1 : atI xs (0 + (i : Int)) = some xs[i] := by
        rw [Int.zero_add]
        exact atI_nat (List.getElem?_eq_getElem ixx)
      have a2 : atI ys (0 + (i : Int)) = some ys[i] := by
        rw [Int.zero_add]
        exact atI_nat (List.getElem?_eq_getElem iy)
      exact ⟨_, rfl, _, rfl, .inl ⟨a, _, _, _, rfl, rfl, SqL.of e1, a1, _, rfl, _, rfl, .inl ⟨b, _, _, _, rfl, rfl, SqL.of e2, a2, _, _, rfl, each i _ _ (List.getElem?_eq_getElem ixx) (List.getElem?_eq_getElem iy), _, rfl, iteF ⟨rfl, _, rfl⟩⟩⟩⟩
    · obtain ⟨rfl, o2, rfl⟩ := hP
      exact q
  · refine ⟨_, rfl, _, _, _, false, rfl, .tup e2, rfl, _, rfl, iteF ?_⟩
    refine ⟨_, rfl, _, _, _, false, rfl, .tup e2, rfl, _, rfl, iteF ?_⟩
    try dsimp only [gName, tNext]
    refine cut (fun σ H' => H = H' ∧ σ = [some (.ref a), some (.ref b), none]) (fun N hN => ?_) ?_
    · exact ⟨_, rfl, _, _, _, true, rfl, .tup e2, rfl, _, rfl, iteT ⟨_, rfl, _, _, _, true, rfl, .tup e1, rfl, _, rfl, iteF (hN _ _ ⟨rfl, rfl⟩)⟩⟩
    rintro σ _ ⟨rfl, rfl⟩
    refine ⟨_, rfl, a, _, rfl, .inr (SqT.of e1), _, rfl, b, _, rfl, .inr (SqT.of e2), rfl, _, rfl, nF (congrArg (fun n : Nat => V.int (n : Int)) len) ?_⟩
    refine ⟨_, rfl, b, _, rfl, .inr (SqT.of e2), _, rfl, (by omega), (by omega), for_range (fun i σ H' => H = H' ∧ ∃ o2 : Option V, σ = [some (.ref a), some (.ref b), o2]) ⟨rfl, none, rfl⟩ (fun i σ H' hi hP => ?_) (fun σ H' hP => ?_)⟩
    · obtain ⟨rfl, o2, rfl⟩ := hP
      have iy : i < ys.length := by omega
      have ixx : i < xs.length := by omega
      have a1 : atI xs (0 + (i : Int)) = some xs[i] := by
        rw [Int.zero_add]
        exact atI_nat (List.getElem?_eq_getElem ixx)
      have a2 : atI ys (0 + (i : Int)) = some ys[i] := by
        rw [Int.zero_add]
        exact atI_nat (List.getElem?_eq_getElem iy)
      exact ⟨_, rfl, _, rfl, .inr ⟨a, _, _, _, rfl, rfl, SqT.of e1, a1, _, rfl, _, rfl, .inr ⟨b, _, _, _, rfl, rfl, SqT.of e2, a2, _, _, rfl, each i _ _ (List.getElem?_eq_getElem ixx) (List.getElem?_eq_getElem iy), _, rfl, iteF ⟨rfl, _, rfl⟩⟩⟩⟩
    · obtain ⟨rfl, o2, rfl⟩ := hP
      exact q

set_option maxHeartbeats 4000000 in
theorem ok_law_alike {dV : Value} (F : FunD K "_law_alike" "_law_alike" s_law_alike dV f fd) (D_law_alike_v3 : Dx P w K mg base CX0 5 "_law_alike" ["_law_found", "_law_due"] [] (spAlS 3)) : FnOk P w K mg base CX0 6 f fd ["_law_found", "_law_due"] (spAlS 4) := by
  have sc : FnScope ["_law_found", "_law_due", "_law_k"] ["_law_found", "_law_due"] (defScope s_law_alike) := scK (by decide +kernel)
  refine F.ok sc (fun vs H Q E h => ?_) (fun cdv A outer s H vs Q E hr h => ?_)
  · obtain ⟨_, _, rfl, _⟩ := h
    rfl
  obtain ⟨x, y, rfl, al, q⟩ := h
  refine ⟨_, (pss_cons (ps_if (pt_val (pe_callB (call_isiT (K := K) rfl) rfl B.b_isinstance boot_isinstance (@pa_cons _ _ _ _ _ (pv 1) (@pa_cons _ _ _ _ _ (pe_bltn (v := .ty "str") rfl B.b_str boot_str rfl) pa_nil rfl) rfl))) (pss_one (ps_ret (pe_and (pe_callB (call_isiT (K := K) rfl) rfl B.b_isinstance boot_isinstance (@pa_cons _ _ _ _ _ (pv 0) (@pa_cons _ _ _ _ _ (pe_bltn (v := .ty "str") rfl B.b_str boot_str rfl) pa_nil rfl) rfl)) (pe_one (pe_cmpR op_eq (pv 0) (pv 1) (nomark _)))))) pss_nil) (pss_cons (ps_if (pt_val (pe_callB (call_isiT (K := K) rfl) rfl B.b_isinstance boot_isinstance (@pa_cons _ _ _ _ _ (pv 1) (@pa_cons _ _ _ _ _ (pe_bltn (v := .ty "int") rfl B.b_int boot_int rfl) pa_nil rfl) rfl))) (pss_one (ps_ret (pe_and (pe_callB (call_isiT (K := K) rfl) rfl B.b_isinstance boot_isinstance (@pa_cons _ _ _ _ _ (pv 0) (@pa_cons _ _ _ _ _ (pe_bltn (v := .ty "int") rfl B.b_int boot_int rfl) pa_nil rfl) rfl)) (pe_and (pe_not (pe_callB (call_isiT (K := K) rfl) rfl B.b_isinstance boot_isinstance (@pa_cons _ _ _ _ _ (pv 0) (@pa_cons _ _ _ _ _ (pe_bltn (v := .ty "bool") rfl B.b_bool boot_bool rfl) pa_nil rfl) rfl))) (pe_one (pe_cmpR op_eq (pv 0) (pv 1) (nomark _))))))) pss_nil) (pss_cons (ps_if (pt_val (pe_callB (call_isiT (K := K) rfl) rfl B.b_isinstance boot_isinstance (@pa_cons _ _ _ _ _ (pv 1) (@pa_cons _ _ _ _ _ (pe_bltn (v := .ty "tuple") rfl B.b_tuple boot_tuple rfl) pa_nil rfl) rfl))) (pss_one (ps_if (pt_not (pt_val (pe_callB (call_isiT (K := K) rfl) rfl B.b_isinstance boot_isinstance (@pa_cons _ _ _ _ _ (pv 0) (@pa_cons _ _ _ _ _ (pe_bltn (v := .ty "tuple") rfl B.b_tuple boot_tuple rfl) pa_nil rfl) rfl)))) (pss_one (ps_ret pe_bl)) pss_nil)) (pss_one (ps_if (pt_not (pt_val (pe_callB (call_isiT (K := K) rfl) rfl B.b_isinstance boot_isinstance (@pa_cons _ _ _ _ _ (pv 0) (@pa_cons _ _ _ _ _ (pe_bltn (v := .ty "list") rfl B.b_list boot_list rfl) pa_nil rfl) rfl)))) (pss_one (ps_ret pe_bl)) pss_nil))) (pss_cons (ps_if (pt_cmpR op_ne (pe_callB call_len_seq rfl B.b_len boot_len (@pa_cons _ _ _ _ _ (pv 0) pa_nil rfl)) (pe_callB call_len_seq rfl B.b_len boot_len (@pa_cons _ _ _ _ _ (pv 1) pa_nil rfl)) (nomark _)) (pss_one (ps_ret pe_bl)) pss_nil) (pss_cons (ps_for PassesOwn.never rfl (pi_range1 rfl B.b_range (@pa_cons _ _ _ _ _ (pe_callB call_len_seq rfl B.b_len boot_len (@pa_cons _ _ _ _ _ (pv 1) pa_nil rfl)) pa_nil rfl)) (pg_name (i := 2) sc.nd rfl (Or.inl rfl)) (pss_one (ps_if (pt_not (pt_val (pcall0 D_law_alike_v3 hr (by decide) rfl (@pa_cons _ _ _ _ _ (pe_ix (ix_or ix_list ix_tup) (pv 0) (pv 2) (fun _ _ => rfl)) (@pa_cons _ _ _ _ _ (pe_ix (ix_or ix_list ix_tup) (pv 1) (pv 2) (fun _ _ => rfl)) pa_nil rfl) rfl)))) (pss_one (ps_ret pe_bl)) pss_nil))) (pss_one (ps_ret pe_bl))))))), ?_⟩
  try dsimp only [cxK]
  have s4 : (5000 : Nat) ≤ sizeLine := by decide
  rcases al with ⟨rfl, hl⟩ | ⟨a, b, xs, ys, rfl, rfl, ⟨e1, e2⟩ | ⟨e1, e2⟩, len, lx, each⟩
  · rcases hl with ⟨z, rfl⟩ | ⟨i, rfl⟩
    · refine ⟨_, rfl, _, _, _, true, rfl, .str _, rfl, _, rfl, iteT ?_⟩
      exact ⟨_, rfl, _, _, _, true, rfl, .str _, rfl, _, rfl, iteT ⟨_, rfl, _, rfl, rfl, dQt (Q := fun v => Q v _) q⟩⟩
    · refine ⟨_, rfl, _, _, _, false, rfl, .int _, rfl, _, rfl, iteF ?_⟩
      refine ⟨_, rfl, _, _, _, true, rfl, .int _, rfl, _, rfl, iteT ?_⟩
      exact ⟨_, rfl, _, _, _, true, rfl, .int _, rfl, _, rfl, iteT ⟨_, rfl, _, _, _, false, rfl, .int _, rfl, _, rfl, _, rfl, iteT ⟨_, rfl, _, rfl, rfl, dQt (Q := fun v => Q v _) q⟩⟩⟩
  · refine ⟨_, rfl, _, _, _, false, rfl, .lst e2, rfl, _, rfl, iteF ?_⟩
    refine ⟨_, rfl, _, _, _, false, rfl, .lst e2, rfl, _, rfl, iteF ?_⟩
    try dsimp only [gName, tNext]
    refine cut (fun σ H' => H = H' ∧ σ = [some (.ref a), some (.ref b), none]) (fun N hN => ?_) ?_
    · exact ⟨_, rfl, _, _, _, false, rfl, .lst e2, rfl, _, rfl, iteF ⟨_, rfl, _, _, _, true, rfl, .lst e1, rfl, _, rfl, iteF (hN _ _ ⟨rfl, rfl⟩)⟩⟩
    rintro σ _ ⟨rfl, rfl⟩
    refine ⟨_, rfl, a, _, rfl, .inl (SqL.of e1), _, rfl, b, _, rfl, .inl (SqL.of e2), rfl, _, rfl, nF (congrArg (fun n : Nat => V.int (n : Int)) len) ?_⟩
    refine ⟨_, rfl, b, _, rfl, .inl (SqL.of e2), _, rfl, (by omega), (by omega), for_range (fun i σ H' => H = H' ∧ ∃ o2 : Option V, σ = [some (.ref a), some (.ref b), o2]) ⟨rfl, none, rfl⟩ (fun i σ H' hi hP => ?_) (fun σ H' hP => ?_)⟩
    · obtain ⟨rfl, o2, rfl⟩ := hP
      have iy : i < ys.length := by omega
      have ixx : i < xs.length := by omega
      have a1 : atI xs (0 + (i : Int)) = some xs[i] := by
        rw [Int.zero_add]
        exact atI_nat (List.getElem?_eq_getElem ixx)
      have a2 : atI ys (0 + (i : Int)) = some ys[i] := by
        rw [Int.zero_add]
        exact atI_nat (List.getElem?_eq_getElem iy)
      exact ⟨_, rfl, _, rfl, .inl ⟨a, _, _, _, rfl, rfl, SqL.of e1, a1, _, rfl, _, rfl, .inl ⟨b, _, _, _, rfl, rfl, SqL.of e2, a2, _, _, rfl, each i _ _ (List.getElem?_eq_getElem ixx) (List.getElem?_eq_getElem iy), _, rfl, iteF ⟨rfl, _, rfl⟩⟩⟩⟩
    · obtain ⟨rfl, o2, rfl⟩ := hP
      exact q
  · refine ⟨_, rfl, _, _, _, false, rfl, .tup e2, rfl, _, rfl, iteF ?_⟩
    refine ⟨_, rfl, _, _, _, false, rfl, .tup e2, rfl, _, rfl, iteF ?_⟩
    try dsimp only [gName, tNext]
    refine cut (fun σ H' => H = H' ∧ σ = [some (.ref a), some (.ref b), none]) (fun N hN => ?_) ?_
    · exact ⟨_, rfl, _, _, _, true, rfl, .tup e2, rfl, _, rfl, iteT ⟨_, rfl, _, _, _, true, rfl, .tup e1, rfl, _, rfl, iteF (hN _ _ ⟨rfl, rfl⟩)⟩⟩
    rintro σ _ ⟨rfl, rfl⟩
    refine ⟨_, rfl, a, _, rfl, .inr (SqT.of e1), _, rfl, b, _, rfl, .inr (SqT.of e2), rfl, _, rfl, nF (congrArg (fun n : Nat => V.int (n : Int)) len) ?_⟩
    refine ⟨_, rfl, b, _, rfl, .inr (SqT.of e2), _, rfl, (by omega), (by omega), for_range (fun i σ H' => H = H' ∧ ∃ o2 : Option V, σ = [some (.ref a), some (.ref b), o2]) ⟨rfl, none, rfl⟩ (fun i σ H' hi hP => ?_) (fun σ H' hP => ?_)⟩
    · obtain ⟨rfl, o2, rfl⟩ := hP
      have iy : i < ys.length := by omega
      have ixx : i < xs.length := by omega
      have a1 : atI xs (0 + (i : Int)) = some xs[i] := by
        rw [Int.zero_add]
        exact atI_nat (List.getElem?_eq_getElem ixx)
      have a2 : atI ys (0 + (i : Int)) = some ys[i] := by
        rw [Int.zero_add]
        exact atI_nat (List.getElem?_eq_getElem iy)
      exact ⟨_, rfl, _, rfl, .inr ⟨a, _, _, _, rfl, rfl, SqT.of e1, a1, _, rfl, _, rfl, .inr ⟨b, _, _, _, rfl, rfl, SqT.of e2, a2, _, _, rfl, each i _ _ (List.getElem?_eq_getElem ixx) (List.getElem?_eq_getElem iy), _, rfl, iteF ⟨rfl, _, rfl⟩⟩⟩⟩
    · obtain ⟨rfl, o2, rfl⟩ := hP
      exact q

set_option maxHeartbeats 4000000 in
theorem ok_law_alone {dV : Value} {hd : Option Value} (F : FunD K "_law_alone" "_law_alone" s_law_alone dV f fd)  : FnH hd P w K mg base 1 f fd ["_law_e"] (spAlone92 c_NoRow) := by
  have sc : FnScope ["_law_e"] ["_law_e"] (defScope s_law_alone) := scK (by decide +kernel)
  refine F.okH sc (fun vs H Q E h => ?_) (fun cdv A outer s H vs Q E hr h => ?_)
  · obtain ⟨_, _, _, rfl, _⟩ := h
    rfl
  obtain ⟨a, d, i, rfl, ⟨n, e⟩, ed, q⟩ := h
  refine ⟨_, (pss_cons (ps_if (pt_val (pe_callB (call_isiXt (K := K) rfl) rfl B.b_isinstance boot_isinstance (@pa_cons _ _ _ _ _ (pv 0) (@pa_cons _ _ _ _ _ (@pe_tup _ _ _ _ _ (@pa_cons _ _ _ _ _ (pe_glob (v := V.ref c_EmptyHeap) rfl B.m_EmptyHeap rfl) (@pa_cons _ _ _ _ _ (pe_glob (v := V.ref c_InRing) rfl B.m_InRing rfl) (@pa_cons _ _ _ _ _ (pe_glob (v := V.ref c_NoAmount) rfl B.m_NoAmount rfl) (@pa_cons _ _ _ _ _ (pe_glob (v := V.ref c_NoDish) rfl B.m_NoDish rfl) (@pa_cons _ _ _ _ _ (pe_glob (v := V.ref c_NoName) rfl B.m_NoName rfl) (@pa_cons _ _ _ _ _ (pe_glob (v := V.ref c_NoNet) rfl B.m_NoNet rfl) (@pa_cons _ _ _ _ _ (pe_glob (v := V.ref c_NoNumber) rfl B.m_NoNumber rfl) (@pa_cons _ _ _ _ _ (pe_glob (v := V.ref c_NoPack) rfl B.m_NoPack rfl) (@pa_cons _ _ _ _ _ (pe_glob (v := V.ref c_NoPlan) rfl B.m_NoPlan rfl) (@pa_cons _ _ _ _ _ (pe_glob (v := V.ref c_NoStand) rfl B.m_NoStand rfl) pa_nil rfl) rfl) rfl) rfl) rfl) rfl) rfl) rfl) rfl) rfl)) pa_nil rfl) rfl))) (pss_one (ps_ret pe_bl)) pss_nil) (pss_cons (ps_if (pt_val (pe_callB (call_isiXt (K := K) rfl) rfl B.b_isinstance boot_isinstance (@pa_cons _ _ _ _ _ (pv 0) (@pa_cons _ _ _ _ _ (@pe_tup _ _ _ _ _ (@pa_cons _ _ _ _ _ (pe_glob (v := V.ref c_NoStandIn) rfl B.m_NoStandIn rfl) (@pa_cons _ _ _ _ _ (pe_glob (v := V.ref c_NoStep) rfl B.m_NoStep rfl) (@pa_cons _ _ _ _ _ (pe_glob (v := V.ref c_TooFew) rfl B.m_TooFew rfl) (@pa_cons _ _ _ _ _ (pe_glob (v := V.ref c_TooMany) rfl B.m_TooMany rfl) (@pa_cons _ _ _ _ _ (pe_glob (v := V.ref c_Twice) rfl B.m_Twice rfl) pa_nil rfl) rfl) rfl) rfl) rfl)) pa_nil rfl) rfl))) (pss_one (ps_ret pe_bl)) pss_nil) (pss_one (ps_ret (pe_and (pe_callB (call_isiX (K := K) rfl) rfl B.b_isinstance boot_isinstance (@pa_cons _ _ _ _ _ (pv 0) (@pa_cons _ _ _ _ _ (pe_glob (v := V.ref c_StoveError) rfl B.m_StoveError rfl) pa_nil rfl) rfl)) (pe_and (pe_callB (call_isiT (K := K) rfl) rfl B.b_isinstance boot_isinstance (@pa_cons _ _ _ _ _ (pe_fldX (K := K) rfl (pv 0) rfl) (@pa_cons _ _ _ _ _ (pe_bltn (v := .ty "int") rfl B.b_int boot_int rfl) pa_nil rfl) rfl)) (pe_one (pe_not (pe_callB (call_isiT (K := K) rfl) rfl B.b_isinstance boot_isinstance (@pa_cons _ _ _ _ _ (pe_fldX (K := K) rfl (pv 0) rfl) (@pa_cons _ _ _ _ _ (pe_bltn (v := .ty "bool") rfl B.b_bool boot_bool rfl) pa_nil rfl) rfl)))))))))), ?_⟩
  try dsimp only [cxK]
  refine ⟨_, rfl, (by show 10 ≤ sizeLine; decide), fun t1 n1 => ?_⟩
  have g1 := same_new n1 (.tup [.ref c_EmptyHeap, .ref c_InRing, .ref c_NoAmount, .ref c_NoDish, .ref c_NoName, .ref c_NoNet, .ref c_NoNumber, .ref c_NoPack, .ref c_NoPlan, .ref c_NoStand])
  refine ⟨a, _, some d, t1, [c_EmptyHeap, c_InRing, c_NoAmount, c_NoDish, c_NoName, c_NoNet, c_NoNumber, c_NoPack, c_NoPlan, c_NoStand], false, rfl, ⟨n, g1 _ _ e⟩, ⟨_, g1 _ _ ed⟩, B.i_NoRow, upd_same, B.ka_NoRow_1, _, rfl, iteF ?_⟩
  refine ⟨_, rfl, (by show 5 ≤ sizeLine; decide), fun t2 n2 => ?_⟩
  have g2 := g1.trans (same_new n2 (.tup [.ref c_NoStandIn, .ref c_NoStep, .ref c_TooFew, .ref c_TooMany, .ref c_Twice]))
  refine ⟨a, _, some d, t2, [c_NoStandIn, c_NoStep, c_TooFew, c_TooMany, c_Twice], false, rfl, ⟨n, g2 _ _ e⟩, ⟨_, g2 _ _ ed⟩, B.i_NoRow, upd_same, B.ka_NoRow_2, _, rfl, iteF ?_⟩
  refine ⟨_, rfl, a, _, some d, _, true, rfl, ⟨n, g2 _ _ e⟩, ⟨_, g2 _ _ ed⟩, B.i_NoRow, .own B.k_NoRow_StoveError, true, rfl, iteT ?_⟩
  exact ⟨_, rfl, a, _, d, _, _, _, rfl, (g2 _ _ e), (g2 _ _ ed), ⟨B.i_NoRow.gg, B.a_NoRow.dct, B.n_NoRow⟩, rfl, _, _, _, true, rfl, .int _, rfl, true, rfl, iteT ⟨_, rfl, a, _, d, _, _, _, rfl, (g2 _ _ e), (g2 _ _ ed), ⟨B.i_NoRow.gg, B.a_NoRow.dct, B.n_NoRow⟩, rfl, _, _, _, false, rfl, .int _, rfl, _, rfl, q _ g2⟩⟩

set_option maxHeartbeats 4000000 in
theorem ok_law_wrong {dV : Value} (F : FunD K "_law_wrong" "_law_wrong" s_law_wrong dV f fd)  : FnOk P w K mg base CX0 1 f fd ["_law_cell"] spWrong92 := by
  have sc : FnScope ["_law_cell", "_law_some"] ["_law_cell"] (defScope s_law_wrong) := scK (by decide +kernel)
  refine F.ok sc (fun vs H Q E h => ?_) (fun cdv A outer s H vs Q E hr h => ?_)
  · obtain ⟨_, rfl, _⟩ := h
    rfl
  obtain ⟨c, rfl, q⟩ := h
  refine ⟨_, (pss_cons (ps_set (i := 1) sc.nd rfl (Or.inl rfl) (pe_lstk (pak_str (pak_str (pak_str (pak_str (pak_str (pak_str (pak_str (pak_str (pak_str pak_nil))))))))))) (pss_cons (ps_set (i := 1) sc.nd rfl (Or.inl rfl) (pe_op op_cat (pv 1) (pe_lstk (pak_str (pak_str (pak_str (pak_str (pak_str (pak_str (pak_str (pak_str (pak_str pak_nil)))))))))))) (pss_cons (ps_set (i := 1) sc.nd rfl (Or.inl rfl) (pe_op op_cat (pv 1) (pe_lstk (pak_str (pak_str (pak_str (pak_str (pak_str (pak_str pak_nil))))))))) (pss_cons (ps_set (i := 1) sc.nd rfl (Or.inl rfl) (pe_op op_cat (pv 1) (@pe_lst _ _ _ _ (@pa_cons _ _ _ _ _ pe_str (@pa_cons _ _ _ _ _ pe_str (@pa_cons _ _ _ _ _ pe_str (@pa_cons _ _ _ _ _ pe_str (@pa_cons _ _ _ _ _ pe_str pa_nil rfl) rfl) rfl) rfl) rfl)))) (pss_cons (ps_set (i := 1) sc.nd rfl (Or.inl rfl) (pe_op op_cat (pv 1) (@pe_lst _ _ _ _ (@pa_cons _ _ _ _ _ pe_str (@pa_cons _ _ _ _ _ pe_str (@pa_cons _ _ _ _ _ pe_str (@pa_cons _ _ _ _ _ pe_str pa_nil rfl) rfl) rfl) rfl)))) (pss_cons (ps_set (i := 1) sc.nd rfl (Or.inl rfl) (pe_op op_cat (pv 1) (@pe_lst _ _ _ _ (@pa_cons _ _ _ _ _ pe_str (@pa_cons _ _ _ _ _ pe_str (@pa_cons _ _ _ _ _ pe_str (@pa_cons _ _ _ _ _ pe_str (@pa_cons _ _ _ _ _ pe_str pa_nil rfl) rfl) rfl) rfl) rfl)))) (pss_cons (ps_set (i := 1) sc.nd rfl (Or.inl rfl) (pe_op op_cat (pv 1) (@pe_lst _ _ _ _ (@pa_cons _ _ _ _ _ pe_str (@pa_cons _ _ _ _ _ pe_str pa_nil rfl) rfl)))) (pss_one (ps_ret (pe_ix ix_list (pv 1) (pe_op op_modN (pv 0) pe_int) (fun _ _ => rfl))))))))))), ?_⟩
  try dsimp only [cxK]
  have sl : sizeLine = 16777216 := sizeLine_eq
  refine ⟨(by show 9 ≤ sizeLine; decide), fun l0 nl0 => ?_⟩
  have g0 := same_new nl0 (.lst (wr0.map V.str))
  have e0 : upd H l0 (.lst (wr0.map V.str)) l0 = some (.lst (wr0.map V.str)) := upd_same
  change L2.tSeq _ _ _ [some (.int c), some (.ref l0)] (upd H l0 (.lst (wr0.map V.str)))
  generalize upd H l0 (.lst (wr0.map V.str)) = H0 at g0 e0 ⊢
  refine ⟨_, rfl, (by show 9 ≤ sizeLine; decide), fun b1 nb1 => ?_⟩
  have k1 : Same H0 (upd H0 b1 (.lst (wr1.map V.str))) := same_new nb1 (.lst (wr1.map V.str))
  refine ⟨l0, b1, _, wr1.map V.str, rfl, rfl, k1 _ _ e0, upd_same, (by rw [List.length_map, List.length_map]; show 9 + 9 ≤ sizeLine; decide), fun l1 nl1 => ?_⟩
  rw [← List.map_append]
  have g1 : Same H (upd (upd H0 b1 (.lst (wr1.map V.str))) l1 (.lst ((wr0 ++ wr1).map V.str))) := (g0.trans k1).trans (same_new nl1 (.lst ((wr0 ++ wr1).map V.str)))
  have e1 : upd (upd H0 b1 (.lst (wr1.map V.str))) l1 (.lst ((wr0 ++ wr1).map V.str)) l1 = some (.lst ((wr0 ++ wr1).map V.str)) := upd_same
  change L2.tSeq _ _ _ [some (.int c), some (.ref l1)] (upd (upd H0 b1 (.lst (wr1.map V.str))) l1 (.lst ((wr0 ++ wr1).map V.str)))
  generalize upd (upd H0 b1 (.lst (wr1.map V.str))) l1 (.lst ((wr0 ++ wr1).map V.str)) = H1 at g1 e1 ⊢
  refine ⟨_, rfl, (by show 6 ≤ sizeLine; decide), fun b2 nb2 => ?_⟩
  have k2 : Same H1 (upd H1 b2 (.lst (wr2.map V.str))) := same_new nb2 (.lst (wr2.map V.str))
  refine ⟨l1, b2, _, wr2.map V.str, rfl, rfl, k2 _ _ e1, upd_same, (by rw [List.length_map, List.length_map]; show 18 + 6 ≤ sizeLine; decide), fun l2 nl2 => ?_⟩
  rw [← List.map_append]
  have g2 : Same H (upd (upd H1 b2 (.lst (wr2.map V.str))) l2 (.lst ((wr0 ++ wr1 ++ wr2).map V.str))) := (g1.trans k2).trans (same_new nl2 (.lst ((wr0 ++ wr1 ++ wr2).map V.str)))
  have e2 : upd (upd H1 b2 (.lst (wr2.map V.str))) l2 (.lst ((wr0 ++ wr1 ++ wr2).map V.str)) l2 = some (.lst ((wr0 ++ wr1 ++ wr2).map V.str)) := upd_same
  change L2.tSeq _ _ _ [some (.int c), some (.ref l2)] (upd (upd H1 b2 (.lst (wr2.map V.str))) l2 (.lst ((wr0 ++ wr1 ++ wr2).map V.str)))
  generalize upd (upd H1 b2 (.lst (wr2.map V.str))) l2 (.lst ((wr0 ++ wr1 ++ wr2).map V.str)) = H2 at g2 e2 ⊢
  refine ⟨_, rfl, (by show 5 ≤ sizeLine; decide), fun b3 nb3 => ?_⟩
  have k3 : Same H2 (upd H2 b3 (.lst (wr3.map V.str))) := same_new nb3 (.lst (wr3.map V.str))
  refine ⟨l2, b3, _, wr3.map V.str, rfl, rfl, k3 _ _ e2, upd_same, (by rw [List.length_map, List.length_map]; show 24 + 5 ≤ sizeLine; decide), fun l3 nl3 => ?_⟩
  rw [← List.map_append]
  have g3 : Same H (upd (upd H2 b3 (.lst (wr3.map V.str))) l3 (.lst ((wr0 ++ wr1 ++ wr2 ++ wr3).map V.str))) := (g2.trans k3).trans (same_new nl3 (.lst ((wr0 ++ wr1 ++ wr2 ++ wr3).map V.str)))
  have e3 : upd (upd H2 b3 (.lst (wr3.map V.str))) l3 (.lst ((wr0 ++ wr1 ++ wr2 ++ wr3).map V.str)) l3 = some (.lst ((wr0 ++ wr1 ++ wr2 ++ wr3).map V.str)) := upd_same
  change L2.tSeq _ _ _ [some (.int c), some (.ref l3)] (upd (upd H2 b3 (.lst (wr3.map V.str))) l3 (.lst ((wr0 ++ wr1 ++ wr2 ++ wr3).map V.str)))
  generalize upd (upd H2 b3 (.lst (wr3.map V.str))) l3 (.lst ((wr0 ++ wr1 ++ wr2 ++ wr3).map V.str)) = H3 at g3 e3 ⊢
  refine ⟨_, rfl, (by show 4 ≤ sizeLine; decide), fun b4 nb4 => ?_⟩
  have k4 : Same H3 (upd H3 b4 (.lst (wr4.map V.str))) := same_new nb4 (.lst (wr4.map V.str))
  refine ⟨l3, b4, _, wr4.map V.str, rfl, rfl, k4 _ _ e3, upd_same, (by rw [List.length_map, List.length_map]; show 29 + 4 ≤ sizeLine; decide), fun l4 nl4 => ?_⟩
  rw [← List.map_append]
  have g4 : Same H (upd (upd H3 b4 (.lst (wr4.map V.str))) l4 (.lst ((wr0 ++ wr1 ++ wr2 ++ wr3 ++ wr4).map V.str))) := (g3.trans k4).trans (same_new nl4 (.lst ((wr0 ++ wr1 ++ wr2 ++ wr3 ++ wr4).map V.str)))
  have e4 : upd (upd H3 b4 (.lst (wr4.map V.str))) l4 (.lst ((wr0 ++ wr1 ++ wr2 ++ wr3 ++ wr4).map V.str)) l4 = some (.lst ((wr0 ++ wr1 ++ wr2 ++ wr3 ++ wr4).map V.str)) := upd_same
  change L2.tSeq _ _ _ [some (.int c), some (.ref l4)] (upd (upd H3 b4 (.lst (wr4.map V.str))) l4 (.lst ((wr0 ++ wr1 ++ wr2 ++ wr3 ++ wr4).map V.str)))
  generalize upd (upd H3 b4 (.lst (wr4.map V.str))) l4 (.lst ((wr0 ++ wr1 ++ wr2 ++ wr3 ++ wr4).map V.str)) = H4 at g4 e4 ⊢
  refine ⟨_, rfl, (by show 5 ≤ sizeLine; decide), fun b5 nb5 => ?_⟩
  have k5 : Same H4 (upd H4 b5 (.lst (wr5.map V.str))) := same_new nb5 (.lst (wr5.map V.str))
  refine ⟨l4, b5, _, wr5.map V.str, rfl, rfl, k5 _ _ e4, upd_same, (by rw [List.length_map, List.length_map]; show 33 + 5 ≤ sizeLine; decide), fun l5 nl5 => ?_⟩
  rw [← List.map_append]
  have g5 : Same H (upd (upd H4 b5 (.lst (wr5.map V.str))) l5 (.lst ((wr0 ++ wr1 ++ wr2 ++ wr3 ++ wr4 ++ wr5).map V.str))) := (g4.trans k5).trans (same_new nl5 (.lst ((wr0 ++ wr1 ++ wr2 ++ wr3 ++ wr4 ++ wr5).map V.str)))
  have e5 : upd (upd H4 b5 (.lst (wr5.map V.str))) l5 (.lst ((wr0 ++ wr1 ++ wr2 ++ wr3 ++ wr4 ++ wr5).map V.str)) l5 = some (.lst ((wr0 ++ wr1 ++ wr2 ++ wr3 ++ wr4 ++ wr5).map V.str)) := upd_same
  change L2.tSeq _ _ _ [some (.int c), some (.ref l5)] (upd (upd H4 b5 (.lst (wr5.map V.str))) l5 (.lst ((wr0 ++ wr1 ++ wr2 ++ wr3 ++ wr4 ++ wr5).map V.str)))
  generalize upd (upd H4 b5 (.lst (wr5.map V.str))) l5 (.lst ((wr0 ++ wr1 ++ wr2 ++ wr3 ++ wr4 ++ wr5).map V.str)) = H5 at g5 e5 ⊢
  refine ⟨_, rfl, (by show 2 ≤ sizeLine; decide), fun b6 nb6 => ?_⟩
  have k6 : Same H5 (upd H5 b6 (.lst (wr6.map V.str))) := same_new nb6 (.lst (wr6.map V.str))
  refine ⟨l5, b6, _, wr6.map V.str, rfl, rfl, k6 _ _ e5, upd_same, (by rw [List.length_map, List.length_map]; show 38 + 2 ≤ sizeLine; decide), fun l6 nl6 => ?_⟩
  rw [← List.map_append]
  have g6 : Same H (upd (upd H5 b6 (.lst (wr6.map V.str))) l6 (.lst ((wr0 ++ wr1 ++ wr2 ++ wr3 ++ wr4 ++ wr5 ++ wr6).map V.str))) := (g5.trans k6).trans (same_new nl6 (.lst ((wr0 ++ wr1 ++ wr2 ++ wr3 ++ wr4 ++ wr5 ++ wr6).map V.str)))
  have e6 : upd (upd H5 b6 (.lst (wr6.map V.str))) l6 (.lst ((wr0 ++ wr1 ++ wr2 ++ wr3 ++ wr4 ++ wr5 ++ wr6).map V.str)) l6 = some (.lst ((wr0 ++ wr1 ++ wr2 ++ wr3 ++ wr4 ++ wr5 ++ wr6).map V.str)) := upd_same
  have m := fm (a := c) (n := 40) (by decide)
  obtain ⟨j, hj⟩ := Int.eq_ofNat_of_zero_le m.1
  have jl : j < wrongs.length := by rw [wrongs_len]; omega
  have hz := List.getElem?_eq_getElem jl
  have mz := List.getElem_mem jl
  generalize wrongs[j] = z at hz mz
  have at0 : atI (wrongs.map V.str) (c.fmod 40) = some (.str z) := by rw [hj]; exact atI_nat (map_at hz)
  exact ⟨_, rfl, _, rfl, _, _, rfl, rfl, (by show (40 : Int) ≠ 0; decide), l6, _, _, _, rfl, rfl, SqL.of e6, at0, q z _ mz g6⟩

set_option maxHeartbeats 4000000 in
theorem ok_law_refused {dV : Value} (F : FunD K "_law_refused" "_law_refused" s_law_refused dV f fd) (Xread_paper : Dx P w K mg base (CX1 P w) 7 "read_paper" ["text"] [] (spReadPX K c_NoRow)) (H_law_alone : ∀ hd, DxH hd P w K mg base 1 "_law_alone" ["_law_e"] (spAlone92 c_NoRow)) : FnOk P w K mg base CX0 8 f fd ["_law_thing", "_law_at"] (spRefused92 K) := by
  have sc : FnScope ["_law_thing", "_law_at", "_law_e"] ["_law_thing", "_law_at"] (defScope s_law_refused) := scK (by decide +kernel)
  refine F.ok sc (fun vs H Q E h => ?_) (fun cdv A outer s H vs Q E hr h => ?_)
  · obtain ⟨_, _, rfl, _⟩ := h
    rfl
  obtain ⟨v, i, rfl, hr', q⟩ := h
  refine ⟨_, (pss_cons (ps_try rfl rfl (fun pins E => (pss_one (ps_expr (pcall1 Xread_paper hr (by decide) rfl passX (@pa_cons _ _ _ _ _ (pv 0) pa_nil rfl))))) (ph_asA B.t_NoRow rfl B.m_NoRow sc.nd (i := 2) rfl rfl (fun pins a => (pss_one (ps_ret (pe_and (pcallH (j := 7) (H_law_alone (some (.ref a))) (hr.suite _) (by decide) rfl (@pa_cons _ _ _ _ _ (pv 2) pa_nil rfl)) (pe_one (pe_cmpR op_eq (pe_fldX (K := K) rfl (pv 2) rfl) (pv 1) (nomark _))))))) ph_nil)) (pss_one (ps_ret pe_bl))), ?_⟩
  try dsimp only [cxK]
  rcases hr' with ⟨z, rfl, ne, hz, l100, lw, bad⟩ | ⟨rfl, ty, hty, hk⟩
  · refine ⟨_, rfl, _, rfl, .inl ⟨z, rfl, hz, l100, lw, fun rs e => ?_, fun _ i' b d H1 g1 ed => ?_⟩⟩
    · unfold paperR at e
      rw [if_neg ne, rows_bad bad] at e
      cases e
    obtain rfl := bad_uniq bad b
    intro a na
    have ga := same_new na (excO a (.ref c_NoRow) (some d))
    refine ⟨c_NoRow, true, rfl, B.s_NoRow_NoRow, iteT ?_⟩
    refine ⟨_, rfl, a, d, i, rfl, ⟨_, upd_same⟩, ga _ _ ed, fun H2 g2 => ⟨true, rfl, iteT ⟨_, rfl, a, _, d, _, _, _, rfl, (g2 _ _ upd_same), (g2 _ _ (ga _ _ ed)), ⟨B.i_NoRow.gg, B.a_NoRow.dct, B.n_NoRow⟩, rfl, _, rfl, rfl, ?_⟩⟩⟩
    exact dQt (Q := fun v => Q v _) (q _ ((g1.trans ga).trans g2))
  · refine ⟨_, rfl, _, rfl, .inr ⟨ty, hty, hk, fun d H1 g1 ed => ?_⟩⟩
    intro a na
    have ga := same_new na (excO a (.ref c_NoRow) (some d))
    refine ⟨c_NoRow, true, rfl, B.s_NoRow_NoRow, iteT ?_⟩
    refine ⟨_, rfl, a, d, 0, rfl, ⟨_, upd_same⟩, ga _ _ ed, fun H2 g2 => ⟨true, rfl, iteT ⟨_, rfl, a, _, d, _, _, _, rfl, (g2 _ _ upd_same), (g2 _ _ (ga _ _ ed)), ⟨B.i_NoRow.gg, B.a_NoRow.dct, B.n_NoRow⟩, rfl, _, rfl, rfl, ?_⟩⟩⟩
    exact dQt (Q := fun v => Q v _) (q _ ((g1.trans ga).trans g2))

set_option maxHeartbeats 4000000 in
theorem oklaw {dV : Value} (F : FunD K "law" "law" slaw dV f fd) (Dpaper_text : Dx P w K mg base CX0 4 "paper_text" ["paper"] [] spPaperT) (Dread_paper : Dx P w K mg base CX0 7 "read_paper" ["text"] [] spReadPC) (D_law_cell_at : Dx P w K mg base CX0 1 "_law_cell_at" ["_law_script", "_law_k"] [] (spCell K)) (D_law_row : Dx P w K mg base CX0 2 "_law_row" ["_law_cell"] [] spRow92) (D_law_line : Dx P w K mg base CX0 2 "_law_line" ["_law_row_here"] [] spLine92) (D_law_alike : Dx P w K mg base CX0 6 "_law_alike" ["_law_found", "_law_due"] [] (spAlS 4)) (D_law_wrong : Dx P w K mg base CX0 1 "_law_wrong" ["_law_cell"] [] spWrong92) (D_law_refused : Dx P w K mg base CX0 8 "_law_refused" ["_law_thing", "_law_at"] [] (spRefused92 K)) : FnOk P w K mg base CX0 9 f fd ["_law_script"] (spLaw K) := by
  have sc : FnScope ["_law_script", "_law_paper", "_law_lines", "_law_handed", "_law_text", "_law_found", "_law_cell", "_law_at", "_law_spoilt"] ["_law_script"] (defScope slaw) := scK (by decide +kernel)
  refine F.ok sc (fun vs H Q E h => ?_) (fun cdv A outer s H vs Q E hr h => ?_)
  · obtain ⟨_, _, rfl, _⟩ := h
    rfl
  obtain ⟨a, ns, rfl, hS, h63, q⟩ := h
  refine ⟨_, (pss_cons (ps_compA (own := "_law_cell") (ys := []) (js := []) sc.nd (i := 1) rfl rfl rfl (cok atn .nil (by decide) rfl rfl rfl rfl rfl rfl rfl rfl) (pi_list (pe_slice sl_list (pv 0) (po_some pe_int) (po_some pe_int))) (fun C fp s H => (pcall0 D_law_row hr (by decide) rfl (@pa_cons _ _ _ _ _ (pe_op op_modN (pv 0) (pe_op op_powB pe_int pe_int)) pa_nil rfl)))) (pss_cons (ps_compA (own := "_law_row_here") (ys := []) (js := []) sc.nd (i := 2) rfl rfl rfl (cok atn .nil (by decide) rfl rfl rfl rfl rfl rfl rfl rfl) (pi_list (pv 1)) (fun C fp s H => (pcall0 D_law_line hr (by decide) rfl (@pa_cons _ _ _ _ _ (pv 0) pa_nil rfl)))) (pss_cons (ps_compA (own := "_law_cell") (ys := []) (js := []) sc.nd (i := 3) rfl rfl rfl (cok atn .nil (by decide) rfl rfl rfl rfl rfl rfl rfl rfl) (pi_list (pe_slice sl_list (pv 0) (po_some pe_int) (po_some pe_int))) (fun C fp s H => (pcall0 D_law_row hr (by decide) rfl (@pa_cons _ _ _ _ _ (pe_op op_modN (pv 0) (pe_op op_powB pe_int pe_int)) pa_nil rfl)))) (pss_cons (ps_set (i := 4) sc.nd rfl (Or.inl rfl) (pcall0 Dpaper_text hr (by decide) rfl (@pa_cons _ _ _ _ _ (pv 3) pa_nil rfl))) (pss_cons (ps_if (PW.pt (pw_or (pt_not (pt_val (pe_callB (call_isiT (K := K) rfl) rfl B.b_isinstance boot_isinstance (@pa_cons _ _ _ _ _ (pv 4) (@pa_cons _ _ _ _ _ (pe_bltn (v := .ty "str") rfl B.b_str boot_str rfl) pa_nil rfl) rfl)))) (pw_or (pt_cmpR op_ne (pv 4) (pe_bm PySem.F.plainAttrs_str PySem.F.slot_str_join PySem.F.type_str_join mt_join pe_str (@pa_cons _ _ _ _ _ (pv 2) pa_nil rfl)) (nomark _)) (pw_or1 (pt_not (pt_val (pcall0 D_law_alike hr (by decide) rfl (@pa_cons _ _ _ _ _ (pv 3) (@pa_cons _ _ _ _ _ (pv 1) pa_nil rfl) rfl)))))))) (pss_one (ps_ret pe_bl)) pss_nil) (pss_cons (ps_set (i := 5) sc.nd rfl (Or.inl rfl) (pcall0 Dread_paper hr (by decide) rfl (@pa_cons _ _ _ _ _ (pv 4) pa_nil rfl))) (pss_cons (ps_if (pt_not (pt_val (pcall0 D_law_alike hr (by decide) rfl (@pa_cons _ _ _ _ _ (pv 5) (@pa_cons _ _ _ _ _ (pv 1) pa_nil rfl) rfl)))) (pss_one (ps_ret pe_bl)) pss_nil) (pss_cons (ps_expr (pe_bm PySem.F.plainAttrs_list PySem.F.slot_list_append PySem.F.type_list_append mt_append (pv 5) (@pa_cons _ _ _ _ _ pe_non pa_nil rfl))) (pss_cons (ps_set (i := 6) sc.nd rfl (Or.inl rfl) (pe_op op_modN (pcall0 D_law_cell_at hr (by decide) rfl (@pa_cons _ _ _ _ _ (pv 0) (@pa_cons _ _ _ _ _ pe_int pa_nil rfl) rfl)) (pe_op op_powB pe_int pe_int))) (pss_cons (ps_if (pt_not (pt_val (pcall0 D_law_refused hr (by decide) rfl (@pa_cons _ _ _ _ _ (pe_ix ix_list (@pe_lst _ _ _ _ (@pa_cons _ _ _ _ _ pe_non (@pa_cons _ _ _ _ _ pe_int (@pa_cons _ _ _ _ _ pe_bl (@pa_cons _ _ _ _ _ (@pe_lst _ _ _ _ (@pa_cons _ _ _ _ _ (pv 4) pa_nil rfl)) (@pa_cons _ _ _ _ _ (@pe_tup _ _ _ _ _ (@pa_cons _ _ _ _ _ (pv 4) pa_nil rfl)) (@pa_cons _ _ _ _ _ pe_dnewK pa_nil rfl) rfl) rfl) rfl) rfl) rfl)) (pe_op op_modN (pv 6) pe_int) (fun _ _ => rfl)) (@pa_cons _ _ _ _ _ pe_int pa_nil rfl) rfl)))) (pss_one (ps_ret pe_bl)) pss_nil) (pss_cons (ps_set (i := 7) sc.nd rfl (Or.inl rfl) (pe_op op_modN (pcall0 D_law_cell_at hr (by decide) rfl (@pa_cons _ _ _ _ _ (pv 0) (@pa_cons _ _ _ _ _ pe_int pa_nil rfl) rfl)) (pe_op op_add (pe_callB call_len_seq rfl B.b_len boot_len (@pa_cons _ _ _ _ _ (pv 2) pa_nil rfl)) pe_int))) (pss_cons (ps_set (i := 8) sc.nd rfl (Or.inl rfl) (pe_op op_cat (pe_op op_cat (pe_slice sl_list (pv 2) po_none (po_some (pv 7))) (@pe_lst _ _ _ _ (@pa_cons _ _ _ _ _ (pcall0 D_law_wrong hr (by decide) rfl (@pa_cons _ _ _ _ _ (pe_op op_fdivB (pv 6) pe_int) pa_nil rfl)) pa_nil rfl))) (pe_slice sl_list (pv 2) (po_some (pv 7)) po_none))) (pss_cons (ps_if (pt_cmpR op_eq (pe_op op_modN (pe_op op_fdivB (pv 6) pe_int) pe_int) pe_int (nomark _)) (pss_one (ps_expr (pe_bm PySem.F.plainAttrs_list PySem.F.slot_list_append PySem.F.type_list_append mt_append (pv 8) (@pa_cons _ _ _ _ _ (pcall0 D_law_wrong hr (by decide) rfl (@pa_cons _ _ _ _ _ (pe_op op_fdivB (pv 6) pe_int) pa_nil rfl)) pa_nil rfl)))) pss_nil) (pss_cons (ps_if (PW.pt (pw_and (pt_cmpR (op_neLS (hu_of hr)) (pv 8) (@pe_lst _ _ _ _ (@pa_cons _ _ _ _ _ pe_str pa_nil rfl)) (nomark _)) (pw_and1 (pt_not (pt_val (pcall0 D_law_refused hr (by decide) rfl (@pa_cons _ _ _ _ _ (pe_bm PySem.F.plainAttrs_str PySem.F.slot_str_join PySem.F.type_str_join mt_join pe_str (@pa_cons _ _ _ _ _ (pv 8) pa_nil rfl)) (@pa_cons _ _ _ _ _ (pv 7) pa_nil rfl) rfl))))))) (pss_one (ps_ret pe_bl)) pss_nil) (pss_one (ps_ret (pcall0 D_law_alike hr (by decide) rfl (@pa_cons _ _ _ _ _ (pcall0 Dread_paper hr (by decide) rfl (@pa_cons _ _ _ _ _ (pv 4) pa_nil rfl)) (@pa_cons _ _ _ _ _ (pv 1) pa_nil rfl) rfl)))))))))))))))))), ?_⟩
  try dsimp only [cxK]
  have sl : sizeLine = 16777216 := sizeLine_eq
  have e12 : (10 : Int) ^ (12 : Int).toNat = 1000000000000 := by decide
  obtain ⟨cs, hcs, l38⟩ := cut_some (ns := ns)
  refine ⟨_, rfl, _, rfl, _, rfl, a, _, rfl, hS, fun p0 np0 => ?_⟩
  rw [hcs]
  have g0 := same_new np0 (.lst (cs.map V.int))
  have ep0 : upd H p0 (.lst (cs.map V.int)) p0 = some (.lst (cs.map V.int)) := upd_same
  refine ⟨p0, rfl, ⟨_, SqL.of ep0⟩, ?_⟩
  generalize upd H p0 (.lst (cs.map V.int)) = H' at g0 ep0 ⊢
  refine comp_Rl rRow (fun _ => False) (fun i => rowF ((cs.getD i 0).fmod 1000000000000)) (SqL.of ep0) (by rw [List.length_map]; omega) (fun a h => h.elim) (fun i y hy H9 g9 Q' hQ => ?_) fun pl H1 npl gpl hpl => ?_
  · rw [List.getElem?_map] at hy
    obtain ⟨c, hc, rfl⟩ := Option.map_eq_some_iff.mp hy
    rw [getDo hc] at hQ
    refine ⟨_, rfl, _, _, rfl, rfl, ⟨by decide, by decide⟩, _, _, rfl, rfl, (by show (10 : Int) ^ (12 : Int).toNat ≠ 0; decide), ?_⟩
    dsimp only
    rw [e12]
    exact ⟨_, rfl, fun v H8 g8 k => hQ _ _ g8 (mvP k fun a h => .inl h)⟩
  rw [List.length_map, map_getD (fun c : Int => rowF (c.fmod 1000000000000)) cs 0] at hpl
  have gA := g0.trans gpl
  have lrs : (cs.map fun c : Int => rowF (c.fmod 1000000000000)).length ≤ 38 := by rw [List.length_map]; exact l38
  have ok : ∀ r ∈ cs.map (fun c : Int => rowF (c.fmod 1000000000000)), RwOk r := fun r hr' => by
    obtain ⟨c, _, rfl⟩ := List.mem_map.mp hr'
    exact rowF_ok _
  have hP := hpl.any
  clear hpl gpl g0 ep0 np0
  obtain ⟨rs, hrs⟩ : ∃ rs, cs.map (fun c : Int => rowF (c.fmod 1000000000000)) = rs := ⟨_, rfl⟩
  rw [hrs] at lrs ok hP
  obtain ⟨vp, ep, rp⟩ := hP
  have lp : vp.length = rs.length := rp.1
  try dsimp only [gName, tNext]
  refine ⟨_, rfl, pl, rfl, ⟨_, SqL.of ep⟩, comp_Rl (rVal V.str) (fun _ => False) (fun i => rowT (rs.getD i (.ways 0))) (SqL.of ep) (by omega) (fun a h => h.elim) (fun i y hy H9 g9 Q' hQ => ?_) fun ll H2 nll gll hll => ?_⟩
  · obtain ⟨x, hx, kx⟩ := rp.at_ hy
    rw [getDo hx] at hQ
    exact ⟨_, rfl, _, x, rfl, mvS kx g9, ok x (List.mem_of_getElem? hx), fun H8 g8 => hQ _ _ g8 rfl⟩
  obtain ⟨vl, el, rl⟩ := hll
  have evl : vl = (rs.map rowT).map V.str := by rw [rl.val, lp, map_getD rowT rs (.ways 0)]
  rw [evl] at el
  clear rl evl
  have gB := gA.trans gll
  have hP2 : LsA rRow An H2 pl rs := ⟨vp, gll _ _ ep, rp.imp fun _ _ q => mvS q gll⟩
  clear rp ep
  try dsimp only [gName, tNext]
  refine ⟨_, rfl, _, rfl, _, rfl, a, _, rfl, (gB.seq hS), fun p1 np1 => ?_⟩
  rw [hcs]
  have g1 := same_new np1 (.lst (cs.map V.int))
  have ep1 : upd H2 p1 (.lst (cs.map V.int)) p1 = some (.lst (cs.map V.int)) := upd_same
  refine ⟨p1, rfl, ⟨_, SqL.of ep1⟩, ?_⟩
  generalize upd H2 p1 (.lst (cs.map V.int)) = H2' at g1 ep1 ⊢
  refine comp_Rl rRow (fun _ => False) (fun i => rowF ((cs.getD i 0).fmod 1000000000000)) (SqL.of ep1) (by rw [List.length_map]; omega) (fun a h => h.elim) (fun i y hy H9 g9 Q' hQ => ?_) fun hl H3 nhl ghl hhl => ?_
  · rw [List.getElem?_map] at hy
    obtain ⟨c, hc, rfl⟩ := Option.map_eq_some_iff.mp hy
    rw [getDo hc] at hQ
    refine ⟨_, rfl, _, _, rfl, rfl, ⟨by decide, by decide⟩, _, _, rfl, rfl, (by show (10 : Int) ^ (12 : Int).toNat ≠ 0; decide), ?_⟩
    dsimp only
    rw [e12]
    exact ⟨_, rfl, fun v H8 g8 k => hQ _ _ g8 (mvP k fun a h => .inl h)⟩
  rw [List.length_map, map_getD (fun c : Int => rowF (c.fmod 1000000000000)) cs 0] at hhl
  rw [hrs] at hhl
  have hH := hhl.any
  have gC' := g1.trans ghl
  have gC := gB.trans gC'
  have el3 := gC' _ _ el
  have hP3 := hP2.same gC'
  clear hhl ghl g1 ep1 np1 hP2 el gB gA gll nll
  try dsimp only [gName, tNext]
  refine ⟨_, rfl, hl, rs, rfl, hH, by omega, ok, fun H4 g4 => ?_⟩
  have gD := gC.trans g4
  have el4 := g4 _ _ el3
  have hP4 := hP3.same g4
  have hH4 := hH.same g4
  have s300 := sum_len (m := 300) (ws := rs.map rowT) fun w hw => by
    obtain ⟨x, hx, rfl⟩ := List.mem_map.mp hw
    exact rowWs_len (ok x hx)
  rw [List.length_map] at s300
  clear hP3 hH el3 gC gC'
  try dsimp only [gName, tNext]
  refine cut (fun σ H' => σ = [some (.ref a), some (.ref pl), some (.ref ll), some (.ref hl), some (.str (paperT rs)), none, none, none, none] ∧ H4 = H') (fun N hN => ?_) ?_
  · refine ⟨_, rfl, _, _, _, true, rfl, .str _, rfl, _, rfl, iteF ⟨_, rfl, rfl, _, rfl, _, ll, _, rfl, rfl, SqL.of el4, (by decide), (by rw [List.length_map]; omega), rfl, _, rfl, ?_⟩⟩
    exact ifBF (by show (!decide (V.str (paperT rs) = V.str (paperT rs))) = false; simp) ⟨_, rfl, _, rfl, _, _, rfl, als_paper hH4 hP4 (by omega) ok, _, rfl, iteF (hN _ _ ⟨rfl, rfl⟩)⟩
  rintro σ H' ⟨rfl, rfl⟩
  have ps := paper_split ok (by omega)
  refine ⟨_, rfl, paperT rs, rs, rfl, paperT_len ok (by omega), ps.1, ps.2, paperR_T ok, fun fl H5 g5 nfl hF => ?_⟩
  obtain ⟨vf, ef, rf⟩ := id hF
  have lf : vf.length = rs.length := rf.1
  try dsimp only [gName, tNext]
  refine cut (fun σ H' => σ = [some (.ref a), some (.ref pl), some (.ref ll), some (.ref hl), some (.str (paperT rs)), some (.ref fl), none, none, none] ∧ H5 = H') (fun N hN => ?_) ?_
  · exact ⟨_, rfl, _, rfl, _, _, rfl, als_paper hF (hP4.same g5) (by omega) ok, _, rfl, iteF (hN _ _ ⟨rfl, rfl⟩)⟩
  rintro σ H' ⟨rfl, rfl⟩
  refine ⟨_, rfl, .inl ⟨rfl, _, SqL.of ef⟩, fl, _, _, rfl, rfl, ef, by omega, ?_⟩
  have g6 := sUpd g5 nfl (.lst (vf ++ [.non]))
  have gE := gD.trans g6
  have el6 := g6 _ _ el4
  have hP6 := hP4.same g6
  generalize upd H5 fl (.lst (vf ++ [.non])) = H6 at g6 gE el6 hP6 ⊢
  clear hF ef rf g5 hP4 hH4 el4 gD g4
  refine ⟨_, rfl, a, ns, 0, rfl, gE.seq hS, by decide, fun c => ⟨_, _, rfl, rfl, ⟨by decide, by decide⟩, _, _, rfl, rfl, (by show (10 : Int) ^ (12 : Int).toNat ≠ 0; decide), ?_⟩⟩
  try dsimp only [gName, tNext]
  rw [e12]
  generalize c.fmod 1000000000000 = cc
  have m6 := fm (a := cc) (n := 6) (by decide)
  have WS := True
  refine cut (fun σ H' => σ = [some (.ref a), some (.ref pl), some (.ref ll), some (.ref hl), some (.str (paperT rs)), some (.ref fl), some (.int cc), none, none] ∧ Same H6 H') (fun N hN => ?_) ?_
  · refine ⟨_, rfl, (by show 1 ≤ sizeLine; decide), fun l1 n1 => ⟨_, rfl, (by show 1 ≤ sizeLine; decide), fun t1 n2 => fun d1 n3 => ⟨(by show 6 ≤ sizeLine; decide), fun l6 n6 => ?_⟩⟩⟩
    have k1 := same_new n1 (.lst [.str (paperT rs)])
    have k2 := same_new n2 (.tup [.str (paperT rs)])
    have k3 := same_new n3 (.dK [])
    have k4 := same_new n6 (.lst [.non, .int 5, .bl true, .ref l1, .ref t1, .ref d1])
    obtain ⟨v, hv, rv⟩ := six_at (K := K) (k4 _ _ (k3 _ _ (k2 _ _ upd_same))) (k4 _ _ (k3 _ _ upd_same)) (k4 _ _ upd_same) m6.1 m6.2
    refine ⟨_, rfl, _, _, rfl, rfl, (by show (6 : Int) ≠ 0; decide), l6, _, _, _, rfl, rfl, SqL.of upd_same, hv, v, 0, rfl, rv, fun H7 g7 => ⟨_, rfl, iteF (hN _ _ ⟨rfl, ((k1.trans k2).trans (k3.trans k4)).trans g7⟩)⟩⟩
  rintro σ H7 ⟨rfl, g7⟩
  have gF := gE.trans g7
  have el7 := g7 _ _ el6
  have hP7 := hP6.same g7
  clear g7 el6 hP6 gE g6
  refine ⟨_, rfl, a, ns, 1, rfl, gF.seq hS, by decide, fun c1 => ⟨_, rfl, ll, _, rfl, .inl (SqL.of el7), _, _, rfl, rfl, _, _, rfl, rfl, (by omega), ?_⟩⟩
  try dsimp only [gName, tNext]
  have ma := fm (a := c1) (n := (((rs.map rowT).map V.str).length : Int) + 1) (by omega)
  obtain ⟨i, hi⟩ := Int.eq_ofNat_of_zero_le ma.1
  rw [hi] at ma ⊢
  have lm : ((rs.map rowT).map V.str).length = rs.length := by rw [List.length_map, List.length_map]
  have il : i ≤ rs.length := by omega
  refine ⟨_, rfl, _, rfl, _, rfl, ll, _, rfl, SqL.of el7, fun s1 ns1 => ?_⟩
  rw [L2.cut_take (by omega), ← List.map_take]
  have h1 := same_new ns1 (.lst (((rs.map rowT).take i).map V.str))
  refine ⟨_, rfl, _, _, rfl, rfl, ⟨by decide, PyProof.noPylong_small (by decide)⟩, _, rfl, fun z H8 mz g8 => ⟨(by show 1 ≤ sizeLine; decide), fun s2 ns2 => ?_⟩⟩
  have h2 := same_new ns2 (.lst [.str z])
  have t38 : ((rs.map rowT).take i).length ≤ 38 := by rw [List.length_take, List.length_map]; omega
  have d38 : ((rs.map rowT).drop i).length ≤ 38 := by rw [List.length_drop, List.length_map]; omega
  refine ⟨s1, s2, _, _, rfl, rfl, h2 _ _ (g8 _ _ upd_same), upd_same, (by rw [List.length_map]; show _ + 1 ≤ _; omega), fun s3 ns3 => ?_⟩
  rw [show ((rs.map rowT).take i).map V.str ++ [V.str z] = ((rs.map rowT).take i ++ [z]).map V.str by rw [List.map_append]; rfl]
  have h3 := same_new ns3 (.lst (((rs.map rowT).take i ++ [z]).map V.str))
  have h13 := ((h1.trans g8).trans h2).trans h3
  refine ⟨_, rfl, _, rfl, _, rfl, ll, _, rfl, SqL.of (h13 _ _ el7), fun s4 ns4 => ?_⟩
  rw [cut_dropB, ← List.map_drop]
  have h4 := same_new ns4 (.lst (((rs.map rowT).drop i).map V.str))
  refine ⟨s3, s4, _, _, rfl, rfl, h4 _ _ upd_same, upd_same, (by rw [List.length_map, List.length_map, List.length_append]; show _ + 1 + _ ≤ _; omega), fun sp nsp => ?_⟩
  rw [← List.map_append]
  have h5 := same_new nsp (.lst (((rs.map rowT).take i ++ [z] ++ (rs.map rowT).drop i).map V.str))
  have h15 := (h13.trans h4).trans h5
  have gG := gF.trans h15
  have nsp7 := (h13.trans h4).free nsp
  have esp : upd (upd (upd (upd H8 s2 (.lst [.str z])) s3 (.lst (((rs.map rowT).take i ++ [z]).map V.str))) s4 (.lst (((rs.map rowT).drop i).map V.str))) sp (.lst (((rs.map rowT).take i ++ [z] ++ (rs.map rowT).drop i).map V.str)) sp = some (.lst (((rs.map rowT).take i ++ [z] ++ (rs.map rowT).drop i).map V.str)) := upd_same
  generalize upd (upd (upd (upd H8 s2 (.lst [.str z])) s3 (.lst (((rs.map rowT).take i ++ [z]).map V.str))) s4 (.lst (((rs.map rowT).drop i).map V.str))) sp (.lst (((rs.map rowT).take i ++ [z] ++ (rs.map rowT).drop i).map V.str)) = H9 at esp gG h15 ⊢
  clear h1 h2 h3 h4 h5 h13 g8 el7
  try dsimp only [gName, tNext]
  have lsp : ((rs.map rowT).take i ++ [z] ++ (rs.map rowT).drop i).length ≤ 80 := by rw [List.length_append, List.length_append]; show _ + 1 + _ ≤ _; omega
  refine cut (fun σ H' => ∃ more : List Str, σ = [some (.ref a), some (.ref pl), some (.ref ll), some (.ref hl), some (.str (paperT rs)), some (.ref fl), some (.int cc), some (.int (i : Int)), some (.ref sp)] ∧ Same H7 H' ∧ H' sp = some (.lst (((rs.map rowT).take i ++ [z] ++ (rs.map rowT).drop i ++ more).map V.str)) ∧ (∀ w ∈ more, w ∈ wrongs) ∧ more.length ≤ 1) (fun N hN => ?_) ?_
  · refine ⟨_, rfl, _, _, rfl, rfl, ⟨by decide, PyProof.noPylong_small (by decide)⟩, _, _, rfl, rfl, (by show (2 : Int) ≠ 0; decide), rfl, _, rfl, d2I (fun hh => ?_) fun hh => hN _ _ ⟨[], rfl, h15, by rw [List.append_nil]; exact esp, (fun w hw => nomatch hw), Nat.zero_le _⟩⟩
    refine ⟨_, rfl, .inl ⟨rfl, _, SqL.of esp⟩, _, rfl, _, _, rfl, rfl, ⟨by decide, PyProof.noPylong_small (by decide)⟩, _, rfl, fun z2 Ha mz2 ga => ⟨sp, _, _, rfl, rfl, ga _ _ esp, by rw [List.length_map]; omega, hN _ _ ⟨[z2], rfl, sUpd (h15.trans ga) nsp7 _, ?_, (fun w hw => by rw [List.mem_singleton.mp hw]; exact mz2), Nat.le_refl 1⟩⟩⟩
    have e : (((rs.map rowT).take i ++ [z] ++ (rs.map rowT).drop i ++ [z2]).map V.str) = ((rs.map rowT).take i ++ [z] ++ (rs.map rowT).drop i).map V.str ++ [V.str z2] := by rw [List.map_append]; rfl
    rw [e]
    exact upd_same
  rintro σ Hb ⟨more, rfl, gb, esp', hm, lm1⟩
  have lws : ((rs.map rowT).take i ++ [z] ++ (rs.map rowT).drop i ++ more).length ≤ 81 := by rw [List.length_append]; omega
  have bt := fun (Hx : Hp) ne => bad_text (K := K) (H := Hx) ok (by omega) il mz hm lm1 ne
  have all3 : ∀ w ∈ (rs.map rowT).take i ++ [z] ++ (rs.map rowT).drop i ++ more, w.length ≤ 300 := fun w hw => by
    rcases List.mem_append.mp hw with hw | hw
    · rcases List.mem_append.mp hw with hw | hw
      · rcases List.mem_append.mp hw with hw | hw
        · obtain ⟨x, hx, rfl⟩ := List.mem_map.mp (List.mem_of_mem_take hw)
          exact rowWs_len (ok x hx)
        · rw [List.mem_singleton.mp hw]
          have := (wrong_no mz).2.1
          omega
      · obtain ⟨x, hx, rfl⟩ := List.mem_map.mp (List.mem_of_mem_drop hw)
        exact rowWs_len (ok x hx)
    · have := (wrong_no (hm w hw)).2.1
      omega
  have s3 := sum_len all3
  generalize (rs.map rowT).take i ++ [z] ++ (rs.map rowT).drop i ++ more = ws at esp' lws bt s3
  try dsimp only [gName, tNext]
  refine cut (fun σ H' => σ = [some (.ref a), some (.ref pl), some (.ref ll), some (.ref hl), some (.str (paperT rs)), some (.ref fl), some (.int cc), some (.int (i : Int)), some (.ref sp)] ∧ Same Hb H') (fun N hN => ?_) ?_
  · refine ⟨_, rfl, (by show 1 ≤ sizeLine; decide), fun s9 n9 => ?_⟩
    have k9 := same_new n9 (.lst [.str ""])
    refine ⟨sp, s9, ws, [""], rfl, rfl, k9 _ _ esp', upd_same, _, rfl, ?_⟩
    by_cases hw : ws = ([""] : List Str)
    · exact ifBF (by simp [hw]) (iteF (hN _ _ ⟨rfl, k9⟩))
    · refine ifBT (by simp [hw]) ⟨rfl, _, rfl, _, sp, ws, rfl, rfl, SqL.of (k9 _ _ esp'), (by decide), (by omega), _, rfl, _, i, rfl, ?_, fun Hc gc => ⟨_, rfl, iteF (hN _ _ ⟨rfl, k9.trans gc⟩)⟩⟩
      exact bt _ hw
  rintro σ Hd ⟨rfl, gd⟩
  have gZ := gb.trans gd
  refine ⟨_, rfl, paperT rs, rs, rfl, paperT_len ok (by omega), ps.1, ps.2, paperR_T ok, fun fl2 H' g' nfl2 hF2 => ?_⟩
  exact ⟨_, rfl, _, _, rfl, als_paper hF2 ((hP7.same gZ).same g') (by omega) ok, q _⟩

end
set_option maxHeartbeats 4000000 in
theorem all_mk {l : PySem.W.OpenLaw} {w : World} {K : PySem.W.Frag} {h : Heap} {mg : Str → Option Value} {fa fread_figures fis_name fwords_of fnumber_of fnumbers_text fchains_text frow_text fpaper_text fread_numbers fread_chain fread_ways fread_full fread_row fread_paper f_law_cell_at f_law_numbers f_law_tool f_law_row f_law_points f_law_line f_law_alike f_law_alone f_law_wrong f_law_refused flaw c_EmptyHeap c_InRing c_LISTED c_NoAmount c_NoDish c_NoName c_NoNet c_NoNumber c_NoPack c_NoPlan c_NoRow c_NoStand c_NoStandIn c_NoStep c_StoveError c_TooFew c_TooMany c_Twice f_NoRow : Addr} (X : K.In h) (G : h.Ns mainGlobals mg) (hfa : mg "law" = some (.ref fa))
    {od_NoRow an_NoRow : Option Addr} {sl_NoRow : Array (Option Value)} {oc_NoRow kV_NoRow dc_NoRow pm_NoRow cd_NoRow ct_NoRow : Value}
    {odlaw anlaw : Option Addr} {sllaw : Array (Option Value)} {oclaw kVlaw dclaw pmlaw cdlaw ctlaw : Value}
    {tk_LETTERS : Tok}
    {tk_MOST_LETTERS : Tok}
    {tk_FIGURES : Tok}
    {tk_MOST_FIGURES : Tok}
    {tk_GREATEST_WRITTEN : Tok}
    (qread_figures : GfAt K fread_figures "read_figures" sread_figures .none)
    (qis_name : GfAt K fis_name "is_name" sis_name .none)
    (qwords_of : GfAt K fwords_of "words_of" swords_of .none)
    (qnumber_of : GfAt K fnumber_of "number_of" snumber_of .none)
    (qnumbers_text : GfAt K fnumbers_text "numbers_text" snumbers_text .none)
    (qchains_text : GfAt K fchains_text "chains_text" schains_text .none)
    (qrow_text : GfAt K frow_text "row_text" srow_text .none)
    (qpaper_text : GfAt K fpaper_text "paper_text" spaper_text .none)
    (qread_numbers : GfAt K fread_numbers "read_numbers" sread_numbers .none)
    (qread_chain : GfAt K fread_chain "read_chain" sread_chain .none)
    (qread_ways : GfAt K fread_ways "read_ways" sread_ways .none)
    (qread_full : GfAt K fread_full "read_full" sread_full .none)
    (qread_row : GfAt K fread_row "read_row" sread_row .none)
    (qread_paper : GfAt K fread_paper "read_paper" sread_paper .none)
    (q_law_cell_at : GfAt K f_law_cell_at "_law_cell_at" s_law_cell_at .none)
    (q_law_numbers : GfAt K f_law_numbers "_law_numbers" s_law_numbers .none)
    (q_law_tool : GfAt K f_law_tool "_law_tool" s_law_tool .none)
    (q_law_row : GfAt K f_law_row "_law_row" s_law_row .none)
    (q_law_points : GfAt K f_law_points "_law_points" s_law_points .none)
    (q_law_line : GfAt K f_law_line "_law_line" s_law_line .none)
    (q_law_alike : GfAt K f_law_alike "_law_alike" s_law_alike .none)
    (a_law_alone : PySem.W.nsIn K mainGlobals "_law_alone" = some (some (.ref f_law_alone)))
    (q_law_alone : FnAt K f_law_alone "_law_alone" "_law_alone" s_law_alone .none)
    (q_law_wrong : GfAt K f_law_wrong "_law_wrong" s_law_wrong .none)
    (q_law_refused : GfAt K f_law_refused "_law_refused" s_law_refused .none)
    (alaw : PySem.W.nsIn K mainGlobals "law" = some (some (.ref flaw)))
    (llaw : K.lookup flaw = some ⟨oclaw, odlaw, .func (PySem.W.fnOf "law" "law" (defArgs slaw) (defBody slaw) (defScope slaw) .none kVlaw dclaw pmlaw anlaw cdlaw ctlaw), sllaw⟩) (claw : PySem.W.codeIn K cdlaw "law" = true) (klaw : PySem.W.keepIn K (.ref flaw) = true)
    (zg_LETTERS : PySem.W.nsIn K mainGlobals "LETTERS" = some (some (.str "abcdefghijklmnopqrstuvwxyz" tk_LETTERS)))
    (zg_MOST_LETTERS : PySem.W.nsIn K mainGlobals "MOST_LETTERS" = some (some (.int 12 tk_MOST_LETTERS)))
    (zg_FIGURES : PySem.W.nsIn K mainGlobals "FIGURES" = some (some (.str "0123456789" tk_FIGURES)))
    (zg_MOST_FIGURES : PySem.W.nsIn K mainGlobals "MOST_FIGURES" = some (some (.int 30 tk_MOST_FIGURES)))
    (zg_GREATEST_WRITTEN : PySem.W.nsIn K mainGlobals "GREATEST_WRITTEN" = some (some (.int 999999999 tk_GREATEST_WRITTEN)))
    (zb_bool : PySem.W.nsIn K mainGlobals "bool" = some none)
    (zb_enumerate : PySem.W.nsIn K mainGlobals "enumerate" = some none)
    (zb_int : PySem.W.nsIn K mainGlobals "int" = some none)
    (zb_isinstance : PySem.W.nsIn K mainGlobals "isinstance" = some none)
    (zb_len : PySem.W.nsIn K mainGlobals "len" = some none)
    (zb_list : PySem.W.nsIn K mainGlobals "list" = some none)
    (zb_range : PySem.W.nsIn K mainGlobals "range" = some none)
    (zb_str : PySem.W.nsIn K mainGlobals "str" = some none)
    (zb_tuple : PySem.W.nsIn K mainGlobals "tuple" = some none)
    (zb_zip : PySem.W.nsIn K mainGlobals "zip" = some none)
    (zm_EmptyHeap : PySem.W.nsIn K mainGlobals "EmptyHeap" = some (some (.ref c_EmptyHeap)))
    (zm_InRing : PySem.W.nsIn K mainGlobals "InRing" = some (some (.ref c_InRing)))
    (zm_LISTED : PySem.W.nsIn K mainGlobals "LISTED" = some (some (.ref c_LISTED)))
    (zm_NoAmount : PySem.W.nsIn K mainGlobals "NoAmount" = some (some (.ref c_NoAmount)))
    (zm_NoDish : PySem.W.nsIn K mainGlobals "NoDish" = some (some (.ref c_NoDish)))
    (zm_NoName : PySem.W.nsIn K mainGlobals "NoName" = some (some (.ref c_NoName)))
    (zm_NoNet : PySem.W.nsIn K mainGlobals "NoNet" = some (some (.ref c_NoNet)))
    (zm_NoNumber : PySem.W.nsIn K mainGlobals "NoNumber" = some (some (.ref c_NoNumber)))
    (zm_NoPack : PySem.W.nsIn K mainGlobals "NoPack" = some (some (.ref c_NoPack)))
    (zm_NoPlan : PySem.W.nsIn K mainGlobals "NoPlan" = some (some (.ref c_NoPlan)))
    (zm_NoRow : PySem.W.nsIn K mainGlobals "NoRow" = some (some (.ref c_NoRow)))
    (zm_NoStand : PySem.W.nsIn K mainGlobals "NoStand" = some (some (.ref c_NoStand)))
    (zm_NoStandIn : PySem.W.nsIn K mainGlobals "NoStandIn" = some (some (.ref c_NoStandIn)))
    (zm_NoStep : PySem.W.nsIn K mainGlobals "NoStep" = some (some (.ref c_NoStep)))
    (zm_StoveError : PySem.W.nsIn K mainGlobals "StoveError" = some (some (.ref c_StoveError)))
    (zm_TooFew : PySem.W.nsIn K mainGlobals "TooFew" = some (some (.ref c_TooFew)))
    (zm_TooMany : PySem.W.nsIn K mainGlobals "TooMany" = some (some (.ref c_TooMany)))
    (zm_Twice : PySem.W.nsIn K mainGlobals "Twice" = some (some (.ref c_Twice)))
    (ztg_LISTED : TupG K c_LISTED ["split", "chain", "ring"])
    (zt_NoRow : XT K c_NoRow)
    (zs_NoRow_NoRow : PySem.W.subIn K (.ref c_NoRow) (.ref c_NoRow) = some true)
    (zk_NoRow_StoveError : PySem.W.kitOne K (.ref c_NoRow) (.ref c_StoveError) = some true)
    (za_NoRow : XA K c_NoRow c_StoveError)
    (zn_NoRow : PySem.W.findIn K (.ref c_NoRow) "at" = some none)
    (zi_NoRow : XI K c_NoRow)
    (zka_NoRow_1 : PySem.W.kitAny K (.ref c_NoRow) [.ref c_EmptyHeap, .ref c_InRing, .ref c_NoAmount, .ref c_NoDish, .ref c_NoName, .ref c_NoNet, .ref c_NoNumber, .ref c_NoPack, .ref c_NoPlan, .ref c_NoStand] = some false)
    (zka_NoRow_2 : PySem.W.kitAny K (.ref c_NoRow) [.ref c_NoStandIn, .ref c_NoStep, .ref c_TooFew, .ref c_TooMany, .ref c_Twice] = some false)
    (ci_NoRow : XCi K c_NoRow f_NoRow)
    (l_NoRow : K.lookup f_NoRow = some ⟨oc_NoRow, od_NoRow, .func (PySem.W.fnOf "__init__" "NoRow.__init__" (defArgs s_NoRow) (defBody s_NoRow) (defScope s_NoRow) .none kV_NoRow dc_NoRow pm_NoRow an_NoRow cd_NoRow ct_NoRow), sl_NoRow⟩) (cc_NoRow : PySem.W.codeIn K cd_NoRow "NoRow.__init__" = true) (k_NoRow : PySem.W.keepIn K (.ref f_NoRow) = true)
    : ∃ fd : FuncData, (∀ (s : Shared) (v : Value), BindsTo s fd ⟨[v], []⟩ [("_law_script", v)]) ∧ ∀ base : Heap, K.In base → base.Ns mainGlobals mg → FnOk l.prog w K mg base CX0 9 fa fd ["_law_script"] (spLaw K) := by
  have e := hfa.symm.trans (PySem.W.mg_of X G alaw)
  cases e
  have B : Bn K mg c_EmptyHeap c_InRing c_LISTED c_NoAmount c_NoDish c_NoName c_NoNet c_NoNumber c_NoPack c_NoPlan c_NoRow c_NoStand c_NoStandIn c_NoStep c_StoveError c_TooFew c_TooMany c_Twice := ⟨Exists.intro _ <| PySem.W.mg_of X G zg_LETTERS, Exists.intro _ <| PySem.W.mg_of X G zg_MOST_LETTERS, Exists.intro _ <| PySem.W.mg_of X G zg_FIGURES, Exists.intro _ <| PySem.W.mg_of X G zg_MOST_FIGURES, Exists.intro _ <| PySem.W.mg_of X G zg_GREATEST_WRITTEN, PySem.W.mg_none_of X G zb_bool, PySem.W.mg_none_of X G zb_enumerate, PySem.W.mg_none_of X G zb_int, PySem.W.mg_none_of X G zb_isinstance, PySem.W.mg_none_of X G zb_len, PySem.W.mg_none_of X G zb_list, PySem.W.mg_none_of X G zb_range, PySem.W.mg_none_of X G zb_str, PySem.W.mg_none_of X G zb_tuple, PySem.W.mg_none_of X G zb_zip, PySem.W.mg_of X G zm_EmptyHeap, PySem.W.mg_of X G zm_InRing, PySem.W.mg_of X G zm_LISTED, PySem.W.mg_of X G zm_NoAmount, PySem.W.mg_of X G zm_NoDish, PySem.W.mg_of X G zm_NoName, PySem.W.mg_of X G zm_NoNet, PySem.W.mg_of X G zm_NoNumber, PySem.W.mg_of X G zm_NoPack, PySem.W.mg_of X G zm_NoPlan, PySem.W.mg_of X G zm_NoRow, PySem.W.mg_of X G zm_NoStand, PySem.W.mg_of X G zm_NoStandIn, PySem.W.mg_of X G zm_NoStep, PySem.W.mg_of X G zm_StoveError, PySem.W.mg_of X G zm_TooFew, PySem.W.mg_of X G zm_TooMany, PySem.W.mg_of X G zm_Twice, ztg_LISTED, zt_NoRow, zs_NoRow_NoRow, zk_NoRow_StoveError, za_NoRow, zn_NoRow, zi_NoRow, zka_NoRow_1, zka_NoRow_2⟩
  obtain ⟨_, _, _, _, _, _, _, _, _, l_law_alone, c_law_alone, k_law_alone⟩ := q_law_alone
  have F_law_alone := funD_mk (st := s_law_alone) l_law_alone c_law_alone k_law_alone
  have Flaw := funD_mk (st := slaw) llaw claw klaw
  have F_NoRow := funD_mk (st := s_NoRow) l_NoRow cc_NoRow k_NoRow
  refine ⟨PySem.W.fnOf "law" "law" (defArgs slaw) (defBody slaw) (defScope slaw) .none kVlaw dclaw pmlaw anlaw cdlaw ctlaw, ?bind, fun base _ _ => ?ok⟩
  case bind => exact fun s v => .of_eq rfl
  case ok =>
    have z9 : Bx l.prog w base := ⟨⟩
    have I_NoRow : DxI l.prog w K mg base 1 c_NoRow ["self", "at"] (spInit c_NoRow "at") := ⟨f_NoRow, _, ok_NoRow B F_NoRow, ci_NoRow, F_NoRow.binds0 (ps := ["self", "at"]) fun _ _ _ _ _ _ us hl => match us, hl with | [_, _], _ => rfl⟩
    have Dread_figures := mkD z9 X G qread_figures (fun _ _ _ _ _ _ => lenOf1 fun _ => rfl) fun F => okread_figures B F 
    have Dis_name := mkD z9 X G qis_name (fun _ _ _ _ _ _ => lenOf1 fun _ => rfl) fun F => okis_name B F 
    have Dwords_of := mkD z9 X G qwords_of (fun _ _ _ _ _ _ => lenOf1 fun _ => rfl) fun F => okwords_of B F 
    have Dnumber_of := mkD z9 X G qnumber_of (fun _ _ _ _ _ _ => lenOf3 fun _ _ _ => rfl) fun F => oknumber_of B F Dread_figures
    have Dnumbers_text := mkD z9 X G qnumbers_text (fun _ _ _ _ _ _ => lenOf1 fun _ => rfl) fun F => oknumbers_text B F 
    have Dchains_text := mkD z9 X G qchains_text (fun _ _ _ _ _ _ => lenOf2 fun _ _ => rfl) fun F => okchains_text B F Dnumbers_text
    have Drow_text := mkD z9 X G qrow_text (fun _ _ _ _ _ _ => lenOf1 fun _ => rfl) fun F => okrow_text B F Dchains_text
    have Dpaper_text := mkD z9 X G qpaper_text (fun _ _ _ _ _ _ => lenOf1 fun _ => rfl) fun F => okpaper_text B F Drow_text
    have Dread_numbers := mkD z9 X G qread_numbers (fun _ _ _ _ _ _ => lenOf1 fun _ => rfl) fun F => okread_numbers B F Dnumber_of
    have Dread_chain := mkD z9 X G qread_chain (fun _ _ _ _ _ _ => lenOf1 fun _ => rfl) fun F => okread_chain B F Dread_numbers
    have Dread_ways := mkD z9 X G qread_ways (fun _ _ _ _ _ _ => lenOf1 fun _ => rfl) fun F => okread_ways B F Dread_numbers
    have Dread_full := mkD z9 X G qread_full (fun _ _ _ _ _ _ => lenOf1 fun _ => rfl) fun F => okread_full B F Dis_name Dread_chain
    have Dread_row := mkD z9 X G qread_row (fun _ _ _ _ _ _ => lenOf1 fun _ => rfl) fun F => okread_row B F Dwords_of Dread_numbers Dread_ways Dread_full
    have Xread_paper := mkD z9 X G qread_paper (fun _ _ _ _ _ _ => lenOf1 fun _ => rfl) fun F => okread_paper B F Dread_row I_NoRow
    have Dread_paper : Dx l.prog w K mg base CX0 7 "read_paper" ["text"] [] spReadPC := Xread_paper.calm readPX_of
    have D_law_cell_at := mkD z9 X G q_law_cell_at (fun _ _ _ _ _ _ => lenOf2 fun _ _ => rfl) fun F => ok_law_cell_at B F 
    have D_law_numbers := mkD z9 X G q_law_numbers (fun _ _ _ _ _ _ => lenOf2 fun _ _ => rfl) fun F => ok_law_numbers B F 
    have D_law_tool := mkD z9 X G q_law_tool (fun _ _ _ _ _ _ => lenOf1 fun _ => rfl) fun F => ok_law_tool B F 
    have D_law_row := mkD z9 X G q_law_row (fun _ _ _ _ _ _ => lenOf1 fun _ => rfl) fun F => ok_law_row B F D_law_numbers D_law_tool
    have D_law_points := mkD z9 X G q_law_points (fun _ _ _ _ _ _ => lenOf1 fun _ => rfl) fun F => ok_law_points B F 
    have D_law_line := mkD z9 X G q_law_line (fun _ _ _ _ _ _ => lenOf1 fun _ => rfl) fun F => ok_law_line B F D_law_points
    have D_law_alike_vf := mkD z9 X G q_law_alike (fun _ _ _ _ _ _ => lenOf2 fun _ _ => rfl) fun F => ok_law_alike_vf B F 
    have D_law_alike_v0 := mkD z9 X G q_law_alike (fun _ _ _ _ _ _ => lenOf2 fun _ _ => rfl) fun F => ok_law_alike_v0 B F D_law_alike_vf
    have D_law_alike_v1 := mkD z9 X G q_law_alike (fun _ _ _ _ _ _ => lenOf2 fun _ _ => rfl) fun F => ok_law_alike_v1 B F D_law_alike_v0
    have D_law_alike_v2 := mkD z9 X G q_law_alike (fun _ _ _ _ _ _ => lenOf2 fun _ _ => rfl) fun F => ok_law_alike_v2 B F D_law_alike_v1
    have D_law_alike_v3 := mkD z9 X G q_law_alike (fun _ _ _ _ _ _ => lenOf2 fun _ _ => rfl) fun F => ok_law_alike_v3 B F D_law_alike_v2
    have D_law_alike := mkD z9 X G q_law_alike (fun _ _ _ _ _ _ => lenOf2 fun _ _ => rfl) fun F => ok_law_alike B F D_law_alike_v3
    have b_law_alone := F_law_alone.binds0 (ps := ["_law_e"]) fun _ _ _ _ _ _ => lenOf1 (fun _ => rfl)
    have H_law_alone : ∀ hd, DxH hd l.prog w K mg base 1 "_law_alone" ["_law_e"] (spAlone92 c_NoRow) := fun hd => ⟨f_law_alone, _, ok_law_alone B F_law_alone , PySem.W.mg_of X G a_law_alone, k_law_alone, b_law_alone⟩
    have D_law_alone : Dx l.prog w K mg base CX0 1 "_law_alone" ["_law_e"] [] (spAlone92 c_NoRow) := (H_law_alone none).calm
    have D_law_wrong := mkD z9 X G q_law_wrong (fun _ _ _ _ _ _ => lenOf1 fun _ => rfl) fun F => ok_law_wrong B F 
    have D_law_refused := mkD z9 X G q_law_refused (fun _ _ _ _ _ _ => lenOf2 fun _ _ => rfl) fun F => ok_law_refused B F Xread_paper H_law_alone
    exact oklaw B Flaw Dpaper_text Dread_paper D_law_cell_at D_law_row D_law_line D_law_alike D_law_wrong D_law_refused
theorem walk {l : PySem.W.OpenLaw} {q : Program} {loose : List Str} {XP : (Str → Option Value) → Heap → Prop} {YP : World → Heap → Prop} {d : DefRec} {K : Params → PySem.W.Frag} (hn : l.most = some 63) (hdf : d.params.defaults = [])
    (hY : ∀ (w : World) (h : Heap), YP w h → (K w.params).In h)
    (F : ∀ (w : World) (mg : Str → Option Value) (fa : Addr) (h : Heap), (K w.params).In h → h.Ns mainGlobals mg → mg d.name = some (.ref fa) →
      ∃ fd : FuncData, (∀ (s : Shared) (u : Value), BindsTo s fd ⟨[u], []⟩ [("_law_script", u)]) ∧ ∀ base : Heap, (K w.params).In base → base.Ns mainGlobals mg → FnOk l.prog w (K w.params) mg base CX0 9 fa fd ["_law_script"] (spLaw (K w.params))) :
    PySem.W.WalkO q loose XP YP l.row.toRowW d [] (fun f vs => PySem.call f vs) :=
  L2.walk_of (n := 63) (k := 9) (x := "_law_script") (CX := fun _ => CX0) (sp := fun w => spLaw (K w.params)) hn (by decide) hdf ⟨rfl, by decide, by decide⟩ hY F (fun _ _ a ns hl _ hS => ⟨a, ns, rfl, hS, hl, fun _ => rfl⟩) fun _ _ _ _ _ z => z
end Lk92
open PySem PySem.W PyProof.Rows
set_option maxRecDepth 100000 in
set_option maxHeartbeats 0 in
theorem PySem.Challenge.cw_stovework_k92_papers_written_holds : PySem.Challenge.rw_stovework_k92_papers_written.Holds := by
  refine Lk92.hd ?_
  k_fill
  refine Lk92.walk (l := PySem.Challenge.rw_stovework_k92_papers_written) rfl rfl (fun w h Y => PySem.W.kIn_of Y) ?F
  case F =>
    intro w mg fa h KX G hmg
    refine' Lk92.all_mk KX G hmg ?h0 ?h1 ?h2 ?h3 ?h4 ?h5 ?h6 ?h7 ?h8 ?h9 ?h10 ?h11 ?h12 ?h13 ?h14 ?h15 ?h16 ?h17 ?h18 ?h19 ?h20 ?h21 ?h22 ?h23 ?h24 ?h25 ?h26 ?h27 ?h28 ?h29 ?h30 ?h31 ?h32 ?h33 ?h34 ?h35 ?h36 ?h37 ?h38 ?h39 ?h40 ?h41 ?h42 ?h43 ?h44 ?h45 ?h46 ?h47 ?h48 ?h49 ?h50 ?h51 ?h52 ?h53 ?h54 ?h55 ?h56 ?h57 ?h58 ?h59 ?h60 ?h61 ?h62 ?h63 ?h64 ?h65 ?h66 ?h67 ?h68 ?h69 ?h70 ?h71 ?h72 ?h73 ?h74
    (case h0 => exact ⟨by k_is, _, _, _, _, _, _, _, _, _, by k_is, by k_is, by k_is⟩)
    (case h1 => exact ⟨by k_is, _, _, _, _, _, _, _, _, _, by k_is, by k_is, by k_is⟩)
    (case h2 => exact ⟨by k_is, _, _, _, _, _, _, _, _, _, by k_is, by k_is, by k_is⟩)
    (case h3 => exact ⟨by k_is, _, _, _, _, _, _, _, _, _, by k_is, by k_is, by k_is⟩)
    (case h4 => exact ⟨by k_is, _, _, _, _, _, _, _, _, _, by k_is, by k_is, by k_is⟩)
    (case h5 => exact ⟨by k_is, _, _, _, _, _, _, _, _, _, by k_is, by k_is, by k_is⟩)
    (case h6 => exact ⟨by k_is, _, _, _, _, _, _, _, _, _, by k_is, by k_is, by k_is⟩)
    (case h7 => exact ⟨by k_is, _, _, _, _, _, _, _, _, _, by k_is, by k_is, by k_is⟩)
    (case h8 => exact ⟨by k_is, _, _, _, _, _, _, _, _, _, by k_is, by k_is, by k_is⟩)
    (case h9 => exact ⟨by k_is, _, _, _, _, _, _, _, _, _, by k_is, by k_is, by k_is⟩)
    (case h10 => exact ⟨by k_is, _, _, _, _, _, _, _, _, _, by k_is, by k_is, by k_is⟩)
    (case h11 => exact ⟨by k_is, _, _, _, _, _, _, _, _, _, by k_is, by k_is, by k_is⟩)
    (case h12 => exact ⟨by k_is, _, _, _, _, _, _, _, _, _, by k_is, by k_is, by k_is⟩)
    (case h13 => exact ⟨by k_is, _, _, _, _, _, _, _, _, _, by k_is, by k_is, by k_is⟩)
    (case h14 => exact ⟨by k_is, _, _, _, _, _, _, _, _, _, by k_is, by k_is, by k_is⟩)
    (case h15 => exact ⟨by k_is, _, _, _, _, _, _, _, _, _, by k_is, by k_is, by k_is⟩)
    (case h16 => exact ⟨by k_is, _, _, _, _, _, _, _, _, _, by k_is, by k_is, by k_is⟩)
    (case h17 => exact ⟨by k_is, _, _, _, _, _, _, _, _, _, by k_is, by k_is, by k_is⟩)
    (case h18 => exact ⟨by k_is, _, _, _, _, _, _, _, _, _, by k_is, by k_is, by k_is⟩)
    (case h19 => exact ⟨by k_is, _, _, _, _, _, _, _, _, _, by k_is, by k_is, by k_is⟩)
    (case h20 => exact ⟨by k_is, _, _, _, _, _, _, _, _, _, by k_is, by k_is, by k_is⟩)
    (case h21 => k_is)
    (case h22 => exact ⟨_, _, _, _, _, _, _, _, _, by k_is, by k_is, by k_is⟩)
    (case h23 => exact ⟨by k_is, _, _, _, _, _, _, _, _, _, by k_is, by k_is, by k_is⟩)
    (case h24 => exact ⟨by k_is, _, _, _, _, _, _, _, _, _, by k_is, by k_is, by k_is⟩)
    (case h25 => k_is)
    (case h26 => k_is)
    (case h27 => k_is)
    (case h28 => k_is)
    (case h29 => k_is)
    (case h30 => k_is)
    (case h31 => k_is)
    (case h32 => k_is)
    (case h33 => k_is)
    (case h34 => k_is)
    (case h35 => k_is)
    (case h36 => k_is)
    (case h37 => k_is)
    (case h38 => k_is)
    (case h39 => k_is)
    (case h40 => k_is)
    (case h41 => k_is)
    (case h42 => k_is)
    (case h43 => k_is)
    (case h44 => k_is)
    (case h45 => k_is)
    (case h46 => k_is)
    (case h47 => k_is)
    (case h48 => k_is)
    (case h49 => k_is)
    (case h50 => k_is)
    (case h51 => k_is)
    (case h52 => k_is)
    (case h53 => k_is)
    (case h54 => k_is)
    (case h55 => k_is)
    (case h56 => k_is)
    (case h57 => k_is)
    (case h58 => k_is)
    (case h59 => k_is)
    (case h60 => k_is)
    (case h61 => k_is)
    (case h62 => exact ⟨_, _, _, by k_is, rfl, rfl, by decide, .cons ⟨_, rfl⟩ (.cons ⟨_, rfl⟩ (.cons ⟨_, rfl⟩ (.nil)))⟩)
    (case h63 => exact ⟨by k_is, by kernel_rfl, by k_is⟩)
    (case h64 => k_is)
    (case h65 => kernel_rfl)
    (case h66 => exact ⟨by k_is, by kernel_rfl, by kernel_rfl, by k_is⟩)
    (case h67 => k_is)
    (case h68 => exact ⟨⟨by k_is, by k_is, by k_is⟩, by kernel_rfl, by k_is, by k_is, by k_is, by k_is⟩)
    (case h69 => kernel_rfl)
    (case h70 => kernel_rfl)
    (case h71 => exact ⟨⟨_, _, _, _, _, _, _, _, _, _, _, _, _, _, _, _, by k_is, by kernel_rfl, by k_is, by kernel_rfl⟩, by k_is, by k_is⟩)
    (case h72 => k_is)
    (case h73 => k_is)
    (case h74 => k_is)
