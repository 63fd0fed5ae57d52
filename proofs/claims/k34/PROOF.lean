import PyProof.Rows.All
import Wide.All
import OpenK.AllK
import Wide.FinOn
import Lean
import PyProof.EqAt
import PyProof.EqKinds
import PyProof.TupleCall
import PyProof.NeKinds
import PyProof.StationsW
import PyProof.RulesAs
import PyProof.ExcArgsOwn
import PyProof.CompFree
import PyProof.ExcInit
import PyProof.ConsumeWalk
import PyProof.Rows.SeqGen
import PyProof.StrWalks
import PyProof.SliceStr2
import PyProof.MeetsStr
import KE.KIntText
import PyProof.Rows.FStr
import PyProof.StrCalls6
import PyProof.StrBlockL
import PyProof.ToksMono
import PyProof.WalkInts
import PyProof.Rows.MinMaxN
import PyProof.StrLawsReplace
import PyProof.StrLawsTight
import PyProof.Rows.StrLawsPart
import PyProof.DictWalks
import KE.KEqDict
import KE.KDictLaws
import KE.KRevIter
import PyProof.ListCopy
import PyProof.CollectIter
import PyProof.Rows.SetFrom
import PyProof.Rows.SortShellK
import PyProof.Rows.SortStr
import PyProof.Rows.SortWalk
import KE.KDictSum
import KE.KSortTup
import PyProof.TupleOfSeq
import PyProof.Rows.SortRuns
import PyProof.FactsAll.tuple_2
import PyProof.WalksEnum
import PyProof.EnumMake
import PyProof.EnumFor
import PyProof.ZipIter
import KE.KDictOf
import PyProof.DictItems
import PyProof.FactsAll.dict_itemiterator_1
import PyProof.Rows.StrMul
import KE.KDictList
import PyProof.Rows.SumAny
import KE.KIsAll
import PyProof.StrLaws
import PyProof.FactsAll.list_3
import KE.KUnpack
import PySem.Challenge.RW_stovework_k34_recipe_written
/-! The run of a law's top over a tree in the heap's place, at once: then the heap that it stands for is what the head asks. Own work. -/
namespace Ht
open PySem PySem.W PyProof.Rows
/-- steps till the top is through -/
noncomputable def runT (ok : Thread → Bool) (st : SharedT → Thread → Option (SharedT × Thread)) (n : Nat) : SharedT → Thread → Option SharedT :=
  Nat.rec (motive := fun _ => SharedT → Thread → Option SharedT) (fun _ _ => none) (fun _ ih s t =>
    Bool.rec (motive := fun _ => Option SharedT)
      (Bool.rec (motive := fun _ => Option SharedT) none (Option.rec (motive := fun _ => Option SharedT) none (fun r => Prod.rec (motive := fun _ => Option SharedT) (fun s' t' => ih s' t') r) (st s t)) (ok t))
      (some s) (through t)) n
theorem runT_of {tb : String → Option Builtin} {p : Program} {w : World} {m : Nat} {ann : Option Value} : ∀ {n : Nat} {s s' : SharedT} {t : Thread}, runT (stepOk m ann) (stepT (denote tb) p w) n s t = some s' → topRun tb p w m ann n s.abs t = some s'.abs
  | 0, _, _, _, h => by cases h
  | n + 1, s, s', t, h => by
    unfold topRun
    have h' : Bool.rec (motive := fun _ => Option SharedT)
      (Bool.rec (motive := fun _ => Option SharedT) none (Option.rec (motive := fun _ => Option SharedT) none (fun r => Prod.rec (motive := fun _ => Option SharedT) (fun s' t' => runT (stepOk m ann) (stepT (denote tb) p w) n s' t') r) (stepT (denote tb) p w s t)) (stepOk m ann t))
      (some s) (through t) = some s' := h
    cases ht : through t with
    | true => rw [ht] at h'; cases h'; rfl
    | false =>
      rw [ht] at h'
      cases hk : stepOk m ann t with
      | false => rw [hk] at h'; cases h'
      | true =>
        rw [hk] at h'
        cases hs : stepT (denote tb) p w s t with
        | none => rw [hs] at h'; cases h'
        | some r =>
          obtain ⟨s₂, t₂⟩ := r
          rw [hs] at h'
          dsimp only
          rw [stepT_spec hs]
          exact runT_of h'
/-- a tree of a list's things -/
noncomputable def grow (l : List Obj) : Nat → BT → Option BT :=
  List.rec (motive := fun _ => Nat → BT → Option BT) (fun _ t => some t) (fun o _ ih n t =>
    Bool.rec (motive := fun _ => Option BT) none (ih (n + 1) (t.ins n o)) ((t.ins n o).get n).isSome) l
theorem grow_of {life : Life} : ∀ {l : List Obj} {n : Nat} {t t' : BT}, grow l n t = some t' → absHeap t' (n + l.length) life = ⟨(absHeap t n life).objs ++ l.toArray, life⟩
  | [], n, t, t', h => by
    cases h
    simp [absHeap]
  | o :: l, n, t, t', h => by
    have h' : Bool.rec (motive := fun _ => Option BT) none (grow l (n + 1) (t.ins n o)) ((t.ins n o).get n).isSome = some t' := h
    cases e : ((t.ins n o).get n).isSome with
    | false => rw [e] at h'; cases h'
    | true =>
      rw [e] at h'
      have z := grow_of (life := life) h'
      rw [absHeap_ins e] at z
      rw [show n + (o :: l).length = n + 1 + l.length by rw [List.length_cons]; omega, z]
      simp [Heap.push]
noncomputable def treeOf (s : Shared) : Option SharedT :=
  Option.rec (motive := fun _ => Option SharedT) none (fun t => some ⟨t, s.heap.objs.size, s.heap.life, s.gens, s.drawn, s.toks, s.os⟩) (grow s.heap.objs.toList 0 .nil)
theorem treeOf_abs {s : Shared} {s' : SharedT} (h : treeOf s = some s') : s'.abs = s := by
  have h' : Option.rec (motive := fun _ => Option SharedT) none (fun t => some ⟨t, s.heap.objs.size, s.heap.life, s.gens, s.drawn, s.toks, s.os⟩) (grow s.heap.objs.toList 0 .nil) = some s' := h
  cases e : grow s.heap.objs.toList 0 .nil with
  | none => rw [e] at h'; cases h'
  | some t =>
    rw [e] at h'
    cases h'
    have z := grow_of (life := s.heap.life) e
    obtain ⟨⟨objs, life⟩, gens, drawn, toks, os⟩ := s
    simp only [SharedT.abs]
    have z' : absHeap t objs.size life = ⟨objs, life⟩ := by
      simpa [absHeap, BT.list] using z
    rw [z']
/-- the top's run from what the opening left -/
noncomputable def endsT (ok : Nat → Option Value → Thread → Bool) (st : SharedT → Thread → Option (SharedT × Thread)) (p : Program) (N : Nat) (s₀ : Shared) : Option Shared :=
  Bool.rec (motive := fun _ => Option Shared) none
    ((treeOf s₀).bind fun t₀ => (runT (ok s₀.heap.objs.size (s₀.heap.nsMap mainGlobals "__annotations__")) st N t₀ (topStub p)).bind fun t₁ =>
      (fun s₁ => Bool.rec (motive := fun _ => Option Shared) none (some s₁) (staticsOk (importedModules p.main.body) s₀.heap s₁.heap && namesBound p s₁.heap && gensDone s₁ && laidKept s₀.heap s₁.heap)) t₁.abs)
    (s₀.heap.isNs mainGlobals && s₀.gens.size == 0)
theorem endsT_of {tb : String → Option Builtin} {p : Program} {w : World} {N : Nat} {s₀ s : Shared} (h : endsT stepOk (stepT (denote tb) p w) p N s₀ = some s) : topFrom tb p w N s₀ = some s := by
  unfold endsT at h
  unfold topFrom
  cases e : s₀.heap.isNs mainGlobals && s₀.gens.size == 0 with
  | false => rw [e] at h; cases h
  | true =>
    rw [e] at h
    obtain ⟨t₀, e0, h⟩ := Option.bind_eq_some_iff.mp h
    obtain ⟨t₁, e1, h⟩ := Option.bind_eq_some_iff.mp h
    have r := runT_of e1
    rw [treeOf_abs e0] at r
    dsimp only
    rw [r]
    dsimp only at h
    show (match staticsOk (importedModules p.main.body) s₀.heap t₁.abs.heap && namesBound p t₁.abs.heap && gensDone t₁.abs && laidKept s₀.heap t₁.abs.heap with | true => some t₁.abs | false => none) = some s
    cases q : staticsOk (importedModules p.main.body) s₀.heap t₁.abs.heap && namesBound p t₁.abs.heap && gensDone t₁.abs && laidKept s₀.heap t₁.abs.heap with
    | false => rw [q] at h; cases h
    | true => rw [q] at h; exact h
end Ht
/-! The head's run looked at in parts, each by itself: less memory. Own work. -/
namespace Ht
open PySem PySem.W PyProof.Rows
noncomputable def rawT (ok : Nat → Option Value → Thread → Bool) (st : SharedT → Thread → Option (SharedT × Thread)) (p : Program) (N : Nat) (s₀ : Shared) : Option Shared :=
  (treeOf s₀).bind fun t₀ => (runT (ok s₀.heap.objs.size (s₀.heap.nsMap mainGlobals "__annotations__")) st N t₀ (topStub p)).map fun t₁ => t₁.abs
def chkT (p : Program) (s₀ s₁ : Shared) : Bool := (s₀.heap.isNs mainGlobals && s₀.gens.size == 0) && (staticsOk (importedModules p.main.body) s₀.heap s₁.heap && namesBound p s₁.heap && gensDone s₁ && laidKept s₀.heap s₁.heap)
theorem ends_raw {tb : String → Option Builtin} {p : Program} {w : World} {N : Nat} {s₀ s : Shared} (h : rawT stepOk (stepT (denote tb) p w) p N s₀ = some s) (c : chkT p s₀ s = true) : topFrom tb p w N s₀ = some s := by
  apply endsT_of
  unfold rawT at h
  obtain ⟨t₀, e0, h⟩ := Option.bind_eq_some_iff.mp h
  obtain ⟨t₁, e1, rfl⟩ := Option.map_eq_some_iff.mp h
  unfold chkT at c
  rw [Bool.and_eq_true] at c
  unfold endsT
  rw [c.1]
  show ((treeOf s₀).bind fun t₀ => _) = _
  rw [e0]
  show ((runT _ _ N t₀ (topStub p)).bind fun t₁ => _) = _
  rw [e1]
  show (Bool.rec (motive := fun _ => Option Shared) none (some t₁.abs) (staticsOk (importedModules p.main.body) s₀.heap t₁.abs.heap && namesBound p t₁.abs.heap && gensDone t₁.abs && laidKept s₀.heap t₁.abs.heap) : Option Shared) = _
  rw [c.2]
/-- a look at the end of the run -/
abbrev Look (p : Program) (N : Nat) {α : Type} (f : Shared → Shared → α) (v : World → α) : Prop := ∀ w : World, ((importEnds treeTable (opening p) w N (start (opening p)).1 (start (opening p)).2).bind fun s => (fenceModules? p s).bind fun s₀ => (rawT stepOk (stepT (denote treeTable) p w) p N s₀).map fun s₁ => f s₀ s₁) = some (v w)
theorem Look.at_ {p : Program} {N : Nat} {α : Type} {f : Shared → Shared → α} {v : World → α} (h : Look p N f v) (w : World) {s s₀ s₁ : Shared} (a : importEnds treeTable (opening p) w N (start (opening p)).1 (start (opening p)).2 = some s) (b : fenceModules? p s = some s₀) (c : rawT stepOk (stepT (denote treeTable) p w) p N s₀ = some s₁) : f s₀ s₁ = v w := by
  have := h w
  rw [a] at this
  replace this : ((fenceModules? p s).bind fun s₀ => (rawT stepOk (stepT (denote treeTable) p w) p N s₀).map fun s₁ => f s₀ s₁) = some (v w) := this
  rw [b] at this
  replace this : ((rawT stepOk (stepT (denote treeTable) p w) p N s₀).map fun s₁ => f s₀ s₁) = some (v w) := this
  rw [c] at this
  injection this
theorem left_of3 {p q : Program} {loose : List Str} {Xt : Shared → Bool} {α : Type} {Yf : Shared → α} {Ya : World → α} {N : Nat} {g0 : Bool} (hc : Look p N (fun s₀ s₁ => chkT p s₀ s₁) fun _ => true)
    (h1 : Look p N (fun _ s => openSeen q loose (importedModules p.main.body) Xt g0 s) fun _ => openGood q loose) (h2 : Look p N (fun _ s => Yf s) Ya) : LeftO p q loose Xt Yf Ya N g0 := fun w => by
  obtain ⟨s, a, e⟩ := Option.bind_eq_some_iff.mp (hc w)
  obtain ⟨s₀, b, e⟩ := Option.bind_eq_some_iff.mp e
  obtain ⟨s₁, c, e⟩ := Option.map_eq_some_iff.mp e
  have z : openEnds treeTable p w N = some s₁ := by
    unfold openEnds fencedOpening
    rw [a]
    show (fenceModules? p s).bind _ = _
    rw [b]
    exact ends_raw c e
  rw [z]
  show some (_, _) = some (_, _)
  rw [h1.at_ w a b c, h2.at_ w a b c]
end Ht
set_option Elab.async false
set_option linter.all false
set_option maxRecDepth 100000
namespace Lk34
open PySem PySem.W PyProof.Rows
def qv : Program := { PySem.Challenge.pw_stovework_k34_recipe_written with main := { PySem.Challenge.pw_stovework_k34_recipe_written.main with body := ([0, 2, 4, 6, 7, 8, 9, 11, 12, 13, 14, 15, 16, 18, 19, 20, 21, 22, 23, 24, 25, 26, 27, 28, 29, 30, 31, 32, 33, 34, 35, 36, 37, 38] : List Nat).filterMap fun i => PySem.Challenge.pw_stovework_k34_recipe_written.main.body[i]? } }
def lo : List Str := ["Warm"]
/-- what the head asks of the text, but the run of its top -/
theorem head {α : Type} {Yf : Shared → α} {Ya : World → α} {YP : World → Heap → Prop} {d : DefRec} {kwd : List (Str × Expr)} (left : LeftO PySem.Challenge.pw_stovework_k34_recipe_written qv lo (fun s => xlAt qv [] s && recOk [] s) Yf Ya 5002)
    (hY : ∀ w s, Yf s = Ya w → YP w s.heap) (hYk : ∀ w h h', YP w h → (∀ b o, h.get? b = some o → h'.get? b = some o) → YP w h') (hd : defOf qv PySem.Challenge.rw_stovework_k34_recipe_written.row.name = some (d, kwd))
    (hp : PySem.Challenge.rw_stovework_k34_recipe_written.row.prog.theDef PySem.Challenge.rw_stovework_k34_recipe_written.row.name = some (d.params, d.body, d.scope)) (hk : kwWritten? d.params.kwonlyargs d.params.kw_defaults = some kwd)
    (said : PySem.Challenge.rw_stovework_k34_recipe_written.row.wellSaid = true) (hw : PySem.Challenge.rw_stovework_k34_recipe_written.row.toRowW.promised) (call : WalkO qv lo (XL qv []) YP PySem.Challenge.rw_stovework_k34_recipe_written.row.toRowW d kwd fun f vs => PySem.call f vs) : PySem.Challenge.rw_stovework_k34_recipe_written.row.Holds :=
  holds_open left hY hYk (fun s e => xl_of s (Bool.and_eq_true_iff.mp e).1) XL.keeps hd hp hk (fun s e => recFacts_of (Bool.and_eq_true_iff.mp e).2) rfl said (by decide +kernel) ⟨rfl, rfl, rfl, rfl, rfl, by decide +kernel⟩ hw call
end Lk34
namespace Lk34
open PySem PySem.W PyProof.Rows
set_option maxHeartbeats 0 in
theorem la : Ht.Look PySem.Challenge.pw_stovework_k34_recipe_written 5002 (fun s₀ s₁ => Ht.chkT PySem.Challenge.pw_stovework_k34_recipe_written s₀ s₁) (fun _ => true) := by
  intro w
  rw [PySem.W.Fast.te10274390034422433532, PySem.W.Fast.te14289696077712309145, PySem.W.Fast.te6613529449190102663, PySem.W.Fast.te10156331382660048174, PySem.W.Fast.te11892475500146522536, PySem.W.Fast.te14364793385576792824]
  kernel_rfl
set_option maxHeartbeats 0 in
theorem lb : Ht.Look PySem.Challenge.pw_stovework_k34_recipe_written 5002 (fun _ s => openSeen qv lo (importedModules PySem.Challenge.pw_stovework_k34_recipe_written.main.body) (fun s => xlAt qv [] s && recOk [] s) true s) (fun _ => openGood qv lo) := by
  intro w
  rw [PySem.W.Fast.te10274390034422433532, PySem.W.Fast.te14289696077712309145, PySem.W.Fast.te6613529449190102663, PySem.W.Fast.te10156331382660048174, PySem.W.Fast.te11892475500146522536, PySem.W.Fast.te14364793385576792824, PySem.W.Fast.te4187177175401517315]
  kernel_rfl
end Lk34
local macro_rules | `(tactic| o_head $H) => `(tactic| (refine Lk34.head (Yf := PySem.W.Hook.obs $H) (Ya := PySem.W.Hook.val $H) (YP := PySem.W.Hook.says $H) ?hl (PySem.W.Hook.of $H) (PySem.W.Hook.keeps $H) (by rfl) (by rfl) (by rfl) (by assumption) ?hw ?hc; (case hl => (refine Ht.left_of3 Lk34.la Lk34.lb ?c; (case c => (intro w; rw [PySem.W.Fast.te10274390034422433532, PySem.W.Fast.te14289696077712309145, PySem.W.Fast.te6613529449190102663, PySem.W.Fast.te10156331382660048174, PySem.W.Fast.te11892475500146522536, PySem.W.Fast.te14364793385576792824]; kernel_rfl))))))
namespace PySem.W.Fast
def tw9220974220772741950 : PySem.Program := PySem.Challenge.pw_stovework_k34_recipe_written
theorem te9220974220772741950 : PySem.Challenge.pw_stovework_k34_recipe_written = tw9220974220772741950 := rfl
end PySem.W.Fast
set_option maxHeartbeats 0 in
open_top Lk34.hd for PySem.Challenge.rw_stovework_k34_recipe_written
set_option Elab.async false
set_option linter.all false
set_option maxRecDepth 100000
/-! THE HAND LAYER, for ints, bools, texts, own classes, LISTS and tuples (index, slices, in, append, pop ..), calls, loops. Paste it whole ahead of your own text; what your proof does not reach may be deleted. -/
namespace L2
open PySem PySem.Spec PyProof.Rows

/-- a key: an int or a str -/
abbrev Key := Sum Int Str
def keyIs : Key → Value → Bool
  | .inl k, v => Value.isInt k v
  | .inr x, v => Value.isStrOf x v
def keyH (w : World) : Key → Int
  | .inl k => hashInt k
  | .inr x => hashStr w x
theorem keyIs_shape : ∀ {k : Key} {v : Value}, keyIs k v = true → (∃ i t, k = Sum.inl i ∧ v = Value.int i t) ∨ (∃ x t, k = Sum.inr x ∧ v = Value.str x t)
  | .inl i, v, h => by
    obtain ⟨t, e⟩ := Value.isInt_shape (k := i) (v := v) h
    exact .inl ⟨i, t, rfl, e⟩
  | .inr x, v, h => by
    obtain ⟨t, e⟩ := Value.isStrOf_shape (x := x) (v := v) h
    exact .inr ⟨x, t, rfl, e⟩
theorem key_ll (a b : Int) : decide ((Sum.inl a : Key) = Sum.inl b) = (a == b) := by
  by_cases e : a = b
  · subst e; simp
  · have h : ¬ (Sum.inl a : Key) = Sum.inl b := fun q => e (Sum.inl.inj q)
    rw [decide_eq_false h]
    exact (beq_eq_false_iff_ne.mpr e).symm
theorem key_rr (a b : Str) : decide ((Sum.inr a : Key) = Sum.inr b) = decide (a = b) := by
  by_cases e : a = b
  · subst e; simp
  · have h : ¬ (Sum.inr a : Key) = Sum.inr b := fun q => e (Sum.inr.inj q)
    rw [decide_eq_false h, decide_eq_false e]
theorem key_lr (a : Int) (b : Str) : decide ((Sum.inl a : Key) = Sum.inr b) = false := decide_eq_false (fun q => nomatch q)
theorem key_rl (a : Str) (b : Int) : decide ((Sum.inr a : Key) = Sum.inl b) = false := decide_eq_false (fun q => nomatch q)

def mixKind (prog : Program) (w : World) : PySem.KeyKind prog w Key where
  is := keyIs
  hash := keyH w
  inj := fun v a b ha hb => by
    rcases keyIs_shape ha with ⟨i, t, rfl, rfl⟩ | ⟨x, t, rfl, rfl⟩
    · rcases keyIs_shape hb with ⟨j, u, rfl, e⟩ | ⟨y, u, rfl, e⟩
      · injection e with e1 _; rw [e1]
      · exact nomatch e
    · rcases keyIs_shape hb with ⟨j, u, rfl, e⟩ | ⟨y, u, rfl, e⟩
      · exact nomatch e
      · injection e with e1 _; rw [e1]
  byValue := fun k v h => by
    rcases keyIs_shape h with ⟨i, t, rfl, rfl⟩ | ⟨x, t, rfl, rfl⟩ <;> rfl
  pyHash := fun hv h => by
    rcases keyIs_shape hv with ⟨i, t, rfl, rfl⟩ | ⟨x, t, rfl, rfl⟩
    · exact wpAny_pyHash_int h
    · exact wpAny_pyHash_str h
  eqBool := fun hu hv h => by
    rcases keyIs_shape hu with ⟨i, t, rfl, rfl⟩ | ⟨x, t, rfl, rfl⟩
    · rcases keyIs_shape hv with ⟨j, u, rfl, rfl⟩ | ⟨y, u, rfl, rfl⟩
      · rw [key_ll] at h; exact wpAny_eqBool_int h
      · rw [key_lr] at h; exact SeqAt.EqAt.int_str i t y u _ _ _ _ h
    · rcases keyIs_shape hv with ⟨j, u, rfl, rfl⟩ | ⟨y, u, rfl, rfl⟩
      · rw [key_rl] at h; exact SeqAt.EqAt.str_int x t j u _ _ _ _ h
      · rw [key_rr] at h; exact wpAny_eqBool_str h
  «strs» := fun k x t v h => by
    rcases keyIs_shape h with ⟨i, u, rfl, e⟩ | ⟨y, u, rfl, e⟩
    · exact nomatch e
    · injection e with e1 _
      subst e1
      cases v <;> rfl

end L2

namespace L2
open PySem PySem.Spec PyProof.Rows

/-- a value, without the heap -/
inductive V where
  | non | bl (b : Bool) | int (i : Int) | str (x : Str) | byt (b : Array UInt8) | flt (b : UInt64) | ref (a : Addr) | ty (n : String)
  deriving DecidableEq

def RelV : V → Value → Prop
  | .non, u => u = Value.none
  | .bl b, u => u = Value.bool b
  | .int i, u => ∃ t, u = Value.int i t
  | .str x, u => ∃ t, u = Value.str x t
  | .byt b, u => ∃ t, u = Value.bytes b t
  | .flt b, u => ∃ t, u = Value.float b t
  | .ref a, u => u = Value.ref a
  | .ty n, u => u = Value.type n

abbrev Vals : List V → List Value → Prop := Paired RelV
theorem Vals.length {xs : List V} {us : List Value} (r : Vals xs us) : xs.length = us.length := Paired.length r
theorem Vals.get : ∀ {xs : List V} {us : List Value} {i : Nat} {x : V}, Vals xs us → xs[i]? = some x → ∃ u, us[i]? = some u ∧ RelV x u
  | _, _, _, _, .nil, e => by simp at e
  | _, _, 0, _, .cons r _, e => by simp at e; subst e; exact ⟨_, rfl, r⟩
  | _, _, i + 1, x, .cons _ t, e => by
    obtain ⟨u, h1, h2⟩ := Vals.get (i := i) (x := x) t (by simpa using e)
    exact ⟨u, by simpa using h1, h2⟩
theorem Vals.set {x : V} {u : Value} (r : RelV x u) : ∀ {xs : List V} {us : List Value} (i : Nat), Vals xs us → Vals (xs.set i x) (us.set i u)
  | _, _, _, .nil => .nil
  | _, _, 0, .cons _ t => .cons r t
  | _, _, i + 1, .cons q t => .cons q (Vals.set r i t)
theorem Vals.append : ∀ {xs ys : List V} {us ws : List Value}, Vals xs us → Vals ys ws → Vals (xs ++ ys) (us ++ ws)
  | _, _, _, _, .nil, s => s
  | _, _, _, _, .cons r t, s => .cons r (Vals.append t s)
theorem Vals.take : ∀ {xs : List V} {us : List Value} (n : Nat), Vals xs us → Vals (xs.take n) (us.take n)
  | _, _, 0, _ => .nil
  | _, _, _ + 1, .nil => .nil
  | _, _, n + 1, .cons r t => .cons r (Vals.take n t)
theorem Vals.drop : ∀ {xs : List V} {us : List Value} (n : Nat), Vals xs us → Vals (xs.drop n) (us.drop n)
  | _, _, 0, r => r
  | _, _, _ + 1, .nil => .nil
  | _, _, n + 1, .cons _ t => Vals.drop n t
def RelO : Option V → Option Value → Prop
  | some v, some u => RelV v u
  | none, none => True
  | _, _ => False
def KV {κ : Type} : List (κ × V) → List (κ × Value) → Prop := Paired fun (p : κ × V) (q : κ × Value) => p.1 = q.1 ∧ RelV p.2 q.2

/-- a key of a dict (00_mix): an int or a text -/
def kV : Key → V
  | .inl i => .int i
  | .inr x => .str x

/-- what stands at a tracked address -/
inductive HO where
  /-- a list -/
  | lst (xs : List V)
  /-- a tuple (never changes) -/
  | tup (xs : List V)
  /-- a dict whose keys are ints and texts; one whose keys are tuples of ints and texts (the empty one is both) -/
  | dK (kvs : List (Key × V)) | dT (kvs : List (List Key × V))
  /-- a set of ints: its members, its size -/
  | set (S : Int → Bool) (n : Nat)
  /-- an instance of the class at C, its dict at dx, its attributes -/
  | ins (C dx : Addr) (fs : List (Str × V))
  /-- the dict of the instance at x -/
  | own (x : Addr)
  /-- the dict of an exception -/
  | xd (fs : List (Str × V))
  /-- a bound method, f of x -/
  | met (f x : Addr)
  /-- a range object lo, lo + 1, .. below hi -/
  | rng (lo hi : Int)
  /-- a thing that is known to the object (the script; a dict while a loop walks it): read, never written while it is so -/
  | frz (o : Obj) (u : HO)
  /-- a code object's table -/
  | tbl (ps : Array Value)
  /-- any other thing, by what is true of its one object (a def of one's own: SetO a S n := HO.ext fun h => ..) -/
  | ext (φ : Heap → Prop)

abbrev Hp := Addr → Option HO
def upd (H : Hp) (a : Addr) (o : HO) : Hp := fun b => if b = a then some o else H b
theorem upd_same {H : Hp} {a : Addr} {o : HO} : upd H a o a = some o := by unfold upd; rw [if_pos rfl]
theorem upd_ne {H : Hp} {a b : Addr} {o : HO} (h : b ≠ a) : upd H a o b = H b := by unfold upd; rw [if_neg h]
theorem ne_of_none {H : Hp} {a b : Addr} {o : HO} (h : H a = some o) (h' : H b = none) : a ≠ b := by
  intro e; subst e; rw [h] at h'; cases h'

section
variable (P : Program) (w : World)
def ObjOk (H : Hp) (h : Heap) (a : Addr) : HO → Prop
  | .lst xs => xs.length ≤ sizeLine ∧ ∃ (its : List Value) (n : Nat), Vals xs its ∧ h.get? a = some { cls := .type "list", data := .seq its.toArray n }
  | .tup xs => xs.length ≤ sizeLine ∧ ∃ its : List Value, Vals xs its ∧ IsTup h a its.toArray
  | .dK kvs => kvs.length ≤ sizeLine ∧ (a == sysModules) = false ∧ ∃ vs, KV kvs vs ∧ h.DictOf (mixKind P w) a vs
  | .dT kvs => kvs.length ≤ sizeLine ∧ (a == sysModules) = false ∧ ∃ xs : List (List Key × Addr × Value),
      Paired (fun (p : List Key × V) (q : List Key × Addr × Value) => p.1 = q.1 ∧ H q.2.1 = some (.tup (p.1.map kV)) ∧ RelV p.2 q.2.2) kvs xs ∧
      ∃ o es ep, h.get? a = some o ∧ o.ExactDict ∧ o.data = .dict es ep ∧ es.toList = xs.map (entryOfKey (tupleKind (mixKind P w))) ∧ (xs.map (·.1)).Nodup
  | .set S n => h.SetOf (intKind P w) a S n
  | .ins C dx fs => H dx = some (.own a) ∧ fs.length ≤ 1000 ∧ dx ≠ a ∧ h.get? a = some (PySem.W.instObj C dx) ∧
      ∃ mA, h.Ns1 dx mA ∧ (∀ f, RelO (fs.lookup f) (mA f)) ∧ PySem.Within mA (fs.map (·.1))
  | .own _ => ∃ o, h.get? a = some o
  | .xd fs => ∃ mA, h.Ns1 a mA ∧ ∀ f, RelO (fs.lookup f) (mA f)
  | .rng lo hi => ∃ t u v, h.get? a = some { cls := .type "range", data := .fields #[.int lo t, .int hi u, .int 1 v] }
  | .frz o u => h.get? a = some o ∧ ObjOk H h a u
  | .tbl ps => h.get? a = some { cls := .none, data := .fields ps }
  | .met f x => h.get? a = some (PySem.W.methodObj (.ref f) (.ref x))
  | .ext φ => φ h ∧ (∃ o, h.get? a = some o) ∧ ∀ h1 h2 : Heap, φ h1 → (∀ o, h1.get? a = some o → h2.get? a = some o) → φ h2
/-- the abstract heap is held -/
def HOk (H : Hp) (h : Heap) : Prop := ∀ a o, H a = some o → ObjOk P w H h a o
end

section
variable {P : Program} {w : World} {H H' : Hp} {h h' : Heap} {a : Addr} {o : HO}
theorem ObjOk.lt (x : ObjOk P w H h a o) : a < h.objs.size := by
  cases o with
  | lst xs => obtain ⟨_, _, _, _, e⟩ := x; exact Heap.lt_size e
  | tup xs => obtain ⟨_, _, _, p⟩ := x; exact p.lt
  | dK kvs => obtain ⟨_, _, _, _, o, _, _, e, _⟩ := x; exact Heap.lt_size e
  | dT kvs => obtain ⟨_, _, _, _, o, _, _, e, _⟩ := x; exact Heap.lt_size e
  | set S n => obtain ⟨o, _, _, _, e, _⟩ := x; exact Heap.lt_size e
  | ins C dx fs => obtain ⟨_, _, _, e, _⟩ := x; exact Heap.lt_size e
  | own y => obtain ⟨_, e⟩ := x; exact Heap.lt_size e
  | xd fs => obtain ⟨_, ⟨_, _, _, e, _⟩, _⟩ := x; exact Heap.lt_size e
  | rng lo hi => obtain ⟨_, _, _, e⟩ := x; exact Heap.lt_size e
  | frz ob u => obtain ⟨e, _⟩ := x; exact Heap.lt_size e
  | tbl ps => exact Heap.lt_size (show h.get? a = some _ from x)
  | met f y => exact Heap.lt_size (show h.get? a = some _ from x)
  | ext φ => obtain ⟨_, ⟨_, e⟩, _⟩ := x; exact Heap.lt_size e
theorem Paired.mapP {α β : Type} {F G : α → β → Prop} : ∀ {l₁ : List α} {l₂ : List β}, Paired F l₁ l₂ → (∀ a b, F a b → G a b) → Paired G l₁ l₂
  | _, _, .nil, _ => .nil
  | _, _, .cons r t, f => .cons (f _ _ r) (Paired.mapP t f)
/-- what an object's description leans on: its own object, its own dict, the tuples -/
theorem ObjOk.stay (x : ObjOk P w H h a o) (k : ∀ b u, (b = a ∨ H b = some (.own a)) → h.get? b = some u → h'.get? b = some u)
    (ho : ∀ b, H b = some (.own a) → H' b = some (.own a)) (ht : ∀ b xs, H b = some (.tup xs) → H' b = some (.tup xs)) : ObjOk P w H' h' a o := by
  induction o with
  | lst xs => obtain ⟨z, its, n, r, e⟩ := x; exact ⟨z, its, n, r, k _ _ (.inl rfl) e⟩
  | tup xs => obtain ⟨z, its, r, ob, e, c⟩ := x; exact ⟨z, its, r, ob, k _ _ (.inl rfl) e, c⟩
  | dK kvs => obtain ⟨z, y, vs, r, ob, es, ep, e, c⟩ := x; exact ⟨z, y, vs, r, ob, es, ep, k _ _ (.inl rfl) e, c⟩
  | dT kvs =>
    obtain ⟨z, y, xs, r, ob, es, ep, e, c⟩ := x
    exact ⟨z, y, xs, Paired.mapP r fun p q z => ⟨z.1, ht _ _ z.2.1, z.2.2⟩, ob, es, ep, k _ _ (.inl rfl) e, c⟩
  | set S n => obtain ⟨ob, es, ep, t, e, c⟩ := x; exact ⟨ob, es, ep, t, k _ _ (.inl rfl) e, c⟩
  | ins C dx fs =>
    obtain ⟨d, z, ne, e, mA, ⟨od, es, ep, e2, c⟩, r⟩ := x
    exact ⟨ho _ d, z, ne, k _ _ (.inl rfl) e, mA, ⟨od, es, ep, k _ _ (.inr d) e2, c⟩, r⟩
  | own y => obtain ⟨ob, e⟩ := x; exact ⟨ob, k _ _ (.inl rfl) e⟩
  | xd fs => obtain ⟨mA, ⟨od, es, ep, e, c⟩, r⟩ := x; exact ⟨mA, ⟨od, es, ep, k _ _ (.inl rfl) e, c⟩, r⟩
  | rng lo hi => obtain ⟨t, u, v, e⟩ := x; exact ⟨t, u, v, k _ _ (.inl rfl) e⟩
  | frz ob u ih => obtain ⟨e, q⟩ := x; exact ⟨k _ _ (.inl rfl) e, ih q⟩
  | tbl ps =>
    have e : h.get? a = some { cls := .none, data := .fields ps } := x
    show h'.get? a = some { cls := .none, data := .fields ps }
    exact k a _ (.inl rfl) e
  | met f y =>
    have e : h.get? a = some (PySem.W.methodObj (.ref f) (.ref y)) := x
    show h'.get? a = some (PySem.W.methodObj (.ref f) (.ref y))
    exact k a _ (.inl rfl) e
  | ext φ => obtain ⟨p, ⟨o, e⟩, st⟩ := x; exact ⟨st _ _ p fun o q => k _ _ (.inl rfl) q, ⟨o, k _ _ (.inl rfl) e⟩, st⟩
theorem HOk.lt (x : HOk P w H h) (e : H a = some o) : a < h.objs.size := (x a o e).lt
theorem HOk.fresh (x : HOk P w H h) (e : h.objs.size ≤ a) : H a = none := by
  cases q : H a with
  | none => rfl
  | some u => exact absurd (Nat.lt_of_lt_of_le (x.lt q) e) (Nat.lt_irrefl _)
/-- every object of the heap is kept -/
theorem HOk.kept (x : HOk P w H h) (k : ∀ b u, h.get? b = some u → h'.get? b = some u) : HOk P w H h' := fun a o e =>
  (x a o e).stay (fun b u _ q => k b u q) (fun _ q => q) fun _ _ q => q
/-- a new object is laid and tracked -/
theorem HOk.laid (x : HOk P w H h) (k : ∀ b u, h.get? b = some u → h'.get? b = some u) (hp : h.objs.size ≤ a) (new : ObjOk P w (upd H a o) h' a o) : HOk P w (upd H a o) h' := fun b u e => by
  have hn := x.fresh hp
  by_cases hb : b = a
  · subst hb; rw [upd_same] at e; cases e; exact new
  · rw [upd_ne hb] at e
    exact (x b u e).stay (fun c v _ q => k c v q) (fun c q => by rw [upd_ne (ne_of_none q hn)]; exact q) fun c xs q => by rw [upd_ne (ne_of_none q hn)]; exact q
end

/-- what may be read as u: it is u, or a known u -/
def Rd (H : Hp) (a : Addr) (u : HO) : Prop := H a = some u ∨ ∃ o, H a = some (.frz o u)
theorem Rd.ok {P : Program} {w : World} {H : Hp} {h : Heap} {a : Addr} {u : HO} (r : Rd H a u) (x : HOk P w H h) : ObjOk P w H h a u := by
  rcases r with r | ⟨o, r⟩
  · exact x a u r
  · obtain ⟨_, q⟩ := x a _ r
    exact q
/-- what may be written -/
def Mut : Option HO → Prop
  | some (.lst _) => True
  | some (.dK _) => True
  | some (.dT _) => True
  | some (.set _ _) => True
  | some (.ins _ _ _) => True
  | some (.ext _) => True
  | _ => False
section
variable {P : Program} {w : World} {H : Hp} {h h' : Heap} {x e : Addr} {o' : HO}
/-- the object at e is changed: x itself, or the dict of the instance x -/
theorem HOk.write (ok : HOk P w H h) (mu : Mut (H x)) (he : e = x ∨ H e = some (.own x)) (k : ∀ b u, b ≠ e → h.get? b = some u → h'.get? b = some u) (heo : ∃ u, h'.get? e = some u)
    (new : ObjOk P w (upd H x o') h' x o') : HOk P w (upd H x o') h' := fun b u q => by
  have nown : ∀ c y, H c = some (.own y) → c ≠ x := fun c y r z => by subst z; rw [r] at mu; exact mu
  have ntup : ∀ c xs, H c = some (.tup xs) → c ≠ x := fun c xs r z => by subst z; rw [r] at mu; exact mu
  by_cases hb : b = x
  · subst hb; rw [upd_same] at q; cases q; exact new
  · rw [upd_ne hb] at q
    by_cases hbe : b = e
    · have q' : H b = some (.own x) := by
        rcases he with z | z
        · exact absurd (hbe.trans z) hb
        · rw [hbe]; exact z
      rw [q] at q'; cases q'
      obtain ⟨v, hv⟩ := heo
      exact ⟨v, by rw [hbe]; exact hv⟩
    · refine (ok b u q).stay (fun c v hc r => k c v ?_ r) (fun c r => by rw [upd_ne (nown c b r)]; exact r) fun c xs r => by rw [upd_ne (ntup c xs r)]; exact r
      rcases hc with rfl | hc
      · exact hbe
      · rintro rfl
        rcases he with z | z
        · exact nown c b hc z
        · rw [hc] at z; cases z; exact hb rfl
end

/-! ### kept unless tracked; of the frames at fs (the callers') the slots may change (an exception that passes writes there); of the records at ex (iterators) nothing is said -/
structure Un (fs ex : List Addr) (H H' : Hp) (h h' : Heap) : Prop where
  keep : ∀ b o, h.get? b = some o → H b = none → b ∉ fs → b ∉ ex → h'.get? b = some o
  slot : ∀ b o, h.get? b = some o → H b = none → b ∈ fs → b ∉ ex → ∃ sl, h'.get? b = some { o with slots := sl }
  free : ∀ b o, h.get? b = some o → H b = none → b ∉ ex → H' b = none
  there : ∀ b o, h.get? b = some o → b ∉ ex → ∃ o', h'.get? b = some o'
  tups : ∀ b xs, H b = some (.tup xs) → H' b = some (.tup xs)
  frzs : ∀ b o u, H b = some (.frz o u) → H' b = some (.frz o u)
  tbls : ∀ b ps, H b = some (.tbl ps) → ∃ more, H' b = some (.tbl (ps ++ more))
section
variable {fs fs' ex ex' : List Addr} {H H1 H2 : Hp} {h h1 h2 h' : Heap} {a x e : Addr} {o : HO}
theorem Un.any (u : Un fs ex H H1 h h1) {b : Addr} {ob : Obj} (q : h.get? b = some ob) (n : H b = none) (hx : b ∉ ex) : ∃ sl, h1.get? b = some { ob with slots := sl } := by
  by_cases hb : b ∈ fs
  · exact u.slot b ob q n hb hx
  · exact ⟨ob.slots, u.keep b ob q n hb hx⟩
theorem Un.kept (k : ∀ b u, h.get? b = some u → h'.get? b = some u) : Un fs ex H H h h' :=
  ⟨fun b ob q _ _ _ => k b ob q, fun b ob q _ _ _ => ⟨ob.slots, k b ob q⟩, fun _ _ _ n _ => n, fun b ob q _ => ⟨ob, k b ob q⟩, fun _ _ q => q, fun _ _ _ q => q, fun _ ps q => ⟨#[], by rw [q]; simp⟩⟩
theorem Un.refl : Un fs ex H H h h := Un.kept fun _ _ q => q
theorem Un.laid (k : ∀ b u, h.get? b = some u → h'.get? b = some u) (hp : h.objs.size ≤ a) (hn : H a = none) : Un fs ex H (upd H a o) h h' where
  keep := fun b u q _ _ _ => k b u q
  slot := fun b u q _ _ _ => ⟨u.slots, k b u q⟩
  free := fun b u q n _ => by rw [upd_ne (Nat.ne_of_lt (Nat.lt_of_lt_of_le (Heap.lt_size q) hp))]; exact n
  there := fun b u q _ => ⟨u, k b u q⟩
  tups := fun b xs q => by rw [upd_ne (ne_of_none q hn)]; exact q
  frzs := fun b u xs q => by rw [upd_ne (ne_of_none q hn)]; exact q
  tbls := fun b ps q => ⟨#[], by rw [upd_ne (ne_of_none q hn), q]; simp⟩
theorem Un.write (mu : Mut (H x)) (he : e = x ∨ H e = some (.own x)) (k : ∀ b u, b ≠ e → h.get? b = some u → h'.get? b = some u) (heo : ∃ u, h'.get? e = some u) : Un fs ex H (upd H x o) h h' := by
  have hx : ∀ b, H b = none → b ≠ x := fun b n z => by subst z; rw [n] at mu; exact mu
  have hb : ∀ b, H b = none → b ≠ e := fun b n z => by
    subst z
    rcases he with r | r
    · exact hx b n r
    · rw [n] at r; cases r
  have hm : ∀ b u, H b = some u → ¬ Mut (some u) → b ≠ x := fun b u q nm z => by subst z; rw [q] at mu; exact nm mu
  refine ⟨fun b u q n _ _ => k b u (hb b n) q, fun b u q n _ _ => ⟨u.slots, k b u (hb b n) q⟩, fun b u q n _ => by rw [upd_ne (hx b n)]; exact n, fun b u q _ => ?_,
    fun b xs q => by rw [upd_ne (hm b _ q fun z => z)]; exact q, fun b u xs q => by rw [upd_ne (hm b _ q fun z => z)]; exact q, fun b ps q => ⟨#[], by rw [upd_ne (hm b _ q fun z => z), q]; simp⟩⟩
  by_cases hbe : b = e
  · subst hbe; exact heo
  · exact ⟨u, k b u hbe q⟩
end

/-! ### the heap without what is tracked -/
def trk (h : Heap) (H : Hp) : List Addr := (List.range h.objs.size).filter fun a => (H a).isSome
def hidT (h : Heap) (H : Hp) : Heap := PySem.W.hideAll h (trk h H)
theorem hidT_size (h : Heap) (H : Hp) : (hidT h H).objs.size = h.objs.size := PySem.W.hideAll_size _ _
theorem hidT_get {h : Heap} {H : Hp} {b : Addr} {o : Obj} (e : h.get? b = some o) (n : H b = none) : (hidT h H).get? b = some o :=
  PySem.W.hideAll_get _ e fun hm => by
    have q : (H b).isSome = true := (List.mem_filter.mp hm).2
    rw [n] at q; simp at q
theorem of_hidT {h : Heap} {H : Hp} {b : Addr} {o : Obj} (e : (hidT h H).get? b = some o) : h.get? b = some o ∧ H b = none := by
  have e' : h.get? b = some o := PySem.W.of_hideAll (trk h H) e
  refine ⟨e', ?_⟩
  cases q : H b with
  | none => rfl
  | some x =>
    have hm : b ∈ trk h H := List.mem_filter.mpr ⟨List.mem_range.mpr (Heap.lt_size e'), by simp [q]⟩
    have z : (hidT h H).get? b = none := PySem.W.hideAll_none (trk h H) hm
    rw [z] at e; cases e

/-! ### OpenK's ledger, filled with every new object but one -/
end L2

namespace L2
open PySem PySem.Spec PyProof.Rows

/-- the module's facts, over the base: the heap at the law's entry without what is tracked there -/
structure Mod (K : PySem.W.Frag) (mg : Str → Option Value) (base : Heap) : Prop where
  kin : K.In base
  glob : base.Ns mainGlobals mg
  blt : ∃ mb, base.Ns builtinsNs mb ∧ ∀ x : Str, x ≠ "__name__" → mb x = bootBuiltins x
  nolimit : base.NoLimit

/-- the context: a def's body (or a comprehension's block) running. base: fixed through the whole law; s₀, H₀: the entry; outer: the frames whose slots others may change (a def's callers); stack: all frames that run;
   ex: iterators that were made ahead of the entry and are walked here (a comprehension's); fn: the names whose cells were made at the entry (a def: all; a comprehension's block: its own); calm: not within an except suite; pn: pins that every state bears; xe: what is wanted of an exception that leaves the code -/
structure Cx where
  prog : Program
  w : World
  K : PySem.W.Frag
  mg : Str → Option Value
  base : Heap
  A : Around
  N : List Str
  s₀ : Shared
  H₀ : Hp
  env : Env
  outer : List Env
  stack : List Env
  ex : List Addr
  fn : Str → Bool
  calm : Bool
  pn : List (Addr × Obj)
  xe : Value → Shared → Prop
/-- the callers' frames -/
def frs (l : List Env) : List Addr := l.filterMap (·.frame)
abbrev Cx.fs (X : Cx) : List Addr := frs X.outer

def Vis (sc : Scope) (x : Str) : Prop := sc.names.lookup x = some .local ∨ sc.names.lookup x = some .cell ∨ sc.names.lookup x = some .free
def Loc (sc : Scope) (x : Str) : Prop := sc.names.lookup x = some .local ∨ sc.names.lookup x = some .cell
def Look (env : Env) (h : Heap) (m : Str → Option Value) (x : Str) (u : Value) : Prop :=
  (env.kindOf x = some .local ∧ m x = some u) ∨ ((env.kindOf x = some .cell ∨ env.kindOf x = some .free) ∧ ∃ c, env.cells.lookup x = some c ∧ h.IsCell c (some u))

structure Cx.Ok (X : Cx) : Prop where
  mod : Mod X.K X.mg X.base
  kind : X.env.scope.kind = .function
  glob : X.env.globals = mainGlobals
  blt : X.env.builtins = builtinsNs
  above : X.s₀.heap.objs.size ≤ X.env.locals
  inj : ∀ x y c, X.env.cells.lookup x = some c → X.env.cells.lookup y = some c → x = y
  has : ∀ x, (X.env.kindOf x = some .cell ∨ X.env.kindOf x = some .free) → ∃ c, X.env.cells.lookup x = some c
  cab : ∀ x c, X.fn x = true → X.env.cells.lookup x = some c → X.s₀.heap.objs.size ≤ c
  hd : X.calm = true → X.A.handled = none
  frames : X.A.frames = some X.stack
  stk : X.stack = X.outer ∨ (X.stack = X.env :: X.outer ∧ X.env.frame = some X.env.locals)
  exf : ∀ b ∈ X.ex, b ≠ X.env.locals ∧ ∀ x c, X.env.cells.lookup x = some c → c ≠ b
  bs : ∀ b o, X.base.get? b = some o → X.s₀.heap.get? b = some o ∧ X.H₀ b = none
  bsz : X.base.objs.size ≤ X.s₀.heap.objs.size
  noex : ∀ b o, X.base.get? b = some o → b ∉ X.ex
  exfs : ∀ b ∈ X.ex, b ∉ X.fs
  funs : X.s₀.heap.FunFrames X.base X.outer
  frf : ∀ b ∈ X.fs, X.H₀ b = none

structure Inv (X : Cx) (pins : List (Addr × Obj)) (σ : List (Option V)) (H : Hp) (s : Shared) : Prop where
  ok : X.Ok
  os : s.os = X.s₀.os
  bare : AllBare s.gens
  base : Un X.fs X.ex X.H₀ H X.s₀.heap s.heap
  loc : ∃ m, s.heap.Ns X.env.locals m ∧ ∀ (i : Nat) (x : Str) (v : V), X.N[i]? = some x → σ[i]? = some (some v) → Vis X.env.scope x → ∃ u, RelV v u ∧ Look X.env s.heap m x u
  cell : ∀ x c, X.env.cells.lookup x = some c → ∃ v, s.heap.IsCell c v
  free : H X.env.locals = none
  freeC : ∀ x c, X.env.cells.lookup x = some c → H c = none
  pin : ∀ p ∈ X.pn ++ pins, s.heap.get? p.1 = some p.2 ∧ H p.1 = none ∧ p.1 ≠ X.env.locals ∧ p.1 ∉ X.fs ∧ ∀ v, p.2.data ≠ .cell v
  hok : HOk X.prog X.w H s.heap
  len : σ.length = X.N.length

section
variable {X : Cx} {pins : List (Addr × Obj)} {σ : List (Option V)} {H H' : Hp} {s : Shared} {h' : Heap}

theorem Cx.Ok.nofr (ok : X.Ok) {b : Addr} {o : Obj} (e : X.base.get? b = some o) : b ∉ X.fs := fun hb => by
  have := (ok.funs.mem hb).1
  rw [e] at this; cases this
theorem Inv.bs (I : Inv X pins σ H s) : ∀ b o, X.base.get? b = some o → s.heap.get? b = some o ∧ H b = none := fun b o e =>
  ⟨I.base.keep b o (I.ok.bs b o e).1 (I.ok.bs b o e).2 (I.ok.nofr e) (I.ok.noex b o e), I.base.free b o (I.ok.bs b o e).1 (I.ok.bs b o e).2 (I.ok.noex b o e)⟩
theorem Inv.bk (I : Inv X pins σ H s) : ∀ b o, X.base.get? b = some o → s.heap.get? b = some o := fun b o e => (I.bs b o e).1
theorem Inv.mod (I : Inv X pins σ H s) : Mod X.K X.mg X.base := I.ok.mod
theorem Inv.kIn (I : Inv X pins σ H s) : X.K.In s.heap := I.ok.mod.kin.keeps I.bk
theorem Inv.lt (I : Inv X pins σ H s) : X.env.locals < s.heap.objs.size := let ⟨_, hn, _⟩ := I.loc; hn.lt
theorem Inv.sz (I : Inv X pins σ H s) : X.s₀.heap.objs.size ≤ s.heap.objs.size := Nat.le_trans I.ok.above (Nat.le_of_lt I.lt)
theorem Inv.nofs (I : Inv X pins σ H s) {a : Addr} (h : s.heap.objs.size ≤ a) : a ∉ X.fs := fun hb => by
  obtain ⟨_, o, ho, _⟩ := I.ok.funs.mem hb
  exact absurd (Nat.lt_of_lt_of_le (Heap.lt_size ho) (Nat.le_trans I.sz h)) (Nat.lt_irrefl _)
theorem Inv.cne (I : Inv X pins σ H s) : ∀ x c, X.env.cells.lookup x = some c → c ≠ X.env.locals := fun x c e z => by
  obtain ⟨v, o, ho, hd⟩ := I.cell x c e
  obtain ⟨m, ⟨o', es, ep, ho', hd', _⟩, _⟩ := I.loc
  rw [z, ho'] at ho; cases ho; rw [hd'] at hd; cases hd
theorem Inv.funs (I : Inv X pins σ H s) : s.heap.FunFrames X.base X.outer := by
  have all : ∀ (l : List Env), (∀ b ∈ frs l, b ∈ X.fs) → X.s₀.heap.FunFrames X.base l → s.heap.FunFrames X.base l := by
    intro l
    induction l with
    | nil => intro _ _; trivial
    | cons env r ih =>
      intro hs hl
      obtain ⟨hk, ⟨L, o, hf, hn, ho, hd⟩, hr⟩ := hl
      have hL : L ∈ X.fs := hs L (by unfold frs; rw [List.filterMap_cons, hf]; exact List.mem_cons_self)
      obtain ⟨sl, e⟩ := I.base.slot L o ho (I.ok.frf L hL) hL fun z => I.ok.exfs L z hL
      exact ⟨hk, ⟨L, _, hf, hn, e, hd⟩, ih (fun b hb => hs b (by unfold frs; rw [List.filterMap_cons, hf]; exact List.mem_cons_of_mem _ hb)) hr⟩
  exact all X.outer (fun _ hb => hb) I.ok.funs

/-- the frames that run, for a call -/
theorem Inv.stack (I : Inv X pins σ H s) : s.heap.FunFrames X.base X.stack := by
  rcases I.ok.stk with e | ⟨e, hf⟩
  · rw [e]; exact I.funs
  · rw [e]
    obtain ⟨m, hn, _⟩ := I.loc
    refine .cons (by rw [I.ok.kind]; decide) hf hn ?_ I.funs
    exact Heap.get?_none_of_le (Nat.le_trans I.ok.bsz I.ok.above)
theorem Inv.stkSub (I : Inv X pins σ H s) : ∀ b ∈ frs X.stack, b ∈ X.env.locals :: X.fs := fun b hb => by
  rcases I.ok.stk with e | ⟨e, hf⟩
  · rw [e] at hb; exact List.mem_cons_of_mem _ hb
  · rw [e] at hb
    unfold frs at hb
    rw [List.filterMap_cons, hf] at hb
    exact hb
theorem Inv.stkFree (I : Inv X pins σ H s) : ∀ b ∈ frs X.stack, H b = none := fun b hb => by
  rcases List.mem_cons.mp (I.stkSub b hb) with e | hb
  · rw [e]; exact I.free
  · obtain ⟨_, o, ho, _⟩ := I.ok.funs.mem hb
    exact I.base.free b o ho (I.ok.frf b hb) fun z => I.ok.exfs b z hb

/-- THE STEP: the untracked objects but the frame and the records at ch are kept (the callers' frames up to slots), the frame's map is kept, the new abstract heap is held -/
theorem Inv.step {g' : Array GenState} {t' : Nat} {d' : Drawn} {ch : List Addr} (I : Inv X pins σ H s)
    (hch : ∀ b ∈ ch, (b ∈ X.ex ∨ X.s₀.heap.objs.size ≤ b) ∧ b ≠ X.env.locals ∧ (∀ x c, X.env.cells.lookup x = some c → c ≠ b) ∧ ∀ p ∈ X.pn ++ pins, p.1 ≠ b)
    (keep : ∀ b o, b ≠ X.env.locals → b ∉ X.fs → b ∉ ch → s.heap.get? b = some o → H b = none → h'.get? b = some o)
    (slot : ∀ b o, b ≠ X.env.locals → b ∈ X.fs → b ∉ ch → s.heap.get? b = some o → H b = none → ∃ sl, h'.get? b = some { o with slots := sl }) (free : ∀ b o, b ∉ ch → s.heap.get? b = some o → H b = none → H' b = none)
    (there : ∀ b o, b ∉ ch → s.heap.get? b = some o → ∃ o', h'.get? b = some o')
    (tups : ∀ b xs, H b = some (.tup xs) → H' b = some (.tup xs)) (frzs : ∀ b o u, H b = some (.frz o u) → H' b = some (.frz o u)) (tbls : ∀ b ps, H b = some (.tbl ps) → ∃ more, H' b = some (.tbl (ps ++ more)))
    (ns : ∀ m, s.heap.Ns X.env.locals m → h'.Ns X.env.locals m) (hok : HOk X.prog X.w H' h') (hg : AllBare g') :
    Inv X pins σ H' { s with heap := h', gens := g', drawn := d', toks := t' } := by
  have neL : ∀ b o, X.s₀.heap.get? b = some o → b ≠ X.env.locals := fun b o e => Nat.ne_of_lt (Nat.lt_of_lt_of_le (Heap.lt_size e) I.ok.above)
  have neC : ∀ b o, X.s₀.heap.get? b = some o → b ∉ X.ex → b ∉ ch := fun b o e hx hb => by
    rcases (hch b hb).1 with z | z
    · exact hx z
    · exact absurd (Nat.lt_of_lt_of_le (Heap.lt_size e) z) (Nat.lt_irrefl _)
  have cellK : ∀ x c, X.env.cells.lookup x = some c → ∀ v, s.heap.IsCell c v → h'.IsCell c v := fun x c e v ⟨o, ho, hd⟩ => by
    have nch : c ∉ ch := fun z => (hch c z).2.2.1 x c e rfl
    by_cases hc : c ∈ X.fs
    · obtain ⟨sl, q⟩ := slot c o (I.cne x c e) hc nch ho (I.freeC x c e)
      exact ⟨_, q, hd⟩
    · exact ⟨o, keep c o (I.cne x c e) hc nch ho (I.freeC x c e), hd⟩
  refine ⟨I.ok, I.os, hg, ⟨fun b o e n hb hx => ?_, fun b o e n hb hx => ?_, fun b o e n hx => ?_, fun b o e hx => ?_, fun b xs e => tups b xs (I.base.tups b xs e), fun b o xs e => frzs b o xs (I.base.frzs b o xs e), fun b ps e => ?_⟩, ?_, fun x c e => ?_, ?_, fun x c e => ?_, fun p hp => ?_, hok, I.len⟩
  · exact keep b o (neL b o e) hb (neC b o e hx) (I.base.keep b o e n hb hx) (I.base.free b o e n hx)
  · obtain ⟨sl, e1⟩ := I.base.slot b o e n hb hx
    obtain ⟨sl', e2⟩ := slot b _ (neL b o e) hb (neC b o e hx) e1 (I.base.free b o e n hx)
    exact ⟨sl', e2⟩
  · obtain ⟨o', e1⟩ := I.base.there b o e hx
    exact free b o' (neC b o e hx) e1 (I.base.free b o e n hx)
  · obtain ⟨o', e1⟩ := I.base.there b o e hx
    exact there b o' (neC b o e hx) e1
  · obtain ⟨m1, e1⟩ := I.base.tbls b ps e
    obtain ⟨m2, e2⟩ := tbls b _ e1
    exact ⟨m1 ++ m2, by rw [e2, Array.append_assoc]⟩
  · obtain ⟨m, hn, hl⟩ := I.loc
    refine ⟨m, ns m hn, fun i x v e1 e2 e3 => ?_⟩
    obtain ⟨u, r, l⟩ := hl i x v e1 e2 e3
    refine ⟨u, r, ?_⟩
    rcases l with l | ⟨k, c, e, z⟩
    · exact .inl l
    · exact .inr ⟨k, c, e, cellK x c e _ z⟩
  · obtain ⟨v, z⟩ := I.cell x c e
    exact ⟨v, cellK x c e v z⟩
  · obtain ⟨m, ⟨o, _, _, ho, _⟩, _⟩ := I.loc
    exact free _ o (fun z => (hch _ z).2.1 rfl) ho I.free
  · obtain ⟨v, o, ho, hd⟩ := I.cell x c e
    exact free c o (fun z => (hch c z).2.2.1 x c e rfl) ho (I.freeC x c e)
  · obtain ⟨e, n, ne, nf, d⟩ := I.pin p hp
    have nch : p.1 ∉ ch := fun z => (hch p.1 z).2.2.2 p hp rfl
    exact ⟨keep p.1 p.2 ne nf nch e n, free p.1 p.2 nch e n, ne, nf, d⟩
/-- .. where the frame's own object is kept too -/
theorem Inv.un {t' : Nat} (I : Inv X pins σ H s) (u : Un X.fs [] H H' s.heap h') (hok : HOk X.prog X.w H' h') : Inv X pins σ H' { s with heap := h', toks := t' } := by
  obtain ⟨m, ⟨o, es, ep, ho, r⟩, _⟩ := id I.loc
  obtain ⟨sl, hL⟩ := u.any ho I.free (by simp)
  exact I.step (g' := s.gens) (d' := s.drawn) (ch := []) (fun _ z => nomatch z) (fun b o _ hb _ e n => u.keep b o e n hb (by simp)) (fun b o _ hb _ e n => u.slot b o e n hb (by simp)) (fun b o _ e n => u.free b o e n (by simp)) (fun b o _ e => u.there b o e (by simp)) u.tups u.frzs u.tbls (fun m' hm => by
    obtain ⟨o', es', ep', ho', r'⟩ := hm
    rw [ho] at ho'; cases ho'
    exact ⟨_, es', ep', hL, r'⟩) hok I.bare
/-- behind a call (or a comprehension's block): the slots of this frame may have changed too, the records at ch may have turned -/
theorem Inv.call {g' : Array GenState} {t' : Nat} {d' : Drawn} {ch : List Addr} (I : Inv X pins σ H s) (u : Un (frs X.stack) ch H H' s.heap h') (hok : HOk X.prog X.w H' h') (hg : AllBare g')
    (hch : ∀ b ∈ ch, (b ∈ X.ex ∨ X.s₀.heap.objs.size ≤ b) ∧ b ≠ X.env.locals ∧ (∀ x c, X.env.cells.lookup x = some c → c ≠ b) ∧ ∀ p ∈ X.pn ++ pins, p.1 ≠ b) :
    Inv X pins σ H' { s with heap := h', gens := g', drawn := d', toks := t' } := by
  obtain ⟨m, ⟨o, es, ep, ho, r⟩, _⟩ := id I.loc
  obtain ⟨sl, hL⟩ := u.any ho I.free fun z => (hch _ z).2.1 rfl
  exact I.step (ch := ch) hch (fun b o hL hb hc e n => u.keep b o e n (fun z => (List.mem_cons.mp (I.stkSub b z)).elim hL hb) hc) (fun b o _ _ hc e n => u.any e n hc) (fun b o hc e n => u.free b o e n hc) (fun b o hc e => u.there b o e hc) u.tups u.frzs u.tbls (fun m' hm => by
    obtain ⟨o', es', ep', ho', r'⟩ := hm
    rw [ho] at ho'; cases ho'
    exact ⟨_, es', ep', hL, r'⟩) hok hg
/-- an untracked record of ours (an iterator) has turned -/
theorem Inv.turned {t' : Nat} {it : Addr} (I : Inv X pins σ H s) (k : ∀ b o, b ≠ it → s.heap.get? b = some o → h'.get? b = some o) (hn : H it = none) (hL : it ≠ X.env.locals)
    (h1 : it ∈ X.ex ∨ X.s₀.heap.objs.size ≤ it) (h2 : ∀ x c, X.env.cells.lookup x = some c → c ≠ it) (h3 : ∀ p ∈ X.pn ++ pins, p.1 ≠ it) : Inv X pins σ H { s with heap := h', toks := t' } := by
  have nit : ∀ b u, H b = some u → b ≠ it := fun b u e z => by rw [z, hn] at e; cases e
  refine I.step (g' := s.gens) (d' := s.drawn) (ch := [it]) (fun b hb => ?_) (fun b o _ _ hc e _ => k b o (fun z => hc (by simp [z])) e) (fun b o _ _ hc e _ => ⟨o.slots, k b o (fun z => hc (by simp [z])) e⟩) (fun _ _ _ _ n => n)
    (fun b o hc e => ⟨o, k b o (fun z => hc (by simp [z])) e⟩) (fun _ _ e => e) (fun _ _ _ e => e) (fun b ps e => ⟨#[], by rw [e]; simp⟩) (fun m hm => ?_) (fun b u e => ?_) I.bare
  · have e : b = it := by simpa using hb
    subst e
    exact ⟨h1, hL, h2, h3⟩
  · obtain ⟨o, es, ep, ho, r⟩ := hm
    exact ⟨o, es, ep, k _ o (Ne.symm hL) ho, r⟩
  · refine (I.hok b u e).stay (fun c v hc q => k c v ?_ q) (fun _ q => q) fun _ _ q => q
    rcases hc with z | z
    · rw [z]; exact nit b u e
    · exact nit c _ z
theorem Inv.tok (I : Inv X pins σ H s) (t : Nat) : Inv X pins σ H { s with toks := t } := I.un (h' := s.heap) (t' := t) Un.refl I.hok
/-- all objects kept -/
theorem Inv.kept {t' : Nat} (I : Inv X pins σ H s) (k : ∀ b u, s.heap.get? b = some u → h'.get? b = some u) : Inv X pins σ H { s with heap := h', toks := t' } := I.un (Un.kept k) (I.hok.kept k)
/-- a new object laid and tracked -/
theorem Inv.laid {a : Addr} {o : HO} {t' : Nat} (I : Inv X pins σ H s) (k : ∀ b u, s.heap.get? b = some u → h'.get? b = some u) (hp : s.heap.objs.size ≤ a) (new : ObjOk X.prog X.w (upd H a o) h' a o) :
    Inv X pins σ (upd H a o) { s with heap := h', toks := t' } := I.un (Un.laid k hp (I.hok.fresh hp)) (I.hok.laid k hp new)
/-- an object written -/
theorem Inv.write {x e : Addr} {o : HO} {t' : Nat} (I : Inv X pins σ H s) (mu : Mut (H x)) (he : e = x ∨ H e = some (.own x)) (k : ∀ b u, b ≠ e → s.heap.get? b = some u → h'.get? b = some u) (heo : ∃ u, h'.get? e = some u)
    (new : ObjOk X.prog X.w (upd H x o) h' x o) : Inv X pins σ (upd H x o) { s with heap := h', toks := t' } := I.un (Un.write mu he k heo) (I.hok.write mu he k heo new)
theorem Inv.pins_of {pins' : List (Addr × Obj)} (I : Inv X pins σ H s) (h : ∀ p ∈ pins', s.heap.get? p.1 = some p.2 ∧ H p.1 = none ∧ p.1 ≠ X.env.locals ∧ p.1 ∉ X.fs ∧ ∀ v, p.2.data ≠ .cell v) : Inv X pins' σ H s :=
  ⟨I.ok, I.os, I.bare, I.base, I.loc, I.cell, I.free, I.freeC, fun p hp => (List.mem_append.mp hp).elim (fun z => I.pin p (List.mem_append_left _ z)) (h p), I.hok, I.len⟩

theorem nodup_ix {N : List Str} (hN : N.Nodup) {i j : Nat} {x : Str} (a : N[i]? = some x) (b : N[j]? = some x) : i = j := by
  obtain ⟨h1, e1⟩ := List.getElem?_eq_some_iff.mp a
  obtain ⟨h2, e2⟩ := List.getElem?_eq_some_iff.mp b
  exact (List.getElem_inj hN).mp (e1.trans e2.symm)

/-- a name is stored; what changed -/
theorem store_ok2 {M : Model} {A : Around} {E : Value → Shared → Prop} {i : Nat} {x : Str} {v : V} {u : Value} {Q : Unit → Shared → Prop} (I : Inv X pins σ H s) (hN : X.N.Nodup) (hi : X.N[i]? = some x) (hx : Loc X.env.scope x) (r : RelV v u)
    (h : ∀ s', Inv X pins (σ.set i (some v)) H s' → (∃ a, Heap.SameBut a s.heap s'.heap ∧ (a = X.env.locals ∨ X.env.cells.lookup x = some a)) → Q () s') (hf : X.fn x = true ∨ X.env.scope.names.lookup x = some .local := by first | exact .inl rfl | exact .inr rfl | assumption) : wpAny M A (storeName X.env x u) Q E s := by
  obtain ⟨m, hn, hl⟩ := id I.loc
  have hcls : (X.env.scope.kind == .class || (X.env.scope.kind == .module && X.env.locals != X.env.globals)) = false := by rw [I.ok.kind]; rfl
  have hiσ : i < σ.length := by rw [I.len]; exact (List.getElem?_eq_some_iff.mp hi).1
  have cne := I.cne
  have tracked : ∀ {a : Addr} {h' : Heap}, (∃ o, s.heap.get? a = some o ∧ H a = none) → Heap.SameBut a s.heap h' → HOk X.prog X.w H h' := fun {a h'} ha hs b ob e => by
    obtain ⟨_, _, hfree⟩ := ha
    refine (I.hok b ob e).stay (fun c w' hc q => (hs.2 c ?_).trans q) (fun _ q => q) fun _ _ q => q
    rintro rfl
    rcases hc with rfl | hc
    · rw [hfree] at e; cases e
    · rw [hfree] at hc; cases hc
  rcases hx with hk | hk
  · refine wpAny_storeName_local hk hn (fun h' hn' hs => ?_) hcls
    obtain ⟨oL, _, _, hoL, _⟩ := id hn
    refine h _ ⟨I.ok, I.os, I.bare, ⟨fun b o e n hb hx => ?_, fun b o e n hb hx => ?_, I.base.free, fun b o e hx => ?_, I.base.tups, I.base.frzs, I.base.tbls⟩, ⟨_, hn', fun j y v' e1 e2 e3 => ?_⟩, fun y c e => ?_, I.free, I.freeC, fun p hp => ?_, tracked ⟨oL, hoL, I.free⟩ hs, by simpa using I.len⟩ ⟨_, hs, .inl rfl⟩
    · exact (hs.2 b (Nat.ne_of_lt (Nat.lt_of_lt_of_le (Heap.lt_size e) I.ok.above))).trans (I.base.keep b o e n hb hx)
    · obtain ⟨sl, e1⟩ := I.base.slot b o e n hb hx
      exact ⟨sl, (hs.2 b (Nat.ne_of_lt (Nat.lt_of_lt_of_le (Heap.lt_size e) I.ok.above))).trans e1⟩
    · obtain ⟨o', e1⟩ := I.base.there b o e hx
      exact ⟨o', (hs.2 b (Nat.ne_of_lt (Nat.lt_of_lt_of_le (Heap.lt_size e) I.ok.above))).trans e1⟩
    · by_cases hj : j = i
      · subst hj
        rw [hi] at e1; cases e1
        rw [List.getElem?_set_self hiσ] at e2
        cases e2
        exact ⟨u, r, .inl ⟨hk, by simp⟩⟩
      · rw [List.getElem?_set_ne (Ne.symm hj)] at e2
        obtain ⟨u', r', q⟩ := hl j y v' e1 e2 e3
        refine ⟨u', r', ?_⟩
        rcases q with ⟨k, e⟩ | ⟨k, c, e, z⟩
        · refine .inl ⟨k, ?_⟩
          have : y ≠ x := fun e => hj (nodup_ix hN e1 (e ▸ hi))
          simp [this, e]
        · exact .inr ⟨k, c, e, z.sameBut hs (cne y c e)⟩
    · obtain ⟨w', z⟩ := I.cell y c e
      exact ⟨w', z.sameBut hs (cne y c e)⟩
    · obtain ⟨e, n, ne, nf, d⟩ := I.pin p hp
      exact ⟨(hs.2 p.1 ne).trans e, n, ne, nf, d⟩
  · have hfn : X.fn x = true := by
      rcases hf with z | z
      · exact z
      · rw [z] at hk; cases hk
    obtain ⟨c, hc⟩ := I.ok.has x (.inl hk)
    obtain ⟨w', z⟩ := I.cell x c hc
    refine wpAny_storeName_cell I.ok.kind hk hc z (fun h' hc' hs => ?_)
    obtain ⟨oc, hoc, hocd⟩ := id z
    refine h { s with heap := h' } ⟨I.ok, I.os, I.bare, ⟨fun b o e n hb hx => ?_, fun b o e n hb hx => ?_, I.base.free, fun b o e hx => ?_, I.base.tups, I.base.frzs, I.base.tbls⟩, ⟨m, hn.sameBut hs (Ne.symm (cne x c hc)), fun j y v' e1 e2 e3 => ?_⟩, fun y c' e => ?_, I.free, I.freeC, fun p hp => ?_, tracked ⟨oc, hoc, I.freeC x c hc⟩ hs, by simpa using I.len⟩ ⟨c, hs, .inr hc⟩
    · exact (hs.2 b (Nat.ne_of_lt (Nat.lt_of_lt_of_le (Heap.lt_size e) (I.ok.cab x c hfn hc)))).trans (I.base.keep b o e n hb hx)
    · obtain ⟨sl, e1⟩ := I.base.slot b o e n hb hx
      exact ⟨sl, (hs.2 b (Nat.ne_of_lt (Nat.lt_of_lt_of_le (Heap.lt_size e) (I.ok.cab x c hfn hc)))).trans e1⟩
    · obtain ⟨o', e1⟩ := I.base.there b o e hx
      exact ⟨o', (hs.2 b (Nat.ne_of_lt (Nat.lt_of_lt_of_le (Heap.lt_size e) (I.ok.cab x c hfn hc)))).trans e1⟩
    · by_cases hj : j = i
      · subst hj
        rw [hi] at e1; cases e1
        rw [List.getElem?_set_self hiσ] at e2
        cases e2
        exact ⟨u, r, .inr ⟨.inl hk, c, hc, hc'⟩⟩
      · rw [List.getElem?_set_ne (Ne.symm hj)] at e2
        obtain ⟨u', r', q⟩ := hl j y v' e1 e2 e3
        refine ⟨u', r', ?_⟩
        rcases q with q | ⟨k, c', e, z'⟩
        · exact .inl q
        · refine .inr ⟨k, c', e, z'.sameBut hs ?_⟩
          rintro rfl
          exact hj (nodup_ix hN e1 (I.ok.inj _ _ _ e hc ▸ hi))
    · by_cases hcc : c' = c
      · subst hcc; exact ⟨_, hc'⟩
      · obtain ⟨w2, z2⟩ := I.cell y c' e
        exact ⟨w2, z2.sameBut hs hcc⟩
    · obtain ⟨e, n, ne, nf, d⟩ := I.pin p hp
      refine ⟨(hs.2 p.1 ?_).trans e, n, ne, nf, d⟩
      intro q
      rw [q, hoc] at e
      have q' : oc = p.2 := Option.some.inj e
      exact d w' (by rw [← q']; exact hocd)
theorem store_ok {M : Model} {A : Around} {E : Value → Shared → Prop} {i : Nat} {x : Str} {v : V} {u : Value} {Q : Unit → Shared → Prop} (I : Inv X pins σ H s) (hN : X.N.Nodup) (hi : X.N[i]? = some x) (hx : Loc X.env.scope x) (r : RelV v u)
    (h : ∀ s', Inv X pins (σ.set i (some v)) H s' → Q () s') (hf : X.fn x = true ∨ X.env.scope.names.lookup x = some .local := by first | exact .inl rfl | exact .inr rfl | assumption) : wpAny M A (storeName X.env x u) Q E s :=
  store_ok2 I hN hi hx r (fun s' I' _ => h s' I') hf
/-- behind a call or a block, the state as it is -/
theorem Inv.call' {s' : Shared} {ch : List Addr} (I : Inv X pins σ H s) (ho : s'.os = s.os) (u : Un (frs X.stack) ch H H' s.heap s'.heap) (hok : HOk X.prog X.w H' s'.heap) (hg : AllBare s'.gens)
    (hch : ∀ b ∈ ch, (b ∈ X.ex ∨ X.s₀.heap.objs.size ≤ b) ∧ b ≠ X.env.locals ∧ (∀ x c, X.env.cells.lookup x = some c → c ≠ b) ∧ ∀ p ∈ X.pn ++ pins, p.1 ≠ b) : Inv X pins σ H' s' := by
  obtain ⟨h', g', d', t', o'⟩ := s'
  have e : o' = s.os := ho
  subst e
  exact I.call (g' := g') (t' := t') (d' := d') u hok hg hch
end

/-! ### the judgements -/
/-- an exception: its class, its own dict's address (where it has one), the abstract heap behind it -/
abbrev XK := Value → Option Addr → Hp → Prop
abbrev St := List (Option V)
abbrev VK := V → Hp → Prop
/-- an expression's reading; a test's; an argument list's -/
abbrev TE := St → Hp → VK → Prop
abbrev TT := St → Hp → (Bool → Hp → Prop) → Prop
abbrev TA := St → Hp → (List V → Hp → Prop) → Prop
/-- what is wanted behind a statement -/
structure Ends where
  nx : St → Hp → Prop
  rt : VK
  bk : St → Hp → Prop := fun _ _ => False
  ct : St → Hp → Prop := fun _ _ => False
abbrev TS := Ends → St → Hp → Prop

def EP (X : Cx) (pins : List (Addr × Obj)) (σ : St) (Q : VK) (u : Value) (s' : Shared) : Prop := ∃ v H', Inv X pins σ H' s' ∧ RelV v u ∧ Q v H'
def TP (X : Cx) (pins : List (Addr × Obj)) (σ : St) (Q : Bool → Hp → Prop) (b : Bool) (s' : Shared) : Prop := ∃ H', Inv X pins σ H' s' ∧ Q b H'
def AP (X : Cx) (pins : List (Addr × Obj)) (σ : St) (Q : List V → Hp → Prop) (us : List Value) (s' : Shared) : Prop := ∃ vs H', Inv X pins σ H' s' ∧ Vals vs us ∧ Q vs H'
def SP (X : Cx) (pins : List (Addr × Obj)) (D : Ends) (f : Flow) (s' : Shared) : Prop :=
  match f with
  | .next => ∃ σ' H', Inv X pins σ' H' s' ∧ D.nx σ' H'
  | .brk => ∃ σ' H', Inv X pins σ' H' s' ∧ D.bk σ' H'
  | .cont => ∃ σ' H', Inv X pins σ' H' s' ∧ D.ct σ' H'
  | .ret u => ∃ v σ' H', Inv X pins σ' H' s' ∧ RelV v u ∧ D.rt v H'

def PE (X : Cx) (e : Expr) (t : TE) : Prop :=
  ∀ (pins : List (Addr × Obj)) (s : Shared) (σ : St) (H : Hp) (Q : VK), Inv X pins σ H s → t σ H Q → wpAny (model X.prog X.w) X.A (eval e X.env) (EP X pins σ Q) X.xe s
def PT (X : Cx) (e : Expr) (t : TT) : Prop :=
  ∀ (pins : List (Addr × Obj)) (s : Shared) (σ : St) (H : Hp) (Q : Bool → Hp → Prop), Inv X pins σ H s → t σ H Q → wpAny (model X.prog X.w) X.A (isTrue e X.env (eval e X.env)) (TP X pins σ Q) X.xe s
/-- a test whatever its 'whole' is (and, or) -/
def PW (X : Cx) (e : Expr) (t : TT) : Prop :=
  ∀ (whole : Sem Value) (pins : List (Addr × Obj)) (s : Shared) (σ : St) (H : Hp) (Q : Bool → Hp → Prop), Inv X pins σ H s → t σ H Q → wpAny (model X.prog X.w) X.A (isTrue e X.env whole) (TP X pins σ Q) X.xe s
theorem PW.pt {X : Cx} {e : Expr} {t : TT} (h : PW X e t) : PT X e t := h _
/-- an argument list (no star), from the left -/
def PA (X : Cx) (es : List Expr) (t : TA) : Prop :=
  ∀ (pos : Pos) (pins : List (Addr × Obj)) (s : Shared) (σ : St) (H : Hp) (Q : List V → Hp → Prop), Inv X pins σ H s → t σ H Q → wpAny (model X.prog X.w) X.A (spliced (backTo pos (starEach es X.env))) (AP X pins σ Q) X.xe s
def PS (X : Cx) (st : Stmt) (t : TS) : Prop :=
  ∀ (pins : List (Addr × Obj)) (s : Shared) (σ : St) (H : Hp) (D : Ends), Inv X pins σ H s → t D σ H → wpAny (model X.prog X.w) X.A (exec st X.env) (SP X pins D) X.xe s
def PSs (X : Cx) (st : List Stmt) (t : TS) : Prop :=
  ∀ (pins : List (Addr × Obj)) (s : Shared) (σ : St) (H : Hp) (D : Ends), Inv X pins σ H s → t D σ H → wpAny (model X.prog X.w) X.A (execs st X.env) (SP X pins D) X.xe s
/-- weaken the end -/
theorem thn {α : Type} {t : Sem α} {Q Q' : α → Shared → Prop} {M : Model} {A : Around} {E : Value → Shared → Prop} {s : Shared} (h : wpAny M A t Q E s) (hQ : ∀ a s, Q a s → Q' a s) : wpAny M A t Q' E s := wpAny_mono h hQ fun _ _ x => x
end L2

namespace L2
open PySem PySem.Spec PyProof.Rows
section
variable {X : Cx}

/-! ### names and constants -/
def tVar (i : Nat) : TE := fun σ H Q => ∃ v, σ[i]? = some (some v) ∧ Q v H
def tC (v : V) : TE := fun _ H Q => Q v H
theorem pe_var {i : Nat} {x : Str} {pos : Pos} (hN : X.N[i]? = some x) (hv : Vis X.env.scope x) (hd : (x == ("__debug__" : Str)) = false := by decide) (hcd : (x == ("__classdict__" : Str)) = false := by decide) : PE X (.Name x pos) (tVar i) := by
  intro pins s σ H Q I h
  obtain ⟨v, e, h⟩ := h
  obtain ⟨m, hn, hl⟩ := I.loc
  obtain ⟨u, r, l⟩ := hl i x v hN e hv
  have fin : EP X pins σ Q u s := ⟨v, H, I, r, h⟩
  rcases l with ⟨hk, hm⟩ | ⟨hk, c, hc, hcell⟩
  · exact wpAny_Name (wpAny_loadName_local I.ok.kind hk hn hm fin) hd
  · rcases hk with hk | hk
    · exact wpAny_Name (wpAny_loadName_cell I.ok.kind hk hc hcell fin) hd
    · exact wpAny_Name (wpAny_loadName_free I.ok.kind hk hc hcell fin hcd) hd
theorem pe_int {i j pos} : PE X (.Constant (.int i) j pos) (tC (.int i)) := fun _ _ _ H _ I h => wpAny_Constant_int ⟨.int i, H, I.tok _, ⟨_, rfl⟩, h⟩
theorem pe_bl {b j pos} : PE X (.Constant (.bool b) j pos) (tC (.bl b)) := fun _ _ _ H _ I h => Constant_bool ⟨.bl b, H, I, rfl, h⟩
theorem pe_non {j pos} : PE X (.Constant .none j pos) (tC .non) := fun _ _ _ H _ I h => Constant_none ⟨.non, H, I, rfl, h⟩
theorem pe_str {x j pos} : PE X (.Constant (.str x) j pos) (tC (.str x)) := fun _ _ _ H _ I h => Calls.Constant_str ⟨.str x, H, I.tok _, ⟨_, rfl⟩, h⟩

/-- a global name of the def -/
def Gl (X : Cx) (x : Str) : Prop := X.env.kindOf x = some .globalImplicit
theorem ld_glob {E : Value → Shared → Prop} {pins : List (Addr × Obj)} {s : Shared} {σ : St} {H : Hp} {x : Str} {u : Value} {pos : Pos} {Q : Value → Shared → Prop} (I : Inv X pins σ H s) (hg : Gl X x) (hm : X.mg x = some u) (h : Q u s)
    (hd : (x == ("__debug__" : Str)) = false := by decide) : wpAny (model X.prog X.w) X.A (eval (.Name x pos) X.env) Q E s :=
  Calls.Name_function_global I.ok.kind hg (Calls.loadGlobal_global (by rw [I.ok.glob]; exact I.mod.glob.keeps I.bk) hm h) hd
theorem ld_blt {E : Value → Shared → Prop} {pins : List (Addr × Obj)} {s : Shared} {σ : St} {H : Hp} {x : Str} {u : Value} {pos : Pos} {Q : Value → Shared → Prop} (I : Inv X pins σ H s) (hg : Gl X x) (hm : X.mg x = none) (hv : bootBuiltins x = some u) (h : Q u s)
    (hn : x ≠ "__name__" := by decide) (hd : (x == ("__debug__" : Str)) = false := by decide) : wpAny (model X.prog X.w) X.A (eval (.Name x pos) X.env) Q E s := by
  obtain ⟨mb, h1, h2⟩ := I.mod.blt
  exact Calls.Name_function_global I.ok.kind hg (Calls.loadGlobal_builtin (by rw [I.ok.glob]; exact I.mod.glob.keeps I.bk) hm (by rw [I.ok.blt]; exact h1.keeps I.bk) ((h2 x hn).trans hv) h) hd
/-- a module's constant, a class, a function, as a value -/
theorem pe_glob {x : Str} {v : V} {u : Value} {pos : Pos} (hg : Gl X x) (hm : X.mg x = some u) (r : RelV v u) (hd : (x == ("__debug__" : Str)) = false := by decide) : PE X (.Name x pos) (tC v) :=
  fun _ _ _ H _ I h => ld_glob I hg hm ⟨v, H, I, r, h⟩ hd
theorem pe_bltn {x : Str} {v : V} {u : Value} {pos : Pos} (hg : Gl X x) (hm : X.mg x = none) (hv : bootBuiltins x = some u) (r : RelV v u) (hn : x ≠ "__name__" := by decide) (hd : (x == ("__debug__" : Str)) = false := by decide) : PE X (.Name x pos) (tC v) :=
  fun _ _ _ H _ I h => ld_blt I hg hm hv ⟨v, H, I, r, h⟩ hn hd

/-! ### arithmetic -/
variable {a b : Expr} {ta tb : TE} {pos : Pos}
/-! ### comparisons -/
/-- a comparison as a value, as a test -/
def tB (t : TE) : TT := fun σ H Q => t σ H fun x H1 => ∃ c, x = .bl c ∧ Q c H1
/-- an expression whose value is a bool, as a test -/
theorem pt_val {e : Expr} {t : TE} (h : PE X e t) (he : ∀ whole, isTrue e X.env whole = (do let v ← whole; standAt e.pos; holding [v] (truthy v)) := by intro _; rfl) : PT X e (tB t) := by
  intro pins s σ H Q I hw
  refine isTrue_plain (thn (h pins s σ H _ I hw) fun v s1 ⟨x, H1, I1, r1, q1⟩ => ?_) (he _)
  obtain ⟨d, rfl, q⟩ := q1
  cases r1
  exact wpAny_truthy_bool ⟨H1, I1, q⟩

/-! ### and, or, not -/
variable {tA tB' : TT} {rest : List Expr}
def tAnd (t u : TT) : TT := fun σ H Q => t σ H fun c H1 => if c = true then u σ H1 Q else Q false H1
def tOr (t u : TT) : TT := fun σ H Q => t σ H fun c H1 => if c = true then Q true H1 else u σ H1 Q
def tNot (t : TT) : TT := fun σ H Q => t σ H fun c H1 => Q (!c) H1
theorem pw_and1 (ha : PT X a tA) : PW X (.BoolOp .And [a] pos) tA := by
  intro wh pins s σ H Q I h
  refine isTrue_and (thn (ha pins s σ H Q I h) fun c s1 e => ?_)
  cases c with
  | true => exact isTrue_and_nil e
  | false => exact e
theorem pw_or1 (ha : PT X a tA) : PW X (.BoolOp .Or [a] pos) tA := by
  intro wh pins s σ H Q I h
  refine isTrue_or (thn (ha pins s σ H Q I h) fun c s1 e => ?_)
  cases c with
  | false => exact isTrue_or_nil e
  | true => exact e
theorem pw_and (ha : PT X a tA) (hb : PW X (.BoolOp .And (b :: rest) pos) tB') : PW X (.BoolOp .And (a :: b :: rest) pos) (tAnd tA tB') := by
  intro wh pins s σ H Q I h
  refine isTrue_and (thn (ha pins s σ H _ I h) fun c s1 ⟨H1, I1, q1⟩ => ?_)
  cases c with
  | true => exact hb wh pins s1 σ H1 Q I1 q1
  | false => exact ⟨H1, I1, q1⟩
theorem pw_or (ha : PT X a tA) (hb : PW X (.BoolOp .Or (b :: rest) pos) tB') : PW X (.BoolOp .Or (a :: b :: rest) pos) (tOr tA tB') := by
  intro wh pins s σ H Q I h
  refine isTrue_or (thn (ha pins s σ H _ I h) fun c s1 ⟨H1, I1, q1⟩ => ?_)
  cases c with
  | true => exact ⟨H1, I1, q1⟩
  | false => exact hb wh pins s1 σ H1 Q I1 q1
theorem pt_not (ha : PT X a tA) : PT X (.UnaryOp .Not a pos) (tNot tA) := by
  intro pins s σ H Q I h
  exact isTrue_not (ha pins s σ H (fun c H1 => Q (!c) H1) I h)
/-- .. as values (bools) -/
def tAndV (ta tb : TE) : TE := fun σ H Q => ta σ H fun x H1 => ∃ c, x = .bl c ∧ if c = true then tb σ H1 Q else Q (.bl false) H1
def tNotV (ta : TE) : TE := fun σ H Q => ta σ H fun x H1 => ∃ c, x = .bl c ∧ Q (.bl (!c)) H1
theorem pe_one {op} {t : TE} (h : PE X a t) : PE X (.BoolOp op [a] pos) t := fun pins s σ H Q I hw => BoolOp_one (h pins s σ H Q I hw)
theorem pe_and (ha : PE X a ta) (hb : PE X (.BoolOp .And (b :: rest) pos) tb) : PE X (.BoolOp .And (a :: b :: rest) pos) (tAndV ta tb) := by
  intro pins s σ H Q I h
  refine BoolOp_and (thn (ha pins s σ H _ I h) fun v s1 ⟨x, H1, I1, r1, q1⟩ => ?_)
  obtain ⟨c, rfl, q1⟩ := q1
  cases r1
  refine wpAny_truthy_bool ?_
  cases c with
  | true => exact hb pins s1 σ H1 Q I1 q1
  | false => exact ⟨.bl false, H1, I1, rfl, q1⟩
theorem pe_not (ha : PE X a ta) : PE X (.UnaryOp .Not a pos) (tNotV ta) := by
  intro pins s σ H Q I h
  refine UnaryOp_ (thn (ha pins s σ H _ I h) fun v s1 ⟨x, H1, I1, r1, q1⟩ => ?_)
  obtain ⟨c, rfl, q1⟩ := q1
  cases r1
  exact not_of (wpAny_truthy_bool ⟨.bl (!c), H1, I1, rfl, q1⟩)
/-- a if t else b -/
def tIf (t : TT) (ta tb : TE) : TE := fun σ H Q => t σ H fun c H1 => if c = true then ta σ H1 Q else tb σ H1 Q
theorem pe_ifExp {c : Expr} (hc : PT X c tA) (ha : PE X a ta) (hb : PE X b tb) : PE X (.IfExp c a b pos) (tIf tA ta tb) := by
  intro pins s σ H Q I h
  refine wpAny_IfExp (thn (hc pins s σ H _ I h) fun d s1 ⟨H1, I1, q1⟩ => ?_)
  cases d with
  | true => exact ha pins s1 σ H1 Q I1 q1
  | false => exact hb pins s1 σ H1 Q I1 q1
end
end L2

namespace L2
open PySem PySem.Spec PyProof.Rows

/-! ### a list, a tuple that is read: tracked, frozen, or an object of the module -/
def SqL (K : PySem.W.Frag) (H : Hp) (a : Addr) (xs : List V) : Prop :=
  Rd H a (.lst xs) ∨
    ∃ (o : Obj) (its : Array Value) (n : Nat), K.lookup a = some o ∧ o.cls = .type "list" ∧ o.dict = none ∧ o.data = .seq its n ∧ its.size ≤ sizeLine ∧ Vals xs its.toList
def SqT (K : PySem.W.Frag) (H : Hp) (a : Addr) (xs : List V) : Prop :=
  Rd H a (.tup xs) ∨
    ∃ (o : Obj) (its : Array Value) (n : Nat), K.lookup a = some o ∧ o.cls = .type "tuple" ∧ o.data = .seq its n ∧ its.size ≤ sizeLine ∧ Vals xs its.toList
def absV : Value → Option V
  | .none => some .non
  | .bool b => some (.bl b)
  | .int i _ => some (.int i)
  | .str x _ => some (.str x)
  | .bytes b _ => some (.byt b)
  | .float b _ => some (.flt b)
  | .ref a => some (.ref a)
  | .type n => some (.ty n)
  | _ => none
theorem RelV.abs {x : V} {u : Value} (r : RelV x u) : absV u = some x := by
  cases x with
  | non => cases r; rfl
  | bl _ => cases r; rfl
  | int _ => obtain ⟨t, rfl⟩ := r; rfl
  | str _ => obtain ⟨t, rfl⟩ := r; rfl
  | byt _ => obtain ⟨t, rfl⟩ := r; rfl
  | flt _ => obtain ⟨t, rfl⟩ := r; rfl
  | ref _ => cases r; rfl
  | ty _ => cases r; rfl
theorem RelV.inj {x y : V} {u : Value} (r : RelV x u) (q : RelV y u) : x = y := Option.some.inj (r.abs.symm.trans q.abs)
theorem Vals.inj : ∀ {xs ys : List V} {us : List Value}, Vals xs us → Vals ys us → xs = ys
  | _, _, _, .nil, .nil => rfl
  | _, _, _, .cons r t, .cons r' t' => by rw [r.inj r', Vals.inj t t']
section
variable {X : Cx} {pins : List (Addr × Obj)} {σ : St} {H : Hp} {s : Shared} {a : Addr} {xs ys : List V}
theorem SqL.of {K : PySem.W.Frag} (h : H a = some (.lst xs)) : SqL K H a xs := .inl (.inl h)
theorem SqT.of {K : PySem.W.Frag} (h : H a = some (.tup xs)) : SqT K H a xs := .inl (.inl h)
theorem Inv.list (I : Inv X pins σ H s) (h : SqL X.K H a xs) : ∃ its : List Value, Vals xs its ∧ PlainL s.heap a its.toArray ∧ xs.length ≤ sizeLine := by
  rcases h with h | ⟨o, its, n, hk, hc, hd, hs, hz, r⟩
  · obtain ⟨z, its, n, r, e⟩ := h.ok I.hok
    exact ⟨its, r, ⟨_, n, e, rfl, rfl, rfl⟩, z⟩
  · refine ⟨its.toList, r, ⟨o, n, I.kIn a o hk, hc, hd, by simpa using hs⟩, ?_⟩
    have e := r.length
    simp only [Array.length_toList] at e
    omega
theorem Inv.tuple (I : Inv X pins σ H s) (h : SqT X.K H a xs) : ∃ its : List Value, Vals xs its ∧ IsTup s.heap a its.toArray ∧ xs.length ≤ sizeLine := by
  rcases h with h | ⟨o, its, n, hk, hc, hs, hz, r⟩
  · obtain ⟨z, its, r, p⟩ := h.ok I.hok
    exact ⟨its, r, p, z⟩
  · refine ⟨its.toList, r, ⟨o, I.kIn a o hk, hc, n, by simpa using hs⟩, ?_⟩
    have e := r.length
    simp only [Array.length_toList] at e
    omega
theorem Inv.list_inj (I : Inv X pins σ H s) (h : SqL X.K H a xs) (h' : SqL X.K H a ys) : xs = ys := by
  obtain ⟨its, r, ⟨o, n, e, _, _, d⟩, _⟩ := I.list h
  obtain ⟨its', r', ⟨o', n', e', _, _, d'⟩, _⟩ := I.list h'
  rw [e] at e'; cases e'
  rw [d] at d'
  injection d' with d1 _
  have : its = its' := by simpa using congrArg Array.toList d1
  subst this
  exact r.inj r'
end

/-! ### another wish about exceptions -/
abbrev Cx.wish (X : Cx) (E : Value → Shared → Prop) : Cx := { X with xe := E }
/-- no exception leaves -/
abbrev Cx.nox (X : Cx) : Cx := X.wish fun _ _ => False
theorem Cx.Ok.wish {X : Cx} (ok : X.Ok) (E : Value → Shared → Prop) : (X.wish E).Ok :=
  ⟨ok.mod, ok.kind, ok.glob, ok.blt, ok.above, ok.inj, ok.has, ok.cab, ok.hd, ok.frames, ok.stk, ok.exf, ok.bs, ok.bsz, ok.noex, ok.exfs, ok.funs, ok.frf⟩
theorem Cx.Ok.unwish {X : Cx} {E : Value → Shared → Prop} (ok : (X.wish E).Ok) : X.Ok :=
  ⟨ok.mod, ok.kind, ok.glob, ok.blt, ok.above, ok.inj, ok.has, ok.cab, ok.hd, ok.frames, ok.stk, ok.exf, ok.bs, ok.bsz, ok.noex, ok.exfs, ok.funs, ok.frf⟩
section
variable {X : Cx} {pins : List (Addr × Obj)} {σ : St} {H : Hp} {s : Shared} {E : Value → Shared → Prop}
theorem Inv.wish (I : Inv X pins σ H s) (E : Value → Shared → Prop) : Inv (X.wish E) pins σ H s := ⟨I.ok.wish E, I.os, I.bare, I.base, I.loc, I.cell, I.free, I.freeC, I.pin, I.hok, I.len⟩
theorem Inv.unwish (I : Inv (X.wish E) pins σ H s) : Inv X pins σ H s := ⟨I.ok.unwish, I.os, I.bare, I.base, I.loc, I.cell, I.free, I.freeC, I.pin, I.hok, I.len⟩
theorem SP.unwish {D : Ends} {f : Flow} {s' : Shared} (h : SP (X.wish E) pins D f s') : SP X pins D f s' := by
  cases f with
  | next => obtain ⟨σ', H', I, q⟩ := h; exact ⟨σ', H', I.unwish, q⟩
  | brk => obtain ⟨σ', H', I, q⟩ := h; exact ⟨σ', H', I.unwish, q⟩
  | cont => obtain ⟨σ', H', I, q⟩ := h; exact ⟨σ', H', I.unwish, q⟩
  | ret u => obtain ⟨v, σ', H', I, r, q⟩ := h; exact ⟨v, σ', H', I.unwish, r, q⟩
theorem PSs.nox {st : List Stmt} {t : TS} (h : PSs X.nox st t) : PSs X st t := fun pins s σ H D I hw =>
  wpAny_mono (h pins s σ H D (I.wish _) hw) (fun _ _ q => q.unwish) fun _ _ z => False.elim z
end

/-! ### blocks and small statements -/
section
variable {X : Cx} {st : Stmt} {rest : List Stmt} {t u : TS} {e : Expr} {te : TE} {pos : Pos}
def tNext : TS := fun D σ H => D.nx σ H
def tSeq (t u : TS) : TS := fun D σ H => t { D with nx := u D } σ H
theorem pss_nil : PSs X [] tNext := fun _ _ σ H _ I h => wpAny_execs_nil ⟨σ, H, I, h⟩
theorem pss_cons (h1 : PS X st t) (h2 : PSs X rest u) : PSs X (st :: rest) (tSeq t u) := by
  intro pins s σ H D I h
  refine wpAny_execs_cons (thn (h1 pins s σ H { D with nx := u D } I h) fun f s1 q => ?_)
  cases f with
  | next =>
    obtain ⟨σ', H', I', q⟩ := q
    exact h2 pins s1 σ' H' D I' q
  | ret v => exact q
  | brk => exact q
  | cont => exact q
theorem pss_one (h1 : PS X st t) : PSs X [st] t := by
  intro pins s σ H D I h
  refine wpAny_execs_cons (thn (h1 pins s σ H D I h) fun f s1 q => ?_)
  cases f with
  | next => exact wpAny_execs_nil q
  | ret v => exact q
  | brk => exact q
  | cont => exact q
/-- in a def's body nothing is shown -/
theorem Inv.quiet {pins : List (Addr × Obj)} {σ : St} {H : Hp} {s : Shared} (I : Inv X pins σ H s) : interactive X.env = false := by simp [interactive, I.ok.kind]
/-- an expression whose value is dropped -/
def tDrop (te : TE) : TS := fun D σ H => te σ H fun _ H1 => D.nx σ H1
theorem ps_expr (he : PE X e te) (hs : swapsWith e none pos.line X.env = pure false := by rfl) : PS X (.Expr e pos) (tDrop te) := by
  intro pins s σ H D I h
  exact wpAny_Expr_any (thn (he pins s σ H _ I h) fun v s1 ⟨x, H1, I1, r1, q1⟩ => ⟨σ, H1, I1, q1⟩) I.quiet hs
def tRet (te : TE) : TS := fun D σ H => te σ H D.rt
theorem ps_ret (he : PE X e te) : PS X (.Return (some e) pos) (tRet te) := by
  intro pins s σ H D I h
  exact wpAny_Return_some (thn (he pins s σ H _ I h) fun v s1 ⟨x, H1, I1, r1, q1⟩ => ⟨x, σ, H1, I1, r1, q1⟩)
def tIfS (c : TT) (t u : TS) : TS := fun D σ H => c σ H fun b H1 => if b = true then t D σ H1 else u D σ H1
theorem ps_if {c : Expr} {a b : List Stmt} {tc : TT} (hc : PT X c tc) (ha : PSs X a t) (hb : PSs X b u) : PS X (.If c a b pos) (tIfS tc t u) := by
  intro pins s σ H D I h
  refine wpAny_If (thn (hc pins s σ H _ I h) fun d s1 ⟨H1, I1, q1⟩ => ?_)
  cases d with
  | true => exact ha pins s1 σ H1 D I1 q1
  | false => exact hb pins s1 σ H1 D I1 q1
end

/-! ### targets -/
abbrev TG := V → St → Hp → (St → Hp → Prop) → Prop
abbrev TGs := List V → St → Hp → (St → Hp → Prop) → Prop
def PG (X : Cx) (target : Expr) (t : TG) : Prop :=
  ∀ (pins : List (Addr × Obj)) (s : Shared) (σ : St) (H : Hp) (v : V) (u : Value) (Q : St → Hp → Prop), Inv X pins σ H s → RelV v u → t v σ H Q →
    wpAny (model X.prog X.w) X.A (assign target X.env u) (fun _ s' => ∃ σ' H', Inv X pins σ' H' s' ∧ Q σ' H') X.xe s
/-- several targets, one after another -/
def PGs (X : Cx) (ts : List Expr) (t : TGs) : Prop :=
  ∀ (pins : List (Addr × Obj)) (s : Shared) (σ : St) (H : Hp) (vs : List V) (us : List Value) (Q : St → Hp → Prop), Inv X pins σ H s → Vals vs us → t vs σ H Q →
    wpAny (model X.prog X.w) X.A (assignInOrder ((assignEach ts X.env).map (·.2)) us) (fun _ s' => ∃ σ' H', Inv X pins σ' H' s' ∧ Q σ' H') X.xe s
/-- o[i] = v, by values -/
abbrev TSet := V → V → V → Hp → (Hp → Prop) → Prop
def PSet (X : Cx) (t : TSet) : Prop :=
  ∀ (pins : List (Addr × Obj)) (s : Shared) (σ : St) (H : Hp) (o i v : V) (ov iv u : Value) (Q : Hp → Prop), Inv X pins σ H s → RelV o ov → RelV i iv → RelV v u → t o i v H Q →
    wpAny (model X.prog X.w) X.A (setItem ov iv u) (fun _ s' => ∃ H', Inv X pins σ H' s' ∧ Q H') X.xe s
section
variable {X : Cx} {pos : Pos}
def gName (i : Nat) : TG := fun v σ H Q => Q (σ.set i (some v)) H
theorem pg_name {i : Nat} {x : Str} (hN : X.N.Nodup) (hi : X.N[i]? = some x) (hx : Loc X.env.scope x) (hf : X.fn x = true ∨ X.env.scope.names.lookup x = some .local := by first | exact .inl rfl | exact .inr rfl | assumption) : PG X (.Name x pos) (gName i) := by
  intro pins s σ H v u Q I r h
  exact wpAny_assign_Name (store_ok I hN hi hx r (fun s' I' => ⟨_, H, I', h⟩) hf)
def gNil : TGs := fun vs σ H Q => vs = [] ∧ Q σ H
def gCons (t : TG) (u : TGs) : TGs := fun vs σ H Q => ∃ v r, vs = v :: r ∧ t v σ H fun σ' H' => u r σ' H' Q
theorem pgs_nil : PGs X [] gNil := by
  intro pins s σ H vs us Q I r h
  obtain ⟨e, h⟩ := h
  subst e
  cases r
  exact assignInOrder_nil ⟨σ, H, I, h⟩
theorem pgs_cons {e : Expr} {es : List Expr} {t : TG} {u : TGs} (h1 : PG X e t) (h2 : PGs X es u)
    (hs : (assignEach (e :: es) X.env).map (·.2) = assign e X.env :: (assignEach es X.env).map (·.2) := by rfl) : PGs X (e :: es) (gCons t u) := by
  intro pins s σ H vs us Q I r h
  obtain ⟨v, vr, e1, h⟩ := h
  subst e1
  cases r with
  | cons r rr =>
    rw [hs]
    refine assignInOrder_cons (thn (h1 pins s σ H _ _ _ I r h) fun _ s1 ⟨σ1, H1, I1, q1⟩ => ?_)
    exact h2 pins s1 σ1 H1 _ _ Q I1 rr q1
/-- (a, b, ..) = a tuple of that length -/
def gTup (K : PySem.W.Frag) (n : Nat) (t : TGs) : TG := fun v σ H Q => ∃ a xs, v = .ref a ∧ SqT K H a xs ∧ xs.length = n ∧ t xs σ H Q
theorem pg_tup {es : List Expr} {k : Nat} {t : TGs} {n : Nat} (hc : X.calm = true) (h : PGs X es t)
    (hn : (assignEach es X.env).length = n := by rfl) (hst : (assignEach es X.env).findIdx? (·.1) = none := by rfl) : PG X (.Tuple es k pos) (gTup X.K n t) := by
  intro pins s σ H v u Q I r hw
  obtain ⟨a, xs, e1, hq, hl, hw⟩ := hw
  subst e1
  cases r
  obtain ⟨its, rv, ht, hz⟩ := I.tuple hq
  refine assign_Tuple_tuple (I.ok.hd hc) ht (by simp [hn, ← hl, rv.length]) hst fun h' hx => ?_
  have I1 : Inv X pins σ H { s with heap := h' } := I.kept (t' := s.toks) fun b o e => hx b o (Nat.ne_of_lt (Heap.lt_size e)) e
  exact h pins _ σ H xs _ Q I1 (by simpa using rv) hw
/-- o[i] = .. -/
def gSub (to ti : TE) (t : TSet) : TG := fun v σ H Q => to σ H fun o H1 => ti σ H1 fun i H2 => t o i v H2 fun H3 => Q σ H3
theorem pg_sub {o i : Expr} {to ti : TE} {t : TSet} (ho : PE X o to) (hi : PE X i ti) (hs : PSet X t)
    (ha : ∀ v, assign (.Subscript o i pos) X.env v = (do
      let ov ← holding [v] (eval o X.env)
      let iv ← holding [v, ov] (eval i X.env)
      standAt pos
      holding [v, ov, iv] (setItem ov iv v)
      release [v, ov, iv] []) := by intro _; rfl) : PG X (.Subscript o i pos) (gSub to ti t) := by
  intro pins s σ H v u Q I r h
  rw [ha]
  refine wpAny_bind (wpAny_holding (thn (ho pins s σ H _ I h) fun ov s1 ⟨x, H1, I1, r1, q1⟩ => ?_))
  refine wpAny_bind (wpAny_holding (thn (hi pins s1 σ H1 _ I1 q1) fun iv s2 ⟨y, H2, I2, r2, q2⟩ => ?_))
  refine wpAny_bind (wpAny_standAt (wpAny_bind (wpAny_holding (thn (hs pins s2 σ H2 x y v ov iv u _ I2 r1 r2 r q2) fun _ s3 ⟨H3, I3, q3⟩ => ?_))))
  exact wpAny_release ⟨σ, H3, I3, q3⟩
/-- target = value -/
def tAsg (te : TE) (g : TG) : TS := fun D σ H => te σ H fun x H1 => g x σ H1 D.nx
theorem ps_asg {tg e : Expr} {te : TE} {g : TG} (he : PE X e te) (hg : PG X tg g) (hs : swapsWithSole [tg] e pos.line X.env = pure false := by rfl) (hw : swappedStores [tg] e X.env = pure none := by rfl)
    (h1 : (assignEach [tg] X.env).map (·.2) = [assign tg X.env] := by rfl) : PS X (.Assign [tg] e pos) (tAsg te g) := by
  intro pins s σ H D I h
  refine wpAny_Assign_stores (thn (he pins s σ H _ I h) fun v s1 ⟨x, H1, I1, r1, q1⟩ => ?_) hs hw
  rw [h1]
  exact thn (hg pins s1 σ H1 x v _ I1 r1 q1) fun _ s2 q => q
/-- name = value -/
theorem ps_set {i : Nat} {x : Str} {e : Expr} {te : TE} {pos' : Pos} (hN : X.N.Nodup) (hi : X.N[i]? = some x) (hx : Loc X.env.scope x) (he : PE X e te) (hs : swapsWith e (some (.Name x pos')) pos.line X.env = pure false := by rfl) (hf : X.fn x = true ∨ X.env.scope.names.lookup x = some .local := by first | exact .inl rfl | exact .inr rfl | assumption) :
    PS X (.Assign [.Name x pos'] e pos) (tAsg te (gName i)) := by
  intro pins s σ H D I h
  refine wpAny_Assign_Name (thn (he pins s σ H _ I h) fun v s1 ⟨y, H1, I1, r1, q1⟩ => ?_) hs
  exact store_ok I1 hN hi hx r1 (fun s2 I2 => ⟨_, H1, I2, q1⟩) hf
end

/-! ### while -/
section
variable {X : Cx} {pos : Pos}
/-- the invariant W with its measure -/
def tWhile (c : TT) (tb : TS) : TS := fun D σ H => ∃ W : Nat → St → Hp → Prop, (∃ m, W m σ H) ∧ ∀ m σ H, W m σ H →
  c σ H fun b H1 => if b = true then ∃ N : St → Hp → Prop, (∀ σ' H', N σ' H' → ∃ m', m' < m ∧ W m' σ' H') ∧ tb { D with nx := N, ct := N, bk := D.nx } σ H1 else D.nx σ H1
theorem ps_while {c : Expr} {body : List Stmt} {tc : TT} {tb : TS} (hp : PassesOwn (model X.prog X.w) X.A X.env X.xe) (hc : PT X c tc) (hb : PSs X body tb) : PS X (.While c body [] pos) (tWhile tc tb) := by
  intro pins s σ H D I h
  obtain ⟨W, ⟨m0, w0⟩, turn⟩ := h
  refine wpAny_While (codeAny_whileLoop (fun n s' => ∃ σ' H', Inv X pins σ' H' s' ∧ W n σ' H') ?_ m0 ⟨σ, H, I, w0⟩)
  rintro n s1 ⟨σ1, H1, I1, w1⟩
  refine wpAny_passesOwn hp (thn (hc pins s1 σ1 H1 _ I1 (turn n σ1 H1 w1)) fun b s2 ⟨H2, I2, q2⟩ => ?_)
  cases b with
  | true =>
    obtain ⟨N, hN, q2⟩ := q2
    rw [if_pos rfl]
    refine wpAny_passesOwn hp (thn (hb pins s2 σ1 H2 _ I2 q2) fun f s3 q3 => ?_)
    cases f with
    | next =>
      obtain ⟨σ3, H3, I3, n3⟩ := q3
      obtain ⟨m', hm, w3⟩ := hN σ3 H3 n3
      exact ⟨m', hm, σ3, H3, I3, w3⟩
    | cont =>
      obtain ⟨σ3, H3, I3, n3⟩ := q3
      obtain ⟨m', hm, w3⟩ := hN σ3 H3 n3
      exact ⟨m', hm, σ3, H3, I3, w3⟩
    | brk => exact q3
    | ret v => exact q3
  | false =>
    rw [if_neg Bool.false_ne_true]
    exact wpAny_execs_nil ⟨σ1, H2, I2, q2⟩
end

/-! ### what a loop or a comprehension walks -/
/-- at turn i: it yields x (the heap may grow), or it stops -/
structure It where
  go : Nat → Hp → Prop
  yld : Nat → Hp → V → Hp → Prop
  stop : Nat → Hp → Prop
/-- the iterator's own objects may turn: they are not the frame's, not pinned, younger than the entry (or a comprehension's own) -/
def FpOk (X : Cx) (pins : List (Addr × Obj)) (H : Hp) (b : Addr) : Prop :=
  H b = none ∧ b ≠ X.env.locals ∧ b ∉ X.fs ∧ (b ∈ X.ex ∨ X.s₀.heap.objs.size ≤ b) ∧ (∀ x c, X.env.cells.lookup x = some c → c ≠ b) ∧ ∀ p ∈ X.pn ++ pins, p.1 ≠ b
theorem Inv.fpOk {X : Cx} {pins : List (Addr × Obj)} {σ : St} {H H' : Hp} {s : Shared} {b : Addr} (I : Inv X pins σ H s) (hb : s.heap.objs.size ≤ b) (hn : H' b = none) : FpOk X pins H' b := by
  refine ⟨hn, Nat.ne_of_gt (Nat.lt_of_lt_of_le I.lt hb), I.nofs hb, .inr (Nat.le_trans I.sz hb), fun x c e z => ?_, fun p hp z => ?_⟩
  · obtain ⟨v, q⟩ := I.cell x c e
    exact absurd (Nat.lt_of_lt_of_le q.lt (by rw [z]; exact hb)) (Nat.lt_irrefl _)
  · exact absurd (Nat.lt_of_lt_of_le (Heap.lt_size (I.pin p hp).1) (by rw [z]; exact hb)) (Nat.lt_irrefl _)
structure Turn (P : Program) (w : World) (K : PySem.W.Frag) (tg : Expr) (J : It) (fp : List Addr) (it : Addr) (tn : Nat → Heap → Prop) : Prop where
  mem : it ∈ fp
  obj : ∀ i h, tn i h → ∀ b ∈ fp, ∃ o, h.get? b = some o ∧ ∀ v, o.data ≠ .cell v
  keep : ∀ i h h', tn i h → (∀ b ∈ fp, ∀ o, h.get? b = some o → h'.get? b = some o) → tn i h'
  item : ∀ (X : Cx), X.prog = P → X.w = w → X.K = K → X.calm = true → ∀ (i : Nat) (pins : List (Addr × Obj)) (s : Shared) (σ : St) (H : Hp) (E : Value → Shared → Prop), Inv X pins σ H s → (∀ b ∈ fp, FpOk X pins H b) → tn i s.heap → J.go i H →
    wpAny (model P w) X.A (pyNext (.ref it)) (fun r s1 => ∃ u, r = some u ∧
      wpAny (model P w) X.A (letOwnedTupleGo tg (.ref it) u) (fun _ s2 => ∃ x H', Inv X pins σ H' s2 ∧ RelV x u ∧ J.yld i H x H' ∧ tn (i + 1) s2.heap ∧ ∀ b ∈ fp, H' b = none) E s1) E s
  done : ∀ (X : Cx), X.prog = P → X.w = w → X.K = K → X.calm = true → ∀ (i : Nat) (pins : List (Addr × Obj)) (s : Shared) (σ : St) (H : Hp) (E : Value → Shared → Prop), Inv X pins σ H s → (∀ b ∈ fp, FpOk X pins H b) → tn i s.heap → J.stop i H →
    wpAny (model P w) X.A (pyNext (.ref it)) (fun r s1 => r = none ∧ Inv X pins σ H s1) E s
  self : ∀ (A : Around) (i : Nat) (s : Shared) (Q : Value → Shared → Prop) (E : Value → Shared → Prop), tn i s.heap → Q (.ref it) s → wpAny (model P w) A (pyIter (.ref it)) Q E s
abbrev TI := St → Hp → (It → Hp → Prop) → Prop
/-- an iterator has come -/
def PIE (X : Cx) (pins : List (Addr × Obj)) (σ : St) (tg : Expr) (R : It → Hp → Prop) (itv : Value) (s2 : Shared) : Prop :=
  ∃ (it : Addr) (fp : List Addr) (tn : Nat → Heap → Prop) (J : It) (H' : Hp), itv = .ref it ∧ Inv X pins σ H' s2 ∧ Turn X.prog X.w X.K tg J fp it tn ∧ tn 0 s2.heap ∧ (∀ b ∈ fp, FpOk X pins H' b) ∧ R J H'
def PI (X : Cx) (tg iter : Expr) (wi : TI) : Prop :=
  ∀ (pins : List (Addr × Obj)) (s : Shared) (σ : St) (H : Hp) (R : It → Hp → Prop), Inv X pins σ H s → wi σ H R →
    wpAny (model X.prog X.w) X.A (eval iter X.env) (fun v s1 => wpAny (model X.prog X.w) X.A (pyIter v) (PIE X pins σ tg R) X.xe s1) X.xe s

/-- the step ahead of the store is nothing for an iterator that keeps no tuple -/
theorem go_of {M : Model} {A : Around} {E : Value → Shared → Prop} {s : Shared} {tg : Expr} {it : Addr} {u : Value} {o : Obj} {n : String} {vs : Array Value} {Q : Unit → Shared → Prop} (ho : s.heap.get? it = some o) (hc : o.cls = .type n) (hd : o.data = .fields vs)
    (hn : ["enumerate", "zip", "dict_itemiterator", "dict_reverseitemiterator", "odict_iterator", "itertools.zip_longest", "itertools.pairwise"].contains n = false) (hQ : Q () s) : wpAny M A (letOwnedTupleGo tg (.ref it) u) Q E s := by
  unfold letOwnedTupleGo
  cases tg <;> first
    | exact wpAny_pure hQ
    | (cases u <;> first
        | exact wpAny_pure hQ
        | (refine wpAny_bind (wpAny_load ho ?_)
           rw [hc, hd]
           show wpAny M A (if (["enumerate", "zip", "dict_itemiterator", "dict_reverseitemiterator", "odict_iterator", "itertools.zip_longest", "itertools.pairwise"].contains n && vs[0]? == some (rawInt _)) = true then _ else _) Q E s
           rw [if_neg (by intro h; rw [hn, Bool.false_and] at h; cases h)]
           exact wpAny_pure hQ))

/-- the list at a, as it stands at each turn (a loop may append to it) -/
def Itl (K : PySem.W.Frag) (a : Addr) : It :=
  ⟨fun i H => ∃ xs x, SqL K H a xs ∧ xs[i]? = some x, fun i H x H' => H' = H ∧ ∀ xs, SqL K H a xs → xs[i]? = some x, fun i H => ∃ xs, SqL K H a xs ∧ xs.length ≤ i⟩
/-- lo, lo + 1, .. (n of them) -/
def Itr (lo : Int) (n : Nat) : It := ⟨fun i _ => i < n, fun i H x H' => H' = H ∧ x = .int (lo + i), fun i _ => n ≤ i⟩
theorem turn_list {P : Program} {w : World} {K : PySem.W.Frag} {tg : Expr} (a it : Addr) : Turn P w K tg (Itl K a) [it] it (fun i h => h.IsListIter it a i) where
  mem := by simp
  obj := fun i h st b hb => by
    have e : b = it := by simpa using hb
    subst e
    obtain ⟨o, e, c, d⟩ := st
    exact ⟨o, e, fun v z => by rw [d] at z; cases z⟩
  keep := fun i h h' st k => st.at fun o e => k it (by simp) o e
  item := by
    intro X hP hw hK hc i pins s σ H E I hf st hg
    subst hP hw hK
    obtain ⟨xs, x, hq, hx⟩ := hg
    obtain ⟨its, rv, p, hz⟩ := I.list hq
    obtain ⟨u, hu, ru⟩ := rv.get hx
    obtain ⟨f0, f1, f2, f3, f4, f5⟩ := hf it (by simp)
    refine wpAny_pyNext_list_item st p.isList (x := u) (by simpa using hu) fun h' st' sb => ?_
    have I1 : Inv X pins σ H { s with heap := h' } := I.turned (t' := s.toks) (fun b o hb e => (sb.2 b hb).trans e) f0 f1 f3 f4 f5
    obtain ⟨o, e, c, d⟩ := id st'
    exact ⟨u, rfl, go_of (s := { s with heap := h' }) e c d (by decide) ⟨x, H, I1, ru, ⟨rfl, fun ys hy => by rw [I.list_inj hy hq]; exact hx⟩, st', fun b hb => (hf b hb).1⟩⟩
  done := by
    intro X hP hw hK hc i pins s σ H E I hf st hg
    subst hP hw hK
    obtain ⟨xs, hq, hx⟩ := hg
    obtain ⟨its, rv, p, hz⟩ := I.list hq
    obtain ⟨f0, f1, f2, f3, f4, f5⟩ := hf it (by simp)
    have hl := rv.length
    exact wpAny_pyNext_list_end (I.ok.hd hc) st p.isList (by simp; omega) fun h' eb => ⟨rfl, I.turned (t' := s.toks) (fun b o hb e => eb b o hb e) f0 f1 f3 f4 f5⟩
  self := fun _ _ _ _ _ st h => wpAny_pyIter_listiter st h
theorem turn_range {P : Program} {w : World} {K : PySem.W.Frag} {tg : Expr} (it : Addr) (lo : Int) (n : Nat) : Turn P w K tg (Itr lo n) [it] it (fun i h => IsRangeIter h it (lo + (i : Nat) * 1) ((n : Int) - (i : Nat)) 1) where
  mem := by simp
  obj := fun i h st b hb => by
    have e : b = it := by simpa using hb
    subst e
    exact ⟨_, st, fun v z => by
      have z' : Data.fields _ = Data.cell v := z
      cases z'⟩
  keep := fun i h h' st k => k it (by simp) _ st
  item := by
    intro X hP hw hK hc i pins s σ H E I hf st hg
    subst hP hw hK
    obtain ⟨f0, f1, f2, f3, f4, f5⟩ := hf it (by simp)
    have W := Walks.range (prog := X.prog) (w := X.w) (I.ok.hd hc) it lo 1 n
    refine W.item i s _ _ hg st fun v h' tk hv st' kk => ?_
    obtain ⟨t, rfl⟩ := hv
    have I1 : Inv X pins σ H { s with heap := h', toks := tk } := I.turned (fun b o hb e => kk b o (by simpa using hb) e) f0 f1 f3 f4 f5
    refine ⟨_, rfl, go_of (s := { s with heap := h', toks := tk }) (n := "range_iterator") st' rfl rfl (by decide) ⟨.int (lo + i), H, I1, ⟨t, ?_⟩, ⟨rfl, rfl⟩, st', fun b hb => (hf b hb).1⟩⟩
    rw [Int.mul_one]
  done := by
    intro X hP hw hK hc i pins s σ H E I hf st hg
    subst hP hw hK
    obtain ⟨f0, f1, f2, f3, f4, f5⟩ := hf it (by simp)
    exact wpAny_pyNext_range_end (I.ok.hd hc) st (by have : n ≤ i := hg; omega) fun h' eb => ⟨rfl, I.turned (t' := s.toks) (fun b o hb e => eb b o hb e) f0 f1 f3 f4 f5⟩
  self := fun _ _ _ _ _ st h => wpAny_pyIter_rangeiter st h
end L2

namespace L2
open PySem PySem.Spec PyProof.Rows
section
variable {X : Cx} {tg : Expr}
def iList (K : PySem.W.Frag) (tl : TE) : TI := fun σ H R => tl σ H fun x H1 => ∃ a, x = .ref a ∧ (∃ xs, SqL K H1 a xs) ∧ R (Itl K a) H1
theorem pi_list {l : Expr} {tl : TE} (hl : PE X l tl) : PI X tg l (iList X.K tl) := by
  intro pins s σ H R I h
  refine thn (hl pins s σ H _ I h) fun v s1 ⟨x, H1, I1, r1, q1⟩ => ?_
  obtain ⟨a, e, ⟨xs, hq⟩, q⟩ := q1
  subst e
  cases r1
  obtain ⟨its, rv, p, hz⟩ := I1.list hq
  refine wpAny_pyIter_list p.isList ?_
  refine ⟨s1.heap.objs.size, [s1.heap.objs.size], _, _, H1, rfl, I1.kept (t' := s1.toks) fun b o e => Heap.get?_push_of_some _ e, turn_list a _, ⟨_, Heap.get?_push_size _ rfl, rfl, rfl⟩, fun b hb => ?_, q⟩
  have e : b = s1.heap.objs.size := by simpa using hb
  subst e
  exact I1.fpOk (Nat.le_refl _) (I1.hok.fresh (Nat.le_refl _))
/-- a range object just made, walked -/
theorem range_it {pins : List (Addr × Obj)} {σ : St} {H : Hp} {s : Shared} {R : It → Hp → Prop} {E : Value → Shared → Prop} {lo hi : Int} {t u v : Tok} {tk : Nat} (I : Inv X pins σ H s) (h1 : -(2 ^ 62) ≤ lo) (h2 : lo < 2 ^ 62) (h3 : -(2 ^ 62) ≤ hi) (h4 : hi < 2 ^ 62)
    (q : R (Itr lo (hi - lo).toNat) H) : wpAny (model X.prog X.w) X.A (pyIter (.ref s.heap.objs.size)) (PIE X pins σ tg R) E { s with heap := s.heap.push { cls := .type "range", data := .fields #[.int lo t, .int hi u, .int 1 v] }, toks := tk } := by
  refine wpAny_pyIter_range (IsRange.new ..) (small_one h1 h2 h3 h4) ?_
  have I1 : Inv X pins σ H { s with heap := s.heap.push { cls := .type "range", data := .fields #[.int lo t, .int hi u, .int 1 v] }, toks := tk } := I.kept fun b o e => Heap.get?_push_of_some _ e
  refine ⟨(s.heap.push { cls := .type "range", data := .fields #[.int lo t, .int hi u, .int 1 v] }).objs.size, [(s.heap.push { cls := .type "range", data := .fields #[.int lo t, .int hi u, .int 1 v] }).objs.size], _, _, H, rfl,
    I1.kept (t' := tk) fun b o e => Heap.get?_push_of_some _ e, turn_range _ lo (hi - lo).toNat, ?_, fun b hb => ?_, q⟩
  · have e1 : lo + ((0 : Nat) : Int) * 1 = lo := by simp
    have e2 : (((hi - lo).toNat : Nat) : Int) - ((0 : Nat) : Int) = Builtin.Range.rangeSize lo hi 1 := by rw [rangeSize_one]; split <;> omega
    show IsRangeIter _ _ (lo + ((0 : Nat) : Int) * 1) ((((hi - lo).toNat : Nat) : Int) - ((0 : Nat) : Int)) 1
    rw [e1, e2]
    exact Heap.get?_push_size _ rfl
  · have e : b = (s.heap.push { cls := .type "range", data := .fields #[.int lo t, .int hi u, .int 1 v] }).objs.size := by simpa using hb
    subst e
    exact I1.fpOk (Nat.le_refl _) (I1.hok.fresh (Nat.le_refl _))
def iRng1 (ta : TA) : TI := fun σ H R => ta σ H fun vs H1 => ∃ j : Int, vs = [.int j] ∧ -(2 ^ 62) ≤ j ∧ j < 2 ^ 62 ∧ R (Itr 0 j.toNat) H1
theorem pi_range1 {a : Expr} {ta : TA} {p pos : Pos} (hg : Gl X "range") (hm : X.mg "range" = none) (ha : PA X [a] ta) (hs : starEach [a] X.env = [(false, eval a X.env)] := by rfl) : PI X tg (.Call (.Name "range" p) [a] [] pos) (iRng1 ta) := by
  intro pins s σ H R I h
  refine Call_ (ld_blt I hg hm boot_range (PyProof.Rows.callWith_type1 (thn (ha pos pins s σ H _ I h) fun us s1 ⟨vs, H1, I1, r1, q1⟩ => ?_) hs rfl))
  obtain ⟨j, e, q1, q2, q⟩ := q1
  subst e
  cases r1 with
  | cons r rr =>
    cases rr
    obtain ⟨t, rfl⟩ := r
    exact call_range_1 (range_it I1 (by omega) (by omega) q1 q2 (by simpa using q))
/-! ### for -/
/-- W: the invariant by the turn and a measure; N: what the body is to reach -/
def tFor (wi : TI) (g : TG) (tb : TS) : TS := fun D σ H => wi σ H fun J H1 => ∃ W : Nat → Nat → St → Hp → Prop, (∃ m, W 0 m σ H1) ∧ ∀ i m σ H, W i m σ H →
  (J.stop i H ∧ D.nx σ H) ∨ (J.go i H ∧ ∃ N : St → Hp → Prop, (∀ σ' H', N σ' H' → ∃ m', m' < m ∧ W (i + 1) m' σ' H') ∧ ∀ x H', J.yld i H x H' → g x σ H' fun σ2 H2 => tb { D with nx := N, ct := N, bk := D.nx } σ2 H2)
/-- the records at fp as they stand -/
def pinsAt (fp : List Addr) (h : Heap) : List (Addr × Obj) := fp.filterMap fun b => (h.get? b).map fun o => (b, o)
theorem mem_pinsAt {fp : List Addr} {h : Heap} {b : Addr} {o : Obj} (hb : b ∈ fp) (e : h.get? b = some o) : (b, o) ∈ pinsAt fp h := List.mem_filterMap.mpr ⟨b, hb, by rw [e]; rfl⟩
theorem of_pinsAt {fp : List Addr} {h : Heap} {p : Addr × Obj} (hp : p ∈ pinsAt fp h) : p.1 ∈ fp ∧ h.get? p.1 = some p.2 := by
  obtain ⟨b, hb, e⟩ := List.mem_filterMap.mp hp
  cases q : h.get? b with
  | none => rw [q] at e; cases e
  | some o =>
    rw [q] at e
    have e' : (b, o) = p := Option.some.inj e
    subst e'
    exact ⟨hb, q⟩
theorem Inv.pinned {pins : List (Addr × Obj)} {σ : St} {H : Hp} {s : Shared} {fp : List Addr} (I : Inv X pins σ H s) (hf : ∀ b ∈ fp, FpOk X pins H b) (ho : ∀ b ∈ fp, ∃ o, s.heap.get? b = some o ∧ ∀ v, o.data ≠ .cell v) : Inv X (pins ++ pinsAt fp s.heap) σ H s :=
  I.pins_of fun p hp => (List.mem_append.mp hp).elim (fun z => I.pin p (List.mem_append_right _ z)) fun z => by
    obtain ⟨hb, e⟩ := of_pinsAt z
    obtain ⟨f0, f1, f2, _⟩ := hf p.1 hb
    obtain ⟨o, e', d⟩ := ho p.1 hb
    rw [e] at e'; cases e'
    exact ⟨e, f0, f1, f2, d⟩
theorem Inv.unpinned {pins pl : List (Addr × Obj)} {σ : St} {H : Hp} {s : Shared} (I : Inv X (pins ++ pl) σ H s) : Inv X pins σ H s := I.pins_of fun p hp => I.pin p (List.mem_append_right _ (List.mem_append_left _ hp))
theorem ps_for {iter : Expr} {body : List Stmt} {wi : TI} {g : TG} {tb : TS} {pos : Pos} (hp : PassesOwn (model X.prog X.w) X.A X.env X.xe) (hc : X.calm = true) (hi : PI X tg iter wi) (hg : PG X tg g) (hb : PSs X body tb)
    (hs : ∀ x, foldedSetIterable iter X.env x = pure x := by intro _; rfl) : PS X (.For tg iter body [] pos) (tFor wi g tb) := by
  intro pins s σ H D I h
  refine wpAny_For (thn (hi pins s σ H _ I h) fun v s1 h1 => thn h1 fun itv s2 h2 => ?_) hs
  obtain ⟨it, fp, tn, J, H2, e, I2, T, st2, f2, W, ⟨m0, w0⟩, turn⟩ := h2
  subst e
  -- what stays true of the iterator's objects through the loop
  have stat : ∀ {H' : Hp}, (∀ b ∈ fp, H' b = none) → ∀ b ∈ fp, FpOk X pins H' b := fun hn b hb => ⟨hn b hb, (f2 b hb).2⟩
  refine codeAny_forLoop_any (fun n s' => ∃ i σ' H', Inv X pins σ' H' s' ∧ tn i s'.heap ∧ (∀ b ∈ fp, H' b = none) ∧ W i n σ' H') ?_ m0 ⟨0, σ, H2, I2, st2, fun b hb => (f2 b hb).1, w0⟩
  rintro n s3 ⟨i, σ3, H3, I3, st3, fr3, w3⟩
  rcases turn i n σ3 H3 w3 with ⟨stop, qn⟩ | ⟨go, N, hN, step⟩
  · refine wpAny_passesOwn hp (thn (T.done X rfl rfl rfl hc i pins s3 σ3 H3 X.xe I3 (stat fr3) st3 stop) fun r s4 ⟨hr, I4⟩ => ?_)
    subst hr
    exact wpAny_execs_nil ⟨σ3, H3, I4, qn⟩
  · refine wpAny_passesOwn hp (thn (T.item X rfl rfl rfl hc i pins s3 σ3 H3 X.xe I3 (stat fr3) st3 go) fun r s4 ⟨u, hr, h4⟩ => ?_)
    subst hr
    refine wpAny_passesOwn hp (thn h4 fun _ s5 ⟨x, H5, I5, r5, y5, st5, fr5⟩ => ?_)
    have I5' := I5.pinned (stat fr5) (T.obj _ _ st5)
    refine wpAny_passesOwn hp (thn (hg _ s5 σ3 H5 x u _ I5' r5 (step x H5 y5)) fun _ s6 ⟨σ6, H6, I6, q6⟩ => ?_)
    refine wpAny_passesOwn hp (thn (hb _ s6 σ6 H6 _ I6 q6) fun f s7 q7 => ?_)
    have again : ∀ {σ7 : St} {H7 : Hp}, Inv X (pins ++ pinsAt fp s5.heap) σ7 H7 s7 → N σ7 H7 → ∃ m, m < n ∧ ∃ i σ' H', Inv X pins σ' H' s7 ∧ tn i s7.heap ∧ (∀ b ∈ fp, H' b = none) ∧ W i m σ' H' := fun {σ7 H7} I7 n7 => by
      obtain ⟨m', hm, w7⟩ := hN σ7 H7 n7
      refine ⟨m', hm, i + 1, σ7, H7, I7.unpinned, T.keep _ _ _ st5 fun b hb o e => (I7.pin (b, o) (List.mem_append_right _ (List.mem_append_right _ (mem_pinsAt hb e)))).1, fun b hb => ?_, w7⟩
      obtain ⟨o, e, d⟩ := T.obj _ _ st5 b hb
      exact (I7.pin (b, o) (List.mem_append_right _ (List.mem_append_right _ (mem_pinsAt hb e)))).2.1
    cases f with
    | next => obtain ⟨σ7, H7, I7, n7⟩ := q7; exact again I7 n7
    | cont => obtain ⟨σ7, H7, I7, n7⟩ := q7; exact again I7 n7
    | brk => obtain ⟨σ7, H7, I7, q7⟩ := q7; exact ⟨σ7, H7, I7.unpinned, q7⟩
    | ret v => obtain ⟨x7, σ7, H7, I7, r7, q7⟩ := q7; exact ⟨x7, σ7, H7, I7.unpinned, r7, q7⟩
end

/-! ### the forms one uses -/
/-- over a list that the body leaves as it is -/
theorem for_list {K : PySem.W.Frag} {a : Addr} {xs : List V} {g : TG} {tb : TS} {D : Ends} {σ : St} {H : Hp} (Pv : Nat → St → Hp → Prop) (h0 : Pv 0 σ H) (hl : ∀ i σ H, i ≤ xs.length → Pv i σ H → SqL K H a xs)
    (hs : ∀ i x σ H, xs[i]? = some x → Pv i σ H → g x σ H fun σ2 H2 => tb { D with nx := Pv (i + 1), ct := Pv (i + 1), bk := D.nx } σ2 H2) (hd : ∀ σ H, Pv xs.length σ H → D.nx σ H) :
    ∃ W : Nat → Nat → St → Hp → Prop, (∃ m, W 0 m σ H) ∧ ∀ i m σ H, W i m σ H →
      ((Itl K a).stop i H ∧ D.nx σ H) ∨ ((Itl K a).go i H ∧ ∃ N : St → Hp → Prop, (∀ σ' H', N σ' H' → ∃ m', m' < m ∧ W (i + 1) m' σ' H') ∧ ∀ x H', (Itl K a).yld i H x H' → g x σ H' fun σ2 H2 => tb { D with nx := N, ct := N, bk := D.nx } σ2 H2) := by
  refine ⟨fun i m σ H => m = xs.length - i ∧ i ≤ xs.length ∧ Pv i σ H, ⟨xs.length, by simp, Nat.zero_le _, h0⟩, ?_⟩
  rintro i m σ H ⟨rfl, hi, p⟩
  have q := hl i σ H hi p
  by_cases hlt : i < xs.length
  · refine .inr ⟨⟨xs, xs[i], q, by simp [hlt]⟩, Pv (i + 1), fun σ' H' p' => ⟨xs.length - (i + 1), by omega, rfl, hlt, p'⟩, fun x H' y => ?_⟩
    obtain ⟨e, y⟩ := y
    subst e
    exact hs i x σ _ (y xs q) p
  · have e : i = xs.length := by omega
    subst e
    exact .inl ⟨⟨xs, q, Nat.le_refl _⟩, hd σ H p⟩
theorem for_range {lo : Int} {n : Nat} {g : TG} {tb : TS} {D : Ends} {σ : St} {H : Hp} (Pv : Nat → St → Hp → Prop) (h0 : Pv 0 σ H)
    (hs : ∀ i σ H, i < n → Pv i σ H → g (.int (lo + i)) σ H fun σ2 H2 => tb { D with nx := Pv (i + 1), ct := Pv (i + 1), bk := D.nx } σ2 H2) (hd : ∀ σ H, Pv n σ H → D.nx σ H) :
    ∃ W : Nat → Nat → St → Hp → Prop, (∃ m, W 0 m σ H) ∧ ∀ i m σ H, W i m σ H →
      ((Itr lo n).stop i H ∧ D.nx σ H) ∨ ((Itr lo n).go i H ∧ ∃ N : St → Hp → Prop, (∀ σ' H', N σ' H' → ∃ m', m' < m ∧ W (i + 1) m' σ' H') ∧ ∀ x H', (Itr lo n).yld i H x H' → g x σ H' fun σ2 H2 => tb { D with nx := N, ct := N, bk := D.nx } σ2 H2) := by
  refine ⟨fun i m σ H => m = n - i ∧ i ≤ n ∧ Pv i σ H, ⟨n, by simp, Nat.zero_le _, h0⟩, ?_⟩
  rintro i m σ H ⟨rfl, hi, p⟩
  by_cases hlt : i < n
  · refine .inr ⟨hlt, Pv (i + 1), fun σ' H' p' => ⟨n - (i + 1), by omega, rfl, hlt, p'⟩, fun x H' y => ?_⟩
    obtain ⟨e, y⟩ := y
    subst e y
    exact hs i σ _ hlt p
  · have e : i = n := by omega
    subst e
    exact .inl ⟨Nat.le_refl _, hd σ H p⟩
/-- while, by a word and a measure of the state -/
theorem while_by {c : TT} {tb : TS} {D : Ends} {σ : St} {H : Hp} (Pv : St → Hp → Prop) (μ : St → Hp → Nat) (h0 : Pv σ H)
    (hs : ∀ σ H, Pv σ H → c σ H fun b H1 => if b = true then tb { D with nx := fun σ' H' => Pv σ' H' ∧ μ σ' H' < μ σ H, ct := fun σ' H' => Pv σ' H' ∧ μ σ' H' < μ σ H, bk := D.nx } σ H1 else D.nx σ H1)
    (mono : ∀ σ H Q Q', (∀ b H1, Q b H1 → Q' b H1) → c σ H Q → c σ H Q') : tWhile c tb D σ H := by
  refine ⟨fun m σ H => m = μ σ H ∧ Pv σ H, ⟨_, rfl, h0⟩, ?_⟩
  rintro m σ H ⟨rfl, p⟩
  refine mono σ H _ _ (fun b H1 q => ?_) (hs σ H p)
  cases b with
  | true => exact ⟨_, fun σ' H' ⟨p', l⟩ => ⟨_, l, rfl, p'⟩, q⟩
  | false => exact q
end L2

namespace L2
open PySem PySem.Spec PyProof.Rows

abbrev R2 := V → V → Hp → VK → Prop
/-- a two-place operation on values: f is binaryOp op, inplaceOp op or compareOp op -/
def OpR (X : Cx) (f : Value → Value → Sem Value) (r : R2) : Prop :=
  ∀ (pins : List (Addr × Obj)) (s : Shared) (σ : St) (H : Hp) (x y : V) (v u : Value) (Q : VK), Inv X pins σ H s → RelV x v → RelV y u → r x y H Q →
    wpAny (model X.prog X.w) X.A (f v u) (EP X pins σ Q) X.xe s
/-- a one-place operation -/
def UnR (X : Cx) (f : Value → Sem Value) (r : V → Hp → VK → Prop) : Prop :=
  ∀ (pins : List (Addr × Obj)) (s : Shared) (σ : St) (H : Hp) (x : V) (v : Value) (Q : VK), Inv X pins σ H s → RelV x v → r x H Q →
    wpAny (model X.prog X.w) X.A (f v) (EP X pins σ Q) X.xe s
/-- a call of a value that is known (a builtin, a type) with values -/
def CallR (X : Cx) (f : Value) (r : List V → Hp → VK → Prop) : Prop :=
  ∀ (pins : List (Addr × Obj)) (s : Shared) (σ : St) (H : Hp) (xs : List V) (us : List Value) (Q : VK), Inv X pins σ H s → Vals xs us → r xs H Q →
    wpAny (model X.prog X.w) X.A (call f us) (EP X pins σ Q) X.xe s
def tOp (r : R2) (ta tb : TE) : TE := fun σ H Q => ta σ H fun x H1 => tb σ H1 fun y H2 => r x y H2 Q
def tUn (r : V → Hp → VK → Prop) (ta : TE) : TE := fun σ H Q => ta σ H fun x H1 => r x H1 Q
/-- ints in, under C, and a value out -/
def rI (C : Int → Int → Prop) (g : Int → Int → V) : R2 := fun x y H Q => ∃ i j, x = .int i ∧ y = .int j ∧ C i j ∧ Q (g i j) H
def rI0 (g : Int → Int → V) : R2 := fun x y H Q => ∃ i j, x = .int i ∧ y = .int j ∧ Q (g i j) H
def rU (g : Int → V) : V → Hp → VK → Prop := fun x H Q => ∃ i, x = .int i ∧ Q (g i) H

section
variable {X : Cx} {a b c : Expr} {ta tb tc : TE} {pos : Pos}

theorem binT (ha : PE X a ta) (hb : PE X b tb) {pins : List (Addr × Obj)} {s : Shared} {σ : St} {H : Hp} {R : V → V → Hp → Prop} (I : Inv X pins σ H s)
    (h : ta σ H fun x H1 => tb σ H1 fun y H2 => R x y H2) {Q : Value → Shared → Prop} {f : Value → Value → Sem Value}
    (hf : ∀ v u s2 x y H2, Inv X pins σ H2 s2 → RelV x v → RelV y u → R x y H2 → wpAny (model X.prog X.w) X.A (f v u) Q X.xe s2) :
    wpAny (model X.prog X.w) X.A (eval a X.env) (fun v s₁ => wpAny (model X.prog X.w) X.A (eval b X.env) (fun u s₂ => wpAny (model X.prog X.w) X.A (f v u) Q X.xe s₂) X.xe s₁) X.xe s := by
  refine thn (ha pins s σ H _ I h) fun v s1 ⟨x, H1, I1, r1, q1⟩ => ?_
  refine thn (hb pins s1 σ H1 _ I1 q1) fun u s2 ⟨y, H2, I2, r2, q2⟩ => ?_
  exact hf v u s2 x y H2 I2 r1 r2 q2

theorem pe_op {op : Operator} {r : R2} (ho : OpR X (binaryOp op) r) (ha : PE X a ta) (hb : PE X b tb) : PE X (.BinOp a op b pos) (tOp r ta tb) := by
  intro pins s σ H Q I h
  exact wpAny_BinOp (binT ha hb I h fun v u s2 x y H2 I2 rx ry q => ho pins s2 σ H2 x y v u Q I2 rx ry q)
theorem pe_un {op : UnaryOp} {r : V → Hp → VK → Prop} (ho : UnR X (unaryOp op) r) (ha : PE X a ta) : PE X (.UnaryOp op a pos) (tUn r ta) := by
  intro pins s σ H Q I h
  exact UnaryOp_ (thn (ha pins s σ H _ I h) fun v s1 ⟨x, H1, I1, r1, q1⟩ => ho pins s1 σ H1 x v Q I1 r1 q1)
/-! ### ints -/
theorem opI {f : Value → Value → Sem Value} {C : Int → Int → Prop} {g : Int → Int → Int}
    (rule : ∀ (i j : Int) (t u : Tok) (s : Shared) (Q : Value → Shared → Prop) (E : Value → Shared → Prop), C i j → Q (.int (g i j) s.toks) { s with toks := s.toks + 1 } → wpAny (model X.prog X.w) X.A (f (.int i t) (.int j u)) Q E s) :
    OpR X f (rI C fun i j => .int (g i j)) := by
  intro pins s σ H x y v u Q I rx ry h
  obtain ⟨i, j, rfl, rfl, hc, q⟩ := h
  obtain ⟨t, rfl⟩ := rx
  obtain ⟨t', rfl⟩ := ry
  exact rule i j t t' s _ _ hc ⟨.int (g i j), H, I.tok _, ⟨_, rfl⟩, q⟩
theorem opI0 {f : Value → Value → Sem Value} {g : Int → Int → Int}
    (rule : ∀ (i j : Int) (t u : Tok) (s : Shared) (Q : Value → Shared → Prop) (E : Value → Shared → Prop), Q (.int (g i j) s.toks) { s with toks := s.toks + 1 } → wpAny (model X.prog X.w) X.A (f (.int i t) (.int j u)) Q E s) :
    OpR X f (rI0 fun i j => .int (g i j)) := by
  intro pins s σ H x y v u Q I rx ry h
  obtain ⟨i, j, rfl, rfl, q⟩ := h
  obtain ⟨t, rfl⟩ := rx
  obtain ⟨t', rfl⟩ := ry
  exact rule i j t t' s _ _ ⟨.int (g i j), H, I.tok _, ⟨_, rfl⟩, q⟩
theorem opB0 {f : Value → Value → Sem Value} {g : Int → Int → Bool}
    (rule : ∀ (i j : Int) (t u : Tok) (s : Shared) (Q : Value → Shared → Prop) (E : Value → Shared → Prop), Q (.bool (g i j)) s → wpAny (model X.prog X.w) X.A (f (.int i t) (.int j u)) Q E s) :
    OpR X f (rI0 fun i j => .bl (g i j)) := by
  intro pins s σ H x y v u Q I rx ry h
  obtain ⟨i, j, rfl, rfl, q⟩ := h
  obtain ⟨t, rfl⟩ := rx
  obtain ⟨t', rfl⟩ := ry
  exact rule i j t t' s _ _ ⟨.bl (g i j), H, I, rfl, q⟩

theorem op_add : OpR X (binaryOp .Add) (rI0 fun i j => .int (i + j)) := opI0 fun _ _ _ _ _ _ _ q => add_int q
theorem op_sub : OpR X (binaryOp .Sub) (rI0 fun i j => .int (i - j)) := opI0 fun _ _ _ _ _ _ _ q => sub_int q
theorem op_modN : OpR X (binaryOp .Mod) (rI (fun _ j => j ≠ 0) fun i j => .int (i.fmod j)) := opI fun _ _ _ _ _ _ _ hc q => mod_int' hc q
theorem unI {f : Value → Sem Value} {g : Int → Int}
    (rule : ∀ (i : Int) (t : Tok) (s : Shared) (Q : Value → Shared → Prop) (E : Value → Shared → Prop), Q (.int (g i) s.toks) { s with toks := s.toks + 1 } → wpAny (model X.prog X.w) X.A (f (.int i t)) Q E s) :
    UnR X f (rU fun i => .int (g i)) := by
  intro pins s σ H x v Q I rx h
  obtain ⟨i, rfl, q⟩ := h
  obtain ⟨t, rfl⟩ := rx
  exact rule i t s _ _ ⟨.int (g i), H, I.tok _, ⟨_, rfl⟩, q⟩
theorem un_neg : UnR X (unaryOp .USub) (rU fun i => .int (-i)) := unI fun _ _ _ _ _ q => neg_int q
/-! ### bools among ints: n += (a < b) -/
end

/-! ### comparisons -/
/-- the scalars that == tells apart as data does -/
def scal : V → V → Bool
  | .non, .non => true | .non, .int _ => true | .int _, .non => true | .non, .bl _ => true | .bl _, .non => true | .non, .str _ => true | .str _, .non => true
  | .int _, .int _ => true | .bl _, .bl _ => true | .str _, .str _ => true | .byt _, .byt _ => true
  | .int _, .str _ => true | .str _, .int _ => true | .bl _, .str _ => true | .str _, .bl _ => true
  | _, _ => false
def rEq : R2 := fun x y H Q => scal x y = true ∧ Q (.bl (decide (x = y))) H
def rNe : R2 := fun x y H Q => scal x y = true ∧ Q (.bl (!decide (x = y))) H

theorem dec_int {i j : Int} : decide (V.int i = V.int j) = (i == j) := by
  rw [Bool.eq_iff_iff]
  simp
theorem dec_bl {i j : Bool} : decide (V.bl i = V.bl j) = (i == j) := by
  rw [Bool.eq_iff_iff]
  simp
theorem dec_str {i j : Str} : decide (V.str i = V.str j) = (i == j) := by
  rw [Bool.eq_iff_iff]
  simp
theorem dec_byt {i j : Array UInt8} : decide (V.byt i = V.byt j) = (i.toList == j.toList) := by
  rw [Bool.eq_iff_iff]
  cases i
  cases j
  simp

section
variable {X : Cx} {a b c : Expr} {ta tb tc : TE} {pos : Pos}
theorem fin_bl {pins : List (Addr × Obj)} {σ : St} {H : Hp} {s : Shared} {Q : VK} {k k' : Bool} (I : Inv X pins σ H s) (q : Q (.bl k) H) (e : k = k') : EP X pins σ Q (.bool k') s := by
  subst e
  exact ⟨.bl k, H, I, rfl, q⟩
theorem op_eq : OpR X (compareOp .Eq) rEq := by
  intro pins s σ H x y v u Q I rx ry h
  obtain ⟨hs, q⟩ := h
  cases x with
  | non =>
    cases rx
    cases y with
    | non => cases ry; exact PySem.EqNone.eq_none_none (fin_bl I q (by simp))
    | bl j => cases ry; exact PySem.EqNone.eq_none_bool (fin_bl I q (by simp))
    | int j => obtain ⟨t', rfl⟩ := ry; exact PySem.EqNone.eq_none_int (fin_bl I q (by simp))
    | str j => obtain ⟨t', rfl⟩ := ry; exact PySem.EqNone.eq_none_str (fin_bl I q (by simp))
    | _ => exact absurd (show false = true from hs) Bool.false_ne_true
  | bl i =>
    cases rx
    cases y with
    | non => cases ry; exact PySem.EqNone.eq_bool_none (fin_bl I q (by simp))
    | bl j => cases ry; exact eq_bool (fin_bl I q dec_bl)
    | str j => obtain ⟨t', rfl⟩ := ry; exact PySem.EqMixed.eq_bool_str (fin_bl I q (by simp))
    | _ => exact absurd (show false = true from hs) Bool.false_ne_true
  | int i =>
    obtain ⟨t, rfl⟩ := rx
    cases y with
    | non => cases ry; exact PySem.EqNone.eq_int_none (fin_bl I q (by simp))
    | int j => obtain ⟨t', rfl⟩ := ry; exact eq_int (fin_bl I q dec_int)
    | str j => obtain ⟨t', rfl⟩ := ry; exact PySem.EqMixed.eq_int_str (fin_bl I q (by simp))
    | _ => exact absurd (show false = true from hs) Bool.false_ne_true
  | str i =>
    obtain ⟨t, rfl⟩ := rx
    cases y with
    | non => cases ry; exact PySem.EqNone.eq_str_none (fin_bl I q (by simp))
    | bl j => cases ry; exact PySem.EqMixed.eq_str_bool (fin_bl I q (by simp))
    | int j => obtain ⟨t', rfl⟩ := ry; exact PySem.EqMixed.eq_str_int (fin_bl I q (by simp))
    | str j => obtain ⟨t', rfl⟩ := ry; exact eq_str (fin_bl I q dec_str)
    | _ => exact absurd (show false = true from hs) Bool.false_ne_true
  | byt i =>
    obtain ⟨t, rfl⟩ := rx
    cases y with
    | byt j => obtain ⟨t', rfl⟩ := ry; exact PySem.W.eq_bytes (fin_bl I q dec_byt)
    | _ => exact absurd (show false = true from hs) Bool.false_ne_true
  | _ => cases y <;> exact absurd (show false = true from hs) Bool.false_ne_true
theorem op_ne : OpR X (compareOp .NotEq) rNe := by
  intro pins s σ H x y v u Q I rx ry h
  obtain ⟨hs, q⟩ := h
  cases x with
  | non =>
    cases rx
    cases y with
    | non => cases ry; exact PySem.EqNone.ne_none_none (fin_bl I q (by simp))
    | bl j => cases ry; exact PySem.EqNone.ne_none_bool (fin_bl I q (by simp))
    | int j => obtain ⟨t', rfl⟩ := ry; exact PySem.EqNone.ne_none_int (fin_bl I q (by simp))
    | str j => obtain ⟨t', rfl⟩ := ry; exact PySem.EqNone.ne_none_str (fin_bl I q (by simp))
    | _ => exact absurd (show false = true from hs) Bool.false_ne_true
  | bl i =>
    cases rx
    cases y with
    | non => cases ry; exact PySem.EqNone.ne_bool_none (fin_bl I q (by simp))
    | bl j => cases ry; exact ne_bool (fin_bl I q (congrArg not dec_bl))
    | str j => obtain ⟨t', rfl⟩ := ry; exact PySem.EqMixed.ne_bool_str (fin_bl I q (by simp))
    | _ => exact absurd (show false = true from hs) Bool.false_ne_true
  | int i =>
    obtain ⟨t, rfl⟩ := rx
    cases y with
    | non => cases ry; exact PySem.EqNone.ne_int_none (fin_bl I q (by simp))
    | int j => obtain ⟨t', rfl⟩ := ry; exact ne_int (fin_bl I q (congrArg not dec_int))
    | str j => obtain ⟨t', rfl⟩ := ry; exact PySem.EqMixed.ne_int_str (fin_bl I q (by simp))
    | _ => exact absurd (show false = true from hs) Bool.false_ne_true
  | str i =>
    obtain ⟨t, rfl⟩ := rx
    cases y with
    | non => cases ry; exact PySem.EqNone.ne_str_none (fin_bl I q (by simp))
    | bl j => cases ry; exact PySem.EqMixed.ne_str_bool (fin_bl I q (by simp))
    | int j => obtain ⟨t', rfl⟩ := ry; exact PySem.EqMixed.ne_str_int (fin_bl I q (by simp))
    | str j => obtain ⟨t', rfl⟩ := ry; exact ne_str (fin_bl I q (congrArg not dec_str))
    | _ => exact absurd (show false = true from hs) Bool.false_ne_true
  | byt i =>
    obtain ⟨t, rfl⟩ := rx
    cases y with
    | byt j => obtain ⟨t', rfl⟩ := ry; exact PySem.W.ne_bytes (fin_bl I q (congrArg not dec_byt))
    | _ => exact absurd (show false = true from hs) Bool.false_ne_true
  | _ => cases y <;> exact absurd (show false = true from hs) Bool.false_ne_true

theorem op_lt : OpR X (compareOp .Lt) (rI0 fun i j => .bl (decide (i < j))) := opB0 fun _ _ _ _ _ _ _ q => lt_int q
theorem op_gt : OpR X (compareOp .Gt) (rI0 fun i j => .bl (decide (j < i))) := opB0 fun _ _ _ _ _ _ _ q => gt_int q
/-- is None, is not None: the right side a value none -/
theorem op_isN : OpR X (compareOp .Is) (fun x y H Q => y = .non ∧ Q (.bl (decide (x = .non))) H) := by
  intro pins s σ H x y v u Q I rx ry h
  obtain ⟨rfl, q⟩ := h
  cases ry
  refine is_none_gen (fin_bl I q ?_)
  cases x <;> first
    | (cases rx; rfl)
    | (obtain ⟨t, rfl⟩ := rx; rfl)
theorem op_notN : OpR X (compareOp .IsNot) (fun x y H Q => y = .non ∧ Q (.bl (!decide (x = .non))) H) := by
  intro pins s σ H x y v u Q I rx ry h
  obtain ⟨rfl, q⟩ := h
  cases ry
  refine isnot_none_gen (fin_bl I q ?_)
  cases x <;> first
    | (cases rx; rfl)
    | (obtain ⟨t, rfl⟩ := rx; rfl)

theorem nomark (b : Expr) {op : CmpOp} (h : op ≠ .In := by decide) (h2 : op ≠ .NotIn := by decide) : behindInMarks op b = false := by
  have e1 : (op == CmpOp.In) = false := by cases op <;> first | rfl | exact absurd rfl h
  have e2 : (op == CmpOp.NotIn) = false := by cases op <;> first | rfl | exact absurd rfl h2
  cases b <;> simp [behindInMarks, e1, e2]
/-- a comparison as a value; hm: nomark b, or (for in, not in) by with_unfolding_all rfl -/
theorem pe_cmpR {op : CmpOp} {r : R2} (ho : OpR X (compareOp op) r) (ha : PE X a ta) (hb : PE X b tb) (hm : behindInMarks op b = false) : PE X (.Compare a [op] [b] pos) (tOp r ta tb) := by
  intro pins s σ H Q I h
  exact wpAny_Compare1 (binT ha hb I h fun v u s2 x y H2 I2 rx ry q => ho pins s2 σ H2 x y v u Q I2 rx ry q) hm
/-- a reading of a value as a test -/
def tTest (t : TE) : TT := fun σ H Q => t σ H fun x H' => ∃ k, x = .bl k ∧ Q k H'
theorem pt_cmpR {op : CmpOp} {r : R2} (ho : OpR X (compareOp op) r) (ha : PE X a ta) (hb : PE X b tb) (hm : behindInMarks op b = false) : PT X (.Compare a [op] [b] pos) (tTest (tOp r ta tb)) := by
  intro pins s σ H Q I h
  refine wpAny_isTrue_Compare1 (thn (ha pins s σ H _ I h) fun v s1 ⟨x, H1, I1, r1, q1⟩ => thn (hb pins s1 σ H1 _ I1 q1) fun u s2 ⟨y, H2, I2, r2, q2⟩ =>
    thn (ho pins s2 σ H2 x y v u _ I2 r1 r2 q2) fun c s3 ⟨z, H3, I3, r3, k, e, q3⟩ => ?_) hm
  subst e
  cases r3
  exact wpAny_truthy_bool ⟨H3, I3, q3⟩
/-! ### truth -/
theorem line63 : (sizeLine : Nat) < 2 ^ 63 := by rw [sizeLine_eq]; decide
/-! ### strs and bytes -/
theorem op_add_str : OpR X (binaryOp .Add) (fun x y H Q => ∃ i j, x = .str i ∧ y = .str j ∧ i.length + j.length ≤ sizeLine ∧ Q (.str (i ++ j)) H) := by
  intro pins s σ H x y v u Q I rx ry h
  obtain ⟨i, j, rfl, rfl, hz, q⟩ := h
  obtain ⟨t, rfl⟩ := rx
  obtain ⟨t', rfl⟩ := ry
  exact add_str (fun t' tk => ⟨.str (i ++ j), H, I.tok _, ⟨_, rfl⟩, q⟩) hz
/-! ### scalar builtins, by CallR -/
theorem vals1 {x : V} {us : List Value} (r : Vals [x] us) : ∃ u, us = [u] ∧ RelV x u := by
  cases r with
  | cons r1 r2 => cases r2; exact ⟨_, rfl, r1⟩
theorem vals2 {x y : V} {us : List Value} (r : Vals [x, y] us) : ∃ u w', us = [u, w'] ∧ RelV x u ∧ RelV y w' := by
  cases r with
  | cons r1 r2 =>
    cases r2 with
    | cons r3 r4 => cases r4; exact ⟨_, _, rfl, r1, r3⟩
theorem call_str_int : CallR X (.type "str") (fun xs H Q => ∃ i, xs = [.int i] ∧ i.natAbs.log2 < 1920 ∧ Q (.str (toString i)) H) := by
  intro pins s σ H xs us Q I r h
  obtain ⟨i, rfl, hz, q⟩ := h
  obtain ⟨u, rfl, t, rfl⟩ := vals1 r
  exact PySem.P.str_of_int hz ⟨.str _, H, I.tok _, ⟨_, rfl⟩, q⟩
end
end L2

namespace L2
open PySem PySem.Spec PyProof.Rows

/-! ### an instance, its attributes a map -/
structure ObjM (h : Heap) (x dx C : Addr) (mA : Str → Option Value) : Prop where
  obj : h.get? x = some (PySem.W.instObj C dx)
  ns : h.Ns1 dx mA
  ne : dx ≠ x

theorem lookIn_ns {h : Heap} {dx : Addr} {mA : Str → Option Value} (n : h.Ns1 dx mA) : ∃ od, h.get? dx = some od ∧ ∀ name, PySem.W.lookIn name od = some (mA name) := by
  obtain ⟨o, es, ep, ho, hd, hk, _, hm⟩ := n
  refine ⟨o, ho, fun name => ?_⟩
  have e := hm name
  unfold nsFind findBy at e
  rw [← Array.find?_toList] at e
  unfold PySem.W.lookIn
  rw [hd]
  dsimp only
  split
  · rename_i y q
    rw [q] at e
    exact congrArg some e
  · rename_i q
    rw [q] at e
    have a : es.toList.any (·.refKey) = false := by
      rw [List.any_eq_false]
      intro y hy
      obtain ⟨z, t, hkey⟩ := hk y (Array.mem_toList_iff.mp hy)
      simp [DictEntry.refKey, hkey]
    have a' : ¬ es.toList.any (·.refKey) = true := by rw [a]; exact Bool.false_ne_true
    rw [if_neg a']
    exact congrArg some e

theorem ObjM.look {h : Heap} {x dx C : Addr} {mA : Str → Option Value} (I : ObjM h x dx C mA) : ∃ od, PySem.W.InstAt h x (PySem.W.instObj C dx) C (some od) ∧ ∀ name, PySem.W.lookIn name od = some (mA name) :=
  let ⟨od, ho, hl⟩ := lookIn_ns I.ns
  ⟨od, ⟨I.obj, rfl, rfl, ho⟩, hl⟩

section
variable {prog : Program} {w : World} {A : Around} {E : Value → Shared → Prop} {s : Shared} {K : PySem.W.Frag} {x dx C f : Addr} {mA : Str → Option Value} {name : Str} {v : Value}

theorem get_map {expr : Bool} {Q : Value → Shared → Prop} (X : K.In s.heap) (I : ObjM s.heap x dx C mA) (hg : PySem.W.plainGet K C name = true) (hh : PySem.W.hasDictIn K C = true)
    (ha : PySem.W.findIn K (.ref C) name = some none) (hv : mA name = some v) (hv' : PySem.W.handedIn v = true) (h : Q v { s with toks := s.toks + 1 }) :
    wpAny (model prog w) A (getAttr (.ref x) name expr) Q E s := by
  obtain ⟨od, J, hl⟩ := I.look
  exact PySem.W.get_value X J (PySem.W.plainGet_of hg).1 (PySem.W.findObj_own hh ha rfl (by rw [hl, hv])) hv' h

theorem get_meth {pl : Sem Bool} {Q : Value × List Value → Shared → Prop} (X : K.In s.heap) (I : ObjM s.heap x dx C mA) (hg : PySem.W.plainGet K C name = true)
    (hf : PySem.W.findIn K (.ref C) name = some (some (.ref f))) (ht : PySem.W.isFn K (.ref f) = true) (hv : mA name = none) (h : Q (.ref f, [.ref x]) s) :
    wpAny (model prog w) A (getMethod (.ref x) name pl) Q E s := by
  obtain ⟨od, J, hl⟩ := I.look
  exact PySem.W.method_fn X J (PySem.W.plainGet_of hg).1 (PySem.W.plainGet_of hg).2 hf (beq_iff_eq.mp ht) (by show (PySem.W.lookIn name od).map (·.isSome) = some false; rw [hl, hv]; rfl) h

theorem set_map {ns : List Str} {Q : Unit → Shared → Prop} (X : K.In s.heap) (I : ObjM s.heap x dx C mA)
    (hs : PySem.W.findIn K (.ref C) "__setattr__" = some (some (.builtin "object.__setattr__"))) (hp : PySem.W.plainOver K C = true) (ht : PySem.W.takerIn K C name = some none) (hh : PySem.W.hasDictIn K C = true)
    (hw : PySem.Within mA ns) (hsz : ns.length ≤ sizeLine)
    (h : ∀ h', ObjM h' x dx C (fun y => if y = name then some v else mA y) → Heap.SameBut dx s.heap h' → Q () { s with heap := h', toks := s.toks + 2 }) :
    wpAny (model prog w) A (setAttr (.ref x) name v) Q E s := by
  obtain ⟨od, J, hl⟩ := I.look
  refine PySem.W.set_plain X J hs (PySem.W.osa_open (s := { s with toks := s.toks + 1 }) (r := none) X J hp ht fun b => ?_)
  obtain ⟨cd, hc, hd'⟩ := PySem.W.any_some hh
  have hx : s.heap.get? x = some ⟨.ref C, some dx, .plain, #[]⟩ := I.obj
  refine wpAny_bind (wpAny_pure (wpAny_bind (wpAny_bind (wpAny_loadPart hx (wpAny_bind (PySem.W.Looks.here (s := { s with toks := s.toks + 1 }) (PySem.W.looks_clsIn X hc) ?_))))))
  rw [hd']
  refine wpAny_pure (a := some dx) (wpAny_bind (wpAny_pure (wpAny_bind ?_)))
  refine wpAny_nsSet1 (s := { s with toks := s.toks + 1 }) I.ns fun h' hn2 hs2 => ?_
  obtain ⟨oD, esD, epD, hoD, hdD, hcD⟩ := hn2.count (PySem.Within.cons name v hw)
  refine wpAny_bind (wpAny_lookBehind hoD (by rw [hdD]; exact pastItsLine_dict (Nat.le_trans hcD (by rw [List.length_cons]; omega))) ?_)
  exact wpAny_pure (h _ ⟨(hs2.2 _ (Ne.symm I.ne)).trans I.obj, hn2, I.ne⟩ hs2)

/-- C(..): the dict at the heap's end, the instance behind it; then its __init__ -/
theorem make_map {R : Result → Shared → Prop} {vs : List Value} {kw : List (Str × Value)} (X : K.In s.heap) (hm : PySem.W.makesIn K C = true)
    (hi : PySem.W.findIn K (.ref C) "__init__" = some (some (.ref f))) (hf : PySem.W.typeIn K (.ref f) = some (.type "function"))
    (h : codeAny (model prog w) (A.under (.builtin "type.__call__" ⟨.ref C :: vs, kw⟩)) (.call (.ref f) ⟨.ref (s.heap.objs.size + 1) :: vs, kw⟩) (PySem.W.InitBack (s.heap.objs.size + 1) R)
      { s with heap := (s.heap.push PySem.W.emptyDict).push (PySem.W.instObj C s.heap.objs.size) }) :
    codeAny (model prog w) A (.call (.ref C) ⟨vs, kw⟩) R s := by
  obtain ⟨hh, g, d, t, os⟩ := s
  exact PySem.W.make_core (PySem.W.makes_of X hm) (PySem.W.looks_findIn X hi) (fun self => PySem.W.bind_fn X self hf) (.inl rfl) h
end

/-! ### the attributes as a list of pairs -/
def putF (f : Str) (v : V) : List (Str × V) → List (Str × V)
  | [] => [(f, v)]
  | (g, x) :: r => if g = f then (g, v) :: r else (g, x) :: putF f v r
theorem lookup_putF (f g : Str) (v : V) : ∀ fs : List (Str × V), (putF f v fs).lookup g = if g = f then some v else fs.lookup g
  | [] => by
    show List.lookup g [(f, v)] = _
    by_cases h : g = f
    · have hb : (g == f) = true := beq_iff_eq.mpr h
      simp only [List.lookup, hb, if_pos h]
    · have hb : (g == f) = false := beq_eq_false_iff_ne.mpr h
      simp only [List.lookup, hb, if_neg h]
  | (k, x) :: r => by
    have ih := lookup_putF f g v r
    rw [show putF f v ((k, x) :: r) = (if k = f then (k, v) :: r else (k, x) :: putF f v r) from rfl]
    by_cases hk : k = f
    · rw [if_pos hk]
      by_cases h : g = k
      · have hb : (g == k) = true := beq_iff_eq.mpr h
        simp only [List.lookup, hb, if_pos (h.trans hk)]
      · have hb : (g == k) = false := beq_eq_false_iff_ne.mpr h
        simp only [List.lookup, hb, if_neg (fun e : g = f => h (e.trans hk.symm))]
    · rw [if_neg hk]
      by_cases h : g = k
      · have hb : (g == k) = true := beq_iff_eq.mpr h
        simp only [List.lookup, hb, if_neg (fun e : g = f => hk (h.symm.trans e))]
      · have hb : (g == k) = false := beq_eq_false_iff_ne.mpr h
        simp only [List.lookup, hb]
        exact ih
theorem keys_putF (f : Str) (v : V) : ∀ fs : List (Str × V), f ∈ (putF f v fs).map (·.1) ∧ ∀ g, g ∈ fs.map (·.1) → g ∈ (putF f v fs).map (·.1)
  | [] => ⟨by simp [putF], fun g h => by simp at h⟩
  | (k, x) :: r => by
    obtain ⟨i1, i2⟩ := keys_putF f v r
    rw [show putF f v ((k, x) :: r) = (if k = f then (k, v) :: r else (k, x) :: putF f v r) from rfl]
    by_cases hk : k = f
    · rw [if_pos hk]
      subst hk
      exact ⟨by simp, fun g h => by simpa using h⟩
    · rw [if_neg hk]
      refine ⟨?_, fun g h => ?_⟩
      · rw [List.map_cons]
        exact List.mem_cons_of_mem _ i1
      · rw [List.map_cons] at h ⊢
        rcases List.mem_cons.mp h with e | e
        · exact List.mem_cons.mpr (.inl e)
        · exact List.mem_cons_of_mem _ (i2 g e)
theorem length_putF (f : Str) (v : V) : ∀ fs : List (Str × V), (putF f v fs).length ≤ fs.length + 1
  | [] => by simp [putF]
  | (k, x) :: r => by
    have ih := length_putF f v r
    rw [show putF f v ((k, x) :: r) = (if k = f then (k, v) :: r else (k, x) :: putF f v r) from rfl]
    by_cases hk : k = f
    · rw [if_pos hk, List.length_cons, List.length_cons]; omega
    · rw [if_neg hk, List.length_cons, List.length_cons]; omega

theorem RelO.some_of {v : V} {o : Option Value} (r : RelO (some v) o) : ∃ u, o = some u ∧ RelV v u := by
  cases o with
  | none => exact (show False from r).elim
  | some u => exact ⟨u, rfl, r⟩
theorem RelO.none_of {o : Option Value} (r : RelO none o) : o = none := by
  cases o with
  | none => rfl
  | some u => exact (show False from r).elim
theorem handed_of {v : V} {u : Value} (r : RelV v u) : PySem.W.handedIn u = true := by
  cases v with
  | non => cases (show u = Value.none from r); rfl
  | bl b => cases (show u = Value.bool b from r); rfl
  | int i => obtain ⟨t, e⟩ := (show ∃ t, u = Value.int i t from r); cases e; rfl
  | str x => obtain ⟨t, e⟩ := (show ∃ t, u = Value.str x t from r); cases e; rfl
  | byt b => obtain ⟨t, e⟩ := (show ∃ t, u = Value.bytes b t from r); cases e; rfl
  | flt b => obtain ⟨t, e⟩ := (show ∃ t, u = Value.float b t from r); cases e; rfl
  | ref a => cases (show u = Value.ref a from r); rfl
  | ty n => cases (show u = Value.type n from r); rfl

section
variable {P : Program} {w : World} {H H' : Hp} {h h' : Heap} {a C dx : Addr} {fs fs' : List (Str × V)}
theorem ins_get (hok : HOk P w H h) (e : H a = some (.ins C dx fs)) : ∃ mA, ObjM h a dx C mA ∧ (∀ f, RelO (fs.lookup f) (mA f)) ∧ PySem.Within mA (fs.map (·.1)) ∧ fs.length ≤ 1000 ∧ H dx = some (.own a) := by
  obtain ⟨d, z, ne, ob, mA, n, r, q⟩ := (show ObjOk P w H h a (.ins C dx fs) from hok a _ e)
  exact ⟨mA, ⟨ob, n, ne⟩, r, q, z, d⟩
end

/-! ### what of the text a class must have -/
structure Cls (K : PySem.W.Frag) (C : Addr) : Prop where
  pg : PySem.W.plainGet K C Str.empty = true
  hd : PySem.W.hasDictIn K C = true
  po : PySem.W.plainOver K C = true
  sa : PySem.W.findIn K (.ref C) "__setattr__" = some (some (.builtin "object.__setattr__"))
theorem Cls.get {K : PySem.W.Frag} {C : Addr} (c : Cls K C) (f : Str) : PySem.W.plainGet K C f = true := c.pg
/-- no class of it has the name -/
def NoAttr (K : PySem.W.Frag) (C : Addr) (f : Str) : Prop := PySem.W.findIn K (.ref C) f = some none
theorem NoAttr.taker {K : PySem.W.Frag} {C : Addr} {f : Str} (n : NoAttr K C f) : PySem.W.takerIn K C f = some none := by
  unfold PySem.W.takerIn
  rw [show PySem.W.findIn K (.ref C) f = some none from n]
  rfl
/-- a method: a plain def of the class or of one above it -/
structure Meth (K : PySem.W.Frag) (C : Addr) (m : Str) (f : Addr) : Prop where
  at_ : PySem.W.findIn K (.ref C) m = some (some (.ref f))
  fn : PySem.W.isFn K (.ref f) = true
  kp : PySem.W.keepIn K (.ref f) = true

section
variable {X : Cx} {pins : List (Addr × Obj)} {σ : St} {H : Hp} {s : Shared} {a C dx : Addr} {fs : List (Str × V)} {f : Str} {v : V} {A : Around} {E : Value → Shared → Prop}

theorem getattr_ok {b : Bool} {Q : Value → Shared → Prop} (I : Inv X pins σ H s) (e : H a = some (.ins C dx fs)) (c : Cls X.K C) (n : NoAttr X.K C f) (l : fs.lookup f = some v)
    (h : ∀ u s', Inv X pins σ H s' → RelV v u → Q u s') : wpAny (model X.prog X.w) A (getAttr (.ref a) f b) Q E s := by
  obtain ⟨mA, O, r, _, _, _⟩ := ins_get I.hok e
  obtain ⟨u, hu, ru⟩ := RelO.some_of (v := v) (o := mA f) (by rw [← l]; exact r f)
  exact get_map I.kIn O (c.get f) c.hd n hu (handed_of ru) (h u _ (I.tok _) ru)

theorem getmeth_ok {m : Str} {g : Addr} {pl : Sem Bool} {Q : Value × List Value → Shared → Prop} (I : Inv X pins σ H s) (e : H a = some (.ins C dx fs)) (c : Cls X.K C) (k : Meth X.K C m g) (l : fs.lookup m = none)
    (h : Q (.ref g, [.ref a]) s) : wpAny (model X.prog X.w) A (getMethod (.ref a) m pl) Q E s := by
  obtain ⟨mA, O, r, _, _, _⟩ := ins_get I.hok e
  have hn : mA m = none := RelO.none_of (by rw [← l]; exact r m)
  exact get_meth I.kIn O (c.get m) k.at_ k.fn hn h

theorem setattr_ok {y : V} {u : Value} {Q : Unit → Shared → Prop} (I : Inv X pins σ H s) (e : H a = some (.ins C dx fs)) (c : Cls X.K C) (n : NoAttr X.K C f) (hl : fs.length < 1000) (ry : RelV y u)
    (h : ∀ s', Inv X pins σ (upd H a (.ins C dx (putF f y fs))) s' → Q () s') : wpAny (model X.prog X.w) A (setAttr (.ref a) f u) Q E s := by
  obtain ⟨mA, O, r, wi, _, ho⟩ := ins_get I.hok e
  have hz : (fs.map (·.1)).length ≤ sizeLine := by rw [List.length_map, sizeLine_eq]; omega
  refine set_map I.kIn O c.sa c.po n.taker c.hd wi hz fun h' O' sb => h _ ?_
  have hd : ∃ o, h'.get? dx = some o := let ⟨o, _, _, e', _⟩ := O'.ns; ⟨o, e'⟩
  refine I.write (x := a) (e := dx) (by rw [e]; exact True.intro) (.inr ho) (fun b q hb z => (sb.2 b hb).trans z) hd ?_
  refine ⟨by rw [upd_ne O.ne]; exact ho, ?_, O.ne, O'.obj, _, O'.ns, fun g => ?_, fun g hg => ?_⟩
  · have := length_putF f y fs; omega
  · show RelO ((putF f y fs).lookup g) (if g = f then some u else mA g)
    rw [lookup_putF]
    by_cases q : g = f
    · rw [if_pos q, if_pos q]; exact ry
    · rw [if_neg q, if_neg q]; exact r g
  · by_cases q : g = f
    · rw [q]; exact (keys_putF f y fs).1
    · refine (keys_putF f y fs).2 g (wi g fun z => hg ?_)
      show (if g = f then some u else mA g) = none
      rw [if_neg q]; exact z

/-- a new instance, tracked, without attributes -/
theorem Inv.made (I : Inv X pins σ H s) : Inv X pins σ (upd (upd H s.heap.objs.size (.own (s.heap.objs.size + 1))) (s.heap.objs.size + 1) (.ins C s.heap.objs.size []))
    { s with heap := (s.heap.push PySem.W.emptyDict).push (PySem.W.instObj C s.heap.objs.size) } := by
  have e1 : (s.heap.push PySem.W.emptyDict).get? s.heap.objs.size = some PySem.W.emptyDict := Heap.get?_push_size s.heap rfl
  have e2 : ((s.heap.push PySem.W.emptyDict).push (PySem.W.instObj C s.heap.objs.size)).get? (s.heap.objs.size + 1) = some (PySem.W.instObj C s.heap.objs.size) := by
    have := Heap.get?_push_size (s.heap.push PySem.W.emptyDict) (o := PySem.W.instObj C s.heap.objs.size) rfl
    rwa [Heap.size_push] at this
  have e3 : (s.heap.push PySem.W.emptyDict).Ns s.heap.objs.size (fun _ => none) := ⟨PySem.W.emptyDict, #[], _, e1, rfl, (fun e he => absurd he (by simp)), fun _ => rfl⟩
  have I1 := I.laid (a := s.heap.objs.size) (o := .own (s.heap.objs.size + 1)) (h' := s.heap.push PySem.W.emptyDict) (t' := s.toks) (fun b u q => Heap.get?_push_of_some _ q) (Nat.le_refl _) ⟨_, e1⟩
  refine I1.laid (a := s.heap.objs.size + 1) (o := .ins C s.heap.objs.size []) (t' := s.toks) (fun b u q => Heap.get?_push_of_some _ q) (Nat.le_of_eq (Heap.size_push _ _)) ?_
  have ne : s.heap.objs.size ≠ s.heap.objs.size + 1 := Nat.ne_of_lt (Nat.lt_succ_self _)
  refine ⟨by rw [upd_ne ne, upd_same], Nat.zero_le _, ne, e2, fun _ => none, (Heap.Ns1.of_empty e3).at fun o q => Heap.get?_push_of_some _ q, fun _ => True.intro, fun y hy => absurd rfl hy⟩

/-- e.f where nothing but the object is asked: through attributeBase (super) and the last hold -/
theorem attr_of {prog : Program} {w : World} {env : Env} {e : Expr} {f : Str} {pos : Pos} {s : Shared} {Q : Value → Shared → Prop} (hb : attributeBase e f env (eval e env) = eval e env)
    (h : wpAny (model prog w) A (eval e env) (fun o s₁ => wpAny (model prog w) A (getAttr o f true) Q E s₁) E s) : wpAny (model prog w) A (eval (.Attribute e f pos) env) Q E s :=
  Attribute_any_ h (by rw [arm_eval_Attribute, hb])
end

/-! ### readings and rules -/
/-- e.f, an attribute of the instance -/
def tFld (K : PySem.W.Frag) (ta : TE) (f : Str) : TE := fun σ H Q => ta σ H fun x H1 => ∃ a C dx fs v, x = .ref a ∧ H1 a = some (.ins C dx fs) ∧ Cls K C ∧ NoAttr K C f ∧ fs.lookup f = some v ∧ Q v H1
/-- e.f = value -/
def sFld (K : PySem.W.Frag) (ta tv : TE) (f : Str) : TS := fun D σ H => tv σ H fun y H1 => ta σ H1 fun x H2 => ∃ a C dx fs, x = .ref a ∧ H2 a = some (.ins C dx fs) ∧ Cls K C ∧ NoAttr K C f ∧ fs.length < 1000 ∧
  D.nx σ (upd H2 a (.ins C dx (putF f y fs)))
section
variable {X : Cx} {o e value : Expr} {f : Str} {pos pos' tpos : Pos} {ta tv : TE}
theorem pe_fld (he : PE X e ta) (hb : attributeBase e f X.env (eval e X.env) = eval e X.env) : PE X (.Attribute e f pos) (tFld X.K ta f) := by
  intro pins s σ H Q I h
  refine attr_of hb (thn (he pins s σ H _ I h) fun u s1 ⟨x, H1, I1, rx, a, C, dx, fs, v, ex, ea, c, n, l, q⟩ => ?_)
  subst ex
  obtain rfl : u = Value.ref a := rx
  exact getattr_ok I1 ea c n l fun u' s2 I2 ru => ⟨v, H1, I2, ru, q⟩
theorem ps_fld (ha : PE X o ta) (hv : PE X value tv) (hs : swapsWith value (some (.Attribute o f pos')) pos.line X.env = pure false) : PS X (.Assign [.Attribute o f pos'] value pos) (sFld X.K ta tv f) := by
  intro pins s σ H D I h
  refine plainObj_wpAny_Assign_Attribute (thn (hv pins s σ H _ I h) fun u s1 ⟨y, H1, I1, ry, q⟩ => thn (ha pins s1 σ H1 _ I1 q) fun ov s2 ⟨x, H2, I2, rx, a, C, dx, fs, ex, ea, c, n, l, q2⟩ => ?_) hs
  subst ex
  obtain rfl : ov = Value.ref a := rx
  exact setattr_ok I2 ea c n l ry fun s3 I3 => ⟨σ, _, I3, q2⟩
end

/-! ### isinstance -/
section
variable {X : Cx} {pins : List (Addr × Obj)} {σ : St} {H : Hp} {s : Shared} {A : Around} {E : Value → Shared → Prop} {Q : Value → Shared → Prop} {c : Value} {b : Bool}
/-- the type of a value, as the fragment's deciders take it; for an instance its class -/
inductive TyOf (K : PySem.W.Frag) (H : Hp) : V → Value → Prop where
  | non : TyOf K H .non (.type "NoneType")
  | bl (x : Bool) : TyOf K H (.bl x) (.type "bool")
  | int (i : Int) : TyOf K H (.int i) (.type "int")
  | str (x : Str) : TyOf K H (.str x) (.type "str")
  | flt (x : UInt64) : TyOf K H (.flt x) (.type "float")
  | lst {a : Addr} {xs : List V} (e : H a = some (.lst xs)) : TyOf K H (.ref a) (.type "list")
  | frz {a : Addr} {o : Obj} {xs : List V} (e : H a = some (.frz o (.lst xs))) : TyOf K H (.ref a) (.type "list")
  | tup {a : Addr} {xs : List V} (e : H a = some (.tup xs)) : TyOf K H (.ref a) (.type "tuple")
  | dK {a : Addr} {kvs : List (Key × V)} (e : H a = some (.dK kvs)) : TyOf K H (.ref a) (.type "dict")
  | dT {a : Addr} {kvs : List (List Key × V)} (e : H a = some (.dT kvs)) : TyOf K H (.ref a) (.type "dict")
  | ins {a C dx : Addr} {fs : List (Str × V)} (e : H a = some (.ins C dx fs)) (cl : Cls K C) (ha : PySem.W.findIn K (.ref C) "__class__" = some (some (.builtin "object.__class__")))
      (hn : PySem.W.specialIn K (.builtin "object.__class__") "__get__" = some (some (.builtin "getset_descriptor.__get__"))) (htk : PySem.W.takesIn K (.builtin "object.__class__") = some true)
      (hm : PySem.W.mroIn K C (.type "object") = some true) : TyOf K H (.ref a) (.ref C)
/-- isinstance(x, c) for one class c, a built-in or an own one: kitOne's answer -/
theorem isinst_ok {x : V} {u t : Value} (I : Inv X pins σ H s) (rx : RelV x u) (ty : TyOf X.K H x t) (e : PySem.W.kitOne X.K t c = some b) (h : ∀ tk, Q (.bool b) { s with toks := tk }) :
    wpAny (model X.prog X.w) A (call (.builtin "isinstance") [u, c]) Q E s := by
  cases ty with
  | non => cases (show u = Value.none from rx); exact PySem.W.kia_one PySem.W.kitx_none I.kIn True.intro e (fun z => nomatch z) h
  | bl y => cases (show u = Value.bool y from rx); exact PySem.W.kia_one PySem.W.kitx_bool I.kIn True.intro e (fun z => nomatch z) h
  | int i => obtain ⟨t, q⟩ := (show ∃ t, u = Value.int i t from rx); cases q; exact PySem.W.kia_one PySem.W.kitx_int I.kIn True.intro e (fun z => nomatch z) h
  | str y => obtain ⟨t, q⟩ := (show ∃ t, u = Value.str y t from rx); cases q; exact PySem.W.kia_one PySem.W.kitx_str I.kIn True.intro e (fun z => nomatch z) h
  | flt y => obtain ⟨t, q⟩ := (show ∃ t, u = Value.float y t from rx); cases q; exact PySem.W.kia_one PySem.W.kitx_float I.kIn True.intro e (fun z => nomatch z) h
  | @lst a xs ea =>
    cases (show u = Value.ref a from rx)
    obtain ⟨_, _, n, _, h1⟩ := (show ObjOk X.prog X.w H s.heap a (.lst xs) from I.hok a _ ea)
    exact PySem.W.kia_one PySem.W.kitx_list I.kIn ⟨_, h1, rfl⟩ e (fun z => nomatch z) h
  | @frz a ob xs ea =>
    cases (show u = Value.ref a from rx)
    obtain ⟨_, _, _, n, _, h1⟩ := (show ObjOk X.prog X.w H s.heap a (.frz ob (.lst xs)) from I.hok a _ ea)
    exact PySem.W.kia_one PySem.W.kitx_list I.kIn ⟨_, h1, rfl⟩ e (fun z => nomatch z) h
  | @tup a xs ea =>
    cases (show u = Value.ref a from rx)
    obtain ⟨_, _, _, p⟩ := (show ObjOk X.prog X.w H s.heap a (.tup xs) from I.hok a _ ea)
    obtain ⟨o, h1, h2, _⟩ := p
    exact PySem.W.kia_one PySem.W.kitx_tuple I.kIn ⟨o, h1, h2⟩ e (fun z => nomatch z) h
  | @dK a kvs ea =>
    cases (show u = Value.ref a from rx)
    obtain ⟨_, _, vs, _, p⟩ := (show ObjOk X.prog X.w H s.heap a (.dK kvs) from I.hok a _ ea)
    obtain ⟨o, es, ep, h1, h2, _⟩ := p
    exact PySem.W.kia_one PySem.W.kitx_dict I.kIn ⟨o, h1, h2.1⟩ e (fun z => nomatch z) h
  | @dT a kvs ea =>
    cases (show u = Value.ref a from rx)
    obtain ⟨_, _, xs, _, o, es, ep, h1, h2, _⟩ := (show ObjOk X.prog X.w H s.heap a (.dT kvs) from I.hok a _ ea)
    exact PySem.W.kia_one PySem.W.kitx_dict I.kIn ⟨o, h1, h2.1⟩ e (fun z => nomatch z) h
  | @ins a C dx fs ea cl ha hn htk hm =>
    cases (show u = Value.ref a from rx)
    obtain ⟨mA, O, _⟩ := ins_get I.hok ea
    obtain ⟨od, J, _⟩ := O.look
    exact PySem.W.kia_one (PySem.W.kitx_own (cl.get _) cl.hd ha hn htk hm) I.kIn J e (fun z => nomatch z) h
end
end L2

namespace L2
open PySem PySem.Spec PyProof.Rows

/-! ### room -/
structure Room (k : Nat) (A : Around) : Prop where
  hd : A.handled = none
  dp : A.depth + 3 * k + 5 < recursionLimit
  un : A.units + 16 * k + 200 < cLine
theorem Room.mono {j k : Nat} {A : Around} (r : Room k A) (h : j ≤ k) : Room j A := ⟨r.hd, by have := r.dp; omega, by have := r.un; omega⟩
theorem Room.deeper {k : Nat} {A : Around} (r : Room (k + 1) A) (env : Env) : Room k (A.deeper env) :=
  ⟨r.hd, by have := r.dp; show A.depth + 1 + 3 * k + 5 < _; omega, by have := r.un; show A.units + 3 + 16 * k + 200 < _; omega⟩
theorem make_depth {A : Around} {C : Addr} {us : List Value} {kw : List (Str × Value)} : (A.under (.builtin "type.__call__" ⟨.ref C :: us, kw⟩)).depth = A.depth + 1 := by
  first | rfl | simp [Around.under, Code.weight, Code.isCreation, Code.isGuard, Code.isCaller, Code.frames, Code.isFrame, guardIds]
theorem make_units {A : Around} {C : Addr} {us : List Value} {kw : List (Str × Value)} : (A.under (.builtin "type.__call__" ⟨.ref C :: us, kw⟩)).units = A.units + 1 := by
  first | rfl | simp [Around.under, Code.cUnits, Code.frames, Code.isFrame]
theorem Room.make {k : Nat} {A : Around} (r : Room (k + 1) A) (C : Addr) (us : List Value) (kw : List (Str × Value)) : Room k (A.under (.builtin "type.__call__" ⟨.ref C :: us, kw⟩)) :=
  ⟨r.hd, by have := r.dp; rw [make_depth]; omega, by have := r.un; rw [make_units]; omega⟩
theorem Room.depth {k : Nat} {A : Around} (r : Room k A) : A.depth < recursionLimit := by have := r.dp; omega
theorem Room.units {k : Nat} {A : Around} (r : Room k A) : A.units + 64 < cLine := by have := r.un; omega
theorem Room.units0 {k : Nat} {A : Around} (r : Room k A) : A.units < cLine := by have := r.un; omega

/-! ### argument lists and displays -/
def tNil : TA := fun _ H Q => Q [] H
def tCons (ta : TE) (tr : TA) : TA := fun σ H Q => ta σ H fun x H1 => tr σ H1 fun xs H2 => Q (x :: xs) H2
section
variable {X : Cx} {e : Expr} {es : List Expr} {te : TE} {t : TA} {pos : Pos}
theorem pa_nil : PA X [] tNil := fun _ _ _ _ H Q I h => Calls.spliced_nil ⟨[], H, I, .nil, h⟩
theorem pa_cons (ha : PE X e te) (hr : PA X es t) (hs : starEach (e :: es) X.env = (false, eval e X.env) :: starEach es X.env := by rfl) : PA X (e :: es) (tCons te t) := by
  intro pos pins s σ H Q I h
  rw [hs]
  show wpAny _ _ (spliced ((false, eval e X.env) :: backTo pos (starEach es X.env))) _ _ s
  refine Calls.spliced_cons (thn (ha pins s σ H _ I h) fun u s1 ⟨x, H1, I1, r1, q1⟩ => ?_)
  exact thn (hr pos pins s1 σ H1 _ I1 q1) fun us s2 ⟨xs, H2, I2, r2, q2⟩ => ⟨x :: xs, H2, I2, .cons r1 r2, q2⟩

/-- a tuple, a list of written items -/
def tTup (t : TA) : TE := fun σ H Q => t σ H fun xs H1 => xs.length ≤ sizeLine ∧ ∀ p, H1 p = none → Q (.ref p) (upd H1 p (.tup xs))
def tLst (t : TA) : TE := fun σ H Q => t σ H fun xs H1 => xs.length ≤ sizeLine ∧ ∀ p, H1 p = none → Q (.ref p) (upd H1 p (.lst xs))
theorem pe_tup {x1} (h : PA X es t) : PE X (.Tuple es x1 pos) (tTup t) := by
  intro pins s σ H Q I hq
  refine wpAny_Tuple_spliced (thn (h pos pins s σ H _ I hq) fun us s1 ⟨xs, H1, I1, r, z, q⟩ => ⟨by rw [← r.length]; exact z, ?_⟩)
  have hf : H1 s1.heap.objs.size = none := I1.hok.fresh (Nat.le_refl _)
  refine ⟨.ref s1.heap.objs.size, upd H1 s1.heap.objs.size (.tup xs), I1.laid (t' := s1.toks) (fun b u e => Heap.get?_push_of_some _ e) (Nat.le_refl _) ?_, rfl, q _ hf⟩
  exact ⟨z, us, r, ⟨_, Heap.get?_push_size _ rfl, rfl, _, rfl⟩⟩
theorem pe_lst (h : PA X es t) : PE X (.List es pos) (tLst t) := by
  intro pins s σ H Q I hq
  refine wpAny_List_spliced (thn (h pos pins s σ H _ I hq) fun us s1 ⟨xs, H1, I1, r, z, q⟩ => ⟨by rw [← r.length]; exact z, ?_⟩)
  have hf : H1 s1.heap.objs.size = none := I1.hok.fresh (Nat.le_refl _)
  refine ⟨.ref s1.heap.objs.size, upd H1 s1.heap.objs.size (.lst xs), I1.laid (t' := s1.toks) (fun b u e => Heap.get?_push_of_some _ e) (Nat.le_refl _) ?_, rfl, q _ hf⟩
  exact ⟨z, us, 0, r, Heap.get?_push_size _ rfl⟩
end

/-! ### what a def promises -/
/-- a def's promise: the bound arguments in the parameters' order, the heap, the wanted end, the wanted exception -/
abbrev Sp := List V → Hp → VK → XK → Prop
/-- how an exception lies behind a call (file 08 gives it): the callers' frames, abstract heap and state ahead of the call, the wish, the exception, the state -/
abbrev CXT := List Env → Hp → Shared → XK → Value → Shared → Prop

/-- the state at a call -/
structure Env0 (P : Program) (w : World) (K : PySem.W.Frag) (mg : Str → Option Value) (base : Heap) (A : Around) (outer : List Env) (s : Shared) (H : Hp) : Prop where
  frames : A.frames = some outer
  mod : Mod K mg base
  bs : ∀ b o, base.get? b = some o → s.heap.get? b = some o ∧ H b = none
  bsz : base.objs.size ≤ s.heap.objs.size
  funs : s.heap.FunFrames base outer
  frf : ∀ b ∈ frs outer, H b = none
  hok : HOk P w H s.heap
  bare : AllBare s.gens
/-- a call's end -/
def CE (outer : List Env) (P : Program) (w : World) (H : Hp) (s : Shared) (Q : VK) (u : Value) (s' : Shared) : Prop :=
  ∃ v H', s'.os = s.os ∧ AllBare s'.gens ∧ Un (frs outer) [] H H' s.heap s'.heap ∧ HOk P w H' s'.heap ∧ RelV v u ∧ Q v H'
def CR (CX : CXT) (outer : List Env) (P : Program) (w : World) (H : Hp) (s : Shared) (Q : VK) (E : XK) (r : Result) (s' : Shared) : Prop :=
  match r with
  | .ok (.ret u) => CE outer P w H s Q u s'
  | .ok _ => False
  | .error e => CX outer H s E e s'
structure FnOk (P : Program) (w : World) (K : PySem.W.Frag) (mg : Str → Option Value) (base : Heap) (CX : CXT) (k : Nat) (f : Addr) (fd : FuncData) (ps : List Str) (sp : Sp) : Prop where
  len : ∀ vs H Q E, sp vs H Q E → vs.length = ps.length
  run : ∀ (A : Around) (outer : List Env) (s : Shared) (H : Hp) (args : Args) (us : List Value) (vs : List V) (Q : VK) (E : XK), Room k A → Env0 P w K mg base A outer s H → BindsTo s fd args (ps.zip us) → Vals vs us → sp vs H Q E →
    codeAny (model P w) A (.call (.ref f) args) (CR CX outer P w H s Q E) s
theorem Env0.make {P : Program} {w : World} {K : PySem.W.Frag} {mg : Str → Option Value} {base : Heap} {A : Around} {outer : List Env} {s : Shared} {H : Hp} (e : Env0 P w K mg base A outer s H) (C : Addr) (us : List Value) (kw : List (Str × Value)) :
    Env0 P w K mg base (A.under (.builtin "type.__call__" ⟨.ref C :: us, kw⟩)) outer s H := ⟨by first | exact e.frames | (simpa [Around.under, Code.envs, Code.isFrame, pushEnvs] using e.frames), e.mod, e.bs, e.bsz, e.funs, e.frf, e.hok, e.bare⟩
section
variable {X : Cx} {pins : List (Addr × Obj)} {σ : St} {H : Hp} {s s' : Shared}
/-- from a body: what a callee wants -/
theorem Inv.env0 (I : Inv X pins σ H s) : Env0 X.prog X.w X.K X.mg X.base X.A X.stack s H :=
  ⟨I.ok.frames, I.ok.mod, I.bs, Nat.le_trans I.ok.bsz I.sz, I.stack, I.stkFree, I.hok, I.bare⟩
/-- behind a call -/
theorem Inv.after {Q : VK} {u : Value} (I : Inv X pins σ H s) (h : CE X.stack X.prog X.w H s Q u s') : EP X pins σ Q u s' := by
  obtain ⟨v, H', os, bare, un, hok, r, q⟩ := h
  obtain ⟨hh, g, d, t, os'⟩ := s'
  obtain rfl : os' = s.os := os
  exact ⟨v, H', I.call (h' := hh) (g' := g) (d' := d) (t' := t) (ch := []) un hok bare (fun b z => absurd z (by simp)), r, q⟩
end

/-! ### calls -/
/-- f(..): the written arguments, then the defaults dvs; E: what is wanted of an exception -/
def tCall (sp : Sp) (dvs : List V) (E : XK) (t : TA) : TE := fun σ H Q => t σ H fun vs H1 => sp (vs ++ dvs) H1 Q E
/-- C(..): a new instance and its dict, then __init__ -/
def tMake (C : Addr) (sp : Sp) (dvs : List V) (E : XK) (t : TA) : TE := fun σ H Q => t σ H fun vs H1 => ∀ x dx, H1 x = none → H1 dx = none → dx ≠ x →
  sp (.ref x :: (vs ++ dvs)) (upd (upd H1 dx (.own x)) x (.ins C dx [])) (fun v H2 => v = .non ∧ Q (.ref x) H2) E

/-- how the parameters are bound: us the positional arguments, kw the keywords' values by name, ds the defaults that fill up -/
def Binds (K : PySem.W.Frag) (fd : FuncData) (ps : List Str) (ds : List Value) : Prop :=
  ∀ (s : Shared) (us : List Value), K.In s.heap → (us ++ ds).length = ps.length → BindsTo s fd ⟨us, []⟩ (ps.zip (us ++ ds))
/-- every parameter is given -/
theorem Binds.all {K : PySem.W.Frag} {fd : FuncData} {ps : List Str} (h : ∀ us : List Value, us.length = ps.length → bindArgs fd ⟨us, []⟩ = pure (ps.zip us)) : Binds K fd ps [] := fun s us _ hl => by
  rw [List.append_nil] at hl ⊢
  exact .of_eq (h us hl)

/-- an exception of a callee reaches what this body wants of exceptions -/
def Passes (CX : CXT) (X : Cx) (E : XK) : Prop := ∀ (pins : List (Addr × Obj)) (σ : St) (H : Hp) (s : Shared) (e : Value) (s' : Shared), Inv X pins σ H s → CX X.stack H s E e s' → X.xe e s'

section
variable {X : Cx} {CX : CXT} {k : Nat} {f C : Addr} {fd : FuncData} {ps : List Str} {sp : Sp} {dvs : List V} {ds : List Value} {E : XK} {x m : Str} {p pos apos : Pos} {e o : Expr} {es : List Expr} {ta : TE} {t : TA}

/-- the callee runs -/
theorem run_fn {pins : List (Addr × Obj)} {σ : St} {H : Hp} {s : Shared} {Q : VK} {us : List Value} {vs : List V} (F : FnOk X.prog X.w X.K X.mg X.base CX k f fd ps sp) (hr : Room k X.A) (hb : Binds X.K fd ps ds) (hd : Vals dvs ds) (hx : Passes CX X E)
    (I : Inv X pins σ H s) (r : Vals vs us) (h : sp (vs ++ dvs) H Q E) : wpAny (model X.prog X.w) X.A (call (.ref f) us) (EP X pins σ Q) X.xe s := by
  have r2 : Vals (vs ++ dvs) (us ++ ds) := r.append hd
  have hl : (us ++ ds).length = ps.length := by rw [← r2.length]; exact F.len _ _ _ _ h
  refine wpAny_call (codeAny_mono (F.run X.A X.stack s H ⟨us, []⟩ (us ++ ds) (vs ++ dvs) Q E hr I.env0 (hb s us I.kIn hl) r2 h) fun r s' hq => ?_)
  cases r with
  | error e => exact hx pins σ H s e s' I hq
  | ok fl =>
    cases fl with
    | ret u => exact I.after hq
    | next => exact False.elim hq
    | brk => exact False.elim hq
    | cont => exact False.elim hq

theorem pe_call (F : FnOk X.prog X.w X.K X.mg X.base CX k f fd ps sp) (hr : Room k X.A) (hg : Gl X x) (hm : X.mg x = some (.ref f)) (hk : PySem.W.keepIn X.K (.ref f) = true) (hb : Binds X.K fd ps ds) (hd : Vals dvs ds) (hx : Passes CX X E)
    (ha : PA X (e :: es) t) (hdb : (x == ("__debug__" : Str)) = false := by decide) (he : starEach (e :: es) X.env = (false, eval e X.env) :: starEach es X.env := by rfl) (hpl : (backTo pos (starEach es X.env)).any (·.1) = false := by rfl) :
    PE X (.Call (.Name x p) (e :: es) [] pos) (tCall sp dvs E t) := by
  intro pins s σ H Q I h
  refine wpAny_Call_Name_kw (ld_glob I hg hm ?_ hdb)
  refine PySem.W.callWith_K (h₀ := X.base) I.ok.mod.kin hk (thn (ha pos pins s σ H _ I h) fun us s1 ⟨vs, H1, I1, r, q⟩ => ⟨I1.kIn, ?_⟩) he hpl
  exact run_fn F hr hb hd hx I1 r q
/-- what a class must have to be made -/
structure Mk (K : PySem.W.Frag) (C f : Addr) : Prop where
  makes : PySem.W.makesIn K C = true
  init : PySem.W.findIn K (.ref C) "__init__" = some (some (.ref f))
  fn : PySem.W.isFn K (.ref f) = true
  kp : PySem.W.keepIn K (.ref C) = true

theorem run_make {pins : List (Addr × Obj)} {σ : St} {H : Hp} {s : Shared} {Q : VK} {us : List Value} {vs : List V} (M : Mk X.K C f) (F : FnOk X.prog X.w X.K X.mg X.base CX k f fd ps sp) (hr : Room (k + 1) X.A) (hb : Binds X.K fd ps ds) (hd : Vals dvs ds)
    (hx : Passes CX X E) (I : Inv X pins σ H s) (r : Vals vs us)
    (h : ∀ x dx, H x = none → H dx = none → dx ≠ x → sp (.ref x :: (vs ++ dvs)) (upd (upd H dx (.own x)) x (.ins C dx [])) (fun v H2 => v = .non ∧ Q (.ref x) H2) E) :
    wpAny (model X.prog X.w) X.A (call (.ref C) us) (EP X pins σ Q) X.xe s := by
  have hq := h (s.heap.objs.size + 1) s.heap.objs.size (I.hok.fresh (Nat.le_succ _)) (I.hok.fresh (Nat.le_refl _)) (Nat.ne_of_lt (Nat.lt_succ_self _))
  have I2 := Inv.made (C := C) I
  have r2 : Vals (V.ref (s.heap.objs.size + 1) :: (vs ++ dvs)) (Value.ref (s.heap.objs.size + 1) :: (us ++ ds)) := .cons rfl (r.append hd)
  have hl : (Value.ref (s.heap.objs.size + 1) :: us ++ ds).length = ps.length := by
    have e := r2.length
    rw [F.len _ _ _ _ hq] at e
    exact e.symm
  refine wpAny_call (make_map (f := f) I.kIn M.makes M.init (beq_iff_eq.mp M.fn) (codeAny_mono (F.run _ X.stack _ _ ⟨Value.ref (s.heap.objs.size + 1) :: us, []⟩ (Value.ref (s.heap.objs.size + 1) :: (us ++ ds)) _ _ E (hr.make C us [])
    (I2.env0.make C us []) (hb _ (Value.ref (s.heap.objs.size + 1) :: us) I2.kIn hl) r2 hq) fun r s' hq' => ?_))
  cases r with
  | error e => exact hx pins σ _ _ e s' I2 hq'
  | ok fl =>
    cases fl with
    | ret u =>
      obtain ⟨v, H', I3, rv, ev, q3⟩ := I2.after hq'
      subst ev
      exact ⟨rv, ⟨V.ref (s.heap.objs.size + 1), H', I3, rfl, q3⟩⟩
    | next => exact False.elim hq'
    | brk => exact False.elim hq'
    | cont => exact False.elim hq'
theorem pe_make (M : Mk X.K C f) (F : FnOk X.prog X.w X.K X.mg X.base CX k f fd ps sp) (hr : Room (k + 1) X.A) (hg : Gl X x) (hm : X.mg x = some (.ref C)) (hb : Binds X.K fd ps ds) (hd : Vals dvs ds) (hx : Passes CX X E)
    (ha : PA X (e :: es) t) (hdb : (x == ("__debug__" : Str)) = false := by decide) (he : starEach (e :: es) X.env = (false, eval e X.env) :: starEach es X.env := by rfl) (hpl : (backTo pos (starEach es X.env)).any (·.1) = false := by rfl) :
    PE X (.Call (.Name x p) (e :: es) [] pos) (tMake C sp dvs E t) := by
  intro pins s σ H Q I h
  refine wpAny_Call_Name_kw (ld_glob I hg hm ?_ hdb)
  refine PySem.W.callWith_K (h₀ := X.base) I.ok.mod.kin M.kp (thn (ha pos pins s σ H _ I h) fun us s1 ⟨vs, H1, I1, r, q⟩ => ⟨I1.kIn, ?_⟩) he hpl
  exact run_make M F hr hb hd hx I1 r q
end

/-! ### keywords -/
section
variable {X : Cx} {CX : CXT} {k : Nat} {f C : Addr} {fd : FuncData} {ps ks : List Str} {sp : Sp} {E : XK} {x m : Str} {p pos apos kpos : Pos} {e o : Expr} {es : List Expr} {kws : List Keyword} {te ta : TE} {t tk : TA} {nm : Option Str}
variable {g : List Value → List Value → List Value} {gV : List V → List V → List V}
end

/-! ### a def's body keeps its promise -/
/-- names: the parameters first -/
structure FnScope (N P : List Str) (sc : Scope) : Prop where
  kind : sc.kind = .function
  co : sc.isCoroutine = false
  gen : sc.isGenerator = false
  nd : N.Nodup
  pre : N.take P.length = P
  par : ∀ x ∈ P, sc.names.lookup x = some .local ∨ sc.names.lookup x = some .cell
  nofree : ∀ y ∈ sc.names, y.2 ≠ .free

theorem bindL_out {kindOf : Str → Option NameKind} {x : Str} : ∀ {binds : List (Str × Value)} {m : Str → Option Value}, (∀ v, (x, v) ∉ binds) → bindL kindOf binds m x = m x
  | [], _, _ => rfl
  | (n, v) :: r, m, h => by
    unfold bindL
    rw [bindL_out fun w hw => h w (List.mem_cons_of_mem _ hw)]
    split
    · have : x ≠ n := by rintro rfl; exact h v List.mem_cons_self
      simp [this]
    · rfl
theorem bindC_out {kindOf : Str → Option NameKind} {x : Str} : ∀ {binds : List (Str × Value)} {m : Str → Option Value}, (∀ v, (x, v) ∉ binds) → bindC kindOf binds m x = m x
  | [], _, _ => rfl
  | (n, v) :: r, m, h => by
    unfold bindC
    rw [bindC_out fun w hw => h w (List.mem_cons_of_mem _ hw)]
    split
    · rfl
    · have : x ≠ n := by rintro rfl; exact h v List.mem_cons_self
      simp [this]
theorem bindL_get {kindOf : Str → Option NameKind} {x : Str} {v : Value} : ∀ {P : List Str} {vs : List Value} {i : Nat} {m : Str → Option Value}, P.Nodup → P[i]? = some x → vs[i]? = some v → kindOf x = some .local →
    bindL kindOf (P.zip vs) m x = some v
  | [], _, _, _, _, h, _, _ => by simp at h
  | _ :: _, [], _, _, _, _, h, _ => by simp at h
  | p :: P, w :: vs, 0, m, nd, h1, h2, hk => by
    simp at h1 h2; subst h1; subst h2
    show bindL kindOf ((p, w) :: P.zip vs) m p = _
    unfold bindL
    rw [bindL_out fun v hv => (List.nodup_cons.mp nd).1 (List.of_mem_zip hv).1, if_pos hk]
    simp
  | p :: P, w :: vs, i + 1, m, nd, h1, h2, hk => by
    show bindL kindOf ((p, w) :: P.zip vs) m x = _
    unfold bindL
    exact bindL_get (i := i) (List.nodup_cons.mp nd).2 (by simpa using h1) (by simpa using h2) hk
theorem bindC_get {kindOf : Str → Option NameKind} {x : Str} {v : Value} : ∀ {P : List Str} {vs : List Value} {i : Nat} {m : Str → Option Value}, P.Nodup → P[i]? = some x → vs[i]? = some v → kindOf x ≠ some .local →
    bindC kindOf (P.zip vs) m x = some v
  | [], _, _, _, _, h, _, _ => by simp at h
  | _ :: _, [], _, _, _, _, h, _ => by simp at h
  | p :: P, w :: vs, 0, m, nd, h1, h2, hk => by
    simp at h1 h2; subst h1; subst h2
    show bindC kindOf ((p, w) :: P.zip vs) m p = _
    unfold bindC
    rw [bindC_out fun v hv => (List.nodup_cons.mp nd).1 (List.of_mem_zip hv).1, if_neg hk]
    simp
  | p :: P, w :: vs, i + 1, m, nd, h1, h2, hk => by
    show bindC kindOf ((p, w) :: P.zip vs) m x = _
    unfold bindC
    exact bindC_get (i := i) (List.nodup_cons.mp nd).2 (by simpa using h1) (by simpa using h2) hk

/-- the names' values at the entry -/
def start (N : List Str) (vs : List V) : St := vs.map some ++ List.replicate (N.length - vs.length) none

/-- the context of a def's body, at its entry; an exception leaves the frame, then lies as CX says -/
def cxOf (CX : CXT) (P : Program) (w : World) (K : PySem.W.Frag) (mg : Str → Option Value) (base : Heap) (N : List Str) (qual : Str) (scope : Scope) (f : Addr) (cd : Value) (A : Around) (outer : List Env) (s : Shared) (H : Hp) (E : XK) : Cx where
  prog := P
  w := w
  K := K
  mg := mg
  base := base
  A := A.deeper (envOfC qual scope s.heap.objs.size f cd)
  N := N
  s₀ := s
  H₀ := H
  env := envOfC qual scope s.heap.objs.size f cd
  outer := outer
  stack := envOfC qual scope s.heap.objs.size f cd :: outer
  ex := []
  calm := true
  fn := fun _ => true
  pn := []
  xe := fun e s' => wpAny (model P w) (A.deeper (envOfC qual scope s.heap.objs.size f cd)) (leaving (envOfC qual scope s.heap.objs.size f cd) e) (fun _ s'' => CX outer H s E e s'') (fun e' s'' => CX outer H s E e' s'') s'

theorem cell_has {sc : Scope} {n : Nat} {x : Str} (h : sc.names.lookup x = some .cell) : ∃ c, (cellsFrom n sc.names []).lookup x = some c := by
  have q := PySem.W.cellsFrom_some sc.names n [] (.inl h)
  exact Option.isSome_iff_exists.mp q

theorem inv_start {CX : CXT} {P : Program} {w : World} {K : PySem.W.Frag} {mg : Str → Option Value} {base : Heap} {N ps : List Str} {qual : Str} {scope : Scope} {f : Addr} {cd : Value} {A : Around} {outer : List Env} {s s1 : Shared} {H : Hp} {E : XK} {us : List Value} {vs : List V}
    (S : FnScope N ps scope) (hd : A.handled = none) (e0 : Env0 P w K mg base A outer s H) (hl : vs.length = ps.length) (r : Vals vs us)
    (x : InCallC s s.heap.objs.size (bindL (envOfC qual scope s.heap.objs.size f cd).kindOf (ps.zip us) fun _ => none) (cellsFrom (s.heap.objs.size + 1) scope.names []) (bindC (envOfC qual scope s.heap.objs.size f cd).kindOf (ps.zip us) fun _ => none) s1) :
    Inv (cxOf CX P w K mg base N qual scope f cd A outer s H E) [] (start N vs) H s1 := by
  have hpl : ps.length ≤ N.length := by have := congrArg List.length S.pre; rw [List.length_take] at this; omega
  obtain ⟨h1, tk, rfl, hk⟩ := x.done
  have noA : ∀ b : Addr, b ∉ (cxOf CX P w K mg base N qual scope f cd A outer s H E).ex := fun b z => absurd (show b ∈ ([] : List Addr) from z) (by simp)
  refine ⟨⟨e0.mod, S.kind, rfl, rfl, Nat.le_refl _, fun y z c h1 h2 => ?_, fun y hy => ?_, fun y c _ h => ?_, fun _ => hd, Around.frames_deeper e0.frames, .inr ⟨rfl, rfl⟩, fun b z => absurd z (noA b), e0.bs, e0.bsz, fun b _ _ => noA b, fun b z => absurd z (noA b), e0.funs, e0.frf⟩,
    rfl, e0.bare, Un.kept hk, ⟨_, x.toInCall.ns, fun i y v h1 h2 h3 => ?_⟩, fun y c h => ⟨_, x.cell y c h⟩, e0.hok.fresh (Nat.le_refl _), fun y c h => ?_, fun p hp => absurd (show p ∈ ([] : List (Addr × Obj)) from hp) (by simp), e0.hok.kept hk, ?_⟩
  · exact name_of_addr x.apart (PySem.mem_of_lookup h1) (PySem.mem_of_lookup h2)
  · have hy : scope.names.lookup y = some .cell ∨ scope.names.lookup y = some .free := hy
    rcases hy with hy | hy
    · exact cell_has hy
    · exact absurd rfl (S.nofree _ (PySem.mem_of_lookup hy))
  · exact Nat.le_of_lt (x.above y c (PySem.mem_of_lookup h))
  · have hi : i < vs.length := by
      unfold start at h2
      by_cases hi : i < vs.length
      · exact hi
      · rw [List.getElem?_append_right (by simpa using hi)] at h2
        rw [List.getElem?_replicate] at h2
        split at h2 <;> cases h2
    have ha : vs[i]? = some v := by
      unfold start at h2
      rw [List.getElem?_append_left (by simpa using hi), List.getElem?_map] at h2
      cases e : vs[i]? with
      | none => rw [e] at h2; cases h2
      | some a => rw [e] at h2; cases h2; rfl
    obtain ⟨u, hu, rv⟩ := r.get ha
    have hp : ps[i]? = some y := by
      rw [← S.pre, List.getElem?_take_of_lt (by omega)]; exact h1
    have ndP : ps.Nodup := by rw [← S.pre]; exact S.nd.sublist (List.take_sublist _ _)
    refine ⟨u, rv, ?_⟩
    rcases S.par y (List.mem_of_getElem? hp) with k | k
    · exact .inl ⟨k, bindL_get ndP hp hu k⟩
    · obtain ⟨c, e⟩ := cell_has (n := s.heap.objs.size + 1) k
      refine .inr ⟨.inl k, c, e, ?_⟩
      have q := x.cell y c e
      rw [bindC_get ndP hp hu (by show scope.names.lookup y ≠ _; rw [k]; decide)] at q
      exact q
  · exact e0.hok.fresh (Nat.le_of_lt (x.above y c (PySem.mem_of_lookup h)))
  · unfold start
    show _ = N.length
    rw [List.length_append, List.length_map, List.length_replicate]
    omega

/-- THE RULE: a def (or a method) of the text, by its body. The body's reading t is chosen for each entry; it is run at the parameters' values -/
theorem fn_of {CX : CXT} {P : Program} {w : World} {K : PySem.W.Frag} {mg : Str → Option Value} {base : Heap} {k : Nat} {f : Addr} {name qual : Str} {params : Arguments} {body : List Stmt} {scope : Scope} {dV kV doc pm cdv ct oc : Value} {an od : Option Addr}
    {osl : Array (Option Value)} {N ps : List Str} {sp : Sp} (lk : K.lookup f = some ⟨oc, od, .func (PySem.W.fnOf name qual params body scope dV kV doc pm an cdv ct), osl⟩) (hcd : PySem.W.codeIn K cdv qual = true) (S : FnScope N ps scope)
    (len : ∀ vs H Q E, sp vs H Q E → vs.length = ps.length)
    (hbody : ∀ (A : Around) (outer : List Env) (s : Shared) (H : Hp) (vs : List V) (Q : VK) (E : XK), Room k (A.deeper (envOfC qual scope s.heap.objs.size f cdv)) → sp vs H Q E →
      ∃ t, PSs (cxOf CX P w K mg base N qual scope f cdv A outer s H E) body t ∧ t { nx := fun _ H' => Q .non H', rt := Q } (start N vs) H) :
    FnOk P w K mg base CX (k + 1) f (PySem.W.fnOf name qual params body scope dV kV doc pm an cdv ct) ps sp := by
  refine ⟨len, fun A outer s H args us vs Q E hr e0 hb r hsp => ?_⟩
  have hl := len _ _ _ _ hsp
  have KX : K.In s.heap := e0.mod.kin.keeps fun b o e => (e0.bs b o e).1
  have lim : s.heap.NoLimit := e0.mod.nolimit.keeps fun b o e => (e0.bs b o e).1
  have hkind : ∀ y ∈ ps.zip us, scope.names.lookup y.1 = some .local ∨ (scope.names.lookup y.1 = some .cell ∧ ((cellsFrom (s.heap.objs.size + 1) scope.names []).lookup y.1).isSome = true) := fun ⟨n, v⟩ hy => by
    rcases S.par n (List.of_mem_zip hy).1 with q | q
    · exact .inl q
    · exact .inr ⟨q, PySem.W.cellsFrom_some _ _ _ (.inl q)⟩
  refine codeAny_call_function hr.depth (KX _ _ lk) rfl S.co S.gen rfl (PySem.W.codeRec_of KX hcd) (hb _ _ _ _ ?_)
  refine wpAny_newFunctionEnv_cells S.kind hkind fun env he s1 x => ?_
  subst he
  refine ⟨lim.keeps x.toInCall.keep, codeAny_func ?_⟩
  obtain ⟨t, ht, hq⟩ := hbody A outer s H vs Q E (hr.deeper _) hsp
  have I : Inv (cxOf CX P w K mg base N qual scope f cdv A outer s H E) [] (start N vs) H s1 := inv_start S hr.hd e0 hl r x
  refine wpAny_mono (ht [] s1 (start N vs) H _ I hq) (fun fl s' hs => ?_) fun e s' hs => hs
  have fin : ∀ {σ' : St} {H' : Hp} {v : V} {u : Value}, Inv (cxOf CX P w K mg base N qual scope f cdv A outer s H E) [] σ' H' s' → RelV v u → Q v H' → CE outer P w H s Q u s' :=
    fun {σ' H' v u} J rv q => ⟨v, H', J.os, J.bare, J.base, J.hok, rv, q⟩
  cases fl with
  | ret u =>
    obtain ⟨v, σ', H', J, rv, q⟩ := hs
    exact fin J rv q
  | next =>
    obtain ⟨σ', H', J, q⟩ := hs
    exact fin (v := V.non) (u := Value.none) J rfl q
  | brk =>
    obtain ⟨_, _, _, q⟩ := hs
    exact False.elim q
  | cont =>
    obtain ⟨_, _, _, q⟩ := hs
    exact False.elim q
end L2

namespace L2
open PySem PySem.Spec PyProof.Rows
section
variable {X : Cx} {x : Str} {p pos : Pos} {e : Expr} {es : List Expr} {t : TA} {id T : String} {r : List V → Hp → VK → Prop}

def tCB (r : List V → Hp → VK → Prop) (t : TA) : TE := fun σ H Q => t σ H fun vs H1 => r vs H1 Q
/-- f(e, ..), f a built-in function -/
theorem pe_callB (hc : CallR X (.builtin id) r) (hg : Gl X x) (hm : X.mg x = none) (hv : bootBuiltins x = some (.builtin id)) (ha : PA X (e :: es) t) (hn : x ≠ "__name__" := by decide) (hdb : (x == ("__debug__" : Str)) = false := by decide)
    (he : starEach (e :: es) X.env = (false, eval e X.env) :: starEach es X.env := by rfl) (hpl : (backTo pos (starEach es X.env)).any (·.1) = false := by rfl) : PE X (.Call (.Name x p) (e :: es) [] pos) (tCB r t) := by
  intro pins s σ H Q I h
  refine wpAny_Call_Name_kw (ld_blt I hg hm hv ?_ hn hdb)
  exact PyProof.Rows.callWith_builtin1 (thn (ha pos pins s σ H _ I h) fun us s1 ⟨vs, H1, I1, r1, q1⟩ => hc pins s1 σ H1 vs us Q I1 r1 q1) he hpl
/-- T(e, ..), T a built-in type -/
theorem pe_callTy (hc : CallR X (.type T) r) (hg : Gl X x) (hm : X.mg x = none) (hv : bootBuiltins x = some (.type T)) (ha : PA X (e :: es) t) (hn : x ≠ "__name__" := by decide) (hdb : (x == ("__debug__" : Str)) = false := by decide)
    (he : starEach (e :: es) X.env = (false, eval e X.env) :: starEach es X.env := by rfl) (hpl : (backTo pos (starEach es X.env)).any (·.1) = false := by rfl) : PE X (.Call (.Name x p) (e :: es) [] pos) (tCB r t) := by
  intro pins s σ H Q I h
  refine wpAny_Call_Name_kw (ld_blt I hg hm hv ?_ hn hdb)
  exact PyProof.Rows.callWith_type1 (thn (ha pos pins s σ H _ I h) fun us s1 ⟨vs, H1, I1, r1, q1⟩ => hc pins s1 σ H1 vs us Q I1 r1 q1) he hpl
end
end L2

namespace HT
open PySem PyProof.Rows

section
open PySem.SeqAt
open PySem.AutoSeq1 (wpAny_loadPart')
open PySem.MeetsSeq PySem.MeetsSeq2 PySem.MeetsSeq3

end

section
variable {prog : Program} {w : World} {A : Around} {E : Value → Shared → Prop} {s : Shared}

/-! ### t[a:b], not the whole -/
/-- a slice's bound as a place among n (d where it is left out) -/
def sIx (n d : Nat) : Option Int → Nat
  | none => d
  | some v => if v < 0 then (v + (n : Int)).toNat else min v.toNat n
end
end HT

namespace L2
open PySem PySem.Spec PyProof.Rows

/-! ### the parts of a slice -/
abbrev TO := St → Hp → (Option Int → Hp → Prop) → Prop
/-- a slice's part (left out, or an int) -/
def PO (X : Cx) (e : Option Expr) (t : TO) : Prop :=
  ∀ (pins : List (Addr × Obj)) (s : Shared) (σ : St) (H : Hp) (Q : Option Int → Hp → Prop), Inv X pins σ H s → t σ H Q →
    wpAny (model X.prog X.w) X.A (evalPart e X.env) (fun u s' => ∃ o H', Inv X pins σ H' s' ∧ IsPart u o ∧ Q o H') X.xe s
def tNoPart : TO := fun _ H Q => Q none H
def tPart (t : TE) : TO := fun σ H Q => t σ H fun x H1 => ∃ i, x = .int i ∧ Q (some i) H1

section
variable {X : Cx} {e : Expr} {te : TE} {lo hi : Option Expr} {tl th : TO} {pos p2 : Pos}

theorem po_none : PO X none tNoPart := by
  intro pins s σ H Q I h
  rw [evalPart_none]
  exact wpAny_pure ⟨none, H, I, .none, h⟩
theorem po_some (h : PE X e te) : PO X (some e) (tPart te) := by
  intro pins s σ H Q I hw
  rw [evalPart_some]
  refine thn (h pins s σ H _ I hw) fun u s1 ⟨x, H1, I1, r1, q1⟩ => ?_
  obtain ⟨i, rfl, q⟩ := q1
  obtain ⟨t, rfl⟩ := r1
  exact ⟨some i, H1, I1, .int i t, q⟩

/-- what a slice of a value is, by values: the slice object stands at sl -/
def SlR (X : Cx) (r : V → Option Int → Option Int → Hp → VK → Prop) : Prop :=
  ∀ (pins : List (Addr × Obj)) (s : Shared) (σ : St) (H : Hp) (x : V) (v vl vu : Value) (lo hi : Option Int) (sl : Addr) (Q : VK), Inv X pins σ H s → RelV x v → s.heap.IsSliceOf sl vl vu .none → IsPart vl lo → IsPart vu hi → r x lo hi H Q →
    ∃ T id, typeLookup (.type T) "__getitem__" = pure (some (.builtin id)) ∧ s.TypeIs v T ∧ wpAny (model X.prog X.w) X.A (getItem v (.ref sl)) (EP X pins σ Q) X.xe s
def tSl (r : V → Option Int → Option Int → Hp → VK → Prop) (te : TE) (tl th : TO) : TE := fun σ H Q => te σ H fun x H1 => tl σ H1 fun l H2 => th σ H2 fun u H3 => r x l u H3 Q
/-- a[lo:hi], any a -/
theorem pe_slice {r : V → Option Int → Option Int → Hp → VK → Prop} (hr : SlR X r) (he : PE X e te) (hl : PO X lo tl) (hu : PO X hi th) : PE X (.Subscript e (.Slice lo hi none p2) pos) (tSl r te tl th) := by
  intro pins s σ H Q I h
  refine Subscript_ (thn (he pins s σ H _ I h) fun v s1 ⟨x, H1, I1, r1, q1⟩ => ?_)
  refine wpAny_Slice (thn (hl pins s1 σ H1 _ I1 q1) fun vl s2 ⟨l, H2, I2, pl, q2⟩ => thn (hu pins s2 σ H2 _ I2 q2) fun vu s3 ⟨u, H3, I3, pu, q3⟩ => ?_)
  rw [evalPart_none]
  refine wpAny_pure ?_
  have I4 : Inv X pins σ H3 { s3 with heap := s3.heap.push { cls := .type "slice", data := .fields #[vl, vu, .none] } } := I3.kept (t' := s3.toks) fun b ob q => Heap.get?_push_of_some _ q
  obtain ⟨T, id, hT, ht, hg⟩ := hr pins { s3 with heap := s3.heap.push { cls := .type "slice", data := .fields #[vl, vu, .none] } } σ H3 x v vl vu l u s3.heap.objs.size Q I4 r1 (Heap.IsSliceOf.new ..) pl pu q3
  show wpAny (model X.prog X.w) X.A (subscriptTail e (.Slice lo hi none p2) v (.ref s3.heap.objs.size)) (EP X pins σ Q) X.xe { s3 with heap := s3.heap.push { cls := .type "slice", data := .fields #[vl, vu, .none] } }
  exact tail_any (ops := [.ref s3.heap.objs.size, v]) ht hT hg (by with_unfolding_all rfl)

/-- the items of xs[lo:hi] -/
def cutV (xs : List V) (lo hi : Option Int) : List V := (xs.drop (HT.sIx xs.length 0 lo)).take (HT.sIx xs.length xs.length hi - HT.sIx xs.length 0 lo)
theorem cutV_length (xs : List V) (lo hi : Option Int) : (cutV xs lo hi).length ≤ xs.length := by
  unfold cutV
  rw [List.length_take, List.length_drop]
  omega
/-! ### t < u, t + u -/
end
end L2

namespace L2
open PySem PySem.Spec PyProof.Rows

/-! ### places -/
/-- the place that an index of any sign means -/
def ixN (n : Nat) (i : Int) : Option Nat := if 0 ≤ i then (if i < n then some i.toNat else none) else if -(n : Int) ≤ i then some (i + n).toNat else none
def atI {α : Type} (xs : List α) (i : Int) : Option α := (ixN xs.length i).bind fun j => xs[j]?
theorem ixN_seq {n : Nat} {i : Int} {j : Nat} (h : ixN n i = some j) : seqIndex? i n = some j ∧ j < n ∧ -(n : Int) ≤ i ∧ i < n := by
  unfold ixN at h
  by_cases h0 : 0 ≤ i
  · rw [if_pos h0] at h
    by_cases h1 : i < n
    · rw [if_pos h1] at h
      have e : i.toNat = j := Option.some.inj h
      exact ⟨by rw [seqIndex_of h0 h1, e], by omega, by omega, h1⟩
    · rw [if_neg h1] at h; cases h
  · rw [if_neg h0] at h
    by_cases h1 : -(n : Int) ≤ i
    · rw [if_pos h1] at h
      have e : (i + n).toNat = j := Option.some.inj h
      exact ⟨by rw [seqIndex_neg (by omega) h1, e], by omega, h1, by omega⟩
    · rw [if_neg h1] at h; cases h
theorem atI_get {α : Type} {xs : List α} {i : Int} {v : α} (h : atI xs i = some v) : ∃ j, seqIndex? i xs.length = some j ∧ xs[j]? = some v ∧ j < xs.length ∧ -(xs.length : Int) ≤ i ∧ i < xs.length := by
  unfold atI at h
  cases e : ixN xs.length i with
  | none => rw [e] at h; cases h
  | some j =>
    rw [e] at h
    obtain ⟨h1, h2, h3, h4⟩ := ixN_seq e
    exact ⟨j, h1, h, h2, h3, h4⟩
theorem atI_nat {α : Type} {xs : List α} {j : Nat} {v : α} (h : xs[j]? = some v) : atI xs (j : Int) = some v := by
  have hj : j < xs.length := (List.getElem?_eq_some_iff.mp h).1
  have e : ixN xs.length (j : Int) = some j := by
    unfold ixN
    rw [if_pos (by omega), if_pos (by omega)]; simp
  unfold atI; rw [e]; exact h
/-! ### what may be subscripted -/
/-- what stands as an index of a plain subscript -/
def PlainIx (b : Expr) : Prop := ∀ o i, subscripted b false o i = operate [o, i] (getItem o i)
/-- a subscript by values -/
def IxR (X : Cx) (r : R2) : Prop :=
  ∀ (value slice : Expr) (pins : List (Addr × Obj)) (s : Shared) (σ : St) (H : Hp) (x y : V) (v u : Value) (Q : VK), Inv X pins σ H s → RelV x v → RelV y u → r x y H Q →
    subscripted slice false v u = operate [v, u] (getItem v u) → wpAny (model X.prog X.w) X.A (subscriptTail value slice v u) (EP X pins σ Q) X.xe s
/-- a call of a builtin's method by values: the receiver, the arguments -/
def MtR (X : Cx) (id : String) (r : V → List V → Hp → VK → Prop) : Prop :=
  ∀ (pins : List (Addr × Obj)) (s : Shared) (σ : St) (H : Hp) (x : V) (xs : List V) (v : Value) (us : List Value) (Q : VK), Inv X pins σ H s → RelV x v → Vals xs us → r x xs H Q →
    wpAny (model X.prog X.w) X.A (call (.builtin id) (v :: us)) (EP X pins σ Q) X.xe s
section
variable {X : Cx} {a b : Expr} {ta tb : TE} {pos : Pos}
/-- a[b] -/
theorem pe_ix {r : R2} (hr : IxR X r) (ha : PE X a ta) (hb : PE X b tb) (hs : PlainIx b) : PE X (.Subscript a b pos) (tOp r ta tb) := by
  intro pins s σ H Q I h
  exact Subscript_ (binT ha hb I h fun v u s2 x y H2 I2 rx ry q => hr a b pins s2 σ H2 x y v u Q I2 rx ry q (hs _ _))

def rIxL (K : PySem.W.Frag) : R2 := fun x y H Q => ∃ p xs i v, x = .ref p ∧ y = .int i ∧ SqL K H p xs ∧ atI xs i = some v ∧ Q v H
def rIxT (K : PySem.W.Frag) : R2 := fun x y H Q => ∃ p xs i v, x = .ref p ∧ y = .int i ∧ SqT K H p xs ∧ atI xs i = some v ∧ Q v H
def rIxS : R2 := fun x y H Q => ∃ z i c, x = .str z ∧ y = .int i ∧ z.length ≤ sizeLine ∧ atI z.cps.toList i = some c ∧ Q (.str ⟨#[c]⟩) H
theorem ix_list : IxR X (rIxL X.K) := by
  intro value slice pins s σ H x y v u Q I rx ry h hs
  obtain ⟨p, xs, i, z, rfl, rfl, hq, he, q⟩ := h
  cases rx
  obtain ⟨t, rfl⟩ := ry
  obtain ⟨its, r, pl, hz⟩ := I.list hq
  obtain ⟨j, h1, h2, h3, h4, h5⟩ := atI_get he
  obtain ⟨w, ew, rw'⟩ := r.get h2
  have hl := r.length
  have hn := line63
  have fin : EP X pins σ Q w s := ⟨z, H, I, rw', q⟩
  by_cases h0 : 0 ≤ i
  · have hj : i.toNat = j := by
      rw [seqIndex_of h0 h5] at h1
      exact Option.some.inj h1
    exact item_listR pl.isList h0 (by omega) (by rw [hj]; simpa using ew) fin hs
  · have hj : (i + (its.toArray.size : Int)).toNat = j := by
      rw [seqIndex_neg (by omega) h4] at h1
      rw [List.size_toArray, ← hl]
      exact Option.some.inj h1
    exact subscriptTail_builtinR (x := w) pl.isList.typeIs slot_list_getitem.lookup
      (wpAny_getItem_list_neg (Q := fun r s' => r = w ∧ EP X pins σ Q r s') pl.isList (by omega) (by rw [List.size_toArray] <;> omega) (by omega) (by rw [hj]; simpa using ew) ⟨rfl, fin⟩) hs
theorem ix_tup : IxR X (rIxT X.K) := by
  intro value slice pins s σ H x y v u Q I rx ry h hs
  obtain ⟨p, xs, i, z, rfl, rfl, hq, he, q⟩ := h
  cases rx
  obtain ⟨t, rfl⟩ := ry
  obtain ⟨its, r, pl, hz⟩ := I.tuple hq
  obtain ⟨j, h1, h2, h3, h4, h5⟩ := atI_get he
  obtain ⟨w, ew, rw'⟩ := r.get h2
  have hl := r.length
  have hn := line63
  have fin : EP X pins σ Q w s := ⟨z, H, I, rw', q⟩
  exact subscriptTail_builtinR (x := w) pl.typeIs slot_tuple_getitem.lookup
    (getItem_tuple (j := j) (Q := fun r s' => r = w ∧ EP X pins σ Q r s') pl (by omega) (by omega) (by rw [List.size_toArray, ← hl]; exact h1) (by simpa using ew) ⟨rfl, fin⟩) hs
theorem ix_str : IxR X rIxS := by
  intro value slice pins s σ H x y v u Q I rx ry h hs
  obtain ⟨z, i, c, rfl, rfl, hz, he, q⟩ := h
  obtain ⟨t, rfl⟩ := rx
  obtain ⟨t', rfl⟩ := ry
  obtain ⟨j, h1, h2, h3, h4, h5⟩ := atI_get he
  have hl : z.cps.toList.length = z.length := by simp [Str.length]
  rw [hl] at h1 h4 h5
  have hn := line63
  exact tail_any (typeIs_str s z t) slot_str_getitem.lookup (getItem_str (c := c) (by
    have e1 : decide (i < -(2 ^ 63 : Int)) = false := decide_eq_false (by omega)
    have e2 : decide (i ≥ 2 ^ 63) = false := decide_eq_false (by omega)
    rw [e1, e2, Bool.or_false]) (by rw [h1]; simpa using h2) ⟨.str ⟨#[c]⟩, H, I.tok _, ⟨_, rfl⟩, q⟩) hs
/-! ### xs[i] = v, any sign -/
/-- the list's object behind a store -/
theorem mapSeq_set (its : List Value) (n j : Nat) (u : Value) : Obj.mapSeq (·.setIfInBounds j u) { cls := .type "list", data := .seq its.toArray n } = { cls := .type "list", data := .seq (its.set j u).toArray n } := by
  simp [Obj.mapSeq]
theorem Inv.lst {pins : List (Addr × Obj)} {σ : St} {H : Hp} {s : Shared} {p : Addr} {xs : List V} (I : Inv X pins σ H s) (h : H p = some (.lst xs)) :
    ∃ (its : List Value) (n : Nat), Vals xs its ∧ s.heap.get? p = some { cls := .type "list", data := .seq its.toArray n } ∧ xs.length ≤ sizeLine := by
  obtain ⟨z, its, n, r, e⟩ := I.hok p _ h
  exact ⟨its, n, r, e, z⟩
/-- the list at p is written by an update of its object -/
theorem Inv.lstUpd {pins : List (Addr × Obj)} {σ : St} {H : Hp} {s : Shared} {p : Addr} {xs ys : List V} {its its' : List Value} {n n' : Nat} {f : Obj → Obj} (I : Inv X pins σ H s) (h : H p = some (.lst xs))
    (ho : s.heap.get? p = some { cls := .type "list", data := .seq its.toArray n }) (hf : f { cls := .type "list", data := .seq its.toArray n } = { cls := .type "list", data := .seq its'.toArray n' }) (r : Vals ys its') (hz : ys.length ≤ sizeLine) (t : Nat) :
    Inv X pins σ (upd H p (.lst ys)) { s with heap := s.heap.update p f, toks := t } := by
  have e : (s.heap.update p f).get? p = some { cls := .type "list", data := .seq its'.toArray n' } := by
    rw [Heap.get?_update_self f ho (by rw [hf] <;> rfl), hf]
  refine I.write (x := p) (e := p) (by rw [h]; trivial) (.inl rfl) (fun b u hb q => (Heap.get?_update_other _ _ (Ne.symm hb)).trans q) ⟨_, e⟩ ?_
  exact ⟨hz, its', n', r, e⟩
def rSetL : V → V → V → Hp → (Hp → Prop) → Prop := fun o i v H Q => ∃ p xs k j, o = .ref p ∧ i = .int k ∧ H p = some (.lst xs) ∧ ixN xs.length k = some j ∧ Q (upd H p (.lst (xs.set j v)))
theorem set_list : PSet X rSetL := by
  intro pins s σ H o i v ov iv u Q I ro ri rv h
  obtain ⟨p, xs, k, j, rfl, rfl, hp, hj, q⟩ := h
  cases ro
  obtain ⟨t, rfl⟩ := ri
  obtain ⟨its, n, r, ho, hz⟩ := I.lst hp
  obtain ⟨h1, h2, h3, h4⟩ := ixN_seq hj
  have hl := r.length
  have hn := line63
  have I' : Inv X pins σ (upd H p (.lst (xs.set j v))) { s with heap := s.heap.update p (Obj.mapSeq (·.setIfInBounds j u)) } :=
    I.lstUpd hp ho (mapSeq_set its n j u) (r.set rv j) (by rw [List.length_set]; exact hz) s.toks
  by_cases h0 : 0 ≤ k
  · have hk : k.toNat = j := by
      rw [seqIndex_of h0 h4] at h1
      exact Option.some.inj h1
    exact PySem.W.ki_setAt ho h0 (by omega) (by rw [List.size_toArray, ← hl]; exact h4) (by rw [hk]; exact ⟨_, I', q⟩)
  · have hk : (k + (its.toArray.size : Int)).toNat = j := by
      rw [seqIndex_neg (by omega) h3] at h1
      rw [List.size_toArray, ← hl]
      exact Option.some.inj h1
    exact PySem.W.ki_setBack ho (by omega) (by rw [List.size_toArray, ← hl]; exact h3) (by omega) (by rw [hk]; exact ⟨_, I', q⟩)

/-! ### slices -/
theorem slice_bounds (lo hi : Option Int) (n : Nat) : (sliceBounds lo hi none n).1 = ((HT.sIx n 0 lo : Nat) : Int) ∧ (sliceBounds lo hi none n).2.1 = ((HT.sIx n n hi : Nat) : Int) ∧ (sliceBounds lo hi none n).2.2 = 1 := by
  refine ⟨?_, ?_, rfl⟩
  · cases lo with
    | none => simp [sliceBounds, HT.sIx]
    | some i =>
      simp only [sliceBounds, HT.sIx, Option.getD_none, show (1 : Int) > 0 by decide, if_true]
      by_cases h : i < 0
      · simp only [h, if_true] <;> omega
      · simp only [h, if_false] <;> omega
  · cases hi with
    | none => simp [sliceBounds, HT.sIx]
    | some i =>
      simp only [sliceBounds, HT.sIx, Option.getD_none, show (1 : Int) > 0 by decide, if_true]
      by_cases h : i < 0
      · simp only [h, if_true] <;> omega
      · simp only [h, if_false] <;> omega
theorem slicePick_cut (its : List Value) (lo hi : Option Int) : slicePick its.toArray lo hi none = ((its.drop (HT.sIx its.length 0 lo)).take (HT.sIx its.length its.length hi - HT.sIx its.length 0 lo)).toArray := by
  obtain ⟨h1, h2, h3⟩ := slice_bounds lo hi its.toArray.size
  unfold slicePick
  rw [h1, h2, h3]
  simp only [sliceRange_one, pick_run, List.size_toArray] <;> rfl
/-- xs[lo:hi] of a list: a new list -/
def rSlL (K : PySem.W.Frag) : V → Option Int → Option Int → Hp → VK → Prop := fun x lo hi H Q => ∃ a xs, x = .ref a ∧ SqL K H a xs ∧ ∀ p, H p = none → Q (.ref p) (upd H p (.lst (cutV xs lo hi)))
theorem sl_list : SlR X (rSlL X.K) := by
  intro pins s σ H x v vl vu lo hi sl Q I rx hs pl pu h
  obtain ⟨a, xs, rfl, hx, q⟩ := h
  cases rx
  obtain ⟨its, r, ht, hz⟩ := I.list hx
  have hlen := r.length
  refine ⟨"list", _, slot_list_getitem.lookup, ht.isList.typeIs, ?_⟩
  refine wpAny_getItem_list_slice ht.isList hs pl pu .none (by simp) ?_ (by rw [List.size_toArray] <;> omega)
  rw [slicePick_cut, ← hlen]
  refine ⟨.ref s.heap.objs.size, _, I.laid (t' := s.toks) (o := .lst (cutV xs lo hi)) (fun b ob q => Heap.get?_push_of_some _ q) (Nat.le_refl _) ?_, rfl, q _ (I.hok.fresh (Nat.le_refl _))⟩
  exact ⟨Nat.le_trans (cutV_length xs lo hi) hz, _, 0, (r.drop (HT.sIx xs.length 0 lo)).take (HT.sIx xs.length xs.length hi - HT.sIx xs.length 0 lo), Heap.get?_push_size _ rfl⟩

/-! ### in, not in: flat items -/
/-! ### len, list(x), tuple(x) of any list or tuple that is read -/
theorem call_len_seq : CallR X (.builtin "len") (fun xs H Q => ∃ p ys, xs = [.ref p] ∧ (SqL X.K H p ys ∨ SqT X.K H p ys) ∧ Q (.int ys.length) H) := by
  intro pins s σ H xs us Q I r h
  obtain ⟨p, ys, rfl, hq, q⟩ := h
  obtain ⟨u, rfl, rx⟩ := vals1 r
  cases rx
  have hn := line63
  rcases hq with hq | hq
  · obtain ⟨its, r', pl, hz⟩ := I.list hq
    have hlen := r'.length
    exact Calls.call_len_list pl.isList (by simp only [List.size_toArray] <;> omega) ⟨.int ys.length, H, I.tok _, ⟨s.toks + 1, by rw [List.size_toArray, hlen]⟩, q⟩
  · obtain ⟨its, r', pl, hz⟩ := I.tuple hq
    have hlen := r'.length
    exact len_tuple pl (by simp only [List.size_toArray] <;> omega) ⟨.int ys.length, H, I.tok _, ⟨s.toks + 1, by rw [List.size_toArray, hlen]⟩, q⟩
theorem call_list_of : CallR X (.type "list") (fun xs H Q => ∃ p ys, xs = [.ref p] ∧ (SqL X.K H p ys ∨ SqT X.K H p ys) ∧ ∀ l, H l = none → Q (.ref l) (upd H l (.lst ys))) := by
  intro pins s σ H xs us Q I r h
  obtain ⟨p, ys, rfl, hq, q⟩ := h
  obtain ⟨u, rfl, rx⟩ := vals1 r
  cases rx
  have fin : ∀ (its : List Value), Vals ys its → ys.length ≤ sizeLine → ∀ (h' : Heap) (c' : Nat), (∀ b o', s.heap.get? b = some o' → h'.get? b = some o') →
      h'.get? s.heap.objs.size = some { cls := .type "list", dict := none, data := .seq its.toArray c', slots := #[] } → EP X pins σ Q (.ref s.heap.objs.size) { s with heap := h' } := fun its r' hz h' c' kp e =>
    ⟨.ref s.heap.objs.size, _, I.laid (t' := s.toks) kp (Nat.le_refl _) (show ObjOk X.prog X.w _ h' _ (.lst ys) from ⟨hz, its, c', r', e⟩), rfl, q _ (I.hok.fresh (Nat.le_refl _))⟩
  rcases hq with hq | hq
  · obtain ⟨its, r', pl, hz⟩ := I.list hq
    have hlen := r'.length
    obtain ⟨o, ho, hc, n, hd⟩ := pl.isList
    exact call_list_seq p (.inl rfl) ho hc hd (fun h' c' kp e => fin its r' hz h' c' kp e) (by simp only [List.size_toArray] <;> omega)
  · obtain ⟨its, r', pl, hz⟩ := I.tuple hq
    have hlen := r'.length
    obtain ⟨o, ho, hc, n, hd⟩ := pl
    exact call_list_seq p (.inr rfl) ho hc hd (fun h' c' kp e => fin its r' hz h' c' kp e) (by simp only [List.size_toArray] <;> omega)
/-! ### the call of a builtin's method: o.m(..) -/
/-- the value is of that builtin type -/
def tyV (K : PySem.W.Frag) (T : String) (x : V) (H : Hp) : Prop := match x with
  | .str _ => T = "str"
  | .int _ => T = "int"
  | .ref p => (T = "list" ∧ ∃ xs, SqL K H p xs) ∨ (T = "tuple" ∧ ∃ o, K.lookup p = some o ∧ o.cls = .type "tuple" ∧ o.dict = none) ∨
      (T = "dict" ∧ ((∃ kvs, H p = some (.dK kvs)) ∨ ∃ kvs, H p = some (.dT kvs))) ∨ (T = "set" ∧ ∃ S n, H p = some (.set S n))
  | _ => False
theorem tyV_is {pins : List (Addr × Obj)} {σ : St} {H : Hp} {s : Shared} {T : String} {x : V} {v : Value} (I : Inv X pins σ H s) (r : RelV x v) (ty : tyV X.K T x H) :
    s.TypeIs v T ∧ ∀ a, v = .ref a → ∃ ob, s.heap.get? a = some ob ∧ ob.dict = none := by
  cases x with
  | str z =>
    obtain ⟨t, rfl⟩ := r
    cases (show T = "str" from ty)
    exact ⟨typeIs_str s z t, fun _ e => nomatch e⟩
  | int i =>
    obtain ⟨t, rfl⟩ := r
    cases (show T = "int" from ty)
    exact ⟨typeIs_int s i t, fun _ e => nomatch e⟩
  | ref p =>
    cases r
    rcases ty with ⟨rfl, xs, hq⟩ | ⟨rfl, o, hk, hc, hd⟩ | ⟨rfl, hk⟩ | ⟨rfl, S, n, hk⟩
    · obtain ⟨its, _, pl, _⟩ := I.list hq
      refine ⟨pl.isList.typeIs, fun a e => ?_⟩
      cases e
      obtain ⟨o, n, e, c, hd, _⟩ := pl
      exact ⟨o, e, hd⟩
    · refine ⟨⟨o, I.kIn p o hk, hc⟩, fun a e => ?_⟩
      cases e
      exact ⟨o, I.kIn _ o hk, hd⟩
    · have z : ∃ o, s.heap.get? p = some o ∧ o.ExactDict := by
        rcases hk with ⟨kvs, hk⟩ | ⟨kvs, hk⟩
        · obtain ⟨_, _, _, _, o, _, _, e, ex, _⟩ := I.hok p _ hk
          exact ⟨o, e, ex⟩
        · obtain ⟨_, _, _, _, o, _, _, e, ex, _⟩ := I.hok p _ hk
          exact ⟨o, e, ex⟩
      obtain ⟨o, e, ex⟩ := z
      refine ⟨⟨o, e, ex.1⟩, fun a e2 => ?_⟩
      cases e2
      exact ⟨o, e, ex.2.1⟩
    · obtain ⟨o, _, _, _, e, ex, _⟩ := I.hok p _ hk
      refine ⟨⟨o, e, ex.1⟩, fun a e2 => ?_⟩
      cases e2
      exact ⟨o, e, ex.2.1⟩
  | _ => exact False.elim ty
def tBM0 (K : PySem.W.Frag) (T : String) (r : V → List V → Hp → VK → Prop) (to : TE) : TE := fun σ H Q => to σ H fun x H1 => tyV K T x H1 ∧ r x [] H1 Q
def tBM (K : PySem.W.Frag) (T : String) (r : V → List V → Hp → VK → Prop) (to : TE) (t : TA) : TE := fun σ H Q => to σ H fun x H1 => tyV K T x H1 ∧ t σ H1 fun xs H2 => r x xs H2 Q
variable {o e : Expr} {es : List Expr} {to : TE} {t : TA} {name : Str} {apos cpos : Pos} {T id : String} {r : V → List V → Hp → VK → Prop}
theorem pe_bm0 (pa : PlainAttrs T) (slot : Slot T name id) (hty : typeOf (.builtin id) = pure (.type "method_descriptor")) (hm : MtR X id r) (ho : PE X o to)
    (hbase : attributeBase o name X.env (eval o X.env) = eval o X.env := by rfl) (hline : (apos.endLine == cpos.line) = true := by rfl) : PE X (.Call (.Attribute o name apos) [] [] cpos) (tBM0 X.K T r to) := by
  intro pins s σ H Q I h
  refine wpAny_Call_method0_late hbase hline (thn (ho pins s σ H _ I h) fun v s1 ⟨x, H1, I1, r1, ty, q1⟩ => ?_)
  obtain ⟨h1, h2⟩ := tyV_is I1 r1 ty
  exact ⟨T, id, pa, slot, hty, h1, h2, Calls.callWith_builtin rfl (PySem.evalArgs_none (hm pins s1 σ H1 x [] v [] Q I1 r1 .nil q1))⟩
theorem pe_bm (pa : PlainAttrs T) (slot : Slot T name id) (hty : typeOf (.builtin id) = pure (.type "method_descriptor")) (hm : MtR X id r) (ho : PE X o to) (ha : PA X (e :: es) t)
    (hbase : attributeBase o name X.env (eval o X.env) = eval o X.env := by rfl)
    (hfew : ((backTo cpos (starEach (e :: es) X.env)).all (fun x => !x.1) && (backToKw cpos (keywordEach [] X.env)).all (fun x => x.1.isSome)
      && decide ((e :: es).length + ([] : List Keyword).length + (if ([] : List Keyword).isEmpty then 0 else 1) < 30)) = true := by rfl)
    (hline : (apos.endLine == cpos.line) = true := by rfl) (hs : starEach (e :: es) X.env = (false, eval e X.env) :: starEach es X.env := by rfl) (hplain : (backTo cpos (starEach es X.env)).any (·.1) = false := by rfl) :
    PE X (.Call (.Attribute o name apos) (e :: es) [] cpos) (tBM X.K T r to t) := by
  intro pins s σ H Q I h
  refine wpAny_Call_method_late hbase hfew hline rfl (thn (ho pins s σ H _ I h) fun v s1 ⟨x, H1, I1, r1, ty, q1⟩ => ?_)
  obtain ⟨h1, h2⟩ := tyV_is I1 r1 ty
  refine ⟨T, id, pa, slot, hty, h1, h2, ?_⟩
  have hA := ha cpos pins s1 σ H1 _ I1 q1
  rw [hs] at hA ⊢
  refine Calls.callWith_builtin (by show (false || (backTo cpos (starEach es X.env)).any (·.1)) = false; rw [hplain] <;> rfl) (Calls.evalArgs_plain ?_)
  exact thn hA fun us s2 ⟨vs, H2, I2, r2, q2⟩ => hm pins s2 σ H2 x vs v us Q I2 r1 r2 q2
/- xs.append(e), list.index on a module's tuple .. are MtR facts of 06m -/
end
end L2

namespace L2
open PySem PySem.Spec PyProof.Rows

def MtM (X : Cx) (id : String) (r : V → List V → Hp → VK → Prop) : Prop :=
  ∀ (pins : List (Addr × Obj)) (s : Shared) (σ : St) (H : Hp) (x : V) (xs : List V) (v : Value) (us : List Value) (Q : VK), Inv X pins σ H s → RelV x v → Vals xs us → r x xs H Q →
    wpAny (model X.prog X.w) X.A (call (.builtin id) (v :: us)) (EP X pins σ Q) X.xe s

/-! ### lists of values -/
theorem Vals.one : ∀ {x : V} {us : List Value}, Vals [x] us → ∃ u, us = [u] ∧ RelV x u
  | _, _, .cons r .nil => ⟨_, rfl, r⟩
theorem Vals.zero : ∀ {us : List Value}, Vals [] us → us = []
  | _, .nil => rfl
section
variable {X : Cx} {pins : List (Addr × Obj)} {σ : St} {H : Hp} {s : Shared} {l b : Addr} {xs ys zs : List V}

/-! ### the two steps: a tracked list is rewritten, a new list is laid -/
theorem Inv.lset {its its' : List Value} {n : Nat} {f : Array Value → Array Value} {t' : Nat} (I : Inv X pins σ H s) (hH : H l = some (.lst xs))
    (e : s.heap.get? l = some { cls := .type "list", data := .seq its.toArray n }) (hf : f its.toArray = its'.toArray) (hv : Vals ys its') (hz : ys.length ≤ sizeLine) :
    Inv X pins σ (upd H l (.lst ys)) { s with heap := s.heap.update l (Obj.mapSeq f), toks := t' } := by
  have q := PySem.IsL.update e f
  rw [hf] at q
  refine I.write (x := l) (e := l) (by rw [hH]; exact trivial) (.inl rfl) (fun b' u hb hu => (Heap.get?_update_other s.heap (Obj.mapSeq f) (Ne.symm hb)).trans hu) ⟨_, q⟩ ?_
  exact ⟨hz, its', _, hv, q⟩
theorem Inv.lnew {its : List Value} {t' : Nat} (I : Inv X pins σ H s) (hv : Vals ys its) (hz : ys.length ≤ sizeLine) :
    Inv X pins σ (upd H s.heap.objs.size (.lst ys)) { s with heap := s.heap.push { cls := .type "list", data := .seq its.toArray }, toks := t' } :=
  I.laid (fun _ _ q => Heap.get?_push_of_some _ q) (Nat.le_refl _) ⟨hz, its, 0, hv, Heap.get?_push_size _ rfl⟩
theorem Inv.fresh (I : Inv X pins σ H s) : H s.heap.objs.size = none := I.hok.fresh (Nat.le_refl _)
theorem Inv.lstM (I : Inv X pins σ H s) (hH : H l = some (.lst xs)) : xs.length ≤ sizeLine ∧ ∃ (its : List Value) (n : Nat), Vals xs its ∧ xs.length = its.length ∧ s.heap.get? l = some { cls := .type "list", data := .seq its.toArray n } := by
  obtain ⟨z, its, n, r, e⟩ := I.hok l _ hH
  exact ⟨z, its, n, r, r.length, e⟩

theorem notLongL {n : Nat} (h : n ≤ sizeLine) : Builtin.List.listTooLong n = false := by
  unfold Builtin.List.listTooLong
  exact decide_eq_false (by omega)
end

section
variable {X : Cx}

/-! ### methods -/
def rAppend : V → List V → Hp → VK → Prop := fun x vs H Q => ∃ l xs y, x = .ref l ∧ vs = [y] ∧ H l = some (.lst xs) ∧ xs.length < sizeLine ∧ Q .non (upd H l (.lst (xs ++ [y])))
theorem mt_append : MtM X "list.append" rAppend := by
  intro pins s σ H x vs v us Q I rx rv h
  obtain ⟨l, xs, y, rfl, rfl, hH, hz, q⟩ := h
  cases rx
  obtain ⟨u, rfl, ru⟩ := rv.one
  obtain ⟨z, its, n, r, hl, e⟩ := I.lstM hH
  refine call_meets F.slot_list_append ⟨_, e, rfl⟩ F.entry_list_append (F.args_list_append_2 _ _) (PySem.list_append l its.toArray n u (by rw [List.size_toArray]; omega)) ⟨e, ?_⟩
  refine ⟨.non, _, I.lset (its' := its ++ [u]) hH e (by simp) (r.append (.cons ru .nil)) ?_, rfl, q⟩
  rw [List.length_append, List.length_singleton]
  omega

def rExtend : V → List V → Hp → VK → Prop := fun x vs H Q => ∃ l b xs zs, x = .ref l ∧ vs = [.ref b] ∧ H l = some (.lst xs) ∧ H b = some (.lst zs) ∧ xs.length + zs.length ≤ sizeLine ∧ Q .non (upd H l (.lst (xs ++ zs)))
theorem mt_extend : MtM X "list.extend" rExtend := by
  intro pins s σ H x vs v us Q I rx rv h
  obtain ⟨l, b, xs, zs, rfl, rfl, hH, hB, hz, q⟩ := h
  cases rx
  obtain ⟨u, rfl, ru⟩ := rv.one
  cases ru
  obtain ⟨z, its, n, r, hl, e⟩ := I.lstM hH
  obtain ⟨z2, its2, n2, r2, hl2, e2⟩ := I.lstM hB
  have hsz : its.toArray.size + its2.toArray.size ≤ sizeLine := by rw [List.size_toArray, List.size_toArray]; omega
  have hlong : ¬ (!its.toArray.isEmpty && Builtin.List.listTooLong (its.toArray.size + its2.toArray.size)) = true := by
    rw [notLongL hsz, Bool.and_false]
    exact Bool.false_ne_true
  refine call_meets F.slot_list_extend ⟨_, e, rfl⟩ F.entry_list_extend (F.args_list_extend_2 _ _)
    (AutoSeq1.list_extend_list_list_0 l its.toArray n b its2.toArray n2 hlong (by rw [List.size_toArray]; omega) (by omega)) ⟨e, e2, ?_⟩
  refine ⟨.non, _, I.lset (its' := its ++ its2) hH e (by simp) (r.append r2) ?_, rfl, q⟩
  rw [List.length_append]
  omega

def rClear : V → List V → Hp → VK → Prop := fun x vs H Q => ∃ l xs, x = .ref l ∧ vs = [] ∧ H l = some (.lst xs) ∧ Q .non (upd H l (.lst []))
theorem mt_clear : MtM X "list.clear" rClear := by
  intro pins s σ H x vs v us Q I rx rv h
  obtain ⟨l, xs, rfl, rfl, hH, q⟩ := h
  cases rx
  have hus := rv.zero
  subst hus
  obtain ⟨z, its, n, r, hl, e⟩ := I.lstM hH
  refine call_meets F.slot_list_clear ⟨_, e, rfl⟩ F.entry_list_clear (F.args_list_clear_1 _) (AutoSeq1.list_clear_list_0 l its.toArray n (by rw [List.size_toArray]; omega)) ⟨e, ?_⟩
  exact ⟨.non, _, I.lset (its' := []) (ys := []) hH e rfl .nil (Nat.zero_le _), rfl, q⟩

/-! ### list + list, list += list, list * int -/
def rCat : R2 := fun x y H Q => ∃ l b xs zs, x = .ref l ∧ y = .ref b ∧ H l = some (.lst xs) ∧ H b = some (.lst zs) ∧ xs.length + zs.length ≤ sizeLine ∧ ∀ p, H p = none → Q (.ref p) (upd H p (.lst (xs ++ zs)))
theorem op_cat : OpR X (binaryOp .Add) rCat := by
  intro pins s σ H x y v u Q I rx ry h
  obtain ⟨l, b, xs, zs, rfl, rfl, hH, hB, hz, q⟩ := h
  cases rx
  cases ry
  obtain ⟨z, its, n, r, hl, e⟩ := I.lstM hH
  obtain ⟨z2, its2, n2, r2, hl2, e2⟩ := I.lstM hB
  refine PySem.P.add_list e e2 ?_ (by rw [List.size_toArray, List.size_toArray]; omega)
  have ea : its.toArray ++ its2.toArray = (its ++ its2).toArray := by simp
  rw [ea]
  exact ⟨.ref _, _, I.lnew (t' := s.toks) (r.append r2) (by rw [List.length_append]; omega), rfl, q _ I.fresh⟩
/-! ### del xs[i] -/
end

/-! ### xs[a:b] = ys -/
section
variable {prog : Program} {w : World} {A : Around} {E : Value → Shared → Prop} {s : Shared}
end

section
variable {X : Cx}
end
end L2

namespace L2
open PySem PySem.Spec PyProof.Rows

/-! ### lists of pairs as tables -/
section
variable {κ : Type} [DecidableEq κ]
end


/-! ### a tracked dict, its keys ints and texts or tuples of these -/
section
variable {P : Program} {w : World} {H : Hp} {h : Heap} {a : Addr}
end

section
variable {X : Cx} {pins : List (Addr × Obj)} {σ : St} {H : Hp} {s : Shared} {a : Addr} {y v : V} {u r : Value} {o : Option V} {A : Around} {E : Value → Shared → Prop}

end

section
variable {X : Cx} {pins : List (Addr × Obj)} {σ : St} {H : Hp} {s : Shared} {a : Addr} {kvs : List (Key × V)} {k : Key} {u : Value} {A : Around} {E : Value → Shared → Prop}
end


/-! ### readings and rules -/
section
variable {X : Cx} {o i e value : Expr} {pos pos' tpos : Pos} {td ty tv : TE}
end


/-! ### displays -/
section
variable {X : Cx} {pos : Pos}
end

/-! ### methods -/
section
variable {X : Cx} {pins : List (Addr × Obj)} {σ : St} {H : Hp} {s : Shared} {a : Addr} {y d : V} {u r : Value} {o : Option V} {A : Around} {E : Value → Shared → Prop}
end

section
variable {X : Cx} {o e f : Expr} {apos cpos : Pos} {td ty tx : TE}
end

/-! ### dict(d): a copy -/
section
variable {X : Cx} {pins : List (Addr × Obj)} {σ : St} {H : Hp} {s : Shared} {a : Addr} {kvs : List (Key × V)} {A : Around} {E : Value → Shared → Prop}
end


section
variable {X : Cx} {pins : List (Addr × Obj)} {σ : St} {H : Hp} {s : Shared} {a : Addr} {y : V} {u : Value} {A : Around} {E : Value → Shared → Prop}
end
end L2

namespace Att
open PySem PySem.W PySem.Calls PyProof.Rows

/-! ### the script -/
theorem ints_of_wellAll {P : Params} {h : Heap} : ∀ (ns : List Int) (vs : List Value), WellAll P h vs (ns.map WData.int) → IntsAre vs ns := by
  intro ns
  induction ns with
  | nil =>
    intro vs w
    rw [List.map_nil] at w
    cases w
    exact .nil
  | cons n ns ih =>
    intro vs w
    rw [List.map_cons] at w
    cases w with
    | cons a b =>
      cases a
      exact .cons _ _ (ih _ b)

theorem script_of {l : OpenLaw} {n : Nat} (hn : l.most = some n) {P : Params} {h : Heap} {args : List WData} {vals : List Value}
    (hpre : l.row.toRowW.claim.pre args = true) (hwl : WellAll P h vals args) :
    ∃ a vs ns, vals = [Value.ref a] ∧ args = [WData.list (ns.map WData.int)] ∧ h.get? a = some { cls := .type "list", data := .seq vs.toArray } ∧ IntsAre vs ns ∧ ns.length ≤ n := by
  have hsh : WShape.hasAll [] args [.list .int] = true := (pre_splitW hpre).1
  have hc : l.pre.holds [] { args := args } = true := (pre_splitW hpre).2
  obtain ⟨d, r, rfl, h1, h2⟩ := hasAllW_cons hsh
  obtain rfl := hasAllW_nil h2
  obtain ⟨xs, rfl, h3⟩ := hasW_list h1
  obtain ⟨ns, rfl⟩ := items_int h3
  have hlen : ns.length ≤ n := by
    unfold OpenLaw.pre at hc
    have h4 : (WTm.not (.lt (.lit (.int (n : Int))) (.len (.arg 0)))).holds [] { args := [.list (ns.map .int)] } = true := by
      have h4 := (holds_andW hc).1
      rw [hn] at h4
      exact h4
    have h5 := condW_of h4 (w_not (w_lt w_lit (w_len_list (w_arg rfl))))
    rw [List.length_map] at h5
    refine Nat.le_of_not_lt fun q => ?_
    have q' : (n : Int) < ((ns.length : Nat) : Int) := by omega
    first
      | (rw [decide_eq_true q'] at h5; exact absurd h5 (by decide))
      | (simp at h5; omega)
  cases hwl with
  | cons w1 w2 =>
    cases w2
    cases w1 with
    | list ho hall => exact ⟨_, _, ns, rfl, rfl, ho, ints_of_wellAll ns _ hall, hlen⟩

theorem post_true (l : OpenLaw) (args : List WData) : l.row.toRowW.claim.post args (.bool true) args = true :=
  postW_of (r := l.row.toRowW) (X := (true == true))
    (show WShape.has [] (.bool true) .bool = true by first | rfl | decide | simp [WShape.has, WShape.arms, WShape.armsAll])
    (show (WTm.eq .res (.lit (.bool true))).value [] { args := args, res := some (.bool true), after := args } = some (.bool (true == true)) from w_eq_bool (w_res rfl) w_lit) rfl

/-! ### the attachment: holds_open's last premise (the goal 'hc' behind k_head) from a wpAny of the law's body -/
/-- the same from a codeAny of the CALL (for a layer whose function contracts speak of calls) -/
theorem attach_call {l : OpenLaw} {n : Nat} {q : Program} {loose : List Str} {XP : (Str → Option Value) → Heap → Prop} {YP : World → Heap → Prop} {d : DefRec}
    (hn : l.most = some n) (hdf : d.params.defaults = [])
    (call : ∀ (w : World) (s₀ s₁ : Shared) (mg mb : Str → Option Value) (fa : Addr) (o : Obj) (pm cd doc : Value) (a : Addr) (vs : List Value) (ns : List Int),
      Ground q loose [] XP w s₀ mg mb s₁.heap → YP w s₁.heap →
      s₁.heap.get? fa = some o → o.data = .func (docDef d.name d.params d.body d.scope pm cd doc) → s₁.heap.CodeRec cd d.name → mg d.name = some (.ref fa) →
      s₁.heap.get? a = some { cls := .type "list", data := .seq vs.toArray } → IntsAre vs ns → ns.length ≤ n → s₁.gens = #[] →
      codeAny (model l.prog w) callerA (.call (.ref fa) ⟨[.ref a], []⟩) (fun r s' => r = .ok (.ret (.bool true)) ∧ OldK s₁.heap s'.heap ∧ s'.os = s₁.os ∧ AllBare s'.gens) s₁) :
    WalkO q loose XP YP l.row.toRowW d [] (fun f vs => PySem.call f vs) := by
  intro w s₀ s₁ mg mb G Y fa o pm cd doc dV kV ho hd hcd hD hmg hg args vals as hpre hlay hrd hwl hlo
  obtain rfl : dV = .none := Dflts.none hD hdf
  obtain rfl : kV = .none := Dflts.noKw hD
  obtain ⟨a, vs, ns, rfl, rfl, hobj, hints, hlen⟩ := script_of hn hpre hwl
  refine enter_call (codeAny_mono (call w s₀ s₁ mg mb fa o pm cd doc a vs ns G Y ho (fd_plain hd) hcd hmg hobj hints hlen hg) fun r s' hq => ?_)
  obtain ⟨rfl, h2, h3, h4⟩ := hq
  exact ⟨.inl ⟨.bool true, .bool true, [], rfl, fun _ => rfl, .bool true, post_true l _, fun _ => ⟨List.Pairwise.nil, fun _ hm => (nomatch hm)⟩⟩, h2, h3, h4⟩

/-! ### rules over ANY heap (no ledger) from facts about the written part K: the library's own take a ledger (News) for what they write -/
section
variable {prog : Program} {w : World} {A : Around} {E : Value → Shared → Prop} {s : Shared} {K : Frag}

/-! the whole heap as the ledger: makes every rule that writes through a ledger a rule over any heap -/
end
end Att

namespace L2
open PySem PySem.Spec PyProof.Rows

theorem vals_ints : ∀ {vs : List Value} {ns : List Int}, IntsAre vs ns → Vals (ns.map V.int) vs
  | _, _, .nil => .nil
  | _, _, .cons n t h => .cons ⟨t, rfl⟩ (vals_ints h)

/-- nothing is tracked but the script, known to the object (or it is an object of the module) -/
def Only (H : Hp) : Prop := ∀ b, H b = none ∨ ∃ o xs, H b = some (.frz o (.lst xs))

/-- THE HEAD: the law's promise, at the heap behind the top. F, the promise of the law's def, may use that base is part of the heap (so K.In base, base.Ns mainGlobals mg stand in Mod) -/
theorem law_call {P : Program} {w : World} {K : PySem.W.Frag} {mg mb : Str → Option Value} {CX : CXT} {k : Nat} {fa a : Addr} {fd : FuncData} {x : Str} {sp : Sp} {s₁ : Shared} {vs : List Value} {ns : List Int}
    (KX : K.In s₁.heap) (hns : s₁.heap.Ns mainGlobals mg) (hb : s₁.heap.Ns builtinsNs mb) (hbb : ∀ x : Str, x ≠ "__name__" → mb x = bootBuiltins x) (hlim : s₁.heap.NoLimit) (hg : s₁.gens = #[])
    (ha : s₁.heap.get? a = some { cls := .type "list", data := .seq vs.toArray }) (hi : IntsAre vs ns) (hl : ns.length ≤ sizeLine) (hr : Room k callerA)
    (F : ∀ base : Heap, K.In base → base.Ns mainGlobals mg → FnOk P w K mg base CX k fa fd [x] sp) (hbind : ∀ (s : Shared) (u : Value), BindsTo s fd ⟨[u], []⟩ [(x, u)])
    (hsp : ∀ H : Hp, Only H → SqL K H a (ns.map V.int) → sp [.ref a] H (fun v _ => v = .bl true) fun _ _ _ => False)
    (hCX : ∀ H e s', CX [] H s₁ (fun _ _ _ => False) e s' → False) :
    codeAny (model P w) callerA (.call (.ref fa) ⟨[.ref a], []⟩) (fun r s' => r = .ok (.ret (.bool true)) ∧ OldK s₁.heap s'.heap ∧ s'.os = s₁.os ∧ AllBare s'.gens) s₁ := by
  have rv := vals_ints hi
  have lenV := hi.length
  -- from an abstract heap in which nothing but the script may be tracked
  have core : ∀ H : Hp, Only H → SqL K H a (ns.map V.int) → HOk P w H s₁.heap → (∀ b, H b ≠ none → b = a) → (H a ≠ none → K.lookup a = none) →
      codeAny (model P w) callerA (.call (.ref fa) ⟨[.ref a], []⟩) (fun r s' => r = .ok (.ret (.bool true)) ∧ OldK s₁.heap s'.heap ∧ s'.os = s₁.os ∧ AllBare s'.gens) s₁ := by
    intro H hO hS hok hA hK
    have base_of : ∀ {b : Addr} {o : Obj}, s₁.heap.get? b = some o → H b = none → (hidT s₁.heap H).get? b = some o := fun e n => hidT_get e n
    have noA : ∀ {b : Addr} {o : Obj} {es : Array DictEntry} {ep : Nat}, s₁.heap.get? b = some o → o.data = .dict es ep → H b = none := fun {b o es ep} e d => by
      cases q : H b with
      | none => rfl
      | some u =>
        have e' : b = a := hA b (by rw [q]; simp)
        subst e'
        rw [ha] at e; cases e
        have d' : Data.seq vs.toArray _ = Data.dict es ep := d
        cases d'
    have nsK : ∀ {b : Addr} {m : Str → Option Value}, s₁.heap.Ns b m → (hidT s₁.heap H).Ns b m := fun {b m} ⟨o, es, ep, e, d, r⟩ => ⟨o, es, ep, base_of e (noA e d), d, r⟩
    have hKb : K.In (hidT s₁.heap H) := fun b o e => base_of (KX b o e) (by
      cases q : H b with
      | none => rfl
      | some u =>
        have e' : b = a := hA b (by rw [q]; simp)
        subst e'
        rw [hK (by rw [q]; simp)] at e; cases e)
    have hM : Mod K mg (hidT s₁.heap H) := ⟨hKb, nsK hns, ⟨mb, nsK hb, hbb⟩, let ⟨mc, h1, h2⟩ := hlim; ⟨mc, nsK h1, h2⟩⟩
    have e0 : Env0 P w K mg (hidT s₁.heap H) callerA [] s₁ H := ⟨rfl, hM, fun b o e => of_hidT e, Nat.le_of_eq (hidT_size _ _), trivial, fun b hb => absurd (show b ∈ ([] : List Addr) from hb) (by simp), hok, .of_eq hg⟩
    refine codeAny_mono ((F _ hKb (nsK hns)).run callerA [] s₁ H ⟨[.ref a], []⟩ [.ref a] [.ref a] _ _ hr e0 (hbind s₁ (.ref a)) (.cons rfl .nil) (hsp H hO hS)) fun r s' h => ?_
    cases r with
    | error e => exact (hCX H e s' h).elim
    | ok fl =>
      cases fl with
      | next => exact False.elim h
      | brk => exact False.elim h
      | cont => exact False.elim h
      | ret u =>
        obtain ⟨v, H', os, bare, un, hok', r', q⟩ := h
        have q' : v = .bl true := q
        subst q'
        obtain rfl : u = Value.bool true := r'
        refine ⟨rfl, OldK.of_keep fun b o e => ?_, os, bare⟩
        cases q : H b with
        | none => exact un.keep b o e q (by intro z; exact absurd (show b ∈ ([] : List Addr) from z) (by simp)) (by simp)
        | some u =>
          rcases hO b with z | ⟨ob, xs, z⟩
          · rw [q] at z; cases z
          · have z2 := un.frzs b ob _ z
            obtain ⟨e1, _⟩ := hok b _ z
            obtain ⟨e2, _⟩ := hok' b _ z2
            rw [e] at e1; cases e1
            exact e2
  cases hk : K.lookup a with
  | some o =>
    -- the script is one of the module's own objects
    have e := KX a o hk
    rw [ha] at e
    cases e
    refine core (fun _ => none) (fun _ => .inl rfl) (.inr ⟨_, vs.toArray, _, hk, rfl, rfl, rfl, by rw [List.size_toArray, lenV]; exact hl, by simpa using rv⟩) (fun b u z => by have z' : (none : Option HO) = some u := z; cases z') (fun b z => absurd rfl z) fun z => absurd rfl z
  | none =>
    refine core (fun b => if b = a then some (.frz { cls := .type "list", data := .seq vs.toArray } (.lst (ns.map V.int))) else none) (fun b => ?_) (.inl (.inr ⟨{ cls := .type "list", data := .seq vs.toArray }, if_pos rfl⟩)) (fun b u z => ?_) (fun b z => ?_) fun _ => hk
    · by_cases hb : b = a
      · exact .inr ⟨_, _, if_pos hb⟩
      · exact .inl (if_neg hb)
    · by_cases hb : b = a
      · have z' := (if_pos hb).symm.trans z
        cases z'
        subst hb
        exact ⟨ha, by rw [List.length_map]; exact hl, vs, _, rv, ha⟩
      · have z' := (if_neg hb).symm.trans z
        cases z'
    · by_cases hb : b = a
      · exact hb
      · exact absurd (if_neg hb) z
end L2

namespace L2
open PySem PySem.Spec PyProof.Rows

/-- the goal that k_head leaves (case hc), from the law's promise. F gives the function object fd (K's own) once, then the promise over every base -/
theorem walk_of {l : PySem.W.OpenLaw} {n k : Nat} {q : Program} {loose : List Str} {XP : (Str → Option Value) → Heap → Prop} {YP : World → Heap → Prop} {d : DefRec} {K : Params → PySem.W.Frag} {CX : World → CXT} {sp : World → Sp} {x : Str}
    (hn : l.most = some n) (hn2 : n ≤ sizeLine) (hdf : d.params.defaults = []) (hr : Room k callerA)
    (hY : ∀ (w : World) (h : Heap), YP w h → (K w.params).In h)
    (F : ∀ (w : World) (mg : Str → Option Value) (fa : Addr) (h : Heap), (K w.params).In h → h.Ns mainGlobals mg → mg d.name = some (.ref fa) →
      ∃ fd : FuncData, (∀ (s : Shared) (u : Value), BindsTo s fd ⟨[u], []⟩ [(x, u)]) ∧
        ∀ base : Heap, (K w.params).In base → base.Ns mainGlobals mg → FnOk l.prog w (K w.params) mg base (CX w) k fa fd [x] (sp w))
    (hsp : ∀ (w : World) (H : Hp) (a : Addr) (ns : List Int), ns.length ≤ n → Only H → SqL (K w.params) H a (ns.map V.int) → sp w [.ref a] H (fun v _ => v = .bl true) fun _ _ _ => False)
    (hCX : ∀ (w : World) (H : Hp) (s : Shared) (e : Value) (s' : Shared), CX w [] H s (fun _ _ _ => False) e s' → False) :
    PySem.W.WalkO q loose XP YP l.row.toRowW d [] (fun f vs => PySem.call f vs) := by
  refine Att.attach_call hn hdf fun w s₀ s₁ mg mb fa o pm cd doc a vs ns G Y ho hd hcd hmg hobj hints hlen hg => ?_
  have KX := hY w _ Y
  obtain ⟨fd, hb, hF⟩ := F w mg fa _ KX G.T.g hmg
  exact law_call KX G.T.g G.T.b G.T.builtins G.T.nolimit hg hobj hints (Nat.le_trans hlen hn2) hr hF hb (fun H hO hS => hsp w H a ns hlen hO hS) fun H e s' => hCX w H s₁ e s'
end L2

/- THE LAST THEOREM (shape; LID, My.* are yours):
   My.Adr: a structure of the addresses that your layer names (classes, functions); My.Txt K t: a structure (Prop) of the equations over K;
   My.txt_mk : {K} {implicit addresses ..} (e1 : nsIn K mainGlobals "law" = some (some (.ref f))) (e2 : K.lookup f = some ⟨oc, od, .func (fnOf "law" "law" params body scope dV kV doc pm an cdv ct), sl⟩) (e3 : codeIn K cdv "law" = true) .. : ∃ t, My.Txt K t

set_option maxRecDepth 100000 in
set_option maxHeartbeats 0 in
theorem PySem.Challenge.cw_LID_holds : PySem.Challenge.rw_LID.Holds := by
  w_on; o_law; k_head; (case hw => w_witness2)
  k_fill
  refine L2.walk_of (l := PySem.Challenge.rw_LID) (n := 63) (k := 40) (x := "script") (CX := fun w => ..) (sp := fun _ => My.sp_law) rfl (by decide) rfl ⟨rfl, by decide, by decide⟩ (fun w h Y => PySem.W.kIn_of Y) ?F ?S ?C
  case F =>
    intro w mg fa h KX G hmg
    have T : ∃ t, My.Txt (L2.KOf KX) t := by
      dsimp only [L2.KOf]                          -- K must stand as «<heap const> w.params» for k_is
      refine' My.txt_mk ?e1 ?e2 ?e3 ..
      (case e1 => PySem.W.k_is)                    -- in the order: a name -> its address -> its object -> its parts
      (case e2 => PySem.W.k_is)
      ..
    obtain ⟨t, T⟩ := T
    have e0 := hmg.symm.trans (PySem.W.mg_of KX G T.law)
    cases e0                                       -- fa is the law's own address
    exact ⟨_, fun s u => .of_eq rfl, fun base kb nb => My.law_fn T kb nb⟩     -- if «.of_eq rfl» comes too early: refine' ⟨_, ?b, fun base kb nb => My.law_fn T kb nb⟩; exact fun s u => .of_eq rfl
  case S => exact fun w H a ns hl hO hS => ..
  case C => exact ..
(the tactic k_is has no namespace: write k_is) -/

/-! SHORT WORDS over the layer: a def of the text, its body, what a loop and a test want. -/
namespace L2
open PySem PySem.Spec PyProof.Rows

/-! ### the text by places -/
def defArgs (s : Stmt) : Arguments := match s with
  | .FunctionDef _ a _ _ _ _ _ _ _ _ => a
  | _ => { posonlyargs := [], args := [], vararg := none, kwonlyargs := [], kw_defaults := [], kwarg := none, defaults := [] }
def defBody (s : Stmt) : List Stmt := match s with
  | .FunctionDef _ _ b _ _ _ _ _ _ _ => b
  | _ => []
def defScope (s : Stmt) : Scope := match s with
  | .FunctionDef _ _ _ _ _ _ sc _ _ _ => sc
  | _ => { kind := .function, names := [], isGenerator := false, isCoroutine := false }

/-! ### no exception leaves a def -/
abbrev CX0 : CXT := fun _ _ _ _ _ _ => False
abbrev E0 : XK := fun _ _ _ => False
theorem pass0 {X : Cx} : Passes CX0 X E0 := fun _ _ _ _ _ _ _ h => h.elim

/-! ### a def (or method) of the text as it stands behind the top -/
section
variable {P : Program} {w : World} {K : PySem.W.Frag} {mg : Str → Option Value} {base : Heap}
end
theorem hu_of {A : Around} {k : Nat} (hr : Room k A) : A.units + 1 < cLine := Nat.lt_of_le_of_lt (Nat.add_le_add_left (by decide : 1 ≤ 64) _) hr.units
/-! ### expressions in short: the name that stands in the i-th slot -/
section
variable {X : Cx}
theorem pv (i : Nat) {x : Str} {pos : Pos} (hN : X.N[i]? = some x := by rfl) (hv : Vis X.env.scope x := by first | exact Or.inl rfl | exact Or.inr (Or.inl rfl) | exact Or.inr (Or.inr rfl)) (hd : (x == ("__debug__" : Str)) = false := by decide)
    (hcd : (x == ("__classdict__" : Str)) = false := by decide) : PE X (.Name x pos) (tVar i) := pe_var hN hv hd hcd
end

/-! ### tests -/
theorem iteF {A B : Prop} (h : B) : if false = true then A else B := by
  rw [if_neg Bool.false_ne_true]
  exact h
theorem iteT {A B : Prop} (h : A) : if true = true then A else B := by
  rw [if_pos rfl]
  exact h
/-! ### heaps -/
/-- all that was tracked is as it was -/
def Same (H H' : Hp) : Prop := ∀ b o, H b = some o → H' b = some o
theorem Same.refl (H : Hp) : Same H H := fun _ _ h => h
theorem Same.trans {H H1 H2 : Hp} (a : Same H H1) (b : Same H1 H2) : Same H H2 := fun c o h => b c o (a c o h)
theorem Same.free {H H' : Hp} (e : Same H H') {l : Addr} (h : H' l = Option.none) : H l = Option.none := by
  cases q : H l with
  | none => rfl
  | some o =>
    rw [e l o q] at h
    cases h
theorem Same.seq {K : PySem.W.Frag} {H H' : Hp} {a : Addr} {xs : List V} (e : Same H H') (h : SqL K H a xs) : SqL K H' a xs := by
  rcases h with (h | ⟨o, h⟩) | h
  · exact .inl (.inl (e _ _ h))
  · exact .inl (.inr ⟨o, e _ _ h⟩)
  · exact .inr h

end L2
set_option Elab.async false
set_option linter.all false
set_option maxRecDepth 100000
namespace L2
open PySem PySem.Spec PyProof.Rows
section
variable {X : Cx}
theorem op_mulB : OpR X (binaryOp .Mult) (rI (fun i j => IntMulOk i j) fun i j => .int (i * j)) := opI fun _ _ _ _ _ _ _ hc q => mul_int q hc
theorem op_fdivB : OpR X (binaryOp .FloorDiv) (rI (fun i j => j ≠ 0 ∧ Builtin.divisionGoesByPylong i j = false) fun i j => .int (i.fdiv j)) := opI fun _ _ _ _ _ _ _ hc q => floordiv_int hc.1 q (.inl hc.2)
theorem op_powB : OpR X (binaryOp .Pow) (rI (fun i j => 0 ≤ j ∧ (Builtin.Int.intBits i : Int) * j ≤ 2 ^ 27) fun i j => .int (i ^ j.toNat)) := opI fun _ _ _ _ _ _ _ hc q => pow_int hc.1 hc.2 q
theorem isi_int_int : CallR X (.builtin "isinstance") (fun xs H Q => ∃ i, xs = [.int i, .ty "int"] ∧ Q (.bl true) H) := by
  intro pins s σ H xs us Q I r h
  obtain ⟨i, rfl, q⟩ := h
  obtain ⟨u, w', rfl, ⟨t, rfl⟩, e2⟩ := vals2 r
  cases e2
  exact PySem.call_isinstance (PySem.isinstance_true (Tx := "int") PySem.F.isi_meta_int PySem.F.isi_self_int) ⟨rfl, ⟨.bl true, H, I, rfl, q⟩⟩
theorem isi_int_bool : CallR X (.builtin "isinstance") (fun xs H Q => ∃ i, xs = [.int i, .ty "bool"] ∧ Q (.bl false) H) := by
  intro pins s σ H xs us Q I r h
  obtain ⟨i, rfl, q⟩ := h
  obtain ⟨u, w', rfl, ⟨t, rfl⟩, e2⟩ := vals2 r
  cases e2
  exact PySem.call_isinstance (PySem.isinstance_false_int (T := "bool") (by decide) PySem.F.isi_meta_bool PySem.F.sub_int_bool) ⟨.bl false, H, I.tok _, rfl, q⟩
theorem isi_bl_bool : CallR X (.builtin "isinstance") (fun xs H Q => ∃ i, xs = [.bl i, .ty "bool"] ∧ Q (.bl true) H) := by
  intro pins s σ H xs us Q I r h
  obtain ⟨i, rfl, q⟩ := h
  obtain ⟨u, w', rfl, e1, e2⟩ := vals2 r
  cases e1
  cases e2
  exact PySem.call_isinstance (PySem.isinstance_true (Tx := "bool") PySem.F.isi_meta_bool PySem.F.isi_self_bool) ⟨rfl, ⟨.bl true, H, I, rfl, q⟩⟩
theorem isi_tup_tup : CallR X (.builtin "isinstance") (fun xs H Q => ∃ a ys, xs = [.ref a, .ty "tuple"] ∧ SqT X.K H a ys ∧ Q (.bl true) H) := by
  intro pins s σ H xs us Q I r h
  obtain ⟨a, ys, rfl, hs, q⟩ := h
  obtain ⟨u, w', rfl, e1, e2⟩ := vals2 r
  cases e1
  cases e2
  obtain ⟨its, _, p1, _⟩ := I.tuple hs
  exact PySem.call_isinstance (PySem.isinstance_true (Tx := "tuple") PySem.F.isi_meta_tuple PySem.F.isi_self_tuple) ⟨p1.typeIs, ⟨.bl true, H, I, rfl, q⟩⟩
end
end L2
set_option Elab.async false
set_option linter.all false
set_option maxRecDepth 100000
namespace Sw
open PySem
/-! ### sizes -/
def Bd (n : Nat) (x : Int) : Prop := x.natAbs < 2 ^ n
theorem Bd.mono {m n : Nat} {x : Int} (h : Bd m x) (e : m ≤ n) : Bd n x := Nat.lt_of_lt_of_le h (Nat.pow_le_pow_right (by decide) e)
theorem Bd.ok {m n : Nat} {x y : Int} (h : Bd m x) (g : Bd n y) (e : m + n ≤ 134217728 := by decide) : IntMulOk x y :=
  IntMulOk.of_le (intBits_le_iff.mpr h) (intBits_le_iff.mpr g) e
theorem Bd.div {n : Nat} {x y : Int} (h : Bd n y) (y0 : y ≠ 0) (e : n ≤ 9000 := by decide) : Builtin.divisionGoesByPylong x y = false := by
  refine PyProof.noPylong_of_log2 ((Nat.log2_lt (by omega)).mpr ?_)
  exact Nat.lt_of_lt_of_le h (Nat.pow_le_pow_right (by decide) e)
/-! ### divisors -/
def gcdI (a b : Int) : Int := ((Int.gcd a b : Nat) : Int)
theorem gcdI_nn (a b : Int) : 0 ≤ gcdI a b := Int.natCast_nonneg _
theorem gcdI_fmod {g l : Int} (hl : 0 < l) : gcdI l (g.fmod l) = gcdI g l := by
  unfold gcdI
  have e : g.fmod l = g - (g.fdiv l) * l := by rw [Int.fmod_def, Int.mul_comm]
  rw [e, Int.gcd_comm l, Int.gcd_sub_mul_right_left]
theorem gcdI_zero {g : Int} (h : 0 ≤ g) : gcdI g 0 = g := by
  unfold gcdI; rw [Int.gcd_zero_right]; omega
theorem gcdI_eq_zero {a b : Int} (h : gcdI a b = 0) : a = 0 ∧ b = 0 := by
  unfold gcdI at h
  exact Int.gcd_eq_zero_iff.mp (by omega)
theorem gcdI_dvd_l (a b : Int) : gcdI a b ∣ a := Int.gcd_dvd_left ..
theorem gcdI_dvd_r (a b : Int) : gcdI a b ∣ b := Int.gcd_dvd_right ..
theorem gcdI_cut {a b : Int} (h : gcdI a b ≠ 0) : gcdI (a.fdiv (gcdI a b)) (b.fdiv (gcdI a b)) = 1 := by
  have p : 0 < gcdI a b := by have := gcdI_nn a b; omega
  rw [Int.fdiv_eq_ediv_of_nonneg a (Int.le_of_lt p), Int.fdiv_eq_ediv_of_nonneg b (Int.le_of_lt p)]
  obtain ⟨x, hx⟩ := gcdI_dvd_l a b
  obtain ⟨y, hy⟩ := gcdI_dvd_r a b
  have e1 : a / gcdI a b = x := by
    conv => lhs; arg 1; rw [hx]
    exact Int.mul_ediv_cancel_left x h
  have e2 : b / gcdI a b = y := by
    conv => lhs; arg 1; rw [hy]
    exact Int.mul_ediv_cancel_left y h
  rw [e1, e2]
  have m : gcdI (gcdI a b * x) (gcdI a b * y) = gcdI a b * gcdI x y := by
    show ((Int.gcd _ _ : Nat) : Int) = _ * ((Int.gcd x y : Nat) : Int)
    rw [Int.gcd_mul_left, Int.natCast_mul]
    congr 1
  rw [← hx, ← hy] at m
  have := Int.eq_one_of_mul_eq_self_right h m.symm
  exact this
/-! ### fractions -/
end Sw
set_option Elab.async false
set_option linter.all false
set_option maxRecDepth 100000
namespace L2
open PySem
inductive Isi (K : PySem.W.Frag) (H : Hp) : V → String → Bool → Prop where
  | ii (i : Int) : Isi K H (.int i) "int" true
  | ib (i : Int) : Isi K H (.int i) "bool" false
  | bb (b : Bool) : Isi K H (.bl b) "bool" true
  | tt (a : Addr) (ys : List V) (h : SqT K H a ys) : Isi K H (.ref a) "tuple" true
theorem call_isi {X : Cx} : CallR X (.builtin "isinstance") (fun xs H Q => ∃ x T b, xs = [x, .ty T] ∧ Isi X.K H x T b ∧ Q (.bl b) H) := by
  intro pins s σ H xs us Q I r h
  obtain ⟨x, T, b, rfl, i, q⟩ := h
  cases i with
  | ii i => exact isi_int_int pins s σ H _ us Q I r ⟨i, rfl, q⟩
  | ib i => exact isi_int_bool pins s σ H _ us Q I r ⟨i, rfl, q⟩
  | bb i => exact isi_bl_bool pins s σ H _ us Q I r ⟨i, rfl, q⟩
  | tt a ys h => exact isi_tup_tup pins s σ H _ us Q I r ⟨a, ys, rfl, h, q⟩
end L2
namespace Sw
open PySem L2
theorem dT {p A B : Prop} [Decidable p] (h : p) (a : A) : if decide p = true then A else B := by rw [if_pos (decide_eq_true h)]; exact a
theorem dF {p A B : Prop} [Decidable p] (h : ¬ p) (b : B) : if decide p = true then A else B := by rw [if_neg (by simp [h])]; exact b
theorem d2 {p A B : Prop} [Decidable p] (h1 : p → A) (h2 : ¬ p → B) : if decide p = true then A else B := by
  by_cases h : p
  · exact dT h (h1 h)
  · exact dF h (h2 h)
theorem nT {p A B : Prop} [Decidable p] (h : ¬ p) (a : A) : if (!decide p) = true then A else B := by rw [if_pos (by simp [h])]; exact a
theorem nF {p A B : Prop} [Decidable p] (h : p) (b : B) : if (!decide p) = true then A else B := by rw [if_neg (by simp [h])]; exact b
theorem vi {a b : Int} (h : a = b) : V.int a = V.int b := by rw [h]
theorem vj {a b : Int} (h : V.int a = V.int b) : a = b := by cases h; rfl
theorem d2I {a b : Int} {A B : Prop} (h1 : a = b → A) (h2 : a ≠ b → B) : if decide (V.int a = V.int b) = true then A else B := d2 (fun h => h1 (vj h)) fun h => h2 fun e => h (vi e)
section
variable {X : Cx} {k j : Nat} {x : Str} {ps : List Str} {sp : Sp} {p pos : Pos} {e : Expr} {es : List Expr} {t : TA}
end
/-! ### promises -/
def spCell (K : PySem.W.Frag) : Sp := fun vs H Q _ => ∃ (a : Addr) (ns : List Int) (k : Int), vs = [.ref a, .int k] ∧ SqL K H a (ns.map V.int) ∧ 0 ≤ k ∧ ∀ v : Int, Q (.int v) H
def spWhole : Sp := fun vs H Q _ => ∃ v : Int, vs = [.int v] ∧ Q (.bl true) H
def spLaw (K : PySem.W.Frag) : Sp := fun vs H Q _ => ∃ (a : Addr) (ns : List Int), vs = [.ref a] ∧ SqL K H a (ns.map V.int) ∧ ns.length ≤ 63 ∧ ∀ H', Q (.bl true) H'
theorem cell_ok {ns : List Int} {k : Int} (h0 : 0 ≤ k) (h : k < (((ns.map V.int).length : Nat) : Int)) : ∃ v : Int, atI (ns.map V.int) k = some (.int v) := by
  rw [List.length_map] at h
  have hk : k.toNat < ns.length := by omega
  have ek : k = ((k.toNat : Nat) : Int) := by omega
  have q : atI (ns.map V.int) ((k.toNat : Nat) : Int) = some (.int ns[k.toNat]) := atI_nat (by rw [List.getElem?_map, List.getElem?_eq_getElem hk] <;> rfl)
  rw [← ek] at q
  exact ⟨_, q⟩
end Sw
set_option Elab.async false
set_option linter.all false
set_option maxRecDepth 100000
namespace Sw
open PySem L2
theorem cut {t u : TS} {D : Ends} {σ : L2.St} {H : Hp} (I : L2.St → Hp → Prop) (h1 : ∀ N : L2.St → Hp → Prop, (∀ σ H, I σ H → N σ H) → t { D with nx := N } σ H) (h2 : ∀ σ H, I σ H → u D σ H) : tSeq t u D σ H := h1 _ h2
theorem same_new {H : Hp} {p : Addr} (h : H p = none) (o : HO) : Same H (upd H p o) := fun b u q => by rw [upd_ne (ne_of_none q h)]; exact q
structure FrIn (K : PySem.W.Frag) (n : Nat) (H : Hp) (t : Addr) (p q : Int) : Prop where
  at_ : SqT K H t [.int p, .int q]
  pos : 0 < q
  bp : Bd n p
  bq : Bd n q
theorem FrIn.mono {K : PySem.W.Frag} {m n : Nat} {H : Hp} {t : Addr} {p q : Int} (h : FrIn K m H t p q) (e : m ≤ n) : FrIn K n H t p q := ⟨h.at_, h.pos, h.bp.mono e, h.bq.mono e⟩
def spDown (K : PySem.W.Frag) : Sp := fun vs H Q _ => ∃ (t : Addr) (p q : Int), vs = [.ref t] ∧ FrIn K 8000 H t p q ∧ Q (.int (p.fdiv q)) H
end Sw
set_option Elab.async false
set_option linter.all false
set_option maxRecDepth 100000
namespace Sw
open PySem L2
structure FunD (K : PySem.W.Frag) (x qual : Str) (st : Stmt) (dV : Value) (f : Addr) (fd : FuncData) : Prop where
  ex : ∃ (oc : Value) (od : Option Addr) (kV doc pm : Value) (an : Option Addr) (cdv ct : Value) (osl : Array (Option Value)),
    fd = PySem.W.fnOf x qual (defArgs st) (defBody st) (defScope st) dV kV doc pm an cdv ct ∧ K.lookup f = some ⟨oc, od, .func fd, osl⟩ ∧ PySem.W.codeIn K cdv qual = true
  kp : PySem.W.keepIn K (.ref f) = true
section
variable {P : Program} {w : World} {K : PySem.W.Frag} {mg : Str → Option Value} {base : Heap}
theorem FunD.ok {x qual : Str} {st : Stmt} {dV : Value} {f : Addr} {fd : FuncData} {N ps : List Str} {k : Nat} {sp : Sp} (F : FunD K x qual st dV f fd) (S : FnScope N ps (defScope st)) (len : ∀ vs H Q E, sp vs H Q E → vs.length = ps.length)
    (hbody : ∀ (cdv : Value) (A : Around) (outer : List Env) (s : Shared) (H : Hp) (vs : List V) (Q : VK) (E : XK), Room k (A.deeper (PyProof.Rows.envOfC qual (defScope st) s.heap.objs.size f cdv)) → sp vs H Q E →
      ∃ t, PSs (cxOf CX0 P w K mg base N qual (defScope st) f cdv A outer s H E).nox (defBody st) t ∧ t { nx := fun _ H' => Q .non H', rt := Q } (start N vs) H) : FnOk P w K mg base CX0 (k + 1) f fd ps sp := by
  obtain ⟨oc, od, kV, doc, pm, an, cdv, ct, osl, rfl, lk, hcd⟩ := F.ex
  refine fn_of lk hcd S len fun A outer s H vs Q E hr hsp => ?_
  obtain ⟨t, h, q⟩ := hbody cdv A outer s H vs Q E hr hsp
  exact ⟨t, h.nox, q⟩
theorem FunD.binds {x qual : Str} {st : Stmt} {T : Addr} {f : Addr} {fd : FuncData} {ps : List Str} {o : Obj} {items : Array Value} {n : Nat} {ds : List Value} (F : FunD K x qual st (.ref T) f fd) (ho : K.lookup T = some o) (hs : o.data = .seq items n)
    (h : ∀ (kV doc pm : Value) (an : Option Addr) (cdv ct : Value) (us : List Value), (us ++ ds).length = ps.length → ∃ k : Option (Array Value) → Sem (List (Str × Value)), bindArgs (PySem.W.fnOf x qual (defArgs st) (defBody st) (defScope st) (.ref T) kV doc pm an cdv ct) ⟨us, []⟩ = seqItems? (.ref T) >>= k ∧ k (some items) = pure (ps.zip (us ++ ds))) : Binds K fd ps ds := by
  obtain ⟨oc, od, kV, doc, pm, an, cdv, ct, osl, rfl, lk, hcd⟩ := F.ex
  intro s us KX hl
  obtain ⟨k, h1, h2⟩ := h kV doc pm an cdv ct us hl
  exact PySem.W.binds_K KX rfl ho hs h1 h2
theorem FunD.binds0 {x qual : Str} {st : Stmt} {dV : Value} {f : Addr} {fd : FuncData} {ps : List Str} (F : FunD K x qual st dV f fd)
    (h : ∀ (kV doc pm : Value) (an : Option Addr) (cdv ct : Value) (us : List Value), us.length = ps.length → bindArgs (PySem.W.fnOf x qual (defArgs st) (defBody st) (defScope st) dV kV doc pm an cdv ct) ⟨us, []⟩ = pure (ps.zip us)) : Binds K fd ps [] := by
  obtain ⟨oc, od, kV, doc, pm, an, cdv, ct, osl, rfl, lk, hcd⟩ := F.ex
  exact .all (h kV doc pm an cdv ct)
theorem funD_mk {x qual : Str} {st : Stmt} {f : Addr} {oc dV : Value} {od an : Option Addr} {osl : Array (Option Value)} {kV doc pm cdv ct : Value} (l : K.lookup f = some ⟨oc, od, .func (PySem.W.fnOf x qual (defArgs st) (defBody st) (defScope st) dV kV doc pm an cdv ct), osl⟩)
    (c : PySem.W.codeIn K cdv qual = true) (k : PySem.W.keepIn K (.ref f) = true) : FunD K x qual st dV f (PySem.W.fnOf x qual (defArgs st) (defBody st) (defScope st) dV kV doc pm an cdv ct) := ⟨⟨oc, od, kV, doc, pm, an, cdv, ct, osl, rfl, l, c⟩, k⟩
end
section
variable {X : Cx} {k j : Nat} {x : Str} {ps : List Str} {sp : Sp} {p pos : Pos} {e : Expr} {es : List Expr} {t : TA} {dvs : List V}
end
/-! ### the mathematics of sums -/
end Sw
set_option Elab.async false
set_option linter.all false
set_option maxRecDepth 100000
namespace XH
open PySem
/-! ### what a frame's note and the flight of an exception change -/
section
variable {M : Model} {A : Around} {E : Value → Shared → Prop} {s : Shared}
end
end XH
set_option Elab.async false
set_option linter.all false
set_option maxRecDepth 100000
namespace L2
open PySem PySem.Spec PyProof.Rows XH
/-! ### an exception behind a call, in flight: it and its notes are untracked, and were not there ahead of the call -/
section
variable {P : Program} {w : World} {H H' : Hp} {h h' h0 : Heap} {fs ch : List Addr} {a : Addr} {o : HO}
end
section
variable {P : Program} {w : World} {H H' : Hp} {s s' : Shared} {a L : Addr} {cls v : Value} {dx : Option Addr} {st : XSt} {env : Env} {outer : List Env} {base : Heap} {M : Model} {A : Around} {Z : Value → Shared → Prop} {Q : Unit → Shared → Prop}
end
section
variable {X : Cx} {k : Nat} {f C : Addr} {fd : FuncData} {ps : List Str} {sp : Sp} {dvs : List V} {ds : List Value} {E : St → XK} {x m : Str} {p pos apos : Pos} {e o : Expr} {es : List Expr} {ta : TE} {t : TA}
end
section
variable {P : Program} {w : World} {K : PySem.W.Frag} {mg : Str → Option Value} {base : Heap}
end
/-! ### try -/
/-- an exception that was caught or made, tracked -/
def excB (n : Bool) (a : Addr) (cls : Value) (dx : Option Addr) : HO := .ext fun h => ∃ ox vs, h.get? a = some ox ∧ ox.cls = cls ∧ ox.dict = dx ∧ ox.data = .fields vs ∧ vs[2]? = some .none ∧ (n = true → 1 < vs.size ∧ vs[1]? = some .none)
section
variable {X : Cx} {pins : List (Addr × Obj)} {σ : St} {H H' : Hp} {s s' : Shared}
end
section
variable {X : Cx} {body : List Stmt} {h₀ : ExceptHandler} {hs : List ExceptHandler} {pos : Pos} {th : TH}
end
end L2
set_option Elab.async false
set_option linter.all false
set_option maxRecDepth 100000
namespace L2
open PySem PySem.Spec PyProof.Rows XH
section
variable {prog : Program} {w : World} {A : Around} {E : Value → Shared → Prop} {K : PySem.W.Frag} {h : Heap} {g : Array GenState} {d : Drawn} {t : Nat} {os : OsState} {x C : Addr} {ox : Obj} {od : Option Obj} {name : Str}
end
end L2
set_option Elab.async false
set_option linter.all false
set_option maxRecDepth 100000
namespace L2
open PySem PySem.Spec PyProof.Rows XH
section
variable {prog : Program} {w : World} {A : Around} {E : Value → Shared → Prop} {K : PySem.W.Frag}
end
section
variable {X : Cx} {x n : Str} {np pos : Pos} {b0 : Stmt} {suite : List Stmt} {rest : List ExceptHandler} {i : Nat} {C' : Addr} {t : TS} {th : TH}
end
/-! ### raise -/
section
variable {X : Cx} {x : Str} {np cpos pos : Pos} {e₀ : Expr} {rest : List Expr} {C : Addr} {t : TA} {E : St → XK}
end
/-! ### isinstance of an exception -/
end L2
set_option Elab.async false
set_option linter.all false
set_option maxRecDepth 100000
namespace L2
open PySem PySem.Spec PyProof.Rows XH
/-! ### list comprehensions -/
abbrev Cx.block (X : Cx) (scope : Scope) (cl : List (Str × Addr)) (C : Addr) (N : List Str) (own : Str) (fp : List Addr) (s : Shared) (H : Hp) : Cx :=
  { X with env := compEnvC scope cl C X.env, N := N, s₀ := s, H₀ := H, outer := X.stack, stack := X.stack, ex := fp, fn := fun y => y == own, pn := [], xe := fun _ _ => False }
/-- what a comprehension's scope must have; ys: the names it takes from around, at the slots js there -/
structure CompOk (X : Cx) (scope : Scope) (cl : List (Str × Addr)) (own : Str) (ys : List Str) (js : List Nat) : Prop where
  clos : closureFor scope X.env = pure cl
  nocell : (scope.names.all fun p => !(p.2 == .cell)) = true
  kind : scope.kind = .function
  loc : (scope.names.all fun p => !(p.2 == .local) || scope.names.lookup p.1 == some .local) = true
  ownL : scope.names.lookup own = some .local
  sub : ∀ p ∈ cl, X.env.cells.lookup p.1 = some p.2
  has : ((relabel scope X.env).names.all fun p => !(p.2 == .cell || p.2 == .free) || (cl.lookup p.1).isSome) = true
  noown : cl.lookup own = none
  nd : (own :: ys).Nodup
  at_ : ∀ (i : Nat) (y : Str), ys[i]? = some y → ∃ j : Nat, js[i]? = some j ∧ X.N[j]? = some y ∧ (X.env.scope.names.lookup y = some .cell ∨ X.env.scope.names.lookup y = some .free) ∧ ((relabel scope X.env).names.lookup y = some .cell ∨ (relabel scope X.env).names.lookup y = some .free)
  len : js.length = ys.length
def freesOf (js : List Nat) (σ : St) : St := js.map fun j => (σ[j]?).getD none
def compR (js : List Nat) (te : TE) (σ : St) (Q : VK) : It → Hp → Prop := fun J H1 => ∀ p, H1 p = none → ∃ W : Nat → Nat → List V → Hp → Prop, (∃ m, W 0 m [] (upd H1 p (.lst []))) ∧
  ∀ i m ys H2, W i m ys H2 → H2 p = some (.lst ys) ∧ ((J.stop i H2 ∧ Q (.ref p) H2) ∨ (J.go i H2 ∧ ys.length < sizeLine ∧ ∀ x H3, J.yld i H2 x H3 → te (some x :: freesOf js σ) H3 fun y H4 => H4 p = some (.lst ys) ∧ ∃ m', m' < m ∧ W (i + 1) m' (ys ++ [y]) (upd H4 p (.lst (ys ++ [y])))))
def tComp (wi : TI) (js : List Nat) (te : TE) : TE := fun σ H Q => wi σ H (compR js te σ Q)
theorem lookup_all {α : Type} {f : Str × α → Bool} {x : Str} {a : α} : ∀ {l : List (Str × α)}, l.all f = true → l.lookup x = some a → f (x, a) = true := by
  intro l h e
  exact List.all_eq_true.mp h _ (PySem.mem_of_lookup e)
section
variable {prog : Program} {w : World} {A : Around} {R : Result → Shared → Prop} {s : Shared}
theorem compLoop_own {elt target iter : Expr} {scope : Scope} {pos : Pos} {it acc : Value} {env : Env} (I : Nat → Shared → Prop)
    (turn : ∀ n s, I n s → wpAny (model prog w) A (pyNext it) (fun r s1 => match r with
      | none => R (.ok .next) s1
      | some v => wpAny (model prog w) A (letOwnedTupleGo target it v) (fun _ s2 => wpAny (model prog w) A (assign target env v) (fun _ s3 => wpAny (model prog w) A (eval elt env) (fun x s4 =>
          wpAny (model prog w) A (call (.builtin "list.append") [acc, x]) (fun _ s5 => ∃ m, m < n ∧ I m s5) (fun _ _ => False) s4) (fun _ _ => False) s3) (fun _ _ => False) s2) (fun _ _ => False) s1) (fun _ _ => False) s)
    (n : Nat) (h : I n s) : codeAny (model prog w) A (.compLoop (.ListComp elt [⟨target, iter, [], 0⟩] scope pos) 0 it acc env) R s := by
  apply codeAny_loop rfl I ?_ n h
  intro n s hI
  show wpAny _ _ ((compTurn (.ListComp elt [⟨target, iter, [], 0⟩] scope pos) 0 it acc env).onRaise _) _ _ s
  apply wpAny_noted
  rw [compTurn_list1]
  apply wpAny_bind
  apply wpAny_standAt
  apply wpAny_bind
  refine wpAny_mono (turn n s hI) (fun r s1 h1 => ?_) fun _ _ z => z.elim
  cases r with
  | none => exact wpAny_pure h1
  | some v =>
    apply wpAny_bind
    refine wpAny_mono h1 (fun _ s2 h2 => ?_) fun _ _ z => z.elim
    apply wpAny_bind
    refine wpAny_mono h2 (fun _ s3 h3 => ?_) fun _ _ z => z.elim
    apply wpAny_bind
    apply wpAny_bind
    refine wpAny_mono h3 (fun x s4 h4 => ?_) fun _ _ z => z.elim
    apply wpAny_bind
    refine wpAny_mono h4 (fun _ s5 h5 => ?_) fun _ _ z => z.elim
    exact wpAny_pure (wpAny_pure ⟨rfl, h5⟩)
end
section
variable {X : Cx} {scope : Scope} {cl : List (Str × Addr)} {own : Str} {ys : List Str} {js : List Nat} {fp : List Addr} {pins : List (Addr × Obj)} {σ : St} {H : Hp} {s s4 : Shared}
theorem block_start {h1 : Heap} (ok : CompOk X scope cl own ys js) (I : Inv X pins σ H s) (hf : ∀ b ∈ fp, FpOk X pins H b) (hlt : ∀ b ∈ fp, b < s.heap.objs.size) (hns : h1.Ns s.heap.objs.size (fun _ => none))
    (hk : ∀ b o, s.heap.get? b = some o → h1.get? b = some o) (tk : Nat) :
    Inv (X.block scope cl s.heap.objs.size (own :: ys) own fp s H) [] (none :: freesOf js σ) H { s with heap := h1, toks := tk } := by
  have sub : ∀ y c, cl.lookup y = some c → X.env.cells.lookup y = some c := fun y c e => ok.sub (y, c) (PySem.mem_of_lookup e)
  refine ⟨⟨I.ok.mod, ok.kind, I.ok.glob, I.ok.blt, Nat.le_refl _, fun x y c e1 e2 => I.ok.inj x y c (sub x c e1) (sub y c e2), fun x hx => ?_, fun x c e1 e2 => ?_, I.ok.hd, I.ok.frames, .inl rfl, fun b hb => ⟨Nat.ne_of_lt (hlt b hb), fun x c e => (hf b hb).2.2.2.2.1 x c (sub x c e)⟩,
    I.bs, Nat.le_trans I.ok.bsz I.sz, fun b o e hb => ?_, fun b hb z => ?_, I.stack, I.stkFree⟩, rfl, I.bare, Un.kept hk, ⟨_, hns, fun i y v e1 e2 e3 => ?_⟩, fun y c e => ?_, I.hok.fresh (Nat.le_refl _), fun y c e => I.freeC y c (sub y c e), fun p hp => absurd (show p ∈ ([] : List (Addr × Obj)) from hp) (by simp), I.hok.kept hk, ?_⟩
  · have hx' : (relabel scope X.env).names.lookup x = some .cell ∨ (relabel scope X.env).names.lookup x = some .free := hx
    rcases hx' with z | z
    · have q := lookup_all ok.has z
      simp only [beq_self_eq_true, Bool.true_or, Bool.not_true, Bool.false_or] at q
      exact Option.isSome_iff_exists.mp q
    · have q := lookup_all ok.has z
      simp only [beq_self_eq_true, Bool.or_true, Bool.not_true, Bool.false_or] at q
      exact Option.isSome_iff_exists.mp q
  · have e1' : (x == own) = true := e1
    have e : x = own := beq_iff_eq.mp e1'
    have e2' : cl.lookup x = some c := e2
    rw [e, ok.noown] at e2'
    cases e2'
  · rcases (hf b hb).2.2.2.1 with z | z
    · exact I.ok.noex b o e z
    · exact absurd (Nat.lt_of_lt_of_le (Heap.lt_size (I.ok.bs b o e).1) z) (Nat.lt_irrefl _)
  · rcases List.mem_cons.mp (I.stkSub b z) with q | q
    · exact (hf b hb).2.1 q
    · exact (hf b hb).2.2.1 q
  · cases i with
    | zero => cases e2
    | succ i =>
      have e1' : ys[i]? = some y := e1
      obtain ⟨j, hj, hN, hX, hc⟩ := ok.at_ i y e1'
      have e2' : (freesOf js σ)[i]? = some (some v) := e2
      unfold freesOf at e2'
      rw [List.getElem?_map, hj] at e2'
      have hs : σ[j]? = some (some v) := by
        cases q : σ[j]? with
        | none => rw [Option.map_some, q] at e2'; cases e2'
        | some o => rw [Option.map_some, q] at e2'; exact e2'
      obtain ⟨m, hn, hl⟩ := I.loc
      obtain ⟨u, r, l⟩ := hl j y v hN hs (hX.elim (fun z => .inr (.inl z)) fun z => .inr (.inr z))
      refine ⟨u, r, .inr ⟨hc, ?_⟩⟩
      rcases l with ⟨k, _⟩ | ⟨k, c, hcl, hcell⟩
      · have k' : X.env.scope.names.lookup y = some .local := k
        rcases hX with z | z <;> (rw [z] at k'; cases k')
      · have ex : ∃ c', cl.lookup y = some c' := by
          rcases hc with z | z
          · have q := lookup_all ok.has z
            simp only [beq_self_eq_true, Bool.true_or, Bool.not_true, Bool.false_or] at q
            exact Option.isSome_iff_exists.mp q
          · have q := lookup_all ok.has z
            simp only [beq_self_eq_true, Bool.or_true, Bool.not_true, Bool.false_or] at q
            exact Option.isSome_iff_exists.mp q
        obtain ⟨c', hc'⟩ := ex
        have e := sub y c' hc'
        rw [hcl] at e
        cases e
        obtain ⟨oc, hoc, hd⟩ := hcell
        exact ⟨c, hc', oc, hk _ _ hoc, hd⟩
  · obtain ⟨v, oc, hoc, hd⟩ := I.cell y c (sub y c e)
    exact ⟨v, oc, hk _ _ hoc, hd⟩
  · show (none :: freesOf js σ).length = (own :: ys).length
    simp [freesOf, ok.len]
theorem block_end {H' : Hp} {h' : Heap} {σ' : St} (I : Inv X pins σ H s) (hf : ∀ b ∈ fp, FpOk X pins H b) (J : Inv (X.block scope cl s.heap.objs.size (own :: ys) own fp s H) [] σ' H' s4) (hs : Heap.SameBut s.heap.objs.size s4.heap h') :
    Inv X pins σ H' { s4 with heap := h' } := by
  have low : ∀ b o, s.heap.get? b = some o → b ≠ s.heap.objs.size := fun b o e => Nat.ne_of_lt (Heap.lt_size e)
  have B := J.base
  have u : Un (frs X.stack) fp H H' s.heap h' := {
    keep := fun b o q n hb hx => (hs.2 b (low b o q)).trans (B.keep b o q n hb hx)
    slot := fun b o q n hb hx => by
      obtain ⟨sl, e⟩ := B.slot b o q n hb hx
      exact ⟨sl, (hs.2 b (low b o q)).trans e⟩
    free := B.free
    there := fun b o q hx => by
      obtain ⟨o', e⟩ := B.there b o q hx
      exact ⟨o', (hs.2 b (low b o q)).trans e⟩
    tups := B.tups
    frzs := B.frzs
    tbls := B.tbls }
  have hn : H' s.heap.objs.size = none := J.free
  have hk : HOk X.prog X.w H' h' := fun a o e => (J.hok a o e).stay (fun b v hb q => (hs.2 b (by
    intro z
    rcases hb with z' | z'
    · rw [← z', z, hn] at e; cases e
    · rw [z, hn] at z'; cases z')).trans q) (fun _ q => q) fun _ _ q => q
  exact I.call' (s' := { s4 with heap := h' }) (ch := fp) J.os u hk J.bare fun b hb => ⟨(hf b hb).2.2.2.1, (hf b hb).2.1, (hf b hb).2.2.2.2.1, (hf b hb).2.2.2.2.2⟩
end
section
variable {X : Cx} {scope : Scope} {cl : List (Str × Addr)} {own : Str} {ys : List Str} {js : List Nat} {elt iter : Expr} {px pos : Pos} {wi : TI} {te : TE}
theorem pe_comp (hc : X.calm = true) (ok : CompOk X scope cl own ys js) (hi : PI X (.Name own px) iter wi)
    (he : ∀ (C : Addr) (fp : List Addr) (s : Shared) (H : Hp), PE (X.block scope cl C (own :: ys) own fp s H) elt te)
    (hs : ∀ x, foldedSetIterable iter X.env x = pure x := by intro _; rfl) : PE X (.ListComp elt [⟨.Name own px, iter, [], 0⟩] scope pos) (tComp wi js te) := by
  intro pins s σ H Q I h
  rw [eval_ListComp]
  have ncell : ∀ y ∈ scope.names, y.2 ≠ .cell := fun y hy z => by
    have q := List.all_eq_true.mp ok.nocell y hy
    rw [z] at q
    simp at q
  have nloc : ∀ y ∈ scope.names, y.2 = .local → scope.names.lookup y.1 = some .local := fun y hy z => by
    have q := List.all_eq_true.mp ok.loc y hy
    rw [z] at q
    simpa using q
  refine wpAny_comprehension_free (use := none) rfl hs ok.clos ok.kind nloc (thn (hi pins s σ H _ I h) fun v s1 h1 => thn h1 fun itv s2 h2 => ?_)
  obtain ⟨it, fp, tn, J, H2, rfl, I2, T, st2, f2, q2⟩ := h2
  obtain ⟨W, ⟨m0, w0⟩, turn⟩ := q2 s2.heap.objs.size (I2.hok.fresh (Nat.le_refl _))
  refine wpAny_newObj_type (wpAny_newFunctionEnv ncell (by intro y hy; simp at hy) (fun h1 hns hsb => ?_) ok.kind)
  have I3 := I2.laid (a := s2.heap.objs.size) (o := .lst []) (h' := s2.heap.push { cls := .type "list", dict := none, data := .seq ([] : List Value).toArray }) (t' := s2.toks) (fun b u q => Heap.get?_push_of_some _ q) (Nat.le_refl _)
    ⟨Nat.zero_le _, [], 0, .nil, Heap.get?_push_size _ rfl⟩
  have fpo : ∀ b ∈ fp, b < s2.heap.objs.size := fun b hb => by
    obtain ⟨o, e, _⟩ := T.obj 0 _ st2 b hb
    exact Heap.lt_size e
  have f3 : ∀ b ∈ fp, FpOk X pins (upd H2 s2.heap.objs.size (.lst [])) b := fun b hb => ⟨by rw [upd_ne (Nat.ne_of_lt (fpo b hb))]; exact (f2 b hb).1, (f2 b hb).2⟩
  generalize hs3 : ({ s2 with heap := s2.heap.push { cls := .type "list", dict := none, data := .seq ([] : List Value).toArray }, toks := s2.toks } : Shared) = s3 at I3
  have e3 : s3.heap = s2.heap.push { cls := .type "list", dict := none, data := .seq ([] : List Value).toArray } := by rw [← hs3]
  have lt3 : ∀ b ∈ fp, b < s3.heap.objs.size := fun b hb => by rw [e3, Heap.size_push]; exact Nat.lt_succ_of_lt (fpo b hb)
  dsimp only at hns hsb ⊢
  rw [← e3] at hns hsb
  have hk : ∀ b o, s3.heap.get? b = some o → h1.get? b = some o := fun b o e => hsb.extBut b o (Nat.ne_of_lt (Heap.lt_size e)) (Heap.get?_push_of_some _ e)
  have J0 := block_start (h1 := h1) ok I3 f3 lt3 hns hk (s2.toks + 0)
  have t0 : tn 0 h1 := T.keep 0 _ _ st2 fun b hb o e => hk b o (by rw [e3]; exact Heap.get?_push_of_some _ e)
  have fpB : ∀ {H' : Hp}, (∀ b ∈ fp, H' b = none) → ∀ b ∈ fp, FpOk (X.block scope cl s3.heap.objs.size (own :: ys) own fp s3 (upd H2 s2.heap.objs.size (.lst []))) [] H' b := fun {H'} hn b hb =>
    ⟨hn b hb, Nat.ne_of_lt (lt3 b hb), fun z => (List.mem_cons.mp (I3.stkSub b z)).elim (f3 b hb).2.1 (f3 b hb).2.2.1, .inl hb, fun x c e => (f3 b hb).2.2.2.2.1 x c (ok.sub (x, c) (PySem.mem_of_lookup e)), fun p hp => absurd (show p ∈ ([] : List (Addr × Obj)) from hp) (by simp)⟩
  have loop : codeAny (model X.prog X.w) X.A (.compLoop (.ListComp elt [⟨.Name own px, iter, [], 0⟩] scope pos) 0 (.ref it) (.ref s2.heap.objs.size) (compEnvC scope cl s3.heap.objs.size X.env))
      (compPost (model X.prog X.w) X.A X.xe none (EP X pins σ Q) (.ref s2.heap.objs.size) s3.heap.objs.size) { s3 with heap := h1, toks := s2.toks + 0 } := by
    refine compLoop_own (fun n s' => ∃ i zs o0 H', Inv (X.block scope cl s3.heap.objs.size (own :: ys) own fp s3 (upd H2 s2.heap.objs.size (.lst []))) [] (o0 :: freesOf js σ) H' s' ∧ tn i s'.heap ∧ (∀ b ∈ fp, H' b = none) ∧ W i n zs H') ?_ m0
      ⟨0, [], none, _, J0, t0, fun b hb => (f3 b hb).1, w0⟩
    rintro n s5 ⟨i, zs, o0, H5, I5, t5, n5, w5⟩
    obtain ⟨hD, hw⟩ := turn i n zs H5 w5
    rcases hw with ⟨stop, qn⟩ | ⟨go, hz, step⟩
    · refine thn (T.done (X.block scope cl s3.heap.objs.size (own :: ys) own fp s3 (upd H2 s2.heap.objs.size (.lst []))) rfl rfl rfl hc i [] s5 _ H5 (fun _ _ => False) I5 (fpB n5) t5 stop) fun r s6 ⟨hr, I6⟩ => ?_
      subst hr
      obtain ⟨m, hn, _⟩ := id I6.loc
      exact ⟨m, hn, fun h' hs' => ⟨V.ref s2.heap.objs.size, H5, block_end I3 f3 I6 hs', rfl, qn⟩⟩
    · refine thn (T.item (X.block scope cl s3.heap.objs.size (own :: ys) own fp s3 (upd H2 s2.heap.objs.size (.lst []))) rfl rfl rfl hc i [] s5 _ H5 (fun _ _ => False) I5 (fpB n5) t5 go) fun r s6 ⟨u, hr, h6⟩ => ?_
      subst hr
      refine thn h6 fun _ s7 ⟨x, H7, I7, r7, y7, t7, n7⟩ => ?_
      have I7' := I7.pinned (fpB n7) (T.obj _ _ t7)
      have hst := step x H7 y7
      have own' : (relabel scope X.env).names.lookup own = some .local := lookup_relabel_local ok.ownL
      refine thn (pg_name (X := X.block scope cl s3.heap.objs.size (own :: ys) own fp s3 (upd H2 s2.heap.objs.size (.lst []))) (i := 0) (x := own) (pos := px) ok.nd rfl (.inl own') (.inr own') _ s7 _ H7 x u (fun σ' H' => σ' = some x :: freesOf js σ ∧ H' = H7) I7' r7 ⟨rfl, rfl⟩) fun _ s8 ⟨σ8, H8, I8, e8, eH8⟩ => ?_
      subst e8 eH8
      refine thn (he _ _ _ _ _ s8 _ H8 _ I8 hst) fun yv s9 ⟨y, H9, I9, r9, hD9, m', hm, w9⟩ => ?_
      refine thn (mt_append _ s9 _ H9 (.ref s2.heap.objs.size) [y] (.ref s2.heap.objs.size) [yv] (fun _ H' => H' = upd H9 s2.heap.objs.size (.lst (zs ++ [y]))) I9 rfl (.cons r9 .nil) ⟨_, zs, y, rfl, rfl, hD9, hz, rfl⟩) fun _ s10 ⟨_, H10, I10, _, e10⟩ => ?_
      subst e10
      refine ⟨m', hm, i + 1, zs ++ [y], some x, _, I10.unpinned, T.keep _ _ _ t7 fun b hb o e => (I10.pin (b, o) (List.mem_append_right _ (List.mem_append_right _ (mem_pinsAt hb e)))).1, fun b hb => ?_, w9⟩
      obtain ⟨o, e, d⟩ := T.obj _ _ t7 b hb
      exact (I10.pin (b, o) (List.mem_append_right _ (List.mem_append_right _ (mem_pinsAt hb e)))).2.1
  subst hs3
  exact codeAny_compStart_list loop (T.self _ 0 _ _ _ t0 loop)
end
end L2
set_option Elab.async false
set_option linter.all false
set_option maxRecDepth 100000
namespace L2
open PySem PySem.Spec PyProof.Rows XH PySem.Builtin PySem.Builtin.ObjectAttr
/-! ### an own refusal's __init__: its field -/
section
variable {prog : Program} {w : World} {A : Around} {E : Value → Shared → Prop} {s : Shared} {K : PySem.W.Frag} {x C S : Addr} {ox : Obj} {od : Option Obj} {name : Str} {v : Value}
end
section
variable {X : Cx} {o value : Expr} {f : Str} {pos pos' : Pos} {ta tv : TE}
end
end L2
set_option Elab.async false
set_option linter.all false
set_option maxRecDepth 100000
namespace L2
open PySem PySem.Spec PyProof.Rows XH
section
variable {X : Cx} {o e value : Expr} {f : Str} {pos pos' : Pos} {ta tv : TE}
end
/-! ### a refusal with an __init__ is made -/
section
variable {prog : Program} {w : World} {A : Around} {E : Value → Shared → Prop} {h : Heap} {g : Array GenState} {d : Drawn} {t : Nat} {os : OsState}
variable {nm q : Str} {C N : Addr} {bs bm : List Value} {hdct : Bool} {sn : List Str} {sub : List Value} {ab : Bool} {col : Option Bool} {dd : Option Addr} {k0 k1 k2 k3 k5 : Option Value}
end
section
variable {X : Cx} {x : Str} {p pos : Pos} {e : Expr} {es : List Expr} {C fI : Addr} {t : TA} {k : Nat} {fd : FuncData} {ps : List Str} {sp : Sp}
end
end L2
set_option Elab.async false
set_option linter.all false
set_option maxRecDepth 100000
namespace L2
open PySem PySem.Spec PyProof.Rows XH
section
variable {M : Model} {A : Around} {E : Value → Shared → Prop} {env : Env}
variable {nm q : Str} {C N : Addr} {bs bm : List Value} {hdct : Bool} {sn : List Str} {sub : List Value} {ab : Bool} {col : Option Bool} {dd : Option Addr} {k0 k1 k2 k3 k5 : Option Value} {nw : String}
end
section
variable {X : Cx} {x : Str} {np cpos pos : Pos} {e₀ : Expr} {rest : List Expr} {C fI : Addr} {t : TA} {k : Nat} {fd : FuncData} {ps : List Str} {sp : Sp} {E : St → XK}
end
end L2
set_option Elab.async false
set_option linter.all false
set_option maxRecDepth 100000
namespace L2
open PySem PySem.Spec PyProof.Rows XH
/-! ### within an except suite, and in what is called there -/
theorem entry_unchain : entryFor table "proto.unchain" = some Builtin.«proto.unchain» := entryFor_of_fast (by kernel_rfl)
/-- what is known of the handled exception, if there is one -/
def HdOk (hd : Option Value) (H : Hp) : Prop := ∀ v, hd = some v → ∃ a n cls dx, v = .ref a ∧ H a = some (excB n a cls dx)
theorem HdOk.no {H : Hp} : HdOk none H := fun _ z => nomatch z
section
variable {prog : Program} {w : World} {A : Around} {E : Value → Shared → Prop} {s : Shared}
theorem range_endH {it hx : Addr} {ox : Obj} {vs : Array Value} {x left step : Int} {Q : Option Value → Shared → Prop} (hh : A.handled = some (.ref hx)) (ho : s.heap.get? hx = some ox) (hd : ox.data = .fields vs) (h2 : vs[2]? = some .none)
    (hit : IsRangeIter s.heap it x left step) (hleft : left ≤ 0) (hQ : ∀ h', Heap.ExtBut it s.heap h' → Q none { s with heap := h' }) : wpAny (model prog w) A (pyNext (.ref it)) Q E s := by
  have hT : s.TypeIs (.ref it) "range_iterator" := ⟨_, hit, rfl⟩
  unfold pyNext
  refine wpAny_bind (wpAny_attempt (wpAny_callSpecial?_slot (name := Str.ofString "__next__") hT F.slot_range_iterator_next
    (wpAny_call_entry F.slot_range_iterator_next hT F.entry_range_iterator_next ?_ (F.args_range_iterator_next_1 _))))
  show wpAny _ _ (field (.ref it) 0 >>= _) _ _ s
  refine wpAny_bind (wpAny_field hit rfl (x := rawInt x) rfl ?_)
  show wpAny _ _ (field (.ref it) 1 >>= _) _ _ s
  refine wpAny_bind (wpAny_field hit rfl (x := rawInt left) rfl ?_)
  show wpAny _ _ (field (.ref it) 2 >>= _) _ _ s
  refine wpAny_bind (wpAny_field hit rfl (x := rawInt step) rfl ?_)
  show wpAny _ _ (if left ≤ 0 then _ else _) _ _ s
  rw [if_pos hleft]
  refine wpAny_bind (wpAny_rule ?_)
  refine wpAny_bind ?_
  show wpAny _ _ (newExc (.type "StopIteration") [] >>= _) _ _ _
  refine wpAny_bind ?_
  simp only [newExc, newTuple]
  refine wpAny_bind (wpAny_newObj_type ?_ (by size_fits))
  refine wpAny_bind (m := firstArgMember _ _) (wpAny_of_eq (a := Value.none) (by first | rfl | (simp only [firstArgMember]; rfl)) ?_)
  refine wpAny_newObj_type ?_ (by size_fits)
  simp only [raiseNew]
  refine wpAny_bind (wpAny_handled ?_)
  rw [show A.in1.handled = some (.ref hx) from hh]
  have g0 : s.heap.get? (s.heap.push { cls := .type "tuple", dict := none, data := .seq ([] : List Value).toArray }).objs.size = none := Heap.get?_none_of_le (by rw [Heap.size_push]; omega)
  have ne : hx ≠ (s.heap.push { cls := .type "tuple", dict := none, data := .seq ([] : List Value).toArray }).objs.size := fun z => by
    rw [z, g0] at ho
    cases ho
  dsimp only
  rw [if_pos (bne_iff_ne.mpr fun z => ne (Value.ref.inj z))]
  refine wpAny_bind (wpAny_holding (wpAny_runValue (codeAny_builtin entry_unchain ?_)))
  show wpAny _ _ (field (.ref hx) 2 >>= _) _ _ _
  refine wpAny_bind (wpAny_field (Heap.get?_push_of_some _ (Heap.get?_push_of_some _ ho)) hd h2 ?_)
  rw [if_pos (by rfl)]
  refine wpAny_bind (wpAny_pure (wpAny_pure ?_))
  refine wpAny_bind (m := updateField _ 2 _) (wpAny_setField (Heap.get?_push_size _ rfl) rfl (by show 2 < 6; decide) ?_)
  refine wpAny_throw ?_
  refine wpAny_bind (wpAny_isInstance (T := "StopIteration") (b := true) ⟨_, Heap.get?_update_self _ (Heap.get?_push_size _ rfl) rfl, rfl⟩ isSubtype_stop ?_)
  refine wpAny_pure (hQ _ fun b o hb e => ?_)
  rw [Heap.get?_update_other _ _ (by
    intro z
    rw [z] at g0
    rw [g0] at e
    cases e)]
  exact Heap.get?_push_of_some _ (Heap.get?_push_of_some _ e)
end
/-! ### iterators under a handled exception -/
structure TurnH (hd : Option Value) (P : Program) (w : World) (K : PySem.W.Frag) (tg : Expr) (J : It) (fp : List Addr) (it : Addr) (tn : Nat → Heap → Prop) : Prop where
  mem : it ∈ fp
  obj : ∀ i h, tn i h → ∀ b ∈ fp, ∃ o, h.get? b = some o ∧ ∀ v, o.data ≠ .cell v
  keep : ∀ i h h', tn i h → (∀ b ∈ fp, ∀ o, h.get? b = some o → h'.get? b = some o) → tn i h'
  item : ∀ (X : Cx), X.prog = P → X.w = w → X.K = K → X.A.handled = hd → ∀ (i : Nat) (pins : List (Addr × Obj)) (s : Shared) (σ : St) (H : Hp) (E : Value → Shared → Prop), Inv X pins σ H s → (∀ b ∈ fp, FpOk X pins H b) → tn i s.heap → J.go i H →
    wpAny (model P w) X.A (pyNext (.ref it)) (fun r s1 => ∃ u, r = some u ∧
      wpAny (model P w) X.A (letOwnedTupleGo tg (.ref it) u) (fun _ s2 => ∃ x H', Inv X pins σ H' s2 ∧ RelV x u ∧ J.yld i H x H' ∧ tn (i + 1) s2.heap ∧ ∀ b ∈ fp, H' b = none) E s1) E s
  done : ∀ (X : Cx), X.prog = P → X.w = w → X.K = K → X.A.handled = hd → ∀ (i : Nat) (pins : List (Addr × Obj)) (s : Shared) (σ : St) (H : Hp) (E : Value → Shared → Prop), Inv X pins σ H s → (∀ b ∈ fp, FpOk X pins H b) → tn i s.heap → J.stop i H →
    wpAny (model P w) X.A (pyNext (.ref it)) (fun r s1 => r = none ∧ Inv X pins σ H s1) E s
  self : ∀ (A : Around) (i : Nat) (s : Shared) (Q : Value → Shared → Prop) (E : Value → Shared → Prop), tn i s.heap → Q (.ref it) s → wpAny (model P w) A (pyIter (.ref it)) Q E s
def PIEH (hd : Option Value) (X : Cx) (pins : List (Addr × Obj)) (σ : St) (tg : Expr) (R : It → Hp → Prop) (itv : Value) (s2 : Shared) : Prop :=
  ∃ (it : Addr) (fp : List Addr) (tn : Nat → Heap → Prop) (J : It) (H' : Hp), itv = .ref it ∧ Inv X pins σ H' s2 ∧ TurnH hd X.prog X.w X.K tg J fp it tn ∧ tn 0 s2.heap ∧ (∀ b ∈ fp, FpOk X pins H' b) ∧ R J H'
def PIH (hd : Option Value) (X : Cx) (tg iter : Expr) (wi : TI) : Prop :=
  ∀ (pins : List (Addr × Obj)) (s : Shared) (σ : St) (H : Hp) (R : It → Hp → Prop), Inv X pins σ H s → wi σ H R →
    wpAny (model X.prog X.w) X.A (eval iter X.env) (fun v s1 => wpAny (model X.prog X.w) X.A (pyIter v) (PIEH hd X pins σ tg R) X.xe s1) X.xe s
def ItrH (hd : Option Value) (lo : Int) (n : Nat) : It := ⟨fun i _ => i < n, fun i H x H' => H' = H ∧ x = .int (lo + i), fun i H => n ≤ i ∧ HdOk hd H⟩
theorem turn_rangeH {hd : Option Value} {P : Program} {w : World} {K : PySem.W.Frag} {tg : Expr} (it : Addr) (lo : Int) (n : Nat) : TurnH hd P w K tg (ItrH hd lo n) [it] it (fun i h => IsRangeIter h it (lo + (i : Nat) * 1) ((n : Int) - (i : Nat)) 1) where
  mem := by simp
  obj := fun i h st b hb => by
    have e : b = it := by simpa using hb
    subst e
    exact ⟨_, st, fun v z => by
      have z' : Data.fields _ = Data.cell v := z
      cases z'⟩
  keep := fun i h h' st k => k it (by simp) _ st
  item := by
    intro X hP hw hK hA i pins s σ H E I hf st hg
    subst hP hw hK
    obtain ⟨f0, f1, f2, f3, f4, f5⟩ := hf it (by simp)
    have hg' : i < n := hg
    refine wpAny_pyNext_range_item st (by omega) fun h' st' sb => ?_
    have I1 : Inv X pins σ H { s with heap := h', toks := s.toks + 1 } := I.turned (fun b o hb e => (sb.2 b hb).trans e) f0 f1 f3 f4 f5
    have st2 : IsRangeIter h' it (lo + ((i + 1 : Nat) : Int) * 1) ((n : Int) - ((i + 1 : Nat) : Int)) 1 := by
      have e1 : lo + ((i + 1 : Nat) : Int) * 1 = lo + (i : Int) * 1 + 1 := by push_cast; omega
      have e2 : (n : Int) - ((i + 1 : Nat) : Int) = (n : Int) - (i : Int) - 1 := by push_cast; omega
      rw [e1, e2]
      exact st'
    refine ⟨_, rfl, go_of (s := { s with heap := h', toks := s.toks + 1 }) (n := "range_iterator") st2 rfl rfl (by decide) ⟨.int (lo + i), H, I1, ⟨s.toks, ?_⟩, ⟨rfl, rfl⟩, st2, fun b hb => (hf b hb).1⟩⟩
    rw [Int.mul_one]
  done := by
    intro X hP hw hK hA i pins s σ H E I hf st hg
    subst hP hw hK
    obtain ⟨f0, f1, f2, f3, f4, f5⟩ := hf it (by simp)
    obtain ⟨hl, hk⟩ := hg
    cases hd with
    | none => exact wpAny_pyNext_range_end hA st (by omega) fun h' eb => ⟨rfl, I.turned (t' := s.toks) (fun b o hb e => eb b o hb e) f0 f1 f3 f4 f5⟩
    | some v =>
      obtain ⟨a, m, cls, dx, rfl, e⟩ := hk v rfl
      obtain ⟨⟨ox, vs, h1, h2, h3, h4, h6, h5⟩, _⟩ := (show ObjOk X.prog X.w H s.heap a (excB m a cls dx) from I.hok a _ e)
      exact range_endH hA h1 h4 h6 st (by omega) fun h' eb => ⟨rfl, I.turned (t' := s.toks) (fun b o hb e => eb b o hb e) f0 f1 f3 f4 f5⟩
  self := fun _ _ _ _ _ st h => wpAny_pyIter_rangeiter st h
def iRngH (hd : Option Value) (ta : TA) : TI := fun σ H R => ta σ H fun vs H1 => ∃ j : Int, vs = [.int j] ∧ -(2 ^ 62) ≤ j ∧ j < 2 ^ 62 ∧ R (ItrH hd 0 j.toNat) H1
section
variable {X : Cx} {tg : Expr} {hd : Option Value}
theorem range_itH {pins : List (Addr × Obj)} {σ : St} {H : Hp} {s : Shared} {R : It → Hp → Prop} {E : Value → Shared → Prop} {lo hi : Int} {t u v : Tok} {tk : Nat} (I : Inv X pins σ H s) (h1 : -(2 ^ 62) ≤ lo) (h2 : lo < 2 ^ 62) (h3 : -(2 ^ 62) ≤ hi) (h4 : hi < 2 ^ 62)
    (q : R (ItrH hd lo (hi - lo).toNat) H) : wpAny (model X.prog X.w) X.A (pyIter (.ref s.heap.objs.size)) (PIEH hd X pins σ tg R) E { s with heap := s.heap.push { cls := .type "range", data := .fields #[.int lo t, .int hi u, .int 1 v] }, toks := tk } := by
  refine wpAny_pyIter_range (IsRange.new ..) (small_one h1 h2 h3 h4) ?_
  have I1 : Inv X pins σ H { s with heap := s.heap.push { cls := .type "range", data := .fields #[.int lo t, .int hi u, .int 1 v] }, toks := tk } := I.kept fun b o e => Heap.get?_push_of_some _ e
  refine ⟨(s.heap.push { cls := .type "range", data := .fields #[.int lo t, .int hi u, .int 1 v] }).objs.size, [(s.heap.push { cls := .type "range", data := .fields #[.int lo t, .int hi u, .int 1 v] }).objs.size], _, _, H, rfl,
    I1.kept (t' := tk) fun b o e => Heap.get?_push_of_some _ e, turn_rangeH _ lo (hi - lo).toNat, ?_, fun b hb => ?_, q⟩
  · have e1 : lo + ((0 : Nat) : Int) * 1 = lo := by simp
    have e2 : (((hi - lo).toNat : Nat) : Int) - ((0 : Nat) : Int) = Builtin.Range.rangeSize lo hi 1 := by rw [rangeSize_one]; split <;> omega
    show IsRangeIter _ _ (lo + ((0 : Nat) : Int) * 1) ((((hi - lo).toNat : Nat) : Int) - ((0 : Nat) : Int)) 1
    rw [e1, e2]
    exact Heap.get?_push_size _ rfl
  · have e : b = (s.heap.push { cls := .type "range", data := .fields #[.int lo t, .int hi u, .int 1 v] }).objs.size := by simpa using hb
    subst e
    exact I1.fpOk (Nat.le_refl _) (I1.hok.fresh (Nat.le_refl _))
theorem pi_rangeH {a : Expr} {ta : TA} {p pos : Pos} (hg : Gl X "range") (hm : X.mg "range" = none) (ha : PA X [a] ta) (hs : starEach [a] X.env = [(false, eval a X.env)] := by rfl) : PIH hd X tg (.Call (.Name "range" p) [a] [] pos) (iRngH hd ta) := by
  intro pins s σ H R I h
  refine Call_ (ld_blt I hg hm boot_range (PyProof.Rows.callWith_type1 (thn (ha pos pins s σ H _ I h) fun us s1 ⟨vs, H1, I1, r1, q1⟩ => ?_) hs rfl))
  obtain ⟨j, e, q1, q2, q⟩ := q1
  subst e
  cases r1 with
  | cons r rr =>
    cases rr
    obtain ⟨t, rfl⟩ := r
    exact call_range_1 (range_itH I1 (by omega) (by omega) q1 q2 (by simpa using q))
end
section
variable {X : Cx} {scope : Scope} {cl : List (Str × Addr)} {own : Str} {ys : List Str} {js : List Nat} {elt iter : Expr} {px pos : Pos} {wi : TI} {te : TE} {hd : Option Value}
theorem pe_compH (hA : X.A.handled = hd) (ok : CompOk X scope cl own ys js) (hi : PIH hd X (.Name own px) iter wi)
    (he : ∀ (C : Addr) (fp : List Addr) (s : Shared) (H : Hp), PE (X.block scope cl C (own :: ys) own fp s H) elt te)
    (hs : ∀ x, foldedSetIterable iter X.env x = pure x := by intro _; rfl) : PE X (.ListComp elt [⟨.Name own px, iter, [], 0⟩] scope pos) (tComp wi js te) := by
  intro pins s σ H Q I h
  rw [eval_ListComp]
  have ncell : ∀ y ∈ scope.names, y.2 ≠ .cell := fun y hy z => by
    have q := List.all_eq_true.mp ok.nocell y hy
    rw [z] at q
    simp at q
  have nloc : ∀ y ∈ scope.names, y.2 = .local → scope.names.lookup y.1 = some .local := fun y hy z => by
    have q := List.all_eq_true.mp ok.loc y hy
    rw [z] at q
    simpa using q
  refine wpAny_comprehension_free (use := none) rfl hs ok.clos ok.kind nloc (thn (hi pins s σ H _ I h) fun v s1 h1 => thn h1 fun itv s2 h2 => ?_)
  obtain ⟨it, fp, tn, J, H2, rfl, I2, T, st2, f2, q2⟩ := h2
  obtain ⟨W, ⟨m0, w0⟩, turn⟩ := q2 s2.heap.objs.size (I2.hok.fresh (Nat.le_refl _))
  refine wpAny_newObj_type (wpAny_newFunctionEnv ncell (by intro y hy; simp at hy) (fun h1 hns hsb => ?_) ok.kind)
  have I3 := I2.laid (a := s2.heap.objs.size) (o := .lst []) (h' := s2.heap.push { cls := .type "list", dict := none, data := .seq ([] : List Value).toArray }) (t' := s2.toks) (fun b u q => Heap.get?_push_of_some _ q) (Nat.le_refl _)
    ⟨Nat.zero_le _, [], 0, .nil, Heap.get?_push_size _ rfl⟩
  have fpo : ∀ b ∈ fp, b < s2.heap.objs.size := fun b hb => by
    obtain ⟨o, e, _⟩ := T.obj 0 _ st2 b hb
    exact Heap.lt_size e
  have f3 : ∀ b ∈ fp, FpOk X pins (upd H2 s2.heap.objs.size (.lst [])) b := fun b hb => ⟨by rw [upd_ne (Nat.ne_of_lt (fpo b hb))]; exact (f2 b hb).1, (f2 b hb).2⟩
  generalize hs3 : ({ s2 with heap := s2.heap.push { cls := .type "list", dict := none, data := .seq ([] : List Value).toArray }, toks := s2.toks } : Shared) = s3 at I3
  have e3 : s3.heap = s2.heap.push { cls := .type "list", dict := none, data := .seq ([] : List Value).toArray } := by rw [← hs3]
  have lt3 : ∀ b ∈ fp, b < s3.heap.objs.size := fun b hb => by rw [e3, Heap.size_push]; exact Nat.lt_succ_of_lt (fpo b hb)
  dsimp only at hns hsb ⊢
  rw [← e3] at hns hsb
  have hk : ∀ b o, s3.heap.get? b = some o → h1.get? b = some o := fun b o e => hsb.extBut b o (Nat.ne_of_lt (Heap.lt_size e)) (Heap.get?_push_of_some _ e)
  have J0 := block_start (h1 := h1) ok I3 f3 lt3 hns hk (s2.toks + 0)
  have t0 : tn 0 h1 := T.keep 0 _ _ st2 fun b hb o e => hk b o (by rw [e3]; exact Heap.get?_push_of_some _ e)
  have fpB : ∀ {H' : Hp}, (∀ b ∈ fp, H' b = none) → ∀ b ∈ fp, FpOk (X.block scope cl s3.heap.objs.size (own :: ys) own fp s3 (upd H2 s2.heap.objs.size (.lst []))) [] H' b := fun {H'} hn b hb =>
    ⟨hn b hb, Nat.ne_of_lt (lt3 b hb), fun z => (List.mem_cons.mp (I3.stkSub b z)).elim (f3 b hb).2.1 (f3 b hb).2.2.1, .inl hb, fun x c e => (f3 b hb).2.2.2.2.1 x c (ok.sub (x, c) (PySem.mem_of_lookup e)), fun p hp => absurd (show p ∈ ([] : List (Addr × Obj)) from hp) (by simp)⟩
  have loop : codeAny (model X.prog X.w) X.A (.compLoop (.ListComp elt [⟨.Name own px, iter, [], 0⟩] scope pos) 0 (.ref it) (.ref s2.heap.objs.size) (compEnvC scope cl s3.heap.objs.size X.env))
      (compPost (model X.prog X.w) X.A X.xe none (EP X pins σ Q) (.ref s2.heap.objs.size) s3.heap.objs.size) { s3 with heap := h1, toks := s2.toks + 0 } := by
    refine compLoop_own (fun n s' => ∃ i zs o0 H', Inv (X.block scope cl s3.heap.objs.size (own :: ys) own fp s3 (upd H2 s2.heap.objs.size (.lst []))) [] (o0 :: freesOf js σ) H' s' ∧ tn i s'.heap ∧ (∀ b ∈ fp, H' b = none) ∧ W i n zs H') ?_ m0
      ⟨0, [], none, _, J0, t0, fun b hb => (f3 b hb).1, w0⟩
    rintro n s5 ⟨i, zs, o0, H5, I5, t5, n5, w5⟩
    obtain ⟨hD, hw⟩ := turn i n zs H5 w5
    rcases hw with ⟨stop, qn⟩ | ⟨go, hz, step⟩
    · refine thn (T.done (X.block scope cl s3.heap.objs.size (own :: ys) own fp s3 (upd H2 s2.heap.objs.size (.lst []))) rfl rfl rfl hA i [] s5 _ H5 (fun _ _ => False) I5 (fpB n5) t5 stop) fun r s6 ⟨hr, I6⟩ => ?_
      subst hr
      obtain ⟨m, hn, _⟩ := id I6.loc
      exact ⟨m, hn, fun h' hs' => ⟨V.ref s2.heap.objs.size, H5, block_end I3 f3 I6 hs', rfl, qn⟩⟩
    · refine thn (T.item (X.block scope cl s3.heap.objs.size (own :: ys) own fp s3 (upd H2 s2.heap.objs.size (.lst []))) rfl rfl rfl hA i [] s5 _ H5 (fun _ _ => False) I5 (fpB n5) t5 go) fun r s6 ⟨u, hr, h6⟩ => ?_
      subst hr
      refine thn h6 fun _ s7 ⟨x, H7, I7, r7, y7, t7, n7⟩ => ?_
      have I7' := I7.pinned (fpB n7) (T.obj _ _ t7)
      have hst := step x H7 y7
      have own' : (relabel scope X.env).names.lookup own = some .local := lookup_relabel_local ok.ownL
      refine thn (pg_name (X := X.block scope cl s3.heap.objs.size (own :: ys) own fp s3 (upd H2 s2.heap.objs.size (.lst []))) (i := 0) (x := own) (pos := px) ok.nd rfl (.inl own') (.inr own') _ s7 _ H7 x u (fun σ' H' => σ' = some x :: freesOf js σ ∧ H' = H7) I7' r7 ⟨rfl, rfl⟩) fun _ s8 ⟨σ8, H8, I8, e8, eH8⟩ => ?_
      subst e8 eH8
      refine thn (he _ _ _ _ _ s8 _ H8 _ I8 hst) fun yv s9 ⟨y, H9, I9, r9, hD9, m', hm, w9⟩ => ?_
      refine thn (mt_append _ s9 _ H9 (.ref s2.heap.objs.size) [y] (.ref s2.heap.objs.size) [yv] (fun _ H' => H' = upd H9 s2.heap.objs.size (.lst (zs ++ [y]))) I9 rfl (.cons r9 .nil) ⟨_, zs, y, rfl, rfl, hD9, hz, rfl⟩) fun _ s10 ⟨_, H10, I10, _, e10⟩ => ?_
      subst e10
      refine ⟨m', hm, i + 1, zs ++ [y], some x, _, I10.unpinned, T.keep _ _ _ t7 fun b hb o e => (I10.pin (b, o) (List.mem_append_right _ (List.mem_append_right _ (mem_pinsAt hb e)))).1, fun b hb => ?_, w9⟩
      obtain ⟨o, e, d⟩ := T.obj _ _ t7 b hb
      exact (I10.pin (b, o) (List.mem_append_right _ (List.mem_append_right _ (mem_pinsAt hb e)))).2.1
  subst hs3
  exact codeAny_compStart_list loop (T.self _ 0 _ _ _ t0 loop)
end
/-! ### an except suite whose reading knows the exception -/
section
variable {X : Cx} {x n : Str} {np pos : Pos} {b0 : Stmt} {suite : List Stmt} {rest : List ExceptHandler} {i : Nat} {C' : Addr} {tA : Addr → TS} {th : TH}
end
/-! ### calls, whatever is handled -/
section
variable {P : Program} {w : World} {K : PySem.W.Frag} {mg : Str → Option Value} {base : Heap} {hd : Option Value}
end
section
variable {X : Cx} {k : Nat} {f : Addr} {fd : FuncData} {ps : List Str} {sp : Sp} {dvs : List V} {ds : List Value} {x : Str} {p pos : Pos} {e : Expr} {es : List Expr} {t : TA} {hd : Option Value}
end
end L2
set_option Elab.async false
set_option linter.all false
set_option maxRecDepth 100000
namespace Sw
open PySem L2 XH
/-- a def as its callers see it -/
structure Dx (P : Program) (w : World) (K : PySem.W.Frag) (mg : Str → Option Value) (base : Heap) (CX : CXT) (k : Nat) (x : Str) (ps : List Str) (dvs : List V) (sp : Sp) where
  f : Addr
  fd : FuncData
  ok : FnOk P w K mg base CX k f fd ps sp
  m : mg x = some (.ref f)
  q : PySem.W.keepIn K (.ref f) = true
  b : Binds K fd ps []
  bd : ∃ ds, Binds K fd ps ds ∧ Vals dvs ds
section
variable {X : Cx} {k j : Nat} {x : Str} {ps : List Str} {sp : Sp} {p pos : Pos} {e : Expr} {es : List Expr} {t : TA} {dvs : List V} {E : St → XK}
theorem pcall0 (D : Dx X.prog X.w X.K X.mg X.base CX0 k x ps dvs sp) (hr : Room j X.A) (hk : k ≤ j) (hg : Gl X x) (ha : PA X (e :: es) t) (hdb : (x == ("__debug__" : Str)) = false := by decide)
    (he : starEach (e :: es) X.env = (false, eval e X.env) :: starEach es X.env := by rfl) (hpl : (backTo pos (starEach es X.env)).any (·.1) = false := by rfl) :
    PE X (.Call (.Name x p) (e :: es) [] pos) (tCall sp [] E0 t) :=
  pe_call D.ok (hr.mono hk) hg D.m D.q D.b .nil pass0 ha hdb he hpl
end
end Sw
set_option Elab.async false
set_option linter.all false
set_option maxRecDepth 100000
namespace Sw
open PySem L2 XH
end Sw
set_option Elab.async false
set_option linter.all false
set_option maxRecDepth 100000
namespace L2
open PySem PySem.Spec PyProof.Rows XH
theorem call_isiT {X : Cx} {K : PySem.W.Frag} (hK : X.K = K) : CallR X (.builtin "isinstance") (fun xs H Q => ∃ x t T b, xs = [x, .ty T] ∧ TyOf K H x t ∧ PySem.W.kitOne K t (.type T) = some b ∧ Q (.bl b) H) := by
  subst hK
  intro pins s σ H xs us Q I r h
  obtain ⟨x, t, T, b, rfl, ty, e, q⟩ := h
  obtain ⟨u, w', rfl, e1, e2⟩ := vals2 r
  cases e2
  exact isinst_ok I e1 ty e fun tk => ⟨.bl b, H, I.tok tk, rfl, q⟩
end L2
namespace Sw
open PySem L2 XH
/-! ### whatever is handed in: is it a whole number, is it a fraction -/
section
variable {K : PySem.W.Frag} {H : Hp}
end
end Sw
set_option Elab.async false
set_option linter.all false
set_option maxRecDepth 100000
namespace L2
open PySem PySem.Spec PyProof.Rows XH
/-- a truth, a number, a text -/
def Smp : V → Prop
  | .bl _ => True
  | .int _ => True
  | .str _ => True
  | .non => True
  | _ => False
theorem eqat_smp {A : Around} {s : Shared} {v : V} {u w : Value} (h : Smp v) (r1 : RelV v u) (r2 : RelV v w) : SeqAt.EqAt A s u w true := by
  cases v with
  | bl b =>
    cases r1
    cases r2
    have z := SeqAt.EqAt.bool_bool (A := A) (s := s) b b
    rw [beq_self_eq_true] at z
    exact z
  | int i =>
    obtain ⟨t, rfl⟩ := r1
    obtain ⟨t', rfl⟩ := r2
    have z := SeqAt.EqAt.int_int (A := A) (s := s) i t i t'
    rw [beq_self_eq_true] at z
    exact z
  | str i =>
    obtain ⟨t, rfl⟩ := r1
    obtain ⟨t', rfl⟩ := r2
    have z := SeqAt.EqAt.str_str (A := A) (s := s) i t i t'
    rw [beq_self_eq_true] at z
    exact z
  | non =>
    cases r1
    cases r2
    exact SeqAt.EqAt.same _
  | _ => exact absurd h (fun z => z)
end L2
set_option Elab.async false
set_option linter.all false
set_option maxRecDepth 100000
namespace Sw
open PySem L2 XH PyProof.Rows
/-! ### defs that are called from a handler too, and refusals' __init__ -/
section
variable {X : Cx} {k j : Nat} {x : Str} {ps : List Str} {sp : Sp} {p np pos cpos : Pos} {e : Expr} {es : List Expr} {t : TA} {hd : Option Value} {C : Addr} {E : L2.St → XK}
end
theorem hdSame {hd : Option Value} {H H' : Hp} (h : HdOk hd H) (g : Same H H') : HdOk hd H' := fun v e => by
  obtain ⟨a, n, cls, dx, e1, e2⟩ := h v e
  exact ⟨a, n, cls, dx, e1, g _ _ e2⟩
theorem sUpd {H H' : Hp} {p : Addr} (g : Same H H') (h : H p = none) (o : HO) : Same H (upd H' p o) := fun b u q => by
  rw [upd_ne (ne_of_none q h)]
  exact g b u q
theorem comp_by {hd : Option Value} {n : Nat} {js : List Nat} {te : TE} {σ : L2.St} {H1 : Hp} {Q : VK} (P : Nat → V → Prop) (hok : HdOk hd H1) (hn : n ≤ sizeLine)
    (step : ∀ i, i < n → ∀ H3, Same H1 H3 → ∀ Q' : VK, (∀ y H4, P i y → Same H3 H4 → Q' y H4) → te (some (.int (0 + (i : Int))) :: freesOf js σ) H3 Q')
    (fin : ∀ p ys H', H1 p = none → ys.length = n → (∀ i y, ys[i]? = some y → P i y) → Same H1 H' → H' p = some (.lst ys) → Q (.ref p) H') :
    compR js te σ Q (ItrH hd 0 n) H1 := by
  intro p hp
  refine ⟨fun i m ys H2 => i ≤ n ∧ m = n - i ∧ ys.length = i ∧ (∀ j y, ys[j]? = some y → P j y) ∧ Same H1 H2 ∧ H2 p = some (.lst ys), ⟨n, Nat.zero_le _, rfl, rfl, fun j y e => by simp at e, same_new hp _, upd_same⟩, ?_⟩
  rintro i m ys H2 ⟨hi, rfl, hl, hP, g, e⟩
  refine ⟨e, ?_⟩
  by_cases hin : i < n
  · refine .inr ⟨hin, by omega, fun x H3 hy => ?_⟩
    obtain ⟨rfl, rfl⟩ := hy
    refine step i hin H3 g _ fun y H4 py g4 => ⟨g4 _ _ e, n - (i + 1), by omega, hin, rfl, by simp [hl], fun j z ez => ?_, sUpd (g.trans g4) hp _, upd_same⟩
    by_cases hj : j < ys.length
    · rw [List.getElem?_append_left hj] at ez
      exact hP j z ez
    · rw [List.getElem?_append_right (by omega)] at ez
      have h0 : j - ys.length = 0 := by
        rcases Nat.eq_zero_or_pos (j - ys.length) with q | q
        · exact q
        · rw [List.getElem?_eq_none (by simp; omega)] at ez; cases ez
      rw [h0] at ez
      have hji : j = i := by omega
      subst hji
      cases ez
      exact py
  · have e2 : i = n := by omega
    subst e2
    exact .inl ⟨⟨Nat.le_refl _, hdSame hok g⟩, fin p ys H2 hp hl hP g e⟩
def CompAt (X : Cx) (scope : Scope) (ys : List Str) (js : List Nat) : Prop := ∀ (i : Nat) (y : Str), ys[i]? = some y → ∃ j : Nat, js[i]? = some j ∧ X.N[j]? = some y ∧ (X.env.scope.names.lookup y = some .cell ∨ X.env.scope.names.lookup y = some .free) ∧ ((relabel scope X.env).names.lookup y = some .cell ∨ (relabel scope X.env).names.lookup y = some .free)
theorem atn {X : Cx} {scope : Scope} : CompAt X scope [] [] := fun i y h => by simp at h
theorem atc {X : Cx} {scope : Scope} {ys : List Str} {js : List Nat} {y : Str} {j : Nat} (t : CompAt X scope ys js) (h1 : X.N[j]? = some y := by rfl) (h2 : X.env.scope.names.lookup y = some .cell ∨ X.env.scope.names.lookup y = some .free := by first | exact Or.inl rfl | exact Or.inr rfl)
    (h3 : (relabel scope X.env).names.lookup y = some .cell ∨ (relabel scope X.env).names.lookup y = some .free := by first | exact Or.inl rfl | exact Or.inr rfl) : CompAt X scope (y :: ys) (j :: js) := fun i z h => by
  cases i with
  | zero =>
    cases h
    exact ⟨j, rfl, h1, h2, h3⟩
  | succ i => exact t i z h
/-- the names that a comprehension takes from around -/
inductive Subs (X : Cx) : List (Str × Addr) → Prop where
  | nil : Subs X []
  | cons {y : Str} {c : Addr} {cl : List (Str × Addr)} (h : X.env.cells.lookup y = some c) (t : Subs X cl) : Subs X ((y, c) :: cl)
theorem Subs.all {X : Cx} {cl : List (Str × Addr)} (h : Subs X cl) : ∀ p ∈ cl, X.env.cells.lookup p.1 = some p.2 := by
  induction h with
  | nil => intro p hp; simp at hp
  | cons h _ ih =>
    intro p hp
    rcases List.mem_cons.mp hp with e | e
    · rw [e]; exact h
    · exact ih p e
theorem cok {X : Cx} {scope : Scope} {cl : List (Str × Addr)} {own : Str} {ys : List Str} {js : List Nat} (a : CompAt X scope ys js) (s : Subs X cl) (nd : (own :: ys).Nodup) (len : js.length = ys.length) (clos : closureFor scope X.env = pure cl) (nocell : (scope.names.all fun p => !(p.2 == .cell)) = true) (kind : scope.kind = .function)
    (loc : (scope.names.all fun p => !(p.2 == .local) || scope.names.lookup p.1 == some .local) = true) (ownL : scope.names.lookup own = some .local) (has : ((relabel scope X.env).names.all fun p => !(p.2 == .cell || p.2 == .free) || (cl.lookup p.1).isSome) = true) (noown : cl.lookup own = none) : CompOk X scope cl own ys js :=
  ⟨clos, nocell, kind, loc, ownL, s.all, has, noown, nd, a, len⟩
/-! ### the sixteen refusals -/
section
variable {K : PySem.W.Frag} {cs : List Addr} {S C D : Addr} {i j : Nat}
end
end Sw
set_option Elab.async false
set_option linter.all false
set_option maxRecDepth 100000
namespace Sw
open PySem L2 XH
/-! ### own classes: their defs as callers see them -/
structure DxM (P : Program) (w : World) (K : PySem.W.Frag) (mg : Str → Option Value) (base : Heap) (CX : CXT) (k : Nat) (f : Addr) (ps : List Str) (dvs : List V) (sp : Sp) where
  fd : FuncData
  ok : FnOk P w K mg base CX k f fd ps sp
  b : Binds K fd ps []
  bd : ∃ ds, Binds K fd ps ds ∧ Vals dvs ds
/-- o.m(..), the def at f, whatever the class -/
def tMethA (K : PySem.W.Frag) (m : Str) (f : Addr) (sp : Sp) (dvs : List V) (ta : TE) (t : TA) : TE := fun σ H Q => ta σ H fun x H1 => ∃ a C dx fs, x = .ref a ∧ H1 a = some (.ins C dx fs) ∧ Cls K C ∧ Meth K C m f ∧ fs.lookup m = none ∧
  t σ H1 fun vs H2 => sp (x :: (vs ++ dvs)) H2 Q E0
/-- the def m of the class, asked of the class itself -/
structure ClsM (K : PySem.W.Frag) (C : Addr) (m : Str) (f : Addr) : Prop where
  sp : PySem.W.specialIn K (.ref C) "__getattribute__" = some (some (.builtin "type.__getattribute__"))
  rd : PySem.W.readsIn K C (.type "type") = true
  fc : PySem.W.findCls K (.ref C) (.type "type") m = some (.val (.ref f))
  kp : PySem.W.keepIn K (.ref f) = true
section
variable {X : Cx} {k j : Nat} {f C : Addr} {ps : List Str} {sp : Sp} {dvs : List V} {x m : Str} {p pos apos : Pos} {e o : Expr} {es : List Expr} {ta tb : TE} {t : TA}
theorem pmake0 (M : Mk X.K C f) (D : DxM X.prog X.w X.K X.mg X.base CX0 k f ps dvs sp) (hr : Room j X.A) (hk : k + 1 ≤ j) (hg : Gl X x) (hm : X.mg x = some (.ref C)) (ha : PA X (e :: es) t) (hdb : (x == ("__debug__" : Str)) = false := by decide)
    (he : starEach (e :: es) X.env = (false, eval e X.env) :: starEach es X.env := by rfl) (hpl : (backTo pos (starEach es X.env)).any (·.1) = false := by rfl) : PE X (.Call (.Name x p) (e :: es) [] pos) (tMake C sp [] E0 t) :=
  pe_make M D.ok (hr.mono hk) hg hm D.b .nil pass0 ha hdb he hpl
theorem pmake0d (M : Mk X.K C f) (D : DxM X.prog X.w X.K X.mg X.base CX0 k f ps dvs sp) (hr : Room j X.A) (hk : k + 1 ≤ j) (hg : Gl X x) (hm : X.mg x = some (.ref C)) (ha : PA X (e :: es) t) (hdb : (x == ("__debug__" : Str)) = false := by decide)
    (he : starEach (e :: es) X.env = (false, eval e X.env) :: starEach es X.env := by rfl) (hpl : (backTo pos (starEach es X.env)).any (·.1) = false := by rfl) : PE X (.Call (.Name x p) (e :: es) [] pos) (tMake C sp dvs E0 t) := by
  obtain ⟨ds, hb, hv⟩ := D.bd
  exact pe_make M D.ok (hr.mono hk) hg hm hb hv pass0 ha hdb he hpl
theorem pmethZ {pl : Sem Bool} (he : PE X o ta) (D : DxM X.prog X.w X.K X.mg X.base CX0 k f ps dvs sp) (hr : Room j X.A) (hk : k ≤ j)
    (ht : eval (.Call (.Attribute o m apos) [] [] pos) X.env = (do
      let ov ← eval o X.env
      standAt apos.atName
      let (f, first) ← holding [ov] (getMethod ov m pl)
      callWith pos f first (backTo pos (starEach [] X.env)) (backToKw pos (keywordEach [] X.env))) := by rfl) :
    PE X (.Call (.Attribute o m apos) [] [] pos) (tMethA X.K m f sp [] ta tNil) := by
  intro pins s σ H Q I h
  refine PySem.W.methodCall_KW (pl := pl) (thn (he pins s σ H _ I h) fun u s1 ⟨x, H1, I1, rx, a, C, dx, fs, ex, ea, c, hm, l, q⟩ => ?_) ht
  subst ex
  obtain rfl : u = Value.ref a := rx
  refine getmeth_ok I1 ea c hm l ?_
  exact PySem.W.callWith_K0 (first := [.ref a]) I1.kIn hm.kp (run_fn (us := [.ref a]) (vs := [.ref a]) D.ok (hr.mono hk) D.b .nil pass0 I1 (.cons rfl .nil) q)
/-- C.m(self, ..) -/
theorem pclsm {pl : Sem Bool} (M : ClsM X.K C m f) (D : DxM X.prog X.w X.K X.mg X.base CX0 k f ps dvs sp) (hr : Room j X.A) (hk : k ≤ j) (hg : Gl X x) (hm : X.mg x = some (.ref C)) (ha : PA X (e :: es) t) (hdb : (x == ("__debug__" : Str)) = false := by decide)
    (hst : starEach (e :: es) X.env = (false, eval e X.env) :: starEach es X.env := by rfl) (hpl : (backTo pos (starEach es X.env)).any (·.1) = false := by rfl)
    (ht : eval (.Call (.Attribute (.Name x p) m apos) (e :: es) [] pos) X.env = (do
      let ov ← eval (.Name x p) X.env
      standAt apos.atName
      let (f, first) ← holding [ov] (getMethod ov m pl)
      callWith pos f first (backTo pos (starEach (e :: es) X.env)) (backToKw pos (keywordEach [] X.env))) := by rfl) :
    PE X (.Call (.Attribute (.Name x p) m apos) (e :: es) [] pos) (tCall sp [] E0 t) := by
  intro pins s σ H Q I h
  refine PySem.W.methodCall_KW (pl := pl) (ld_glob I hg hm ?_ hdb) ht
  refine PySem.W.method_cls I.kIn M.sp (PySem.W.cls_value I.kIn M.rd M.fc rfl ?_)
  have I1 := I.tok (s.toks + 1)
  refine PySem.W.callWith_K (first := []) (h₀ := X.base) I.ok.mod.kin M.kp (thn (ha pos pins _ σ H _ I1 h) fun us s2 ⟨vs, H2, I2, r, q2⟩ => ⟨I2.kIn, ?_⟩) hst hpl
  exact run_fn D.ok (hr.mono hk) D.b .nil pass0 I2 r q2
/-- one of two readings -/
theorem pe_either {e : Expr} (h1 : PE X e ta) (h2 : PE X e tb) : PE X e (fun σ H Q => ta σ H Q ∨ tb σ H Q) := fun pins s σ H Q I h => h.elim (h1 pins s σ H Q I) (h2 pins s σ H Q I)
end
end Sw
set_option Elab.async false
set_option linter.all false
set_option maxRecDepth 100000
namespace Sw
open PySem L2 XH
/-! ### defs of own classes that may refuse -/
section
variable {X : Cx} {k j : Nat} {f C : Addr} {ps : List Str} {sp : Sp} {dvs : List V} {x m : Str} {p pos apos : Pos} {e o : Expr} {es : List Expr} {ta tb : TE} {t : TA} {E : L2.St → XK}
end
end Sw
set_option Elab.async false
set_option linter.all false
set_option maxRecDepth 100000
namespace L2
open PySem PySem.Spec PyProof.Rows
section
variable {X : Cx} {pins : List (Addr × Obj)} {σ : St} {H : Hp} {s : Shared} {h' : Heap}
end
end L2
set_option Elab.async false
set_option linter.all false
set_option maxRecDepth 100000
namespace L2
open PySem PySem.Spec PyProof.Rows
end L2
set_option Elab.async false
set_option linter.all false
set_option maxRecDepth 100000
namespace L2
open PySem PySem.Spec PyProof.Rows XH
/-! ### a text, walked sign by sign -/
section
variable {X : Cx} {tg : Expr}
end
/-! ### x[lo:hi] of a text -/
def cutS (x : Str) (lo hi : Option Int) : Str := ⟨((x.cps.toList.drop (HT.sIx x.length 0 lo)).take (HT.sIx x.length x.length hi - HT.sIx x.length 0 lo)).toArray⟩
theorem sIdx (lo hi : Option Int) (n : Nat) : Builtin.Str.strSliceIndices lo hi 1 n = (List.range (HT.sIx n n hi - HT.sIx n 0 lo)).map (HT.sIx n 0 lo + ·) := by
  have h1 : (match lo with | none => (0 : Int) | some i => max 0 (min (if i < 0 then i + (n : Int) else i) n)) = ((HT.sIx n 0 lo : Nat) : Int) := by
    cases lo with
    | none => simp [HT.sIx]
    | some i =>
      simp only [HT.sIx]
      by_cases h : i < 0
      · simp only [h, if_true] <;> omega
      · simp only [h, if_false] <;> omega
  have h2 : (match hi with | none => (n : Int) | some i => max 0 (min (if i < 0 then i + (n : Int) else i) n)) = ((HT.sIx n n hi : Nat) : Int) := by
    cases hi with
    | none => simp [HT.sIx]
    | some i =>
      simp only [HT.sIx]
      by_cases h : i < 0
      · simp only [h, if_true] <;> omega
      · simp only [h, if_false] <;> omega
  rw [← sliceRange_one, ← h1, ← h2]
  cases lo <;> cases hi <;> rfl
theorem cutS_picked (x : Str) (l u : Option (Int × Tok)) : (⟨((slicePicked x l u none).filterMap (x.cps[·]?)).toArray⟩ : Str) = cutS x (l.map (·.1)) (u.map (·.1)) := by
  show (⟨((Builtin.Str.strSliceIndices (l.map (·.1)) (u.map (·.1)) 1 x.length).filterMap (x.cps[·]?)).toArray⟩ : Str) = _
  rw [sIdx, pick_run]
  rfl
theorem cutS_length (x : Str) (lo hi : Option Int) : (cutS x lo hi).length ≤ x.length := by
  show ((x.cps.toList.drop _).take _).toArray.size ≤ x.cps.size
  rw [List.size_toArray, List.length_take, List.length_drop]
  simp only [Array.length_toList]
  omega
theorem cutS_whole (x : Str) (l u : Option (Int × Tok)) (h : (slicePicked x l u none).length = x.length) : cutS x (l.map (·.1)) (u.map (·.1)) = x := by
  have h' : (Builtin.Str.strSliceIndices (l.map (·.1)) (u.map (·.1)) 1 x.length).length = x.length := h
  rw [sIdx, List.length_map, List.length_range] at h'
  have hs : HT.sIx x.length x.length (u.map (·.1)) ≤ x.length ∨ x.length < HT.sIx x.length x.length (u.map (·.1)) := by omega
  have hu : HT.sIx x.length x.length (u.map (·.1)) ≤ x.length := by
    cases u with
    | none => exact Nat.le_refl _
    | some p =>
      show (if p.1 < 0 then (p.1 + (x.length : Int)).toNat else min p.1.toNat x.length) ≤ x.length
      by_cases hp : p.1 < 0
      · rw [if_pos hp]; omega
      · rw [if_neg hp]; omega
  unfold cutS
  by_cases hx : x.length = 0
  · have e : x.cps.toList = [] := by
      have : x.cps.toList.length = 0 := by rw [Array.length_toList]; exact hx
      exact List.eq_nil_of_length_eq_zero this
    rw [e, List.drop_nil, List.take_nil]
    obtain ⟨c⟩ := x
    have e' : c = #[] := Array.toList_inj.mp (by simpa using e)
    rw [e']
  · have h0 : HT.sIx x.length 0 (l.map (·.1)) = 0 := by omega
    rw [h0, List.drop_zero, List.take_of_length_le (by rw [Array.length_toList]; show x.length ≤ _; omega)]
theorem part_of {v : Value} {o : Option Int} (p : IsPart v o) : ∃ l : Option (Int × Tok), partValue l = v ∧ l.map (·.1) = o := by
  cases p with
  | none => exact ⟨none, rfl, rfl⟩
  | int i t => exact ⟨some (i, t), rfl, rfl⟩
theorem sl_str {X : Cx} : SlR X (fun x lo hi H Q => ∃ z, x = .str z ∧ z.length ≤ sizeLine ∧ Q (.str (cutS z lo hi)) H) := by
  intro pins s σ H x v vl vu lo hi sl Q I rx hs pl pu h
  obtain ⟨z, rfl, hz, q⟩ := h
  obtain ⟨t, rfl⟩ := rx
  obtain ⟨l, rfl, rfl⟩ := part_of pl
  obtain ⟨u, rfl, rfl⟩ := part_of pu
  refine ⟨"str", _, slot_str_getitem.lookup, typeIs_str s z t, ?_⟩
  refine wpAny_getItem_str_slice (l := l) (u := u) (st := none) hs rfl ?_
  unfold sliceMade
  by_cases hw : (slicePicked z l u none).length = z.length
  · rw [if_pos (by simp [hw])]
    refine ⟨.str (cutS z (l.map (·.1)) (u.map (·.1))), H, I, ⟨t, by rw [cutS_whole z l u hw]⟩, q⟩
  · rw [if_neg (by simp [hw])]
    rw [cutS_picked]
    exact ⟨Nat.le_trans (cutS_length _ _ _) hz, .str (cutS z (l.map (·.1)) (u.map (·.1))), H, I.tok _, ⟨_, rfl⟩, q⟩
/-! ### methods of texts -/
end L2
set_option Elab.async false
set_option linter.all false
set_option maxRecDepth 100000
namespace Sw
open PySem PySem.NumText
/-! ### the figures of a number -/
def dg (n : Nat) : List Nat := (Nat.toDigits 10 n).map Char.toNat
theorem dg_val (n : Nat) : digitsVal (dg n) = n := PySem.W.KIN.val_back n
theorem dg_small {n : Nat} (h : n < 10) : dg n = [48 + n] := by
  unfold dg
  rw [Nat.toDigits_of_lt_base h]
  revert h
  revert n
  decide
theorem dg_big {n : Nat} (h : 10 ≤ n) : dg n = dg (n / 10) ++ [48 + n % 10] := by
  have hm : n % 10 < 10 := Nat.mod_lt _ (by decide)
  rw [← dg_small hm]
  unfold dg
  rw [← List.map_append, Nat.toDigits_append_toDigits (by decide) (by omega) hm, Nat.div_add_mod]
theorem dg_digit (n : Nat) : AllDigits (dg n) := by
  induction n using Nat.strongRecOn with
  | _ n ih =>
    by_cases h : n < 10
    · rw [dg_small h]
      intro c hc
      simp at hc
      omega
    · rw [dg_big (by omega)]
      intro c hc
      rcases List.mem_append.mp hc with z | z
      · exact ih (n / 10) (by omega) c z
      · simp at z
        omega
theorem dg_ne (n : Nat) : dg n ≠ [] := by
  by_cases h : n < 10
  · rw [dg_small h]; simp
  · rw [dg_big (by omega)]; simp
theorem dg_head (n : Nat) : (dg n).head? = some 48 → n = 0 := by
  induction n using Nat.strongRecOn with
  | _ n ih =>
    intro e
    by_cases h : n < 10
    · rw [dg_small h] at e
      simp at e
      exact e
    · rw [dg_big (by omega), List.head?_append] at e
      cases q : (dg (n / 10)).head? with
      | none => exact absurd (List.head?_eq_none_iff.mp q) (dg_ne _)
      | some c =>
        rw [q] at e
        simp at e
        subst e
        have := ih (n / 10) (by omega) q
        omega
theorem dg_zero : dg 0 = [48] := dg_small (by decide)
theorem dg_one : dg 1 = [49] := dg_small (by decide)
theorem dg_len {n : Nat} : ∀ {k : Nat}, n < 10 ^ (k + 1) → (dg n).length ≤ k + 1 := by
  induction n using Nat.strongRecOn with
  | _ n ih =>
    intro k hk
    by_cases h : n < 10
    · rw [dg_small h]; simp
    · rw [dg_big (by omega), List.length_append]
      cases k with
      | zero => omega
      | succ k =>
        have h1 : n / 10 < 10 ^ (k + 1) := by
          rw [Nat.pow_succ 10 (k + 1)] at hk
          generalize 10 ^ (k + 1) = m at *
          omega
        have := ih (n / 10) (by omega) h1
        simp
        omega
theorem dg_no {n c : Nat} (h : c < 48) : c ∉ dg n := fun z => by have := (dg_digit n c z).1; omega
/-! ### a number of a text -/
def Fig (l : List Nat) : Prop := 1 ≤ l.length ∧ l.length ≤ 30 ∧ (l.head? ≠ some 48 ∨ l = [48]) ∧ AllDigits l
open Classical in
noncomputable def fig? (l : List Nat) : Option Nat := if Fig l then some (digitsVal l) else none
theorem fig_dg {n : Nat} (h : (dg n).length ≤ 30) : fig? (dg n) = some n := by
  unfold fig?
  rw [if_pos, dg_val]
  refine ⟨?_, h, ?_, dg_digit n⟩
  · have := dg_ne n
    cases q : dg n with
    | nil => exact absurd q this
    | cons => simp
  · by_cases z : (dg n).head? = some 48
    · exact .inr (by rw [dg_head n z]; exact dg_zero)
    · exact .inl z
theorem fig_long {n : Nat} (h : 30 < (dg n).length) : fig? (dg n) = none := by
  unfold fig?
  rw [if_neg]
  rintro ⟨_, h2, _⟩
  omega
/-! ### a text cut at a sign -/
def cut1 (c : Nat) (l : List Nat) : List Nat × List Nat := (l.takeWhile (· != c), (l.dropWhile (· != c)).tail)
theorem cut_app {c : Nat} {a b : List Nat} (h : c ∉ a) : cut1 c (a ++ c :: b) = (a, b) := by
  unfold cut1
  have p : ∀ x ∈ a, (x != c) = true := fun x hx => by
    rw [bne_iff_ne]
    exact fun z => h (z ▸ hx)
  rw [List.takeWhile_append_of_pos p, List.dropWhile_append_of_pos p]
  simp
/-! ### what is read -/
noncomputable def pair? (a b : List Nat) : Option (Nat × Nat) := match fig? a, fig? b with
  | some n, some m => if m = 0 then none else some (n, m)
  | _, _ => none
noncomputable def term? (l : List Nat) : Option (Nat × Nat) := if 47 ∈ l then pair? (cut1 47 l).1 (cut1 47 l).2 else pair? l [49]
noncomputable def sum? (x y : Option (Nat × Nat)) : Option (Nat × Nat) := match x, y with
  | some (n, m), some (n', m') => some (n * m' + n' * m, m * m')
  | _, _ => none
noncomputable def loose? (l : List Nat) : Option (Nat × Nat) := if 43 ∈ l then sum? (term? (cut1 43 l).1) (term? (cut1 43 l).2) else term? l
def amtL (p q : Nat) : List Nat := if p % q = 0 then dg (p / q) else if p / q = 0 then dg (p % q) ++ 47 :: dg q else dg (p / q) ++ 43 :: (dg (p % q) ++ 47 :: dg q)
structure Reads (l : List Nat) (p q : Nat) : Prop where
  pos : 0 < q
  low : Nat.gcd p q = 1
  ex : ∃ n m, loose? l = some (n, m) ∧ p * m = n * q
  wr : amtL p q = l
theorem term_W (n : Nat) : term? (dg n) = (fig? (dg n)).map fun n => (n, 1) := by
  unfold term?
  rw [if_neg (dg_no (by decide))]
  unfold pair?
  have e : fig? [49] = some 1 := by rw [← dg_one]; exact fig_dg (by rw [dg_one]; decide)
  rw [e]
  cases fig? (dg n) <;> simp
theorem term_TB (t b : Nat) : term? (dg t ++ 47 :: dg b) = pair? (dg t) (dg b) := by
  unfold term?
  rw [if_pos (by simp), cut_app (dg_no (by decide))]
theorem loose_W (n : Nat) : loose? (dg n) = (fig? (dg n)).map fun n => (n, 1) := by
  unfold loose?
  rw [if_neg (dg_no (by decide)), term_W]
theorem no43_TB (t b : Nat) : 43 ∉ dg t ++ 47 :: dg b := by
  intro z
  rcases List.mem_append.mp z with q | q
  · exact dg_no (by decide) q
  · rcases List.mem_cons.mp q with q | q
    · cases q
    · exact dg_no (by decide) q
theorem loose_TB (t b : Nat) : loose? (dg t ++ 47 :: dg b) = pair? (dg t) (dg b) := by
  unfold loose?
  rw [if_neg (no43_TB t b), term_TB]
theorem loose_WTB (w t b : Nat) : loose? (dg w ++ 43 :: (dg t ++ 47 :: dg b)) = sum? ((fig? (dg w)).map fun n => (n, 1)) (pair? (dg t) (dg b)) := by
  unfold loose?
  rw [if_pos (by simp), cut_app (dg_no (by decide)), term_W, term_TB]
theorem pair_dg {t b : Nat} (ht : (dg t).length ≤ 30) (hb : (dg b).length ≤ 30) (b0 : b ≠ 0) : pair? (dg t) (dg b) = some (t, b) := by
  unfold pair?
  rw [fig_dg ht, fig_dg hb]
  simp [b0]
theorem pair_none {t b : Nat} (h : 30 < (dg t).length ∨ 30 < (dg b).length) : pair? (dg t) (dg b) = none := by
  unfold pair?
  rcases h with h | h
  · rw [fig_long h]
  · rw [fig_long h]
    cases fig? (dg t) <;> rfl
end Sw
set_option Elab.async false
set_option linter.all false
set_option maxRecDepth 100000
namespace L2
open PySem PySem.Spec PyProof.Rows XH
section
variable {X : Cx} {a b e o : Expr} {es : List Expr} {t te to : TE} {ta : TA} {pos apos cpos : Pos} {x y : Str}
/-! ### a text with numbers and texts put in -/
def tFmt (t : TE) : TE := fun σ H Q => t σ H fun x H1 => (∃ i, x = .int i ∧ i.natAbs.log2 < 1920 ∧ Q (.str (toString i)) H1) ∨ ∃ z, x = .str z ∧ z.length ≤ sizeLine ∧ Q (.str z) H1
theorem pe_fmt (h : PE X e t) : PE X (.FormattedValue e (-1) none pos) (tFmt t) := by
  intro pins s σ H Q I q
  refine FormattedValue_plain (thn (h pins s σ H _ I q) fun v s1 ⟨x, H1, I1, r1, q1⟩ => ?_)
  rcases q1 with ⟨i, rfl, hi, q⟩ | ⟨z, rfl, hz, q⟩
  · obtain ⟨t, rfl⟩ := r1
    exact formatField_int_small hi ⟨.str _, H1, I1.tok _, ⟨_, rfl⟩, q⟩
  · obtain ⟨t, rfl⟩ := r1
    exact formatField_str (fun t' tk => ⟨.str z, H1, I1.tok _, ⟨_, rfl⟩, q⟩) hz
def PJ (X : Cx) (es : List Expr) (t : Str → TE) : Prop := ∀ (out : Str) (pins : List (Addr × Obj)) (s : Shared) (σ : St) (H : Hp) (Q : VK), Inv X pins σ H s → t out σ H Q →
  wpAny (model X.prog X.w) X.A (joinParts out (evalEach es X.env)) (EP X pins σ Q) X.xe s
def jNil : Str → TE := fun out σ H Q => out.length ≤ sizeLine ∧ Q (.str out) H
theorem pj_nil : PJ X [] jNil := fun out pins s σ H Q I h => joinParts_nil ⟨.str out, H, I.tok _, ⟨_, rfl⟩, h.2⟩ h.1
def jCons (te : TE) (tr : Str → TE) : Str → TE := fun out σ H Q => te σ H fun x H1 => ∃ y, x = .str y ∧ (out ++ y).length ≤ sizeLine ∧ tr (out ++ y) σ H1 Q
theorem pj_cons {tr : Str → TE} (he : PE X e te) (hr : PJ X es tr) : PJ X (e :: es) (jCons te tr) := by
  intro out pins s σ H Q I h
  refine joinParts_cons (thn (he pins s σ H _ I h) fun v s1 ⟨x, H1, I1, r1, y, e, hz, q⟩ => ?_)
  subst e
  obtain ⟨t, rfl⟩ := r1
  exact ⟨hz, hr _ pins s1 σ H1 Q I1 q⟩
def tJoin (t : Str → TE) : TE := t Str.empty
theorem pe_join {t : Str → TE} (h : PJ X (a :: b :: es) t) : PE X (.JoinedStr (a :: b :: es) pos) (tJoin t) := fun pins s σ H Q I q => JoinedStr_many (h Str.empty pins s σ H Q I q)
/-! ### int(text), max(list), values of the file's top -/
/-! ### tuples of numbers that are alike -/
/-! ### a list walked in a comprehension -/
/-! ### split -/
/-! ### replace: the two texts must be made behind something else -/
end
end L2
set_option Elab.async false
set_option linter.all false
set_option maxRecDepth 100000
namespace L2
open PySem PySem.Spec PyProof.Rows XH
/-! ### a dict, walked key by key; while it is walked it is known to the object -/
section
variable {X : Cx} {tg : Expr}
end
end L2
set_option Elab.async false
set_option linter.all false
set_option maxRecDepth 100000
namespace L2
open PySem PySem.Spec PyProof.Rows XH
section
variable {X : Cx} {a b c d : Expr} {ta tb tc td : TE} {pos : Pos}
end
end L2
set_option Elab.async false
set_option linter.all false
set_option maxRecDepth 100000
namespace So
open PySem PyProof.Rows
section
variable {prog : Program} {w : World} {A : Around} {E : Value → Shared → Prop} {s : Shared} {κ : KeyKind} {kd : SortKind}
end
end So
set_option Elab.async false
set_option linter.all false
set_option maxRecDepth 100000
namespace So
open PySem PyProof.Rows
section
variable {κ : KeyKind} {kd : SortKind} {a b out : Array Keyed} {ia ib : Nat}
end
end So
set_option Elab.async false
set_option linter.all false
set_option maxRecDepth 100000
namespace So
open PySem PyProof.Rows
section
variable {prog : Program} {w : World} {A : Around} {E : Value → Shared → Prop} {s : Shared} {κ : KeyKind} {kd : SortKind}
end
end So
set_option Elab.async false
set_option linter.all false
set_option maxRecDepth 100000
namespace So
open PySem PyProof.Rows
section
variable {κ : KeyKind} {kd : SortKind} {a b out : Array Keyed} {na nb : Nat}
end
section
variable {prog : Program} {w : World} {A : Around} {E : Value → Shared → Prop} {s : Shared} {κ : KeyKind} {kd : SortKind}
end
end So
set_option Elab.async false
set_option linter.all false
set_option maxRecDepth 100000
namespace So
open PySem PyProof.Rows
section
variable {prog : Program} {w : World} {A : Around} {E : Value → Shared → Prop} {s : Shared} {κ : KeyKind} {kd : SortKind}
end
section
variable {prog : Program} {w : World} {A : Around} {E : Value → Shared → Prop} {s : Shared} {κ : KeyKind} {kd : SortKind}
end
end So
set_option Elab.async false
set_option linter.all false
set_option maxRecDepth 100000
namespace So
open PySem PyProof.Rows
section
variable {prog : Program} {w : World} {A : Around} {E : Value → Shared → Prop} {s : Shared} {κ : KeyKind} {kd : SortKind}
end
end So
set_option Elab.async false
set_option linter.all false
set_option maxRecDepth 100000
namespace So
open PySem PyProof.Rows
section
variable {prog : Program} {w : World} {A : Around} {E : Value → Shared → Prop} {s : Shared} {κ : KeyKind} {kd : SortKind}
end
end So
set_option Elab.async false
set_option linter.all false
set_option maxRecDepth 100000
namespace So
open PySem PyProof.Rows
/-! ### the runs that wait -/
section
variable {κ : KeyKind} {kd : SortKind}
end
section
variable {prog : Program} {w : World} {A : Around} {E : Value → Shared → Prop} {s : Shared} {κ : KeyKind} {kd : SortKind}
end
end So
set_option Elab.async false
set_option linter.all false
set_option maxRecDepth 100000
namespace So
open PySem PyProof.Rows
section
variable {prog : Program} {w : World} {A : Around} {E : Value → Shared → Prop} {s : Shared} {κ : KeyKind} {kd : SortKind}
end
end So
set_option Elab.async false
set_option linter.all false
set_option maxRecDepth 100000
namespace So
open PySem PyProof.Rows
section
variable {prog : Program} {w : World} {A : Around} {E : Value → Shared → Prop} {s : Shared} {κ : KeyKind}
end
end So
set_option Elab.async false
set_option linter.all false
set_option maxRecDepth 100000
namespace Sw
open PySem L2 XH PySem.NumText
/-! ### texts and their signs -/
def sL (z : Str) : List Nat := z.cps.toList
def mkS (l : List Nat) : Str := ⟨l.toArray⟩
theorem sL_mk (l : List Nat) : sL (mkS l) = l := by simp [sL, mkS]
theorem mk_sL (z : Str) : mkS (sL z) = z := by simp [sL, mkS]
theorem sL_inj {x y : Str} (h : sL x = sL y) : x = y := by rw [← mk_sL x, ← mk_sL y, h]
theorem sL_len (z : Str) : (sL z).length = z.length := by simp [sL, Str.length]
theorem mk_len (l : List Nat) : (mkS l).length = l.length := by rw [← sL_len, sL_mk]
theorem sL_app (x y : Str) : sL (x ++ y) = sL x ++ sL y := by
  show (x.cps ++ y.cps).toList = _
  rw [Array.toList_append]
  rfl
theorem mk_app (a b : List Nat) : mkS a ++ mkS b = mkS (a ++ b) := sL_inj (by rw [sL_app, sL_mk, sL_mk, sL_mk])
theorem str_num (n : Nat) : Str.ofString (toString ((n : Nat) : Int)) = mkS (dg n) := sL_inj (by rw [sL_mk]; exact PySem.W.KIN.signs_num n)
theorem empty_mk : Str.empty = mkS [] := rfl
theorem one_mk (c : Nat) : (⟨#[c]⟩ : Str) = mkS [c] := rfl
theorem slash_mk : (Str.ofString "/") = mkS [47] := by decide
theorem plus_mk : (Str.ofString "+") = mkS [43] := by decide
/-! ### a text split at a sign -/
theorem join_cons2 (s x y : Str) (r : List Str) : Str.join s (x :: y :: r) = x ++ s ++ Str.join s (y :: r) := rfl
theorem join_inj (c : Nat) : ∀ (xs ys : List Str), xs ≠ [] → ys ≠ [] → (∀ x ∈ xs, c ∉ sL x) → (∀ y ∈ ys, c ∉ sL y) → Str.join (mkS [c]) xs = Str.join (mkS [c]) ys → xs = ys
  | [], _, h, _, _, _, _ => absurd rfl h
  | _, [], _, h, _, _, _ => absurd rfl h
  | [x], [y], _, _, _, _, e => by
    have e' : x = y := e
    rw [e']
  | [x], y :: z :: r, _, _, hx, _, e => by
    exfalso
    have e' : x = y ++ mkS [c] ++ Str.join (mkS [c]) (z :: r) := e
    refine hx x (by simp) ?_
    rw [e', sL_app, sL_app, sL_mk]
    simp
  | x :: z :: r, [y], _, _, _, hy, e => by
    exfalso
    have e' : x ++ mkS [c] ++ Str.join (mkS [c]) (z :: r) = y := e
    refine hy y (by simp) ?_
    rw [← e', sL_app, sL_app, sL_mk]
    simp
  | x :: x' :: r, y :: y' :: r', _, _, hx, hy, e => by
    rw [join_cons2, join_cons2] at e
    have e1 := congrArg sL e
    rw [sL_app, sL_app, sL_app, sL_app, sL_mk, List.append_assoc, List.append_assoc] at e1
    have e2 := congrArg (cut1 c) e1
    simp only [List.cons_append, List.nil_append] at e2
    rw [cut_app (hx x (by simp)), cut_app (hy y (by simp))] at e2
    injection e2 with e3 e4
    have ih := join_inj c (x' :: r) (y' :: r') (by simp) (by simp) (fun z hz => hx z (by simp at hz ⊢; exact .inr hz)) (fun z hz => hy z (by simp at hz ⊢; exact .inr hz)) (sL_inj e4)
    rw [sL_inj e3, ih]
theorem split_ne (x : Str) (c : Nat) : Txt.split x (mkS [c]) ≠ [] := by
  unfold Txt.split
  split
  · simp
  · split
    · simp
    · rw [StrLaws.partsBetween_eq]
      obtain ⟨p, r, e⟩ := StrLaws.partsFrom_ne x (mkS [c]).length 0 (Builtin.Str.occurrences x (mkS [c]) 0 x.length (x.length + 1))
      rw [e]
      simp
theorem split_of {c : Nat} {ws : List Str} (ne : ws ≠ []) (free : ∀ w ∈ ws, c ∉ sL w) : Txt.split (Str.join (mkS [c]) ws) (mkS [c]) = ws :=
  join_inj c _ _ (split_ne _ c) ne (StrLaws.split_free _ c) free (StrLaws.join_split _ _)
theorem split_none {c : Nat} {w : Str} (h : c ∉ sL w) : Txt.split w (mkS [c]) = [w] := split_of (ws := [w]) (by simp) (by simpa using h)
theorem repl_of {c : Nat} {ws : List Str} (z : Str) (ne : ws ≠ []) (free : ∀ w ∈ ws, c ∉ sL w) : Txt.replace (Str.join (mkS [c]) ws) (mkS [c]) z = Str.join z ws := by
  show Txt.replace (Str.join (mkS [c]) ws) ⟨#[c]⟩ z = _
  rw [StrLaws.replace_one]
  show Str.join z (Txt.split _ (mkS [c])) = _
  rw [split_of ne free]
theorem repl_none {c : Nat} {w : Str} (z : Str) (h : c ∉ sL w) : Txt.replace w (mkS [c]) z = w := repl_of (ws := [w]) z (by simp) (by simpa using h)
/-! ### promises -/
def spAmt (K : PySem.W.Frag) : Sp := fun vs H Q _ => ∃ (t : Addr) (p q : Nat), vs = [.ref t] ∧ FrIn K 1900 H t p q ∧ Q (.str (mkS (amtL p q))) H
end Sw
namespace Sw
open PySem L2 XH PySem.NumText
theorem lg {n : Nat} (h : n < 2 ^ 1900) : (n : Int).natAbs.log2 < 1920 := by
  rw [Int.natAbs_natCast]
  by_cases z : n = 0
  · subst z; decide
  · exact Nat.lt_trans ((Nat.log2_lt z).mpr h) (by decide)
theorem dg_len' {n : Nat} (h : n < 2 ^ 1900) : (dg n).length ≤ 600 := dg_len (k := 599) (Nat.lt_of_lt_of_le h (by decide))
theorem fdiv_nat (p q : Nat) : (p : Int).fdiv q = ((p / q : Nat) : Int) := by
  rw [Int.fdiv_eq_ediv_of_nonneg _ (Int.natCast_nonneg q)]
  rfl
theorem sub_nat (p q : Nat) : (p : Int) - ((p / q : Nat) : Int) * (q : Int) = ((p % q : Nat) : Int) := by
  have h := Nat.div_add_mod p q
  have e : (((p / q : Nat) : Int) * (q : Int)) = ((q * (p / q) : Nat) : Int) := by rw [Nat.mul_comm, Int.natCast_mul]
  rw [e]
  omega
theorem bdN {n : Nat} {k : Nat} (h : n < 2 ^ k) : Bd k (n : Int) := by
  show (n : Int).natAbs < 2 ^ k
  rw [Int.natAbs_natCast]
  exact h
theorem bdN' {n k : Nat} (h : Bd k (n : Int)) : n < 2 ^ k := by
  have h : (n : Int).natAbs < 2 ^ k := h
  rw [Int.natAbs_natCast] at h
  exact h
end Sw
namespace Sw
open PySem L2 XH PySem.NumText
structure Am (p q : Nat) (ns : List Nat) : Prop where
  pos : 0 < q
  low : Nat.gcd p q = 1
  bp : p < 2 ^ 1900
  bq : q < 2 ^ 1900
  ne : ns ≠ []
  spl : Txt.split (Txt.replace (mkS (amtL p q)) (mkS [43]) (mkS [47])) (mkS [47]) = ns.map fun n => mkS (dg n)
  len : (amtL p q).length ≤ 2000
  rl : (Txt.replace (mkS (amtL p q)) (mkS [43]) (mkS [47])).length ≤ 2000
  few : ns.length ≤ 3
  bd : ∀ n ∈ ns, n < 2 ^ 1900
  ok : (∀ n ∈ ns, (dg n).length ≤ 30) → Reads (amtL p q) p q
  no : ∀ n ∈ ns, 30 < (dg n).length → ∀ p' q', ¬ Reads (amtL p q) p' q'
theorem no_mk {c n : Nat} (h : c < 48) : c ∉ sL (mkS (dg n)) := by rw [sL_mk]; exact dg_no h
theorem amt_W (w : Nat) : amtL w 1 = dg w := by
  unfold amtL
  rw [Nat.mod_one, if_pos rfl, Nat.div_one]
theorem amt_TB {t b : Nat} (t0 : t ≠ 0) (lt : t < b) : amtL t b = dg t ++ 47 :: dg b := by
  unfold amtL
  rw [Nat.mod_eq_of_lt lt, if_neg t0, Nat.div_eq_of_lt lt, if_pos rfl]
theorem amt_WTB {w t b : Nat} (w0 : w ≠ 0) (t0 : t ≠ 0) (lt : t < b) : amtL (w * b + t) b = dg w ++ 43 :: (dg t ++ 47 :: dg b) := by
  have hd : (w * b + t) / b = w := by
    rw [Nat.mul_comm, Nat.mul_add_div (by omega), Nat.div_eq_of_lt lt]
    rfl
  have hm : (w * b + t) % b = t := by rw [Nat.mul_comm, Nat.mul_add_mod, Nat.mod_eq_of_lt lt]
  unfold amtL
  rw [hm, hd, if_neg t0, if_neg w0]
theorem gcd_add (w : Nat) {t b : Nat} (g : Nat.gcd b t = 1) : Nat.gcd (w * b + t) b = 1 := by
  rw [Nat.gcd_comm, Nat.gcd_rec]
  have hm : (w * b + t) % b = t % b := by rw [Nat.mul_comm, Nat.mul_add_mod]
  rw [hm, ← Nat.gcd_rec]
  exact g
theorem am_W {w : Nat} (h : w < 2 ^ 1900) : Am w 1 [w] where
  pos := by decide
  low := Nat.gcd_one_right _
  bp := h
  bq := by decide
  ne := by simp
  spl := by rw [amt_W, repl_none _ (no_mk (by decide)), split_none (no_mk (by decide))]; rfl
  len := by rw [amt_W]; have := dg_len' h; omega
  rl := by rw [amt_W, repl_none _ (no_mk (by decide)), mk_len]; have := dg_len' h; omega
  few := by simp
  bd := by intro n hn; simp at hn; rw [hn]; exact h
  ok := fun k => ⟨by decide, Nat.gcd_one_right _, ⟨w, 1, by rw [amt_W, loose_W, fig_dg (k w (by simp))]; rfl, rfl⟩, rfl⟩
  no := fun n hn l p' q' r => by
    have e : n = w := by simpa using hn
    subst e
    obtain ⟨a, b, e, _⟩ := r.ex
    rw [amt_W, loose_W, fig_long l] at e
    cases e
theorem am_TB {t b : Nat} (t0 : t ≠ 0) (lt : t < b) (g : Nat.gcd b t = 1) (h : b < 2 ^ 1900) : Am t b [t, b] where
  pos := by omega
  low := by rw [Nat.gcd_comm]; exact g
  bp := Nat.lt_trans lt h
  bq := h
  ne := by simp
  spl := by
    rw [amt_TB t0 lt, repl_none _ (by rw [sL_mk]; exact no43_TB t b)]
    have e : mkS (dg t ++ 47 :: dg b) = Str.join (mkS [47]) [mkS (dg t), mkS (dg b)] := by
      show _ = mkS (dg t) ++ mkS [47] ++ mkS (dg b)
      rw [mk_app, mk_app, List.append_assoc]
      rfl
    rw [e, split_of (by simp)]
    · rfl
    · intro w hw
      simp at hw
      rcases hw with rfl | rfl
      · exact no_mk (by decide)
      · exact no_mk (by decide)
  len := by
    rw [amt_TB t0 lt, List.length_append, List.length_cons]
    have := dg_len' h
    have := dg_len' (Nat.lt_trans lt h)
    omega
  rl := by
    rw [amt_TB t0 lt, repl_none _ (by rw [sL_mk]; exact no43_TB t b), mk_len, List.length_append, List.length_cons]
    have := dg_len' h
    have := dg_len' (Nat.lt_trans lt h)
    omega
  few := by simp
  bd := by
    intro n hn
    simp at hn
    rcases hn with rfl | rfl
    · exact Nat.lt_trans lt h
    · exact h
  ok := fun k => ⟨by omega, by rw [Nat.gcd_comm]; exact g, ⟨t, b, by rw [amt_TB t0 lt, loose_TB, pair_dg (k t (by simp)) (k b (by simp)) (by omega)], rfl⟩, rfl⟩
  no := fun n hn l p' q' r => by
    obtain ⟨a, c, e, _⟩ := r.ex
    rw [amt_TB t0 lt, loose_TB, pair_none (by
      simp at hn
      rcases hn with rfl | rfl
      · exact .inl l
      · exact .inr l)] at e
    cases e
theorem am_WTB {w t b : Nat} (w0 : w ≠ 0) (t0 : t ≠ 0) (lt : t < b) (g : Nat.gcd b t = 1) (h : b < 2 ^ 1900) (hp : w * b + t < 2 ^ 1900) : Am (w * b + t) b [w, t, b] where
  pos := by omega
  low := gcd_add w g
  bp := hp
  bq := h
  ne := by simp
  spl := by
    have e : mkS (dg w ++ 43 :: (dg t ++ 47 :: dg b)) = Str.join (mkS [43]) [mkS (dg w), mkS (dg t ++ 47 :: dg b)] := by
      show _ = mkS (dg w) ++ mkS [43] ++ mkS (dg t ++ 47 :: dg b)
      rw [mk_app, mk_app, List.append_assoc]
      rfl
    rw [amt_WTB w0 t0 lt, e, repl_of _ (by simp)]
    · have e2 : Str.join (mkS [47]) [mkS (dg w), mkS (dg t ++ 47 :: dg b)] = Str.join (mkS [47]) [mkS (dg w), mkS (dg t), mkS (dg b)] := by
        show mkS (dg w) ++ mkS [47] ++ mkS (dg t ++ 47 :: dg b) = mkS (dg w) ++ mkS [47] ++ (mkS (dg t) ++ mkS [47] ++ mkS (dg b))
        simp only [mk_app]
        simp
      rw [e2, split_of (by simp)]
      · rfl
      · intro x hx
        simp at hx
        rcases hx with rfl | rfl | rfl
        · exact no_mk (by decide)
        · exact no_mk (by decide)
        · exact no_mk (by decide)
    · intro x hx
      simp at hx
      rcases hx with rfl | rfl
      · exact no_mk (by decide)
      · rw [sL_mk]; exact no43_TB t b
  len := by
    rw [amt_WTB w0 t0 lt, List.length_append, List.length_cons, List.length_append, List.length_cons]
    have := dg_len' h
    have := dg_len' (Nat.lt_trans lt h)
    have hw : w < 2 ^ 1900 := Nat.lt_of_le_of_lt (Nat.le_trans (Nat.le_mul_of_pos_right w (by omega)) (Nat.le_add_right _ t)) hp
    have := dg_len' hw
    omega
  rl := by
    have e : mkS (dg w ++ 43 :: (dg t ++ 47 :: dg b)) = Str.join (mkS [43]) [mkS (dg w), mkS (dg t ++ 47 :: dg b)] := by
      show _ = mkS (dg w) ++ mkS [43] ++ mkS (dg t ++ 47 :: dg b)
      rw [mk_app, mk_app, List.append_assoc]
      rfl
    have hw : w < 2 ^ 1900 := Nat.lt_of_le_of_lt (Nat.le_trans (Nat.le_mul_of_pos_right w (by omega)) (Nat.le_add_right _ t)) hp
    have := dg_len' h
    have := dg_len' (Nat.lt_trans lt h)
    have := dg_len' hw
    rw [amt_WTB w0 t0 lt, e, repl_of _ (by simp)]
    · show (mkS (dg w) ++ mkS [47] ++ mkS (dg t ++ 47 :: dg b)).length ≤ 2000
      rw [mk_app, mk_app, mk_len]
      simp
      omega
    · intro x hx
      simp at hx
      rcases hx with rfl | rfl
      · exact no_mk (by decide)
      · rw [sL_mk]; exact no43_TB t b
  few := by simp
  bd := by
    intro n hn
    simp at hn
    have hw : w < 2 ^ 1900 := Nat.lt_of_le_of_lt (Nat.le_trans (Nat.le_mul_of_pos_right w (by omega)) (Nat.le_add_right _ t)) hp
    rcases hn with rfl | rfl | rfl
    · exact hw
    · exact Nat.lt_trans lt h
    · exact h
  ok := fun k => ⟨by omega, gcd_add w g, ⟨w * b + t * 1, 1 * b, by rw [amt_WTB w0 t0 lt, loose_WTB, fig_dg (k w (by simp)), pair_dg (k t (by simp)) (k b (by simp)) (by omega)]; rfl, by rw [Nat.one_mul, Nat.mul_one]⟩, rfl⟩
  no := fun n hn l p' q' r => by
    obtain ⟨a, c, e, _⟩ := r.ex
    rw [amt_WTB w0 t0 lt, loose_WTB] at e
    simp at hn
    rcases hn with rfl | rfl | rfl
    · rw [fig_long l] at e; cases e
    · rw [pair_none (.inl l)] at e
      cases z : fig? (dg w) with
      | none => rw [z] at e; cases e
      | some => rw [z] at e; cases e
    · rw [pair_none (.inr l)] at e
      cases z : fig? (dg w) with
      | none => rw [z] at e; cases e
      | some => rw [z] at e; cases e
theorem nums_cut {x y : Int} (h : 0 < x) (h2 : x < y) (h3 : y < 10 ^ 120) : 0 < gcdI y x ∧ Bd 400 (gcdI y x) ∧ ∃ t b : Nat, x.fdiv (gcdI y x) = t ∧ y.fdiv (gcdI y x) = b ∧ t ≠ 0 ∧ t < b ∧ Nat.gcd b t = 1 ∧ b < 10 ^ 120 := by
  have g0 : gcdI y x ≠ 0 := fun z => by have := (gcdI_eq_zero z).2; omega
  have gp : 0 < gcdI y x := by have := gcdI_nn y x; omega
  have c := gcdI_cut g0
  obtain ⟨k, hk⟩ := gcdI_dvd_r y x
  obtain ⟨m, hm⟩ := gcdI_dvd_l y x
  have e1 : x.fdiv (gcdI y x) = k := by
    rw [Int.fdiv_eq_ediv_of_nonneg _ (Int.le_of_lt gp)]
    conv => lhs; arg 1; rw [hk]
    exact Int.mul_ediv_cancel_left k g0
  have e2 : y.fdiv (gcdI y x) = m := by
    rw [Int.fdiv_eq_ediv_of_nonneg _ (Int.le_of_lt gp)]
    conv => lhs; arg 1; rw [hm]
    exact Int.mul_ediv_cancel_left m g0
  have kp : 0 < k := Int.pos_of_mul_pos_right (by rw [← hk]; exact h) gp
  have km : k < m := by
    have : gcdI y x * k < gcdI y x * m := by rw [← hk, ← hm]; exact h2
    exact Int.lt_of_mul_lt_mul_left this (Int.le_of_lt gp)
  have my : m ≤ y := by
    have h1 : 1 * m ≤ gcdI y x * m := Int.mul_le_mul_of_nonneg_right (by omega) (by omega)
    rw [← hm] at h1
    omega
  have gy : gcdI y x ≤ y := Int.le_of_dvd (by omega) (gcdI_dvd_l y x)
  refine ⟨gp, ?_, k.toNat, m.toNat, by rw [e1]; omega, by rw [e2]; omega, by omega, by omega, ?_, by omega⟩
  · show (gcdI y x).natAbs < 2 ^ 400
    have : (10 : Int) ^ 120 ≤ 2 ^ 400 := by decide
    omega
  · rw [e1, e2] at c
    have : gcdI m k = ((Nat.gcd m.natAbs k.natAbs : Nat) : Int) := rfl
    rw [this] at c
    have em : m.natAbs = m.toNat := by omega
    have ek : k.natAbs = k.toNat := by omega
    rw [em, ek] at c
    omega
end Sw
namespace Sw
open PySem L2 XH PySem.NumText
end Sw
namespace Sw
open PySem L2 XH PySem.NumText
end Sw
namespace Sw
open PySem L2 XH PySem.NumText
end Sw
set_option Elab.async false
set_option linter.all false
set_option maxRecDepth 100000
namespace L2
open PySem PySem.Spec PyProof.Rows XH
/-! ### list comprehensions with one test -/
section
variable {prog : Program} {w : World} {A : Around} {R : Result → Shared → Prop} {s : Shared}
end
section
variable {X : Cx} {scope : Scope} {cl : List (Str × Addr)} {own : Str} {ys : List Str} {js : List Nat} {elt iter cond : Expr} {px pos : Pos} {wi : TI} {te : TE} {tc : TT}
end
end L2
set_option Elab.async false
set_option linter.all false
set_option maxRecDepth 100000
namespace L2
open PySem PySem.Spec PyProof.Rows XH
/-! ### setdefault -/
section
variable {X : Cx}
end
/-! ### dicts that are alike -/
section
variable {prog : Program} {w : World} {κ : Type} [DecidableEq κ] {knd : KeyKind prog w κ} {A : Around} {E : Value → Shared → Prop} {s : Shared}
end
end L2
set_option Elab.async false
set_option linter.all false
set_option maxRecDepth 100000
namespace L2
open PySem PySem.Spec PyProof.Rows XH
/-! ### list(reversed(xs)) -/
section
variable {prog : Program} {w : World} {A : Around} {R : Result → Shared → Prop} {s : Shared} {I l S : Addr} {items : Array Value}
end
section
variable {X : Cx} {e : Expr} {te : TE} {p1 p2 pos pos2 : Pos}
end
end L2
set_option Elab.async false
set_option linter.all false
set_option maxRecDepth 100000
namespace L2
open PySem PySem.Spec PyProof.Rows XH
/-! ### set(xs) of texts and numbers that are all unlike -/
section
variable {prog : Program} {w : World} {A : Around} {R : Result → Shared → Prop} {I : Addr} {fp wr : List Addr} {G : Array GenState → Array GenState → Prop} {n : Nat} {P : Nat → Value → Prop} {St : Nat → Shared → Prop}
end
section
variable {prog : Program} {w : World} {A : Around} {E : Value → Shared → Prop} {s : Shared}
end
end L2
namespace L2
open PySem PySem.Spec PyProof.Rows XH
/-! ### len(set(xs)) -/
section
variable {X : Cx} {e : Expr} {te : TE} {p1 p2 pos pos2 : Pos}
end
end L2
set_option Elab.async false
set_option linter.all false
set_option maxRecDepth 100000
namespace L2
open PySem PySem.Spec PyProof.Rows XH
end L2
namespace Sw
open PySem L2
/-! ### what parts lead to -/
/-! ### dicts with one value for all keys -/
/-! ### how many of a list are not yet there -/
/-! ### a list of pairs -/
end Sw
namespace Sw
open PySem L2
end Sw
set_option Elab.async false
set_option linter.all false
set_option maxRecDepth 100000
namespace Sw
open PySem L2
/-! ### parts as a dict of dicts -/
/-! ### as it lies in the heap -/
end Sw
set_option Elab.async false
set_option linter.all false
set_option maxRecDepth 100000
namespace Sw
open PySem L2
/-! ### all that is in a good, each with the one ahead of it -/
end Sw
set_option Elab.async false
set_option linter.all false
set_option maxRecDepth 100000
namespace Sw
open PySem L2
/-! ### a way down, kept from its end -/
end Sw
set_option Elab.async false
set_option linter.all false
set_option maxRecDepth 100000
namespace L2
open PySem PySem.Spec PyProof.Rows XH
section
variable {X : Cx} {scope : Scope} {cl : List (Str × Addr)} {own : Str} {ys : List Str} {js : List Nat} {elt iter cond : Expr} {px pos : Pos} {wi : TI} {te : TE} {tc : TT}
end
end L2
set_option Elab.async false
set_option linter.all false
set_option maxRecDepth 100000
namespace L2
open PySem PySem.Spec PyProof.Rows XH
/-! ### x == [] -/
theorem op_eqNil {X : Cx} (hu : X.A.units < cLine) : OpR X (compareOp .Eq) (fun x y H Q => ∃ a b zs, x = .ref a ∧ y = .ref b ∧ SqL X.K H a zs ∧ SqL X.K H b [] ∧ Q (.bl zs.isEmpty) H) := by
  intro pins s σ H x y v u Q I rx ry h
  obtain ⟨a, b, zs, rfl, rfl, h1, h2, hq⟩ := h
  cases rx
  cases ry
  obtain ⟨i1, r1, p1, _⟩ := I.list h1
  obtain ⟨i2, r2, p2, _⟩ := I.list h2
  cases r2
  cases zs with
  | nil =>
    cases r1
    refine SeqAt.eq_listAt (e := fun _ => true) p1.isList p2.isList rfl hu (fun j g1 g2 => absurd g1 (by simp)) ?_
    exact ⟨.bl true, H, I, by show Value.bool _ = Value.bool _; simp, hq⟩
  | cons z zs =>
    cases r1 with
    | cons r rr =>
      refine SeqAt.eq_list_lengthsAt p1.isList p2.isList (by simp) hu ?_
      exact ⟨.bl false, H, I, rfl, hq⟩
/-! ### comprehensions with a test that changes nothing -/
end L2
namespace Sw
open PySem L2 PyProof.Rows
/-! ### dicts of dicts that are alike -/
/-! ### a way down to one of the goals -/
end Sw
set_option Elab.async false
set_option linter.all false
set_option maxRecDepth 100000
namespace Sw
open PySem L2 PyProof.Rows
end Sw
set_option Elab.async false
set_option linter.all false
set_option maxRecDepth 100000
namespace L2
open PySem PySem.Spec PyProof.Rows XH Sw So
end L2
set_option Elab.async false
set_option linter.all false
set_option maxRecDepth 100000
namespace So
open PySem PySem.Spec PyProof.Rows
end So
set_option Elab.async false
set_option linter.all false
set_option maxRecDepth 100000
namespace So
open PySem PyProof.Rows
section
variable {prog : Program} {w : World} {A : Around} {E : Value → Shared → Prop} {s : Shared} {κ : KeyKind} {kd : SortKind}
end
end So
set_option Elab.async false
set_option linter.all false
set_option maxRecDepth 100000
namespace L2
open PySem PySem.Spec PyProof.Rows XH Sw So
section
variable {prog : Program} {w : World} {A : Around} {E : Value → Shared → Prop} {s : Shared}
end
end L2
set_option Elab.async false
set_option linter.all false
set_option maxRecDepth 100000
namespace L2
open PySem PySem.Spec PyProof.Rows XH Sw So
end L2
set_option Elab.async false
set_option linter.all false
namespace Hm
/-! ### things of a heap, by their numbers; the order of them -/
/-! ### the heap -/
end Hm
set_option Elab.async false
set_option linter.all false
set_option maxRecDepth 100000
namespace Hm
open PySem PySem.SeqAt PySem.MeetsSeq
/-! ### less than, of tuples of whole numbers -/
section
variable {prog : Program} {w : World} {A : Around} {E : Value → Shared → Prop} {s : Shared}
end
end Hm
set_option Elab.async false
set_option linter.all false
set_option maxRecDepth 100000
namespace L2
open PySem PySem.Spec PyProof.Rows XH Sw So Hm
/-! ### things: whole numbers, or tuples of such -/
section
variable {prog : Program} {w : World} {A : Around} {E : Value → Shared → Prop} {s : Shared}
end
end L2
set_option Elab.async false
set_option linter.all false
set_option maxRecDepth 100000
namespace L2
open PySem PySem.Spec PyProof.Rows XH
section
variable {X : Cx} {scope : Scope} {cl : List (Str × Addr)} {own : Str} {ys : List Str} {js : List Nat} {elt iter : Expr} {px pos : Pos} {wi : TI} {te : TE}
theorem ps_compA {i : Nat} {y : Str} {py spos : Pos} (hN : X.N.Nodup) (hi' : X.N[i]? = some y) (hy : X.env.scope.names.lookup y = some .local) (hc : X.calm = true) (ok : CompOk X scope cl own ys js) (hi : PI X (.Name own px) iter wi)
    (he : ∀ (C : Addr) (fp : List Addr) (s : Shared) (H : Hp), PE (X.block scope cl C (own :: ys) own fp s H) elt te)
    (hsw : swapsWith (.ListComp elt [⟨.Name own px, iter, [], 0⟩] scope pos) (some (.Name y py)) spos.line X.env = pure true := by rfl) (hs : ∀ x, foldedSetIterable iter X.env x = pure x := by intro _; rfl) :
    PS X (.Assign [.Name y py] (.ListComp elt [⟨.Name own px, iter, [], 0⟩] scope pos) spos) (tAsg (tComp wi js te) (gName i)) := by
  intro pins s σ H D I h
  have ncell : ∀ y ∈ scope.names, y.2 ≠ .cell := fun y hy z => by
    have q := List.all_eq_true.mp ok.nocell y hy
    rw [z] at q
    simp at q
  have nloc : ∀ y ∈ scope.names, y.2 = .local → scope.names.lookup y.1 = some .local := fun y hy z => by
    have q := List.all_eq_true.mp ok.loc y hy
    rw [z] at q
    simpa using q
  show wpAny _ _ (exec _ X.env) _ _ _
  rw [exec_Assign_Name_used _ _ _ _ hsw]
  refine wpAny_bind (wpAny_standAt (wpAny_bind ?_))
  show wpAny _ X.A (do let _ ← comprehension (.ListComp elt [⟨.Name own px, iter, [], 0⟩] scope pos) scope X.env _ (newList []) false (eval iter X.env) (some (assign (.Name y py) X.env))) _ _ s
  refine wpAny_bind (wpAny_mono (wpAny_comprehension_free (use := some (assign (.Name y py) X.env)) (Q := fun _ s' => SP X pins D .next s') rfl hs ok.clos ok.kind nloc (thn (hi pins s σ H _ I h) fun v s1 h1 => thn h1 fun itv s2 h2 => ?_)) (fun _ s' hq => wpAny_pure (wpAny_pure hq)) fun _ _ e => e)
  obtain ⟨it, fp, tn, J, H2, rfl, I2, T, st2, f2, q2⟩ := h2
  obtain ⟨W, ⟨m0, w0⟩, turn⟩ := q2 s2.heap.objs.size (I2.hok.fresh (Nat.le_refl _))
  refine wpAny_newObj_type (wpAny_newFunctionEnv ncell (by intro y hy; simp at hy) (fun h1 hns hsb => ?_) ok.kind)
  have I3 := I2.laid (a := s2.heap.objs.size) (o := .lst []) (h' := s2.heap.push { cls := .type "list", dict := none, data := .seq ([] : List Value).toArray }) (t' := s2.toks) (fun b u q => Heap.get?_push_of_some _ q) (Nat.le_refl _)
    ⟨Nat.zero_le _, [], 0, .nil, Heap.get?_push_size _ rfl⟩
  have fpo : ∀ b ∈ fp, b < s2.heap.objs.size := fun b hb => by
    obtain ⟨o, e, _⟩ := T.obj 0 _ st2 b hb
    exact Heap.lt_size e
  have f3 : ∀ b ∈ fp, FpOk X pins (upd H2 s2.heap.objs.size (.lst [])) b := fun b hb => ⟨by rw [upd_ne (Nat.ne_of_lt (fpo b hb))]; exact (f2 b hb).1, (f2 b hb).2⟩
  generalize hs3 : ({ s2 with heap := s2.heap.push { cls := .type "list", dict := none, data := .seq ([] : List Value).toArray }, toks := s2.toks } : Shared) = s3 at I3
  have e3 : s3.heap = s2.heap.push { cls := .type "list", dict := none, data := .seq ([] : List Value).toArray } := by rw [← hs3]
  have lt3 : ∀ b ∈ fp, b < s3.heap.objs.size := fun b hb => by rw [e3, Heap.size_push]; exact Nat.lt_succ_of_lt (fpo b hb)
  dsimp only at hns hsb ⊢
  rw [← e3] at hns hsb
  have hk : ∀ b o, s3.heap.get? b = some o → h1.get? b = some o := fun b o e => hsb.extBut b o (Nat.ne_of_lt (Heap.lt_size e)) (Heap.get?_push_of_some _ e)
  have J0 := block_start (h1 := h1) ok I3 f3 lt3 hns hk (s2.toks + 0)
  have t0 : tn 0 h1 := T.keep 0 _ _ st2 fun b hb o e => hk b o (by rw [e3]; exact Heap.get?_push_of_some _ e)
  have fpB : ∀ {H' : Hp}, (∀ b ∈ fp, H' b = none) → ∀ b ∈ fp, FpOk (X.block scope cl s3.heap.objs.size (own :: ys) own fp s3 (upd H2 s2.heap.objs.size (.lst []))) [] H' b := fun {H'} hn b hb =>
    ⟨hn b hb, Nat.ne_of_lt (lt3 b hb), fun z => (List.mem_cons.mp (I3.stkSub b z)).elim (f3 b hb).2.1 (f3 b hb).2.2.1, .inl hb, fun x c e => (f3 b hb).2.2.2.2.1 x c (ok.sub (x, c) (PySem.mem_of_lookup e)), fun p hp => absurd (show p ∈ ([] : List (Addr × Obj)) from hp) (by simp)⟩
  have loop : codeAny (model X.prog X.w) X.A (.compLoop (.ListComp elt [⟨.Name own px, iter, [], 0⟩] scope pos) 0 (.ref it) (.ref s2.heap.objs.size) (compEnvC scope cl s3.heap.objs.size X.env))
      (compPost (model X.prog X.w) X.A X.xe (some (assign (.Name y py) X.env)) (fun _ s' => SP X pins D .next s') (.ref s2.heap.objs.size) s3.heap.objs.size) { s3 with heap := h1, toks := s2.toks + 0 } := by
    refine compLoop_own (fun n s' => ∃ i zs o0 H', Inv (X.block scope cl s3.heap.objs.size (own :: ys) own fp s3 (upd H2 s2.heap.objs.size (.lst []))) [] (o0 :: freesOf js σ) H' s' ∧ tn i s'.heap ∧ (∀ b ∈ fp, H' b = none) ∧ W i n zs H') ?_ m0
      ⟨0, [], none, _, J0, t0, fun b hb => (f3 b hb).1, w0⟩
    rintro n s5 ⟨i, zs, o0, H5, I5, t5, n5, w5⟩
    obtain ⟨hD, hw⟩ := turn i n zs H5 w5
    rcases hw with ⟨stop, qn⟩ | ⟨go, hz, step⟩
    · refine thn (T.done (X.block scope cl s3.heap.objs.size (own :: ys) own fp s3 (upd H2 s2.heap.objs.size (.lst []))) rfl rfl rfl hc i [] s5 _ H5 (fun _ _ => False) I5 (fpB n5) t5 stop) fun r s6 ⟨hr, I6⟩ => ?_
      subst hr
      obtain ⟨m, hn, _⟩ := id I6.loc
      have J : Inv X pins σ H5 s6 := block_end (h' := s6.heap) I3 f3 I6 (Heap.SameBut.refl _ _)
      have fC := I3.fpOk (Nat.le_refl _) (show H5 s3.heap.objs.size = none from I6.free)
      obtain ⟨k0, k1, k2, k3, k4, k5⟩ := fC
      show wpAny _ X.A (assign (.Name y py) X.env (.ref s2.heap.objs.size)) _ _ _
      refine wpAny_assign_Name (store_ok2 (v := .ref s2.heap.objs.size) J hN hi' (.inl hy) rfl (fun s7 I7 hsb => ?_) (.inr hy))
      obtain ⟨a', sb, ha⟩ := hsb
      have ne : s3.heap.objs.size ≠ a' := by
        rcases ha with z | z
        · rw [z]; exact k1
        · exact fun w => k4 _ _ z w.symm
      exact ⟨m, hn.sameBut sb ne, fun h' hs' => ⟨_, H5, I7.turned (t' := s7.toks) (fun b o hb e => (hs'.2 b hb).trans e) k0 k1 k3 k4 k5, qn⟩⟩
    · refine thn (T.item (X.block scope cl s3.heap.objs.size (own :: ys) own fp s3 (upd H2 s2.heap.objs.size (.lst []))) rfl rfl rfl hc i [] s5 _ H5 (fun _ _ => False) I5 (fpB n5) t5 go) fun r s6 ⟨u, hr, h6⟩ => ?_
      subst hr
      refine thn h6 fun _ s7 ⟨x, H7, I7, r7, y7, t7, n7⟩ => ?_
      have I7' := I7.pinned (fpB n7) (T.obj _ _ t7)
      have hst := step x H7 y7
      have own' : (relabel scope X.env).names.lookup own = some .local := lookup_relabel_local ok.ownL
      refine thn (pg_name (X := X.block scope cl s3.heap.objs.size (own :: ys) own fp s3 (upd H2 s2.heap.objs.size (.lst []))) (i := 0) (x := own) (pos := px) ok.nd rfl (.inl own') (.inr own') _ s7 _ H7 x u (fun σ' H' => σ' = some x :: freesOf js σ ∧ H' = H7) I7' r7 ⟨rfl, rfl⟩) fun _ s8 ⟨σ8, H8, I8, e8, eH8⟩ => ?_
      subst e8 eH8
      refine thn (he _ _ _ _ _ s8 _ H8 _ I8 hst) fun yv s9 ⟨y, H9, I9, r9, hD9, m', hm, w9⟩ => ?_
      refine thn (mt_append _ s9 _ H9 (.ref s2.heap.objs.size) [y] (.ref s2.heap.objs.size) [yv] (fun _ H' => H' = upd H9 s2.heap.objs.size (.lst (zs ++ [y]))) I9 rfl (.cons r9 .nil) ⟨_, zs, y, rfl, rfl, hD9, hz, rfl⟩) fun _ s10 ⟨_, H10, I10, _, e10⟩ => ?_
      subst e10
      refine ⟨m', hm, i + 1, zs ++ [y], some x, _, I10.unpinned, T.keep _ _ _ t7 fun b hb o e => (I10.pin (b, o) (List.mem_append_right _ (List.mem_append_right _ (mem_pinsAt hb e)))).1, fun b hb => ?_, w9⟩
      obtain ⟨o, e, d⟩ := T.obj _ _ t7 b hb
      exact (I10.pin (b, o) (List.mem_append_right _ (List.mem_append_right _ (mem_pinsAt hb e)))).2.1
  subst hs3
  exact codeAny_compStart_list loop (T.self _ 0 _ _ _ t0 loop)
end
end L2
set_option Elab.async false
set_option linter.all false
set_option maxRecDepth 100000
namespace L2
open PySem PySem.Spec PyProof.Rows XH
section
variable {X : Cx}
theorem strs_are : ∀ {ws : List Str} {us : List Value}, Vals (ws.map V.str) us → StrsAre us ws
  | [], _, h => by cases h; exact .nil
  | w :: ws, _, h => by
    cases h with
    | cons r rr =>
      obtain ⟨t, rfl⟩ := r
      exact .cons _ _ (strs_are rr)
theorem mt_join : MtR X "str.join" (fun x vs H Q => ∃ z a ws, x = .str z ∧ vs = [.ref a] ∧ SqL X.K H a (ws.map V.str) ∧ z.length ≤ 16 ∧ (ws.map (fun x => x.length)).sum + ws.length ≤ 1048576 ∧ Q (.str (Txt.join z ws)) H) := by
  intro pins s σ H x vs v us Q I rx rv h
  obtain ⟨z, a, ws, rfl, rfl, hS, hz, hl, q⟩ := h
  obtain ⟨t, rfl⟩ := rx
  obtain ⟨u, rfl, ru⟩ := vals1 rv
  cases ru
  obtain ⟨its, r, p, _⟩ := I.list hS
  exact join_listW p.isList (by simpa using strs_are r) hz hl fun t' k => ⟨.str _, H, I.tok _, ⟨_, rfl⟩, q⟩
end
/-- a list walked in a comprehension whose element may lay new things -/
theorem comp_byL {K : PySem.W.Frag} {a : Addr} {xs : List V} {js : List Nat} {te : TE} {σ : L2.St} {H1 : Hp} {Q : VK} (P : V → V → Prop) (hS : SqL K H1 a xs) (hz : xs.length ≤ sizeLine)
    (step : ∀ x ∈ xs, ∀ H3, Same H1 H3 → ∀ Q' : VK, (∀ y H4, P x y → Same H3 H4 → Q' y H4) → te (some x :: freesOf js σ) H3 Q')
    (fin : ∀ (p : Addr) (ys : List V) (H' : Hp), H1 p = none → ys.length = xs.length → (∀ (i : Nat) (x y : V), xs[i]? = some x → ys[i]? = some y → P x y) → Same H1 H' → H' p = some (.lst ys) → Q (.ref p) H') : compR js te σ Q (Itl K a) H1 := by
  intro p hp
  refine ⟨fun i m ys H2 => i ≤ xs.length ∧ m = xs.length - i ∧ ys.length = i ∧ (∀ (i : Nat) (x y : V), xs[i]? = some x → ys[i]? = some y → P x y) ∧ Same H1 H2 ∧ H2 p = some (.lst ys), ⟨xs.length, Nat.zero_le _, rfl, rfl, fun j x y _ e => by simp at e, Sw.same_new hp _, upd_same⟩, ?_⟩
  rintro i m ys H2 ⟨hi, rfl, hl, hP, g, e⟩
  refine ⟨e, ?_⟩
  have S2 := g.seq hS
  by_cases hin : i < xs.length
  · refine .inr ⟨⟨xs, xs[i], S2, List.getElem?_eq_getElem hin⟩, by omega, fun x H3 hy => ?_⟩
    obtain ⟨rfl, hx⟩ := hy
    have ex := hx xs S2
    refine step x (List.mem_of_getElem? ex) H3 g _ fun y H4 py g4 => ⟨g4 _ _ e, xs.length - (i + 1), by omega, hin, rfl, by simp [hl], fun j x' y' e1 e2 => ?_, Sw.sUpd (g.trans g4) hp _, upd_same⟩
    by_cases hj : j < ys.length
    · rw [List.getElem?_append_left hj] at e2
      exact hP j x' y' e1 e2
    · have ej : j = i := by
        have := (List.getElem?_eq_some_iff.mp e2).1
        simp at this
        omega
      subst ej
      rw [List.getElem?_append_right (by omega), hl] at e2
      simp at e2
      subst e2
      rw [ex] at e1
      cases e1
      exact py
  · have e2 : i = xs.length := by omega
    subst e2
    exact .inl ⟨⟨xs, S2, Nat.le_refl _⟩, fin p ys H2 hp hl hP g e⟩
end L2
namespace Sw
open PySem L2 XH PySem.NumText
theorem join_len (sep : Str) (ws : List Str) : (Txt.join sep ws).length = (ws.map (fun x => x.length)).sum + (ws.length - 1) * sep.length := PySem.size_glued sep ws
/-! ### a row's words, sign by sign -/
def spStream : Sp := fun vs H Q _ => ∃ c m : Int, vs = [.int c, .int m] ∧ 0 ≤ m ∧ m ≤ 50 ∧ ∀ (l : Addr) (H' : Hp) (xs : List Int), Same H H' → H' l = some (.lst (xs.map V.int)) → (xs.length : Int) = m → (∀ x ∈ xs, 0 ≤ x ∧ x < 2 ^ 31) → Q (.ref l) H'
theorem ixT {xs : List V} {n : Nat} (h : xs.length = n + 1) : ixN xs.length (-1) = some n := by
  unfold ixN
  rw [h]
  first
    | (rw [if_neg (by decide), if_pos (by omega)]; congr 1; omega)
    | (simp; omega)
theorem atT {xs : List V} {v : V} (h : xs.getLast? = some v) : atI xs (-1) = some v := by
  rw [List.getLast?_eq_getElem?] at h
  have l := (List.getElem?_eq_some_iff.mp h).1
  unfold atI
  rw [ixT (n := xs.length - 1) (by omega)]
  exact h
theorem cutV_one {xs : List V} (h : 1 ≤ xs.length) : cutV xs (some 1) none = xs.drop 1 := by
  have e1 : HT.sIx xs.length 0 (some 1) = 1 := by
    unfold HT.sIx
    simp
    omega
  have e2 : HT.sIx xs.length xs.length none = xs.length := rfl
  unfold cutV
  rw [e1, e2, List.take_of_length_le (by rw [List.length_drop]; omega)]
theorem dQt {v : V} {Q : V → Prop} (q : Q (.bl true)) : Q (.bl (decide (v = v))) := by rw [decide_eq_true rfl]; exact q
/-- PA, shut -/
structure PAk (X : Cx) (es : List Expr) (t : TA) : Prop where
  h : PA X es t
theorem pak_nil {X : Cx} : PAk X [] tNil := ⟨pa_nil⟩
theorem pak_str {X : Cx} {z : Str} {p : Pos} {j} {es : List Expr} {t : TA} (h : PAk X es t) : PAk X (.Constant (.str z) j p :: es) (tCons (tC (.str z)) t) := ⟨pa_cons pe_str h.h⟩
/-- PSs, shut -/
structure PSsk (X : Cx) (b : List Stmt) (t : TS) : Prop where
  h : PSs X b t
theorem pssk_lst {X : Cx} {es : List Expr} {t : TA} {pos pos' p2 : Pos} {i : Nat} {x : Str} {rest : List Stmt} {u : TS} (hN : X.N.Nodup) (hi : X.N[i]? = some x) (hx : Loc X.env.scope x) (h : PAk X es t) (hr : PSs X rest u)
    (hs : swapsWith (.List es pos) (some (.Name x pos')) p2.line X.env = pure false := by rfl) (hf : X.fn x = true ∨ X.env.scope.names.lookup x = some .local := by first | exact .inl rfl | exact .inr rfl | assumption) :
    PSsk X (.Assign [.Name x pos'] (.List es pos) p2 :: rest) (tSeq (tAsg (tLst t) (gName i)) u) := ⟨pss_cons (ps_set hN hi hx (pe_lst h.h) hs hf) hr⟩
theorem ps_ifk {X : Cx} {c : Expr} {a b : List Stmt} {tc : TT} {t u : TS} {pos : Pos} (hc : PT X c tc) (ha : PSsk X a t) (hb : PSs X b u) : PS X (.If c a b pos) (tIfS tc t u) := ps_if hc ha.h hb
end Sw
set_option Elab.async false
set_option linter.all false
set_option maxRecDepth 100000
namespace L2
open PySem PySem.Spec PyProof.Rows XH Sw So Hm
/-- x != [] -/
theorem op_neNil {X : Cx} (hu : X.A.units < cLine) : OpR X (compareOp .NotEq) (fun x y H Q => ∃ a b zs, x = .ref a ∧ y = .ref b ∧ SqL X.K H a zs ∧ SqL X.K H b [] ∧ Q (.bl (!zs.isEmpty)) H) := by
  intro pins s σ H x y v u Q I rx ry h
  obtain ⟨a, b, zs, rfl, rfl, h1, h2, hq⟩ := h
  cases rx
  cases ry
  obtain ⟨i1, r1, p1, _⟩ := I.list h1
  obtain ⟨i2, r2, p2, _⟩ := I.list h2
  cases r2
  cases zs with
  | nil =>
    cases r1
    refine SeqAt.RcNeAt.lists (e := fun _ => true) p1.isList p2.isList rfl hu (fun j g1 g2 => absurd g1 (by simp)) _ _ _ _ ?_
    exact ⟨.bl false, H, I, by show Value.bool _ = Value.bool _; simp, hq⟩
  | cons z zs =>
    cases r1 with
    | cons r rr =>
      refine SeqAt.RcNeAt.lists_lengths p1.isList p2.isList (by simp) hu _ _ _ _ ?_
      exact ⟨.bl true, H, I, rfl, hq⟩
theorem cut_take {xs : List V} {c : Nat} (h : c ≤ xs.length) : cutV xs none (some (c : Int)) = xs.take c := by
  have e1 : HT.sIx xs.length 0 none = 0 := rfl
  have e2 : HT.sIx xs.length xs.length (some (c : Int)) = c := by
    show (if (c : Int) < 0 then ((c : Int) + (xs.length : Int)).toNat else min (c : Int).toNat xs.length) = c
    rw [if_neg (by omega)]
    omega
  unfold cutV
  rw [e1, e2, List.drop_zero, Nat.sub_zero]
theorem cut_drop {xs : List V} {c : Nat} (h : c ≤ xs.length) : cutV xs (some (c : Int)) none = xs.drop c := by
  have e1 : HT.sIx xs.length 0 (some (c : Int)) = c := by
    show (if (c : Int) < 0 then ((c : Int) + (xs.length : Int)).toNat else min (c : Int).toNat xs.length) = c
    rw [if_neg (by omega)]
    omega
  have e2 : HT.sIx xs.length xs.length none = xs.length := rfl
  unfold cutV
  rw [e1, e2, List.take_of_length_le (by rw [List.length_drop]; omega)]
end L2
namespace Sw
open PySem L2 XH Hm
section
variable {X : Cx} {k j : Nat} {f C : Addr} {ps : List Str} {sp : Sp} {dvs : List V} {x m : Str} {p pos apos : Pos} {e o : Expr} {es : List Expr} {ta tb : TE} {t : TA} {E : L2.St → XK}
end
/-! ### a heap that is kept in a list -/
end Sw
set_option Elab.async false
set_option linter.all false
set_option maxRecDepth 100000
namespace L2
open PySem PySem.Spec PyProof.Rows XH Sw Hm
end L2
namespace Sw
open PySem L2 XH Hm
/-! ### nets and plans: what lies at the addresses -/
end Sw
set_option Elab.async false
set_option linter.all false
set_option maxRecDepth 100000
namespace L2
open PySem PySem.Spec PyProof.Rows XH
theorem ix_tupB {X : Cx} {K : PySem.W.Frag} (h : X.K = K) : IxR X (rIxT K) := by
  subst h
  exact ix_tup
end L2
namespace Sw
open PySem L2 XH Hm
end Sw
set_option Elab.async false
set_option linter.all false
set_option maxRecDepth 100000
namespace L2
open PySem PySem.Spec PyProof.Rows XH
section
variable {X : Cx} {scope : Scope} {cl : List (Str × Addr)} {os : List Str} {ys : List Str} {js : List Nat} {fp : List Addr} {pins : List (Addr × Obj)} {σ : St} {H : Hp} {s s4 : Shared}
end
section
variable {X : Cx} {scope : Scope} {cl : List (Str × Addr)} {os : List Str} {ys : List Str} {js : List Nat} {elt iter tg : Expr} {px pos : Pos} {wi : TI} {te : TE} {g : TG}
end
end L2

namespace Sw
open PySem L2 XH
end Sw
set_option Elab.async false
set_option linter.all false
set_option maxRecDepth 100000
namespace L2
open PySem PySem.Spec PyProof.Rows XH
section
variable {X : Cx} {scope : Scope} {cl : List (Str × Addr)} {os : List Str} {ys : List Str} {js : List Nat} {elt iter tg : Expr} {px pos : Pos} {wi : TI} {te : TE} {g : TG}
end
end L2
set_option Elab.async false
set_option linter.all false
set_option maxRecDepth 100000
namespace Sw
open PySem L2 XH
/-! ### packs -/
end Sw
namespace L2
open PySem PySem.Spec PyProof.Rows
end L2
namespace Sw
open PySem L2 XH
end Sw
set_option Elab.async false
set_option linter.all false
set_option maxRecDepth 100000
namespace Sw
open PySem L2 XH
/-! ### many needs: tops, bottoms, and how many figures of two a bottom has -/
end Sw
set_option Elab.async false
set_option linter.all false
set_option maxRecDepth 100000
namespace Sw
open PySem L2 XH
end Sw
namespace L2
open PySem PySem.Spec PyProof.Rows
end L2
set_option Elab.async false
set_option linter.all false
set_option maxRecDepth 100000
namespace Sw
open PySem L2 XH
/-! ### steps: their fields -/
def stepF (nm l m u s : V) : List (Str × V) := putF "second" s (putF "uses" u (putF "most" m (putF "least" l (putF "name" nm []))))
def warmF (nm l m u s f : V) : List (Str × V) := putF "fill" f (stepF nm l m u s)
theorem stepF_no {nm l m u s : V} {g : Str} (h : g ≠ "second" ∧ g ≠ "uses" ∧ g ≠ "most" ∧ g ≠ "least" ∧ g ≠ "name") : (stepF nm l m u s).lookup g = none := by
  unfold stepF
  rw [lookup_putF, if_neg h.1, lookup_putF, if_neg h.2.1, lookup_putF, if_neg h.2.2.1, lookup_putF, if_neg h.2.2.2.1, lookup_putF, if_neg h.2.2.2.2]
  rfl
theorem warmF_fill {nm l m u s f : V} : (warmF nm l m u s f).lookup ("fill" : Str) = some f := by
  unfold warmF
  rw [lookup_putF, if_pos rfl]
theorem stepF_len {nm l m u s : V} : (stepF nm l m u s).length ≤ 5 := by
  unfold stepF
  have h1 := length_putF "name" nm []
  have h2 := length_putF "least" l (putF "name" nm [])
  have h3 := length_putF "most" m (putF "least" l (putF "name" nm []))
  have h4 := length_putF "uses" u (putF "most" m (putF "least" l (putF "name" nm [])))
  have h5 := length_putF "second" s (putF "uses" u (putF "most" m (putF "least" l (putF "name" nm []))))
  simp at h1
  omega
/-- all but a stays -/
def Kept (H H' : Hp) (a : Addr) : Prop := ∀ b o, H b = some o → b ≠ a → H' b = some o
theorem Kept.refl (H : Hp) (a : Addr) : Kept H H a := fun _ _ h _ => h
theorem Kept.put {H H' : Hp} {a : Addr} (k : Kept H H' a) (o : HO) : Kept H (upd H' a o) a := fun b u h n => by rw [upd_ne n]; exact k b u h n
theorem Kept.new {H H' : Hp} {a p : Addr} (k : Kept H H' a) (hp : H' p = none) (o : HO) : Kept H (upd H' p o) a := fun b u h n => by
  have e := k b u h n
  rw [upd_ne (ne_of_none e hp)]
  exact e
theorem made_same {H H' : Hp} {x dx C : Addr} (nx : H x = none) (nd : H dx = none) (k : Kept (upd (upd H dx (.own x)) x (.ins C dx [])) H' x) : Same H H' := fun b o h => by
  have n1 := ne_of_none h nx
  exact k b o (by rw [upd_ne n1, upd_ne (ne_of_none h nd)]; exact h) n1
structure StepC (K : PySem.W.Frag) (C : Addr) : Prop where
  cl : Cls K C
  name : NoAttr K C "name"
  least : NoAttr K C "least"
  most : NoAttr K C "most"
  uses : NoAttr K C "uses"
  second : NoAttr K C "second"
/-! ### rounds -/
def spDivP : Sp := fun vs H Q _ => ∃ a b : Int, vs = [.int a, .int b] ∧ 0 ≤ a ∧ 0 ≤ b ∧ Q (.int (gcdI a b)) H
end Sw
set_option Elab.async false
set_option linter.all false
set_option maxRecDepth 100000
namespace L2
open PySem PySem.Spec PyProof.Rows XH
section
variable {X : Cx}
end
/-! ### things alike, of any depth -/
end L2
namespace Sw
open PySem L2 XH
/-! ### recipes -/
def recF (nm p t s l : V) : List (Str × V) := putF "links" l (putF "steps" s (putF "takes" t (putF "plates" p (putF "name" nm []))))
structure RecC (K : PySem.W.Frag) (C : Addr) : Prop where
  cl : Cls K C
  name : NoAttr K C "name"
  plates : NoAttr K C "plates"
  takes : NoAttr K C "takes"
  steps : NoAttr K C "steps"
  links : NoAttr K C "links"
end Sw
set_option Elab.async false
set_option linter.all false
set_option maxRecDepth 100000
namespace L2
open PySem PySem.Spec PyProof.Rows XH Sw So
end L2
namespace Sw
open PySem L2 XH Hm
/-! ### breaches: lists of tuples (text, number) -/
end Sw
namespace L2
open PySem PySem.Spec PyProof.Rows XH Sw Hm
end L2
namespace Sw
open PySem L2 XH Hm
/-! ### plans -/
theorem getDo {α : Type} {xs : List α} {i : Nat} {v d : α} (h : xs[i]? = some v) : xs.getD i d = v := by rw [List.getD_eq_getElem?_getD, h]; rfl
end Sw
set_option Elab.async false
set_option linter.all false
set_option maxRecDepth 100000
namespace Sw
open PySem L2 XH Hm
/-! ### the law on turns and arcs: what its own defs promise -/
theorem fm {a n : Int} (h : 0 < n) : 0 ≤ a.fmod n ∧ a.fmod n < n := ⟨Int.fmod_nonneg_of_pos a h, Int.fmod_lt_of_pos a h⟩
end Sw
set_option Elab.async false
set_option linter.all false
set_option maxRecDepth 100000
namespace L2
open PySem PySem.Spec PyProof.Rows XH Sw Hm
end L2
namespace Sw
open PySem L2 XH Hm
end Sw
set_option Elab.async false
set_option linter.all false
set_option maxRecDepth 100000
namespace L2
open PySem PySem.Spec PyProof.Rows XH Sw Hm
section
variable {X : Cx} {pins : List (Addr × Obj)} {σ : St} {H : Hp} {s : Shared}
end
end L2
set_option Elab.async false
set_option linter.all false
set_option maxRecDepth 100000
namespace L2
open PySem PySem.Spec PyProof.Rows XH Sw Hm
theorem cut_dropB {xs : List V} {c : Nat} : cutV xs (some (c : Int)) none = xs.drop c := by
  by_cases h : c ≤ xs.length
  · exact cut_drop h
  · rw [List.drop_eq_nil_of_le (by omega)]
    apply List.eq_nil_of_length_eq_zero
    unfold cutV
    rw [List.length_take, List.length_drop]
    have : HT.sIx xs.length 0 (some (c : Int)) = xs.length := by
      show (if (c : Int) < 0 then ((c : Int) + (xs.length : Int)).toNat else min (c : Int).toNat xs.length) = xs.length
      rw [if_neg (by omega)]
      omega
    rw [this]
    omega
end L2
namespace Sw
open PySem L2 XH Hm
end Sw
set_option Elab.async false
set_option linter.all false
set_option maxRecDepth 100000
namespace L2
open PySem PySem.Spec PyProof.Rows XH Sw Hm
end L2
namespace Sw
open PySem L2 XH Hm
theorem lenOf1 {α : Type} {P : List α → Prop} (h : ∀ a, P [a]) : ∀ us : List α, us.length = 1 → P us
  | [a], _ => h a
theorem lenOf2 {α : Type} {P : List α → Prop} (h : ∀ a b, P [a, b]) : ∀ us : List α, us.length = 2 → P us
  | [a, b], _ => h a b
theorem lenOf3 {α : Type} {P : List α → Prop} (h : ∀ a b c, P [a, b, c]) : ∀ us : List α, us.length = 3 → P us
  | [a, b, c], _ => h a b c
theorem lenOf4 {α : Type} {P : List α → Prop} (h : ∀ a b c d, P [a, b, c, d]) : ∀ us : List α, us.length = 4 → P us
  | [a, b, c, d], _ => h a b c d
theorem lenOf5 {α : Type} {P : List α → Prop} (h : ∀ a b c d e, P [a, b, c, d, e]) : ∀ us : List α, us.length = 5 → P us
  | [a, b, c, d, e], _ => h a b c d e
end Sw
set_option Elab.async false
set_option linter.all false
set_option maxRecDepth 100000
namespace Sw
open PySem L2 XH Hm
theorem lenOf6 {α : Type} {P : List α → Prop} (h : ∀ a b c d e f, P [a, b, c, d, e, f]) : ∀ us : List α, us.length = 6 → P us
  | [a, b, c, d, e, f], _ => h a b c d e f
/-- a def as it lies -/
abbrev FnAt (K : PySem.W.Frag) (f : Addr) (n q : Str) (st : Stmt) (dV : Value) : Prop := ∃ (oc : Value) (od : Option Addr) (kV dc pm : Value) (an : Option Addr) (cd ct : Value) (sl : Array (Option Value)), K.lookup f = some ⟨oc, od, .func (PySem.W.fnOf n q (defArgs st) (defBody st) (defScope st) dV kV dc pm an cd ct), sl⟩ ∧ PySem.W.codeIn K cd q = true ∧ PySem.W.keepIn K (.ref f) = true
abbrev GfAt (K : PySem.W.Frag) (f : Addr) (x : Str) (st : Stmt) (dV : Value) : Prop := PySem.W.nsIn K mainGlobals x = some (some (.ref f)) ∧ FnAt K f x x st dV
abbrev MfAt (K : PySem.W.Frag) (c f : Addr) (m q : Str) (st : Stmt) (dV : Value) : Prop := PySem.W.findIn K (.ref c) m = some (some (.ref f)) ∧ FnAt K f m q st dV
abbrev BdAt (n q : Str) (st : Stmt) (dV : Value) (ps : List Str) : Prop := ∀ (kV doc pm : Value) (an : Option Addr) (cdv ct : Value) (us : List Value), us.length = ps.length → bindArgs (PySem.W.fnOf n q (defArgs st) (defBody st) (defScope st) dV kV doc pm an cdv ct) ⟨us, []⟩ = pure (ps.zip us)
theorem scK {N P : List Str} {sc : Scope} (h : N.Nodup ∧ (∀ x ∈ P, sc.names.lookup x = some .local ∨ sc.names.lookup x = some .cell) ∧ ∀ y ∈ sc.names, y.2 ≠ .free) (h1 : sc.kind = .function := by rfl) (h2 : sc.isCoroutine = false := by rfl) (h3 : sc.isGenerator = false := by rfl) (h4 : N.take P.length = P := by rfl) : FnScope N P sc := ⟨h1, h2, h3, h.1, h4, h.2.1, h.2.2⟩
section
variable {P : Program} {w : World} {K : PySem.W.Frag} {mg : Str → Option Value} {base h : Heap} {CX : CXT} {k : Nat} {f c : Addr} {x m q : Str} {st : Stmt} {ps : List Str} {sp : Sp}
theorem FnAt.ex {n q : Str} {dV : Value} (a : FnAt K f n q st dV) : ∃ fd, FunD K n q st dV f fd ∧ PySem.W.keepIn K (.ref f) = true := by
  obtain ⟨_, _, _, _, _, _, _, _, _, l, c, k⟩ := a
  exact ⟨_, funD_mk (st := st) l c k, k⟩
/-- which program, world, heap -/
structure Bx (P : Program) (w : World) (base : Heap) : Prop
noncomputable def mkD (_ : Bx P w base) (X : K.In h) (G : h.Ns mainGlobals mg) (a : GfAt K f x st .none) (b : BdAt x x st .none ps) (ok : ∀ {fd : FuncData}, FunD K x x st .none f fd → FnOk P w K mg base CX k f fd ps sp) : Dx P w K mg base CX k x ps [] sp :=
  have e := a.2.ex
  ⟨f, e.choose, ok e.choose_spec.1, PySem.W.mg_of X G a.1, e.choose_spec.2, e.choose_spec.1.binds0 b, [], e.choose_spec.1.binds0 b, .nil⟩
noncomputable def mkM (_ : Bx P w base) (a : MfAt K c f m q st .none) (b : BdAt m q st .none ps) (ok : ∀ {fd : FuncData}, FunD K m q st .none f fd → FnOk P w K mg base CX k f fd ps sp) : DxM P w K mg base CX k f ps [] sp :=
  have e := a.2.ex
  ⟨e.choose, ok e.choose_spec.1, e.choose_spec.1.binds0 b, [], e.choose_spec.1.binds0 b, .nil⟩
end
end Sw
set_option Elab.async false
set_option linter.all false
set_option maxRecDepth 100000
namespace L2
open PySem PySem.Spec PyProof.Rows XH
/-! ### set(xs) of texts, alike or unlike: what lies in it, and that it can be walked -/
section
variable {prog : Program} {w : World} {A : Around} {E : Value → Shared → Prop} {s : Shared}
end
end L2
set_option Elab.async false
set_option linter.all false
set_option maxRecDepth 100000
namespace L2
open PySem PySem.Spec PyProof.Rows XH
section
variable {prog : Program} {w : World} {A : Around} {R : Result → Shared → Prop} {I : Addr} {fp wr : List Addr} {G : Array GenState → Array GenState → Prop} {n : Nat} {P : Nat → Value → Prop} {St : Nat → Shared → Prop}
end
section
variable {prog : Program} {w : World} {A : Around} {E : Value → Shared → Prop} {s : Shared}
end
end L2
set_option Elab.async false
set_option linter.all false
set_option maxRecDepth 100000
namespace L2
open PySem PySem.Spec PyProof.Rows XH
/-! ### a set of texts walked -/
section
variable {prog : Program} {w : World} {A : Around} {E : Value → Shared → Prop} {s : Shared}
end
end L2
set_option Elab.async false
set_option linter.all false
set_option maxRecDepth 100000
namespace L2
open PySem PySem.Spec PyProof.Rows XH
section
variable {prog : Program} {w : World} {A : Around} {E : Value → Shared → Prop} {s : Shared}
end
end L2
set_option Elab.async false
set_option linter.all false
set_option maxRecDepth 100000
namespace L2
open PySem PySem.Spec PyProof.Rows XH
section
variable {prog : Program} {w : World} {A : Around} {E : Value → Shared → Prop} {s : Shared}
end
end L2
set_option Elab.async false
set_option linter.all false
set_option maxRecDepth 100000
namespace L2
open PySem PySem.Spec PyProof.Rows XH
section
variable {prog : Program} {w : World} {A : Around} {E : Value → Shared → Prop} {s : Shared}
end
end L2
set_option Elab.async false
set_option linter.all false
set_option maxRecDepth 100000
namespace L2
open PySem PySem.Spec PyProof.Rows XH Sw So
section
variable {prog : Program} {w : World} {A : Around} {E : Value → Shared → Prop} {s : Shared}
end
end L2
set_option Elab.async false
set_option linter.all false
set_option maxRecDepth 100000
namespace L2
open PySem PySem.Spec PyProof.Rows XH Sw So
/-! ### sorted(set(xs)), xs texts -/
section
variable {X : Cx} {e : Expr} {te : TE} {p1 p2 pos pos2 : Pos}
end
end L2
set_option Elab.async false
set_option linter.all false
set_option maxRecDepth 100000
namespace L2
open PySem PySem.Spec PyProof.Rows XH
/-! ### the places of a set's table rise -/
end L2
set_option Elab.async false
set_option linter.all false
set_option maxRecDepth 100000
namespace L2
open PySem PySem.Spec PyProof.Rows XH
section
variable {prog : Program} {w : World} {A : Around} {E : Value → Shared → Prop} {s : Shared}
end
end L2
set_option Elab.async false
set_option linter.all false
set_option maxRecDepth 100000
namespace L2
open PySem PySem.Spec PyProof.Rows XH
section
variable {prog : Program} {w : World} {A : Around} {R : Result → Shared → Prop} {I : Addr} {fp wr : List Addr} {G : Array GenState → Array GenState → Prop} {n : Nat} {P : Nat → Value → Prop} {St : Nat → Shared → Prop}
end
section
variable {prog : Program} {w : World} {A : Around} {E : Value → Shared → Prop} {s : Shared}
end
end L2
set_option Elab.async false
set_option linter.all false
set_option maxRecDepth 100000
namespace L2
open PySem PySem.Spec PyProof.Rows XH Sw So
section
variable {prog : Program} {w : World} {A : Around} {E : Value → Shared → Prop} {s : Shared}
end
section
variable {prog : Program} {w : World} {A : Around} {E : Value → Shared → Prop} {s : Shared}
end
end L2
set_option Elab.async false
set_option linter.all false
set_option maxRecDepth 100000
namespace L2
open PySem PySem.Spec PyProof.Rows XH Sw So
/-! ### sorted(set(xs)), xs numbers -/
section
variable {X : Cx} {e : Expr} {te : TE} {p1 p2 pos pos2 : Pos}
end
end L2
set_option Elab.async false
set_option linter.all false
set_option maxRecDepth 100000
namespace L2
open PySem PySem.Spec PyProof.Rows XH Sw So
end L2
set_option Elab.async false
set_option linter.all false
set_option maxRecDepth 100000
namespace Sw
open PySem L2 XH Hm
/-! ### things as they lie, with the addresses that they reach -/
def isSq : HO → Bool
  | .lst _ => true
  | .tup _ => true
  | _ => false
abbrev RA (α : Type) := (Addr → Prop) → Hp → V → α → Prop
def An : Addr → Prop := fun _ => True
class Mv {α : Type} (R : RA α) : Prop where
  mv : ∀ {P P' : Addr → Prop} {H H' : Hp} {v : V} {x : α}, (∀ a o, P a → isSq o = true → H a = some o → P' a ∧ H' a = some o) → R P H v x → R P' H' v x
theorem mvS {α : Type} {R : RA α} [Mv R] {P : Addr → Prop} {H H' : Hp} {v : V} {x : α} (h : R P H v x) (g : Same H H') : R P H' v x := Mv.mv (fun a o p _ e => ⟨p, g a o e⟩) h
theorem mvP {α : Type} {R : RA α} [Mv R] {P P' : Addr → Prop} {H : Hp} {v : V} {x : α} (h : R P H v x) (g : ∀ a, P a → P' a) : R P' H v x := Mv.mv (fun a o p _ e => ⟨g a p, e⟩) h
/-- one address, which isn't reached, may change -/
theorem mvU {α : Type} {R : RA α} [Mv R] {P : Addr → Prop} {H : Hp} {v : V} {x : α} {l : Addr} (h : R P H v x) (n : ¬ P l) (o : HO) : R P (upd H l o) v x := Mv.mv (fun a u p _ e => ⟨p, by
    have : a ≠ l := fun z => n (by rw [← z]; exact p)
    rw [upd_ne this]
    exact e⟩) h
def A2 {α : Type} (R : V → α → Prop) (vs : List V) (xs : List α) : Prop := vs.length = xs.length ∧ ∀ (i : Nat) (v : V) (x : α), vs[i]? = some v → xs[i]? = some x → R v x
theorem A2.imp {α : Type} {R S : V → α → Prop} {vs : List V} {xs : List α} (h : A2 R vs xs) (f : ∀ v x, R v x → S v x) : A2 S vs xs := ⟨h.1, fun i v x e1 e2 => f v x (h.2 i v x e1 e2)⟩
theorem A2.get {α : Type} {R : V → α → Prop} {vs : List V} {xs : List α} (h : A2 R vs xs) {i : Nat} {x : α} (e : xs[i]? = some x) : ∃ v, vs[i]? = some v ∧ R v x := by
  have il : i < vs.length := by rw [h.1]; exact (List.getElem?_eq_some_iff.mp e).1
  exact ⟨_, List.getElem?_eq_getElem il, h.2 i _ x (List.getElem?_eq_getElem il) e⟩
theorem A2.at_ {α : Type} {R : V → α → Prop} {vs : List V} {xs : List α} (h : A2 R vs xs) {i : Nat} {v : V} (e : vs[i]? = some v) : ∃ x, xs[i]? = some x ∧ R v x := by
  have il : i < xs.length := by rw [← h.1]; exact (List.getElem?_eq_some_iff.mp e).1
  exact ⟨_, List.getElem?_eq_getElem il, h.2 i v _ e (List.getElem?_eq_getElem il)⟩
theorem A2.nil {α : Type} {R : V → α → Prop} : A2 R [] ([] : List α) := ⟨rfl, fun i a x e => by simp at e⟩
theorem A2.append {α : Type} {R : V → α → Prop} {as bs : List V} {xs ys : List α} (h : A2 R as xs) (k : A2 R bs ys) : A2 R (as ++ bs) (xs ++ ys) := by
  refine ⟨by simp [h.1, k.1], fun i a x e1 e2 => ?_⟩
  by_cases c : i < as.length
  · rw [List.getElem?_append_left c] at e1
    rw [List.getElem?_append_left (by rw [← h.1]; exact c)] at e2
    exact h.2 i a x e1 e2
  · rw [List.getElem?_append_right (by omega)] at e1
    rw [List.getElem?_append_right (by rw [← h.1]; omega), ← h.1] at e2
    exact k.2 _ a x e1 e2
theorem A2.one {α : Type} {R : V → α → Prop} {v : V} {x : α} (h : R v x) : A2 R [v] [x] := ⟨rfl, fun i a y e1 e2 => by
  cases i with
  | zero => simp at e1 e2; subst e1 e2; exact h
  | succ n => simp at e1⟩
theorem A2.snoc {α : Type} {R : V → α → Prop} {vs : List V} {xs : List α} (h : A2 R vs xs) {v : V} {x : α} (r : R v x) : A2 R (vs ++ [v]) (xs ++ [x]) := h.append (.one r)
/-- a list at an address, what it holds within P -/
def LsA {α : Type} (R : RA α) (P : Addr → Prop) (H : Hp) (l : Addr) (xs : List α) : Prop := ∃ vs, H l = some (.lst vs) ∧ A2 (R P H) vs xs
def rTup {α : Type} (f : α → List V) : RA α := fun P H v x => ∃ t, v = .ref t ∧ P t ∧ H t = some (.tup (f x))
instance {α : Type} {f : α → List V} : Mv (rTup f) where
  mv := fun {P P' H H' v x} g h => by
    obtain ⟨t, rfl, p, e⟩ := h
    obtain ⟨p', e'⟩ := g t _ p rfl e
    exact ⟨t, rfl, p', e'⟩
def rVal {α : Type} (f : α → V) : RA α := fun _ _ v x => v = f x
instance {α : Type} {f : α → V} : Mv (rVal f) where
  mv := fun _ h => h
theorem A2.val {α : Type} {f : α → V} {P : Addr → Prop} {H : Hp} {vs : List V} {xs : List α} (h : A2 (rVal f P H) vs xs) : vs = xs.map f := by
  apply List.ext_getElem (by rw [List.length_map]; exact h.1)
  intro i h1 h2
  rw [List.getElem_map]
  exact h.2 i _ _ (List.getElem?_eq_getElem h1) (List.getElem?_eq_getElem (by rw [List.length_map] at h2; exact h2))
theorem LsA.same {α : Type} {R : RA α} [Mv R] {P : Addr → Prop} {H H' : Hp} {l : Addr} {xs : List α} (h : LsA R P H l xs) (g : Same H H') : LsA R P H' l xs := let ⟨vs, e, r⟩ := h; ⟨vs, g _ _ e, r.imp fun _ _ q => mvS q g⟩
end Sw
namespace L2
open PySem PySem.Spec PyProof.Rows XH Sw Hm
/-- a comprehension without a test, whatever is walked -/
theorem comp_R {J : It} {β : Type} {n : Nat} {js : List Nat} {te : TE} {σ : L2.St} {H1 : Hp} {Q : VK} (R : RA β) [Mv R] (Z : Addr → Prop) (f : Nat → β) (hz : n ≤ sizeLine) (hZ : ∀ a, Z a → H1 a ≠ none)
    (hgo : ∀ i H2, Same H1 H2 → i < n → J.go i H2) (hst : ∀ H2, Same H1 H2 → J.stop n H2)
    (step : ∀ i, i < n → ∀ H2 x H3, Same H1 H2 → J.yld i H2 x H3 → H3 = H2 ∧ ∀ Q' : VK, (∀ y H5, Same H2 H5 → R (fun a => H2 a = none ∨ Z a) H5 y (f i) → Q' y H5) → te (some x :: freesOf js σ) H2 Q')
    (fin : ∀ p H', H1 p = none → Same H1 H' → LsA R (fun a => a ≠ p ∧ (H1 a = none ∨ Z a)) H' p ((List.range n).map f) → Q (.ref p) H') : compR js te σ Q J H1 := by
  intro p hp
  refine ⟨fun i m ys H2 => i ≤ n ∧ m = n - i ∧ Same H1 H2 ∧ H2 p = some (.lst ys) ∧ A2 (R (fun a => a ≠ p ∧ (H1 a = none ∨ Z a)) H2) ys ((List.range i).map f), ⟨n, Nat.zero_le _, rfl, Sw.same_new hp _, upd_same, A2.nil⟩, ?_⟩
  rintro i m ys H2 ⟨hi, rfl, g, e, r⟩
  refine ⟨e, ?_⟩
  by_cases hin : i < n
  · refine .inr ⟨hgo i H2 g hin, ?_, fun x H3 hy => ?_⟩
    · have := r.1
      rw [List.length_map, List.length_range] at this
      omega
    obtain ⟨rfl, h2⟩ := step i hin H2 x H3 g hy
    refine h2 _ fun y H5 g5 ry => ⟨g5 _ _ e, n - (i + 1), by omega, hin, rfl, Sw.sUpd (g.trans g5) hp _, upd_same, ?_⟩
    rw [List.range_succ, List.map_append]
    have np : ¬ (p ≠ p ∧ (H1 p = none ∨ Z p)) := fun z => z.1 rfl
    refine ((r.imp fun v b q => mvS q g5).snoc (mvP ry fun a ha => ?_)).imp fun v b q => mvU q np _
    rcases ha with h | h
    · exact ⟨(fun z => by rw [z, e] at h; cases h), .inl (g.free h)⟩
    · exact ⟨fun z => hZ a h (z ▸ hp), .inr h⟩
  · have e2 : i = n := by omega
    subst e2
    exact .inl ⟨hst H2 g, fin p H2 hp g ⟨ys, e, r⟩⟩
section
variable {K : PySem.W.Frag} {β : Type} {a : Addr} {xs : List V} {n : Nat} {js : List Nat} {tc : TT} {te : TE} {σ : L2.St} {H1 : Hp} {Q : VK}
theorem comp_Rl (R : RA β) [Mv R] (Z : Addr → Prop) (f : Nat → β) (hS : SqL K H1 a xs) (hz : xs.length ≤ sizeLine) (hZ : ∀ a, Z a → H1 a ≠ none)
    (s2 : ∀ i x, xs[i]? = some x → ∀ H2, Same H1 H2 → ∀ Q' : VK, (∀ y H5, Same H2 H5 → R (fun a => H2 a = none ∨ Z a) H5 y (f i) → Q' y H5) → te (some x :: freesOf js σ) H2 Q')
    (fin : ∀ p H', H1 p = none → Same H1 H' → LsA R (fun a => a ≠ p ∧ (H1 a = none ∨ Z a)) H' p ((List.range xs.length).map f) → Q (.ref p) H') : compR js te σ Q (Itl K a) H1 := by
  refine comp_R R Z f hz hZ (fun i H2 g hi => ⟨xs, xs[i], g.seq hS, List.getElem?_eq_getElem hi⟩) (fun H2 g => ⟨xs, g.seq hS, Nat.le_refl _⟩) (fun i hi H2 x H3 g hy => ?_) fin
  obtain ⟨rfl, hx⟩ := hy
  exact ⟨rfl, s2 i x (hx xs (g.seq hS)) _ g⟩
end
end L2
namespace Sw
open PySem L2 XH Hm
/-! ### things alike -/
end Sw
set_option Elab.async false
set_option linter.all false
set_option maxRecDepth 100000
namespace Sw
open PySem L2 XH PySem.NumText
/-! ### names -/
def Nm (z : Str) : Prop := 1 ≤ (sL z).length ∧ (sL z).length ≤ 12 ∧ ∀ c ∈ sL z, 97 ≤ c ∧ c ≤ 122
end Sw
set_option Elab.async false
set_option linter.all false
set_option maxRecDepth 100000
namespace Sw
open PySem L2 XH Hm
/-! ### nets with tools and uses -/
/-! ### the net's own defs -/
/-! ### plans -/
/-! ### what the plans' defs promise -/
section
variable (C : Addr)
end
end Sw
namespace L2
open PySem PySem.Spec PyProof.Rows XH Sw
end L2
namespace Sw
open PySem L2 XH Hm
theorem rng_getD {α : Type} (xs : List α) (d : α) : (List.range xs.length).map (fun i => xs.getD i d) = xs := by
  apply List.ext_getElem
  · rw [List.length_map, List.length_range]
  · intro i h1 h2
    rw [List.getElem_map, List.getElem_range, getDo (List.getElem?_eq_getElem h2)]
end Sw
set_option Elab.async false
set_option linter.all false
set_option maxRecDepth 100000
namespace Sw
open PySem L2 XH Hm
end Sw
set_option Elab.async false
set_option linter.all false
set_option maxRecDepth 100000
namespace Sw
open PySem L2 XH
/-! ### larders: names refused -/
end Sw
set_option Elab.async false
set_option linter.all false
set_option maxRecDepth 100000
namespace Sw
open PySem L2 PyProof.Rows So
end Sw
set_option Elab.async false
set_option linter.all false
set_option maxRecDepth 100000
namespace Sw
open PySem L2 XH PyProof.Rows
end Sw
namespace Sw
open PySem L2 XH PyProof.Rows
end Sw
set_option Elab.async false
set_option linter.all false
set_option maxRecDepth 100000
namespace Sw
open PySem L2 XH PyProof.Rows
/-! ### steps with their uses and second ways -/
structure StF (fs : List (Str × V)) (nm l m u s : V) : Prop where
  name : fs.lookup ("name" : Str) = some nm
  least : fs.lookup ("least" : Str) = some l
  most : fs.lookup ("most" : Str) = some m
  uses : fs.lookup ("uses" : Str) = some u
  second : fs.lookup ("second" : Str) = some s
  word : fs.lookup ("word" : Str) = none
  span : fs.lookup ("span" : Str) = none
  grown : fs.lookup ("grown" : Str) = none
  way : fs.lookup ("grown_way" : Str) = none
theorem stepF_st {nm l m u s : V} : StF (stepF nm l m u s) nm l m u s := by
  constructor
  all_goals
    first
      | exact stepF_no (by decide +kernel)
      | (unfold stepF; simp only [lookup_putF]; (repeat rw [if_neg (by decide +kernel)]); simp)
theorem warmF_st {nm l m u s f : V} : StF (warmF nm l m u s f) nm l m u s := by
  have h := stepF_st (nm := nm) (l := l) (m := m) (u := u) (s := s)
  have k : ∀ {g : Str}, g ≠ "fill" → (warmF nm l m u s f).lookup g = (stepF nm l m u s).lookup g := fun {g} hg => by
    unfold warmF
    rw [lookup_putF, if_neg hg]
  exact ⟨(k (by decide +kernel)).trans h.name, (k (by decide +kernel)).trans h.least, (k (by decide +kernel)).trans h.most, (k (by decide +kernel)).trans h.uses, (k (by decide +kernel)).trans h.second, (k (by decide +kernel)).trans h.word, (k (by decide +kernel)).trans h.span, (k (by decide +kernel)).trans h.grown, (k (by decide +kernel)).trans h.way⟩
abbrev Sec := Option (Int × Int × List Addr)
/-- a second way, or None -/
def SecAt (H : Hp) (s : V) : Sec → Prop
  | none => s = .non
  | some (x, y, vs) => ∃ t l2, s = .ref t ∧ H t = some (.tup [.int x, .int y, .ref l2]) ∧ H l2 = some (.lst (vs.map V.ref))
/-- one that is not in H0 -/
def SecN (H0 H : Hp) (s : V) : Sec → Prop
  | none => s = .non
  | some (x, y, vs) => ∃ t l2, s = .ref t ∧ H t = some (.tup [.int x, .int y, .ref l2]) ∧ H l2 = some (.lst (vs.map V.ref)) ∧ H0 t = none ∧ H0 l2 = none
theorem SecAt.same {H H' : Hp} (g : Same H H') {s : V} : ∀ {c : Sec}, SecAt H s c → SecAt H' s c
  | none, h => h
  | some (_, _, _), ⟨t, l2, h1, h2, h3⟩ => ⟨t, l2, h1, g _ _ h2, g _ _ h3⟩
/-- what is handed in for the uses -/
def UseAt (H : Hp) (u : V) (us : List Addr) : Prop := (u = .non ∧ us = []) ∨ ∃ l, u = .ref l ∧ H l = some (.lst (us.map V.ref))
def spInit2 (K : PySem.W.Frag) : Sp := fun vs H Q _ => ∃ (a C dx : Addr) (nm : Str) (l m : Int) (uv sv : V) (us : List Addr) (c : Sec), vs = [.ref a, .str nm, .int l, .int m, uv, sv] ∧ H a = some (.ins C dx []) ∧ StepC K C ∧ UseAt H uv us ∧ SecAt H sv c ∧
  ∀ (u : Addr) (s : V) (H' : Hp), Kept H H' a → u ≠ a → H u = none → H' u = some (.lst (us.map V.ref)) → SecN H H' s c → H' a = some (.ins C dx (stepF (.str nm) (.int l) (.int m) (.ref u) s)) → Q .non H'
def spWarm2 (K : PySem.W.Frag) : Sp := fun vs H Q _ => ∃ (a C dx : Addr) (nm : Str) (l m : Int) (fl uv sv : V) (us : List Addr) (c : Sec), vs = [.ref a, .str nm, .int l, .int m, fl, uv, sv] ∧ H a = some (.ins C dx []) ∧ StepC K C ∧ NoAttr K C "fill" ∧ UseAt H uv us ∧ SecAt H sv c ∧
  ∀ (u : Addr) (s : V) (H' : Hp), Kept H H' a → u ≠ a → H u = none → H' u = some (.lst (us.map V.ref)) → SecN H H' s c → H' a = some (.ins C dx (warmF (.str nm) (.int l) (.int m) (.ref u) s fl)) → Q .non H'
def spWord (w : Str) : Sp := fun vs H Q _ => ∃ x, vs = [x] ∧ Q (.str w) H
theorem SecN.self {H0 H : Hp} {a C dx : Addr} {fs : List (Str × V)} {o : HO} {s : V} (ea : H a = some (.ins C dx fs)) : ∀ {c : Sec}, SecN H0 H s c → SecN H0 (upd H a o) s c
  | none, h => h
  | some (_, _, _), ⟨t, l2, h1, h2, h3, h4, h5⟩ => ⟨t, l2, h1, by rw [upd_ne (fun z => by rw [z, ea] at h2; cases h2)]; exact h2, by rw [upd_ne (fun z => by rw [z, ea] at h3; cases h3)]; exact h3, h4, h5⟩
end Sw
set_option Elab.async false
set_option linter.all false
set_option maxRecDepth 100000
namespace L2
open PySem PySem.Spec PyProof.Rows XH Sw
/-- isinstance(x, C) of an own class -/
theorem call_isiC {X : Cx} {K : PySem.W.Frag} (hK : X.K = K) : CallR X (.builtin "isinstance") (fun xs H Q => ∃ x t D b, xs = [x, .ref D] ∧ TyOf K H x t ∧ PySem.W.kitOne K t (.ref D) = some b ∧ Q (.bl b) H) := by
  subst hK
  intro pins s σ H xs us Q I r h
  obtain ⟨x, t, D, b, rfl, ty, e, q⟩ := h
  cases r with
  | cons r1 rr =>
    cases rr with
    | cons r2 rr =>
      cases rr
      cases r2
      exact isinst_ok I r1 ty e fun tk => ⟨.bl b, H, I.tok _, rfl, q⟩
/-- a thing that is one with itself -/
def Sam : V → Prop := fun z => Smp z ∨ ∃ a, z = .ref a
theorem eqat_sam {A : Around} {s : Shared} {z : V} {u w : Value} (h : Sam z) (r1 : RelV z u) (r2 : RelV z w) : SeqAt.EqAt A s u w true := by
  rcases h with h | ⟨a, rfl⟩
  · exact eqat_smp h r1 r2
  · cases r1
    cases r2
    exact SeqAt.EqAt.same _
theorem vals_sam {A : Around} {s : Shared} : ∀ {zs : List V} {us ws : List Value}, (∀ z ∈ zs, Sam z) → Vals zs us → Vals zs ws → ∀ j (h1 : j < us.length) (h2 : j < ws.length), SeqAt.EqAt A s us[j] ws[j] true
  | _, _, _, _, .nil, .nil, j, h1, _ => absurd h1 (by simp)
  | _, _, _, hs, .cons r1 _, .cons r2 _, 0, _, _ => eqat_sam (hs _ (List.mem_cons_self)) r1 r2
  | _, _, _, hs, .cons _ t1, .cons _ t2, j + 1, h1, h2 => vals_sam (fun z hz => hs z (List.mem_cons_of_mem _ hz)) t1 t2 j (by simpa using h1) (by simpa using h2)
end L2
namespace Sw
open PySem L2 XH PyProof.Rows
structure TyC (K : PySem.W.Frag) (C : Addr) : Prop where
  ha : PySem.W.findIn K (.ref C) "__class__" = some (some (.builtin "object.__class__"))
  hn : PySem.W.specialIn K (.builtin "object.__class__") "__get__" = some (some (.builtin "getset_descriptor.__get__"))
  htk : PySem.W.takesIn K (.builtin "object.__class__") = some true
  hm : PySem.W.mroIn K C (.type "object") = some true
theorem made_new {H : Hp} {x dx C : Addr} (nx : H x = none) (nd : H dx = none) : Same H (upd (upd H dx (.own x)) x (.ins C dx [])) := fun b o h => by
  rw [upd_ne (ne_of_none h nx), upd_ne (ne_of_none h nd)]
  exact h
theorem cut_len {z : Str} {n : Int} (h0 : 0 ≤ n) (h : n ≤ (z.length : Int)) : ((cutS z none (some n)).length : Int) = n := by
  show ((((z.cps.toList.drop _).take _).toArray.size : Nat) : Int) = n
  rw [List.size_toArray, List.length_take, List.length_drop]
  have e0 : HT.sIx z.length 0 none = 0 := rfl
  have e1 : HT.sIx z.length z.length (some n) = min n.toNat z.length := by
    unfold HT.sIx
    simp
    omega
  rw [e0, e1]
  have : z.cps.toList.length = z.length := sL_len z
  omega
theorem range_nd {α : Type} {n : Nat} {g : Nat → α} (h : ∀ i j, i < n → j < n → g i = g j → i = j) : ((List.range n).map g).Nodup := by
  refine List.pairwise_map.mpr (List.Pairwise.imp_of_mem (fun {a b} ha hb hne e => hne ?_) List.nodup_range)
  exact h a b (List.mem_range.mp ha) (List.mem_range.mp hb) e
theorem lens_inj : ∀ i : _root_.Fin 12, ∀ j : _root_.Fin 12, (12 - (5 * (0 + ((i.val : Nat) : Int))).fmod 12 : Int) = 12 - (5 * (0 + ((j.val : Nat) : Int))).fmod 12 → i = j := by decide
def abcT : Str := "abcdefghijklmnopqrstuvwxyz"
theorem abc_at : ∀ i : Nat, i < 26 → abcT.cps.toList[i]? = some (97 + i) := by decide
theorem abc_atI {v : Int} (h0 : 0 ≤ v) (h : v < 26) : atI abcT.cps.toList v = some (97 + v.toNat) := by
  have := abc_at v.toNat (by omega)
  have e : v = ((v.toNat : Nat) : Int) := by omega
  rw [e]
  exact atI_nat this
theorem ys_range {ys : List V} {n : Nat} {g : Nat → Str} (hl : ys.length = n) (h : ∀ (i : Nat) (y : V), ys[i]? = some y → y = .str (g i)) : ys = ((List.range n).map g).map V.str := by
  apply List.ext_getElem?
  intro i
  cases e : ys[i]? with
  | none =>
    have := List.getElem?_eq_none_iff.mp e
    rw [List.getElem?_eq_none (by simp; omega)]
  | some y =>
    have il := (List.getElem?_eq_some_iff.mp e).1
    rw [h i y e, List.getElem?_map, List.getElem?_map, List.getElem?_range (by omega)]
    rfl
end Sw
set_option Elab.async false
set_option linter.all false
set_option maxRecDepth 100000
namespace L2
open PySem PySem.Spec PyProof.Rows XH Sw
/-! ### long lists of constants and small displays -/
section
variable {X : Cx} {es es' : List Expr} {t t' : TA} {p : Pos} 
end
section
variable {X : Cx} {k j : Nat} {f C : Addr} {ps : List Str} {sp : Sp} {dvs : List V} {x m : Str} {p pos apos : Pos} {e o : Expr} {es : List Expr} {ta tb : TE} {t : TA} {E : L2.St → XK}
end
end L2
set_option Elab.async false
set_option linter.all false
set_option maxRecDepth 100000
namespace L2
open PySem PySem.Spec PyProof.Rows XH Sw
/-! ### pairs of texts in a list of such -/
section
variable {X : Cx} {pins : List (Addr × Obj)} {σ : St} {H : Hp} {s : Shared}
end
end L2
set_option Elab.async false
set_option linter.all false
set_option maxRecDepth 100000
namespace Sw
open PySem L2 XH PyProof.Rows
/-! ### names by letters -/
def Lt (z : Str) : Prop := ∀ c ∈ sL z, 97 ≤ c ∧ c ≤ 122
theorem Lt.app {x y : Str} (h : Lt x) (k : Lt y) : Lt (x ++ y) := fun c hc => by
  rw [sL_app] at hc
  rcases List.mem_append.mp hc with q | q
  · exact h c q
  · exact k c q
theorem Lt.cut {x : Str} (h : Lt x) (lo hi : Option Int) : Lt (cutS x lo hi) := fun c hc => by
  have hc' : c ∈ ((sL x).drop (HT.sIx x.length 0 lo)).take (HT.sIx x.length x.length hi - HT.sIx x.length 0 lo) := by simpa [sL, cutS] using hc
  exact h c (List.mem_of_mem_drop (List.mem_of_mem_take hc'))
theorem Lt.nil : Lt "" := fun c hc => by
  have : c ∈ ([] : List Nat) := hc
  simp at this
theorem Lt.one {c : Nat} (h : 97 ≤ c ∧ c ≤ 122) : Lt ⟨#[c]⟩ := fun d hd => by
  have : d ∈ [c] := hd
  rw [List.mem_singleton.mp this]
  exact h
theorem cutS_hi {x : Str} {i : Int} (h : 0 ≤ i) : (cutS x none (some i)).length = min i.toNat x.length := by
  have e1 : HT.sIx x.length 0 none = 0 := rfl
  have e2 : HT.sIx x.length x.length (some i) = min i.toNat x.length := by
    unfold HT.sIx
    simp
    omega
  show ((x.cps.toList.drop _).take _).toArray.size = _
  rw [e1, e2, List.size_toArray, List.length_take, List.length_drop]
  have : x.cps.toList.length = x.length := by simp [Str.length]
  omega
theorem Lt.nm {z : Str} (h : Lt z) (h1 : 1 ≤ z.length) (h2 : z.length ≤ 12) : Nm z := ⟨by rw [sL_len]; exact h1, by rw [sL_len]; exact h2, h⟩
end Sw
set_option Elab.async false
set_option linter.all false
set_option maxRecDepth 100000
namespace L2
open PySem PySem.Spec PyProof.Rows XH Sw
end L2
namespace Sw
open PySem L2 XH Hm PySem.NumText
/-! ### tools of the laws' nets -/
end Sw
namespace L2
open PySem PySem.Spec PyProof.Rows XH Sw
end L2
set_option Elab.async false
set_option linter.all false
set_option maxRecDepth 100000
namespace Sw
open PySem L2 XH Hm
/-! ### the law on tools at turns -/
end Sw
set_option Elab.async false
set_option linter.all false
set_option maxRecDepth 100000
namespace Sw
open PySem L2 XH Hm
/-! ### chains: what counts between two points, totals -/
end Sw
set_option Elab.async false
set_option linter.all false
set_option maxRecDepth 100000
namespace Sw
open PySem L2 XH Hm
/-! ### walks back along what is kept of a raise -/
/-! lists of such walks -/
/-! ### totals of such walks, told from their ends -/
end Sw
namespace L2
open PySem PySem.Spec PyProof.Rows XH Sw Hm
end L2
set_option Elab.async false
set_option linter.all false
set_option maxRecDepth 100000
namespace L2
open PySem PySem.Spec PyProof.Rows XH Sw
section
variable {X : Cx}
end
/-! ### len(set(xs)), xs any numbers -/
section
variable {X : Cx} {e : Expr} {te : TE} {p1 p2 pos pos2 : Pos}
end
end L2
namespace Sw
open PySem L2 XH Hm
/-! ### cases -/
section
variable (C : Addr)
end
/-! ### clashes -/
section
variable (C : Addr)
end
end Sw
set_option Elab.async false
set_option linter.all false
set_option maxRecDepth 100000
namespace Sw
open PySem L2 XH Hm
/-! ### what calls and operators ask, by short names: the text's objects are fewer -/
end Sw
set_option Elab.async false
set_option linter.all false
set_option maxRecDepth 100000
namespace Sw
open PySem L2 XH Hm
/-! ### steps of a reading by lemmas: the rest is copied once -/
end Sw
set_option Elab.async false
set_option linter.all false
set_option maxRecDepth 100000
namespace L2
open PySem PySem.Spec PyProof.Rows XH Sw
/-! ### pairs of numbers in a list of such -/
section
variable {X : Cx} {pins : List (Addr × Obj)} {σ : St} {H : Hp} {s : Shared}
end
end L2
set_option Elab.async false
set_option linter.all false
set_option maxRecDepth 100000
namespace Sw
open PySem L2 XH Hm
/-! ### crowds -/
/-! ### what the defs promise -/
section
variable (C : Addr)
end
end Sw
namespace Sw
open PySem L2 XH Hm
end Sw
set_option Elab.async false
set_option linter.all false
set_option maxRecDepth 100000
namespace Sw
open PySem L2 XH Hm PySem.NumText
/-! ### nets built round a plan -/
theorem Lt.join : ∀ {ws : List Str}, (∀ w ∈ ws, Lt w) → Lt (Str.join Str.empty ws)
  | [], _ => Lt.nil
  | [x], h => h x (by simp)
  | x :: y :: r, h => by
    have ih := Lt.join (ws := y :: r) fun w hw => h w (List.mem_cons_of_mem _ hw)
    show Lt (x ++ Str.empty ++ Str.join Str.empty (y :: r))
    exact ((h x (by simp)).app Lt.nil).app ih
theorem Lt.tjoin {ws : List Str} (h : ∀ w ∈ ws, Lt w) : Lt (Txt.join "" ws) := by
  have : Txt.join "" ws = Str.join Str.empty ws := StrLaws.glued_eq_join _ ws
  rw [this]
  exact Lt.join h
end Sw
set_option Elab.async false
set_option linter.all false
set_option maxRecDepth 100000
namespace L2
open PySem
end L2
namespace Sw
open PySem L2 XH Hm PySem.NumText
/-! ### clashes, told by the law's own rows -/
end Sw
set_option Elab.async false
set_option linter.all false
set_option maxRecDepth 100000
namespace L2
open PySem
end L2
namespace Sw
open PySem L2 XH Hm PySem.NumText
/-! ### a built plan fits; of tasks that clash some run ends before another begins -/
section
variable {f : Int} {n0 n1 : Str} {m0 m1 : Int} {hs1 hs2 : List Int} {T : Tk} {R : List Rn} {M : List Int}
end
end Sw
set_option Elab.async false
set_option linter.all false
set_option maxRecDepth 100000
namespace L2
open PySem
end L2
namespace Sw
open PySem L2 XH Hm PySem.NumText
/-! ### wants, works and heats, told by the law's own sums -/
end Sw
set_option Elab.async false
set_option linter.all false
set_option maxRecDepth 100000
namespace Sw
open PySem L2 XH Hm PySem.NumText
/-! ### the arcs of a case -/
end Sw
set_option Elab.async false
set_option linter.all false
set_option maxRecDepth 100000
namespace L2
open PySem PySem.Spec PyProof.Rows XH
end L2
namespace Sw
open PySem L2 XH Hm PySem.NumText
/-! ### whether a plan obeys a case -/
end Sw
set_option Elab.async false
set_option linter.all false
set_option maxRecDepth 100000
namespace Sw
open PySem L2 XH Hm PySem.NumText
/-! ### cases told: copies that are new (k65) -/
end Sw
namespace L2
open PySem PySem.Spec PyProof.Rows XH Sw Hm
end L2
namespace Sw
open PySem L2 XH Hm PySem.NumText
end Sw
namespace Sw
open PySem L2 XH Hm PySem.NumText
end Sw
set_option Elab.async false
set_option linter.all false
set_option maxRecDepth 100000
namespace L2
open PySem PySem.Spec PyProof.Rows XH Sw Hm
end L2
namespace Sw
open PySem L2 XH Hm PySem.NumText
/-! ### stretches -/
end Sw
namespace Sw
open PySem L2 XH Hm PySem.NumText
end Sw
namespace Sw
open PySem L2 XH Hm PySem.NumText
end Sw
namespace Sw
open PySem L2 XH Hm PySem.NumText
end Sw
namespace L2
open PySem PySem.Spec PyProof.Rows XH Sw Hm
end L2
namespace Sw
open PySem L2 XH Hm PySem.NumText
end Sw
namespace Sw
open PySem L2 XH Hm PySem.NumText
end Sw
namespace Sw
open PySem L2 XH Hm PySem.NumText
end Sw
namespace Sw
open PySem L2 XH Hm PySem.NumText
end Sw
set_option Elab.async false
set_option linter.all false
set_option maxRecDepth 100000
namespace L2
open PySem PySem.Spec PyProof.Rows XH Sw
theorem call_strV {X : Cx} : CallR X (.type "str") (fun xs H Q => (∃ i, xs = [.int i] ∧ i.natAbs.log2 < 1920 ∧ Q (.str (toString i)) H) ∨ ∃ z, xs = [.str z] ∧ Q (.str z) H) := by
  intro pins s σ H xs us Q I r h
  rcases h with h | ⟨z, rfl, q⟩
  · exact call_str_int pins s σ H xs us Q I r h
  · obtain ⟨u, rfl, t, rfl⟩ := vals1 r
    exact PySem.P.str_of_str ⟨.str z, H, I, ⟨_, rfl⟩, q⟩
theorem eS2 {a b : Str} {p q : Prop} (h1 : a = b → p) (h2 : a ≠ b → q) : if decide (V.str a = V.str b) = true then p else q := by
  by_cases e : a = b
  · subst e
    rw [if_pos (by simp)]; exact h1 rfl
  · rw [if_neg (by simp [e])]; exact h2 e
end L2
namespace Sw
open PySem L2 XH Hm PySem.NumText
/-! ### k92: papers as texts (own work) -/
/-- a number's text -/
def numT (n : Nat) : Str := mkS (dg n)
def vN (n : Nat) : V := .int (n : Int)
def blk : Str := mkS [32]
def nwl : Str := mkS [10]
/-! reading -/
def nmB (z : Str) : Bool := decide (1 ≤ (sL z).length) && decide ((sL z).length ≤ 12) && (sL z).all fun c => decide (97 ≤ c ∧ c ≤ 122)
theorem nmB_iff (z : Str) : nmB z = true ↔ Nm z := by
  unfold nmB Nm
  simp [and_assoc]
/-! what lies -/
theorem numT_len {n : Nat} (h : n ≤ 999999999) : (numT n).length ≤ 9 := by
  have := dg_len (n := n) (k := 8) (by omega)
  rw [← sL_len, numT, sL_mk]
  exact this
theorem num_lg {n : Nat} (h : n ≤ 999999999) : (n : Int).natAbs.log2 < 1920 := lg (Nat.lt_of_le_of_lt h (by decide))
theorem sum_len {m : Nat} : ∀ {ws : List Str}, (∀ w ∈ ws, w.length ≤ m) → (ws.map fun x => x.length).sum ≤ m * ws.length
  | [], _ => Nat.le_refl _
  | w :: ws, h => by
    have h1 := h w List.mem_cons_self
    have h2 := sum_len (ws := ws) fun x hx => h x (List.mem_cons_of_mem _ hx)
    rw [List.map_cons, List.sum_cons, List.length_cons, Nat.mul_add]
    omega
theorem map_getD {α β : Type} (f : α → β) (xs : List α) (d : α) : (List.range xs.length).map (fun i => f (xs.getD i d)) = xs.map f := by
  conv => rhs; rw [← rng_getD xs d, List.map_map]
  rfl
/-! specs -/
/-! whole papers -/
end Sw
set_option Elab.async false
set_option linter.all false
set_option maxRecDepth 100000
namespace Sw
open PySem L2 XH Hm PySem.NumText
/-! ### recipes as values: texts, rows, what a row does (own work) -/
abbrev Use3 := Str × Nat × Nat
abbrev Am2 := Nat × Nat
structure SV where
  w : Str
  n : Str
  lo : Nat
  hi : Nat
  fill : Option Am2
  uses : List Use3
  sec : Option (Nat × Nat × List Use3)
abbrev Lk4 := Str × Nat × Nat × Nat
structure Md where
  takes : List (Str × Am2)
  steps : List SV
  links : List Lk4
def amT (a : Am2) : Str := mkS (amtL a.1 a.2)
def fillT : Option Am2 → List Str
  | none => []
  | some a => [amT a]
def useWs (w n : Str) (u : Use3) : List Str := [w, n, u.1, numT u.2.1, numT u.2.2]
def stepWs (s : SV) : List Str := [s.w, s.n, numT s.lo, numT s.hi] ++ fillT s.fill
def secWs (n : Str) (lo hi : Nat) : List Str := ["or", n, numT lo, numT hi]
def linkWs (w a b : Str) (t : Nat) : List Str := [w, a, b] ++ if w = "within" then [numT t] else []
def jB (ws : List Str) : Str := Txt.join blk ws
def secRows (n : Str) : Option (Nat × Nat × List Use3) → List Str
  | none => []
  | some (lo, hi, us) => jB (secWs n lo hi) :: us.map fun u => jB (useWs "orwith" n u)
def stepRows (s : SV) : List Str := jB (stepWs s) :: (s.uses.map fun u => jB (useWs "with" s.n u)) ++ secRows s.n s.sec
def nmAt (ss : List SV) (i : Nat) : Str := (ss.map fun s => s.n).getD i ""
def linkT (ss : List SV) (k : Lk4) : Str := jB (linkWs k.1 (nmAt ss k.2.1) (nmAt ss k.2.2.1) k.2.2.2)
def takeT (x : Str × Am2) : Str := jB ["take", x.1, amT x.2]
def headT (n : Str) (p : Nat) : Str := jB ["dish", n, numT p]
def recRows (n : Str) (p : Nat) (M : Md) : List Str := headT n p :: M.takes.map takeT ++ (M.steps.map stepRows).flatten ++ M.links.map (linkT M.steps)
def recT (n : Str) (p : Nat) (M : Md) : Str := Txt.join nwl (recRows n p M)
/-! what is in bounds -/
structure AmG (a : Am2) : Prop where
  pos : 0 < a.1
  rd : Reads (amtL a.1 a.2) a.1 a.2
  bp : a.1 < 10 ^ 40
  bq : a.2 < 1000
  len : (amtL a.1 a.2).length ≤ 40
def UzOk (zs : List Str) (us : List Use3) : Prop := us.length ≤ 12 ∧ ∀ (i : Nat) (u : Use3), us[i]? = some u → zs[(5 * i + 3) % 12]? = some u.1 ∧ 1 ≤ u.2.1 ∧ u.2.1 ≤ 8 ∧ u.2.2 ≤ 1000
def LeOk (lo hi : Nat) : Prop := 1 ≤ lo ∧ lo ≤ hi ∧ hi ≤ 100000
def Wd3 (w : Str) : Prop := w = "cut" ∨ w = "rest" ∨ w = "warm"
def Ln3 (w : Str) : Prop := w = "after" ∨ w = "within" ∨ w = "apart"
def FlOk (w : Str) : Option Am2 → Prop
  | none => w ≠ "warm"
  | some a => w = "warm" ∧ AmG a
structure SOk (zs : List Str) (i : Nat) (s : SV) : Prop where
  nm : zs[7 * i % 12]? = some s.n
  wd : Wd3 s.w
  le : LeOk s.lo s.hi
  fl : FlOk s.w s.fill
  us : UzOk zs s.uses
  sec : ∀ x, s.sec = some x → LeOk x.1 x.2.1 ∧ UzOk zs x.2.2
structure LOk (n : Nat) (k : Lk4) : Prop where
  w : Ln3 k.1
  a : k.2.1 < n
  b : k.2.2.1 < n
  ab : k.2.1 ≠ k.2.2.1
  t : k.2.2.2 ≤ 100000
  t0 : k.1 ≠ "within" → k.2.2.2 = 0
structure MOk (zs : List Str) (room : Nat) (M : Md) : Prop where
  t12 : M.takes.length ≤ 12
  ts : ∀ (i : Nat) (x : Str × Am2), M.takes[i]? = some x → zs[(5 * i + 1) % 12]? = some x.1 ∧ AmG x.2
  sr : M.steps.length ≤ room
  ss : ∀ (i : Nat) (s : SV), M.steps[i]? = some s → SOk zs i s
  k24 : M.links.length ≤ 24
  ks : ∀ k ∈ M.links, LOk M.steps.length k
structure Zs (zs : List Str) : Prop where
  len : zs.length = 12
  nd : zs.Nodup
  nm : ∀ z ∈ zs, Nm z
/-! rows -/
inductive Flt where
  | twice
  | nostep
  | full
inductive Rr where
  | take (g : Str) (a : Am2)
  | step (w n : Str) (lo hi : Nat) (f : Option Am2)
  | sec (n : Str) (lo hi : Nat)
  | use (o : Bool) (n : Str) (u : Use3)
  | link (w a b : Str) (t : Nat)
def rrWs : Rr → List Str
  | .take g a => ["take", g, amT a]
  | .step w n lo hi f => [w, n, numT lo, numT hi] ++ fillT f
  | .sec n lo hi => secWs n lo hi
  | .use o n u => useWs (if o = true then "orwith" else "with") n u
  | .link w a b t => linkWs w a b t
def rrT (r : Rr) : Str := jB (rrWs r)
def RrOk : Rr → Prop
  | .take g a => Nm g ∧ AmG a
  | .step w n lo hi f => Wd3 w ∧ Nm n ∧ LeOk lo hi ∧ FlOk w f
  | .sec n lo hi => Nm n ∧ LeOk lo hi
  | .use _ n u => Nm n ∧ Nm u.1 ∧ 1 ≤ u.2.1 ∧ u.2.1 ≤ 8 ∧ u.2.2 ≤ 1000
  | .link w a b t => Ln3 w ∧ Nm a ∧ Nm b ∧ a ≠ b ∧ t ≤ 100000 ∧ (w ≠ "within" → t = 0)
def place (M : Md) (n : Str) : Option Nat := M.steps.findIdx? fun s => decide (s.n = n)
def atStep (M : Md) (n : Str) (f : SV → Except Flt SV) : Except Flt Md := match place M n with
  | none => .error .nostep
  | some i => match M.steps[i]? with
    | none => .error .nostep
    | some s => match f s with
      | .error e => .error e
      | .ok s' => .ok { M with steps := M.steps.set i s' }
def putU (us : List Use3) (u : Use3) : Except Flt (List Use3) := if u.1 ∈ us.map (fun x => x.1) then .error .twice else if us.length = 12 then .error .full else .ok (us ++ [u])
def putR (M : Md) : Rr → Except Flt Md
  | .take g a => if g ∈ M.takes.map (fun x => x.1) then .error .twice else if M.takes.length = 12 then .error .full else .ok { M with takes := M.takes ++ [(g, a)] }
  | .step w n lo hi f => if n ∈ M.steps.map (fun s => s.n) then .error .twice else if M.steps.length = 12 then .error .full else .ok { M with steps := M.steps ++ [⟨w, n, lo, hi, f, [], none⟩] }
  | .sec n lo hi => atStep M n fun s => match s.sec with
    | some _ => .error .twice
    | none => .ok { s with sec := some (lo, hi, []) }
  | .use false n u => atStep M n fun s => match putU s.uses u with
    | .error e => .error e
    | .ok us => .ok { s with uses := us }
  | .use true n u => atStep M n fun s => match s.sec with
    | none => .error .nostep
    | some (lo, hi, us) => match putU us u with
      | .error e => .error e
      | .ok us => .ok { s with sec := some (lo, hi, us) }
  | .link w a b t => match place M a with
    | none => .error .nostep
    | some i => match place M b with
      | none => .error .nostep
      | some j => if M.links.length = 24 then .error .full else .ok { M with links := M.links ++ [(w, i, j, t)] }
/-- what a row of the law does -/
def Took (M : Md) (z : Str) (M' : Md) : Prop := (z = "" ∧ M' = M) ∨ ∃ r, z = rrT r ∧ RrOk r ∧ putR M r = .ok M'
theorem Zs.inj {zs : List Str} (h : Zs zs) {i j : Nat} {z : Str} (hi : zs[i]? = some z) (hj : zs[j]? = some z) : i = j := by
  have il := (List.getElem?_eq_some_iff.mp hi).1
  exact (List.getElem?_inj il h.nd).mp (hi.trans hj.symm)
theorem Zs.at_ {zs : List Str} (h : Zs zs) {i : Nat} (hi : i < 12) : ∃ z, zs[i]? = some z ∧ Nm z := by
  have il : i < zs.length := by rw [h.len]; exact hi
  exact ⟨_, List.getElem?_eq_getElem il, h.nm _ (List.getElem_mem il)⟩
theorem Zs.mem {zs : List Str} (h : Zs zs) {i : Nat} {z : Str} (e : zs[i]? = some z) : Nm z := h.nm z (List.mem_of_getElem? e)
theorem no_mem {α : Type} {xs : List α} {f : α → Str} {z : Str} (h : ∀ (i : Nat) (x : α), xs[i]? = some x → f x ≠ z) : z ∉ xs.map f := fun m => by
  obtain ⟨x, hx, e⟩ := List.mem_map.mp m
  obtain ⟨i, hi⟩ := List.mem_iff_getElem?.mp hx
  exact h i x hi e
theorem lt_of_at {α : Type} {xs : List α} {i : Nat} {x : α} (h : xs[i]? = some x) : i < xs.length := (List.getElem?_eq_some_iff.mp h).1
section
variable {zs : List Str} {room : Nat} {M : Md}
theorem put_take (h : MOk zs room M) (z : Zs zs) {g : Str} {a : Am2} (hg : zs[(5 * M.takes.length + 1) % 12]? = some g) (l : M.takes.length < 12) : putR M (.take g a) = .ok { M with takes := M.takes ++ [(g, a)] } := by
  show (if g ∈ M.takes.map (fun x => x.1) then Except.error Flt.twice else if M.takes.length = 12 then .error .full else .ok _) = _
  rw [if_neg (no_mem fun i x hx e => ?_), if_neg (by omega)]
  have k := z.inj (h.ts i x hx).1 (e ▸ hg)
  have := lt_of_at hx
  omega
theorem put_step (h : MOk zs room M) (r12 : room ≤ 12) (z : Zs zs) {w n : Str} {lo hi : Nat} {f : Option Am2} (hg : zs[7 * M.steps.length % 12]? = some n) (l : M.steps.length < room) : putR M (.step w n lo hi f) = .ok { M with steps := M.steps ++ [⟨w, n, lo, hi, f, [], none⟩] } := by
  show (if n ∈ M.steps.map (fun s => s.n) then Except.error Flt.twice else if M.steps.length = 12 then .error .full else .ok _) = _
  rw [if_neg (no_mem fun i x hx e => ?_), if_neg (by omega)]
  have k := z.inj (h.ss i x hx).nm (e ▸ hg)
  have := lt_of_at hx
  omega
theorem place_at (h : MOk zs room M) (r12 : room ≤ 12) (z : Zs zs) {i : Nat} {s : SV} (hs : M.steps[i]? = some s) : place M s.n = some i := by
  unfold place
  rw [List.findIdx?_eq_some_iff_getElem]
  have il := lt_of_at hs
  refine ⟨il, ?_, fun j hj => ?_⟩
  · rw [List.getElem?_eq_getElem il] at hs
    rw [Option.some.inj hs]
    simp
  · have jl : j < M.steps.length := by omega
    have hj' := List.getElem?_eq_getElem jl
    have k := (h.ss j _ hj').nm
    have k2 := (h.ss i _ hs).nm
    simp only [decide_eq_true_eq]
    intro e
    rw [e] at k
    have := z.inj k k2
    have := h.sr
    omega
theorem at_step {M' : Md} {n : Str} {i : Nat} {s s' : SV} {f : SV → Except Flt SV} (hp : place M n = some i) (hs : M.steps[i]? = some s) (hf : f s = .ok s') : atStep M n f = .ok { M with steps := M.steps.set i s' } := by
  unfold atStep
  simp only [hp, hs, hf]
theorem put_sec (h : MOk zs room M) (r12 : room ≤ 12) (z : Zs zs) {i lo hi : Nat} {s : SV} (hs : M.steps[i]? = some s) (e : s.sec = none) : putR M (.sec s.n lo hi) = .ok { M with steps := M.steps.set i { s with sec := some (lo, hi, []) } } :=
  at_step (M' := M) (place_at h r12 z hs) hs (by rw [e])
theorem putU_ok (z : Zs zs) {us : List Use3} {u : Use3} (h : UzOk zs us) (hg : zs[(5 * us.length + 3) % 12]? = some u.1) (l : us.length ≠ 12) : putU us u = .ok (us ++ [u]) := by
  unfold putU
  rw [if_neg (no_mem fun i x hx e => ?_), if_neg l]
  have k := z.inj (h.2 i x hx).1 (e ▸ hg)
  have := lt_of_at hx
  have := h.1
  omega
theorem put_use (h : MOk zs room M) (r12 : room ≤ 12) (z : Zs zs) {i : Nat} {s : SV} {u : Use3} (hs : M.steps[i]? = some s) (hg : zs[(5 * s.uses.length + 3) % 12]? = some u.1) (l : s.uses.length ≠ 12) : putR M (.use false s.n u) = .ok { M with steps := M.steps.set i { s with uses := s.uses ++ [u] } } :=
  at_step (M' := M) (place_at h r12 z hs) hs (by rw [putU_ok z (h.ss i s hs).us hg l])
theorem put_orw (h : MOk zs room M) (r12 : room ≤ 12) (z : Zs zs) {i lo hi : Nat} {s : SV} {us : List Use3} {u : Use3} (hs : M.steps[i]? = some s) (e : s.sec = some (lo, hi, us)) (hg : zs[(5 * us.length + 3) % 12]? = some u.1) (l : us.length ≠ 12) : putR M (.use true s.n u) = .ok { M with steps := M.steps.set i { s with sec := some (lo, hi, us ++ [u]) } } :=
  at_step (M' := M) (place_at h r12 z hs) hs (by simp only [e, putU_ok z ((h.ss i s hs).sec _ e).2 hg l])
theorem put_link (h : MOk zs room M) (r12 : room ≤ 12) (z : Zs zs) {i j t : Nat} {s s' : SV} {w : Str} (hs : M.steps[i]? = some s) (hs' : M.steps[j]? = some s') (l : M.links.length ≠ 24) : putR M (.link w s.n s'.n t) = .ok { M with links := M.links ++ [(w, i, j, t)] } := by
  unfold putR
  simp only [place_at h r12 z hs, place_at h r12 z hs']
  rw [if_neg l]
/-! the bounds stay -/
theorem at_snoc {α : Type} {xs : List α} {y x : α} {i : Nat} (h : (xs ++ [y])[i]? = some x) : xs[i]? = some x ∨ (i = xs.length ∧ x = y) := by
  by_cases c : i < xs.length
  · rw [List.getElem?_append_left c] at h
    exact .inl h
  · have := lt_of_at h
    simp at this
    have e : i = xs.length := by omega
    subst e
    simp at h
    exact .inr ⟨rfl, h.symm⟩
theorem MOk.take (h : MOk zs room M) {g : Str} {a : Am2} (hg : zs[(5 * M.takes.length + 1) % 12]? = some g) (l : M.takes.length < 12) (ha : AmG a) : MOk zs room { M with takes := M.takes ++ [(g, a)] } :=
  { h with
    t12 := by simp; omega
    ts := fun i x hx => by
      rcases at_snoc hx with hx | ⟨rfl, rfl⟩
      · exact h.ts i x hx
      · exact ⟨hg, ha⟩ }
theorem MOk.step (h : MOk zs room M) {s : SV} (l : M.steps.length < room) (hs : SOk zs M.steps.length s) : MOk zs room { M with steps := M.steps ++ [s] } :=
  { h with
    sr := by simp; omega
    ss := fun i x hx => by
      rcases at_snoc hx with hx | ⟨rfl, rfl⟩
      · exact h.ss i x hx
      · exact hs
    ks := fun k hk => by
      have l := h.ks k hk
      exact ⟨l.w, by have := l.a; simp; omega, by have := l.b; simp; omega, l.ab, l.t, l.t0⟩ }
theorem MOk.set (h : MOk zs room M) {i : Nat} {s' : SV} (hs : SOk zs i s') : MOk zs room { M with steps := M.steps.set i s' } :=
  { h with
    sr := by simp; exact h.sr
    ss := fun j x hx => by
      rw [List.getElem?_set] at hx
      split at hx
      · rename_i e
        subst e
        split at hx
        · cases hx; exact hs
        · cases hx
      · exact h.ss j x hx
    ks := fun k hk => by
      have l := h.ks k hk
      exact ⟨l.w, by have := l.a; simp; omega, by have := l.b; simp; omega, l.ab, l.t, l.t0⟩ }
theorem MOk.link (h : MOk zs room M) {k : Lk4} (l : M.links.length < 24) (hk : LOk M.steps.length k) : MOk zs room { M with links := M.links ++ [k] } :=
  { h with
    k24 := by simp; omega
    ks := fun x hx => by
      rcases List.mem_append.mp hx with hx | hx
      · exact h.ks x hx
      · rw [List.mem_singleton.mp hx]; exact hk }
theorem UzOk.snoc {us : List Use3} {u : Use3} (h : UzOk zs us) (l : us.length ≠ 12) (hg : zs[(5 * us.length + 3) % 12]? = some u.1) (h1 : 1 ≤ u.2.1 ∧ u.2.1 ≤ 8 ∧ u.2.2 ≤ 1000) : UzOk zs (us ++ [u]) := by
  have := h.1
  refine ⟨by simp; omega, fun i x hx => ?_⟩
  rcases at_snoc hx with hx | ⟨rfl, rfl⟩
  · exact h.2 i x hx
  · exact ⟨hg, h1⟩
theorem MOk.nil (zs : List Str) (room : Nat) : MOk zs room ⟨[], [], []⟩ := ⟨by simp, fun i x h => by simp at h, by simp, fun i x h => by simp at h, by simp, fun k h => by simp at h⟩
end
/-! texts by pieces -/
theorem jB_cons (a b : Str) (r : List Str) : jB (a :: b :: r) = a ++ blk ++ jB (b :: r) := by
  show Builtin.Str.glued blk (a :: b :: r) = a ++ blk ++ Builtin.Str.glued blk (b :: r)
  rw [StrLaws.glued_eq_join, StrLaws.glued_eq_join]
  rfl
theorem str_assoc (a b c : Str) : a ++ b ++ c = a ++ (b ++ c) := sL_inj (by rw [sL_app, sL_app, sL_app, sL_app, List.append_assoc])
theorem jB_app (ws : List Str) (ne : ws ≠ []) (x : Str) : jB (ws ++ [x]) = jB ws ++ blk ++ x := by
  induction ws with
  | nil => exact absurd rfl ne
  | cons a ws ih =>
    cases ws with
    | nil => rfl
    | cons b r =>
      rw [List.cons_append, List.cons_append, jB_cons, jB_cons, ← List.cons_append, ih (by simp)]
      simp only [str_assoc]
theorem jB1 (a : Str) : jB [a] = a := rfl
theorem jB_len (ws : List Str) {m : Nat} (h : ∀ w ∈ ws, w.length ≤ m) : (jB ws).length ≤ (m + 1) * ws.length := by
  have := sum_len h
  unfold jB
  rw [join_len, show blk.length = 1 from rfl, Nat.add_mul]
  omega
theorem amT_len {a : Am2} (h : AmG a) : (amT a).length ≤ 40 := by unfold amT; rw [mk_len]; exact h.len
theorem Nm.len {z : Str} (h : Nm z) : z.length ≤ 12 := by have := h.2.1; rwa [sL_len] at this
end Sw
set_option Elab.async false
set_option linter.all false
set_option maxRecDepth 100000
namespace Sw
open PySem L2 XH Hm PySem.NumText
/-! ### the law's own lists, as they lie (own work) -/
structure Sk where
  a : Addr
  u : Addr
  sec : Option (Addr × Addr)
def secOwn : Option (Addr × Addr) → List Addr
  | none => []
  | some (b, v) => [b, v]
def Sk.own (k : Sk) : List Addr := k.a :: k.u :: secOwn k.sec
def uzV (u : Use3) : List V := [.str u.1, vN u.2.1, vN u.2.2]
def amV (a : Am2) : List V := [vN a.1, vN a.2]
def lkV (k : Lk4) : List V := [.str k.1, vN k.2.1, vN k.2.2.1, vN k.2.2.2]
def rTake : RA (Str × Am2) := fun P H v x => ∃ t b, v = .ref t ∧ P t ∧ P b ∧ H t = some (.tup [.str x.1, .ref b]) ∧ H b = some (.tup (amV x.2))
instance : Mv rTake where
  mv := fun {P P' H H' v x} g h => by
    obtain ⟨t, b, rfl, pt, pb, e1, e2⟩ := h
    exact ⟨t, b, rfl, (g t _ pt rfl e1).1, (g b _ pb rfl e2).1, (g t _ pt rfl e1).2, (g b _ pb rfl e2).2⟩
def FillA (H : Hp) (v : V) : Option Am2 → Prop
  | none => v = .non
  | some a => ∃ t, v = .ref t ∧ H t = some (.tup (amV a))
def lenL (lo hi : Nat) : HO := .lst [vN lo, vN hi]
abbrev Uz (H : Hp) (u : Addr) (us : List Use3) : Prop := LsA (rTup uzV) An H u us
def SecL (H : Hp) (v : V) : Option (Addr × Addr) → Option (Nat × Nat × List Use3) → Prop
  | none, none => v = .non
  | some (b, u), some (lo, hi, us) => ∃ l, v = .ref b ∧ H b = some (.lst [.ref l, .ref u]) ∧ H l = some (lenL lo hi) ∧ Uz H u us
  | _, _ => False
def SL (H : Hp) (k : Sk) (s : SV) : Prop := ∃ (l : Addr) (f v : V), H k.a = some (.lst [.str s.w, .str s.n, .ref l, f, .ref k.u, v]) ∧ H l = some (lenL s.lo s.hi) ∧ FillA H f s.fill ∧ Uz H k.u s.uses ∧ SecL H v k.sec s.sec
def owns (m lt ls lk : Addr) (ks : List Sk) : List Addr := m :: lt :: ls :: lk :: (ks.map Sk.own).flatten
structure ML (G H : Hp) (m lt ls lk : Addr) (ks : List Sk) (M : Md) : Prop where
  fr : Same G H
  nw : ∀ a ∈ owns m lt ls lk ks, G a = none
  nd : (owns m lt ls lk ks).Nodup
  em : H m = some (.lst [.ref lt, .ref ls, .ref lk])
  et : LsA rTake An H lt M.takes
  es : H ls = some (.lst (ks.map fun x => .ref x.a))
  len : ks.length = M.steps.length
  ss : ∀ (i : Nat) (k : Sk) (s : SV), ks[i]? = some k → M.steps[i]? = some s → SL H k s
  ek : LsA (rTup lkV) An H lk M.links
/-! what stays -/
def Kp (F : List Addr) (H H' : Hp) : Prop := ∀ b o, H b = some o → b ∉ F → H' b = some o
def Fq (F : List Addr) (H : Hp) : Prop := ∀ b ∈ F, ∀ o, H b = some o → ∃ vs, o = .lst vs ∧ ∀ i j : Int, vs ≠ [.int i, .int j]
theorem Kp.put {F : List Addr} {H H1 : Hp} {x : Addr} (h : Kp F H H1) (hx : x ∈ F) (o : HO) : Kp F H (upd H1 x o) := fun b u e n => by
  have nb : b ≠ x := fun z => n (by rw [z]; exact hx)
  rw [upd_ne nb]
  exact h b u e n
theorem Kp.refl (F : List Addr) (H : Hp) : Kp F H H := fun _ _ e _ => e
theorem Kp.tup {F : List Addr} {H H' : Hp} (h : Kp F H H') (q : Fq F H) {t : Addr} {xs : List V} (e : H t = some (.tup xs)) : H' t = some (.tup xs) := h _ _ e fun m => by
  obtain ⟨vs, z, _⟩ := q t m _ e
  cases z
theorem Kp.lens {F : List Addr} {H H' : Hp} (h : Kp F H H') (q : Fq F H) {t : Addr} {lo hi : Nat} (e : H t = some (lenL lo hi)) : H' t = some (lenL lo hi) := h _ _ e fun m => by
  obtain ⟨vs, z, n⟩ := q t m _ e
  cases z
  exact n _ _ rfl
theorem Kp.rtup {α : Type} {f : α → List V} {F : List Addr} {H H' : Hp} (h : Kp F H H') (q : Fq F H) {l : Addr} {xs : List α} (e : LsA (rTup f) An H l xs) (n : l ∉ F) : LsA (rTup f) An H' l xs := by
  obtain ⟨vs, e, r⟩ := e
  exact ⟨vs, h _ _ e n, r.imp fun v x ⟨t, e1, e2, e3⟩ => ⟨t, e1, e2, h.tup q e3⟩⟩
theorem Kp.rtake {F : List Addr} {H H' : Hp} (h : Kp F H H') (q : Fq F H) {l : Addr} {xs : List (Str × Am2)} (e : LsA rTake An H l xs) (n : l ∉ F) : LsA rTake An H' l xs := by
  obtain ⟨vs, e, r⟩ := e
  exact ⟨vs, h _ _ e n, r.imp fun v x ⟨t, b, e1, e2, e3, e4, e5⟩ => ⟨t, b, e1, e2, e3, h.tup q e4, h.tup q e5⟩⟩
theorem Kp.fill {F : List Addr} {H H' : Hp} (h : Kp F H H') (q : Fq F H) {v : V} {o : Option Am2} (e : FillA H v o) : FillA H' v o := by
  cases o with
  | none => exact e
  | some a => obtain ⟨t, e1, e2⟩ := e; exact ⟨t, e1, h.tup q e2⟩
theorem Kp.secL {F : List Addr} {H H' : Hp} (h : Kp F H H') (q : Fq F H) {v : V} {o : Option (Addr × Addr)} {x : Option (Nat × Nat × List Use3)} (e : SecL H v o x) (n : ∀ b ∈ secOwn o, b ∉ F) : SecL H' v o x := by
  match o, x, e with
  | none, none, e => exact e
  | some (b, u), some (lo, hi, us), ⟨l, e1, e2, e3, e4⟩ => exact ⟨l, e1, h _ _ e2 (n b (by simp [secOwn])), h.lens q e3, h.rtup q e4 (n u (by simp [secOwn]))⟩
theorem Kp.sl {F : List Addr} {H H' : Hp} (h : Kp F H H') (q : Fq F H) {k : Sk} {s : SV} (e : SL H k s) (n : ∀ b ∈ k.own, b ∉ F) : SL H' k s := by
  obtain ⟨l, f, v, e1, e2, e3, e4, e5⟩ := e
  exact ⟨l, f, v, h _ _ e1 (n k.a (by simp [Sk.own])), h.lens q e2, h.fill q e3, h.rtup q e4 (n k.u (by simp [Sk.own])), h.secL q e5 fun b hb => n b (by simp [Sk.own, hb])⟩
theorem refs_no {vs : List V} (h : ∀ v ∈ vs, ∃ a, v = .ref a) (i j : Int) : vs ≠ [.int i, .int j] := fun e => by
  obtain ⟨a, z⟩ := h (.int i) (by rw [e]; simp)
  cases z
theorem LsA.refs {α : Type} {f : α → List V} {P : Addr → Prop} {H : Hp} {l : Addr} {xs : List α} (h : LsA (rTup f) P H l xs) : ∃ vs, H l = some (.lst vs) ∧ ∀ i j : Int, vs ≠ [.int i, .int j] := by
  obtain ⟨vs, e, r⟩ := h
  refine ⟨vs, e, refs_no fun v hv => ?_⟩
  obtain ⟨i, hi⟩ := List.mem_iff_getElem?.mp hv
  obtain ⟨x, _, t, e, _⟩ := r.at_ hi
  exact ⟨t, e⟩
theorem take_refs {P : Addr → Prop} {H : Hp} {l : Addr} {xs : List (Str × Am2)} (h : LsA rTake P H l xs) : ∃ vs, H l = some (.lst vs) ∧ ∀ i j : Int, vs ≠ [.int i, .int j] := by
  obtain ⟨vs, e, r⟩ := h
  refine ⟨vs, e, refs_no fun v hv => ?_⟩
  obtain ⟨i, hi⟩ := List.mem_iff_getElem?.mp hv
  obtain ⟨x, _, t, _, e, _⟩ := r.at_ hi
  exact ⟨t, e⟩
theorem fq_one {H : Hp} {x : Addr} (h : ∃ vs, H x = some (.lst vs) ∧ ∀ i j : Int, vs ≠ [.int i, .int j]) : Fq [x] H := fun b hb o e => by
  rw [List.mem_singleton.mp hb] at e
  obtain ⟨vs, e2, n⟩ := h
  rw [e2] at e
  cases e
  exact ⟨vs, rfl, n⟩
theorem SL.fq {H : Hp} {k : Sk} {s : SV} (h : SL H k s) : Fq k.own H := fun b hb o e => by
  obtain ⟨l, f, v, e1, e2, e3, e4, e5⟩ := h
  unfold Sk.own at hb
  rcases List.mem_cons.mp hb with rfl | hb
  · rw [e1] at e; cases e; exact ⟨_, rfl, fun i j z => by simp at z⟩
  rcases List.mem_cons.mp hb with rfl | hb
  · exact fq_one e4.refs _ (List.mem_singleton.mpr rfl) o e
  generalize k.sec = o1, s.sec = o2 at hb e5
  match o1, o2, e5 with
  | none, none, e => simp [secOwn] at hb
  | some (b', u), some (lo, hi, us), ⟨l', f1, f2, f3, f4⟩ =>
    simp only [secOwn, List.mem_cons, List.not_mem_nil, or_false] at hb
    rcases hb with rfl | rfl
    · rw [f2] at e; cases e; exact ⟨_, rfl, fun i j z => by simp at z⟩
    · exact fq_one f4.refs _ (List.mem_singleton.mpr rfl) o e
theorem SL.all {H : Hp} {k : Sk} {s : SV} (h : SL H k s) : ∀ b ∈ k.own, H b ≠ none := fun b hb z => by
  obtain ⟨l, f, v, e1, e2, e3, ⟨vs, e4, _⟩, e5⟩ := h
  unfold Sk.own at hb
  rcases List.mem_cons.mp hb with rfl | hb
  · rw [e1] at z; cases z
  rcases List.mem_cons.mp hb with rfl | hb
  · rw [e4] at z; cases z
  generalize k.sec = o1, s.sec = o2 at hb e5
  match o1, o2, e5 with
  | none, none, e => simp [secOwn] at hb
  | some (b', u), some (lo, hi, us), ⟨l', f1, f2, f3, ⟨_, f4, _⟩⟩ =>
    simp only [secOwn, List.mem_cons, List.not_mem_nil, or_false] at hb
    rcases hb with rfl | rfl
    · rw [f2] at z; cases z
    · rw [f4] at z; cases z
theorem kp_nil {H H' : Hp} (g : Same H H') : Kp [] H H' := fun b o e _ => g _ _ e
theorem SL.same {H H' : Hp} {k : Sk} {s : SV} (h : SL H k s) (g : Same H H') : SL H' k s := (kp_nil g).sl (fun b hb => nomatch hb) h fun b _ z => nomatch z
section
variable {G H H' : Hp} {m lt ls lk : Addr} {ks : List Sk} {M : Md}
theorem ML.same (h : ML G H m lt ls lk ks M) (g : Same H H') : ML G H' m lt ls lk ks M :=
  { h with
    fr := h.fr.trans g
    em := g _ _ h.em
    et := h.et.same g
    es := g _ _ h.es
    ss := fun i k s e1 e2 => (h.ss i k s e1 e2).same g
    ek := h.ek.same g }
theorem own_mem {k : Sk} {b : Addr} (hk : k ∈ ks) (hb : b ∈ k.own) : b ∈ owns m lt ls lk ks := by
  unfold owns
  refine List.mem_cons_of_mem _ (List.mem_cons_of_mem _ (List.mem_cons_of_mem _ (List.mem_cons_of_mem _ ?_)))
  exact List.mem_flatten.mpr ⟨_, List.mem_map.mpr ⟨k, hk, rfl⟩, hb⟩
theorem ML.all (h : ML G H m lt ls lk ks M) : ∀ b ∈ owns m lt ls lk ks, H b ≠ none := fun b hb z => by
  unfold owns at hb
  rcases List.mem_cons.mp hb with rfl | hb
  · rw [h.em] at z; cases z
  rcases List.mem_cons.mp hb with rfl | hb
  · obtain ⟨vs, e, _⟩ := h.et; rw [e] at z; cases z
  rcases List.mem_cons.mp hb with rfl | hb
  · rw [h.es] at z; cases z
  rcases List.mem_cons.mp hb with rfl | hb
  · obtain ⟨vs, e, _⟩ := h.ek; rw [e] at z; cases z
  obtain ⟨o, ho, hb⟩ := List.mem_flatten.mp hb
  obtain ⟨k, hk, rfl⟩ := List.mem_map.mp ho
  obtain ⟨i, hi⟩ := List.mem_iff_getElem?.mp hk
  have il : i < M.steps.length := by rw [← h.len]; exact lt_of_at hi
  exact (h.ss i k _ hi (List.getElem?_eq_getElem il)).all b hb z
/-- all but what the model owns -/
noncomputable def less (H : Hp) (F : List Addr) : Hp := fun a => by classical exact if a ∈ F then none else H a
theorem less_same (H : Hp) (F : List Addr) : Same (less H F) H := fun b o e => by
  unfold less at e
  split at e
  · cases e
  · exact e
theorem less_at {H : Hp} {F : List Addr} {a : Addr} (n : a ∉ F) : less H F a = H a := if_neg n
theorem ML.top (h : ML G H m lt ls lk ks M) : ML (less H (owns m lt ls lk ks)) H m lt ls lk ks M :=
  { h with
    fr := less_same _ _
    nw := fun a ha => if_pos ha }
theorem ML.low (h : ML G H m lt ls lk ks M) {G' : Hp} (g : Same G' G) : ML G' H m lt ls lk ks M :=
  { h with
    fr := g.trans h.fr
    nw := fun a ha => g.free (h.nw a ha) }
theorem ML.step_ne (h : ML G H m lt ls lk ks M) {k : Sk} {b x : Addr} (hk : k ∈ ks) (hb : b ∈ k.own) (hx : x = m ∨ x = lt ∨ x = ls ∨ x = lk) : b ≠ x := fun e => by
  subst e
  have nd := h.nd
  unfold owns at nd
  have mem : b ∈ (ks.map Sk.own).flatten := List.mem_flatten.mpr ⟨_, List.mem_map.mpr ⟨k, hk, rfl⟩, hb⟩
  simp only [List.nodup_cons, List.mem_cons, not_or] at nd
  rcases hx with rfl | rfl | rfl | rfl
  · exact nd.1.2.2.2 mem
  · exact nd.2.1.2.2 mem
  · exact nd.2.2.1.2 mem
  · exact nd.2.2.2.1 mem
theorem ML.ne (h : ML G H m lt ls lk ks M) : m ≠ lt ∧ m ≠ ls ∧ m ≠ lk ∧ lt ≠ ls ∧ lt ≠ lk ∧ ls ≠ lk := by
  have nd := h.nd
  unfold owns at nd
  simp only [List.nodup_cons, List.mem_cons, not_or] at nd
  exact ⟨nd.1.1, nd.1.2.1, nd.1.2.2.1, nd.2.1.1, nd.2.1.2.1, nd.2.2.1.1⟩
theorem same_put {x : Addr} (g : Same G H) (nx : G x = none) (o : HO) : Same G (upd H x o) := fun b u e => by rw [upd_ne (ne_of_none e nx)]; exact g _ _ e
theorem ML.take (h : ML G H m lt ls lk ks M) {vs : List V} {v : V} {x : Str × Am2} (e : H lt = some (.lst vs)) (hv : rTake An H v x) : ML G (upd H lt (.lst (vs ++ [v]))) m lt ls lk ks { M with takes := M.takes ++ [x] } := by
  obtain ⟨n1, n2, n3, n4, n5, n6⟩ := h.ne
  have q := fq_one (take_refs h.et)
  have kp := (Kp.refl [lt] H).put (x := lt) (by simp) (.lst (vs ++ [v]))
  refine { h with fr := same_put h.fr (h.nw lt (by simp [owns])) _, em := kp _ _ h.em (by simpa using n1), et := ?_, es := kp _ _ h.es (by simpa using n4.symm), ss := fun i k s e1 e2 => kp.sl q (h.ss i k s e1 e2) fun b hb => by simpa using h.step_ne (List.mem_of_getElem? e1) hb (.inr (.inl rfl)), ek := kp.rtup q h.ek (by simpa using n5.symm) }
  obtain ⟨us, e', r⟩ := h.et
  rw [e] at e'
  cases e'
  exact ⟨_, upd_same, (r.snoc hv).imp fun v x ⟨t, b, e1, e2, e3, e4, e5⟩ => ⟨t, b, e1, e2, e3, kp.tup q e4, kp.tup q e5⟩⟩
theorem ML.link (h : ML G H m lt ls lk ks M) {vs : List V} {v : V} {x : Lk4} (e : H lk = some (.lst vs)) (hv : rTup lkV An H v x) : ML G (upd H lk (.lst (vs ++ [v]))) m lt ls lk ks { M with links := M.links ++ [x] } := by
  obtain ⟨n1, n2, n3, n4, n5, n6⟩ := h.ne
  have q := fq_one h.ek.refs
  have kp := (Kp.refl [lk] H).put (x := lk) (by simp) (.lst (vs ++ [v]))
  refine { h with fr := same_put h.fr (h.nw lk (by simp [owns])) _, em := kp _ _ h.em (by simpa using n3), et := kp.rtake q h.et (by simpa using n5), es := kp _ _ h.es (by simpa using n6), ss := fun i k s e1 e2 => kp.sl q (h.ss i k s e1 e2) fun b hb => by simpa using h.step_ne (List.mem_of_getElem? e1) hb (.inr (.inr (.inr rfl))), ek := ?_ }
  obtain ⟨us, e', r⟩ := h.ek
  rw [e] at e'
  cases e'
  exact ⟨_, upd_same, (r.snoc hv).imp fun v x ⟨t, e1, e2, e3⟩ => ⟨t, e1, e2, kp.tup q e3⟩⟩
theorem ML.step {H0 : Hp} (h : ML G H0 m lt ls lk ks M) (g : Same H0 H) {k : Sk} {s : SV} (hs : SL H k s) (nk : ∀ a ∈ k.own, H0 a = none) (nd : k.own.Nodup) : ML G (upd H ls (.lst ((ks.map fun x => V.ref x.a) ++ [.ref k.a]))) m lt ls lk (ks ++ [k]) { M with steps := M.steps ++ [s] } := by
  have all := h.all
  have h1 := h.same g
  obtain ⟨n1, n2, n3, n4, n5, n6⟩ := h.ne
  have q : Fq [ls] H := fq_one ⟨_, h1.es, refs_no fun v hv => by
    obtain ⟨k, _, rfl⟩ := List.mem_map.mp hv
    exact ⟨_, rfl⟩⟩
  have kp := (Kp.refl [ls] H).put (x := ls) (by simp) (.lst ((ks.map fun x => V.ref x.a) ++ [.ref k.a]))
  have eo : owns m lt ls lk (ks ++ [k]) = owns m lt ls lk ks ++ k.own := by simp [owns]
  have dj : ∀ a ∈ k.own, a ∉ owns m lt ls lk ks := fun a ha hm => all a hm (nk a ha)
  refine { fr := same_put h1.fr (h.nw ls (by simp [owns])) _, nw := ?_, nd := ?_, em := kp _ _ h1.em (by simpa using n2), et := kp.rtake q h1.et (by simpa using n4), es := by rw [upd_same, List.map_append]; rfl, len := by simp [h.len], ss := ?_, ek := kp.rtup q h1.ek (by simpa using n6.symm) }
  · rw [eo]
    intro a ha
    rcases List.mem_append.mp ha with ha | ha
    · exact h.nw a ha
    · exact h.fr.free (nk a ha)
  · rw [eo, List.nodup_append]
    exact ⟨h.nd, nd, fun a ha b hb e => dj b hb (e ▸ ha)⟩
  · intro i k' s' e1 e2
    rcases at_snoc e1 with e1 | ⟨ei, rfl⟩
    · have il : i < M.steps.length := by rw [← h.len]; exact lt_of_at e1
      have e2' : M.steps[i]? = some s' := by
        rw [← e2]
        exact (List.getElem?_append_left il).symm
      exact kp.sl q (h1.ss i k' s' e1 e2') fun b hb => by simpa using h.step_ne (List.mem_of_getElem? e1) hb (.inr (.inr (.inl rfl)))
    · have e2' : s = s' := by
        rw [ei, h.len] at e2
        simp at e2
        exact e2
      subst e2'
      exact kp.sl q hs fun b hb z => dj b hb (by rw [List.mem_singleton.mp z]; simp [owns])
theorem ML.set (h : ML G H m lt ls lk ks M) {i : Nat} {k k' : Sk} {s s' : SV} (e1 : ks[i]? = some k) (e2 : M.steps[i]? = some s) (kp : Kp k.own H H') (hs : SL H' k' s') (ea : k'.a = k.a) (nk : ∀ a ∈ k'.own, a ∈ k.own ∨ H a = none) (nd : k'.own.Nodup) : ML G H' m lt ls lk (ks.set i k') { M with steps := M.steps.set i s' } := by
  have all := h.all
  have q := (h.ss i k s e1 e2).fq
  have mk := List.mem_of_getElem? e1
  have il := lt_of_at e1
  have n4 : ∀ x, (x = m ∨ x = lt ∨ x = ls ∨ x = lk) → x ∉ k.own := fun x hx z => h.step_ne mk z hx rfl
  have ndf := h.nd
  have spl : ks = ks.take i ++ k :: ks.drop (i + 1) := by
    rw [List.getElem?_eq_getElem il] at e1
    rw [← Option.some.inj e1, ← List.drop_eq_getElem_cons il, List.take_append_drop]
  have spl' : ks.set i k' = ks.take i ++ k' :: ks.drop (i + 1) := by rw [List.set_eq_take_append_cons_drop, if_pos il]
  have own1 : owns m lt ls lk ks = (m :: lt :: ls :: lk :: ((ks.take i).map Sk.own).flatten) ++ (k.own ++ ((ks.drop (i + 1)).map Sk.own).flatten) := by
    unfold owns
    conv => lhs; rw [spl]
    simp
  have own2 : owns m lt ls lk (ks.set i k') = (m :: lt :: ls :: lk :: ((ks.take i).map Sk.own).flatten) ++ (k'.own ++ ((ks.drop (i + 1)).map Sk.own).flatten) := by
    unfold owns
    rw [spl']
    simp
  rw [own1, List.nodup_append, List.nodup_append] at ndf
  obtain ⟨d1, ⟨d2, d3, d4⟩, d5⟩ := ndf
  have inO : ∀ a, a ∈ (m :: lt :: ls :: lk :: ((ks.take i).map Sk.own).flatten) ∨ a ∈ ((ks.drop (i + 1)).map Sk.own).flatten → H a ≠ none ∧ a ∉ k.own := fun a ha => by
    refine ⟨all a (by rw [own1]; rcases ha with ha | ha; exact List.mem_append_left _ ha; exact List.mem_append_right _ (List.mem_append_right _ ha)), fun z => ?_⟩
    rcases ha with ha | ha
    · exact d5 a ha a (List.mem_append_left _ z) rfl
    · exact d4 a z a ha rfl
  refine { fr := ?_, nw := ?_, nd := ?_, em := kp _ _ h.em (n4 _ (.inl rfl)), et := kp.rtake q h.et (n4 _ (.inr (.inl rfl))), es := ?_, len := by simp [h.len], ss := ?_, ek := kp.rtup q h.ek (n4 _ (.inr (.inr (.inr rfl)))) }
  · exact fun b o e => kp _ _ (h.fr _ _ e) fun z => by
      have := h.nw b (own_mem mk z)
      rw [this] at e
      cases e
  · rw [own2]
    intro a ha
    rcases List.mem_append.mp ha with ha | ha
    · exact h.nw a (by rw [own1]; exact List.mem_append_left _ ha)
    rcases List.mem_append.mp ha with ha | ha
    · rcases nk a ha with hk | hn
      · exact h.nw a (own_mem mk hk)
      · exact h.fr.free hn
    · exact h.nw a (by rw [own1]; exact List.mem_append_right _ (List.mem_append_right _ ha))
  · rw [own2, List.nodup_append, List.nodup_append]
    refine ⟨d1, ⟨nd, d3, fun a ha b hb e => ?_⟩, fun a ha b hb e => ?_⟩
    · have := inO b (.inr hb)
      rcases nk a ha with hk | hn
      · exact this.2 (e ▸ hk)
      · exact this.1 (e ▸ hn)
    · have := inO a (.inl ha)
      rcases List.mem_append.mp hb with hb | hb
      · rcases nk b hb with hk | hn
        · exact this.2 (e ▸ hk)
        · exact this.1 (e ▸ hn)
      · exact d5 a ha b (List.mem_append_right _ hb) e
  · rw [kp _ _ h.es (n4 _ (.inr (.inr (.inl rfl))))]
    congr 2
    apply List.ext_getElem?
    intro j
    rw [List.getElem?_map, List.getElem?_map, List.getElem?_set]
    by_cases c : i = j
    · subst c
      rw [if_pos rfl, if_pos il, e1]
      simp [ea]
    · rw [if_neg c]
  · intro j kj sj f1 f2
    have f2' : (M.steps.set i s')[j]? = some sj := f2
    rw [List.getElem?_set] at f1 f2'
    by_cases c : i = j
    · subst c
      rw [if_pos rfl] at f1 f2'
      rw [if_pos il] at f1
      rw [if_pos (by rw [← h.len]; exact il)] at f2'
      cases f1
      cases f2'
      exact hs
    · rw [if_neg c] at f1 f2'
      refine kp.sl q (h.ss j kj sj f1 f2') fun b hb z => ?_
      have mj : kj ∈ ks.take i ∨ kj ∈ ks.drop (i + 1) := by
        by_cases lt : j < i
        · exact .inl (List.mem_of_getElem? (i := j) (by rw [List.getElem?_take, if_pos lt]; exact f1))
        · exact .inr (List.mem_of_getElem? (i := j - (i + 1)) (by rw [List.getElem?_drop, show i + 1 + (j - (i + 1)) = j by omega]; exact f1))
      rcases mj with mj | mj
      · exact (inO b (.inl (by
          refine List.mem_cons_of_mem _ (List.mem_cons_of_mem _ (List.mem_cons_of_mem _ (List.mem_cons_of_mem _ ?_)))
          exact List.mem_flatten.mpr ⟨_, List.mem_map.mpr ⟨kj, mj, rfl⟩, hb⟩))).2 z
      · exact (inO b (.inr (List.mem_flatten.mpr ⟨_, List.mem_map.mpr ⟨kj, mj, rfl⟩, hb⟩))).2 z
end
end Sw
set_option Elab.async false
set_option linter.all false
set_option maxRecDepth 100000
namespace L2
open PySem PySem.Spec PyProof.Rows XH Sw
section
variable {X : Cx}
theorem op_eqSam (hu : X.A.units < cLine) : OpR X (compareOp .Eq) (fun x y H Q => ∃ (a b : Addr) (zs : List V), x = .ref a ∧ y = .ref b ∧ SqL X.K H a zs ∧ SqL X.K H b zs ∧ (∀ z ∈ zs, Sam z) ∧ Q (.bl true) H) := by
  intro pins s σ H x y v u Q I rx ry h
  obtain ⟨a, b, zs, rfl, rfl, h1, h2, hz, hq⟩ := h
  cases rx
  cases ry
  obtain ⟨i1, r1, p1, _⟩ := I.list h1
  obtain ⟨i2, r2, p2, _⟩ := I.list h2
  refine SeqAt.eq_listAt (e := fun _ => true) p1.isList p2.isList (by simp [← r1.length, ← r2.length]) hu (fun j g1 g2 => ?_) ⟨.bl true, H, I, by show Value.bool _ = Value.bool _; simp, hq⟩
  exact vals_sam (A := X.A.in1) (s := s) hz r1 r2 j (by simpa using g1) (by simpa using g2)
/-- two lists of lists, each pair with the same things -/
def Twin (K : PySem.W.Frag) (H : Hp) : List V → List V → Prop
  | [], [] => True
  | x :: xs, y :: ys => (∃ (a b : Addr) (zs : List V), x = .ref a ∧ y = .ref b ∧ SqL K H a zs ∧ SqL K H b zs ∧ ∀ z ∈ zs, Sam z) ∧ Twin K H xs ys
  | _, _ => False
theorem Twin.len {K : PySem.W.Frag} {H : Hp} : ∀ {xs ys : List V}, Twin K H xs ys → xs.length = ys.length
  | [], [], _ => rfl
  | _ :: _, _ :: _, h => by simp [Twin.len h.2]
  | [], _ :: _, h => h.elim
  | _ :: _, [], h => h.elim
theorem twin_eq {pins : List (Addr × Obj)} {σ : St} {H : Hp} {s : Shared} (I : Inv X pins σ H s) {A : Around} (hu : A.units < cLine) : ∀ {xs ys : List V} {us ws : List Value}, Twin X.K H xs ys → Vals xs us → Vals ys ws → ∀ j (h1 : j < us.length) (h2 : j < ws.length), SeqAt.EqAt A s us[j] ws[j] true
  | [], [], _, _, _, .nil, .nil, j, h1, _ => absurd h1 (by simp)
  | _ :: _, _ :: _, _, _, h, .cons r1 _, .cons r2 _, 0, _, _ => by
    obtain ⟨a, b, zs, rfl, rfl, h1, h2, hz⟩ := h.1
    cases r1
    cases r2
    by_cases e : a = b
    · subst e
      exact SeqAt.EqAt.same _
    refine SeqAt.EqAt.of_refs e ?_
    obtain ⟨i1, v1, p1, _⟩ := I.list h1
    obtain ⟨i2, v2, p2, _⟩ := I.list h2
    have k := SeqAt.RcAt.lists (A := A) (e := fun _ => true) p1.isList p2.isList (by simp [← v1.length, ← v2.length]) hu fun j g1 g2 => vals_sam (A := A.in1) (s := s) hz v1 v2 j (by simpa using g1) (by simpa using g2)
    have e1 : ∀ m, ((List.range m).all fun _ => true) = true := fun m => by simp
    rw [e1] at k
    exact k
  | _ :: _, _ :: _, _, _, h, .cons _ t1, .cons _ t2, j + 1, h1, h2 => twin_eq I hu h.2 t1 t2 j (by simpa using h1) (by simpa using h2)
theorem op_neTw (hu : X.A.units + 1 < cLine) : OpR X (compareOp .NotEq) (fun x y H Q => ∃ (a b : Addr) (xs ys : List V), x = .ref a ∧ y = .ref b ∧ SqL X.K H a xs ∧ SqL X.K H b ys ∧ Twin X.K H xs ys ∧ Q (.bl false) H) := by
  intro pins s σ H x y v u Q I rx ry h
  obtain ⟨a, b, xs, ys, rfl, rfl, h1, h2, hz, hq⟩ := h
  cases rx
  cases ry
  obtain ⟨i1, r1, p1, _⟩ := I.list h1
  obtain ⟨i2, r2, p2, _⟩ := I.list h2
  refine SeqAt.RcNeAt.lists (e := fun _ => true) p1.isList p2.isList (by simp [← r1.length, ← r2.length, hz.len]) (by omega) (fun j g1 g2 => ?_) _ _ _ _ ⟨.bl false, H, I, by show Value.bool _ = Value.bool _; simp, hq⟩
  exact twin_eq I (A := X.A.in1) (by show X.A.units + 1 < _; omega) hz r1 r2 j (by simpa using g1) (by simpa using g2)
end
end L2
namespace Sw
open PySem L2 XH Hm PySem.NumText
/-! ### steps and recipes as objects -/
def SecO (H : Hp) (v : V) : Option (Nat × Nat × List Use3) → Prop
  | none => v = .non
  | some (lo, hi, us) => ∃ t l, v = .ref t ∧ H t = some (.tup [vN lo, vN hi, .ref l]) ∧ Uz H l us
def FillF (H : Hp) (ff : List (Str × V)) : Option Am2 → Prop
  | none => True
  | some a => ∃ t, ff.lookup ("fill" : Str) = some (.ref t) ∧ H t = some (.tup (amV a))
def ClsOf (cC cR cW : Addr) (w : Str) (C : Addr) : Prop := (w = "cut" ∧ C = cC) ∨ (w = "rest" ∧ C = cR) ∨ (w = "warm" ∧ C = cW)
def StO (cC cR cW : Addr) (H : Hp) (x : Addr) (s : SV) : Prop := ∃ (C dx u : Addr) (sv : V) (ff : List (Str × V)), H x = some (.ins C dx ff) ∧ ClsOf cC cR cW s.w C ∧ StF ff (.str s.n) (vN s.lo) (vN s.hi) (.ref u) sv ∧ FillF H ff s.fill ∧ Uz H u s.uses ∧ SecO H sv s.sec
theorem SecO.same {H H' : Hp} (g : Same H H') {v : V} : ∀ {o : Option (Nat × Nat × List Use3)}, SecO H v o → SecO H' v o
  | none, h => h
  | some (_, _, _), ⟨t, l, e1, e2, e3⟩ => ⟨t, l, e1, g _ _ e2, e3.same g⟩
theorem FillF.same {H H' : Hp} (g : Same H H') {ff : List (Str × V)} : ∀ {o : Option Am2}, FillF H ff o → FillF H' ff o
  | none, h => h
  | some _, ⟨t, e1, e2⟩ => ⟨t, e1, g _ _ e2⟩
theorem StO.same {cC cR cW : Addr} {H H' : Hp} {x : Addr} {s : SV} (h : StO cC cR cW H x s) (g : Same H H') : StO cC cR cW H' x s := by
  obtain ⟨C, dx, u, sv, ff, e1, e2, e3, e4, e5, e6⟩ := h
  exact ⟨C, dx, u, sv, ff, g _ _ e1, e2, e3, e4.same g, e5.same g, e6.same g⟩
abbrev StV (cC cR cW : Addr) (H : Hp) (v : V) (s : SV) : Prop := ∃ x, v = .ref x ∧ StO cC cR cW H x s
def LsS (cC cR cW : Addr) (H : Hp) (l : Addr) (ss : List SV) : Prop := ∃ vs, H l = some (.lst vs) ∧ A2 (StV cC cR cW H) vs ss
theorem A2.steps {cC cR cW : Addr} {H H' : Hp} (g : Same H H') {vs : List V} {ss : List SV} (r : A2 (StV cC cR cW H) vs ss) : A2 (StV cC cR cW H') vs ss := r.imp fun v s ⟨x, e, k⟩ => ⟨x, e, k.same g⟩
/-- a recipe whose lists are these -/
structure RcF (cRec : Addr) (H : Hp) (r : Addr) (n : Str) (p : Nat) (lt ls lk : Addr) : Prop where
  ex : ∃ dx, H r = some (.ins cRec dx (recF (.str n) (vN p) (.ref lt) (.ref ls) (.ref lk)))
theorem RcF.same {cRec : Addr} {H H' : Hp} {r : Addr} {n : Str} {p : Nat} {lt ls lk : Addr} (h : RcF cRec H r n p lt ls lk) (g : Same H H') : RcF cRec H' r n p lt ls lk := by
  obtain ⟨dx, e⟩ := h.ex
  exact ⟨dx, g _ _ e⟩
theorem recF_f {nm p t s l : V} : (recF nm p t s l).lookup ("name" : Str) = some nm ∧ (recF nm p t s l).lookup ("plates" : Str) = some p ∧ (recF nm p t s l).lookup ("takes" : Str) = some t ∧ (recF nm p t s l).lookup ("steps" : Str) = some s ∧ (recF nm p t s l).lookup ("links" : Str) = some l := by
  unfold recF
  refine ⟨?_, ?_, ?_, ?_, ?_⟩
  all_goals
    simp only [lookup_putF]
    (repeat rw [if_neg (by decide +kernel)])
    simp
structure RcA (cC cR cW cRec : Addr) (H : Hp) (r : Addr) (n : Str) (p : Nat) (M : Md) : Prop where
  ex : ∃ lt ls lk, RcF cRec H r n p lt ls lk ∧ LsA rTake An H lt M.takes ∧ LsS cC cR cW H ls M.steps ∧ LsA (rTup lkV) An H lk M.links
/-! bounds without the names' list -/
def UBd (us : List Use3) : Prop := us.length ≤ 12 ∧ ∀ u ∈ us, Nm u.1 ∧ 1 ≤ u.2.1 ∧ u.2.1 ≤ 8 ∧ u.2.2 ≤ 1000
structure SBd (s : SV) : Prop where
  nm : Nm s.n
  wd : Wd3 s.w
  le : LeOk s.lo s.hi
  fl : FlOk s.w s.fill
  us : UBd s.uses
  sec : ∀ x, s.sec = some x → LeOk x.1 x.2.1 ∧ UBd x.2.2
structure MBd (M : Md) : Prop where
  t12 : M.takes.length ≤ 12
  ts : ∀ x ∈ M.takes, Nm x.1 ∧ AmG x.2
  s12 : M.steps.length ≤ 12
  ss : ∀ s ∈ M.steps, SBd s
  k24 : M.links.length ≤ 24
  ks : ∀ k ∈ M.links, LOk M.steps.length k
theorem UzOk.bd {zs : List Str} (z : Zs zs) {us : List Use3} (h : UzOk zs us) : UBd us := ⟨h.1, fun u hu => by
  obtain ⟨i, hi⟩ := List.mem_iff_getElem?.mp hu
  obtain ⟨h1, h2⟩ := h.2 i u hi
  exact ⟨z.mem h1, h2⟩⟩
theorem SOk.bd {zs : List Str} (z : Zs zs) {i : Nat} {s : SV} (h : SOk zs i s) : SBd s := ⟨z.mem h.nm, h.wd, h.le, h.fl, h.us.bd z, fun x hx => ⟨(h.sec x hx).1, (h.sec x hx).2.bd z⟩⟩
theorem MOk.bd {zs : List Str} (z : Zs zs) {room : Nat} (r12 : room ≤ 12) {M : Md} (h : MOk zs room M) : MBd M where
  t12 := h.t12
  ts := fun x hx => by
    obtain ⟨i, hi⟩ := List.mem_iff_getElem?.mp hx
    exact ⟨z.mem (h.ts i x hi).1, (h.ts i x hi).2⟩
  s12 := by have := h.sr; omega
  ss := fun s hs => by
    obtain ⟨i, hi⟩ := List.mem_iff_getElem?.mp hs
    exact (h.ss i s hi).bd z
  k24 := h.k24
  ks := h.ks
/-! things of a row -/
inductive Th where
  | t (z : Str)
  | n (k : Nat)
def thV : Th → V
  | .t z => .str z
  | .n k => vN k
def thT : Th → Str
  | .t z => z
  | .n k => numT k
def ThOk : Th → Prop
  | .t z => z.length ≤ 60
  | .n k => k ≤ 999999999
theorem thT_len {x : Th} (h : ThOk x) : (thT x).length ≤ 60 := by
  cases x with
  | t z => exact h
  | n k => have := numT_len h; show (numT k).length ≤ 60; omega
def spRowOf : Sp := fun vs H Q _ => ∃ (l : Addr) (ts : List Th), vs = [.ref l] ∧ H l = some (.lst (ts.map thV)) ∧ ts.length ≤ 20 ∧ (∀ x ∈ ts, ThOk x) ∧ ∀ H', Same H H' → Q (.str (jB (ts.map thT))) H'
def spUseRows : Sp := fun vs H Q _ => ∃ (w n : Str) (u : Addr) (us : List Use3), vs = [.str w, .str n, .ref u] ∧ Uz H u us ∧ UBd us ∧ w.length ≤ 12 ∧ n.length ≤ 12 ∧ ∀ (l : Addr) (H' : Hp), Same H H' → H l = none → H' l = some (.lst ((us.map fun u => jB (useWs w n u)).map V.str)) → Q (.ref l) H'
def spStepRows (cC cR cW : Addr) : Sp := fun vs H Q _ => ∃ (x : Addr) (s : SV), vs = [.ref x] ∧ StO cC cR cW H x s ∧ SBd s ∧ ∀ (l : Addr) (H' : Hp), Same H H' → H l = none → H' l = some (.lst ((stepRows s).map V.str)) → Q (.ref l) H'
def spLinkRow (cC cR cW : Addr) : Sp := fun vs H Q _ => ∃ (t ls : Addr) (k : Lk4) (ss : List SV), vs = [.ref t, .ref ls] ∧ H t = some (.tup (lkV k)) ∧ LsS cC cR cW H ls ss ∧ (∀ s ∈ ss, Nm s.n) ∧ LOk ss.length k ∧ ∀ H', Same H H' → Q (.str (linkT ss k)) H'
def spRecText (cC cR cW cRec : Addr) : Sp := fun vs H Q _ => ∃ (r : Addr) (n : Str) (p : Nat) (M : Md), vs = [.ref r] ∧ RcA cC cR cW cRec H r n p M ∧ MBd M ∧ Nm n ∧ p ≤ 1000 ∧ ∀ H', Same H H' → Q (.str (recT n p M)) H'
def spRecI (K : PySem.W.Frag) : Sp := fun vs H Q _ => ∃ (a C dx lt ls lk : Addr) (nm p : V) (xt xs xk : List V), vs = [.ref a, nm, p, .ref lt, .ref ls, .ref lk] ∧ H a = some (.ins C dx []) ∧ RecC K C ∧ H lt = some (.lst xt) ∧ H ls = some (.lst xs) ∧ H lk = some (.lst xk) ∧
  ∀ (t s u : Addr) (H' : Hp), t ≠ a → s ≠ a → u ≠ a → H t = none → H s = none → H u = none → [t, s, u].Nodup → Kept H H' a → H' t = some (.lst xt) → H' s = some (.lst xs) → H' u = some (.lst xk) → H' a = some (.ins C dx (recF nm p (.ref t) (.ref s) (.ref u))) → Q .non H'
/-! the law's own defs -/
def spNamesZ : Sp := fun vs H Q _ => ∃ c : Int, vs = [.int c] ∧ ∀ (l : Addr) (zs : List Str) (H' : Hp), Same H H' → H' l = some (.lst (zs.map V.str)) → Zs zs → Q (.ref l) H'
def spLens : Sp := fun vs H Q _ => ∃ a b : Int, vs = [.int a, .int b] ∧ 0 ≤ a ∧ 0 ≤ b ∧ ∀ (lo hi : Nat) (l : Addr) (H' : Hp), Same H H' → H l = none → H' l = some (lenL lo hi) → LeOk lo hi → Q (.ref l) H'
def spAmnt : Sp := fun vs H Q _ => ∃ a b : Int, vs = [.int a, .int b] ∧ 0 ≤ a ∧ a < 2 ^ 31 ∧ 0 ≤ b ∧ ∀ (am : Am2) (t ta : Addr) (H' : Hp), Same H H' → H' t = some (.tup [.ref ta, .str (amT am)]) → H' ta = some (.tup (amV am)) → AmG am → Q (.ref t) H'
def Xs6 (H : Hp) (l : Addr) : Prop := ∃ xs : List Int, H l = some (.lst (xs.map V.int)) ∧ xs.length = 6 ∧ ∀ x ∈ xs, 0 ≤ x ∧ x < 2 ^ 31
theorem Xs6.same {H H' : Hp} {l : Addr} (h : Xs6 H l) (g : Same H H') : Xs6 H' l := by
  obtain ⟨xs, e, r⟩ := h
  exact ⟨xs, g _ _ e, r⟩
theorem Xs6.at_ {H : Hp} {l : Addr} (h : Xs6 H l) : ∃ xs : List V, H l = some (.lst xs) ∧ ∀ j : Nat, j < 6 → ∃ v : Int, atI xs (j : Int) = some (.int v) ∧ 0 ≤ v ∧ v < 2 ^ 31 := by
  obtain ⟨xs, e, h6, b⟩ := h
  refine ⟨_, e, fun j hj => ?_⟩
  have il : j < xs.length := by omega
  exact ⟨xs[j], atI_nat (by rw [List.getElem?_map, List.getElem?_eq_getElem il]; rfl), b _ (List.getElem_mem il)⟩
/-- what a row does to the model -/
def OutR (zs : List Str) (room : Nat) (G : Hp) (m lt ls lk : Addr) (M : Md) (Q : VK) : Prop := ∀ (z : Str) (ks' : List Sk) (M' : Md) (H' : Hp), ML G H' m lt ls lk ks' M' → MOk zs room M' → Took M z M' → Q (.str z) H'
def spTakeL : Sp := fun vs H Q _ => ∃ (G : Hp) (m lt ls lk ln lx : Addr) (ks : List Sk) (M : Md) (zs : List Str) (room : Nat), vs = [.ref m, .ref ln, .ref lx] ∧ ML G H m lt ls lk ks M ∧ MOk zs room M ∧ H ln = some (.lst (zs.map V.str)) ∧ Zs zs ∧ Xs6 H lx ∧ OutR zs room G m lt ls lk M Q
def spStepL : Sp := fun vs H Q _ => ∃ (G : Hp) (m lt ls lk ln lx : Addr) (ks : List Sk) (M : Md) (zs : List Str) (room : Nat), vs = [.ref m, .ref ln, .ref lx, vN room] ∧ room ≤ 12 ∧ ML G H m lt ls lk ks M ∧ MOk zs room M ∧ H ln = some (.lst (zs.map V.str)) ∧ Zs zs ∧ Xs6 H lx ∧ OutR zs room G m lt ls lk M Q
def spLinkL : Sp := fun vs H Q _ => ∃ (G : Hp) (m lt ls lk lx : Addr) (ks : List Sk) (M : Md) (zs : List Str) (room : Nat), vs = [.ref m, .ref lx] ∧ room ≤ 12 ∧ ML G H m lt ls lk ks M ∧ MOk zs room M ∧ Zs zs ∧ Xs6 H lx ∧ OutR zs room G m lt ls lk M Q
def spRowL : Sp := fun vs H Q _ => ∃ (G : Hp) (m lt ls lk ln : Addr) (c : Int) (ks : List Sk) (M : Md) (zs : List Str) (room : Nat), vs = [.ref m, .ref ln, .int c, vN room] ∧ room ≤ 12 ∧ ML G H m lt ls lk ks M ∧ MOk zs room M ∧ H ln = some (.lst (zs.map V.str)) ∧ Zs zs ∧ OutR zs room G m lt ls lk M Q
/-- what is done to one step -/
def OutS (H : Hp) (k : Sk) (s : SV) (Q : VK) (ok : SV → Str → Prop) : Prop := (∀ H', Same H H' → Q (.str "") H') ∧ ∀ (z : Str) (k' : Sk) (s' : SV) (H' : Hp), Kp k.own H H' → SL H' k' s' → k'.a = k.a → (∀ a ∈ k'.own, a ∈ k.own ∨ H a = none) → k'.own.Nodup → ok s' z → Q (.str z) H'
def spSecondL : Sp := fun vs H Q _ => ∃ (k : Sk) (s : SV) (lx : Addr), vs = [.ref k.a, .ref lx] ∧ SL H k s ∧ k.own.Nodup ∧ s.n.length ≤ 12 ∧ Xs6 H lx ∧ OutS H k s Q fun s' z => ∃ lo hi, s.sec = none ∧ LeOk lo hi ∧ s' = { s with sec := some (lo, hi, []) } ∧ z = jB (secWs s.n lo hi)
def spUseL : Sp := fun vs H Q _ => ∃ (k : Sk) (s : SV) (o : Bool) (ln lx : Addr) (zs : List Str), vs = [.ref k.a, .str (if o = true then "orwith" else "with"), .ref ln, .ref lx] ∧ SL H k s ∧ k.own.Nodup ∧ s.n.length ≤ 12 ∧ H ln = some (.lst (zs.map V.str)) ∧ Zs zs ∧ s.uses.length ≤ 12 ∧ (∀ x, s.sec = some x → x.2.2.length ≤ 12) ∧ Xs6 H lx ∧ OutS H k s Q fun s' z => ∃ u : Use3, z = jB (useWs (if o = true then "orwith" else "with") s.n u) ∧ 1 ≤ u.2.1 ∧ u.2.1 ≤ 8 ∧ u.2.2 ≤ 1000 ∧
  if o = true then ∃ lo hi us, s.sec = some (lo, hi, us) ∧ us.length ≠ 12 ∧ zs[(5 * us.length + 3) % 12]? = some u.1 ∧ s' = { s with sec := some (lo, hi, us ++ [u]) } else s.uses.length ≠ 12 ∧ zs[(5 * s.uses.length + 3) % 12]? = some u.1 ∧ s' = { s with uses := s.uses ++ [u] }
def spAmTL : Sp := fun vs H Q _ => ∃ (t : Addr) (a : Am2), vs = [.ref t] ∧ H t = some (.tup (amV a)) ∧ AmG a ∧ Q (.str (amT a)) H
def spStepRowsL : Sp := fun vs H Q _ => ∃ (k : Sk) (s : SV), vs = [.ref k.a] ∧ SL H k s ∧ SBd s ∧ ∀ (l : Addr) (H' : Hp), Same H H' → H l = none → H' l = some (.lst ((stepRows s).map V.str)) → Q (.ref l) H'
def spWritten : Sp := fun vs H Q _ => ∃ (G : Hp) (h : Str) (m lt ls lk : Addr) (ks : List Sk) (M : Md), vs = [.str h, .ref m] ∧ ML G H m lt ls lk ks M ∧ MBd M ∧ ∀ (l : Addr) (H' : Hp), Same H H' → H l = none → H' l = some (.lst ((h :: M.takes.map takeT ++ (M.steps.map stepRows).flatten ++ M.links.map (linkT M.steps)).map V.str)) → Q (.ref l) H'
def spBuiltR (cC cR cW : Addr) : Sp := fun vs H Q _ => ∃ (k : Sk) (s : SV), vs = [.ref k.a] ∧ SL H k s ∧ Wd3 s.w ∧ FlOk s.w s.fill ∧ ∀ (x : Addr) (H' : Hp), Same H H' → H x = none → (∀ H5 : Hp, (∀ b o, H' b = some o → (∀ ws, H b ≠ some (.lst ws)) → H5 b = some o) → StO cC cR cW H5 x s) → Q (.ref x) H'
def spValuesL (cRec : Addr) : Sp := fun vs H Q _ => ∃ (r lt ls lk : Addr) (n : Str) (p : Nat) (m st mt ms mk : Addr) (xt xs xk : List V), vs = [.ref r, .str n, vN p, .ref m, .ref st] ∧ RcF cRec H r n p lt ls lk ∧ H lt = some (.lst xt) ∧ H ls = some (.lst xs) ∧ H lk = some (.lst xk) ∧ H m = some (.lst [.ref mt, .ref ms, .ref mk]) ∧ H mt = some (.lst xt) ∧ H st = some (.lst xs) ∧ H mk = some (.lst xk) ∧ (∀ z ∈ xt ++ xs ++ xk, Sam z) ∧ ∀ H', Same H H' → Q (.bl true) H'
def spToldR (cC cR cW cRec : Addr) : Sp := fun vs H Q _ => ∃ (r : Addr) (n : Str) (p : Nat) (M : Md), vs = [.ref r, .str (recT n p M)] ∧ RcA cC cR cW cRec H r n p M ∧ MBd M ∧ Nm n ∧ p ≤ 1000 ∧ ∀ H', Same H H' → Q (.bl true) H'
end Sw
set_option Elab.async false
set_option linter.all false
set_option maxRecDepth 100000
namespace Sw
open PySem L2 XH Hm PySem.NumText
/-! ### lengths of rows, lists by pieces (own work) -/
theorem row_len {ws : List Str} (h : ∀ w ∈ ws, w.length ≤ 60) (k : ws.length ≤ 6) : (jB ws).length ≤ 400 := by
  have := jB_len ws h
  have : (60 + 1) * ws.length ≤ 61 * 6 := Nat.mul_le_mul_left 61 k
  omega
theorem useRow_len {w n : Str} {u : Use3} (hw : w.length ≤ 12) (hn : n.length ≤ 12) (hu : Nm u.1 ∧ 1 ≤ u.2.1 ∧ u.2.1 ≤ 8 ∧ u.2.2 ≤ 1000) : (jB (useWs w n u)).length ≤ 400 := by
  have h1 := hu.1.len
  have h2 := numT_len (n := u.2.1) (by omega)
  have h3 := numT_len (n := u.2.2) (by omega)
  refine row_len (fun z hz => ?_) (by simp [useWs])
  simp only [useWs, List.mem_cons, List.not_mem_nil, or_false] at hz
  rcases hz with rfl | rfl | rfl | rfl | rfl <;> omega
theorem secRow_len {n : Str} {lo hi : Nat} (hn : n.length ≤ 12) (h : LeOk lo hi) : (jB (secWs n lo hi)).length ≤ 400 := by
  obtain ⟨k1, k2, k3⟩ := h
  have h2 := numT_len (n := lo) (by omega)
  have h3 := numT_len (n := hi) (by omega)
  have h4 : (Str.ofString "or").length = 2 := by decide
  refine row_len (fun z hz => ?_) (by simp [secWs])
  simp only [secWs, List.mem_cons, List.not_mem_nil, or_false] at hz
  rcases hz with rfl | rfl | rfl | rfl <;> omega
theorem Wd3.len {w : Str} (h : Wd3 w) : w.length ≤ 12 := by rcases h with rfl | rfl | rfl <;> decide
theorem Ln3.len {w : Str} (h : Ln3 w) : w.length ≤ 12 := by rcases h with rfl | rfl | rfl <;> decide
theorem fillT_len {w : Str} {f : Option Am2} (h : FlOk w f) : (∀ z ∈ fillT f, z.length ≤ 60) ∧ (fillT f).length ≤ 1 := by
  cases f with
  | none => simp [fillT]
  | some a =>
    have := amT_len h.2
    refine ⟨fun z hz => ?_, by simp [fillT]⟩
    simp only [fillT, List.mem_singleton] at hz
    rw [hz]
    omega
theorem stepRow_len {s : SV} (h : SBd s) : (jB (stepWs s)).length ≤ 400 := by
  obtain ⟨k1, k2, k3⟩ := h.le
  have h0 := h.wd.len
  have h1 := h.nm.len
  have h2 := numT_len (n := s.lo) (by omega)
  have h3 := numT_len (n := s.hi) (by omega)
  have h4 := fillT_len h.fl
  refine row_len (fun z hz => ?_) (by simp [stepWs]; omega)
  rcases List.mem_append.mp hz with hz | hz
  · simp only [List.mem_cons, List.not_mem_nil, or_false] at hz
    rcases hz with rfl | rfl | rfl | rfl <;> omega
  · exact h4.1 z hz
theorem stepRows_len {s : SV} (h : SBd s) : (∀ z ∈ stepRows s, z.length ≤ 400) ∧ (stepRows s).length ≤ 26 := by
  have hn := h.nm.len
  have hu := h.us.1
  have hs : (∀ z ∈ secRows s.n s.sec, z.length ≤ 400) ∧ (secRows s.n s.sec).length ≤ 13 := by
    cases e : s.sec with
    | none => simp [secRows]
    | some x =>
      obtain ⟨lo, hi, us⟩ := x
      obtain ⟨h1, h2⟩ := h.sec _ e
      have := h2.1
      refine ⟨fun z hz => ?_, by simp [secRows]; omega⟩
      rcases List.mem_cons.mp hz with rfl | hz
      · exact secRow_len hn h1
      · obtain ⟨u, hu, rfl⟩ := List.mem_map.mp hz
        exact useRow_len (by decide) hn (h2.2 u hu)
  refine ⟨fun z hz => ?_, by simp [stepRows]; omega⟩
  rcases List.mem_append.mp hz with hz | hz
  · rcases List.mem_cons.mp hz with rfl | hz
    · exact stepRow_len h
    · obtain ⟨u, hu, rfl⟩ := List.mem_map.mp hz
      exact useRow_len (by decide) hn (h.us.2 u hu)
  · exact hs.1 z hz
theorem takeT_len {x : Str × Am2} (h : Nm x.1 ∧ AmG x.2) : (takeT x).length ≤ 400 := by
  have h1 := h.1.len
  have h2 := amT_len h.2
  have h4 : (Str.ofString "take").length = 4 := by decide
  refine row_len (fun z hz => ?_) (by show 3 ≤ 6; decide)
  simp only [List.mem_cons, List.not_mem_nil, or_false] at hz
  rcases hz with rfl | rfl | rfl <;> omega
theorem headT_len {n : Str} {p : Nat} (h : Nm n) (hp : p ≤ 1000) : (headT n p).length ≤ 400 := by
  have h1 := h.len
  have h2 := numT_len (n := p) (by omega)
  have h4 : (Str.ofString "dish").length = 4 := by decide
  refine row_len (fun z hz => ?_) (by show 3 ≤ 6; decide)
  simp only [List.mem_cons, List.not_mem_nil, or_false] at hz
  rcases hz with rfl | rfl | rfl <;> omega
theorem nmAt_some {ss : List SV} {i : Nat} {s : SV} (h : ss[i]? = some s) : nmAt ss i = s.n := by
  unfold nmAt
  rw [List.getD_eq_getElem?_getD, List.getElem?_map, h]
  rfl
theorem linkT_len {ss : List SV} {k : Lk4} (hs : ∀ s ∈ ss, Nm s.n) (h : LOk ss.length k) : (linkT ss k).length ≤ 400 := by
  have e1 := List.getElem?_eq_getElem h.a
  have e2 := List.getElem?_eq_getElem h.b
  have h1 := (hs _ (List.getElem_mem h.a)).len
  have h2 := (hs _ (List.getElem_mem h.b)).len
  have h3 := h.w.len
  have h4 := numT_len (n := k.2.2.2) (by have := h.t; omega)
  unfold linkT
  rw [nmAt_some e1, nmAt_some e2]
  refine row_len (fun z hz => ?_) (by unfold linkWs; split <;> simp)
  unfold linkWs at hz
  rcases List.mem_append.mp hz with hz | hz
  · simp only [List.mem_cons, List.not_mem_nil, or_false] at hz
    rcases hz with rfl | rfl | rfl <;> omega
  · split at hz
    · rw [List.mem_singleton.mp hz]; omega
    · simp at hz
theorem flatR_len {ss : List SV} (h : ∀ s ∈ ss, SBd s) : (∀ z ∈ (ss.map stepRows).flatten, z.length ≤ 400) ∧ ((ss.map stepRows).flatten).length ≤ 26 * ss.length := by
  induction ss with
  | nil => simp
  | cons s ss ih =>
    obtain ⟨i1, i2⟩ := ih fun s hs => h s (List.mem_cons_of_mem _ hs)
    obtain ⟨s1, s2⟩ := stepRows_len (h s List.mem_cons_self)
    refine ⟨fun z hz => ?_, ?_⟩
    · rw [List.map_cons, List.flatten_cons] at hz
      rcases List.mem_append.mp hz with hz | hz
      · exact s1 z hz
      · exact i1 z hz
    · rw [List.map_cons, List.flatten_cons, List.length_append, List.length_cons]
      omega
theorem recRows_len {h0 : Str} {M : Md} (b : MBd M) (hh : h0.length ≤ 400) : (∀ z ∈ h0 :: M.takes.map takeT ++ (M.steps.map stepRows).flatten ++ M.links.map (linkT M.steps), z.length ≤ 400) ∧ (h0 :: M.takes.map takeT ++ (M.steps.map stepRows).flatten ++ M.links.map (linkT M.steps)).length ≤ 400 := by
  have t12 := b.t12
  have s12 := b.s12
  have k24 := b.k24
  obtain ⟨f1, f2⟩ := flatR_len b.ss
  refine ⟨fun z hz => ?_, by rw [List.length_append, List.length_append, List.length_cons, List.length_map, List.length_map]; omega⟩
  rcases List.mem_append.mp hz with hz | hz
  · rcases List.mem_append.mp hz with hz | hz
    · rcases List.mem_cons.mp hz with rfl | hz
      · exact hh
      · obtain ⟨x, hx, rfl⟩ := List.mem_map.mp hz
        exact takeT_len (b.ts x hx)
    · exact f1 z hz
  · obtain ⟨k, hk, rfl⟩ := List.mem_map.mp hz
    exact linkT_len (fun s hs => (b.ss s hs).nm) (b.ks k hk)
theorem recT_sum {h0 : Str} {M : Md} (b : MBd M) (hh : h0.length ≤ 400) : ((h0 :: M.takes.map takeT ++ (M.steps.map stepRows).flatten ++ M.links.map (linkT M.steps)).map fun x => x.length).sum + (h0 :: M.takes.map takeT ++ (M.steps.map stepRows).flatten ++ M.links.map (linkT M.steps)).length ≤ 1048576 := by
  obtain ⟨h1, h2⟩ := recRows_len b hh
  have := sum_len h1
  have : 400 * (h0 :: M.takes.map takeT ++ (M.steps.map stepRows).flatten ++ M.links.map (linkT M.steps)).length ≤ 400 * 400 := Nat.mul_le_mul_left 400 h2
  omega
theorem tkR {α : Type} {xs : List α} {i : Nat} {x : α} (h : xs[i]? = some x) : xs.take (i + 1) = xs.take i ++ [x] := by rw [List.take_succ, h]; rfl
theorem mpR {α β : Type} {f : α → β} {xs : List α} {i : Nat} {x : α} (h : xs[i]? = some x) : (xs.take (i + 1)).map f = (xs.take i).map f ++ [f x] := by rw [tkR h, List.map_append]; rfl
theorem flR {xs : List SV} {i : Nat} {x : SV} (h : xs[i]? = some x) : ((xs.take (i + 1)).map stepRows).flatten = ((xs.take i).map stepRows).flatten ++ stepRows x := by rw [mpR h, List.flatten_append]; simp
theorem strs_cat (a b : List Str) : a.map V.str ++ b.map V.str = (a ++ b).map V.str := (List.map_append ..).symm
theorem strsR (a : List Str) (z : Str) : a.map V.str ++ [V.str z] = (a ++ [z]).map V.str := by rw [List.map_append]; rfl
theorem A2.ref {α : Type} {f : α → List V} {P : Addr → Prop} {H : Hp} {vs : List V} {xs : List α} (r : A2 (rTup f P H) vs xs) : ∃ as : List Addr, vs = as.map V.ref := by
  refine ⟨vs.map fun v => match v with | .ref a => a | _ => 0, ?_⟩
  apply List.ext_getElem (by simp)
  intro i h1 h2
  simp only [List.getElem_map]
  obtain ⟨x, _, t, e, _⟩ := r.at_ (List.getElem?_eq_getElem h1)
  rw [e]
end Sw
set_option Elab.async false
set_option linter.all false
set_option maxRecDepth 100000
namespace Sw
open PySem L2 XH Hm PySem.NumText
/-! ### names of the recipes' laws; amounts drawn (own work) -/
theorem cutS_two {x : Str} {i j : Int} (h : 0 ≤ i) (k : 0 ≤ j) : (cutS x (some i) (some j)).length = min j.toNat x.length - min i.toNat x.length := by
  have e1 : HT.sIx x.length 0 (some i) = min i.toNat x.length := by
    unfold HT.sIx
    simp
    omega
  have e2 : HT.sIx x.length x.length (some j) = min j.toNat x.length := by
    unfold HT.sIx
    simp
    omega
  show ((x.cps.toList.drop _).take _).toArray.size = _
  rw [e1, e2, List.size_toArray, List.length_take, List.length_drop]
  have : x.cps.toList.length = x.length := by simp [Str.length]
  omega
theorem strs_oneL : ∀ {ys : List V}, (∀ y ∈ ys, ∃ z : Str, y = .str z ∧ z.length = 1 ∧ Lt z) → ∃ ws : List Str, ys = ws.map V.str ∧ (ws.map (fun x => x.length)).sum = ws.length ∧ ∀ w ∈ ws, Lt w
  | [], _ => ⟨[], rfl, rfl, fun w hw => nomatch hw⟩
  | y :: ys, h => by
    obtain ⟨z, rfl, hz, lz⟩ := h y (by simp)
    obtain ⟨ws, rfl, hw, lw⟩ := strs_oneL (ys := ys) fun y hy => h y (List.mem_cons_of_mem _ hy)
    refine ⟨z :: ws, rfl, ?_, fun w hw' => ?_⟩
    · simp only [List.map_cons, List.sum_cons, List.length_cons]
      omega
    · rcases List.mem_cons.mp hw' with rfl | hw'
      · exact lz
      · exact lw w hw'
def wordsW : List Str := ["dish", "take", "cut", "rest", "warm", "or", "with", "orwith", "after", "within", "apart", "dishes"]
theorem wordsW_zs : Zs wordsW := ⟨by decide, by decide +kernel, fun z hz => (nmB_iff z).mp ((show ∀ z ∈ wordsW, nmB z = true by decide +kernel) z hz)⟩
theorem Zs.turn {zs : List Str} (h : Zs zs) (i : Nat) : Zs (zs.drop i ++ zs.take i) := by
  have p : (zs.drop i ++ zs.take i).Perm zs := List.perm_append_comm.trans (by rw [List.take_append_drop])
  exact ⟨p.length_eq.trans h.len, p.nodup_iff.mpr h.nd, fun z hz => h.nm z (p.mem_iff.mp hz)⟩
theorem fmN {a n : Int} (k : 0 < n) : ∃ j : Nat, a.fmod n = (j : Int) ∧ (j : Int) < n := by
  have h1 := Int.fmod_nonneg_of_pos a k
  have h2 := Int.fmod_lt_of_pos a k
  exact ⟨(a.fmod n).toNat, by omega, by omega⟩
theorem num_T (n : Nat) : Str.ofString (toString ((n : Nat) : Int)) = numT n := str_num n
/-- amounts by their three kinds -/
theorem amG_W {w : Nat} (h : 0 < w) (l : w < 10 ^ 30) : AmG (w, 1) ∧ amT (w, 1) = numT w := by
  have dl := dg_len (n := w) (k := 29) l
  refine ⟨⟨h, (am_W (Nat.lt_trans l (by decide +kernel))).ok fun n hn => ?_, Nat.lt_trans l (by decide +kernel), (by show 1 < 1000; decide), ?_⟩, ?_⟩
  · rw [List.mem_singleton.mp hn]; exact dl
  · show (amtL w 1).length ≤ 40
    rw [amt_W]; omega
  · show mkS (amtL w 1) = _
    rw [amt_W]; rfl
theorem amG_TB {t b : Nat} (t0 : t ≠ 0) (lt : t < b) (g : Nat.gcd b t = 1) (hb : b < 1000) : AmG (t, b) ∧ amT (t, b) = numT t ++ "/" ++ numT b := by
  have d1 := dg_len (n := t) (k := 2) (by omega)
  have d2 := dg_len (n := b) (k := 2) (by omega)
  refine ⟨⟨by show 0 < t; omega, (am_TB t0 lt g (Nat.lt_trans hb (by decide +kernel))).ok fun n hn => ?_, Nat.lt_trans (Nat.lt_trans lt hb) (by decide +kernel), hb, ?_⟩, ?_⟩
  · simp only [List.mem_cons, List.not_mem_nil, or_false] at hn
    rcases hn with rfl | rfl <;> omega
  · show (amtL t b).length ≤ 40
    rw [amt_TB t0 lt, List.length_append, List.length_cons]; omega
  · show mkS (amtL t b) = _
    rw [amt_TB t0 lt]
    show _ = mkS (dg t) ++ Str.ofString "/" ++ mkS (dg b)
    rw [slash_mk, mk_app, mk_app, List.append_assoc]
    rfl
theorem amG_WTB {w t b : Nat} (w0 : w ≠ 0) (lw : w < 10 ^ 30) (t0 : t ≠ 0) (lt : t < b) (g : Nat.gcd b t = 1) (hb : b < 1000) : AmG (w * b + t, b) ∧ amT (w * b + t, b) = numT w ++ "+" ++ numT t ++ "/" ++ numT b := by
  have dw := dg_len (n := w) (k := 29) lw
  have d1 := dg_len (n := t) (k := 2) (by omega)
  have d2 := dg_len (n := b) (k := 2) (by omega)
  have hp : w * b + t < 10 ^ 40 := by
    have : w * b ≤ 10 ^ 30 * 1000 := Nat.mul_le_mul (Nat.le_of_lt lw) (Nat.le_of_lt hb)
    have e : 10 ^ 30 * 1000 + 1000 < 10 ^ 40 := by decide +kernel
    omega
  refine ⟨⟨by show 0 < w * b + t; omega, (am_WTB w0 t0 lt g (Nat.lt_trans hb (by decide +kernel)) (Nat.lt_trans hp (by decide +kernel))).ok fun n hn => ?_, hp, hb, ?_⟩, ?_⟩
  · simp only [List.mem_cons, List.not_mem_nil, or_false] at hn
    rcases hn with rfl | rfl | rfl <;> omega
  · show (amtL (w * b + t) b).length ≤ 40
    rw [amt_WTB w0 t0 lt, List.length_append, List.length_cons, List.length_append, List.length_cons]; omega
  · show mkS (amtL (w * b + t) b) = _
    rw [amt_WTB w0 t0 lt]
    show _ = mkS (dg w) ++ Str.ofString "+" ++ mkS (dg t) ++ Str.ofString "/" ++ mkS (dg b)
    rw [slash_mk, plus_mk, mk_app, mk_app, mk_app, mk_app]
    congr 1
    simp
/-- a top and a bottom without a common divisor -/
theorem low_cut {x y : Nat} (h : 0 < x) (h2 : x < y) (h3 : y < 1000) : ∃ t b c : Nat, gcdI (y : Int) x = (c : Int) ∧ 0 < c ∧ (x : Int).fdiv c = (t : Int) ∧ (y : Int).fdiv c = (b : Int) ∧ t ≠ 0 ∧ t < b ∧ Nat.gcd b t = 1 ∧ b < 1000 ∧ c < 1000 := by
  have big : (1000 : Int) < 10 ^ 120 := by decide +kernel
  obtain ⟨g0, _, t, b, e1, e2, t0, lt, g, _⟩ := nums_cut (x := (x : Int)) (y := (y : Int)) (by omega) (by omega) (by omega)
  have hc : gcdI (y : Int) x = ((Nat.gcd y x : Nat) : Int) := by
    unfold gcdI
    simp
  have cl : Nat.gcd y x ≤ x := Nat.gcd_le_right _ h
  have bl : b ≤ y := by
    rw [fdiv_nat' hc] at e2
    have : ((y / Nat.gcd y x : Nat) : Int) = b := e2
    have := Nat.div_le_self y (Nat.gcd y x)
    omega
  refine ⟨t, b, Nat.gcd y x, hc, by omega, by rw [← hc]; exact e1, by rw [← hc]; exact e2, t0, lt, g, by omega, by omega⟩
where fdiv_nat' {y : Nat} {g : Int} {c : Nat} (hc : g = (c : Int)) : (y : Int).fdiv g = ((y / c : Nat) : Int) := by rw [hc]; exact fdiv_nat y c
end Sw
set_option Elab.async false
set_option linter.all false
set_option maxRecDepth 100000
namespace L2
open PySem PySem.Spec PyProof.Rows XH
/-- (a, b, ..) = a list of that length -/
def gLst (K : PySem.W.Frag) (n : Nat) (t : TGs) : TG := fun v σ H Q => ∃ a xs, v = .ref a ∧ SqL K H a xs ∧ xs.length = n ∧ t xs σ H Q
theorem pg_lst {X : Cx} {pos : Pos} {es : List Expr} {k : Nat} {t : TGs} {n : Nat} (hc : X.calm = true) (h : PGs X es t)
    (hn : (assignEach es X.env).length = n := by rfl) (hst : (assignEach es X.env).findIdx? (·.1) = none := by rfl) : PG X (.Tuple es k pos) (gLst X.K n t) := by
  intro pins s σ H v u Q I r hw
  obtain ⟨a, xs, e1, hq, hl, hw⟩ := hw
  subst e1
  cases r
  obtain ⟨its, rv, ht, hz⟩ := I.list hq
  rw [assign_Tuple]
  refine wpAny_bind (wpAny_standAt ?_)
  unfold unpack
  rw [show (assignEach es X.env).length = its.toArray.size by simp [hn, ← hl, rv.length], hst]
  refine wpAny_bind (wpAny_holding (PySem.W.kun_itemsOf (I.ok.hd hc) ht.isList fun h' hx => ?_))
  have I1 : Inv X pins σ H { s with heap := h' } := I.kept (t' := s.toks) fun b o e => hx b o (Nat.ne_of_lt (Heap.lt_size e)) e
  exact h pins _ σ H xs _ Q I1 (by simpa using rv) hw
/-- a comprehension over a list, whose elements may lay objects: R of each holds whatever becomes of the list that is made -/
theorem comp_Ro {K : PySem.W.Frag} {a : Addr} {xs : List V} {js : List Nat} {te : TE} {σ : L2.St} {H1 : Hp} {Q : VK} (R : Nat → Hp → V → Prop) (hS : SqL K H1 a xs) (hz : xs.length ≤ sizeLine)
    (step : ∀ i x, xs[i]? = some x → ∀ H3, Same H1 H3 → ∀ (p : Addr) (ws : List V), H3 p = some (.lst ws) → ∀ Q' : VK, (∀ y H4, Same H3 H4 → (∀ H5 : Hp, (∀ b o, b ≠ p → H4 b = some o → H5 b = some o) → R i H5 y) → Q' y H4) → te (some x :: freesOf js σ) H3 Q')
    (fin : ∀ (p : Addr) (ys : List V) (H' : Hp), H1 p = none → ys.length = xs.length → (∀ (i : Nat) (y : V), ys[i]? = some y → R i H' y) → Same H1 H' → H' p = some (.lst ys) → Q (.ref p) H') : compR js te σ Q (Itl K a) H1 := by
  intro p hp
  refine ⟨fun i m ys H2 => i ≤ xs.length ∧ m = xs.length - i ∧ ys.length = i ∧ (∀ (i : Nat) (y : V), ys[i]? = some y → ∀ H5 : Hp, (∀ b o, b ≠ p → H2 b = some o → H5 b = some o) → R i H5 y) ∧ Same H1 H2 ∧ H2 p = some (.lst ys), ⟨xs.length, Nat.zero_le _, rfl, rfl, fun i y e => by simp at e, Sw.same_new hp _, upd_same⟩, ?_⟩
  rintro i m ys H2 ⟨hi, rfl, hl, hP, g, e⟩
  refine ⟨e, ?_⟩
  have S2 := g.seq hS
  by_cases hin : i < xs.length
  · refine .inr ⟨⟨xs, xs[i], S2, List.getElem?_eq_getElem hin⟩, by omega, fun x H3 hy => ?_⟩
    obtain ⟨rfl, hx⟩ := hy
    have ex := hx xs S2
    refine step i x ex _ g p ys e _ fun y H4 g4 r => ⟨g4 _ _ e, xs.length - (i + 1), by omega, hin, rfl, by simp [hl], fun j z hz' H5 kp => ?_, Sw.sUpd (g.trans g4) hp _, upd_same⟩
    have kp4 : ∀ b o, b ≠ p → H4 b = some o → H5 b = some o := fun b o n h => kp b o n (by rw [upd_ne n]; exact h)
    rcases Sw.at_snoc hz' with h | ⟨h, rfl⟩
    · exact hP j z h H5 fun b o n h => kp4 b o n (g4 _ _ h)
    · rw [h, hl]
      exact r H5 kp4
  · have e2 : i = xs.length := by omega
    subst e2
    exact .inl ⟨⟨xs, S2, Nat.le_refl _⟩, fin p ys H2 hp hl (fun i y h => hP i y h H2 fun _ _ _ h => h) g e⟩
end L2
namespace Sw
open PySem L2 XH Hm PySem.NumText
/-! ### rows as the law writes them (own work) -/
theorem bl_s : Str.ofString " " = blk := by decide
theorem cat_take (g x : Str) : Str.ofString "take " ++ g ++ Str.ofString " " ++ x = jB ["take", g, x] := by
  rw [bl_s, show Str.ofString "take " = Str.ofString "take" ++ blk from by decide, jB_cons, jB_cons, jB1]
  simp only [str_assoc]
theorem cat4 (w n x y : Str) : w ++ Str.ofString " " ++ n ++ Str.ofString " " ++ x ++ Str.ofString " " ++ y = jB [w, n, x, y] := by
  rw [bl_s, jB_cons, jB_cons, jB_cons, jB1]
  simp only [str_assoc]
theorem cat_or (n x y : Str) : Str.ofString "or " ++ n ++ Str.ofString " " ++ x ++ Str.ofString " " ++ y = jB ["or", n, x, y] := by
  rw [bl_s, show Str.ofString "or " = Str.ofString "or" ++ blk from by decide, jB_cons, jB_cons, jB_cons, jB1]
  simp only [str_assoc]
theorem cat_dish (n x : Str) : Str.ofString "dish " ++ n ++ Str.ofString " " ++ x = jB ["dish", n, x] := by
  rw [bl_s, show Str.ofString "dish " = Str.ofString "dish" ++ blk from by decide, jB_cons, jB_cons, jB1]
  simp only [str_assoc]
theorem cat_use (w n t x y : Str) : w ++ Str.ofString " " ++ n ++ Str.ofString " " ++ t ++ (Str.ofString " " ++ x ++ Str.ofString " " ++ y) = jB [w, n, t, x, y] := by
  rw [bl_s, jB_cons, jB_cons, jB_cons, jB_cons, jB1]
  simp only [str_assoc]
theorem cat5 (w n t x y : Str) : w ++ Str.ofString " " ++ n ++ Str.ofString " " ++ t ++ Str.ofString " " ++ x ++ Str.ofString " " ++ y = jB [w, n, t, x, y] := by
  rw [bl_s, jB_cons, jB_cons, jB_cons, jB_cons, jB1]
  simp only [str_assoc]
theorem cat3 (w n x : Str) : w ++ Str.ofString " " ++ n ++ Str.ofString " " ++ x = jB [w, n, x] := by
  rw [bl_s, jB_cons, jB_cons, jB1]
  simp only [str_assoc]
theorem cat_more {ws : List Str} (ne : ws ≠ []) (x : Str) : jB ws ++ Str.ofString " " ++ x = jB (ws ++ [x]) := by rw [jB_app ws ne, bl_s]
/-- a second way as addresses, and as values -/
def SecR (H : Hp) : Sec → Option (Nat × Nat × List Use3) → Prop
  | none, none => True
  | some (x, y, bs), some (lo, hi, us) => x = (lo : Int) ∧ y = (hi : Int) ∧ A2 (rTup uzV An H) (bs.map V.ref) us
  | _, _ => False
theorem kp_nilF {F : List Addr} {H H' : Hp} (g : Same H H') : Kp F H H' := fun b o e _ => g _ _ e
theorem fmod_n (a n : Nat) : ((a : Nat) : Int).fmod (n : Int) = ((a % n : Nat) : Int) := (Int.ofNat_fmod a n).symm
theorem fm12 (a : Int) (b : Nat) (h : a = (b : Int)) : a.fmod 12 = ((b % 12 : Nat) : Int) := by rw [h]; exact fmod_n b 12
theorem zs_at {zs : List Str} {i : Nat} {z : Str} (h : zs[i]? = some z) : atI (zs.map V.str) (i : Int) = some (.str z) := atI_nat (by rw [List.getElem?_map, h]; rfl)
theorem ml_new {H2 : Hp} {m lt ls lk : Addr} (nlt : H2 lt = none) (nls : upd H2 lt (.lst []) ls = none) (nlk : upd (upd H2 lt (.lst [])) ls (.lst []) lk = none) (nm : upd (upd (upd H2 lt (.lst [])) ls (.lst [])) lk (.lst []) m = none) :
    ML H2 (upd (upd (upd (upd H2 lt (.lst [])) ls (.lst [])) lk (.lst [])) m (.lst [.ref lt, .ref ls, .ref lk])) m lt ls lk [] ⟨[], [], []⟩ := by
  have k1 := same_new nlt (.lst [])
  have k2 := same_new nls (.lst [])
  have k3 := same_new nlk (.lst [])
  have k4 := same_new nm (.lst [.ref lt, .ref ls, .ref lk])
  have k34 := k3.trans k4
  have k24 := k2.trans k34
  have k12 := k1.trans k2
  have k13 := k12.trans k3
  have f1 : upd H2 lt (.lst []) lt = some (.lst []) := upd_same
  have f2 : upd (upd H2 lt (.lst [])) ls (.lst []) ls = some (.lst []) := upd_same
  have f3 : upd (upd (upd H2 lt (.lst [])) ls (.lst [])) lk (.lst []) lk = some (.lst []) := upd_same
  have d1 : lt ≠ ls := ne_of_none f1 nls
  have d2 : lt ≠ lk := ne_of_none (k2 _ _ f1) nlk
  have d3 : ls ≠ lk := ne_of_none f2 nlk
  have d4 : lt ≠ m := ne_of_none ((k2.trans k3) _ _ f1) nm
  have d5 : ls ≠ m := ne_of_none (k3 _ _ f2) nm
  have d6 : lk ≠ m := ne_of_none f3 nm
  constructor
  case fr => exact k1.trans k24
  case nw =>
    intro x hx
    simp only [owns, List.map_nil, List.flatten_nil, List.mem_cons, List.not_mem_nil, or_false] at hx
    rcases hx with rfl | rfl | rfl | rfl
    · exact k13.free nm
    · exact nlt
    · exact k1.free nls
    · exact k12.free nlk
  case nd => simp [owns, d1, d2, d3, d4.symm, d5.symm, d6.symm]
  case em => exact upd_same
  case et => exact ⟨[], k24 _ _ f1, A2.nil⟩
  case es => exact k34 _ _ f2
  case len => rfl
  case ss => intro i k s h; simp at h
  case ek => exact ⟨[], k4 _ _ f3, A2.nil⟩
end Sw
set_option Elab.async false
set_option linter.all false
set_option maxRecDepth 100000
namespace Sw
open PySem L2 XH Hm PySem.NumText
/-! ### k34: what was handed in, changed behind (own work) -/
structure Hd (H5 H : Hp) (cRec r : Addr) (n : Str) (p : Nat) (t s u hl h0 h1 h2 : Addr) (vt vs vk w0 w1 w2 : List V) : Prop where
  fr : Same H5 H
  rc : RcF cRec H r n p t s u
  et : H t = some (.lst vt)
  es : H s = some (.lst vs)
  eu : H u = some (.lst vk)
  el : H hl = some (.lst [.ref h0, .ref h1, .ref h2])
  e0 : H h0 = some (.lst w0)
  e1 : H h1 = some (.lst w1)
  e2 : H h2 = some (.lst w2)
  n0 : H5 h0 = none
  n1 : H5 h1 = none
  n2 : H5 h2 = none
  d : ∀ x ∈ [t, s, u, hl], x ≠ h0 ∧ x ≠ h1 ∧ x ≠ h2
  d01 : h0 ≠ h1
  d02 : h0 ≠ h2
  d12 : h1 ≠ h2
section
variable {H5 H H' : Hp} {cRec r : Addr} {n : Str} {p : Nat} {t s u hl h0 h1 h2 : Addr} {vt vs vk w0 w1 w2 w : List V}
theorem Hd.same (h : Hd H5 H cRec r n p t s u hl h0 h1 h2 vt vs vk w0 w1 w2) (g : Same H H') : Hd H5 H' cRec r n p t s u hl h0 h1 h2 vt vs vk w0 w1 w2 :=
  { h with fr := h.fr.trans g, rc := h.rc.same g, et := g _ _ h.et, es := g _ _ h.es, eu := g _ _ h.eu, el := g _ _ h.el, e0 := g _ _ h.e0, e1 := g _ _ h.e1, e2 := g _ _ h.e2 }
theorem RcF.put {x : Addr} {zs ws : List V} (h : RcF cRec H r n p t s u) (e : H x = some (.lst zs)) : RcF cRec (upd H x (.lst ws)) r n p t s u := by
  obtain ⟨dx, er⟩ := h.ex
  exact ⟨dx, by rw [upd_ne (fun z => by rw [z, e] at er; cases er)]; exact er⟩
theorem Hd.put0 (h : Hd H5 H cRec r n p t s u hl h0 h1 h2 vt vs vk w0 w1 w2) : Hd H5 (upd H h0 (.lst w)) cRec r n p t s u hl h0 h1 h2 vt vs vk w w1 w2 :=
  { h with
    fr := same_put h.fr h.n0 _
    rc := h.rc.put h.e0
    et := by rw [upd_ne (h.d t (by simp)).1]; exact h.et
    es := by rw [upd_ne (h.d s (by simp)).1]; exact h.es
    eu := by rw [upd_ne (h.d u (by simp)).1]; exact h.eu
    el := by rw [upd_ne (h.d hl (by simp)).1]; exact h.el
    e0 := upd_same
    e1 := by rw [upd_ne h.d01.symm]; exact h.e1
    e2 := by rw [upd_ne h.d02.symm]; exact h.e2 }
theorem Hd.put1 (h : Hd H5 H cRec r n p t s u hl h0 h1 h2 vt vs vk w0 w1 w2) : Hd H5 (upd H h1 (.lst w)) cRec r n p t s u hl h0 h1 h2 vt vs vk w0 w w2 :=
  { h with
    fr := same_put h.fr h.n1 _
    rc := h.rc.put h.e1
    et := by rw [upd_ne (h.d t (by simp)).2.1]; exact h.et
    es := by rw [upd_ne (h.d s (by simp)).2.1]; exact h.es
    eu := by rw [upd_ne (h.d u (by simp)).2.1]; exact h.eu
    el := by rw [upd_ne (h.d hl (by simp)).2.1]; exact h.el
    e1 := upd_same
    e0 := by rw [upd_ne h.d01]; exact h.e0
    e2 := by rw [upd_ne h.d12.symm]; exact h.e2 }
theorem Hd.put2 (h : Hd H5 H cRec r n p t s u hl h0 h1 h2 vt vs vk w0 w1 w2) : Hd H5 (upd H h2 (.lst w)) cRec r n p t s u hl h0 h1 h2 vt vs vk w0 w1 w :=
  { h with
    fr := same_put h.fr h.n2 _
    rc := h.rc.put h.e2
    et := by rw [upd_ne (h.d t (by simp)).2.2]; exact h.et
    es := by rw [upd_ne (h.d s (by simp)).2.2]; exact h.es
    eu := by rw [upd_ne (h.d u (by simp)).2.2]; exact h.eu
    el := by rw [upd_ne (h.d hl (by simp)).2.2]; exact h.el
    e2 := upd_same
    e0 := by rw [upd_ne h.d02]; exact h.e0
    e1 := by rw [upd_ne h.d12]; exact h.e1 }
end
theorem take_sam {P : Addr → Prop} {H : Hp} {vs : List V} {xs : List (Str × Am2)} (r : A2 (rTake P H) vs xs) : ∀ z ∈ vs, Sam z := fun z hz => by
  obtain ⟨i, hi⟩ := List.mem_iff_getElem?.mp hz
  obtain ⟨x, _, t, _, e, _⟩ := r.at_ hi
  exact .inr ⟨t, e⟩
theorem tup_sam {α : Type} {f : α → List V} {P : Addr → Prop} {H : Hp} {vs : List V} {xs : List α} (r : A2 (rTup f P H) vs xs) : ∀ z ∈ vs, Sam z := fun z hz => by
  obtain ⟨i, hi⟩ := List.mem_iff_getElem?.mp hz
  obtain ⟨x, _, t, e, _⟩ := r.at_ hi
  exact .inr ⟨t, e⟩
theorem step_sam {cC cR cW : Addr} {H : Hp} {vs : List V} {xs : List SV} (r : A2 (StV cC cR cW H) vs xs) : ∀ z ∈ vs, Sam z := fun z hz => by
  obtain ⟨i, hi⟩ := List.mem_iff_getElem?.mp hz
  obtain ⟨x, _, t, e, _⟩ := r.at_ hi
  exact .inr ⟨t, e⟩
theorem MBd.nil : MBd ⟨[], [], []⟩ := ⟨by simp, fun x h => by simp at h, by simp, fun x h => by simp at h, by simp, fun x h => by simp at h⟩
theorem cut_cells {ns : List Int} : ∃ cs : List Int, cutV (ns.map V.int) (some 3) (some 33) = cs.map V.int ∧ cs.length ≤ 30 := by
  refine ⟨(ns.drop (HT.sIx ns.length 0 (some 3))).take (HT.sIx ns.length ns.length (some 33) - HT.sIx ns.length 0 (some 3)), ?_, ?_⟩
  · unfold cutV
    rw [List.length_map, ← List.map_drop, ← List.map_take]
  · rw [List.length_take]
    have h1 : HT.sIx ns.length 0 (some 3) = min 3 ns.length := by unfold HT.sIx; simp
    have h2 : HT.sIx ns.length ns.length (some 33) = min 33 ns.length := by unfold HT.sIx; simp
    rw [h1, h2, List.length_drop]
    omega
end Sw
set_option Elab.async false
set_option linter.all false
set_option maxRecDepth 100000
namespace Lk34
open PySem L2 Sw XH PyProof.Rows Hm
def top (i : Nat) : Stmt := PySem.Challenge.pw_stovework_k34_recipe_written.main.body.getD i (.Pass ⟨0, 0, 0, 0⟩)
def clsAt (s : Stmt) (i : Nat) : Stmt := match s with | .ClassDef _ _ _ body _ _ _ _ _ _ _ => body.getD i (.Pass ⟨0, 0, 0, 0⟩) | _ => s
abbrev sround_down : Stmt := top 2
abbrev samount_text : Stmt := top 4
abbrev sStep_init : Stmt := clsAt (top 6) 0
abbrev sCut_word : Stmt := clsAt (top 7) 0
abbrev sWarm_init : Stmt := clsAt (top 8) 0
abbrev sWarm_word : Stmt := clsAt (top 8) 1
abbrev sRest_word : Stmt := clsAt (top 9) 0
abbrev sRecipe_init : Stmt := clsAt (top 11) 0
abbrev srow_of : Stmt := top 13
abbrev srows_of_uses : Stmt := top 15
abbrev srows_of_step : Stmt := top 14
abbrev srow_of_link : Stmt := top 16
abbrev srecipe_text : Stmt := top 12
abbrev s_law_cell_at : Stmt := top 18
abbrev s_law_whole : Stmt := top 19
abbrev s_law_common : Stmt := top 20
abbrev s_law_stream : Stmt := top 21
abbrev s_law_names : Stmt := top 22
abbrev s_law_amount : Stmt := top 23
abbrev s_law_lengths : Stmt := top 24
abbrev s_law_take : Stmt := top 25
abbrev s_law_step : Stmt := top 26
abbrev s_law_second : Stmt := top 27
abbrev s_law_use : Stmt := top 28
abbrev s_law_link : Stmt := top 29
abbrev s_law_row : Stmt := top 30
abbrev s_law_amount_text : Stmt := top 31
abbrev s_law_use_rows : Stmt := top 32
abbrev s_law_step_rows : Stmt := top 33
abbrev s_law_written : Stmt := top 34
abbrev s_law_built : Stmt := top 35
abbrev s_law_values : Stmt := top 36
abbrev s_law_told : Stmt := top 37
abbrev slaw : Stmt := top 38
structure Bn (K : PySem.W.Frag) (mg : Str → Option Value) (c_Cut c_Recipe c_Rest c_Step c_Warm f_Step_init f_Cut_word f_Warm_init f_Warm_word f_Rest_word f_Recipe_init : Addr) : Prop where
  b_bool : mg "bool" = none
  b_int : mg "int" = none
  b_isinstance : mg "isinstance" = none
  b_len : mg "len" = none
  b_list : mg "list" = none
  b_range : mg "range" = none
  b_str : mg "str" = none
  m_Cut : mg "Cut" = some (.ref c_Cut)
  m_Recipe : mg "Recipe" = some (.ref c_Recipe)
  m_Rest : mg "Rest" = some (.ref c_Rest)
  m_Step : mg "Step" = some (.ref c_Step)
  m_Warm : mg "Warm" = some (.ref c_Warm)
  cl_Step : Cls K c_Step
  mk_Step : Mk K c_Step f_Step_init
  cl_Cut : Cls K c_Cut
  mk_Cut : Mk K c_Cut f_Step_init
  me_Cut_word : Meth K c_Cut "word" f_Cut_word
  cl_Rest : Cls K c_Rest
  mk_Rest : Mk K c_Rest f_Step_init
  me_Rest_word : Meth K c_Rest "word" f_Rest_word
  cl_Warm : Cls K c_Warm
  mk_Warm : Mk K c_Warm f_Warm_init
  me_Warm_word : Meth K c_Warm "word" f_Warm_word
  cl_Recipe : Cls K c_Recipe
  mk_Recipe : Mk K c_Recipe f_Recipe_init
  na_Cut_name : NoAttr K c_Cut "name"
  na_Cut_least : NoAttr K c_Cut "least"
  na_Cut_most : NoAttr K c_Cut "most"
  na_Cut_uses : NoAttr K c_Cut "uses"
  na_Cut_second : NoAttr K c_Cut "second"
  na_Rest_name : NoAttr K c_Rest "name"
  na_Rest_least : NoAttr K c_Rest "least"
  na_Rest_most : NoAttr K c_Rest "most"
  na_Rest_uses : NoAttr K c_Rest "uses"
  na_Rest_second : NoAttr K c_Rest "second"
  na_Warm_name : NoAttr K c_Warm "name"
  na_Warm_least : NoAttr K c_Warm "least"
  na_Warm_most : NoAttr K c_Warm "most"
  na_Warm_uses : NoAttr K c_Warm "uses"
  na_Warm_second : NoAttr K c_Warm "second"
  na_Warm_fill : NoAttr K c_Warm "fill"
  na_Recipe_name : NoAttr K c_Recipe "name"
  na_Recipe_plates : NoAttr K c_Recipe "plates"
  na_Recipe_takes : NoAttr K c_Recipe "takes"
  na_Recipe_steps : NoAttr K c_Recipe "steps"
  na_Recipe_links : NoAttr K c_Recipe "links"
  cm_Step___init__ : ClsM K c_Step "__init__" f_Step_init
  tc_Cut : TyC K c_Cut
  tc_Rest : TyC K c_Rest
  tc_Warm : TyC K c_Warm
  kit_Cut_Warm : PySem.W.kitOne K (.ref c_Cut) (.ref c_Warm) = some false
  kit_Rest_Warm : PySem.W.kitOne K (.ref c_Rest) (.ref c_Warm) = some false
  kit_Warm_Warm : PySem.W.kitOne K (.ref c_Warm) (.ref c_Warm) = some true
section
variable {P : Program} {w : World} {K : PySem.W.Frag} {mg : Str → Option Value} {base : Heap} {f : Addr} {fd : FuncData} {c_Cut c_Recipe c_Rest c_Step c_Warm f_Step_init f_Cut_word f_Warm_init f_Warm_word f_Rest_word f_Recipe_init : Addr}
variable (B : Bn K mg c_Cut c_Recipe c_Rest c_Step c_Warm f_Step_init f_Cut_word f_Warm_init f_Warm_word f_Rest_word f_Recipe_init)
include B
set_option maxHeartbeats 4000000 in
theorem okround_down {dV : Value} (F : FunD K "round_down" "round_down" sround_down dV f fd)  : FnOk P w K mg base CX0 1 f fd ["one"] (spDown K) := by
  have sc : FnScope ["one"] ["one"] (defScope sround_down) := scK (by decide +kernel)
  refine F.ok sc (fun vs H Q E h => ?_) (fun cdv A outer s H vs Q E hr h => ?_)
  · obtain ⟨_, _, _, rfl, _⟩ := h
    rfl
  obtain ⟨t, p, q, rfl, h1, qq⟩ := h
  refine ⟨_, (pss_one (ps_ret (pe_op op_fdivB (pe_ix ix_tup (pv 0) pe_int (fun _ _ => rfl)) (pe_ix ix_tup (pv 0) pe_int (fun _ _ => rfl))))), ?_⟩
  try dsimp only [cxK]
  have q0 : q ≠ 0 := by have := h1.pos; omega
  exact ⟨_, rfl, _, _, _, _, rfl, rfl, h1.at_, rfl, _, rfl, _, _, _, _, rfl, rfl, h1.at_, rfl, _, _, rfl, rfl, ⟨q0, h1.bq.div q0⟩, qq⟩

set_option maxHeartbeats 4000000 in
theorem okamount_text {dV : Value} (F : FunD K "amount_text" "amount_text" samount_text dV f fd) (Dround_down : Dx P w K mg base CX0 1 "round_down" ["one"] [] (spDown K)) : FnOk P w K mg base CX0 2 f fd ["amount"] (spAmt K) := by
  have sc : FnScope ["amount", "whole", "bottom", "top"] ["amount"] (defScope samount_text) := scK (by decide +kernel)
  refine F.ok sc (fun vs H Q E h => ?_) (fun cdv A outer s H vs Q E hr h => ?_)
  · obtain ⟨_, _, _, rfl, _⟩ := h
    rfl
  obtain ⟨t, p, q, rfl, h1, qq⟩ := h
  refine ⟨_, (pss_cons (ps_set (i := 1) sc.nd rfl (Or.inl rfl) (pcall0 Dround_down hr (by decide) rfl (@pa_cons _ _ _ _ _ (pv 0) pa_nil rfl))) (pss_cons (ps_set (i := 2) sc.nd rfl (Or.inl rfl) (pe_ix ix_tup (pv 0) pe_int (fun _ _ => rfl))) (pss_cons (ps_set (i := 3) sc.nd rfl (Or.inl rfl) (pe_op op_sub (pe_ix ix_tup (pv 0) pe_int (fun _ _ => rfl)) (pe_op op_mulB (pv 1) (pv 2)))) (pss_cons (ps_if (pt_cmpR op_eq (pv 3) pe_int (nomark _)) (pss_one (ps_ret (pe_callTy call_str_int rfl B.b_str boot_str (@pa_cons _ _ _ _ _ (pv 1) pa_nil rfl)))) pss_nil) (pss_cons (ps_if (pt_cmpR op_eq (pv 1) pe_int (nomark _)) (pss_one (ps_ret (pe_join (pj_cons (pe_fmt (pv 3)) (pj_cons pe_str (pj_cons (pe_fmt (pv 2)) pj_nil)))))) pss_nil) (pss_one (ps_ret (pe_join (pj_cons (pe_fmt (pv 1)) (pj_cons pe_str (pj_cons (pe_fmt (pv 3)) (pj_cons pe_str (pj_cons (pe_fmt (pv 2)) pj_nil))))))))))))), ?_⟩
  try dsimp only [cxK]
  have q0 : q ≠ 0 := by have := h1.pos; omega
  have bp := bdN' h1.bp
  have bq := bdN' h1.bq
  have lw : p / q < 2 ^ 1900 := Nat.lt_of_le_of_lt (Nat.div_le_self p q) bp
  have lt : p % q < 2 ^ 1900 := Nat.lt_of_le_of_lt (Nat.mod_le p q) bp
  refine ⟨_, rfl, t, p, q, rfl, h1.mono (by decide), ?_⟩
  rw [fdiv_nat]
  refine ⟨_, rfl, _, _, _, _, rfl, rfl, h1.at_, rfl, ?_⟩
  refine ⟨_, rfl, _, _, _, _, rfl, rfl, h1.at_, rfl, _, rfl, _, rfl, _, _, rfl, rfl, (bdN lw).ok h1.bq, _, _, rfl, rfl, ?_⟩
  dsimp only [gName]
  rw [sub_nat]
  have dw := dg_len' lw
  have dt := dg_len' lt
  have dq := dg_len' bq
  have s6 : (600 : Nat) * 3 + 10 ≤ sizeLine := by decide
  refine ⟨_, rfl, rfl, _, rfl, d2I (fun c => ?_) (fun c => ?_)⟩
  · refine ⟨_, rfl, _, rfl, lg lw, ?_⟩
    rw [str_num]
    unfold amtL at qq
    rw [if_pos (by omega)] at qq
    exact qq
  refine ⟨_, rfl, rfl, _, rfl, d2I (fun c2 => ?_) (fun c2 => ?_)⟩
  · refine ⟨_, rfl, .inl ⟨_, rfl, lg lt, _, rfl, ?_, _, rfl, ?_, _, rfl, .inl ⟨_, rfl, lg bq, _, rfl, ?_, ?_, ?_⟩⟩⟩
    all_goals simp only [str_num, slash_mk, empty_mk, mk_app, mk_len, List.nil_append, List.length_append, List.length_cons, List.length_nil]
    · omega
    · omega
    · omega
    · omega
    · unfold amtL at qq
      rw [if_neg (by omega), if_pos (by omega)] at qq
      simpa using qq
  · refine ⟨_, rfl, .inl ⟨_, rfl, lg lw, _, rfl, ?_, _, rfl, ?_, _, rfl, .inl ⟨_, rfl, lg lt, _, rfl, ?_, _, rfl, ?_, _, rfl, .inl ⟨_, rfl, lg bq, _, rfl, ?_, ?_, ?_⟩⟩⟩⟩
    all_goals simp only [str_num, slash_mk, plus_mk, empty_mk, mk_app, mk_len, List.nil_append, List.length_append, List.length_cons, List.length_nil]
    · omega
    · omega
    · omega
    · omega
    · omega
    · omega
    · unfold amtL at qq
      rw [if_neg (by omega), if_neg (by omega)] at qq
      simpa using qq

set_option maxHeartbeats 4000000 in
theorem okStep_init {dV : Value} (F : FunD K "__init__" "Step.__init__" sStep_init dV f fd)  : FnOk P w K mg base CX0 1 f fd ["self", "name", "least", "most", "uses", "second"] (spInit2 K) := by
  have sc : FnScope ["self", "name", "least", "most", "uses", "second"] ["self", "name", "least", "most", "uses", "second"] (defScope sStep_init) := scK (by decide +kernel)
  refine F.ok sc (fun vs H Q E h => ?_) (fun cdv A outer s H vs Q E hr h => ?_)
  · obtain ⟨_, _, _, _, _, _, _, _, _, _, rfl, _⟩ := h
    rfl
  obtain ⟨a, C, dx, nm, l, m, uv, sv, us, c, rfl, e0, sc0, hu, hs, q⟩ := h
  refine ⟨_, (pss_cons (ps_fld (pv 0) (pv 1) rfl) (pss_cons (ps_fld (pv 0) (pv 2) rfl) (pss_cons (ps_fld (pv 0) (pv 3) rfl) (pss_cons (ps_fld (pv 0) (pe_ifExp (pt_cmpR op_isN (pv 4) pe_non (nomark _)) (@pe_lst _ _ _ _ pa_nil) (pe_callTy call_list_of rfl B.b_list boot_list (@pa_cons _ _ _ _ _ (pv 4) pa_nil rfl))) rfl) (pss_one (ps_fld (pv 0) (pe_ifExp (pt_cmpR op_isN (pv 5) pe_non (nomark _)) pe_non (@pe_tup _ _ _ _ _ (@pa_cons _ _ _ _ _ (pe_ix ix_tup (pv 5) pe_int (fun _ _ => rfl)) (@pa_cons _ _ _ _ _ (pe_ix ix_tup (pv 5) pe_int (fun _ _ => rfl)) (@pa_cons _ _ _ _ _ (pe_callTy call_list_of rfl B.b_list boot_list (@pa_cons _ _ _ _ _ (pe_ix ix_tup (pv 5) pe_int (fun _ _ => rfl)) pa_nil rfl)) pa_nil rfl) rfl) rfl))) rfl)))))), ?_⟩
  try dsimp only [cxK]
  refine ⟨_, rfl, _, rfl, a, C, dx, _, rfl, e0, sc0.cl, sc0.name, (by decide), ?_⟩
  refine ⟨_, rfl, _, rfl, a, C, dx, _, rfl, upd_same, sc0.cl, sc0.least, (by have := length_putF "name" (.str nm) []; simp at this; omega), ?_⟩
  refine ⟨_, rfl, _, rfl, a, C, dx, _, rfl, upd_same, sc0.cl, sc0.most, (by have := length_putF "name" (.str nm) []; have := length_putF "least" (.int l) (putF "name" (.str nm) []); simp at *; omega), ?_⟩
  have k0 := (((Kept.refl H a).put (.ins C dx (putF "name" (.str nm) []))).put (.ins C dx (putF "least" (.int l) (putF "name" (.str nm) [])))).put (.ins C dx (putF "most" (.int m) (putF "least" (.int l) (putF "name" (.str nm) []))))
  have ea : (upd (upd (upd H a (.ins C dx (putF "name" (.str nm) []))) a (.ins C dx (putF "least" (.int l) (putF "name" (.str nm) [])))) a (.ins C dx (putF "most" (.int m) (putF "least" (.int l) (putF "name" (.str nm) []))))) a = some (.ins C dx (putF "most" (.int m) (putF "least" (.int l) (putF "name" (.str nm) [])))) := upd_same
  have fr0 : ∀ {b : Addr}, (upd (upd (upd H a (.ins C dx (putF "name" (.str nm) []))) a (.ins C dx (putF "least" (.int l) (putF "name" (.str nm) [])))) a (.ins C dx (putF "most" (.int m) (putF "least" (.int l) (putF "name" (.str nm) []))))) b = none → H b = none := fun {b} hb => by
    have n : b ≠ a := fun z => by rw [z, upd_same] at hb; cases hb
    rw [upd_ne n, upd_ne n, upd_ne n] at hb
    exact hb
  generalize upd (upd (upd H a (.ins C dx (putF "name" (.str nm) []))) a (.ins C dx (putF "least" (.int l) (putF "name" (.str nm) [])))) a (.ins C dx (putF "most" (.int m) (putF "least" (.int l) (putF "name" (.str nm) [])))) = H1 at k0 ea fr0 ⊢
  have l3 : (putF "most" (.int m) (putF "least" (.int l) (putF "name" (.str nm) []))).length ≤ 3 := by
    have h1 := length_putF "name" (.str nm) []
    have h2 := length_putF "least" (.int l) (putF "name" (.str nm) [])
    have h3 := length_putF "most" (.int m) (putF "least" (.int l) (putF "name" (.str nm) []))
    simp at h1
    omega
  obtain ⟨f3, ef3⟩ : ∃ f3, f3 = putF "most" (.int m) (putF "least" (.int l) (putF "name" (.str nm) [])) := ⟨_, rfl⟩
  rw [← ef3] at ea l3
  have ne : ∀ {b : Addr} {zs : List V}, H b = some (.lst zs) → b ≠ a := fun hb z => by subst z; rw [e0] at hb; cases hb
  have neT : ∀ {b : Addr} {zs : List V}, H b = some (.tup zs) → b ≠ a := fun hb z => by subst z; rw [e0] at hb; cases hb
  try dsimp only [gName, tNext]
  refine cut (fun σ H' => Kept H H' a ∧ σ = [some (.ref a), some (.str nm), some (.int l), some (.int m), some uv, some sv] ∧ ∃ u, u ≠ a ∧ H u = none ∧ H' u = some (.lst (us.map V.ref)) ∧ H' a = some (.ins C dx (putF "uses" (.ref u) f3)) ∧ ∀ b, H' b = none → H b = none) (fun N hN => ?_) ?_
  · rcases hu with ⟨rfl, rfl⟩ | ⟨lu, rfl, eu⟩
    · refine ⟨_, rfl, rfl, _, rfl, dT rfl ⟨(by show 0 ≤ sizeLine; decide), fun u nu => ?_⟩⟩
      have ua : u ≠ a := fun z => by rw [z, ea] at nu; cases nu
      refine ⟨_, rfl, a, C, dx, _, rfl, (by rw [upd_ne (Ne.symm ua)]; exact ea), sc0.cl, sc0.uses, (by omega), hN _ _ ⟨(k0.new nu _).put _, rfl, u, ua, fr0 nu, by rw [upd_ne ua]; exact upd_same, upd_same, fun b hb => ?_⟩⟩
      have n1 : b ≠ a := fun z => by rw [z, upd_same] at hb; cases hb
      have n2 : b ≠ u := fun z => by rw [z, upd_ne ua, upd_same] at hb; cases hb
      rw [upd_ne n1, upd_ne n2] at hb
      exact fr0 hb
    · refine ⟨_, rfl, rfl, _, rfl, dF (fun z => nomatch z) ⟨_, rfl, lu, _, rfl, .inl (SqL.of (k0 _ _ eu (ne eu))), fun u nu => ?_⟩⟩
      have ua : u ≠ a := fun z => by rw [z, ea] at nu; cases nu
      refine ⟨_, rfl, a, C, dx, _, rfl, (by rw [upd_ne (Ne.symm ua)]; exact ea), sc0.cl, sc0.uses, (by omega), hN _ _ ⟨(k0.new nu _).put _, rfl, u, ua, fr0 nu, by rw [upd_ne ua]; exact upd_same, upd_same, fun b hb => ?_⟩⟩
      have n1 : b ≠ a := fun z => by rw [z, upd_same] at hb; cases hb
      have n2 : b ≠ u := fun z => by rw [z, upd_ne ua, upd_same] at hb; cases hb
      rw [upd_ne n1, upd_ne n2] at hb
      exact fr0 hb
  rintro σ H2 ⟨k2, rfl, u, ua, nu, eu, ea2, fr2⟩
  have l4 := length_putF "uses" (.ref u) f3
  match c, hs with
  | none, hs =>
    have hs' : sv = .non := hs
    subst hs'
    refine ⟨_, rfl, rfl, _, rfl, dT rfl ⟨_, rfl, a, C, dx, _, rfl, ea2, sc0.cl, sc0.second, (by omega), ?_⟩⟩
    exact q u .non _ (k2.put _) ua nu (by rw [upd_ne ua]; exact eu) rfl (by rw [upd_same, ef3]; rfl)
  | some (x, y, vs), hs =>
    obtain ⟨t, l2, rfl, et, el⟩ := hs
    have et2 := k2 _ _ et (neT et)
    have el2 := k2 _ _ el (ne el)
    refine ⟨_, rfl, rfl, _, rfl, dF (fun z => nomatch z) ?_⟩
    refine ⟨_, rfl, _, _, _, _, rfl, rfl, SqT.of et2, rfl, _, rfl, _, _, _, _, rfl, rfl, SqT.of et2, rfl, _, rfl, _, _, _, _, rfl, rfl, SqT.of et2, rfl, l2, _, rfl, .inl (SqL.of el2), fun lc nc => ⟨(by show 3 ≤ sizeLine; decide), fun tc ntc => ?_⟩⟩
    have lca : lc ≠ a := fun z => by rw [z, ea2] at nc; cases nc
    have lcu : lc ≠ u := fun z => by rw [z, eu] at nc; cases nc
    have gc := same_new nc (.lst (vs.map V.ref))
    have gt := same_new ntc (.tup [.int x, .int y, .ref lc])
    have tca : tc ≠ a := fun z => by rw [z, gc _ _ ea2] at ntc; cases ntc
    have tcu : tc ≠ u := fun z => by rw [z, gc _ _ eu] at ntc; cases ntc
    refine ⟨_, rfl, a, C, dx, _, rfl, gt _ _ (gc _ _ ea2), sc0.cl, sc0.second, (by omega), ?_⟩
    refine q u (.ref tc) _ (((k2.new nc _).new ntc _).put _) ua nu (by rw [upd_ne ua]; exact gt _ _ (gc _ _ eu)) ⟨tc, lc, rfl, by rw [upd_ne tca]; exact upd_same, by rw [upd_ne lca]; exact gt _ _ upd_same, fr2 _ (gc.free ntc), fr2 _ nc⟩ (by rw [upd_same, ef3]; rfl)

set_option maxHeartbeats 4000000 in
theorem okCut_word {dV : Value} (F : FunD K "word" "Cut.word" sCut_word dV f fd)  : FnOk P w K mg base CX0 1 f fd ["self"] (spWord "cut") := by
  have sc : FnScope ["self"] ["self"] (defScope sCut_word) := scK (by decide +kernel)
  refine F.ok sc (fun vs H Q E h => ?_) (fun cdv A outer s H vs Q E hr h => ?_)
  · obtain ⟨_, rfl, _⟩ := h
    rfl
  obtain ⟨x, rfl, q⟩ := h
  refine ⟨_, (pss_one (ps_ret pe_str)), ?_⟩
  try dsimp only [cxK]
  exact q

set_option maxHeartbeats 4000000 in
theorem okWarm_init {dV : Value} (F : FunD K "__init__" "Warm.__init__" sWarm_init dV f fd) (DStep_init : DxM P w K mg base CX0 1 f_Step_init ["self", "name", "least", "most", "uses", "second"] [.non, .non] (spInit2 K)) : FnOk P w K mg base CX0 2 f fd ["self", "name", "least", "most", "fill", "uses", "second"] (spWarm2 K) := by
  have sc : FnScope ["self", "name", "least", "most", "fill", "uses", "second"] ["self", "name", "least", "most", "fill", "uses", "second"] (defScope sWarm_init) := scK (by decide +kernel)
  refine F.ok sc (fun vs H Q E h => ?_) (fun cdv A outer s H vs Q E hr h => ?_)
  · obtain ⟨_, _, _, _, _, _, _, _, _, _, _, rfl, _⟩ := h
    rfl
  obtain ⟨a, C, dx, nm, l, m, fl, uv, sv, us, c, rfl, e0, sc0, nf, hu, hs, q⟩ := h
  refine ⟨_, (pss_cons (ps_expr (pclsm B.cm_Step___init__ DStep_init hr (by decide) rfl B.m_Step (@pa_cons _ _ _ _ _ (pv 0) (@pa_cons _ _ _ _ _ (pv 1) (@pa_cons _ _ _ _ _ (pv 2) (@pa_cons _ _ _ _ _ (pv 3) (@pa_cons _ _ _ _ _ (pv 5) (@pa_cons _ _ _ _ _ (pv 6) pa_nil rfl) rfl) rfl) rfl) rfl) rfl))) (pss_one (ps_fld (pv 0) (pv 4) rfl))), ?_⟩
  try dsimp only [cxK]
  refine ⟨_, rfl, _, rfl, _, rfl, _, rfl, _, rfl, _, rfl, a, C, dx, nm, l, m, uv, sv, us, c, rfl, e0, sc0, hu, hs, fun u s H1 k1 ua nu eu hs1 ea => ?_⟩
  refine ⟨_, rfl, _, rfl, a, C, dx, _, rfl, ea, sc0.cl, nf, (by have := stepF_len (nm := .str nm) (l := .int l) (m := .int m) (u := .ref u) (s := s); omega), ?_⟩
  exact q u s _ (k1.put _) ua nu (by rw [upd_ne ua]; exact eu) (hs1.self ea) upd_same

set_option maxHeartbeats 4000000 in
theorem okWarm_word {dV : Value} (F : FunD K "word" "Warm.word" sWarm_word dV f fd)  : FnOk P w K mg base CX0 1 f fd ["self"] (spWord "warm") := by
  have sc : FnScope ["self"] ["self"] (defScope sWarm_word) := scK (by decide +kernel)
  refine F.ok sc (fun vs H Q E h => ?_) (fun cdv A outer s H vs Q E hr h => ?_)
  · obtain ⟨_, rfl, _⟩ := h
    rfl
  obtain ⟨x, rfl, q⟩ := h
  refine ⟨_, (pss_one (ps_ret pe_str)), ?_⟩
  try dsimp only [cxK]
  exact q

set_option maxHeartbeats 4000000 in
theorem okRest_word {dV : Value} (F : FunD K "word" "Rest.word" sRest_word dV f fd)  : FnOk P w K mg base CX0 1 f fd ["self"] (spWord "rest") := by
  have sc : FnScope ["self"] ["self"] (defScope sRest_word) := scK (by decide +kernel)
  refine F.ok sc (fun vs H Q E h => ?_) (fun cdv A outer s H vs Q E hr h => ?_)
  · obtain ⟨_, rfl, _⟩ := h
    rfl
  obtain ⟨x, rfl, q⟩ := h
  refine ⟨_, (pss_one (ps_ret pe_str)), ?_⟩
  try dsimp only [cxK]
  exact q

set_option maxHeartbeats 4000000 in
theorem okRecipe_init {dV : Value} (F : FunD K "__init__" "Recipe.__init__" sRecipe_init dV f fd)  : FnOk P w K mg base CX0 1 f fd ["self", "name", "plates", "takes", "steps", "links"] (spRecI K) := by
  have sc : FnScope ["self", "name", "plates", "takes", "steps", "links"] ["self", "name", "plates", "takes", "steps", "links"] (defScope sRecipe_init) := scK (by decide +kernel)
  refine F.ok sc (fun vs H Q E h => ?_) (fun cdv A outer s H vs Q E hr h => ?_)
  · obtain ⟨_, _, _, _, _, _, _, _, _, _, _, rfl, _⟩ := h
    rfl
  obtain ⟨a, C, dx, lt, ls, lk, nm, p, xt, xs, xk, rfl, e0, sc0, et, es, ek, q⟩ := h
  refine ⟨_, (pss_cons (ps_fld (pv 0) (pv 1) rfl) (pss_cons (ps_fld (pv 0) (pv 2) rfl) (pss_cons (ps_fld (pv 0) (pe_callTy call_list_of rfl B.b_list boot_list (@pa_cons _ _ _ _ _ (pv 3) pa_nil rfl)) rfl) (pss_cons (ps_fld (pv 0) (pe_callTy call_list_of rfl B.b_list boot_list (@pa_cons _ _ _ _ _ (pv 4) pa_nil rfl)) rfl) (pss_one (ps_fld (pv 0) (pe_callTy call_list_of rfl B.b_list boot_list (@pa_cons _ _ _ _ _ (pv 5) pa_nil rfl)) rfl)))))), ?_⟩
  try dsimp only [cxK]
  have ne : ∀ {b : Addr} {zs : List V}, H b = some (.lst zs) → b ≠ a := fun hb z => by subst z; rw [e0] at hb; cases hb
  refine ⟨_, rfl, _, rfl, a, C, dx, _, rfl, e0, sc0.cl, sc0.name, (by decide), ?_⟩
  refine ⟨_, rfl, _, rfl, a, C, dx, _, rfl, upd_same, sc0.cl, sc0.plates, (by have := length_putF "name" nm []; simp at this; omega), ?_⟩
  have k0 := ((Kept.refl H a).put (.ins C dx (putF "name" nm []))).put (.ins C dx (putF "plates" p (putF "name" nm [])))
  have ea : (upd (upd H a (.ins C dx (putF "name" nm []))) a (.ins C dx (putF "plates" p (putF "name" nm [])))) a = some (.ins C dx (putF "plates" p (putF "name" nm []))) := upd_same
  have f0 : ∀ b, (upd (upd H a (.ins C dx (putF "name" nm []))) a (.ins C dx (putF "plates" p (putF "name" nm [])))) b = none → H b = none := fun b hb => by
    have n1 : b ≠ a := fun z => by rw [z, upd_same] at hb; cases hb
    rwa [upd_ne n1, upd_ne n1] at hb
  generalize upd (upd H a (.ins C dx (putF "name" nm []))) a (.ins C dx (putF "plates" p (putF "name" nm []))) = H1 at k0 ea f0 ⊢
  have l2 : (putF "plates" p (putF "name" nm [])).length ≤ 2 := by
    have h1 := length_putF "name" nm []
    have h2 := length_putF "plates" p (putF "name" nm [])
    simp at h1
    omega
  obtain ⟨f2, ef2⟩ : ∃ f2, f2 = putF "plates" p (putF "name" nm []) := ⟨_, rfl⟩
  rw [← ef2] at ea l2
  have et1 := k0 _ _ et (ne et)
  refine ⟨_, rfl, lt, xt, rfl, .inl (SqL.of et1), fun la na => ?_⟩
  have laa : la ≠ a := fun z => by rw [z, ea] at na; cases na
  refine ⟨_, rfl, a, C, dx, _, rfl, (by rw [upd_ne (Ne.symm laa)]; exact ea), sc0.cl, sc0.takes, (by omega), ?_⟩
  have k1 := (k0.new na (.lst xt)).put (.ins C dx (putF "takes" (.ref la) f2))
  have ea1 : (upd (upd H1 la (.lst xt)) a (.ins C dx (putF "takes" (.ref la) f2))) a = some (.ins C dx (putF "takes" (.ref la) f2)) := upd_same
  have ela1 : (upd (upd H1 la (.lst xt)) a (.ins C dx (putF "takes" (.ref la) f2))) la = some (.lst xt) := by rw [upd_ne laa]; exact upd_same
  have f1 : ∀ b, (upd (upd H1 la (.lst xt)) a (.ins C dx (putF "takes" (.ref la) f2))) b = none → H b = none := fun b hb => by
    have n1 : b ≠ a := fun z => by rw [z, upd_same] at hb; cases hb
    have n2 : b ≠ la := fun z => by rw [z, ela1] at hb; cases hb
    rw [upd_ne n1, upd_ne n2] at hb
    exact f0 b hb
  generalize upd (upd H1 la (.lst xt)) a (.ins C dx (putF "takes" (.ref la) f2)) = H2 at k1 ea1 ela1 f1 ⊢
  have l3 := length_putF "takes" (.ref la) f2
  obtain ⟨f3, ef3⟩ : ∃ f3, f3 = putF "takes" (.ref la) f2 := ⟨_, rfl⟩
  rw [← ef3] at ea1 l3
  have es1 := k1 _ _ es (ne es)
  refine ⟨_, rfl, ls, xs, rfl, .inl (SqL.of es1), fun lb nb => ?_⟩
  have lba : lb ≠ a := fun z => by rw [z, ea1] at nb; cases nb
  have lbl : la ≠ lb := fun z => by rw [← z, ela1] at nb; cases nb
  refine ⟨_, rfl, a, C, dx, _, rfl, (by rw [upd_ne (Ne.symm lba)]; exact ea1), sc0.cl, sc0.steps, (by omega), ?_⟩
  have k2 := (k1.new nb (.lst xs)).put (.ins C dx (putF "steps" (.ref lb) f3))
  have ea2 : (upd (upd H2 lb (.lst xs)) a (.ins C dx (putF "steps" (.ref lb) f3))) a = some (.ins C dx (putF "steps" (.ref lb) f3)) := upd_same
  have elb2 : (upd (upd H2 lb (.lst xs)) a (.ins C dx (putF "steps" (.ref lb) f3))) lb = some (.lst xs) := by rw [upd_ne lba]; exact upd_same
  have ela2 : (upd (upd H2 lb (.lst xs)) a (.ins C dx (putF "steps" (.ref lb) f3))) la = some (.lst xt) := by rw [upd_ne laa, upd_ne lbl]; exact ela1
  have f2' : ∀ b, (upd (upd H2 lb (.lst xs)) a (.ins C dx (putF "steps" (.ref lb) f3))) b = none → H b = none := fun b hb => by
    have n1 : b ≠ a := fun z => by rw [z, upd_same] at hb; cases hb
    have n2 : b ≠ lb := fun z => by rw [z, elb2] at hb; cases hb
    rw [upd_ne n1, upd_ne n2] at hb
    exact f1 b hb
  generalize upd (upd H2 lb (.lst xs)) a (.ins C dx (putF "steps" (.ref lb) f3)) = H3 at k2 ea2 elb2 ela2 f2' ⊢
  have l4 := length_putF "steps" (.ref lb) f3
  obtain ⟨f4, ef4⟩ : ∃ f4, f4 = putF "steps" (.ref lb) f3 := ⟨_, rfl⟩
  rw [← ef4] at ea2 l4
  have ek1 := k2 _ _ ek (ne ek)
  refine ⟨_, rfl, lk, xk, rfl, .inl (SqL.of ek1), fun lc nc => ?_⟩
  have lca : lc ≠ a := fun z => by rw [z, ea2] at nc; cases nc
  have lcb : lb ≠ lc := fun z => by rw [← z, elb2] at nc; cases nc
  have lcl : la ≠ lc := fun z => by rw [← z, ela2] at nc; cases nc
  refine ⟨_, rfl, a, C, dx, _, rfl, (by rw [upd_ne (Ne.symm lca)]; exact ea2), sc0.cl, sc0.links, (by omega), ?_⟩
  refine q la lb lc _ laa lba lca (f0 _ na) (f1 _ nb) (f2' _ nc) (by simp [lbl, lcl, lcb]) ((k2.new nc (.lst xk)).put _) (by rw [upd_ne laa, upd_ne lcl]; exact ela2) (by rw [upd_ne lba, upd_ne lcb]; exact elb2) (by rw [upd_ne lca]; exact upd_same) ?_
  rw [upd_same, ef4, ef3, ef2]
  rfl

set_option maxHeartbeats 4000000 in
theorem okrow_of {dV : Value} (F : FunD K "row_of" "row_of" srow_of dV f fd)  : FnOk P w K mg base CX0 1 f fd ["things"] spRowOf := by
  have sc : FnScope ["things"] ["things"] (defScope srow_of) := scK (by decide +kernel)
  refine F.ok sc (fun vs H Q E h => ?_) (fun cdv A outer s H vs Q E hr h => ?_)
  · obtain ⟨_, _, rfl, _⟩ := h
    rfl
  obtain ⟨l, ts, rfl, el, l20, ok, q⟩ := h
  refine ⟨_, (pss_one (ps_ret (pe_bm PySem.F.plainAttrs_str PySem.F.slot_str_join PySem.F.type_str_join mt_join pe_str (@pa_cons _ _ _ _ _ (pe_comp (own := "thing") (ys := []) (js := []) rfl (cok atn .nil (by decide) rfl rfl rfl rfl rfl rfl rfl rfl) (pi_list (pv 0)) (fun C fp s H => (pe_callTy call_strV rfl B.b_str boot_str (@pa_cons _ _ _ _ _ (pv 0) pa_nil rfl)))) pa_nil rfl)))), ?_⟩
  try dsimp only [cxK]
  have sl : sizeLine = 16777216 := sizeLine_eq
  refine ⟨rfl, _, rfl, l, rfl, ⟨_, SqL.of el⟩, comp_Rl (rVal V.str) (fun _ => False) (fun i => thT (ts.getD i (.n 0))) (SqL.of el) (by rw [List.length_map]; omega) (fun a h => h.elim) (fun i y hy H2 g Q' hQ => ?_) fun p H' np g hp => ?_⟩
  · rw [List.getElem?_map] at hy
    obtain ⟨x, hx, rfl⟩ := Option.map_eq_some_iff.mp hy
    rw [getDo hx] at hQ
    have kx := ok x (List.mem_of_getElem? hx)
    cases x with
    | t z => exact ⟨_, rfl, .inr ⟨z, rfl, hQ _ _ (.refl _) rfl⟩⟩
    | n k =>
      refine ⟨_, rfl, .inl ⟨_, rfl, num_lg kx, ?_⟩⟩
      rw [str_num]
      exact hQ _ _ (.refl _) rfl
  · obtain ⟨vs, ep, rp⟩ := hp
    have e1 : vs = (ts.map thT).map V.str := by rw [rp.val, List.length_map, map_getD thT ts (.n 0)]
    rw [e1] at ep
    refine ⟨_, p, _, rfl, rfl, SqL.of ep, (by decide), ?_, q _ g⟩
    have := sum_len (m := 60) (ws := ts.map thT) fun w hw => by
      obtain ⟨x, hx, rfl⟩ := List.mem_map.mp hw
      exact thT_len (ok x hx)
    rw [List.length_map] at this ⊢
    omega

set_option maxHeartbeats 4000000 in
theorem okrows_of_uses {dV : Value} (F : FunD K "rows_of_uses" "rows_of_uses" srows_of_uses dV f fd) (Drow_of : Dx P w K mg base CX0 1 "row_of" ["things"] [] spRowOf) : FnOk P w K mg base CX0 2 f fd ["word", "name", "uses"] spUseRows := by
  have sc : FnScope ["word", "name", "uses"] ["word", "name", "uses"] (defScope srows_of_uses) := scK (by decide +kernel)
  refine F.ok sc (fun vs H Q E h => ?_) (fun cdv A outer s H vs Q E hr h => ?_)
  · obtain ⟨_, _, _, _, rfl, _⟩ := h
    rfl
  obtain ⟨w, n, u, us, rfl, ⟨vs, eu, r⟩, ub, wl, nl, q⟩ := h
  refine ⟨_, (pss_one (ps_ret (pe_comp (own := "use") (ys := ["word", "name"]) (js := [0, 1]) rfl (cok (atc (atc atn)) (.cons rfl (.cons rfl .nil)) (by decide) rfl rfl rfl rfl rfl rfl rfl rfl) (pi_list (pv 2)) (fun C fp s H => (pcall0 Drow_of hr (by decide) rfl (@pa_cons _ _ _ _ _ (@pe_lst _ _ _ _ (@pa_cons _ _ _ _ _ (pv 1) (@pa_cons _ _ _ _ _ (pv 2) (@pa_cons _ _ _ _ _ (pe_ix (ix_tupB (K := K) rfl) (pv 0) pe_int (fun _ _ => rfl)) (@pa_cons _ _ _ _ _ (pe_ix (ix_tupB (K := K) rfl) (pv 0) pe_int (fun _ _ => rfl)) (@pa_cons _ _ _ _ _ (pe_ix (ix_tupB (K := K) rfl) (pv 0) pe_int (fun _ _ => rfl)) pa_nil rfl) rfl) rfl) rfl) rfl)) pa_nil rfl)))))), ?_⟩
  try dsimp only [cxK]
  have sl : sizeLine = 16777216 := sizeLine_eq
  have lu := ub.1
  have lv := r.1
  refine ⟨_, rfl, u, rfl, ⟨_, SqL.of eu⟩, comp_Rl (rVal V.str) (fun _ => False) (fun i => jB (useWs w n (us.getD i ("", 0, 0)))) (SqL.of eu) (by omega) (fun a h => h.elim) (fun i y hy H2 g Q' hQ => ?_) fun p H' np g hp => ?_⟩
  · obtain ⟨x, hx, t, rfl, _, et⟩ := r.at_ hy
    rw [getDo hx] at hQ
    obtain ⟨nm, m1, m8, h9⟩ := ub.2 x (List.mem_of_getElem? hx)
    have et2 := g _ _ et
    refine ⟨_, rfl, _, rfl, _, rfl, t, _, _, _, rfl, rfl, SqT.of et2, rfl, _, rfl, t, _, _, _, rfl, rfl, SqT.of et2, rfl, _, rfl, t, _, _, _, rfl, rfl, SqT.of et2, rfl, (by show 5 ≤ sizeLine; decide), fun d nd => ?_⟩
    have g3 := same_new nd (.lst [.str w, .str n, .str x.1, vN x.2.1, vN x.2.2])
    refine ⟨d, [.t w, .t n, .t x.1, .n x.2.1, .n x.2.2], rfl, upd_same, (by show 5 ≤ 20; decide), fun y hy => ?_, fun H4 g4 => hQ _ _ (g3.trans g4) rfl⟩
    have := nm.len
    simp only [List.mem_cons, List.not_mem_nil, or_false] at hy
    rcases hy with rfl | rfl | rfl | rfl | rfl <;> (simp only [ThOk]; omega)
  · obtain ⟨zs, ep, rp⟩ := hp
    have e1 : zs = (us.map fun u => jB (useWs w n u)).map V.str := by rw [rp.val, lv, map_getD (fun u => jB (useWs w n u)) us ("", 0, 0)]
    rw [e1] at ep
    exact q p _ g np ep

set_option maxHeartbeats 4000000 in
theorem okrows_of_step {dV : Value} (F : FunD K "rows_of_step" "rows_of_step" srows_of_step dV f fd) (Damount_text : Dx P w K mg base CX0 2 "amount_text" ["amount"] [] (spAmt K)) (DCut_word : DxM P w K mg base CX0 1 f_Cut_word ["self"] [] (spWord "cut")) (DWarm_word : DxM P w K mg base CX0 1 f_Warm_word ["self"] [] (spWord "warm")) (DRest_word : DxM P w K mg base CX0 1 f_Rest_word ["self"] [] (spWord "rest")) (Drow_of : Dx P w K mg base CX0 1 "row_of" ["things"] [] spRowOf) (Drows_of_uses : Dx P w K mg base CX0 2 "rows_of_uses" ["word", "name", "uses"] [] spUseRows) : FnOk P w K mg base CX0 3 f fd ["step"] (spStepRows c_Cut c_Rest c_Warm) := by
  have sc : FnScope ["step", "things", "rows"] ["step"] (defScope srows_of_step) := scK (by decide +kernel)
  refine F.ok sc (fun vs H Q E h => ?_) (fun cdv A outer s H vs Q E hr h => ?_)
  · obtain ⟨_, _, rfl, _⟩ := h
    rfl
  obtain ⟨x, ⟨w, n, lo, hi, fl, us, sec⟩, rfl, ⟨C, dx, u, sv, ff, ex, hC, sf, hf, hu, hs⟩, bd, q⟩ := h
  refine ⟨_, (pss_cons (ps_set (i := 1) sc.nd rfl (Or.inl rfl) (@pe_lst _ _ _ _ (@pa_cons _ _ _ _ _ (pe_either (pmethZ (pv 0) DCut_word hr (by decide)) (pe_either (pmethZ (pv 0) DWarm_word hr (by decide)) (pmethZ (pv 0) DRest_word hr (by decide)))) (@pa_cons _ _ _ _ _ (pe_fld (pv 0) rfl) (@pa_cons _ _ _ _ _ (pe_fld (pv 0) rfl) (@pa_cons _ _ _ _ _ (pe_fld (pv 0) rfl) pa_nil rfl) rfl) rfl) rfl))) (pss_cons (ps_if (pt_val (pe_callB (call_isiC (K := K) rfl) rfl B.b_isinstance boot_isinstance (@pa_cons _ _ _ _ _ (pv 0) (@pa_cons _ _ _ _ _ (pe_glob (v := V.ref c_Warm) rfl B.m_Warm rfl) pa_nil rfl) rfl))) (pss_one (ps_expr (pe_bm PySem.F.plainAttrs_list PySem.F.slot_list_append PySem.F.type_list_append mt_append (pv 1) (@pa_cons _ _ _ _ _ (pcall0 Damount_text hr (by decide) rfl (@pa_cons _ _ _ _ _ (pe_fld (pv 0) rfl) pa_nil rfl)) pa_nil rfl)))) pss_nil) (pss_cons (ps_set (i := 2) sc.nd rfl (Or.inl rfl) (@pe_lst _ _ _ _ (@pa_cons _ _ _ _ _ (pcall0 Drow_of hr (by decide) rfl (@pa_cons _ _ _ _ _ (pv 1) pa_nil rfl)) pa_nil rfl))) (pss_cons (ps_expr (pe_bm PySem.F.plainAttrs_list PySem.F.slot_list_extend PySem.F.type_list_extend mt_extend (pv 2) (@pa_cons _ _ _ _ _ (pcall0 Drows_of_uses hr (by decide) rfl (@pa_cons _ _ _ _ _ pe_str (@pa_cons _ _ _ _ _ (pe_fld (pv 0) rfl) (@pa_cons _ _ _ _ _ (pe_fld (pv 0) rfl) pa_nil rfl) rfl) rfl)) pa_nil rfl))) (pss_cons (ps_if (pt_cmpR op_notN (pe_fld (pv 0) rfl) pe_non (nomark _)) (pss_cons (ps_expr (pe_bm PySem.F.plainAttrs_list PySem.F.slot_list_append PySem.F.type_list_append mt_append (pv 2) (@pa_cons _ _ _ _ _ (pcall0 Drow_of hr (by decide) rfl (@pa_cons _ _ _ _ _ (@pe_lst _ _ _ _ (@pa_cons _ _ _ _ _ pe_str (@pa_cons _ _ _ _ _ (pe_fld (pv 0) rfl) (@pa_cons _ _ _ _ _ (pe_ix ix_tup (pe_fld (pv 0) rfl) pe_int (fun _ _ => rfl)) (@pa_cons _ _ _ _ _ (pe_ix ix_tup (pe_fld (pv 0) rfl) pe_int (fun _ _ => rfl)) pa_nil rfl) rfl) rfl) rfl)) pa_nil rfl)) pa_nil rfl))) (pss_one (ps_expr (pe_bm PySem.F.plainAttrs_list PySem.F.slot_list_extend PySem.F.type_list_extend mt_extend (pv 2) (@pa_cons _ _ _ _ _ (pcall0 Drows_of_uses hr (by decide) rfl (@pa_cons _ _ _ _ _ pe_str (@pa_cons _ _ _ _ _ (pe_fld (pv 0) rfl) (@pa_cons _ _ _ _ _ (pe_ix ix_tup (pe_fld (pv 0) rfl) pe_int (fun _ _ => rfl)) pa_nil rfl) rfl) rfl)) pa_nil rfl))))) pss_nil) (pss_one (ps_ret (pv 2)))))))), ?_⟩
  try dsimp only [cxK]
  have sl : sizeLine = 16777216 := sizeLine_eq
  dsimp only at ex hC sf hf hu hs
  have nmn : Nm n := bd.nm
  have hle : LeOk lo hi := bd.le
  obtain ⟨h1, h2, h3⟩ := hle
  have nl12 := nmn.len
  try dsimp only [gName, tNext]
  refine cut (fun σ H' => ∃ l, σ = [some (.ref x), some (.ref l), none] ∧ Same H H' ∧ H l = none ∧ H' l = some (.lst [V.str w, .str n, vN lo, vN hi])) (fun N hN => ?_) ?_
  · rcases hC with ⟨rfl, rfl⟩ | ⟨rfl, rfl⟩ | ⟨rfl, rfl⟩
    · have sc0 : StepC K C := ⟨B.cl_Cut, B.na_Cut_name, B.na_Cut_least, B.na_Cut_most, B.na_Cut_uses, B.na_Cut_second⟩
      exact .inl ⟨_, rfl, x, _, dx, ff, rfl, ex, B.cl_Cut, B.me_Cut_word, sf.word, _, rfl, _, rfl, x, C, dx, ff, _, rfl, ex, sc0.cl, sc0.name, sf.name, _, rfl, x, C, dx, ff, _, rfl, ex, sc0.cl, sc0.least, sf.least, _, rfl, x, C, dx, ff, _, rfl, ex, sc0.cl, sc0.most, sf.most, (by show 4 ≤ sizeLine; decide), fun l nl => hN _ _ ⟨l, rfl, same_new nl _, nl, upd_same⟩⟩
    · have sc0 : StepC K C := ⟨B.cl_Rest, B.na_Rest_name, B.na_Rest_least, B.na_Rest_most, B.na_Rest_uses, B.na_Rest_second⟩
      exact .inr (.inr ⟨_, rfl, x, _, dx, ff, rfl, ex, B.cl_Rest, B.me_Rest_word, sf.word, _, rfl, _, rfl, x, C, dx, ff, _, rfl, ex, sc0.cl, sc0.name, sf.name, _, rfl, x, C, dx, ff, _, rfl, ex, sc0.cl, sc0.least, sf.least, _, rfl, x, C, dx, ff, _, rfl, ex, sc0.cl, sc0.most, sf.most, (by show 4 ≤ sizeLine; decide), fun l nl => hN _ _ ⟨l, rfl, same_new nl _, nl, upd_same⟩⟩)
    · have sc0 : StepC K C := ⟨B.cl_Warm, B.na_Warm_name, B.na_Warm_least, B.na_Warm_most, B.na_Warm_uses, B.na_Warm_second⟩
      exact .inr (.inl ⟨_, rfl, x, _, dx, ff, rfl, ex, B.cl_Warm, B.me_Warm_word, sf.word, _, rfl, _, rfl, x, C, dx, ff, _, rfl, ex, sc0.cl, sc0.name, sf.name, _, rfl, x, C, dx, ff, _, rfl, ex, sc0.cl, sc0.least, sf.least, _, rfl, x, C, dx, ff, _, rfl, ex, sc0.cl, sc0.most, sf.most, (by show 4 ≤ sizeLine; decide), fun l nl => hN _ _ ⟨l, rfl, same_new nl _, nl, upd_same⟩⟩)
  rintro σ H1 ⟨l, rfl, g1, nl, e1⟩
  have ex1 := g1 _ _ ex
  refine cut (fun σ H' => σ = [some (.ref x), some (.ref l), none] ∧ Same H H' ∧ H' l = some (.lst (([V.str w, .str n, vN lo, vN hi] ++ (fillT fl).map V.str)))) (fun N hN => ?_) ?_
  · rcases hC with ⟨rfl, rfl⟩ | ⟨rfl, rfl⟩ | ⟨rfl, rfl⟩
    · match fl, bd.fl with
      | some a, z => exact absurd z.1 (show ¬ Str.ofString "cut" = Str.ofString "warm" from by decide)
      | none, _ => exact ⟨_, rfl, _, _, _, false, rfl, .ins ex1 B.cl_Cut B.tc_Cut.ha B.tc_Cut.hn B.tc_Cut.htk B.tc_Cut.hm, B.kit_Cut_Warm, _, rfl, iteF (hN _ _ ⟨rfl, g1, e1⟩)⟩
    · match fl, bd.fl with
      | some a, z => exact absurd z.1 (show ¬ Str.ofString "rest" = Str.ofString "warm" from by decide)
      | none, _ => exact ⟨_, rfl, _, _, _, false, rfl, .ins ex1 B.cl_Rest B.tc_Rest.ha B.tc_Rest.hn B.tc_Rest.htk B.tc_Rest.hm, B.kit_Rest_Warm, _, rfl, iteF (hN _ _ ⟨rfl, g1, e1⟩)⟩
    · match fl, bd.fl, hf with
      | none, z, _ => exact absurd rfl z
      | some a, ⟨_, ag⟩, ⟨tf, lf, ef⟩ =>
      exact ⟨_, rfl, _, _, _, true, rfl, .ins ex1 B.cl_Warm B.tc_Warm.ha B.tc_Warm.hn B.tc_Warm.htk B.tc_Warm.hm, B.kit_Warm_Warm, _, rfl, iteT ⟨_, rfl, .inl ⟨rfl, _, SqL.of e1⟩, _, rfl, x, _, dx, ff, _, rfl, ex1, B.cl_Warm, B.na_Warm_fill, lf, tf, a.1, a.2, rfl, ⟨SqT.of (g1 _ _ ef), by have := ag.rd.pos; omega, (bdN (k := 140) (Nat.lt_trans ag.bp (by decide))).mono (by decide), (bdN (k := 140) (Nat.lt_trans ag.bq (by decide))).mono (by decide)⟩, l, _, _, rfl, rfl, e1, (by show 4 < sizeLine; decide), hN _ _ ⟨rfl, sUpd g1 nl _, upd_same⟩⟩⟩
  rintro σ H2 ⟨rfl, g2, e2⟩
  have sc0 : StepC K C := by
    rcases hC with ⟨_, rfl⟩ | ⟨_, rfl⟩ | ⟨_, rfl⟩
    · exact ⟨B.cl_Cut, B.na_Cut_name, B.na_Cut_least, B.na_Cut_most, B.na_Cut_uses, B.na_Cut_second⟩
    · exact ⟨B.cl_Rest, B.na_Rest_name, B.na_Rest_least, B.na_Rest_most, B.na_Rest_uses, B.na_Rest_second⟩
    · exact ⟨B.cl_Warm, B.na_Warm_name, B.na_Warm_least, B.na_Warm_most, B.na_Warm_uses, B.na_Warm_second⟩
  have ex2 := g2 _ _ ex
  have eth : ([V.str w, .str n, vN lo, vN hi] ++ (fillT fl).map V.str) = (([Th.t w, Th.t n, Th.n lo, Th.n hi] ++ (fillT fl).map Th.t).map thV) := by cases fl <;> rfl
  rw [eth] at e2
  have fok : ∀ y ∈ (fillT fl).map Th.t, ThOk y := fun y hy => by
    match fl, bd.fl with
    | none, _ => simp [fillT] at hy
    | some a, ⟨_, ag⟩ =>
      simp [fillT] at hy
      rw [hy]
      exact Nat.le_trans (amT_len ag) (by decide)
  have lf : (fillT fl).length ≤ 1 := by cases fl <;> simp [fillT]
  have ww : w.length ≤ 12 := by rcases bd.wd with e | e | e <;> (have e : w = _ := e; rw [e]; decide)
  refine ⟨_, rfl, l, [Th.t w, Th.t n, Th.n lo, Th.n hi] ++ (fillT fl).map Th.t, rfl, e2, (by simp; omega), (fun y hy => ?_), fun H3 g3 => ⟨(by show 1 ≤ sizeLine; decide), fun rl nrl => ?_⟩⟩
  · rcases List.mem_append.mp hy with hy | hy
    · simp only [List.mem_cons, List.not_mem_nil, or_false] at hy
      rcases hy with rfl | rfl | rfl | rfl <;> (simp only [ThOk]; omega)
    · exact fok y hy
  have erow : jB (([Th.t w, Th.t n, Th.n lo, Th.n hi] ++ (fillT fl).map Th.t).map thT) = jB (stepWs ⟨w, n, lo, hi, fl, us, sec⟩) := by cases fl <;> rfl
  rw [erow]
  generalize hrw : jB (stepWs ⟨w, n, lo, hi, fl, us, sec⟩) = z0
  have g4 := (g2.trans g3).trans (same_new nrl (.lst [.str z0]))
  have e4 : upd H3 rl (.lst [.str z0]) rl = some (.lst ([z0].map V.str)) := upd_same
  have nrl0 := (g2.trans g3).free nrl
  change L2.tSeq _ _ _ [some (.ref x), some (.ref l), some (.ref rl)] _
  generalize upd H3 rl (.lst [.str z0]) = H4 at g4 e4 ⊢
  have ex4 := g4 _ _ ex
  have ub : UBd us := bd.us
  refine ⟨_, rfl, .inl ⟨rfl, _, SqL.of e4⟩, _, rfl, x, C, dx, ff, _, rfl, ex4, sc0.cl, sc0.name, sf.name, _, rfl, x, C, dx, ff, _, rfl, ex4, sc0.cl, sc0.uses, sf.uses, (Str.ofString "with"), n, u, us, rfl, hu.same g4, ub, (by decide), nl12, fun l5 H5 g5 nl5 e5 => ?_⟩
  have lub := ub.1
  refine ⟨rl, l5, _, _, rfl, rfl, g5 _ _ e4, e5, (by simp; omega), ?_⟩
  have g6 := sUpd (g4.trans g5) nrl0 (.lst ([z0].map V.str ++ (us.map fun u => jB (useWs "with" n u)).map V.str))
  have e6 : upd H5 rl (.lst ([z0].map V.str ++ (us.map fun u => jB (useWs "with" n u)).map V.str)) rl = some (.lst ((z0 :: us.map fun u => jB (useWs "with" n u)).map V.str)) := upd_same
  generalize upd H5 rl (.lst ([z0].map V.str ++ (us.map fun u => jB (useWs "with" n u)).map V.str)) = H6 at g6 e6 ⊢
  have ex6 := g6 _ _ ex
  have hs6 := hs.same g6
  obtain ⟨rs, hrs⟩ : ∃ rs : List Str, rs = z0 :: us.map fun u => jB (useWs "with" n u) := ⟨_, rfl⟩
  rw [← hrs] at e6
  have lrs : rs.length ≤ 13 := by rw [hrs]; simp; omega
  subst hrw
  match sec, hs6, bd.sec, q with
  | none, hs6, _, q =>
    have hs6 : sv = .non := hs6
    subst hs6
    refine ⟨_, rfl, x, C, dx, ff, _, rfl, ex6, sc0.cl, sc0.second, sf.second, rfl, _, rfl, nF rfl ⟨_, rfl, q rl _ g6 nrl0 ?_⟩⟩
    rw [e6, hrs]
    simp [stepRows, secRows]
  | some (lo2, hi2, us2), ⟨t2, l2, e, et2, hu2⟩, bs, q =>
    subst e
    obtain ⟨⟨k1, k2, k3⟩, ub2⟩ := bs _ rfl
    dsimp only at k1 k2 k3 ub2
    have lub2 := ub2.1
    refine ⟨_, rfl, x, C, dx, ff, _, rfl, ex6, sc0.cl, sc0.second, sf.second, rfl, _, rfl, nT (fun z => nomatch z) ?_⟩
    refine ⟨_, rfl, .inl ⟨rfl, _, SqL.of e6⟩, _, rfl, x, C, dx, ff, _, rfl, ex6, sc0.cl, sc0.name, sf.name, _, rfl, x, C, dx, ff, _, rfl, ex6, sc0.cl, sc0.second, sf.second, t2, _, _, _, rfl, rfl, SqT.of et2, rfl, _, rfl, x, C, dx, ff, _, rfl, ex6, sc0.cl, sc0.second, sf.second, t2, _, _, _, rfl, rfl, SqT.of et2, rfl, (by show 4 ≤ sizeLine; decide), fun d nd => ?_⟩
    have g7 := same_new nd (.lst [.str "or", .str n, vN lo2, vN hi2])
    refine ⟨d, [.t "or", .t n, .n lo2, .n hi2], rfl, upd_same, (by show 4 ≤ 20; decide), (fun y hy => ?_), fun H8 g8 => ?_⟩
    · have : (Str.ofString "or").length = 2 := by decide
      simp only [List.mem_cons, List.not_mem_nil, or_false] at hy
      rcases hy with rfl | rfl | rfl | rfl <;> (simp only [ThOk]; omega)
    have g68 := g7.trans g8
    rw [show jB ([Th.t "or", Th.t n, Th.n lo2, Th.n hi2].map thT) = jB (secWs n lo2 hi2) from rfl]
    refine ⟨rl, _, _, rfl, rfl, g68 _ _ e6, (by simp; omega), ?_⟩
    have e9 : upd H8 rl (.lst (rs.map V.str ++ [.str (jB (secWs n lo2 hi2))])) rl = some (.lst ((rs ++ [jB (secWs n lo2 hi2)]).map V.str)) := by rw [upd_same, List.map_append]; rfl
    have g9 := sUpd (g6.trans g68) nrl0 (.lst (rs.map V.str ++ [.str (jB (secWs n lo2 hi2))]))
    have ed : H6 d = none := nd
    have g9' : ∀ {b : Addr} {o : HO}, H6 b = some o → b ≠ rl → upd H8 rl (.lst (rs.map V.str ++ [.str (jB (secWs n lo2 hi2))])) b = some o := fun hb hn => by rw [upd_ne hn]; exact g68 _ _ hb
    have exl : x ≠ rl := fun z => by rw [z, e6] at ex6; cases ex6
    have etl : t2 ≠ rl := fun z => by rw [z, e6] at et2; cases et2
    try dsimp only [gName, tNext]
    have ex9 := g9' ex6 exl
    have et9 := g9' et2 etl
    have hu9 := (hs.same g9)
    generalize upd H8 rl (.lst (rs.map V.str ++ [.str (jB (secWs n lo2 hi2))])) = H9 at e9 g9 ex9 et9 hu9 ⊢
    obtain ⟨t3, l3, e, et3, hu3⟩ := hu9
    cases e
    rw [et3] at et9
    cases et9
    refine ⟨_, rfl, .inl ⟨rfl, _, SqL.of e9⟩, _, rfl, x, C, dx, ff, _, rfl, ex9, sc0.cl, sc0.name, sf.name, _, rfl, x, C, dx, ff, _, rfl, ex9, sc0.cl, sc0.second, sf.second, t2, _, _, _, rfl, rfl, SqT.of et3, rfl, (Str.ofString "orwith"), n, l2, us2, rfl, hu3, ub2, (by decide), nl12, fun l5 H5 g5 nl5 e5 => ?_⟩
    refine ⟨rl, l5, _, _, rfl, rfl, g5 _ _ e9, e5, (by simp; omega), ?_⟩
    refine ⟨_, rfl, q rl _ (sUpd (g9.trans g5) nrl0 _) nrl0 ?_⟩
    rw [upd_same, hrs]
    simp [stepRows, secRows]

set_option maxHeartbeats 4000000 in
theorem okrow_of_link {dV : Value} (F : FunD K "row_of_link" "row_of_link" srow_of_link dV f fd) (Drow_of : Dx P w K mg base CX0 1 "row_of" ["things"] [] spRowOf) : FnOk P w K mg base CX0 2 f fd ["link", "steps"] (spLinkRow c_Cut c_Rest c_Warm) := by
  have sc : FnScope ["link", "steps", "things"] ["link", "steps"] (defScope srow_of_link) := scK (by decide +kernel)
  refine F.ok sc (fun vs H Q E h => ?_) (fun cdv A outer s H vs Q E hr h => ?_)
  · obtain ⟨_, _, _, _, rfl, _⟩ := h
    rfl
  obtain ⟨t, ls, ⟨w, a, b, tn⟩, ss, rfl, et, ⟨vs, el, r⟩, nms, ok, q⟩ := h
  refine ⟨_, (pss_cons (ps_set (i := 2) sc.nd rfl (Or.inl rfl) (@pe_lst _ _ _ _ (@pa_cons _ _ _ _ _ (pe_ix ix_tup (pv 0) pe_int (fun _ _ => rfl)) (@pa_cons _ _ _ _ _ (pe_fld (pe_ix ix_list (pv 1) (pe_ix ix_tup (pv 0) pe_int (fun _ _ => rfl)) (fun _ _ => rfl)) rfl) (@pa_cons _ _ _ _ _ (pe_fld (pe_ix ix_list (pv 1) (pe_ix ix_tup (pv 0) pe_int (fun _ _ => rfl)) (fun _ _ => rfl)) rfl) pa_nil rfl) rfl) rfl))) (pss_cons (ps_if (pt_cmpR op_eq (pe_ix ix_tup (pv 0) pe_int (fun _ _ => rfl)) pe_str (nomark _)) (pss_one (ps_expr (pe_bm PySem.F.plainAttrs_list PySem.F.slot_list_append PySem.F.type_list_append mt_append (pv 2) (@pa_cons _ _ _ _ _ (pe_ix ix_tup (pv 0) pe_int (fun _ _ => rfl)) pa_nil rfl)))) pss_nil) (pss_one (ps_ret (pcall0 Drow_of hr (by decide) rfl (@pa_cons _ _ _ _ _ (pv 2) pa_nil rfl)))))), ?_⟩
  try dsimp only [cxK]
  have sl : sizeLine = 16777216 := sizeLine_eq
  have scOf : ∀ {w : Str} {C : Addr}, ClsOf c_Cut c_Rest c_Warm w C → StepC K C := fun h => by
    rcases h with ⟨_, rfl⟩ | ⟨_, rfl⟩ | ⟨_, rfl⟩
    · exact ⟨B.cl_Cut, B.na_Cut_name, B.na_Cut_least, B.na_Cut_most, B.na_Cut_uses, B.na_Cut_second⟩
    · exact ⟨B.cl_Rest, B.na_Rest_name, B.na_Rest_least, B.na_Rest_most, B.na_Rest_uses, B.na_Rest_second⟩
    · exact ⟨B.cl_Warm, B.na_Warm_name, B.na_Warm_least, B.na_Warm_most, B.na_Warm_uses, B.na_Warm_second⟩
  have la := ok.a
  have lb := ok.b
  dsimp only at la lb
  have ha := List.getElem?_eq_getElem la
  have hb := List.getElem?_eq_getElem lb
  have na := (nms _ (List.getElem_mem la)).len
  have nb := (nms _ (List.getElem_mem lb)).len
  have el3 := ok.w.len
  have t5 : tn ≤ 100000 := ok.t
  unfold linkT at q
  dsimp only at q el3
  rw [nmAt_some ha, nmAt_some hb] at q
  obtain ⟨va, hva, xa, rfl, Ca, dxa, ua, sva, ffa, exa, hCa, sfa, _⟩ := r.get ha
  obtain ⟨vb, hvb, xb, rfl, Cb, dxb, ub, svb, ffb, exb, hCb, sfb, _⟩ := r.get hb
  refine ⟨_, rfl, t, _, _, _, rfl, rfl, SqT.of et, rfl, _, rfl, _, rfl, t, _, _, _, rfl, rfl, SqT.of et, rfl, ls, _, _, _, rfl, rfl, SqL.of el, (atI_nat hva), xa, Ca, dxa, ffa, _, rfl, exa, (scOf hCa).cl, (scOf hCa).name, sfa.name, _, rfl, _, rfl, t, _, _, _, rfl, rfl, SqT.of et, rfl, ls, _, _, _, rfl, rfl, SqL.of el, (atI_nat hvb), xb, Cb, dxb, ffb, _, rfl, exb, (scOf hCb).cl, (scOf hCb).name, sfb.name, (by show 3 ≤ sizeLine; decide), fun l nl => ?_⟩
  generalize ss[a].n = za at *
  generalize ss[b].n = zb at *
  have g1 := same_new nl (.lst [.str w, .str za, .str zb])
  have e1 : upd H l (.lst [.str w, .str za, .str zb]) l = some (.lst [.str w, .str za, .str zb]) := upd_same
  try dsimp only [gName, tNext]
  refine cut (fun σ H' => σ = [some (.ref t), some (.ref ls), some (.ref l)] ∧ Same H H' ∧ H' l = some (.lst (([Th.t w, .t za, .t zb] ++ if w = "within" then [Th.n tn] else []).map thV))) (fun N hN => ?_) ?_
  · refine ⟨_, rfl, t, _, _, _, rfl, rfl, SqT.of (g1 _ _ et), rfl, rfl, _, rfl, eS2 (fun e => ?_) fun e => hN _ _ ⟨rfl, g1, ?_⟩⟩
    · refine ⟨_, rfl, .inl ⟨rfl, _, SqL.of e1⟩, _, rfl, t, _, _, _, rfl, rfl, SqT.of (g1 _ _ et), rfl, l, _, _, rfl, rfl, e1, (by show 3 < sizeLine; decide), hN _ _ ⟨rfl, sUpd g1 nl _, ?_⟩⟩
      rw [upd_same, if_pos e]
      rfl
    · rw [if_neg e]
      exact e1
  rintro σ H2 ⟨rfl, g2, e2⟩
  refine ⟨_, rfl, l, _, rfl, e2, (by split <;> simp), (fun y hy => ?_), fun H3 g3 => ?_⟩
  · rcases List.mem_append.mp hy with hy | hy
    · simp only [List.mem_cons, List.not_mem_nil, or_false] at hy
      rcases hy with rfl | rfl | rfl <;> (simp only [ThOk]; omega)
    · split at hy
      · rw [List.mem_singleton.mp hy]
        simp only [ThOk]
        omega
      · simp at hy
  · have e4 : ([Th.t w, .t za, .t zb] ++ if w = "within" then [Th.n tn] else []).map thT = linkWs w za zb tn := by
      unfold linkWs
      split <;> rfl
    rw [e4]
    exact q _ (g2.trans g3)

set_option maxHeartbeats 4000000 in
theorem okrecipe_text {dV : Value} (F : FunD K "recipe_text" "recipe_text" srecipe_text dV f fd) (Damount_text : Dx P w K mg base CX0 2 "amount_text" ["amount"] [] (spAmt K)) (Drow_of : Dx P w K mg base CX0 1 "row_of" ["things"] [] spRowOf) (Drows_of_step : Dx P w K mg base CX0 3 "rows_of_step" ["step"] [] (spStepRows c_Cut c_Rest c_Warm)) (Drow_of_link : Dx P w K mg base CX0 2 "row_of_link" ["link", "steps"] [] (spLinkRow c_Cut c_Rest c_Warm)) : FnOk P w K mg base CX0 4 f fd ["recipe"] (spRecText c_Cut c_Rest c_Warm c_Recipe) := by
  have sc : FnScope ["recipe", "rows", "take", "step", "link"] ["recipe"] (defScope srecipe_text) := scK (by decide +kernel)
  refine F.ok sc (fun vs H Q E h => ?_) (fun cdv A outer s H vs Q E hr h => ?_)
  · obtain ⟨_, _, _, _, rfl, _⟩ := h
    rfl
  obtain ⟨r, n, p, M, rfl, ⟨lt, ls, lk, ⟨dx, er⟩, ⟨vt, et, rt⟩, ⟨vs, es, rs⟩, ⟨vk, ek, rk⟩⟩, bd, nm, p1, q⟩ := h
  refine ⟨_, (pss_cons (ps_set (i := 1) sc.nd rfl (Or.inl rfl) (@pe_lst _ _ _ _ (@pa_cons _ _ _ _ _ (pcall0 Drow_of hr (by decide) rfl (@pa_cons _ _ _ _ _ (@pe_lst _ _ _ _ (@pa_cons _ _ _ _ _ pe_str (@pa_cons _ _ _ _ _ (pe_fld (pv 0) rfl) (@pa_cons _ _ _ _ _ (pe_fld (pv 0) rfl) pa_nil rfl) rfl) rfl)) pa_nil rfl)) pa_nil rfl))) (pss_cons (ps_for PassesOwn.never rfl (pi_list (pe_fld (pv 0) rfl)) (pg_name (i := 2) sc.nd rfl (Or.inl rfl)) (pss_one (ps_expr (pe_bm PySem.F.plainAttrs_list PySem.F.slot_list_append PySem.F.type_list_append mt_append (pv 1) (@pa_cons _ _ _ _ _ (pcall0 Drow_of hr (by decide) rfl (@pa_cons _ _ _ _ _ (@pe_lst _ _ _ _ (@pa_cons _ _ _ _ _ pe_str (@pa_cons _ _ _ _ _ (pe_ix ix_tup (pv 2) pe_int (fun _ _ => rfl)) (@pa_cons _ _ _ _ _ (pcall0 Damount_text hr (by decide) rfl (@pa_cons _ _ _ _ _ (pe_ix ix_tup (pv 2) pe_int (fun _ _ => rfl)) pa_nil rfl)) pa_nil rfl) rfl) rfl)) pa_nil rfl)) pa_nil rfl))))) (pss_cons (ps_for PassesOwn.never rfl (pi_list (pe_fld (pv 0) rfl)) (pg_name (i := 3) sc.nd rfl (Or.inl rfl)) (pss_one (ps_expr (pe_bm PySem.F.plainAttrs_list PySem.F.slot_list_extend PySem.F.type_list_extend mt_extend (pv 1) (@pa_cons _ _ _ _ _ (pcall0 Drows_of_step hr (by decide) rfl (@pa_cons _ _ _ _ _ (pv 3) pa_nil rfl)) pa_nil rfl))))) (pss_cons (ps_for PassesOwn.never rfl (pi_list (pe_fld (pv 0) rfl)) (pg_name (i := 4) sc.nd rfl (Or.inl rfl)) (pss_one (ps_expr (pe_bm PySem.F.plainAttrs_list PySem.F.slot_list_append PySem.F.type_list_append mt_append (pv 1) (@pa_cons _ _ _ _ _ (pcall0 Drow_of_link hr (by decide) rfl (@pa_cons _ _ _ _ _ (pv 4) (@pa_cons _ _ _ _ _ (pe_fld (pv 0) rfl) pa_nil rfl) rfl)) pa_nil rfl))))) (pss_one (ps_ret (pe_bm PySem.F.plainAttrs_str PySem.F.slot_str_join PySem.F.type_str_join mt_join pe_str (@pa_cons _ _ _ _ _ (pv 1) pa_nil rfl)))))))), ?_⟩
  try dsimp only [cxK]
  have sl : sizeLine = 16777216 := sizeLine_eq
  have lt12 := rt.1
  have ls12 := rs.1
  have lk12 := rk.1
  have t12 := bd.t12
  have s12 := bd.s12
  have k24 := bd.k24
  have nlen := nm.len
  have hl4 := headT_len nm p1
  have rlen := (recRows_len bd hl4).2
  rw [List.length_append, List.length_append, List.length_cons, List.length_map, List.length_map] at rlen
  refine ⟨_, rfl, r, _, dx, _, _, rfl, er, B.cl_Recipe, B.na_Recipe_name, recF_f.1, _, rfl, r, _, dx, _, _, rfl, er, B.cl_Recipe, B.na_Recipe_plates, recF_f.2.1, (by show 3 ≤ sizeLine; decide), fun d nd => ?_⟩
  have g1 := same_new nd (.lst [.str "dish", .str n, vN p])
  refine ⟨d, [.t "dish", .t n, .n p], rfl, upd_same, (by show 3 ≤ 20; decide), (fun y hy => ?_), fun H2 g2 => ⟨(by show 1 ≤ sizeLine; decide), fun rl nrl => ?_⟩⟩
  · have : (Str.ofString "dish").length = 4 := by decide
    simp only [List.mem_cons, List.not_mem_nil, or_false] at hy
    rcases hy with rfl | rfl | rfl <;> (simp only [ThOk]; omega)
  rw [show jB ([Th.t "dish", Th.t n, Th.n p].map thT) = headT n p from rfl]
  have g3 := (g1.trans g2).trans (same_new nrl (.lst [.str (headT n p)]))
  have e3 : upd H2 rl (.lst [.str (headT n p)]) rl = some (.lst ([headT n p].map V.str)) := upd_same
  have nrl0 := (g1.trans g2).free nrl
  generalize upd H2 rl (.lst [.str (headT n p)]) = H3 at g3 e3 ⊢
  have rne : ∀ {b : Addr} {o : HO}, H b = some o → b ≠ rl := fun hb z => by rw [z, nrl0] at hb; cases hb
  clear g1 g2 nd nrl
  try dsimp only [gName, tNext]
  refine cut (fun σ H' => (∃ o2 : Option V, σ = [some (.ref r), some (.ref rl), o2, none, none]) ∧ Same H H' ∧ H' rl = some (.lst ((headT n p :: M.takes.map takeT).map V.str))) (fun N hN => ?_) ?_
  · refine ⟨_, rfl, r, _, dx, _, _, rfl, (g3 _ _ er), B.cl_Recipe, B.na_Recipe_takes, recF_f.2.2.1, lt, rfl, ⟨_, SqL.of (g3 _ _ et)⟩, for_list (xs := vt) (fun i σ H' => (∃ o2 : Option V, σ = [some (.ref r), some (.ref rl), o2, none, none]) ∧ Same H H' ∧ H' rl = some (.lst ((headT n p :: (M.takes.take i).map takeT).map V.str))) ⟨⟨none, rfl⟩, g3, e3⟩ (fun i σ H' _ h => SqL.of (h.2.1 _ _ et)) ?_ ?_⟩
    · rintro i y σ H4 hy ⟨⟨o2, rfl⟩, g4, e4⟩
      obtain ⟨x, hx, t, b, rfl, _, _, et', eb⟩ := rt.at_ hy
      obtain ⟨nx, ag⟩ := bd.ts x (List.mem_of_getElem? hx)
      have il := lt_of_at hx
      have xl := nx.len
      have al := amT_len ag
      refine ⟨_, rfl, .inl ⟨rfl, _, SqL.of e4⟩, _, rfl, t, _, _, _, rfl, rfl, SqT.of (g4 _ _ et'), rfl, _, rfl, t, _, _, _, rfl, rfl, SqT.of (g4 _ _ et'), rfl, b, x.2.1, x.2.2, rfl, ⟨SqT.of (g4 _ _ eb), by have := ag.rd.pos; omega, (bdN (k := 140) (Nat.lt_trans ag.bp (by decide))).mono (by decide), (bdN (k := 140) (Nat.lt_trans ag.bq (by decide))).mono (by decide)⟩, (by show 3 ≤ sizeLine; decide), fun d nd => ?_⟩
      have g5 := same_new nd (.lst [.str "take", .str x.1, .str (mkS (amtL x.2.1 x.2.2))])
      refine ⟨d, [.t "take", .t x.1, .t (amT x.2)], rfl, upd_same, (by show 3 ≤ 20; decide), (fun y hy => ?_), fun H6 g6 => ⟨rl, _, _, rfl, rfl, g6 _ _ (g5 _ _ e4), (by rw [List.length_map, List.length_cons, List.length_map, List.length_take]; omega), ⟨_, rfl⟩, sUpd ((g4.trans g5).trans g6) nrl0 _, ?_⟩⟩
      · have : (Str.ofString "take").length = 4 := by decide
        simp only [List.mem_cons, List.not_mem_nil, or_false] at hy
        rcases hy with rfl | rfl | rfl <;> (simp only [ThOk]; omega)
      · rw [upd_same, mpR hx, strsR]
        rfl
    · rintro σ H4 ⟨h1, h2, h3⟩
      rw [lt12, List.take_length] at h3
      exact hN _ _ ⟨h1, h2, h3⟩
  rintro σ H4 ⟨⟨o2, rfl⟩, g4, e4⟩
  clear e3 g3
  refine cut (fun σ H' => (∃ o2 o3 : Option V, σ = [some (.ref r), some (.ref rl), o2, o3, none]) ∧ Same H H' ∧ H' rl = some (.lst ((headT n p :: M.takes.map takeT ++ (M.steps.map stepRows).flatten).map V.str))) (fun N hN => ?_) ?_
  · refine ⟨_, rfl, r, _, dx, _, _, rfl, (g4 _ _ er), B.cl_Recipe, B.na_Recipe_steps, recF_f.2.2.2.1, ls, rfl, ⟨_, SqL.of (g4 _ _ es)⟩, for_list (xs := vs) (fun i σ H' => (∃ o2 o3 : Option V, σ = [some (.ref r), some (.ref rl), o2, o3, none]) ∧ Same H H' ∧ H' rl = some (.lst ((headT n p :: M.takes.map takeT ++ ((M.steps.take i).map stepRows).flatten).map V.str))) ⟨⟨_, none, rfl⟩, g4, by rw [List.take_zero, List.map_nil, List.flatten_nil, List.append_nil]; exact e4⟩ (fun i σ H' _ h => SqL.of (h.2.1 _ _ es)) ?_ ?_⟩
    · rintro i y σ H5 hy ⟨⟨o2, o3, rfl⟩, g5, e5⟩
      obtain ⟨x, hx, xa, rfl, so⟩ := rs.at_ hy
      have sb := bd.ss x (List.mem_of_getElem? hx)
      have fl := (flatR_len (ss := M.steps.take i) fun s hs => bd.ss s (List.mem_of_mem_take hs)).2
      have sr := (stepRows_len sb).2
      rw [List.length_take] at fl
      refine ⟨_, rfl, .inl ⟨rfl, _, SqL.of e5⟩, _, rfl, xa, x, rfl, so.same g5, sb, fun l H6 g6 nl e6 => ⟨rl, l, _, _, rfl, rfl, g6 _ _ e5, e6, (by rw [List.length_map, List.length_map, List.length_append, List.length_cons, List.length_map]; omega), ⟨_, _, rfl⟩, sUpd (g5.trans g6) nrl0 _, ?_⟩⟩
      rw [upd_same, flR hx, strs_cat, List.append_assoc]
    · rintro σ H5 ⟨h1, h2, h3⟩
      rw [ls12, List.take_length] at h3
      exact hN _ _ ⟨h1, h2, h3⟩
  rintro σ H5 ⟨⟨o2, o3, rfl⟩, g5, e5⟩
  clear e4 g4
  refine cut (fun σ H' => (∃ o2 o3 o4 : Option V, σ = [some (.ref r), some (.ref rl), o2, o3, o4]) ∧ Same H H' ∧ H' rl = some (.lst ((headT n p :: M.takes.map takeT ++ (M.steps.map stepRows).flatten ++ M.links.map (linkT M.steps)).map V.str))) (fun N hN => ?_) ?_
  · refine ⟨_, rfl, r, _, dx, _, _, rfl, (g5 _ _ er), B.cl_Recipe, B.na_Recipe_links, recF_f.2.2.2.2, lk, rfl, ⟨_, SqL.of (g5 _ _ ek)⟩, for_list (xs := vk) (fun i σ H' => (∃ o2 o3 o4 : Option V, σ = [some (.ref r), some (.ref rl), o2, o3, o4]) ∧ Same H H' ∧ H' rl = some (.lst ((headT n p :: M.takes.map takeT ++ (M.steps.map stepRows).flatten ++ (M.links.take i).map (linkT M.steps)).map V.str))) ⟨⟨_, _, none, rfl⟩, g5, by rw [List.take_zero, List.map_nil, List.append_nil]; exact e5⟩ (fun i σ H' _ h => SqL.of (h.2.1 _ _ ek)) ?_ ?_⟩
    · rintro i y σ H6 hy ⟨⟨o2, o3, o4, rfl⟩, g6, e6⟩
      obtain ⟨x, hx, t, rfl, _, et'⟩ := rk.at_ hy
      have il := lt_of_at hx
      refine ⟨_, rfl, .inl ⟨rfl, _, SqL.of e6⟩, _, rfl, _, rfl, r, _, dx, _, _, rfl, (g6 _ _ er), B.cl_Recipe, B.na_Recipe_steps, recF_f.2.2.2.1, t, ls, x, M.steps, rfl, g6 _ _ et', ⟨vs, g6 _ _ es, rs.steps g6⟩, (fun s hs => (bd.ss s hs).nm), bd.ks x (List.mem_of_getElem? hx), fun H7 g7 => ⟨rl, _, _, rfl, rfl, g7 _ _ e6, (by rw [List.length_map, List.length_append, List.length_append, List.length_cons, List.length_map, List.length_map, List.length_take]; omega), ⟨_, _, _, rfl⟩, sUpd (g6.trans g7) nrl0 _, ?_⟩⟩
      rw [upd_same, mpR hx, strsR, List.append_assoc]
    · rintro σ H6 ⟨h1, h2, h3⟩
      rw [lk12, List.take_length] at h3
      exact hN _ _ ⟨h1, h2, h3⟩
  rintro σ H6 ⟨⟨o2, o3, o4, rfl⟩, g6, e6⟩
  exact ⟨rfl, _, rfl, _, rl, _, rfl, rfl, SqL.of e6, (by decide), recT_sum bd hl4, q _ g6⟩

set_option maxHeartbeats 4000000 in
theorem ok_law_cell_at {dV : Value} (F : FunD K "_law_cell_at" "_law_cell_at" s_law_cell_at dV f fd)  : FnOk P w K mg base CX0 1 f fd ["_law_script", "_law_k"] (spCell K) := by
  have sc : FnScope ["_law_script", "_law_k"] ["_law_script", "_law_k"] (defScope s_law_cell_at) := scK (by decide +kernel)
  refine F.ok sc (fun vs H Q E h => ?_) (fun cdv A outer s H vs Q E hr h => ?_)
  · obtain ⟨_, _, _, rfl, _⟩ := h
    rfl
  obtain ⟨a, ns, k, rfl, hS, h0, q⟩ := h
  refine ⟨_, (pss_cons (ps_if (pt_cmpR op_lt (pv 1) (pe_callB call_len_seq rfl B.b_len boot_len (@pa_cons _ _ _ _ _ (pv 0) pa_nil rfl)) (nomark _)) (pss_one (ps_ret (pe_ix ix_list (pv 0) (pv 1) (fun _ _ => rfl)))) pss_nil) (pss_one (ps_ret pe_int))), ?_⟩
  try dsimp only [cxK]
  refine ⟨_, rfl, _, rfl, a, _, rfl, .inl hS, _, _, rfl, rfl, _, rfl, d2 (fun c => ?_) (fun c => ?_)⟩
  · obtain ⟨v, hv⟩ := cell_ok h0 c
    exact ⟨_, rfl, _, rfl, a, _, _, _, rfl, rfl, hS, hv, q v⟩
  · exact q 0

set_option maxHeartbeats 4000000 in
theorem ok_law_whole {dV : Value} (F : FunD K "_law_whole" "_law_whole" s_law_whole dV f fd)  : FnOk P w K mg base CX0 1 f fd ["_law_found"] spWhole := by
  have sc : FnScope ["_law_found"] ["_law_found"] (defScope s_law_whole) := scK (by decide +kernel)
  refine F.ok sc (fun vs H Q E h => ?_) (fun cdv A outer s H vs Q E hr h => ?_)
  · obtain ⟨_, rfl, _⟩ := h
    rfl
  obtain ⟨v, rfl, q⟩ := h
  refine ⟨_, (pss_one (ps_ret (pe_and (pe_callB call_isi rfl B.b_isinstance boot_isinstance (@pa_cons _ _ _ _ _ (pv 0) (@pa_cons _ _ _ _ _ (pe_bltn (v := .ty "int") rfl B.b_int boot_int rfl) pa_nil rfl) rfl)) (pe_one (pe_not (pe_callB call_isi rfl B.b_isinstance boot_isinstance (@pa_cons _ _ _ _ _ (pv 0) (@pa_cons _ _ _ _ _ (pe_bltn (v := .ty "bool") rfl B.b_bool boot_bool rfl) pa_nil rfl) rfl))))))), ?_⟩
  try dsimp only [cxK]
  refine ⟨_, rfl, _, _, _, rfl, .ii v, _, rfl, iteT ⟨_, rfl, _, _, _, rfl, .ib v, _, rfl, q⟩⟩

set_option maxHeartbeats 4000000 in
theorem ok_law_common {dV : Value} (F : FunD K "_law_common" "_law_common" s_law_common dV f fd)  : FnOk P w K mg base CX0 1 f fd ["_law_one", "_law_other"] spDivP := by
  have sc : FnScope ["_law_one", "_law_other", "_law_rest"] ["_law_one", "_law_other"] (defScope s_law_common) := scK (by decide +kernel)
  refine F.ok sc (fun vs H Q E h => ?_) (fun cdv A outer s H vs Q E hr h => ?_)
  · obtain ⟨_, _, rfl, _⟩ := h
    rfl
  obtain ⟨a, b, rfl, a0, b0, q⟩ := h
  refine ⟨_, (pss_cons (ps_while PassesOwn.never (pt_cmpR op_gt (pv 1) pe_int (nomark _)) (pss_cons (ps_set (i := 2) sc.nd rfl (Or.inl rfl) (pe_op op_modN (pv 0) (pv 1))) (pss_cons (ps_set (i := 0) sc.nd rfl (Or.inl rfl) (pv 1)) (pss_one (ps_set (i := 1) sc.nd rfl (Or.inl rfl) (pv 2)))))) (pss_one (ps_ret (pv 0)))), ?_⟩
  try dsimp only [cxK]
  refine while_by (fun σ H' => H' = H ∧ ∃ (g l : Int) (r : Option V), σ = [some (.int g), some (.int l), r] ∧ 0 ≤ g ∧ 0 ≤ l ∧ gcdI g l = gcdI a b)
    (fun (σ : L2.St) (_ : Hp) => match σ[1]? with | some (some (V.int l)) => l.toNat | _ => 0) ⟨rfl, _, _, _, rfl, a0, b0, rfl⟩ ?_ (fun σ H Q Q' m ⟨v, e, i, j, e1, e2, k, hk, h2⟩ => ⟨v, e, i, j, e1, e2, k, hk, m _ _ h2⟩)
  rintro σ H' ⟨rfl, g, l, r, rfl, g0, l0, inv⟩
  refine ⟨_, rfl, _, _, rfl, rfl, _, rfl, d2 (fun c => ?_) (fun c => ?_)⟩
  · have lp : 0 < l := c
    refine ⟨_, rfl, _, rfl, _, _, rfl, rfl, (by omega), _, rfl, _, rfl, ⟨rfl, l, g.fmod l, _, rfl, l0, Int.fmod_nonneg_of_pos g lp, ?_⟩, ?_⟩
    · rw [gcdI_fmod lp]; exact inv
    · have h1 := Int.fmod_lt_of_pos g lp
      have h2 := Int.fmod_nonneg_of_pos g lp
      show (g.fmod l).toNat < l.toNat
      omega
  · have c : l = 0 := by omega
    subst c
    rw [gcdI_zero g0] at inv
    rw [← inv] at q
    exact ⟨_, rfl, q⟩

set_option maxHeartbeats 4000000 in
theorem ok_law_stream {dV : Value} (F : FunD K "_law_stream" "_law_stream" s_law_stream dV f fd)  : FnOk P w K mg base CX0 1 f fd ["_law_cell", "_law_many"] spStream := by
  have sc : FnScope ["_law_cell", "_law_many", "_law_number", "_law_found", "_law_k"] ["_law_cell", "_law_many"] (defScope s_law_stream) := scK (by decide +kernel)
  refine F.ok sc (fun vs H Q E h => ?_) (fun cdv A outer s H vs Q E hr h => ?_)
  · obtain ⟨_, _, rfl, _⟩ := h
    rfl
  obtain ⟨c, m, rfl, m0, m1, q⟩ := h
  have s4 : (5000 : Nat) ≤ sizeLine := by decide
  refine ⟨_, (pss_cons (ps_set (i := 2) sc.nd rfl (Or.inl rfl) (pe_op op_modN (pv 0) pe_int)) (pss_cons (ps_set (i := 3) sc.nd rfl (Or.inl rfl) (@pe_lst _ _ _ _ pa_nil)) (pss_cons (ps_for PassesOwn.never rfl (pi_range1 rfl B.b_range (@pa_cons _ _ _ _ _ (pe_op op_add (pv 1) pe_int) pa_nil rfl)) (pg_name (i := 4) sc.nd rfl (Or.inl rfl)) (pss_cons (ps_set (i := 2) sc.nd rfl (Or.inl rfl) (pe_op op_modN (pe_op op_add (pe_op op_add (pe_op op_mulB (pv 2) pe_int) pe_int) (pv 4)) pe_int)) (pss_one (ps_expr (pe_bm PySem.F.plainAttrs_list PySem.F.slot_list_append PySem.F.type_list_append mt_append (pv 3) (@pa_cons _ _ _ _ _ (pe_op op_fdivB (pv 2) pe_int) pa_nil rfl)))))) (pss_one (ps_ret (pe_slice sl_list (pv 3) (po_some pe_int) po_none)))))), ?_⟩
  try dsimp only [cxK]
  refine ⟨_, rfl, _, _, rfl, rfl, (by show (2147483647 : Int) ≠ 0; decide), ?_⟩
  have a0 := Int.fmod_nonneg_of_pos c (show (0 : Int) < 2147483647 by decide)
  have a1 := Int.fmod_lt_of_pos c (show (0 : Int) < 2147483647 by decide)
  refine ⟨(by show 0 ≤ sizeLine; decide), fun l nl => ?_⟩
  try dsimp only [gName, tNext]
  refine cut (fun σ H' => ∃ (xs : List Int) (n : Int) (o4 : Option V), σ = [some (.int c), some (.int m), some (.int n), some (.ref l), o4] ∧ Same H H' ∧ H' l = some (.lst (xs.map V.int)) ∧ (xs.length : Int) = m + 1 ∧ ∀ x ∈ xs, 0 ≤ x ∧ x < 2 ^ 31) (fun N hN => ?_) ?_
  · refine ⟨_, rfl, _, _, rfl, rfl, _, rfl, (by omega), (by omega), for_range (fun i σ H' => ∃ (xs : List Int) (n : Int) (o4 : Option V), σ = [some (.int c), some (.int m), some (.int n), some (.ref l), o4] ∧ Same H H' ∧ H' l = some (.lst (xs.map V.int)) ∧ xs.length = i ∧ (∀ x ∈ xs, 0 ≤ x ∧ x < 2 ^ 31) ∧ 0 ≤ n ∧ n < 2147483647) ⟨[], _, none, rfl, same_new nl _, upd_same, rfl, by simp, a0, a1⟩ (fun i σ H2 hi hP => ?_) (fun σ H2 hP => ?_)⟩
    · obtain ⟨xs, n, o4, rfl, g, e, hl, hx, n0, n1⟩ := hP
      have nb : Bd 31 n := by unfold Bd; omega
      refine ⟨_, rfl, _, _, rfl, rfl, nb.ok (show Bd 16 48271 by unfold Bd; decide), _, _, rfl, rfl, _, rfl, _, _, rfl, rfl, _, _, rfl, rfl, (by show (2147483647 : Int) ≠ 0; decide), ?_⟩
      have b0 := Int.fmod_nonneg_of_pos (n * 48271 + 7919 + (0 + (i : Int))) (show (0 : Int) < 2147483647 by decide)
      have b1 := Int.fmod_lt_of_pos (n * 48271 + 7919 + (0 + (i : Int))) (show (0 : Int) < 2147483647 by decide)
      refine ⟨_, rfl, .inl ⟨rfl, _, SqL.of e⟩, _, rfl, _, _, rfl, rfl, ⟨by decide, PyProof.noPylong_small (by decide)⟩, l, _, _, rfl, rfl, e, (by rw [List.length_map]; omega), ?_⟩
      refine ⟨xs ++ [((n * 48271 + 7919 + (0 + (i : Int))).fmod 2147483647).fdiv 1009], _, _, rfl, sUpd g nl _, by rw [upd_same, List.map_append]; rfl, by simp [hl], fun x hx' => ?_, b0, b1⟩
      rcases List.mem_append.mp hx' with k | k
      · exact hx x k
      · rw [List.mem_singleton] at k
        subst k
        rw [Int.fdiv_eq_ediv_of_nonneg _ (by decide)]
        omega
    · obtain ⟨xs, n, o4, rfl, g, e, hl, hx, n0, n1⟩ := hP
      exact hN _ _ ⟨xs, n, o4, rfl, g, e, by omega, hx⟩
  rintro σ H' ⟨xs, n, o4, rfl, g, e, hl, hx⟩
  refine ⟨_, rfl, _, rfl, l, _, rfl, SqL.of e, fun p hp => ?_⟩
  have ec : cutV (xs.map V.int) (some 1) none = (xs.drop 1).map V.int := by
    rw [cutV_one (by rw [List.length_map]; omega), List.map_drop]
  rw [ec]
  exact q p _ (xs.drop 1) (g.trans (same_new hp _)) upd_same (by rw [List.length_drop]; omega) (fun x hx' => hx x (List.mem_of_mem_drop hx'))

set_option maxHeartbeats 4000000 in
theorem ok_law_names {dV : Value} (F : FunD K "_law_names" "_law_names" s_law_names dV f fd) (D_law_stream : Dx P w K mg base CX0 1 "_law_stream" ["_law_cell", "_law_many"] [] spStream) : FnOk P w K mg base CX0 2 f fd ["_law_cell"] spNamesZ := by
  have sc : FnScope ["_law_cell", "_law_letters", "_law_xs", "_law_body", "_law_size", "_law_at", "_law_some", "_law_k", "_law_sign"] ["_law_cell"] (defScope s_law_names) := scK (by decide +kernel)
  refine F.ok sc (fun vs H Q E h => ?_) (fun cdv A outer s H vs Q E hr h => ?_)
  · obtain ⟨_, rfl, _⟩ := h
    rfl
  obtain ⟨c, rfl, q⟩ := h
  have s4 : (5000 : Nat) ≤ sizeLine := by decide
  refine ⟨_, (pss_cons (ps_set (i := 1) sc.nd rfl (Or.inr rfl) pe_str) (pss_cons (ps_set (i := 2) sc.nd rfl (Or.inl rfl) (pcall0 D_law_stream hr (by decide) rfl (@pa_cons _ _ _ _ _ (pv 0) (@pa_cons _ _ _ _ _ pe_int pa_nil rfl) rfl))) (pss_cons (ps_set (i := 3) sc.nd rfl (Or.inr rfl) (pe_bm PySem.F.plainAttrs_str PySem.F.slot_str_join PySem.F.type_str_join mt_join pe_str (@pa_cons _ _ _ _ _ (pe_comp (own := "_law_x") (ys := ["_law_letters"]) (js := [1]) rfl (cok (atc atn) (.cons rfl .nil) (by decide) rfl rfl rfl rfl rfl rfl rfl rfl) (pi_list (pe_slice sl_list (pv 2) po_none (po_some pe_int))) (fun C fp s H => (pe_ix ix_str (pv 1) (pe_op op_modN (pv 0) pe_int) (fun _ _ => rfl)))) pa_nil rfl))) (pss_cons (ps_set (i := 4) sc.nd rfl (Or.inl rfl) (pe_op op_add pe_int (pe_op op_modN (pe_ix ix_list (pv 2) pe_int (fun _ _ => rfl)) pe_int))) (pss_cons (ps_set (i := 5) sc.nd rfl (Or.inl rfl) (pe_op op_modN (pe_ix ix_list (pv 2) pe_int (fun _ _ => rfl)) (pv 4))) (pss_cons (ps_if (pt_cmpR op_eq (pe_op op_modN (pe_op op_fdivB (pe_ix ix_list (pv 2) pe_int (fun _ _ => rfl)) pe_int) pe_int) pe_int (nomark _)) (pss_one (ps_ret (pe_compH (hd := none) (own := "_law_k") (ys := ["_law_body"]) (js := [3]) hr.hd (cok (atc atn) (.cons rfl .nil) (by decide) rfl rfl rfl rfl rfl rfl rfl rfl) (pi_rangeH rfl B.b_range (@pa_cons _ _ _ _ _ pe_int pa_nil rfl)) (fun C fp s H => (pe_slice sl_str (pv 1) po_none (po_some (pe_op op_sub pe_int (pe_op op_modN (pe_op op_mulB pe_int (pv 0)) pe_int)))))))) pss_nil) (pss_cons (ps_ifk (pt_cmpR op_eq (pe_op op_modN (pe_op op_fdivB (pe_ix ix_list (pv 2) pe_int (fun _ _ => rfl)) pe_int) pe_int) pe_int (nomark _)) (pssk_lst (i := 6) sc.nd rfl (Or.inl rfl) (pak_str (pak_str (pak_str (pak_str (pak_str (pak_str (pak_str (pak_str (pak_str (pak_str (pak_str (pak_str pak_nil)))))))))))) (pss_one (ps_ret (pe_op op_cat (pe_slice sl_list (pv 6) (po_some (pe_op op_modN (pe_op op_fdivB (pe_ix ix_list (pv 2) pe_int (fun _ _ => rfl)) pe_int) pe_int)) po_none) (pe_slice sl_list (pv 6) po_none (po_some (pe_op op_modN (pe_op op_fdivB (pe_ix ix_list (pv 2) pe_int (fun _ _ => rfl)) pe_int) pe_int))))))) pss_nil) (pss_cons (ps_set (i := 6) sc.nd rfl (Or.inl rfl) (@pe_lst _ _ _ _ pa_nil)) (pss_cons (ps_for PassesOwn.never rfl (pi_range1 rfl B.b_range (@pa_cons _ _ _ _ _ pe_int pa_nil rfl)) (pg_name (i := 7) sc.nd rfl (Or.inl rfl)) (pss_cons (ps_set (i := 8) sc.nd rfl (Or.inl rfl) (pe_ix ix_str (pv 1) (pe_op op_modN (pe_op op_add (pe_op op_fdivB (pe_ix ix_list (pv 2) pe_int (fun _ _ => rfl)) pe_int) (pe_op op_mulB pe_int (pv 7))) pe_int) (fun _ _ => rfl))) (pss_one (ps_expr (pe_bm PySem.F.plainAttrs_list PySem.F.slot_list_append PySem.F.type_list_append mt_append (pv 6) (@pa_cons _ _ _ _ _ (pe_op op_add_str (pe_op op_add_str (pe_slice sl_str (pv 3) po_none (po_some (pv 5))) (pv 8)) (pe_slice sl_str (pv 3) (po_some (pe_op op_add (pv 5) pe_int)) (po_some (pv 4)))) pa_nil rfl)))))) (pss_one (ps_ret (pv 6)))))))))))), ?_⟩
  try dsimp only [cxK]
  refine ⟨_, rfl, c, 14, rfl, (by decide), (by decide), fun l H1 xs g1 e1 xl xp => ?_⟩
  have at_ : ∀ j : Int, 0 ≤ j → j < 14 → ∃ v : Int, atI (xs.map V.int) j = some (.int v) := fun j j0 j1 => cell_ok j0 (by rw [List.length_map]; omega)
  obtain ⟨x12, h12⟩ := at_ 12 (by decide) (by decide)
  obtain ⟨x13, h13⟩ := at_ 13 (by decide) (by decide)
  try dsimp only [gName, tNext]
  refine cut (fun σ H' => Same H1 H' ∧ ∃ body : Str, body.length = 12 ∧ Lt body ∧ σ = [some (.int c), some (.str abcT), some (.ref l), some (.str body), none, none, none, none, none]) (fun N hN => ?_) ?_
  · refine ⟨rfl, _, rfl, _, rfl, l, _, rfl, SqL.of e1, fun p hp => ?_⟩
    have cl : (cutV (xs.map V.int) none (some 12)).length = 12 := by
      have e0 : HT.sIx (xs.map V.int).length 0 none = 0 := rfl
      have e2 : HT.sIx (xs.map V.int).length (xs.map V.int).length (some 12) = 12 := by
        unfold HT.sIx
        rw [List.length_map]
        simp
        omega
      unfold cutV
      rw [e0, e2, List.length_take, List.length_drop, List.length_map]
      omega
    have g0 := same_new hp (.lst (cutV (xs.map V.int) none (some 12)))
    refine ⟨p, rfl, ⟨_, SqL.of upd_same⟩, comp_byL (xs := cutV (xs.map V.int) none (some 12)) (fun _ y => ∃ z : Str, y = .str z ∧ z.length = 1 ∧ Lt z) (SqL.of upd_same) (by omega) (fun x hx H3 g3 Q' hQ => ?_) (fun p2 ys H' np hl ht g' e' => ?_)⟩
    · obtain ⟨v, rfl⟩ : ∃ v : Int, x = .int v := by
        have m := hx
        unfold cutV at m
        have m := List.mem_of_mem_drop (List.mem_of_mem_take m)
        obtain ⟨c, _, e⟩ := List.mem_map.mp m
        exact ⟨c, e.symm⟩
      have ha := abc_atI (Int.fmod_nonneg_of_pos v (show (0 : Int) < 26 by decide)) (Int.fmod_lt_of_pos v (show (0 : Int) < 26 by decide))
      exact ⟨_, rfl, _, rfl, _, _, rfl, rfl, (by show (26 : Int) ≠ 0; decide), abcT, _, _, rfl, rfl, (by decide), ha, hQ _ _ ⟨_, rfl, rfl, Lt.one (by have h1 := Int.fmod_nonneg_of_pos v (show (0 : Int) < 26 by decide); have h2 := Int.fmod_lt_of_pos v (show (0 : Int) < 26 by decide); omega)⟩ (.refl _)⟩
    · obtain ⟨ws, rfl, hw, hwl⟩ := strs_oneL (ys := ys) fun y hy => by
        obtain ⟨i, hi⟩ := List.mem_iff_getElem?.mp hy
        have il := (List.getElem?_eq_some_iff.mp hi).1
        exact ht i _ y (List.getElem?_eq_getElem (by omega)) hi
      rw [List.length_map] at hl
      refine ⟨_, p2, ws, rfl, rfl, SqL.of e', (by decide), by omega, hN _ _ ⟨g0.trans g', _, ?_, Lt.tjoin hwl, rfl⟩⟩
      rw [join_len]
      show _ + (ws.length - 1) * 0 = 12
      omega
  rintro σ H2 ⟨g2, body, bl, bL, rfl⟩
  have e2 := g2 _ _ e1
  have bz : body.length ≤ sizeLine := by omega
  refine ⟨_, rfl, l, _, _, _, rfl, rfl, SqL.of e2, h12, _, _, rfl, rfl, (by show (12 : Int) ≠ 0; decide), _, _, rfl, rfl, ?_⟩
  have z0 := Int.fmod_nonneg_of_pos x12 (show (0 : Int) < 12 by decide)
  have z1 := Int.fmod_lt_of_pos x12 (show (0 : Int) < 12 by decide)
  refine ⟨_, rfl, l, _, _, _, rfl, rfl, SqL.of e2, h13, _, rfl, _, _, rfl, rfl, (by omega), ?_⟩
  refine ⟨_, rfl, l, _, _, _, rfl, rfl, SqL.of e2, h12, _, _, rfl, rfl, ⟨by decide, PyProof.noPylong_small (by decide)⟩, _, _, rfl, rfl, (by show (3 : Int) ≠ 0; decide), rfl, _, rfl, d2I (fun _ => ?_) (fun _ => ?_)⟩
  · refine ⟨12, rfl, (by decide), (by decide), ?_⟩
    refine comp_by (n := 12) (fun i y => y = .str (cutS body none (some (12 - (5 * (0 + (i : Int))).fmod 12)))) HdOk.no (by omega) (fun i hi H3 g3 Q' hQ => ?_) (fun p ys H' np hl ht g' e' => ?_)
    · exact ⟨_, rfl, _, rfl, _, _, rfl, rfl, IntMulOk.of_left (by decide), _, _, rfl, rfl, (by show (12 : Int) ≠ 0; decide), _, _, rfl, rfl, _, rfl, body, rfl, bz, hQ _ _ rfl (.refl _)⟩
    · have ey := ys_range (g := fun i => cutS body none (some (12 - (5 * (0 + (i : Int))).fmod 12))) hl fun i y hy => ht i y hy
      rw [ey] at e'
      refine q p _ H' ((g1.trans g2).trans g') e' ⟨by simp, range_nd fun i j hi hj he => ?_, fun z hz => ?_⟩
      rotate_left
      · obtain ⟨i, _, rfl⟩ := List.mem_map.mp hz
        have h1 := Int.fmod_nonneg_of_pos (5 * (0 + (i : Int))) (show (0 : Int) < 12 by decide)
        have h2 := Int.fmod_lt_of_pos (5 * (0 + (i : Int))) (show (0 : Int) < 12 by decide)
        have ci := cut_len (z := body) (n := 12 - (5 * (0 + (i : Int))).fmod 12) (by omega) (by omega)
        exact (bL.cut _ _).nm (by omega) (by omega)
      have f0 := fun i : Nat => And.intro (Int.fmod_nonneg_of_pos (5 * (0 + (i : Int))) (show (0 : Int) < 12 by decide)) (Int.fmod_lt_of_pos (5 * (0 + (i : Int))) (show (0 : Int) < 12 by decide))
      have ci := cut_len (z := body) (n := 12 - (5 * (0 + (i : Int))).fmod 12) (by have := f0 i; omega) (by have := f0 i; omega)
      have cj := cut_len (z := body) (n := 12 - (5 * (0 + (j : Int))).fmod 12) (by have := f0 j; omega) (by have := f0 j; omega)
      rw [he] at ci
      have := lens_inj ⟨i, hi⟩ ⟨j, hj⟩ (ci.symm.trans cj)
      exact congrArg (·.val) this
  dsimp only [gName, tNext]
  refine cut (fun σ H' => σ = [some (.int c), some (.str abcT), some (.ref l), some (.str body), some (.int (1 + x12.fmod 12)), some (.int (x13.fmod (1 + x12.fmod 12))), none, none, none] ∧ H2 = H') (fun N hN => ?_) ?_
  · refine ⟨_, rfl, l, _, _, _, rfl, rfl, SqL.of e2, h12, _, _, rfl, rfl, ⟨by decide, PyProof.noPylong_small (by decide)⟩, _, _, rfl, rfl, (by show (3 : Int) ≠ 0; decide), rfl, _, rfl, d2I (fun _ => ?_) (fun _ => hN _ _ ⟨rfl, rfl⟩)⟩
    refine ⟨(by show 12 ≤ sizeLine; decide), fun lw nw => ?_⟩
    obtain ⟨j, ej, jl⟩ := fmN (a := x13.fdiv 12) (n := 12) (by decide)
    have gw := same_new nw (.lst (wordsW.map V.str))
    have ew : upd H2 lw (.lst (wordsW.map V.str)) lw = some (.lst (wordsW.map V.str)) := upd_same
    have ecd : cutV (wordsW.map V.str) (some (j : Int)) none = (wordsW.drop j).map V.str := by rw [cut_dropB, ← List.map_drop]
    have ect : cutV (wordsW.map V.str) none (some (j : Int)) = (wordsW.take j).map V.str := by rw [L2.cut_take (by rw [List.length_map, wordsW_zs.len]; omega), ← List.map_take]
    have lj : (wordsW.drop j).length ≤ 12 ∧ (wordsW.take j).length ≤ 12 := ⟨by rw [List.length_drop, wordsW_zs.len]; omega, by rw [List.length_take, wordsW_zs.len]; omega⟩
    refine ⟨_, rfl, _, rfl, l, _, _, _, rfl, rfl, SqL.of (gw _ _ e2), h13, _, _, rfl, rfl, ⟨by decide, PyProof.noPylong_small (by decide)⟩, _, _, rfl, rfl, (by show (12 : Int) ≠ 0; decide), ?_⟩
    dsimp only
    rw [ej]
    refine ⟨_, rfl, lw, _, rfl, SqL.of ew, fun s1 ns1 => ?_⟩
    rw [ecd]
    have g3 := same_new ns1 (.lst ((wordsW.drop j).map V.str))
    refine ⟨_, rfl, _, rfl, l, _, _, _, rfl, rfl, SqL.of (g3 _ _ (gw _ _ e2)), h13, _, _, rfl, rfl, ⟨by decide, PyProof.noPylong_small (by decide)⟩, _, _, rfl, rfl, (by show (12 : Int) ≠ 0; decide), ?_⟩
    dsimp only
    rw [ej]
    refine ⟨_, rfl, lw, _, rfl, SqL.of (g3 _ _ ew), fun s2 ns2 => ?_⟩
    rw [ect]
    have g4 := same_new ns2 (.lst ((wordsW.take j).map V.str))
    refine ⟨s1, s2, _, _, rfl, rfl, g4 _ _ upd_same, upd_same, (by rw [List.length_map, List.length_map]; omega), fun s3 ns3 => ?_⟩
    refine q s3 _ _ ((((g1.trans g2).trans gw).trans g3).trans (g4.trans (same_new ns3 _))) ?_ (wordsW_zs.turn j)
    rw [upd_same, List.map_append]
  rintro σ _ ⟨rfl, rfl⟩
  refine ⟨(by show 0 ≤ sizeLine; decide), fun ls ns => ?_⟩
  have g3 := g2.trans (same_new ns (.lst []))
  try dsimp only [gName, tNext]
  obtain ⟨nmA, enA⟩ : ∃ g : Nat → Str, g = fun k : Nat => cutS body none (some (x13.fmod (1 + x12.fmod 12))) ++ (⟨#[97 + ((x13.fdiv 12 + 5 * (0 + (k : Int))).fmod 26).toNat]⟩ : Str) ++ cutS body (some (x13.fmod (1 + x12.fmod 12) + 1)) (some (1 + x12.fmod 12)) := ⟨_, rfl⟩
  have c1 := Nat.le_trans (cutS_length body none (some (x13.fmod (1 + x12.fmod 12)))) (Nat.le_of_eq bl)
  have c2 := Nat.le_trans (cutS_length body (some (x13.fmod (1 + x12.fmod 12) + 1)) (some (1 + x12.fmod 12))) (Nat.le_of_eq bl)
  have one : ∀ c : Nat, (⟨#[c]⟩ : Str).length = 1 := fun _ => rfl
  refine cut (fun σ H' => Same H1 H' ∧ H' ls = some (.lst (((List.range 12).map nmA).map V.str)) ∧ ∃ o7 o8 : Option V, σ = [some (.int c), some (.str abcT), some (.ref l), some (.str body), some (.int (1 + x12.fmod 12)), some (.int (x13.fmod (1 + x12.fmod 12))), some (.ref ls), o7, o8]) (fun N hN => ?_) ?_
  · refine ⟨12, rfl, (by decide), (by decide), for_range (n := 12) (fun i σ H' => Same H1 H' ∧ H' ls = some (.lst (((List.range i).map nmA).map V.str)) ∧ ∃ o7 o8 : Option V, σ = [some (.int c), some (.str abcT), some (.ref l), some (.str body), some (.int (1 + x12.fmod 12)), some (.int (x13.fmod (1 + x12.fmod 12))), some (.ref ls), o7, o8]) ⟨g3, upd_same, none, none, rfl⟩ (fun i σ H4 hi hP => ?_) (fun σ H4 hP => hN _ _ hP)⟩
    obtain ⟨g4, els, o7, o8, rfl⟩ := hP
    have ha := abc_atI (Int.fmod_nonneg_of_pos (x13.fdiv 12 + 5 * (0 + (i : Int))) (show (0 : Int) < 26 by decide)) (Int.fmod_lt_of_pos (x13.fdiv 12 + 5 * (0 + (i : Int))) (show (0 : Int) < 26 by decide))
    refine ⟨_, rfl, _, rfl, l, _, _, _, rfl, rfl, SqL.of (g4 _ _ e1), h13, _, _, rfl, rfl, ⟨by decide, PyProof.noPylong_small (by decide)⟩, _, rfl, _, _, rfl, rfl, IntMulOk.of_left (by decide), _, _, rfl, rfl, _, _, rfl, rfl, (by show (26 : Int) ≠ 0; decide), abcT, _, _, rfl, rfl, (by decide), ha, ?_⟩
    refine ⟨_, rfl, .inl ⟨rfl, _, SqL.of els⟩, _, rfl, _, rfl, _, rfl, body, rfl, bz, _, rfl, _, _, rfl, rfl, (by rw [one]; omega), _, rfl, _, rfl, _, _, rfl, rfl, _, rfl, _, rfl, _, rfl, body, rfl, bz, _, _, rfl, rfl, (by rw [Str.length_append, one]; omega), ls, _, _, rfl, rfl, els, (by simp; omega), ?_⟩
    refine ⟨sUpd g4 (g2.free ns) _, ?_, _, _, rfl⟩
    rw [upd_same, List.range_succ, List.map_append, List.map_append, enA]
    rfl
  rintro σ H4 ⟨g4, els, o7, o8, rfl⟩
  refine ⟨_, rfl, q ls _ H4 (g1.trans g4) els ⟨by simp, range_nd fun i j hi hj he => ?_, fun z hz => ?_⟩⟩
  rotate_left
  · obtain ⟨i, _, rfl⟩ := List.mem_map.mp hz
    rw [enA]
    have a0 := Int.fmod_nonneg_of_pos x13 (show (0 : Int) < 1 + x12.fmod 12 by omega)
    have a1 := Int.fmod_lt_of_pos x13 (show (0 : Int) < 1 + x12.fmod 12 by omega)
    have n1 := Int.fmod_nonneg_of_pos (x13.fdiv 12 + 5 * (0 + (i : Int))) (show (0 : Int) < 26 by decide)
    have n2 := Int.fmod_lt_of_pos (x13.fdiv 12 + 5 * (0 + (i : Int))) (show (0 : Int) < 26 by decide)
    refine (((bL.cut _ _).app (Lt.one (by omega))).app (bL.cut _ _)).nm ?_ ?_
    · rw [Str.length_append, Str.length_append, one]; omega
    · rw [Str.length_append, Str.length_append, one, cutS_hi a0, cutS_two (by omega) (by omega), bl]; omega
  rw [enA] at he
  have he' := congrArg sL he
  rw [sL_app, sL_app, sL_app, sL_app, one_mk, one_mk, sL_mk, sL_mk, List.append_assoc, List.append_assoc] at he'
  have h1 := List.append_cancel_left he'
  have h2 : 97 + ((x13.fdiv 12 + 5 * (0 + (i : Int))).fmod 26).toNat = 97 + ((x13.fdiv 12 + 5 * (0 + (j : Int))).fmod 26).toNat := by
    injection h1
  have n1 := Int.fmod_nonneg_of_pos (x13.fdiv 12 + 5 * (0 + (i : Int))) (show (0 : Int) < 26 by decide)
  have n2 := Int.fmod_nonneg_of_pos (x13.fdiv 12 + 5 * (0 + (j : Int))) (show (0 : Int) < 26 by decide)
  have h3 : (x13.fdiv 12 + 5 * (0 + (i : Int))).fmod 26 = (x13.fdiv 12 + 5 * (0 + (j : Int))).fmod 26 := by omega
  rw [Int.fmod_eq_emod_of_nonneg _ (by decide), Int.fmod_eq_emod_of_nonneg _ (by decide)] at h3
  generalize x13.fdiv 12 = X at h3
  omega

set_option maxHeartbeats 4000000 in
theorem ok_law_amount {dV : Value} (F : FunD K "_law_amount" "_law_amount" s_law_amount dV f fd) (D_law_common : Dx P w K mg base CX0 1 "_law_common" ["_law_one", "_law_other"] [] spDivP) : FnOk P w K mg base CX0 2 f fd ["_law_a", "_law_b"] spAmnt := by
  have sc : FnScope ["_law_a", "_law_b", "_law_whole_here", "_law_bottom", "_law_top", "_law_share"] ["_law_a", "_law_b"] (defScope s_law_amount) := scK (by decide +kernel)
  refine F.ok sc (fun vs H Q E h => ?_) (fun cdv A outer s H vs Q E hr h => ?_)
  · obtain ⟨_, _, rfl, _⟩ := h
    rfl
  obtain ⟨a, b, rfl, a0, a1, b0, q⟩ := h
  refine ⟨_, (pss_cons (ps_set (i := 2) sc.nd rfl (Or.inl rfl) (pe_op op_add pe_int (pe_op op_modN (pe_op op_fdivB (pv 0) pe_int) (pe_ix ix_list (@pe_lst _ _ _ _ (@pa_cons _ _ _ _ _ pe_int (@pa_cons _ _ _ _ _ pe_int (@pa_cons _ _ _ _ _ pe_int (@pa_cons _ _ _ _ _ pe_int (@pa_cons _ _ _ _ _ pe_int pa_nil rfl) rfl) rfl) rfl) rfl)) (pe_op op_modN (pv 1) pe_int) (fun _ _ => rfl))))) (pss_cons (ps_if (pt_cmpR op_eq (pe_op op_modN (pv 1) pe_int) pe_int (nomark _)) (pss_one (ps_set (i := 2) sc.nd rfl (Or.inl rfl) (pe_op op_add (pe_op op_powB pe_int pe_int) (pv 0)))) pss_nil) (pss_cons (ps_set (i := 3) sc.nd rfl (Or.inl rfl) (pe_op op_add pe_int (pe_op op_modN (pv 1) (pe_ix ix_list (@pe_lst _ _ _ _ (@pa_cons _ _ _ _ _ pe_int (@pa_cons _ _ _ _ _ pe_int (@pa_cons _ _ _ _ _ pe_int pa_nil rfl) rfl) rfl)) (pe_op op_modN (pe_op op_fdivB (pv 1) pe_int) pe_int) (fun _ _ => rfl))))) (pss_cons (ps_set (i := 4) sc.nd rfl (Or.inl rfl) (pe_op op_add pe_int (pe_op op_modN (pe_op op_fdivB (pv 1) pe_int) (pe_op op_sub (pv 3) pe_int)))) (pss_cons (ps_set (i := 5) sc.nd rfl (Or.inl rfl) (pcall0 D_law_common hr (by decide) rfl (@pa_cons _ _ _ _ _ (pv 3) (@pa_cons _ _ _ _ _ (pv 4) pa_nil rfl) rfl))) (pss_cons (ps_set (i := 4) sc.nd rfl (Or.inl rfl) (pe_op op_fdivB (pv 4) (pv 5))) (pss_cons (ps_set (i := 3) sc.nd rfl (Or.inl rfl) (pe_op op_fdivB (pv 3) (pv 5))) (pss_cons (ps_if (pt_cmpR op_eq (pe_op op_modN (pv 0) pe_int) pe_int (nomark _)) (pss_one (ps_ret (@pe_tup _ _ _ _ _ (@pa_cons _ _ _ _ _ (@pe_tup _ _ _ _ _ (@pa_cons _ _ _ _ _ (pv 2) (@pa_cons _ _ _ _ _ pe_int pa_nil rfl) rfl)) (@pa_cons _ _ _ _ _ (pe_callTy call_str_int rfl B.b_str boot_str (@pa_cons _ _ _ _ _ (pv 2) pa_nil rfl)) pa_nil rfl) rfl)))) pss_nil) (pss_cons (ps_if (pt_cmpR op_eq (pe_op op_modN (pv 0) pe_int) pe_int (nomark _)) (pss_one (ps_ret (@pe_tup _ _ _ _ _ (@pa_cons _ _ _ _ _ (@pe_tup _ _ _ _ _ (@pa_cons _ _ _ _ _ (pv 4) (@pa_cons _ _ _ _ _ (pv 3) pa_nil rfl) rfl)) (@pa_cons _ _ _ _ _ (pe_op op_add_str (pe_op op_add_str (pe_callTy call_str_int rfl B.b_str boot_str (@pa_cons _ _ _ _ _ (pv 4) pa_nil rfl)) pe_str) (pe_callTy call_str_int rfl B.b_str boot_str (@pa_cons _ _ _ _ _ (pv 3) pa_nil rfl))) pa_nil rfl) rfl)))) pss_nil) (pss_one (ps_ret (@pe_tup _ _ _ _ _ (@pa_cons _ _ _ _ _ (@pe_tup _ _ _ _ _ (@pa_cons _ _ _ _ _ (pe_op op_add (pe_op op_mulB (pv 2) (pv 3)) (pv 4)) (@pa_cons _ _ _ _ _ (pv 3) pa_nil rfl) rfl)) (@pa_cons _ _ _ _ _ (pe_op op_add_str (pe_op op_add_str (pe_op op_add_str (pe_op op_add_str (pe_callTy call_str_int rfl B.b_str boot_str (@pa_cons _ _ _ _ _ (pv 2) pa_nil rfl)) pe_str) (pe_callTy call_str_int rfl B.b_str boot_str (@pa_cons _ _ _ _ _ (pv 4) pa_nil rfl))) pe_str) (pe_callTy call_str_int rfl B.b_str boot_str (@pa_cons _ _ _ _ _ (pv 3) pa_nil rfl))) pa_nil rfl) rfl))))))))))))), ?_⟩
  try dsimp only [cxK]
  have sl : sizeLine = 16777216 := sizeLine_eq
  have m5 := fm (a := b) (n := 5) (by decide)
  refine cut (fun σ H' => ∃ w : Nat, σ = [some (.int a), some (.int b), some (vN w), none, none, none] ∧ Same H H' ∧ 1 ≤ w ∧ w ≤ 5000) (fun N hN => ?_) ?_
  · refine ⟨_, rfl, _, _, rfl, rfl, ⟨by decide, PyProof.noPylong_small (by decide)⟩, (by show 5 ≤ sizeLine; decide), fun l5 n5 => ⟨_, rfl, _, _, rfl, rfl, (by show (5 : Int) ≠ 0; decide), ?_⟩⟩
    obtain ⟨v, hv, v0⟩ : ∃ v : Int, atI [V.int 9, .int 9, .int 9, .int 9, .int 5000] (b.fmod 5) = some (.int v) ∧ (v = 9 ∨ v = 5000) := by
      obtain ⟨j, ej, jl⟩ := fmN (a := b) (n := 5) (by decide)
      rw [ej]
      have jl : j < 5 := by omega
      match j, jl with
      | 0, _ => exact ⟨9, rfl, .inl rfl⟩
      | 1, _ => exact ⟨9, rfl, .inl rfl⟩
      | 2, _ => exact ⟨9, rfl, .inl rfl⟩
      | 3, _ => exact ⟨9, rfl, .inl rfl⟩
      | 4, _ => exact ⟨5000, rfl, .inr rfl⟩
    have m := fm (a := a.fdiv 3) (n := v) (by omega)
    refine ⟨l5, _, _, _, rfl, rfl, SqL.of upd_same, hv, _, _, rfl, rfl, (by omega), _, _, rfl, rfl, hN _ _ ⟨(1 + (a.fdiv 3).fmod v).toNat, ?_, same_new n5 _, by omega, by omega⟩⟩
    show [some (.int a), some (.int b), some (V.int (1 + (a.fdiv 3).fmod v)), none, none, none] = _
    rw [show vN (1 + (a.fdiv 3).fmod v).toNat = V.int (1 + (a.fdiv 3).fmod v) from congrArg V.int (by omega)]
  rintro σ H1 ⟨w0, rfl, g1, w1, w5⟩
  refine cut (fun σ H' => ∃ w : Nat, σ = [some (.int a), some (.int b), some (vN w), none, none, none] ∧ H1 = H' ∧ 1 ≤ w ∧ w < 10 ^ 30) (fun N hN => ?_) ?_
  · refine ⟨_, rfl, _, _, rfl, rfl, (by show (5 : Int) ≠ 0; decide), rfl, _, rfl, d2I (fun _ => ?_) fun _ => hN _ _ ⟨w0, rfl, rfl, w1, Nat.lt_of_le_of_lt w5 (by decide +kernel)⟩⟩
    have e29 : (10 : Int) ^ (29 : Int).toNat = 100000000000000000000000000000 := by decide
    have e30 : (10 : Nat) ^ 30 = 1000000000000000000000000000000 := by decide +kernel
    refine ⟨_, _, rfl, rfl, ⟨by decide, by decide⟩, _, rfl, _, _, rfl, rfl, hN _ _ ⟨(100000000000000000000000000000 + a).toNat, ?_, rfl, by omega, by omega⟩⟩
    show [some (.int a), some (.int b), some (V.int ((10 : Int) ^ (29 : Int).toNat + a)), none, none, none] = _
    rw [e29, show vN (100000000000000000000000000000 + a).toNat = V.int (100000000000000000000000000000 + a) from congrArg V.int (by omega)]
  rintro σ H2 ⟨w, rfl, rfl, wl1, wl⟩
  clear w1 w5
  refine cut (fun σ H' => ∃ y : Nat, σ = [some (.int a), some (.int b), some (vN w), some (vN y), none, none] ∧ Same H H' ∧ 2 ≤ y ∧ y < 1000) (fun N hN => ?_) ?_
  · refine ⟨_, rfl, (by show 3 ≤ sizeLine; decide), fun l3 n3 => ⟨_, rfl, _, _, rfl, rfl, ⟨by decide, PyProof.noPylong_small (by decide)⟩, _, _, rfl, rfl, (by show (3 : Int) ≠ 0; decide), ?_⟩⟩
    obtain ⟨v, hv, v0⟩ : ∃ v : Int, atI [V.int 11, .int 11, .int 997] ((b.fdiv 5).fmod 3) = some (.int v) ∧ (v = 11 ∨ v = 997) := by
      obtain ⟨j, ej, jl⟩ := fmN (a := b.fdiv 5) (n := 3) (by decide)
      rw [ej]
      have jl : j < 3 := by omega
      match j, jl with
      | 0, _ => exact ⟨11, rfl, .inl rfl⟩
      | 1, _ => exact ⟨11, rfl, .inl rfl⟩
      | 2, _ => exact ⟨997, rfl, .inr rfl⟩
    have m := fm (a := b) (n := v) (by omega)
    refine ⟨l3, _, _, _, rfl, rfl, SqL.of upd_same, hv, _, _, rfl, rfl, (by omega), _, _, rfl, rfl, hN _ _ ⟨(2 + b.fmod v).toNat, ?_, g1.trans (same_new n3 _), by omega, by omega⟩⟩
    show [some (.int a), some (.int b), some (vN w), some (V.int (2 + b.fmod v)), none, none] = _
    rw [show vN (2 + b.fmod v).toNat = V.int (2 + b.fmod v) from congrArg V.int (by omega)]
  rintro σ H2 ⟨y, rfl, g2, y2, yl⟩
  clear g1
  have m := fm (a := b.fdiv 11) (n := (y : Int) - 1) (by omega)
  refine ⟨_, rfl, _, _, rfl, rfl, ⟨by decide, PyProof.noPylong_small (by decide)⟩, _, rfl, _, _, rfl, rfl, _, _, rfl, rfl, (by omega), _, _, rfl, rfl, ?_⟩
  dsimp only [gName, tNext]
  obtain ⟨x, ex⟩ : ∃ x : Nat, 1 + (b.fdiv 11).fmod ((y : Int) - 1) = (x : Int) := ⟨(1 + (b.fdiv 11).fmod ((y : Int) - 1)).toNat, by omega⟩
  rw [ex]
  obtain ⟨t, b', c, hc, c0, e1, e2, t0, lt, gc, b9, c9⟩ := low_cut (x := x) (y := y) (by omega) (by omega) yl
  have c9' : (c : Int) ≠ 0 := by omega
  refine ⟨_, rfl, _, rfl, _, _, rfl, by omega, by omega, ?_⟩
  rw [hc]
  refine ⟨_, rfl, _, rfl, _, _, rfl, rfl, ⟨c9', PyProof.noPylong_small (by omega)⟩, ?_⟩
  refine ⟨_, rfl, _, rfl, _, _, rfl, rfl, ⟨c9', PyProof.noPylong_small (by omega)⟩, ?_⟩
  dsimp only [gName, tNext]
  rw [e1, e2]
  have lgw : (w : Int).natAbs.log2 < 1920 := lg (Nat.lt_trans wl (by decide +kernel))
  have lgt : (t : Int).natAbs.log2 < 1920 := lg (Nat.lt_trans (Nat.lt_trans lt b9) (by decide +kernel))
  have lgb : (b' : Int).natAbs.log2 < 1920 := lg (Nat.lt_trans b9 (by decide +kernel))
  have lw := dg_len (n := w) (k := 29) wl
  have l1 := dg_len (n := t) (k := 2) (by omega)
  have l2 := dg_len (n := b') (k := 2) (by omega)
  have nl : ∀ n : Nat, (numT n).length = (dg n).length := fun n => mk_len _
  have ls : (Str.ofString "/").length = 1 := by decide
  have lp : (Str.ofString "+").length = 1 := by decide
  refine ⟨_, rfl, _, _, rfl, rfl, (by show (3 : Int) ≠ 0; decide), rfl, _, rfl, d2I (fun _ => ?_) fun _ => ⟨_, rfl, _, _, rfl, rfl, (by show (3 : Int) ≠ 0; decide), rfl, _, rfl, d2I (fun _ => ?_) fun _ => ?_⟩⟩
  · refine ⟨_, rfl, (by show 2 ≤ sizeLine; decide), fun ta na => ⟨_, rfl, _, rfl, lgw, ?_⟩⟩
    rw [num_T]
    obtain ⟨ag, et⟩ := amG_W (w := w) (by omega) wl
    refine ⟨(by show 2 ≤ sizeLine; decide), fun tt nt => q (w, 1) tt ta _ ((g2.trans (same_new na _)).trans (same_new nt _)) (by rw [upd_same, et]) (same_new nt _ _ _ upd_same) ag⟩
  · refine ⟨_, rfl, _, rfl, (by show 2 ≤ sizeLine; decide), fun ta na => ⟨_, rfl, _, rfl, lgt, ?_⟩⟩
    rw [num_T]
    refine ⟨_, _, rfl, rfl, (by rw [nl]; omega), _, rfl, _, rfl, lgb, ?_⟩
    rw [num_T]
    obtain ⟨ag, et⟩ := amG_TB t0 lt gc b9
    exact ⟨_, _, rfl, rfl, (by rw [Str.length_append, nl, nl]; omega), (by show 2 ≤ sizeLine; decide), fun tt nt => q (t, b') tt ta _ ((g2.trans (same_new na _)).trans (same_new nt _)) (by rw [upd_same, et]) (same_new nt _ _ _ upd_same) ag⟩
  · have e3 : (w : Int) * (b' : Int) + (t : Int) = ((w * b' + t : Nat) : Int) := by simp
    refine ⟨_, rfl, _, rfl, _, _, rfl, rfl, ?_, _, rfl, _, _, rfl, rfl, _, rfl, (by show 2 ≤ sizeLine; decide), fun ta na => ⟨_, rfl, _, rfl, lgw, ?_⟩⟩
    · exact (bdN (k := 140) (Nat.lt_trans wl (by decide +kernel))).ok (bdN (k := 140) (Nat.lt_trans b9 (by decide +kernel)))
    dsimp only at na ⊢
    rw [num_T]
    refine ⟨_, _, rfl, rfl, (by rw [nl]; omega), _, rfl, _, rfl, lgt, ?_⟩
    rw [num_T]
    refine ⟨_, _, rfl, rfl, (by rw [Str.length_append, nl, nl]; omega), _, _, rfl, rfl, (by rw [Str.length_append, Str.length_append, nl, nl]; omega), _, rfl, _, rfl, lgb, ?_⟩
    rw [num_T]
    obtain ⟨ag, et⟩ := amG_WTB (w := w) (by omega) wl t0 lt gc b9
    refine ⟨_, _, rfl, rfl, (by rw [Str.length_append, Str.length_append, Str.length_append, nl, nl, nl]; omega), (by show 2 ≤ sizeLine; decide), fun tt nt => q (w * b' + t, b') tt ta _ ((g2.trans (same_new na _)).trans (same_new nt _)) (by rw [upd_same, et]) (same_new nt _ _ _ ?_) ag⟩
    rw [upd_same, e3]
    rfl

set_option maxHeartbeats 4000000 in
theorem ok_law_lengths {dV : Value} (F : FunD K "_law_lengths" "_law_lengths" s_law_lengths dV f fd)  : FnOk P w K mg base CX0 1 f fd ["_law_a", "_law_b"] spLens := by
  have sc : FnScope ["_law_a", "_law_b", "_law_least"] ["_law_a", "_law_b"] (defScope s_law_lengths) := scK (by decide +kernel)
  refine F.ok sc (fun vs H Q E h => ?_) (fun cdv A outer s H vs Q E hr h => ?_)
  · obtain ⟨_, _, rfl, _⟩ := h
    rfl
  obtain ⟨a, b, rfl, a0, b0, q⟩ := h
  refine ⟨_, (pss_cons (ps_set (i := 2) sc.nd rfl (Or.inl rfl) (pe_op op_add pe_int (pe_op op_modN (pv 0) pe_int))) (pss_cons (ps_if (pt_cmpR op_eq (pe_op op_modN (pv 1) pe_int) pe_int (nomark _)) (pss_one (ps_set (i := 2) sc.nd rfl (Or.inl rfl) (pe_op op_add pe_int (pe_op op_modN (pv 0) pe_int)))) pss_nil) (pss_cons (ps_if (pt_cmpR op_eq (pe_op op_modN (pv 1) pe_int) pe_int (nomark _)) (pss_one (ps_ret (@pe_lst _ _ _ _ (@pa_cons _ _ _ _ _ (pv 2) (@pa_cons _ _ _ _ _ pe_int pa_nil rfl) rfl)))) pss_nil) (pss_one (ps_ret (@pe_lst _ _ _ _ (@pa_cons _ _ _ _ _ (pv 2) (@pa_cons _ _ _ _ _ (pe_op op_add (pv 2) (pe_op op_modN (pe_op op_fdivB (pv 1) pe_int) (pe_op op_sub pe_int (pv 2)))) pa_nil rfl) rfl))))))), ?_⟩
  try dsimp only [cxK]
  have m9 := fm (a := a) (n := 9) (by decide)
  have mL := fm (a := a) (n := 100000) (by decide)
  refine ⟨_, rfl, _, _, rfl, rfl, (by show (9 : Int) ≠ 0; decide), _, _, rfl, rfl, ?_⟩
  dsimp only [gName, tNext]
  refine cut (fun σ H' => ∃ lo : Nat, σ = [some (.int a), some (.int b), some (vN lo)] ∧ H = H' ∧ 1 ≤ lo ∧ lo ≤ 100000) (fun N hN => ?_) ?_
  · refine ⟨_, rfl, _, _, rfl, rfl, (by show (3 : Int) ≠ 0; decide), rfl, _, rfl, d2I (fun _ => ?_) fun _ => hN _ _ ⟨(1 + a.fmod 9).toNat, ?_, rfl, by omega, by omega⟩⟩
    · refine ⟨_, rfl, _, _, rfl, rfl, (by show (100000 : Int) ≠ 0; decide), _, _, rfl, rfl, hN _ _ ⟨(1 + a.fmod 100000).toNat, ?_, rfl, by omega, by omega⟩⟩
      show [some (V.int a), some (V.int b), some (V.int (1 + a.fmod 100000))] = _
      rw [show vN (1 + a.fmod 100000).toNat = V.int (1 + a.fmod 100000) from congrArg V.int (by omega)]
    · show [some (V.int a), some (V.int b), some (V.int (1 + a.fmod 9))] = _
      rw [show vN (1 + a.fmod 9).toNat = V.int (1 + a.fmod 9) from congrArg V.int (by omega)]
  rintro σ H' ⟨lo, rfl, rfl, l1, l5⟩
  refine cut (fun σ H' => σ = [some (.int a), some (.int b), some (vN lo)] ∧ H = H') (fun N hN => ?_) ?_
  · refine ⟨_, rfl, _, _, rfl, rfl, (by show (5 : Int) ≠ 0; decide), rfl, _, rfl, d2I (fun _ => ?_) fun _ => hN _ _ ⟨rfl, rfl⟩⟩
    exact ⟨_, rfl, (by show 2 ≤ sizeLine; decide), fun l nl => q lo 100000 l _ (same_new nl _) nl upd_same ⟨l1, l5, Nat.le_refl _⟩⟩
  rintro σ H' ⟨rfl, rfl⟩
  have m := fm (a := b.fdiv 3) (n := 100001 - (lo : Int)) (by omega)
  refine ⟨_, rfl, _, rfl, _, rfl, _, _, rfl, rfl, ⟨by decide, PyProof.noPylong_small (by decide)⟩, _, rfl, _, _, rfl, rfl, _, _, rfl, rfl, (by omega), _, _, rfl, rfl, (by show 2 ≤ sizeLine; decide), fun l nl => ?_⟩
  have e : (lo : Int) + (b.fdiv 3).fmod (100001 - (lo : Int)) = ((lo + ((b.fdiv 3).fmod (100001 - (lo : Int))).toNat : Nat) : Int) := by omega
  dsimp only
  rw [e]
  exact q lo _ l _ (same_new nl _) nl upd_same ⟨l1, by omega, by omega⟩

set_option maxHeartbeats 4000000 in
theorem ok_law_take {dV : Value} (F : FunD K "_law_take" "_law_take" s_law_take dV f fd) (D_law_amount : Dx P w K mg base CX0 2 "_law_amount" ["_law_a", "_law_b"] [] spAmnt) : FnOk P w K mg base CX0 3 f fd ["_law_model", "_law_names_here", "_law_xs"] spTakeL := by
  have sc : FnScope ["_law_model", "_law_names_here", "_law_xs", "_law_good", "_law_amount_here", "_law_text"] ["_law_model", "_law_names_here", "_law_xs"] (defScope s_law_take) := scK (by decide +kernel)
  refine F.ok sc (fun vs H Q E h => ?_) (fun cdv A outer s H vs Q E hr h => ?_)
  · obtain ⟨_, _, _, _, _, _, _, _, _, _, _, rfl, _⟩ := h
    rfl
  obtain ⟨G, m, lt, ls, lk, ln, lx, ks, M, zs, room, rfl, ml, ok, en, zz, hx, q⟩ := h
  refine ⟨_, (pss_cons (ps_if (pt_cmpR op_eq (pe_callB call_len_seq rfl B.b_len boot_len (@pa_cons _ _ _ _ _ (pe_ix ix_list (pv 0) pe_int (fun _ _ => rfl)) pa_nil rfl)) pe_int (nomark _)) (pss_one (ps_ret pe_str)) pss_nil) (pss_cons (ps_set (i := 3) sc.nd rfl (Or.inl rfl) (pe_ix ix_list (pv 1) (pe_op op_modN (pe_op op_add (pe_op op_mulB pe_int (pe_callB call_len_seq rfl B.b_len boot_len (@pa_cons _ _ _ _ _ (pe_ix ix_list (pv 0) pe_int (fun _ _ => rfl)) pa_nil rfl))) pe_int) pe_int) (fun _ _ => rfl))) (pss_cons (ps_asg (pcall0 D_law_amount hr (by decide) rfl (@pa_cons _ _ _ _ _ (pe_ix ix_list (pv 2) pe_int (fun _ _ => rfl)) (@pa_cons _ _ _ _ _ (pe_ix ix_list (pv 2) pe_int (fun _ _ => rfl)) pa_nil rfl) rfl)) (pg_tup rfl (pgs_cons (pg_name (i := 4) sc.nd rfl (Or.inl rfl)) (pgs_cons (pg_name (i := 5) sc.nd rfl (Or.inl rfl)) pgs_nil)))) (pss_cons (ps_expr (pe_bm PySem.F.plainAttrs_list PySem.F.slot_list_append PySem.F.type_list_append mt_append (pe_ix ix_list (pv 0) pe_int (fun _ _ => rfl)) (@pa_cons _ _ _ _ _ (@pe_tup _ _ _ _ _ (@pa_cons _ _ _ _ _ (pv 3) (@pa_cons _ _ _ _ _ (pv 4) pa_nil rfl) rfl)) pa_nil rfl))) (pss_one (ps_ret (pe_op op_add_str (pe_op op_add_str (pe_op op_add_str pe_str (pv 3)) pe_str) (pv 5)))))))), ?_⟩
  try dsimp only [cxK]
  have sl : sizeLine = 16777216 := sizeLine_eq
  obtain ⟨vt, et, rt⟩ := id ml.et
  have lvt := rt.1
  obtain ⟨xs, ex, hxs⟩ := hx.at_
  obtain ⟨x1, hx1, x10, x11⟩ := hxs 1 (by decide)
  obtain ⟨x2, hx2, x20, x21⟩ := hxs 2 (by decide)
  refine cut (fun σ H' => σ = [some (.ref m), some (.ref ln), some (.ref lx), none, none, none] ∧ H = H' ∧ M.takes.length < 12) (fun N hN => ?_) ?_
  · refine ⟨_, rfl, m, _, _, _, rfl, rfl, SqL.of ml.em, rfl, lt, _, rfl, .inl (SqL.of et), rfl, _, rfl, d2I (fun _ => q "" ks M H ml ok (.inl ⟨rfl, rfl⟩)) fun c => hN _ _ ⟨rfl, rfl, ?_⟩⟩
    have := ok.t12
    omega
  rintro σ H' ⟨rfl, rfl, t12⟩
  have ei := fm12 (5 * (vt.length : Int) + 1) (5 * M.takes.length + 1) (by omega)
  obtain ⟨g, hg, ng⟩ := zz.at_ (i := (5 * M.takes.length + 1) % 12) (by omega)
  have gl := ng.len
  refine ⟨_, rfl, _, rfl, m, _, _, _, rfl, rfl, SqL.of ml.em, rfl, lt, _, rfl, .inl (SqL.of et), _, _, rfl, rfl, IntMulOk.of_left (by decide), _, _, rfl, rfl, _, _, rfl, rfl, (by show (12 : Int) ≠ 0; decide), ln, _, _, _, rfl, rfl, SqL.of en, (by rw [ei]; exact zs_at hg), ?_⟩
  dsimp only [gName, tNext]
  refine ⟨_, rfl, lx, _, _, _, rfl, rfl, SqL.of ex, hx1, _, rfl, lx, _, _, _, rfl, rfl, SqL.of ex, hx2, _, _, rfl, x10, x11, x20, fun am t ta H1 g1 e1 e2 ag => ?_⟩
  refine ⟨_, _, rfl, SqT.of e1, rfl, _, _, rfl, _, _, rfl, rfl, ?_⟩
  have al := amT_len ag
  have ml1 := ml.same g1
  dsimp only [gName, tNext]
  refine ⟨_, rfl, m, _, _, _, rfl, rfl, SqL.of ml1.em, rfl, .inl ⟨rfl, _, SqL.of (g1 _ _ et)⟩, _, rfl, _, rfl, (by show 2 ≤ sizeLine; decide), fun tp ntp => ?_⟩
  have g2 := same_new ntp (.tup [.str g, .ref ta])
  have ml2 := ml1.same g2
  have e12 := g2 _ _ (g1 _ _ et)
  refine ⟨lt, _, _, rfl, rfl, e12, by omega, ?_⟩
  have ml3 := ml2.take (v := .ref tp) (x := (g, am)) e12 ⟨tp, ta, rfl, trivial, trivial, upd_same, g2 _ _ e2⟩
  have l5 : (Str.ofString "take ").length = 5 := by decide
  have l1 : (Str.ofString " ").length = 1 := by decide
  refine ⟨_, rfl, _, _, rfl, rfl, by omega, _, _, rfl, rfl, (by rw [Str.length_append]; omega), _, rfl, _, _, rfl, rfl, (by rw [Str.length_append, Str.length_append]; omega), ?_⟩
  rw [cat_take]
  exact q _ _ _ _ ml3 (ok.take hg t12 ag) (.inr ⟨.take g am, rfl, ⟨ng, ag⟩, put_take ok zz hg t12⟩)

set_option maxHeartbeats 4000000 in
theorem ok_law_step {dV : Value} (F : FunD K "_law_step" "_law_step" s_law_step dV f fd) (D_law_amount : Dx P w K mg base CX0 2 "_law_amount" ["_law_a", "_law_b"] [] spAmnt) (D_law_lengths : Dx P w K mg base CX0 1 "_law_lengths" ["_law_a", "_law_b"] [] spLens) : FnOk P w K mg base CX0 3 f fd ["_law_model", "_law_names_here", "_law_xs", "_law_room"] spStepL := by
  have sc : FnScope ["_law_model", "_law_names_here", "_law_xs", "_law_room", "_law_word", "_law_name", "_law_lengths_here", "_law_row_here", "_law_fill", "_law_text"] ["_law_model", "_law_names_here", "_law_xs", "_law_room"] (defScope s_law_step) := scK (by decide +kernel)
  refine F.ok sc (fun vs H Q E h => ?_) (fun cdv A outer s H vs Q E hr h => ?_)
  · obtain ⟨_, _, _, _, _, _, _, _, _, _, _, rfl, _⟩ := h
    rfl
  obtain ⟨G, m, lt, ls, lk, ln, lx, ks, M, zs, room, rfl, r12, ml, ok, en, zz, hx, q⟩ := h
  refine ⟨_, (pss_cons (ps_if (pt_cmpR op_eq (pe_callB call_len_seq rfl B.b_len boot_len (@pa_cons _ _ _ _ _ (pe_ix ix_list (pv 0) pe_int (fun _ _ => rfl)) pa_nil rfl)) (pv 3) (nomark _)) (pss_one (ps_ret pe_str)) pss_nil) (pss_cons (ps_set (i := 4) sc.nd rfl (Or.inl rfl) (pe_ix ix_list (@pe_lst _ _ _ _ (@pa_cons _ _ _ _ _ pe_str (@pa_cons _ _ _ _ _ pe_str (@pa_cons _ _ _ _ _ pe_str pa_nil rfl) rfl) rfl)) (pe_op op_modN (pe_ix ix_list (pv 2) pe_int (fun _ _ => rfl)) pe_int) (fun _ _ => rfl))) (pss_cons (ps_set (i := 5) sc.nd rfl (Or.inl rfl) (pe_ix ix_list (pv 1) (pe_op op_modN (pe_op op_mulB pe_int (pe_callB call_len_seq rfl B.b_len boot_len (@pa_cons _ _ _ _ _ (pe_ix ix_list (pv 0) pe_int (fun _ _ => rfl)) pa_nil rfl))) pe_int) (fun _ _ => rfl))) (pss_cons (ps_set (i := 6) sc.nd rfl (Or.inl rfl) (pcall0 D_law_lengths hr (by decide) rfl (@pa_cons _ _ _ _ _ (pe_ix ix_list (pv 2) pe_int (fun _ _ => rfl)) (@pa_cons _ _ _ _ _ (pe_ix ix_list (pv 2) pe_int (fun _ _ => rfl)) pa_nil rfl) rfl))) (pss_cons (ps_set (i := 7) sc.nd rfl (Or.inl rfl) (pe_op op_add_str (pe_op op_add_str (pe_op op_add_str (pe_op op_add_str (pe_op op_add_str (pe_op op_add_str (pv 4) pe_str) (pv 5)) pe_str) (pe_callTy call_str_int rfl B.b_str boot_str (@pa_cons _ _ _ _ _ (pe_ix ix_list (pv 6) pe_int (fun _ _ => rfl)) pa_nil rfl))) pe_str) (pe_callTy call_str_int rfl B.b_str boot_str (@pa_cons _ _ _ _ _ (pe_ix ix_list (pv 6) pe_int (fun _ _ => rfl)) pa_nil rfl)))) (pss_cons (ps_set (i := 8) sc.nd rfl (Or.inl rfl) pe_non) (pss_cons (ps_if (pt_cmpR op_eq (pv 4) pe_str (nomark _)) (pss_cons (ps_asg (pcall0 D_law_amount hr (by decide) rfl (@pa_cons _ _ _ _ _ (pe_ix ix_list (pv 2) pe_int (fun _ _ => rfl)) (@pa_cons _ _ _ _ _ (pe_ix ix_list (pv 2) pe_int (fun _ _ => rfl)) pa_nil rfl) rfl)) (pg_tup rfl (pgs_cons (pg_name (i := 8) sc.nd rfl (Or.inl rfl)) (pgs_cons (pg_name (i := 9) sc.nd rfl (Or.inl rfl)) pgs_nil)))) (pss_one (ps_set (i := 7) sc.nd rfl (Or.inl rfl) (pe_op op_add_str (pe_op op_add_str (pv 7) pe_str) (pv 9))))) pss_nil) (pss_cons (ps_expr (pe_bm PySem.F.plainAttrs_list PySem.F.slot_list_append PySem.F.type_list_append mt_append (pe_ix ix_list (pv 0) pe_int (fun _ _ => rfl)) (@pa_cons _ _ _ _ _ (@pe_lst _ _ _ _ (@pa_cons _ _ _ _ _ (pv 4) (@pa_cons _ _ _ _ _ (pv 5) (@pa_cons _ _ _ _ _ (pv 6) (@pa_cons _ _ _ _ _ (pv 8) (@pa_cons _ _ _ _ _ (@pe_lst _ _ _ _ pa_nil) (@pa_cons _ _ _ _ _ pe_non pa_nil rfl) rfl) rfl) rfl) rfl) rfl)) pa_nil rfl))) (pss_one (ps_ret (pv 7))))))))))), ?_⟩
  try dsimp only [cxK]
  have sl : sizeLine = 16777216 := sizeLine_eq
  obtain ⟨xs, ex, hxs⟩ := hx.at_
  obtain ⟨x1, hx1, x10, x11⟩ := hxs 1 (by decide)
  obtain ⟨x2, hx2, x20, x21⟩ := hxs 2 (by decide)
  obtain ⟨x3, hx3, x30, x31⟩ := hxs 3 (by decide)
  obtain ⟨x4, hx4, x40, x41⟩ := hxs 4 (by decide)
  obtain ⟨x5, hx5, x50, x51⟩ := hxs 5 (by decide)
  have es := ml.es
  have lks := ml.len
  have lkm : (ks.map fun x => V.ref x.a).length = M.steps.length := by rw [List.length_map]; exact lks
  refine cut (fun σ H' => σ = [some (.ref m), some (.ref ln), some (.ref lx), some (vN room), none, none, none, none, none, none] ∧ H = H' ∧ M.steps.length < room) (fun N hN => ?_) ?_
  · refine ⟨_, rfl, m, _, _, _, rfl, rfl, SqL.of ml.em, rfl, ls, _, rfl, .inl (SqL.of es), _, rfl, rfl, _, rfl, d2I (fun _ => q "" ks M H ml ok (.inl ⟨rfl, rfl⟩)) fun c => hN _ _ ⟨rfl, rfl, ?_⟩⟩
    have := ok.sr
    omega
  rintro σ H' ⟨rfl, rfl, sr⟩
  obtain ⟨w, hw, wd⟩ : ∃ w : Str, atI [V.str "cut", .str "rest", .str "warm"] (x1.fmod 3) = some (.str w) ∧ (w = "cut" ∨ w = "rest" ∨ w = "warm") := by
    obtain ⟨j, ej, jl⟩ := fmN (a := x1) (n := 3) (by decide)
    rw [ej]
    have jl : j < 3 := by omega
    match j, jl with
    | 0, _ => exact ⟨"cut", rfl, .inl rfl⟩
    | 1, _ => exact ⟨"rest", rfl, .inr (.inl rfl)⟩
    | 2, _ => exact ⟨"warm", rfl, .inr (.inr rfl)⟩
  have wl : w.length ≤ 12 := Wd3.len wd
  refine ⟨(by show 3 ≤ sizeLine; decide), fun l3 n3 => ⟨_, rfl, lx, _, _, _, rfl, rfl, SqL.of (same_new n3 _ _ _ ex), hx1, _, _, rfl, rfl, (by show (3 : Int) ≠ 0; decide), l3, _, _, _, rfl, rfl, SqL.of upd_same, hw, ?_⟩⟩
  have g3 := same_new n3 (.lst [.str "cut", .str "rest", .str "warm"])
  have ml3 := ml.same g3
  have en3 := g3 _ _ en
  have ex3 := g3 _ _ ex
  generalize upd H l3 (.lst [.str "cut", .str "rest", .str "warm"]) = H3 at g3 ml3 en3 ex3 ⊢
  have es3 := ml3.es
  have ei := fm12 (7 * ((ks.map fun x => V.ref x.a).length : Int)) (7 * M.steps.length) (by omega)
  obtain ⟨n, hn, nn⟩ := zz.at_ (i := 7 * M.steps.length % 12) (by omega)
  have nl := nn.len
  dsimp only [gName, tNext]
  refine ⟨_, rfl, _, rfl, m, _, _, _, rfl, rfl, SqL.of ml3.em, rfl, ls, _, rfl, .inl (SqL.of es3), _, _, rfl, rfl, IntMulOk.of_left (by decide), _, _, rfl, rfl, (by show (12 : Int) ≠ 0; decide), ln, _, _, _, rfl, rfl, SqL.of en3, (by rw [ei]; exact zs_at hn), ?_⟩
  dsimp only [gName, tNext]
  refine ⟨_, rfl, lx, _, _, _, rfl, rfl, SqL.of ex3, hx2, _, rfl, lx, _, _, _, rfl, rfl, SqL.of ex3, hx3, _, _, rfl, x20, x30, fun lo hi ll H4 g4 nll ell le => ?_⟩
  obtain ⟨b1, b2, b3⟩ := id le
  have l1 : (Str.ofString " ").length = 1 := by decide
  have ll1 := numT_len (n := lo) (by omega)
  have ll2 := numT_len (n := hi) (by omega)
  have ell' : H4 ll = some (.lst [vN lo, vN hi]) := ell
  dsimp only [gName, tNext]
  refine ⟨_, rfl, _, _, rfl, rfl, by omega, _, rfl, _, _, rfl, rfl, (by rw [Str.length_append]; omega), _, _, rfl, rfl, (by simp only [Str.length_append]; omega), _, rfl, ll, _, _, _, rfl, rfl, SqL.of ell', rfl, _, rfl, num_lg (by omega), ?_⟩
  rw [num_T]
  refine ⟨_, _, rfl, rfl, (by simp only [Str.length_append]; omega), _, _, rfl, rfl, (by simp only [Str.length_append]; omega), _, rfl, ll, _, _, _, rfl, rfl, SqL.of ell', rfl, _, rfl, num_lg (by omega), ?_⟩
  rw [num_T]
  refine ⟨_, _, rfl, rfl, (by simp only [Str.length_append]; omega), ?_⟩
  rw [cat4]
  have jl : (jB [w, n, numT lo, numT hi]).length ≤ 400 := row_len (fun z hz => by
    simp only [List.mem_cons, List.not_mem_nil, or_false] at hz
    rcases hz with rfl | rfl | rfl | rfl <;> omega) (by show 4 ≤ 6; decide)
  have ml4 := ml3.same g4
  dsimp only [gName, tNext]
  refine cut (fun σ H' => σ = [some (.ref m), some (.ref ln), some (.ref lx), some (vN room), some (.str w), some (.str n), some (.ref ll), some (.str (jB [w, n, numT lo, numT hi])), some .non, none] ∧ H4 = H') (fun N hN => hN _ _ ⟨rfl, rfl⟩) ?_
  rintro σ _ ⟨rfl, rfl⟩
  refine cut (fun σ H' => ∃ (fl : Option Am2) (f : V) (o : Option V), σ = [some (.ref m), some (.ref ln), some (.ref lx), some (vN room), some (.str w), some (.str n), some (.ref ll), some (.str (rrT (.step w n lo hi fl))), some f, o] ∧ Same H4 H' ∧ FlOk w fl ∧ FillA H' f fl) (fun N hN => ?_) ?_
  · refine ⟨_, rfl, rfl, _, rfl, eS2 (fun e => ?_) fun e => hN _ _ ⟨none, .non, none, rfl, .refl _, e, rfl⟩⟩
    refine ⟨_, rfl, lx, _, _, _, rfl, rfl, SqL.of (g4 _ _ ex3), hx4, _, rfl, lx, _, _, _, rfl, rfl, SqL.of (g4 _ _ ex3), hx5, _, _, rfl, x40, x41, x50, fun am t ta H5 g5 e1 e2 ag => ?_⟩
    have al := amT_len ag
    refine ⟨_, _, rfl, SqT.of e1, rfl, _, _, rfl, _, _, rfl, rfl, ?_⟩
    dsimp only [gName, tNext]
    refine ⟨_, rfl, _, _, rfl, rfl, (by show (jB [w, n, numT lo, numT hi]).length + 1 ≤ _; omega), _, rfl, _, _, rfl, rfl, (by rw [Str.length_append]; show (jB [w, n, numT lo, numT hi]).length + 1 + _ ≤ _; omega), hN _ _ ⟨some am, .ref ta, some (.str (amT am)), ?_, g5, ⟨e, ag⟩, ta, rfl, e2⟩⟩
    have cm := cat_more (ws := [w, n, numT lo, numT hi]) (by simp) (amT am)
    show [some (.ref m), some (.ref ln), some (.ref lx), some (vN room), some (.str w), some (.str n), some (.ref ll), some (.str (jB [w, n, numT lo, numT hi] ++ Str.ofString " " ++ amT am)), some (.ref ta), some (.str (amT am))] = _
    rw [cm]
    rfl
  rintro σ H5 ⟨fl, f, o, rfl, g5, fo, ff⟩
  have ml5 := ml4.same g5
  have es5 := ml5.es
  refine ⟨_, rfl, m, _, _, _, rfl, rfl, SqL.of ml5.em, rfl, .inl ⟨rfl, _, SqL.of es5⟩, _, rfl, _, rfl, _, rfl, _, rfl, (by show 0 ≤ sizeLine; decide), fun u nu => ⟨(by show 6 ≤ sizeLine; decide), fun a na => ?_⟩⟩
  have g6 := same_new nu (.lst [])
  have g7 := same_new na (.lst [.str w, .str n, .ref ll, f, .ref u, .non])
  have g67 := g6.trans g7
  have au : a ≠ u := fun z => by rw [z, upd_same] at na; cases na
  have hs : SL (upd (upd H5 u (.lst [])) a (.lst [.str w, .str n, .ref ll, f, .ref u, .non])) ⟨a, u, none⟩ ⟨w, n, lo, hi, fl, [], none⟩ := by
    refine ⟨ll, f, .non, upd_same, g67 _ _ (g5 _ _ ell), ?_, ⟨[], g7 _ _ upd_same, A2.nil⟩, rfl⟩
    cases fl with
    | none => exact ff
    | some am => obtain ⟨ta, e1, e2⟩ := ff; exact ⟨ta, e1, g67 _ _ e2⟩
  have ml8 := ml5.step g67 hs (fun x hx => by
    simp only [Sk.own, secOwn, List.mem_cons, List.not_mem_nil, or_false] at hx
    rcases hx with rfl | rfl
    · exact g6.free na
    · exact nu) (by simp [Sk.own, secOwn, au])
  refine ⟨ls, _, _, rfl, rfl, g67 _ _ es5, by omega, ⟨_, rfl, q _ _ _ _ ml8 (ok.step sr ⟨hn, wd, le, fo, ⟨by simp, fun i x h => by simp at h⟩, fun x h => nomatch h⟩) (.inr ⟨.step w n lo hi fl, rfl, ⟨wd, nn, le, fo⟩, put_step ok r12 zz hn sr⟩)⟩⟩

set_option maxHeartbeats 4000000 in
theorem ok_law_second {dV : Value} (F : FunD K "_law_second" "_law_second" s_law_second dV f fd) (D_law_lengths : Dx P w K mg base CX0 1 "_law_lengths" ["_law_a", "_law_b"] [] spLens) : FnOk P w K mg base CX0 2 f fd ["_law_step_here", "_law_xs"] spSecondL := by
  have sc : FnScope ["_law_step_here", "_law_xs", "_law_lengths_here"] ["_law_step_here", "_law_xs"] (defScope s_law_second) := scK (by decide +kernel)
  refine F.ok sc (fun vs H Q E h => ?_) (fun cdv A outer s H vs Q E hr h => ?_)
  · obtain ⟨_, _, _, rfl, _⟩ := h
    rfl
  obtain ⟨⟨a, u, o⟩, ⟨w, n, lo, hi, fl, us, sec⟩, lx, rfl, hs, nd, nl, hx, q0, q1⟩ := h
  refine ⟨_, (pss_cons (ps_if (pt_cmpR op_notN (pe_ix ix_list (pv 0) pe_int (fun _ _ => rfl)) pe_non (nomark _)) (pss_one (ps_ret pe_str)) pss_nil) (pss_cons (ps_set (i := 2) sc.nd rfl (Or.inl rfl) (pcall0 D_law_lengths hr (by decide) rfl (@pa_cons _ _ _ _ _ (pe_ix ix_list (pv 1) pe_int (fun _ _ => rfl)) (@pa_cons _ _ _ _ _ (pe_ix ix_list (pv 1) pe_int (fun _ _ => rfl)) pa_nil rfl) rfl))) (pss_cons (ps_asg (@pe_lst _ _ _ _ (@pa_cons _ _ _ _ _ (pv 2) (@pa_cons _ _ _ _ _ (@pe_lst _ _ _ _ pa_nil) pa_nil rfl) rfl)) (pg_sub (pv 0) pe_int set_list)) (pss_one (ps_ret (pe_op op_add_str (pe_op op_add_str (pe_op op_add_str (pe_op op_add_str (pe_op op_add_str pe_str (pe_ix ix_list (pv 0) pe_int (fun _ _ => rfl))) pe_str) (pe_callTy call_str_int rfl B.b_str boot_str (@pa_cons _ _ _ _ _ (pe_ix ix_list (pv 2) pe_int (fun _ _ => rfl)) pa_nil rfl))) pe_str) (pe_callTy call_str_int rfl B.b_str boot_str (@pa_cons _ _ _ _ _ (pe_ix ix_list (pv 2) pe_int (fun _ _ => rfl)) pa_nil rfl)))))))), ?_⟩
  try dsimp only [cxK]
  have sl : sizeLine = 16777216 := sizeLine_eq
  obtain ⟨xs, ex, hxs⟩ := hx.at_
  obtain ⟨x2, hx2, x20, x21⟩ := hxs 2 (by decide)
  obtain ⟨x3, hx3, x30, x31⟩ := hxs 3 (by decide)
  obtain ⟨l, f, v, ea, el, ef, eu, es⟩ := id hs
  dsimp only at ea el ef eu es nl nd
  match o, sec, es with
  | some (b, u2), some (lo2, hi2, us2), ⟨l2, e1, e2, e3, e4⟩ =>
    subst e1
    exact ⟨_, rfl, a, _, _, _, rfl, rfl, SqL.of ea, rfl, rfl, _, rfl, nT (fun z => nomatch z) (q0 _ (.refl _))⟩
  | none, none, es =>
  have es : v = .non := es
  subst es
  refine cut (fun σ H' => σ = [some (.ref a), some (.ref lx), none] ∧ H = H') (fun N hN => ?_) ?_
  · exact ⟨_, rfl, a, _, _, _, rfl, rfl, SqL.of ea, rfl, rfl, _, rfl, nF rfl (hN _ _ ⟨rfl, rfl⟩)⟩
  rintro σ _ ⟨rfl, rfl⟩
  refine ⟨_, rfl, lx, _, _, _, rfl, rfl, SqL.of ex, hx2, _, rfl, lx, _, _, _, rfl, rfl, SqL.of ex, hx3, _, _, rfl, x20, x30, fun lo2 hi2 ll H1 g1 nll ell le => ?_⟩
  obtain ⟨b1, b2, b3⟩ := id le
  have ea1 := g1 _ _ ea
  dsimp only [gName, tNext]
  refine ⟨_, rfl, (by show 0 ≤ sizeLine; decide), fun u2 nu2 => ⟨(by show 2 ≤ sizeLine; decide), fun b nb => ?_⟩⟩
  have g2 := same_new nu2 (.lst [])
  have g3 := same_new nb (.lst [.ref ll, .ref u2])
  have g23 := g2.trans g3
  have g13 := g1.trans g23
  have eb : upd (upd H1 u2 (.lst [])) b (.lst [.ref ll, .ref u2]) b = some (.lst [.ref ll, .ref u2]) := upd_same
  have eu2 : upd (upd H1 u2 (.lst [])) b (.lst [.ref ll, .ref u2]) u2 = some (.lst []) := g3 _ _ upd_same
  have ell3 := g23 _ _ ell
  have ub : u2 ≠ b := fun z => by rw [← z, upd_same] at nb; cases nb
  have nb1 := g2.free nb
  have ea3 := g23 _ _ ea1
  have au2 : u2 ≠ a := fun z => by rw [z, ea1] at nu2; cases nu2
  have ab : b ≠ a := fun z => by rw [z, ea1] at nb1; cases nb1
  have ellx : ll ≠ a := fun z => by rw [z, ea] at nll; cases nll
  dsimp only [gName, tNext]
  generalize upd (upd H1 u2 (.lst [])) b (.lst [.ref ll, .ref u2]) = H3 at g23 g13 eb eu2 ell3 ea3 ⊢
  refine ⟨_, rfl, a, _, _, 5, rfl, rfl, ea3, rfl, ?_⟩
  have hs3 := (kp_nil g13).sl (fun b hb => nomatch hb) hs fun b _ z => nomatch z
  have kp : Kp [a] H3 (upd H3 a (.lst [.str w, .str n, .ref l, f, .ref u, .ref b])) := (Kp.refl [a] H3).put (x := a) (List.mem_singleton.mpr rfl) _
  have fq : Fq [a] H3 := fq_one ⟨_, ea3, fun i j z => by simp at z⟩
  have ua : u ≠ a := fun z => by rw [z] at nd; simp [Sk.own] at nd
  have hs4 : SL (upd H3 a (.lst [.str w, .str n, .ref l, f, .ref u, .ref b])) ⟨a, u, some (b, u2)⟩ ⟨w, n, lo, hi, fl, us, some (lo2, hi2, [])⟩ := by
    obtain ⟨l', f', v', j1, j2, j3, j4, j5⟩ := hs3
    rw [ea3] at j1
    cases j1
    exact ⟨l, f, .ref b, upd_same, kp.lens fq j2, kp.fill fq j3, kp.rtup fq j4 (by simpa using ua), ll, rfl, by rw [upd_ne ab]; exact eb, by rw [upd_ne ellx]; exact ell3, [], by rw [upd_ne au2]; exact eu2, A2.nil⟩
  have kp2 : Kp (⟨a, u, none⟩ : Sk).own H (upd H3 a (.lst [.str w, .str n, .ref l, f, .ref u, .ref b])) := fun x o e nx => by
    rw [upd_ne (fun z => nx (by rw [z]; simp [Sk.own]))]
    exact g13 _ _ e
  dsimp only [gName, tNext]
  change L2.tRet _ _ _ (upd H3 a (.lst [.str w, .str n, .ref l, f, .ref u, .ref b]))
  have ea5 : upd H3 a (.lst [.str w, .str n, .ref l, f, .ref u, .ref b]) a = some (.lst [.str w, .str n, .ref l, f, .ref u, .ref b]) := upd_same
  have el5 : upd H3 a (.lst [.str w, .str n, .ref l, f, .ref u, .ref b]) ll = some (.lst [vN lo2, vN hi2]) := by rw [upd_ne ellx]; exact ell3
  have l1 : (Str.ofString " ").length = 1 := by decide
  have l3 : (Str.ofString "or ").length = 3 := by decide
  have ll1 := numT_len (n := lo2) (by omega)
  have ll2 := numT_len (n := hi2) (by omega)
  refine ⟨_, rfl, a, _, _, _, rfl, rfl, SqL.of ea5, rfl, _, _, rfl, rfl, (by omega), _, _, rfl, rfl, (by rw [Str.length_append]; omega), _, rfl, ll, _, _, _, rfl, rfl, SqL.of el5, rfl, _, rfl, num_lg (by omega), ?_⟩
  rw [num_T]
  refine ⟨_, _, rfl, rfl, (by simp only [Str.length_append]; omega), _, _, rfl, rfl, (by simp only [Str.length_append]; omega), _, rfl, ll, _, _, _, rfl, rfl, SqL.of el5, rfl, _, rfl, num_lg (by omega), ?_⟩
  rw [num_T]
  refine ⟨_, _, rfl, rfl, (by simp only [Str.length_append]; omega), ?_⟩
  rw [cat_or]
  refine q1 _ ⟨a, u, some (b, u2)⟩ _ _ kp2 hs4 rfl (fun x hx => ?_) ?_ ⟨lo2, hi2, rfl, le, rfl, rfl⟩
  · simp only [Sk.own, secOwn, List.mem_cons, List.not_mem_nil, or_false] at hx ⊢
    rcases hx with h | h | h | h
    · exact .inl (.inl h)
    · exact .inl (.inr h)
    · rw [h]; exact .inr (g1.free nb1)
    · rw [h]; exact .inr (g1.free nu2)
  · obtain ⟨vu, eu', _⟩ := eu
    have eu1 := g1 _ _ eu'
    have bu : u ≠ b := fun z => by rw [← z, eu1] at nb1; cases nb1
    have uu : u ≠ u2 := fun z => by rw [← z, eu1] at nu2; cases nu2
    simp only [Sk.own, secOwn, List.nodup_cons, List.mem_cons, List.not_mem_nil, or_false, not_or, not_false_eq_true, and_true, List.nodup_nil]
    exact ⟨⟨ua.symm, ab.symm, au2.symm⟩, ⟨bu, uu⟩, ub.symm⟩

set_option maxHeartbeats 4000000 in
theorem ok_law_use {dV : Value} (F : FunD K "_law_use" "_law_use" s_law_use dV f fd)  : FnOk P w K mg base CX0 1 f fd ["_law_step_here", "_law_word", "_law_names_here", "_law_xs"] spUseL := by
  have sc : FnScope ["_law_step_here", "_law_word", "_law_names_here", "_law_xs", "_law_uses", "_law_tool", "_law_use_here", "_law_tail"] ["_law_step_here", "_law_word", "_law_names_here", "_law_xs"] (defScope s_law_use) := scK (by decide +kernel)
  refine F.ok sc (fun vs H Q E h => ?_) (fun cdv A outer s H vs Q E hr h => ?_)
  · obtain ⟨_, _, _, _, _, _, rfl, _⟩ := h
    rfl
  obtain ⟨⟨a, u, so⟩, ⟨w, n, lo, hi, fl, us, sec⟩, o, ln, lx, zs, rfl, hs, nd, nl, en, zz, ul, ul2, hx, q0, q1⟩ := h
  refine ⟨_, (pss_cons (ps_set (i := 4) sc.nd rfl (Or.inl rfl) (pe_ix ix_list (pv 0) pe_int (fun _ _ => rfl))) (pss_cons (ps_if (pt_cmpR op_eq (pv 1) pe_str (nomark _)) (pss_cons (ps_if (pt_cmpR op_isN (pe_ix ix_list (pv 0) pe_int (fun _ _ => rfl)) pe_non (nomark _)) (pss_one (ps_ret pe_str)) pss_nil) (pss_one (ps_set (i := 4) sc.nd rfl (Or.inl rfl) (pe_ix ix_list (pe_ix ix_list (pv 0) pe_int (fun _ _ => rfl)) pe_int (fun _ _ => rfl))))) pss_nil) (pss_cons (ps_if (pt_cmpR op_eq (pe_callB call_len_seq rfl B.b_len boot_len (@pa_cons _ _ _ _ _ (pv 4) pa_nil rfl)) pe_int (nomark _)) (pss_one (ps_ret pe_str)) pss_nil) (pss_cons (ps_set (i := 5) sc.nd rfl (Or.inl rfl) (pe_ix ix_list (pv 2) (pe_op op_modN (pe_op op_add (pe_op op_mulB pe_int (pe_callB call_len_seq rfl B.b_len boot_len (@pa_cons _ _ _ _ _ (pv 4) pa_nil rfl))) pe_int) pe_int) (fun _ _ => rfl))) (pss_cons (ps_set (i := 6) sc.nd rfl (Or.inl rfl) (@pe_tup _ _ _ _ _ (@pa_cons _ _ _ _ _ (pv 5) (@pa_cons _ _ _ _ _ (pe_op op_add pe_int (pe_op op_modN (pe_ix ix_list (pv 3) pe_int (fun _ _ => rfl)) pe_int)) (@pa_cons _ _ _ _ _ (pe_ix ix_list (@pe_lst _ _ _ _ (@pa_cons _ _ _ _ _ (pe_op op_modN (pe_ix ix_list (pv 3) pe_int (fun _ _ => rfl)) pe_int) (@pa_cons _ _ _ _ _ pe_int (@pa_cons _ _ _ _ _ pe_int (@pa_cons _ _ _ _ _ pe_int pa_nil rfl) rfl) rfl) rfl)) (pe_op op_modN (pe_ix ix_list (pv 3) pe_int (fun _ _ => rfl)) pe_int) (fun _ _ => rfl)) pa_nil rfl) rfl) rfl))) (pss_cons (ps_expr (pe_bm PySem.F.plainAttrs_list PySem.F.slot_list_append PySem.F.type_list_append mt_append (pv 4) (@pa_cons _ _ _ _ _ (pv 6) pa_nil rfl))) (pss_cons (ps_set (i := 7) sc.nd rfl (Or.inl rfl) (pe_op op_add_str (pe_op op_add_str (pe_op op_add_str pe_str (pe_callTy call_str_int rfl B.b_str boot_str (@pa_cons _ _ _ _ _ (pe_ix ix_tup (pv 6) pe_int (fun _ _ => rfl)) pa_nil rfl))) pe_str) (pe_callTy call_str_int rfl B.b_str boot_str (@pa_cons _ _ _ _ _ (pe_ix ix_tup (pv 6) pe_int (fun _ _ => rfl)) pa_nil rfl)))) (pss_one (ps_ret (pe_op op_add_str (pe_op op_add_str (pe_op op_add_str (pe_op op_add_str (pe_op op_add_str (pv 1) pe_str) (pe_ix ix_list (pv 0) pe_int (fun _ _ => rfl))) pe_str) (pv 5)) (pv 7))))))))))), ?_⟩
  try dsimp only [cxK]
  have sl : sizeLine = 16777216 := sizeLine_eq
  obtain ⟨xs, ex, hxs⟩ := hx.at_
  obtain ⟨x2, hx2, x20, x21⟩ := hxs 2 (by decide)
  obtain ⟨x3, hx3, x30, x31⟩ := hxs 3 (by decide)
  obtain ⟨x4, hx4, x40, x41⟩ := hxs 4 (by decide)
  obtain ⟨l, f, v, ea, el, ef, eu, es⟩ := id hs
  dsimp only at ea el ef eu es nl nd q0 q1 ul ul2
  obtain ⟨wd, ewd⟩ : ∃ wd : Str, wd = if o = true then Str.ofString "orwith" else Str.ofString "with" := ⟨_, rfl⟩
  rw [← ewd] at q1 ⊢
  have wdl : wd.length ≤ 6 := by rw [ewd]; cases o <;> decide
  refine ⟨_, rfl, a, _, _, _, rfl, rfl, SqL.of ea, rfl, ?_⟩
  dsimp only [gName, tNext]
  refine cut (fun σ H' => ∃ (uu : Addr) (uus : List Use3), σ = [some (.ref a), some (.str wd), some (.ref ln), some (.ref lx), some (.ref uu), none, none, none] ∧ H = H' ∧ Uz H uu uus ∧ uus.length ≤ 12 ∧ if o = true then ∃ b lo2 hi2, so = some (b, uu) ∧ sec = some (lo2, hi2, uus) else uu = u ∧ uus = us) (fun N hN => ?_) ?_
  · refine ⟨_, rfl, rfl, _, rfl, eS2 (fun e => ?_) fun e => hN _ _ ⟨u, us, rfl, rfl, eu, ul, ?_⟩⟩
    · have ho : o = true := by
        cases o with
        | true => rfl
        | false => rw [ewd] at e; exact absurd e (by decide)
      match so, sec, es with
      | none, none, es =>
        have es : v = .non := es
        subst es
        exact ⟨_, rfl, a, _, _, _, rfl, rfl, SqL.of ea, rfl, rfl, _, rfl, dT rfl (q0 _ (.refl _))⟩
      | some (b, u2), some (lo2, hi2, us2), ⟨l2, e1, e2, e3, e4⟩ =>
        subst e1
        refine ⟨_, rfl, a, _, _, _, rfl, rfl, SqL.of ea, rfl, rfl, _, rfl, dF (fun z => nomatch z) ?_⟩
        exact ⟨_, rfl, a, _, _, _, rfl, rfl, SqL.of ea, rfl, b, _, _, _, rfl, rfl, SqL.of e2, rfl, hN _ _ ⟨u2, us2, rfl, rfl, e4, ul2 _ rfl, by rw [if_pos ho]; exact ⟨b, lo2, hi2, rfl, rfl⟩⟩⟩
    · have ho : o = false := by
        cases o with
        | true => exact absurd (by rw [ewd]; rfl) e
        | false => rfl
      rw [ho]
      exact ⟨rfl, rfl⟩
  rintro σ _ ⟨uu, uus, rfl, rfl, ⟨vu, euu, ru⟩, l12, hO⟩
  have lvu := ru.1
  refine cut (fun σ H' => σ = [some (.ref a), some (.str wd), some (.ref ln), some (.ref lx), some (.ref uu), none, none, none] ∧ H = H' ∧ uus.length ≠ 12) (fun N hN => ?_) ?_
  · exact ⟨_, rfl, uu, _, rfl, .inl (SqL.of euu), rfl, _, rfl, d2I (fun _ => q0 _ (.refl _)) fun c => hN _ _ ⟨rfl, rfl, by omega⟩⟩
  rintro σ _ ⟨rfl, rfl, n12⟩
  have ei := fm12 (5 * (vu.length : Int) + 3) (5 * uus.length + 3) (by omega)
  obtain ⟨g, hg, ng⟩ := zz.at_ (i := (5 * uus.length + 3) % 12) (by omega)
  have gl := ng.len
  refine ⟨_, rfl, _, rfl, uu, _, rfl, .inl (SqL.of euu), _, _, rfl, rfl, IntMulOk.of_left (by decide), _, _, rfl, rfl, _, _, rfl, rfl, (by show (12 : Int) ≠ 0; decide), ln, _, _, _, rfl, rfl, SqL.of en, (by rw [ei]; exact zs_at hg), ?_⟩
  dsimp only [gName, tNext]
  have m8 := fm (a := x2) (n := 8) (by decide)
  have m1 := fm (a := x3) (n := 1001) (by decide)
  obtain ⟨h, hv, h9⟩ : ∃ h : Nat, atI [V.int (x3.fmod 1001), .int 0, .int 1000, .int 180] (x4.fmod 4) = some (vN h) ∧ h ≤ 1000 := by
    obtain ⟨j, ej, jl⟩ := fmN (a := x4) (n := 4) (by decide)
    rw [ej]
    have jl : j < 4 := by omega
    match j, jl with
    | 0, _ => exact ⟨(x3.fmod 1001).toNat, congrArg some (congrArg V.int (by omega)), by omega⟩
    | 1, _ => exact ⟨0, rfl, by decide⟩
    | 2, _ => exact ⟨1000, rfl, by decide⟩
    | 3, _ => exact ⟨180, rfl, by decide⟩
  obtain ⟨k, ek⟩ : ∃ k : Nat, 1 + x2.fmod 8 = (k : Int) := ⟨(1 + x2.fmod 8).toNat, by omega⟩
  have k1 : 1 ≤ k ∧ k ≤ 8 := by omega
  refine ⟨_, rfl, _, rfl, lx, _, _, _, rfl, rfl, SqL.of ex, hx2, _, _, rfl, rfl, (by show (8 : Int) ≠ 0; decide), _, _, rfl, rfl, _, rfl, lx, _, _, _, rfl, rfl, SqL.of ex, hx3, _, _, rfl, rfl, (by show (1001 : Int) ≠ 0; decide), (by show 4 ≤ sizeLine; decide), fun l4 n4 => ⟨_, rfl, lx, _, _, _, rfl, rfl, SqL.of (same_new n4 _ _ _ ex), hx4, _, _, rfl, rfl, (by show (4 : Int) ≠ 0; decide), l4, _, _, _, rfl, rfl, SqL.of upd_same, hv, (by show 3 ≤ sizeLine; decide), fun tp ntp => ?_⟩⟩
  have g4 := same_new n4 (.lst [V.int (x3.fmod 1001), .int 0, .int 1000, .int 180])
  dsimp only at ntp ⊢
  rw [ek]
  have g5 := g4.trans (same_new ntp (.tup [.str g, .int (k : Int), vN h]))
  have etp : upd (upd H l4 (.lst [V.int (x3.fmod 1001), .int 0, .int 1000, .int 180])) tp (.tup [.str g, .int (k : Int), vN h]) tp = some (.tup (uzV (g, k, h))) := upd_same
  dsimp only [gName, tNext]
  generalize upd (upd H l4 (.lst [V.int (x3.fmod 1001), .int 0, .int 1000, .int 180])) tp (.tup [.str g, .int (k : Int), vN h]) = H5 at g5 etp ⊢
  have euu5 := g5 _ _ euu
  have ea5 := g5 _ _ ea
  have hs5 := hs.same g5
  refine ⟨_, rfl, .inl ⟨rfl, _, SqL.of euu5⟩, _, rfl, uu, _, _, rfl, rfl, euu5, by omega, ?_⟩
  have refsu : ∃ vs, H5 uu = some (.lst vs) ∧ ∀ i j : Int, vs ≠ [.int i, .int j] := LsA.refs (f := uzV) (P := An) ⟨vu, euu5, ru.imp fun _ _ q => mvS q g5⟩
  have fq := fq_one refsu
  have kp := (Kp.refl [uu] H5).put (x := uu) (List.mem_singleton.mpr rfl) (.lst (vu ++ [.ref tp]))
  have etp6 := kp.tup fq etp
  have hu6 : Uz (upd H5 uu (.lst (vu ++ [.ref tp]))) uu (uus ++ [(g, k, h)]) := ⟨_, upd_same, (ru.imp fun v x ⟨t, e1, e2, e3⟩ => ⟨t, e1, e2, kp.tup fq (g5 _ _ e3)⟩).snoc ⟨tp, rfl, trivial, etp6⟩⟩
  have ndo := nd
  simp only [Sk.own, List.nodup_cons, List.mem_cons, not_or] at ndo
  have uua : a ≠ uu := fun z => by
    cases o with
    | false => exact ndo.1.1 (z.trans hO.1)
    | true =>
      obtain ⟨b, lo2, hi2, e1, _⟩ := hO
      rw [e1] at ndo
      exact ndo.1.2 (by rw [z]; simp [secOwn])
  have ea6 : upd H5 uu (.lst (vu ++ [.ref tp])) a = some (.lst [.str w, .str n, .ref l, f, .ref u, v]) := by rw [upd_ne uua]; exact ea5
  have uin : uu ∈ (⟨a, u, so⟩ : Sk).own := by
    cases o with
    | false => rw [hO.1]; simp [Sk.own]
    | true =>
      obtain ⟨b, lo2, hi2, e1, _⟩ := hO
      rw [e1]
      simp [Sk.own, secOwn]
  have kp2 : Kp (⟨a, u, so⟩ : Sk).own H (upd H5 uu (.lst (vu ++ [.ref tp]))) := (kp_nilF g5).put uin _
  have hs6 : ∃ s', SL (upd H5 uu (.lst (vu ++ [.ref tp]))) ⟨a, u, so⟩ s' ∧ if o = true then ∃ lo2 hi2 us2, sec = some (lo2, hi2, us2) ∧ us2.length ≠ 12 ∧ zs[(5 * us2.length + 3) % 12]? = some g ∧ s' = ⟨w, n, lo, hi, fl, us, some (lo2, hi2, us2 ++ [(g, k, h)])⟩ else us.length ≠ 12 ∧ zs[(5 * us.length + 3) % 12]? = some g ∧ s' = ⟨w, n, lo, hi, fl, us ++ [(g, k, h)], sec⟩ := by
    obtain ⟨l', f', v', j1, j2, j3, j4, j5⟩ := hs5
    dsimp only at j1 j2 j3 j4 j5
    rw [ea5] at j1
    cases j1
    cases o with
    | false =>
      obtain ⟨rfl, rfl⟩ := hO
      refine ⟨⟨w, n, lo, hi, fl, uus ++ [(g, k, h)], sec⟩, ⟨l, f, v, ea6, kp.lens fq j2, kp.fill fq j3, hu6, kp.secL fq j5 fun b hb => ?_⟩, n12, hg, rfl⟩
      rw [List.mem_singleton]
      exact fun z => ndo.2.1 (z ▸ hb)
    | true =>
      obtain ⟨b, lo2, hi2, rfl, rfl⟩ := hO
      obtain ⟨l2, e1, e2, e3, e4⟩ := j5
      simp only [secOwn, List.mem_cons, List.not_mem_nil, or_false, not_or, List.nodup_cons] at ndo
      have bu : b ≠ uu := ndo.2.2.1
      refine ⟨⟨w, n, lo, hi, fl, us, some (lo2, hi2, uus ++ [(g, k, h)])⟩, ⟨l, f, v, ea6, kp.lens fq j2, kp.fill fq j3, kp.rtup fq j4 (by simpa using ndo.2.1.2), l2, e1, by rw [upd_ne bu]; exact e2, kp.lens fq e3, hu6⟩, lo2, hi2, uus, rfl, n12, hg, rfl⟩
  obtain ⟨s', hs6, hO6⟩ := hs6
  have etp7 : upd H5 uu (.lst (vu ++ [.ref tp])) tp = some (.tup [.str g, vN k, vN h]) := etp6
  dsimp only [gName, tNext]
  have l1 : (Str.ofString " ").length = 1 := by decide
  have ll1 := numT_len (n := k) (by omega)
  have ll2 := numT_len (n := h) (by omega)
  refine ⟨_, rfl, tp, _, _, _, rfl, rfl, SqT.of etp7, rfl, _, rfl, num_lg (by omega), ?_⟩
  rw [num_T]
  refine ⟨_, _, rfl, rfl, (by omega), _, _, rfl, rfl, (by rw [Str.length_append]; omega), _, rfl, tp, _, _, _, rfl, rfl, SqT.of etp7, rfl, _, rfl, num_lg (by omega), ?_⟩
  rw [num_T]
  refine ⟨_, _, rfl, rfl, (by simp only [Str.length_append]; omega), ?_⟩
  dsimp only [gName, tNext]
  refine ⟨_, rfl, _, _, rfl, rfl, (by omega), _, rfl, a, _, _, _, rfl, rfl, SqL.of ea6, rfl, _, _, rfl, rfl, (by rw [Str.length_append]; omega), _, _, rfl, rfl, (by simp only [Str.length_append]; omega), _, rfl, _, _, rfl, rfl, (by simp only [Str.length_append]; omega), _, rfl, _, _, rfl, rfl, (by simp only [Str.length_append]; omega), ?_⟩
  rw [cat_use]
  exact q1 _ ⟨a, u, so⟩ s' _ kp2 hs6 rfl (fun x hx => .inl hx) nd ⟨(g, k, h), rfl, k1.1, k1.2, h9, hO6⟩

set_option maxHeartbeats 4000000 in
theorem ok_law_link {dV : Value} (F : FunD K "_law_link" "_law_link" s_law_link dV f fd)  : FnOk P w K mg base CX0 1 f fd ["_law_model", "_law_xs"] spLinkL := by
  have sc : FnScope ["_law_model", "_law_xs", "_law_many", "_law_at", "_law_word", "_law_turns", "_law_link_here", "_law_one", "_law_two", "_law_row_here"] ["_law_model", "_law_xs"] (defScope s_law_link) := scK (by decide +kernel)
  refine F.ok sc (fun vs H Q E h => ?_) (fun cdv A outer s H vs Q E hr h => ?_)
  · obtain ⟨_, _, _, _, _, _, _, _, _, _, rfl, _⟩ := h
    rfl
  obtain ⟨G, m, lt, ls, lk, lx, ks, M, zs, room, rfl, r12, ml, ok, zz, hx, q⟩ := h
  refine ⟨_, (pss_cons (ps_set (i := 2) sc.nd rfl (Or.inl rfl) (pe_callB call_len_seq rfl B.b_len boot_len (@pa_cons _ _ _ _ _ (pe_ix ix_list (pv 0) pe_int (fun _ _ => rfl)) pa_nil rfl))) (pss_cons (ps_if (PW.pt (pw_or (pt_cmpR op_lt (pv 2) pe_int (nomark _)) (pw_or1 (pt_cmpR op_eq (pe_callB call_len_seq rfl B.b_len boot_len (@pa_cons _ _ _ _ _ (pe_ix ix_list (pv 0) pe_int (fun _ _ => rfl)) pa_nil rfl)) pe_int (nomark _))))) (pss_one (ps_ret pe_str)) pss_nil) (pss_cons (ps_set (i := 3) sc.nd rfl (Or.inl rfl) (pe_op op_modN (pe_ix ix_list (pv 1) pe_int (fun _ _ => rfl)) (pv 2))) (pss_cons (ps_set (i := 4) sc.nd rfl (Or.inl rfl) (pe_ix ix_list (@pe_lst _ _ _ _ (@pa_cons _ _ _ _ _ pe_str (@pa_cons _ _ _ _ _ pe_str (@pa_cons _ _ _ _ _ pe_str pa_nil rfl) rfl) rfl)) (pe_op op_modN (pe_ix ix_list (pv 1) pe_int (fun _ _ => rfl)) pe_int) (fun _ _ => rfl))) (pss_cons (ps_set (i := 5) sc.nd rfl (Or.inl rfl) pe_int) (pss_cons (ps_if (pt_cmpR op_eq (pv 4) pe_str (nomark _)) (pss_one (ps_set (i := 5) sc.nd rfl (Or.inl rfl) (pe_ix ix_list (@pe_lst _ _ _ _ (@pa_cons _ _ _ _ _ (pe_op op_modN (pe_ix ix_list (pv 1) pe_int (fun _ _ => rfl)) pe_int) (@pa_cons _ _ _ _ _ pe_int (@pa_cons _ _ _ _ _ pe_int (@pa_cons _ _ _ _ _ (pe_op op_modN (pe_ix ix_list (pv 1) pe_int (fun _ _ => rfl)) pe_int) pa_nil rfl) rfl) rfl) rfl)) (pe_op op_modN (pe_ix ix_list (pv 1) pe_int (fun _ _ => rfl)) pe_int) (fun _ _ => rfl)))) pss_nil) (pss_cons (ps_set (i := 6) sc.nd rfl (Or.inl rfl) (@pe_tup _ _ _ _ _ (@pa_cons _ _ _ _ _ (pv 4) (@pa_cons _ _ _ _ _ (pv 3) (@pa_cons _ _ _ _ _ (pe_op op_modN (pe_op op_add (pe_op op_add (pv 3) pe_int) (pe_op op_modN (pe_ix ix_list (pv 1) pe_int (fun _ _ => rfl)) (pe_op op_sub (pv 2) pe_int))) (pv 2)) (@pa_cons _ _ _ _ _ (pv 5) pa_nil rfl) rfl) rfl) rfl))) (pss_cons (ps_if (PW.pt (pw_and (pt_cmpR op_eq (pe_op op_modN (pe_ix ix_list (pv 1) pe_int (fun _ _ => rfl)) pe_int) pe_int (nomark _)) (pw_and1 (pt_cmpR (op_neNil hr.units0) (pe_ix ix_list (pv 0) pe_int (fun _ _ => rfl)) (@pe_lst _ _ _ _ pa_nil) (nomark _))))) (pss_one (ps_set (i := 6) sc.nd rfl (Or.inl rfl) (pe_ix ix_list (pe_ix ix_list (pv 0) pe_int (fun _ _ => rfl)) (pe_un un_neg pe_int) (fun _ _ => rfl)))) pss_nil) (pss_cons (ps_set (i := 7) sc.nd rfl (Or.inl rfl) (pe_ix ix_list (pe_ix ix_list (pe_ix ix_list (pv 0) pe_int (fun _ _ => rfl)) (pe_ix ix_tup (pv 6) pe_int (fun _ _ => rfl)) (fun _ _ => rfl)) pe_int (fun _ _ => rfl))) (pss_cons (ps_set (i := 8) sc.nd rfl (Or.inl rfl) (pe_ix ix_list (pe_ix ix_list (pe_ix ix_list (pv 0) pe_int (fun _ _ => rfl)) (pe_ix ix_tup (pv 6) pe_int (fun _ _ => rfl)) (fun _ _ => rfl)) pe_int (fun _ _ => rfl))) (pss_cons (ps_set (i := 9) sc.nd rfl (Or.inl rfl) (pe_op op_add_str (pe_op op_add_str (pe_op op_add_str (pe_op op_add_str (pe_ix ix_tup (pv 6) pe_int (fun _ _ => rfl)) pe_str) (pv 7)) pe_str) (pv 8))) (pss_cons (ps_if (pt_cmpR op_eq (pe_ix ix_tup (pv 6) pe_int (fun _ _ => rfl)) pe_str (nomark _)) (pss_one (ps_set (i := 9) sc.nd rfl (Or.inl rfl) (pe_op op_add_str (pe_op op_add_str (pv 9) pe_str) (pe_callTy call_str_int rfl B.b_str boot_str (@pa_cons _ _ _ _ _ (pe_ix ix_tup (pv 6) pe_int (fun _ _ => rfl)) pa_nil rfl))))) pss_nil) (pss_cons (ps_expr (pe_bm PySem.F.plainAttrs_list PySem.F.slot_list_append PySem.F.type_list_append mt_append (pe_ix ix_list (pv 0) pe_int (fun _ _ => rfl)) (@pa_cons _ _ _ _ _ (pv 6) pa_nil rfl))) (pss_one (ps_ret (pv 9)))))))))))))))), ?_⟩
  try dsimp only [cxK]
  have sl : sizeLine = 16777216 := sizeLine_eq
  obtain ⟨xs, ex, hxs⟩ := hx.at_
  obtain ⟨x1, hx1, x10, x11⟩ := hxs 1 (by decide)
  obtain ⟨x2, hx2, x20, x21⟩ := hxs 2 (by decide)
  obtain ⟨x3, hx3, x30, x31⟩ := hxs 3 (by decide)
  obtain ⟨x4, hx4, x40, x41⟩ := hxs 4 (by decide)
  obtain ⟨x5, hx5, x50, x51⟩ := hxs 5 (by decide)
  have es := ml.es
  have lks := ml.len
  have k24 := ok.k24
  have sr := ok.sr
  have lkm : (ks.map fun x => V.ref x.a).length = M.steps.length := by rw [List.length_map]; exact lks
  obtain ⟨vk, ek, rk⟩ := id ml.ek
  have lvk := rk.1
  refine ⟨_, rfl, m, _, _, _, rfl, rfl, SqL.of ml.em, rfl, ls, _, rfl, .inl (SqL.of es), ?_⟩
  dsimp only [gName, tNext]
  rw [lkm]
  obtain ⟨many, em⟩ : ∃ many, many = M.steps.length := ⟨_, rfl⟩
  rw [← em]
  refine cut (fun σ H' => σ = [some (.ref m), some (.ref lx), some (vN many), none, none, none, none, none, none, none] ∧ H = H' ∧ 2 ≤ many ∧ M.links.length < 24) (fun N hN => ?_) ?_
  · refine ⟨_, rfl, _, _, rfl, rfl, _, rfl, d2 (fun _ => q "" ks M H ml ok (.inl ⟨rfl, rfl⟩)) fun c => ⟨_, rfl, m, _, _, _, rfl, rfl, SqL.of ml.em, rfl, lk, _, rfl, .inl (SqL.of ek), rfl, _, rfl, d2I (fun _ => q "" ks M H ml ok (.inl ⟨rfl, rfl⟩)) fun c2 => hN _ _ ⟨rfl, rfl, ?_, by omega⟩⟩⟩
    omega
  rintro σ _ ⟨rfl, rfl, m2, l24⟩
  obtain ⟨at_, ea, al⟩ := fmN (a := x2) (n := (many : Int)) (by omega)
  refine ⟨_, rfl, lx, _, _, _, rfl, rfl, SqL.of ex, hx2, _, rfl, _, _, rfl, rfl, (by omega), ?_⟩
  dsimp only [gName, tNext]
  rw [ea]
  obtain ⟨w, hw, wd⟩ : ∃ w : Str, atI [V.str "after", .str "within", .str "apart"] (x1.fmod 3) = some (.str w) ∧ (w = "after" ∨ w = "within" ∨ w = "apart") := by
    obtain ⟨j, ej, jl⟩ := fmN (a := x1) (n := 3) (by decide)
    rw [ej]
    have jl : j < 3 := by omega
    match j, jl with
    | 0, _ => exact ⟨"after", rfl, .inl rfl⟩
    | 1, _ => exact ⟨"within", rfl, .inr (.inl rfl)⟩
    | 2, _ => exact ⟨"apart", rfl, .inr (.inr rfl)⟩
  have wl : w.length ≤ 12 := Ln3.len wd
  refine ⟨(by show 3 ≤ sizeLine; decide), fun l3 n3 => ⟨_, rfl, lx, _, _, _, rfl, rfl, SqL.of (same_new n3 _ _ _ ex), hx1, _, _, rfl, rfl, (by show (3 : Int) ≠ 0; decide), l3, _, _, _, rfl, rfl, SqL.of upd_same, hw, ?_⟩⟩
  have g3 := same_new n3 (.lst [.str "after", .str "within", .str "apart"])
  dsimp only [gName, tNext]
  generalize upd H l3 (.lst [.str "after", .str "within", .str "apart"]) = H3 at g3 ⊢
  have ex3 := g3 _ _ ex
  refine cut (fun σ H' => σ = [some (.ref m), some (.ref lx), some (vN many), some (vN at_), some (.str w), some (vN 0), none, none, none, none] ∧ H3 = H') (fun N hN => hN _ _ ⟨rfl, rfl⟩) ?_
  rintro σ _ ⟨rfl, rfl⟩
  have m1 := fm (a := x4) (n := 100001) (by decide)
  have m9 := fm (a := x4) (n := 9) (by decide)
  refine cut (fun σ H' => ∃ tn : Nat, σ = [some (.ref m), some (.ref lx), some (vN many), some (vN at_), some (.str w), some (vN tn), none, none, none, none] ∧ Same H3 H' ∧ tn ≤ 100000 ∧ (w ≠ "within" → tn = 0)) (fun N hN => ?_) ?_
  · refine ⟨_, rfl, rfl, _, rfl, eS2 (fun e => ?_) fun e => hN _ _ ⟨0, rfl, .refl _, by decide, fun _ => rfl⟩⟩
    refine ⟨_, rfl, lx, _, _, _, rfl, rfl, SqL.of ex3, hx4, _, _, rfl, rfl, (by show (100001 : Int) ≠ 0; decide), _, rfl, lx, _, _, _, rfl, rfl, SqL.of ex3, hx4, _, _, rfl, rfl, (by show (9 : Int) ≠ 0; decide), (by show 4 ≤ sizeLine; decide), fun l4 n4 => ?_⟩
    obtain ⟨tn, hv, h9⟩ : ∃ h : Nat, atI [V.int (x4.fmod 100001), .int 0, .int 100000, .int (x4.fmod 9)] (x5.fmod 4) = some (vN h) ∧ h ≤ 100000 := by
      obtain ⟨j, ej, jl⟩ := fmN (a := x5) (n := 4) (by decide)
      rw [ej]
      have jl : j < 4 := by omega
      match j, jl with
      | 0, _ => exact ⟨(x4.fmod 100001).toNat, congrArg some (congrArg V.int (by omega)), by omega⟩
      | 1, _ => exact ⟨0, rfl, by decide⟩
      | 2, _ => exact ⟨100000, rfl, by decide⟩
      | 3, _ => exact ⟨(x4.fmod 9).toNat, congrArg some (congrArg V.int (by omega)), by omega⟩
    exact ⟨_, rfl, lx, _, _, _, rfl, rfl, SqL.of (same_new n4 _ _ _ ex3), hx5, _, _, rfl, rfl, (by show (4 : Int) ≠ 0; decide), l4, _, _, _, rfl, rfl, SqL.of upd_same, hv, hN _ _ ⟨tn, rfl, same_new n4 _, h9, fun z => absurd e z⟩⟩
  rintro σ H4 ⟨tn, rfl, g4, t5, t0⟩
  have g34 := g3.trans g4
  have ex4 := g4 _ _ ex3
  have mo := fm (a := x3) (n := (many : Int) - 1) (by omega)
  obtain ⟨ot, eo, ol⟩ := fmN (a := (at_ : Int) + 1 + x3.fmod ((many : Int) - 1)) (n := (many : Int)) (by omega)
  have oa : ot ≠ at_ := fun z => by
    rw [z, Int.fmod_eq_emod_of_nonneg _ (by omega)] at eo
    have e := Int.emod_add_mul_ediv ((at_ : Int) + 1 + x3.fmod ((many : Int) - 1)) (many : Int)
    generalize ((at_ : Int) + 1 + x3.fmod ((many : Int) - 1)) / (many : Int) = qq at e
    rw [eo] at e
    rcases Int.lt_trichotomy qq 0 with h | h | h
    · have : (many : Int) * qq ≤ (many : Int) * (-1) := Int.mul_le_mul_of_nonneg_left (by omega) (by omega)
      omega
    · rw [h] at e; omega
    · have : (many : Int) * 1 ≤ (many : Int) * qq := Int.mul_le_mul_of_nonneg_left (by omega) (by omega)
      omega
  refine ⟨_, rfl, _, rfl, _, rfl, _, _, rfl, rfl, _, rfl, lx, _, _, _, rfl, rfl, SqL.of ex4, hx3, _, rfl, _, _, rfl, rfl, _, _, rfl, rfl, (by omega), _, _, rfl, rfl, _, rfl, _, _, rfl, rfl, (by omega), _, rfl, (by show 4 ≤ sizeLine; decide), fun t nt => ?_⟩
  dsimp only [gName, tNext] at nt ⊢
  rw [eo]
  have g5 := g34.trans (same_new nt (.tup [.str w, vN at_, vN ot, vN tn]))
  have et : upd H4 t (.tup [.str w, vN at_, vN ot, vN tn]) t = some (.tup (lkV (w, at_, ot, tn))) := upd_same
  have ex5 := (same_new nt (.tup [.str w, vN at_, vN ot, vN tn])) _ _ ex4
  change L2.tSeq _ _ _ [some (.ref m), some (.ref lx), some (vN many), some (vN at_), some (.str w), some (vN tn), some (.ref t), none, none, none] (upd H4 t (.tup [.str w, vN at_, vN ot, vN tn]))
  generalize upd H4 t (.tup [.str w, vN at_, vN ot, vN tn]) = H5 at g5 et ex5 ⊢
  have ml5 := ml.same g5
  refine cut (fun σ H' => ∃ (t : Addr) (k : Lk4), σ = [some (.ref m), some (.ref lx), some (vN many), some (vN at_), some (.str w), some (vN tn), some (.ref t), none, none, none] ∧ Same H5 H' ∧ H' t = some (.tup (lkV k)) ∧ LOk many k) (fun N hN => ?_) ?_
  · have now : ∀ H', Same H5 H' → N [some (.ref m), some (.ref lx), some (vN many), some (vN at_), some (.str w), some (vN tn), some (.ref t), none, none, none] H' := fun H' g => hN _ _ ⟨t, (w, at_, ot, tn), rfl, g, g _ _ et, ⟨wd, (by show at_ < many; omega), (by show ot < many; omega), oa.symm, t5, t0⟩⟩
    refine ⟨_, rfl, lx, _, _, _, rfl, rfl, SqL.of ex5, hx5, _, _, rfl, rfl, (by show (6 : Int) ≠ 0; decide), rfl, _, rfl, d2I (fun _ => ?_) fun _ => now _ (.refl _)⟩
    refine ⟨_, rfl, m, _, _, _, rfl, rfl, SqL.of ml5.em, rfl, (by show 0 ≤ sizeLine; decide), fun l0 n0 => ?_⟩
    have g6 := same_new n0 (.lst [])
    have ek6 := g6 _ _ (g5 _ _ ek)
    refine ⟨lk, l0, _, rfl, rfl, SqL.of ek6, SqL.of upd_same, _, rfl, ?_⟩
    cases hv : vk with
    | nil => exact now _ g6
    | cons v0 vr =>
      have ne : vk ≠ [] := by rw [hv]; simp
      obtain ⟨vl, hl⟩ : ∃ vl, vk.getLast? = some vl := by
        cases h : vk.getLast? with
        | none => exact absurd (List.getLast?_eq_none_iff.mp h) ne
        | some x => exact ⟨x, rfl⟩
      have hl' : vk[vk.length - 1]? = some vl := by rw [← List.getLast?_eq_getElem?]; exact hl
      obtain ⟨k, hk, t', rfl, _, et'⟩ := rk.at_ hl'
      rw [hv] at hl ek6
      refine ⟨_, rfl, m, _, _, _, rfl, rfl, SqL.of (g6 _ _ ml5.em), rfl, _, rfl, lk, _, _, _, rfl, rfl, SqL.of ek6, (atT hl), hN _ _ ⟨t', k, rfl, g6, g6 _ _ (g5 _ _ et'), by rw [em]; exact ok.ks k (List.mem_of_getElem? hk)⟩⟩
  rintro σ H6 ⟨t', ⟨w', a', b', tn'⟩, rfl, g6, et', lo⟩
  have et6 : H6 t' = some (.tup [.str w', vN a', vN b', vN tn']) := et'
  have la : a' < many := lo.a
  have lb : b' < many := lo.b
  have wl' : w'.length ≤ 12 := lo.w.len
  have tl' : tn' ≤ 100000 := lo.t
  have ml6 := ml5.same g6
  have es6 := ml6.es
  have ha := List.getElem?_eq_getElem (l := M.steps) (i := a') (by omega)
  have hb := List.getElem?_eq_getElem (l := M.steps) (i := b') (by omega)
  have ka := List.getElem?_eq_getElem (l := ks) (i := a') (by omega)
  have kb := List.getElem?_eq_getElem (l := ks) (i := b') (by omega)
  obtain ⟨sa, hsa⟩ : ∃ sa, M.steps[a']? = some sa := ⟨_, ha⟩
  obtain ⟨sb, hsb⟩ : ∃ sb, M.steps[b']? = some sb := ⟨_, hb⟩
  obtain ⟨ska, hka⟩ : ∃ sa, ks[a']? = some sa := ⟨_, ka⟩
  obtain ⟨skb, hkb⟩ : ∃ sb, ks[b']? = some sb := ⟨_, kb⟩
  clear ha hb ka kb
  obtain ⟨_, _, _, ea6, _⟩ := ml6.ss a' _ _ hka hsa
  obtain ⟨_, _, _, eb6, _⟩ := ml6.ss b' _ _ hkb hsb
  have na := zz.mem (ok.ss a' _ hsa).nm
  have nb := zz.mem (ok.ss b' _ hsb).nm
  have nal := na.len
  have nbl := nb.len
  have ata : atI (ks.map fun x => V.ref x.a) (a' : Int) = some (.ref ska.a) := atI_nat (by rw [List.getElem?_map, hka]; rfl)
  have atb : atI (ks.map fun x => V.ref x.a) (b' : Int) = some (.ref skb.a) := atI_nat (by rw [List.getElem?_map, hkb]; rfl)
  refine ⟨_, rfl, m, _, _, _, rfl, rfl, SqL.of ml6.em, rfl, _, rfl, t', _, _, _, rfl, rfl, SqT.of et6, rfl, ls, _, _, _, rfl, rfl, SqL.of es6, ata, ska.a, _, _, _, rfl, rfl, SqL.of ea6, rfl, ?_⟩
  dsimp only [gName, tNext]
  refine ⟨_, rfl, m, _, _, _, rfl, rfl, SqL.of ml6.em, rfl, _, rfl, t', _, _, _, rfl, rfl, SqT.of et6, rfl, ls, _, _, _, rfl, rfl, SqL.of es6, atb, skb.a, _, _, _, rfl, rfl, SqL.of eb6, rfl, ?_⟩
  dsimp only [gName, tNext]
  have l1 : (Str.ofString " ").length = 1 := by decide
  refine ⟨_, rfl, t', _, _, _, rfl, rfl, SqT.of et6, rfl, _, _, rfl, rfl, (by omega), _, rfl, _, _, rfl, rfl, (by rw [Str.length_append]; omega), _, _, rfl, rfl, (by simp only [Str.length_append]; omega), _, rfl, _, _, rfl, rfl, (by simp only [Str.length_append]; omega), ?_⟩
  rw [cat3]
  have jl : (jB [w', sa.n, sb.n]).length ≤ 400 := row_len (fun z hz => by
    simp only [List.mem_cons, List.not_mem_nil, or_false] at hz
    rcases hz with rfl | rfl | rfl <;> omega) (by show 3 ≤ 6; decide)
  have ll1 := numT_len (n := tn') (by omega)
  dsimp only [gName, tNext]
  refine cut (fun σ H' => σ = [some (.ref m), some (.ref lx), some (vN many), some (vN at_), some (.str w), some (vN tn), some (.ref t'), some (.str sa.n), some (.str sb.n), some (.str (rrT (.link w' sa.n sb.n tn')))] ∧ H6 = H') (fun N hN => ?_) ?_
  · refine ⟨_, rfl, t', _, _, _, rfl, rfl, SqT.of et6, rfl, rfl, _, rfl, eS2 (fun e => ?_) fun e => hN _ _ ⟨?_, rfl⟩⟩
    · refine ⟨_, rfl, _, _, rfl, rfl, (by rw [l1]; omega), _, rfl, t', _, _, _, rfl, rfl, SqT.of et6, rfl, _, rfl, num_lg (by omega), ?_⟩
      rw [num_T]
      refine ⟨_, _, rfl, rfl, (by rw [Str.length_append, l1]; omega), hN _ _ ⟨?_, rfl⟩⟩
      rw [cat_more (by simp)]
      have e5 : rrT (.link w' sa.n sb.n tn') = jB ([w', sa.n, sb.n] ++ [numT tn']) := by
        show jB (linkWs w' sa.n sb.n tn') = _
        unfold linkWs
        rw [if_pos e]
      rw [e5]
      rfl
    · have e5 : rrT (.link w' sa.n sb.n tn') = jB [w', sa.n, sb.n] := by
        show jB (linkWs w' sa.n sb.n tn') = _
        unfold linkWs
        rw [if_neg e, List.append_nil]
      rw [e5]
      rfl
  rintro σ _ ⟨rfl, rfl⟩
  have ek6 := g6 _ _ (g5 _ _ ek)
  refine ⟨_, rfl, m, _, _, _, rfl, rfl, SqL.of ml6.em, rfl, .inl ⟨rfl, _, SqL.of ek6⟩, _, rfl, lk, _, _, rfl, rfl, ek6, by omega, ⟨_, rfl, ?_⟩⟩
  have ab : sa.n ≠ sb.n := fun z => by
    have k1 := (ok.ss a' _ hsa).nm
    have k2 := (ok.ss b' _ hsb).nm
    rw [← z] at k2
    have := zz.inj k1 k2
    have := lo.ab
    have h5 : a' ≠ b' := lo.ab
    omega
  rw [em] at lo
  exact q _ _ _ _ (ml6.link ek6 ⟨t', rfl, trivial, et'⟩) (ok.link l24 lo) (.inr ⟨.link w' sa.n sb.n tn', rfl, ⟨lo.w, na, nb, ab, tl', lo.t0⟩, put_link ok r12 zz hsa hsb (by omega)⟩)

set_option maxHeartbeats 4000000 in
theorem ok_law_row {dV : Value} (F : FunD K "_law_row" "_law_row" s_law_row dV f fd) (D_law_stream : Dx P w K mg base CX0 1 "_law_stream" ["_law_cell", "_law_many"] [] spStream) (D_law_take : Dx P w K mg base CX0 3 "_law_take" ["_law_model", "_law_names_here", "_law_xs"] [] spTakeL) (D_law_step : Dx P w K mg base CX0 3 "_law_step" ["_law_model", "_law_names_here", "_law_xs", "_law_room"] [] spStepL) (D_law_second : Dx P w K mg base CX0 2 "_law_second" ["_law_step_here", "_law_xs"] [] spSecondL) (D_law_use : Dx P w K mg base CX0 1 "_law_use" ["_law_step_here", "_law_word", "_law_names_here", "_law_xs"] [] spUseL) (D_law_link : Dx P w K mg base CX0 1 "_law_link" ["_law_model", "_law_xs"] [] spLinkL) : FnOk P w K mg base CX0 4 f fd ["_law_model", "_law_names_here", "_law_cell", "_law_room"] spRowL := by
  have sc : FnScope ["_law_model", "_law_names_here", "_law_cell", "_law_room", "_law_xs", "_law_way", "_law_step_here"] ["_law_model", "_law_names_here", "_law_cell", "_law_room"] (defScope s_law_row) := scK (by decide +kernel)
  refine F.ok sc (fun vs H Q E h => ?_) (fun cdv A outer s H vs Q E hr h => ?_)
  · obtain ⟨_, _, _, _, _, _, _, _, _, _, _, rfl, _⟩ := h
    rfl
  obtain ⟨G, m, lt, ls, lk, ln, c, ks, M, zs, room, rfl, r12, ml, ok, en, zz, q⟩ := h
  refine ⟨_, (pss_cons (ps_set (i := 4) sc.nd rfl (Or.inl rfl) (pcall0 D_law_stream hr (by decide) rfl (@pa_cons _ _ _ _ _ (pv 2) (@pa_cons _ _ _ _ _ pe_int pa_nil rfl) rfl))) (pss_cons (ps_set (i := 5) sc.nd rfl (Or.inl rfl) (pe_op op_modN (pe_ix ix_list (pv 4) pe_int (fun _ _ => rfl)) pe_int)) (pss_cons (ps_if (pt_cmpR op_eq (pv 5) pe_int (nomark _)) (pss_one (ps_ret (pcall0 D_law_take hr (by decide) rfl (@pa_cons _ _ _ _ _ (pv 0) (@pa_cons _ _ _ _ _ (pv 1) (@pa_cons _ _ _ _ _ (pv 4) pa_nil rfl) rfl) rfl)))) pss_nil) (pss_cons (ps_if (PW.pt (pw_or (pt_cmpR op_lt (pv 5) pe_int (nomark _)) (pw_or1 (pt_cmpR (op_eqNil hr.units0) (pe_ix ix_list (pv 0) pe_int (fun _ _ => rfl)) (@pe_lst _ _ _ _ pa_nil) (nomark _))))) (pss_one (ps_ret (pcall0 D_law_step hr (by decide) rfl (@pa_cons _ _ _ _ _ (pv 0) (@pa_cons _ _ _ _ _ (pv 1) (@pa_cons _ _ _ _ _ (pv 4) (@pa_cons _ _ _ _ _ (pv 3) pa_nil rfl) rfl) rfl) rfl)))) pss_nil) (pss_cons (ps_if (pt_cmpR op_gt (pv 5) pe_int (nomark _)) (pss_one (ps_ret (pcall0 D_law_link hr (by decide) rfl (@pa_cons _ _ _ _ _ (pv 0) (@pa_cons _ _ _ _ _ (pv 4) pa_nil rfl) rfl)))) pss_nil) (pss_cons (ps_set (i := 6) sc.nd rfl (Or.inl rfl) (pe_ix ix_list (pe_ix ix_list (pv 0) pe_int (fun _ _ => rfl)) (pe_op op_modN (pe_ix ix_list (pv 4) pe_int (fun _ _ => rfl)) (pe_callB call_len_seq rfl B.b_len boot_len (@pa_cons _ _ _ _ _ (pe_ix ix_list (pv 0) pe_int (fun _ _ => rfl)) pa_nil rfl))) (fun _ _ => rfl))) (pss_cons (ps_if (pt_cmpR op_eq (pv 5) pe_int (nomark _)) (pss_one (ps_ret (pcall0 D_law_second hr (by decide) rfl (@pa_cons _ _ _ _ _ (pv 6) (@pa_cons _ _ _ _ _ (pv 4) pa_nil rfl) rfl)))) pss_nil) (pss_one (ps_ret (pcall0 D_law_use hr (by decide) rfl (@pa_cons _ _ _ _ _ (pv 6) (@pa_cons _ _ _ _ _ (pe_ix ix_list (@pe_lst _ _ _ _ (@pa_cons _ _ _ _ _ pe_str (@pa_cons _ _ _ _ _ pe_str pa_nil rfl) rfl)) (pe_op op_sub (pv 5) pe_int) (fun _ _ => rfl)) (@pa_cons _ _ _ _ _ (pv 1) (@pa_cons _ _ _ _ _ (pv 4) pa_nil rfl) rfl) rfl) rfl))))))))))), ?_⟩
  try dsimp only [cxK]
  have sl : sizeLine = 16777216 := sizeLine_eq
  refine ⟨_, rfl, c, 6, rfl, (by decide), (by decide), fun lx H1 xs0 g1 e1 xl xp => ?_⟩
  have hx : Xs6 H1 lx := ⟨xs0, e1, by omega, xp⟩
  have ml1 := ml.same g1
  have en1 := g1 _ _ en
  clear ml en e1
  obtain ⟨xs, ex, hxs⟩ := hx.at_
  obtain ⟨x0, hx0, x00, x01⟩ := hxs 0 (by decide)
  obtain ⟨x5, hx5, x50, x51⟩ := hxs 5 (by decide)
  obtain ⟨way, ew, wl⟩ := fmN (a := x0) (n := 8) (by decide)
  have es := ml1.es
  have lks := ml1.len
  have lkm : (ks.map fun x => V.ref x.a).length = M.steps.length := by rw [List.length_map]; exact lks
  dsimp only [gName, tNext]
  refine ⟨_, rfl, lx, _, _, _, rfl, rfl, SqL.of ex, hx0, _, _, rfl, rfl, (by show (8 : Int) ≠ 0; decide), ?_⟩
  dsimp only [gName, tNext]
  rw [ew]
  refine cut (fun σ H' => σ = [some (.ref m), some (.ref ln), some (.int c), some (vN room), some (.ref lx), some (vN way), none] ∧ H1 = H') (fun N hN => ?_) ?_
  · exact ⟨_, rfl, rfl, _, rfl, d2I (fun _ => ⟨_, rfl, _, rfl, _, rfl, G, m, lt, ls, lk, ln, lx, ks, M, zs, room, rfl, ml1, ok, en1, zz, hx, q⟩) fun _ => hN _ _ ⟨rfl, rfl⟩⟩
  rintro σ _ ⟨rfl, rfl⟩
  refine cut (fun σ H' => σ = [some (.ref m), some (.ref ln), some (.int c), some (vN room), some (.ref lx), some (vN way), none] ∧ Same H1 H' ∧ 3 ≤ way ∧ M.steps ≠ []) (fun N hN => ?_) ?_
  · have now : ∀ H', Same H1 H' → _ := fun H' (g : Same H1 H') => (⟨_, rfl, _, rfl, _, rfl, _, rfl, G, m, lt, ls, lk, ln, lx, ks, M, zs, room, rfl, r12, ml1.same g, ok, g _ _ en1, zz, hx.same g, q⟩ : L2.tRet (L2.tCall spStepL [] E0 (L2.tCons (L2.tVar 0) (L2.tCons (L2.tVar 1) (L2.tCons (L2.tVar 4) (L2.tCons (L2.tVar 3) L2.tNil))))) { nx := N, rt := Q } [some (.ref m), some (.ref ln), some (.int c), some (vN room), some (.ref lx), some (vN way), none] H')
    refine ⟨_, rfl, _, _, rfl, rfl, _, rfl, d2 (fun _ => now _ (.refl _)) fun c3 => ⟨_, rfl, m, _, _, _, rfl, rfl, SqL.of ml1.em, rfl, (by show 0 ≤ sizeLine; decide), fun l0 n0 => ?_⟩⟩
    have g2 := same_new n0 (.lst [])
    refine ⟨ls, l0, _, rfl, rfl, SqL.of (g2 _ _ es), SqL.of upd_same, _, rfl, ?_⟩
    cases hk : ks with
    | nil => exact now _ g2
    | cons k0 kr => exact hN _ _ ⟨rfl, g2, by omega, fun z => by rw [z, hk] at lks; simp at lks⟩
  rintro σ H2 ⟨rfl, g2, w3, ne⟩
  have ml2 := ml1.same g2
  have en2 := g2 _ _ en1
  have hx2 := hx.same g2
  have ex2 := g2 _ _ ex
  have es2 := ml2.es
  clear ml1 en1 hx ex es g1
  refine cut (fun σ H' => σ = [some (.ref m), some (.ref ln), some (.int c), some (vN room), some (.ref lx), some (vN way), none] ∧ H2 = H' ∧ way ≤ 5) (fun N hN => ?_) ?_
  · exact ⟨_, rfl, _, _, rfl, rfl, _, rfl, d2 (fun _ => ⟨_, rfl, _, rfl, G, m, lt, ls, lk, lx, ks, M, zs, room, rfl, r12, ml2, ok, zz, hx2, q⟩) fun c5 => hN _ _ ⟨rfl, rfl, by omega⟩⟩
  rintro σ _ ⟨rfl, rfl, w5⟩
  have pos : 0 < M.steps.length := List.length_pos_iff.mpr ne
  obtain ⟨i, ei, il⟩ := fmN (a := x5) (n := (M.steps.length : Int)) (by omega)
  obtain ⟨st, hst⟩ : ∃ st, M.steps[i]? = some st := ⟨_, List.getElem?_eq_getElem (by omega)⟩
  obtain ⟨sk, hsk⟩ : ∃ sk, ks[i]? = some sk := ⟨_, List.getElem?_eq_getElem (by omega)⟩
  have hs := ml2.ss i sk st hsk hst
  have so := ok.ss i st hst
  have nn := zz.mem so.nm
  have ndk : sk.own.Nodup := by
    have nd := ml2.nd
    unfold owns at nd
    simp only [List.nodup_cons] at nd
    exact (List.pairwise_flatten.mp nd.2.2.2.2).1 _ (List.mem_map.mpr ⟨sk, List.mem_of_getElem? hsk, rfl⟩)
  have ati : atI (ks.map fun x => V.ref x.a) (i : Int) = some (.ref sk.a) := atI_nat (by rw [List.getElem?_map, hsk]; rfl)
  refine ⟨_, rfl, m, _, _, _, rfl, rfl, SqL.of ml2.em, rfl, _, rfl, lx, _, _, _, rfl, rfl, SqL.of ex2, hx5, _, rfl, m, _, _, _, rfl, rfl, SqL.of ml2.em, rfl, ls, _, rfl, .inl (SqL.of es2), _, _, rfl, rfl, (by rw [lkm]; omega), ?_⟩
  dsimp only [gName, tNext]
  rw [lkm, ei]
  refine ⟨ls, _, _, _, rfl, rfl, SqL.of es2, ati, ?_⟩
  dsimp only [gName, tNext]
  refine cut (fun σ H' => σ = [some (.ref m), some (.ref ln), some (.int c), some (vN room), some (.ref lx), some (vN way), some (.ref sk.a)] ∧ H2 = H' ∧ 4 ≤ way) (fun N hN => ?_) ?_
  · refine ⟨_, rfl, rfl, _, rfl, d2I (fun _ => ⟨_, rfl, _, rfl, sk, st, lx, rfl, hs, ndk, nn.len, hx2, fun H' g => q "" ks M H' (ml2.same g) ok (.inl ⟨rfl, rfl⟩), ?_⟩) fun _ => hN _ _ ⟨rfl, rfl, by omega⟩⟩
    rintro z k' s' H' kp hs' ea nk nd ⟨lo, hi, e, le, rfl, rfl⟩
    exact q _ _ _ _ (ml2.set hsk hst kp hs' ea nk nd) (ok.set ⟨so.nm, so.wd, so.le, so.fl, so.us, fun x hx => by cases hx; exact ⟨le, by simp, fun i x h => by simp at h⟩⟩) (.inr ⟨.sec st.n lo hi, rfl, ⟨nn, le⟩, put_sec ok r12 zz hst e⟩)
  rintro σ _ ⟨rfl, rfl, w4⟩
  obtain ⟨o, ho⟩ : ∃ o : Bool, atI [V.str "with", .str "orwith"] ((way : Int) - 4) = some (.str (if o = true then "orwith" else "with")) := by
    have : way = 4 ∨ way = 5 := by omega
    rcases this with rfl | rfl
    · exact ⟨false, rfl⟩
    · exact ⟨true, rfl⟩
  refine ⟨_, rfl, (by show 2 ≤ sizeLine; decide), fun l2 n2 => ?_⟩
  have g3 := same_new n2 (.lst [.str "with", .str "orwith"])
  have ml3 := ml2.same g3
  refine ⟨_, rfl, _, _, rfl, rfl, l2, _, _, _, rfl, rfl, SqL.of upd_same, ho, _, rfl, _, rfl, sk, st, o, ln, lx, zs, rfl, hs.same g3, ndk, nn.len, g3 _ _ en2, zz, so.us.1, (fun x hx => (so.sec x hx).2.1), hx2.same g3, (fun H' g => q "" ks M H' (ml3.same g) ok (.inl ⟨rfl, rfl⟩)), ?_⟩
  rintro z k' s' H' kp hs' ea nk nd ⟨u, rfl, u1, u8, u9, hO⟩
  cases o with
  | false =>
    obtain ⟨n12, hg, rfl⟩ := hO
    exact q _ _ _ _ (ml3.set hsk hst kp hs' ea nk nd) (ok.set ⟨so.nm, so.wd, so.le, so.fl, so.us.snoc n12 hg ⟨u1, u8, u9⟩, so.sec⟩) (.inr ⟨.use false st.n u, rfl, ⟨nn, zz.mem hg, u1, u8, u9⟩, put_use ok r12 zz hst hg n12⟩)
  | true =>
    obtain ⟨lo, hi, us, e, n12, hg, rfl⟩ := hO
    exact q _ _ _ _ (ml3.set hsk hst kp hs' ea nk nd) (ok.set ⟨so.nm, so.wd, so.le, so.fl, so.us, fun x hx => by cases hx; exact ⟨(so.sec _ e).1, (so.sec _ e).2.snoc n12 hg ⟨u1, u8, u9⟩⟩⟩) (.inr ⟨.use true st.n u, rfl, ⟨nn, zz.mem hg, u1, u8, u9⟩, put_orw ok r12 zz hst e hg n12⟩)

set_option maxHeartbeats 4000000 in
theorem ok_law_amount_text {dV : Value} (F : FunD K "_law_amount_text" "_law_amount_text" s_law_amount_text dV f fd)  : FnOk P w K mg base CX0 1 f fd ["_law_amount_here"] spAmTL := by
  have sc : FnScope ["_law_amount_here", "_law_whole_here", "_law_top"] ["_law_amount_here"] (defScope s_law_amount_text) := scK (by decide +kernel)
  refine F.ok sc (fun vs H Q E h => ?_) (fun cdv A outer s H vs Q E hr h => ?_)
  · obtain ⟨_, _, rfl, _⟩ := h
    rfl
  obtain ⟨t, ⟨p, b⟩, rfl, et, ag, q⟩ := h
  refine ⟨_, (pss_cons (ps_set (i := 1) sc.nd rfl (Or.inl rfl) (pe_op op_fdivB (pe_ix ix_tup (pv 0) pe_int (fun _ _ => rfl)) (pe_ix ix_tup (pv 0) pe_int (fun _ _ => rfl)))) (pss_cons (ps_set (i := 2) sc.nd rfl (Or.inl rfl) (pe_op op_modN (pe_ix ix_tup (pv 0) pe_int (fun _ _ => rfl)) (pe_ix ix_tup (pv 0) pe_int (fun _ _ => rfl)))) (pss_cons (ps_if (pt_cmpR op_eq (pv 2) pe_int (nomark _)) (pss_one (ps_ret (pe_callTy call_str_int rfl B.b_str boot_str (@pa_cons _ _ _ _ _ (pv 1) pa_nil rfl)))) pss_nil) (pss_cons (ps_if (pt_cmpR op_eq (pv 1) pe_int (nomark _)) (pss_one (ps_ret (pe_op op_add_str (pe_op op_add_str (pe_callTy call_str_int rfl B.b_str boot_str (@pa_cons _ _ _ _ _ (pv 2) pa_nil rfl)) pe_str) (pe_callTy call_str_int rfl B.b_str boot_str (@pa_cons _ _ _ _ _ (pe_ix ix_tup (pv 0) pe_int (fun _ _ => rfl)) pa_nil rfl))))) pss_nil) (pss_one (ps_ret (pe_op op_add_str (pe_op op_add_str (pe_op op_add_str (pe_op op_add_str (pe_callTy call_str_int rfl B.b_str boot_str (@pa_cons _ _ _ _ _ (pv 1) pa_nil rfl)) pe_str) (pe_callTy call_str_int rfl B.b_str boot_str (@pa_cons _ _ _ _ _ (pv 2) pa_nil rfl))) pe_str) (pe_callTy call_str_int rfl B.b_str boot_str (@pa_cons _ _ _ _ _ (pe_ix ix_tup (pv 0) pe_int (fun _ _ => rfl)) pa_nil rfl))))))))), ?_⟩
  try dsimp only [cxK]
  have sl : sizeLine = 16777216 := sizeLine_eq
  have et2 : H t = some (.tup [vN p, vN b]) := et
  have b0 : 0 < b := ag.rd.pos
  have b9 : b < 1000 := ag.bq
  have p9 : p < 10 ^ 40 := ag.bp
  have b0' : (b : Int) ≠ 0 := by omega
  refine ⟨_, rfl, t, _, _, _, rfl, rfl, SqT.of et2, rfl, _, rfl, t, _, _, _, rfl, rfl, SqT.of et2, rfl, _, _, rfl, rfl, ⟨b0', PyProof.noPylong_small (by omega)⟩, ?_⟩
  dsimp only [gName, tNext]
  rw [fdiv_nat]
  refine ⟨_, rfl, t, _, _, _, rfl, rfl, SqT.of et2, rfl, _, rfl, t, _, _, _, rfl, rfl, SqT.of et2, rfl, _, _, rfl, rfl, b0', ?_⟩
  dsimp only [gName, tNext]
  rw [fmod_n]
  have lw : p / b < 10 ^ 40 := Nat.lt_of_le_of_lt (Nat.div_le_self p b) p9
  have lt : p % b < 1000 := Nat.lt_trans (Nat.mod_lt p b0) b9
  have lgw : ((p / b : Nat) : Int).natAbs.log2 < 1920 := lg (Nat.lt_trans lw (by decide +kernel))
  have lgt : ((p % b : Nat) : Int).natAbs.log2 < 1920 := lg (Nat.lt_trans lt (by decide +kernel))
  have lgb : (b : Int).natAbs.log2 < 1920 := lg (Nat.lt_trans b9 (by decide +kernel))
  have l0 := dg_len (n := p / b) (k := 39) lw
  have l1 := dg_len (n := p % b) (k := 2) lt
  have l2 := dg_len (n := b) (k := 2) b9
  have nl : ∀ n : Nat, (numT n).length = (dg n).length := fun n => mk_len _
  have ls : (Str.ofString "/").length = 1 := by decide
  have lp : (Str.ofString "+").length = 1 := by decide
  have ea : amT (p, b) = mkS (if p % b = 0 then dg (p / b) else if p / b = 0 then dg (p % b) ++ 47 :: dg b else dg (p / b) ++ 43 :: (dg (p % b) ++ 47 :: dg b)) := rfl
  rw [ea] at q
  refine ⟨_, rfl, rfl, _, rfl, d2I (fun c => ?_) fun c => ?_⟩
  · rw [if_pos (by omega)] at q
    refine ⟨_, rfl, _, rfl, lgw, ?_⟩
    rw [num_T]
    exact q
  rw [if_neg (by omega)] at q
  refine ⟨_, rfl, rfl, _, rfl, d2I (fun c2 => ?_) fun c2 => ?_⟩
  · rw [if_pos (by omega)] at q
    refine ⟨_, rfl, _, rfl, lgt, ?_⟩
    rw [num_T]
    refine ⟨_, _, rfl, rfl, (by rw [nl]; omega), _, rfl, t, _, _, _, rfl, rfl, SqT.of et2, rfl, _, rfl, lgb, ?_⟩
    rw [num_T]
    refine ⟨_, _, rfl, rfl, (by rw [Str.length_append, nl, nl]; omega), ?_⟩
    have e : mkS (dg (p % b) ++ 47 :: dg b) = numT (p % b) ++ Str.ofString "/" ++ numT b := by
      show _ = mkS (dg (p % b)) ++ Str.ofString "/" ++ mkS (dg b)
      rw [slash_mk, mk_app, mk_app, List.append_assoc]
      rfl
    rw [e] at q
    exact q
  · rw [if_neg (by omega)] at q
    refine ⟨_, rfl, _, rfl, lgw, ?_⟩
    rw [num_T]
    refine ⟨_, _, rfl, rfl, (by rw [nl]; omega), _, rfl, _, rfl, lgt, ?_⟩
    rw [num_T]
    refine ⟨_, _, rfl, rfl, (by rw [Str.length_append, nl, nl]; omega), _, _, rfl, rfl, (by rw [Str.length_append, Str.length_append, nl, nl]; omega), _, rfl, t, _, _, _, rfl, rfl, SqT.of et2, rfl, _, rfl, lgb, ?_⟩
    rw [num_T]
    refine ⟨_, _, rfl, rfl, (by rw [Str.length_append, Str.length_append, Str.length_append, nl, nl, nl]; omega), ?_⟩
    have e : mkS (dg (p / b) ++ 43 :: (dg (p % b) ++ 47 :: dg b)) = numT (p / b) ++ Str.ofString "+" ++ numT (p % b) ++ Str.ofString "/" ++ numT b := by
      show _ = mkS (dg (p / b)) ++ Str.ofString "+" ++ mkS (dg (p % b)) ++ Str.ofString "/" ++ mkS (dg b)
      rw [slash_mk, plus_mk, mk_app, mk_app, mk_app, mk_app]
      congr 1
      simp
    rw [e] at q
    exact q

set_option maxHeartbeats 4000000 in
theorem ok_law_use_rows {dV : Value} (F : FunD K "_law_use_rows" "_law_use_rows" s_law_use_rows dV f fd)  : FnOk P w K mg base CX0 1 f fd ["_law_word", "_law_name", "_law_uses"] spUseRows := by
  have sc : FnScope ["_law_word", "_law_name", "_law_uses", "_law_rows", "_law_tool", "_law_many", "_law_heat"] ["_law_word", "_law_name", "_law_uses"] (defScope s_law_use_rows) := scK (by decide +kernel)
  refine F.ok sc (fun vs H Q E h => ?_) (fun cdv A outer s H vs Q E hr h => ?_)
  · obtain ⟨_, _, _, _, rfl, _⟩ := h
    rfl
  obtain ⟨w, n, u, us, rfl, ⟨vs, eu, r⟩, ub, wl, nl, q⟩ := h
  refine ⟨_, (pss_cons (ps_set (i := 3) sc.nd rfl (Or.inl rfl) (@pe_lst _ _ _ _ pa_nil)) (pss_cons (ps_for PassesOwn.never rfl (pi_list (pv 2)) (pg_tup rfl (pgs_cons (pg_name (i := 4) sc.nd rfl (Or.inl rfl)) (pgs_cons (pg_name (i := 5) sc.nd rfl (Or.inl rfl)) (pgs_cons (pg_name (i := 6) sc.nd rfl (Or.inl rfl)) pgs_nil)))) (pss_one (ps_expr (pe_bm PySem.F.plainAttrs_list PySem.F.slot_list_append PySem.F.type_list_append mt_append (pv 3) (@pa_cons _ _ _ _ _ (pe_op op_add_str (pe_op op_add_str (pe_op op_add_str (pe_op op_add_str (pe_op op_add_str (pe_op op_add_str (pe_op op_add_str (pe_op op_add_str (pv 0) pe_str) (pv 1)) pe_str) (pv 4)) pe_str) (pe_callTy call_str_int rfl B.b_str boot_str (@pa_cons _ _ _ _ _ (pv 5) pa_nil rfl))) pe_str) (pe_callTy call_str_int rfl B.b_str boot_str (@pa_cons _ _ _ _ _ (pv 6) pa_nil rfl))) pa_nil rfl))))) (pss_one (ps_ret (pv 3))))), ?_⟩
  try dsimp only [cxK]
  have sl : sizeLine = 16777216 := sizeLine_eq
  have lu := ub.1
  have lv := r.1
  have l1 : (Str.ofString " ").length = 1 := by decide
  refine ⟨(by show 0 ≤ sizeLine; decide), fun rl nrl => ?_⟩
  have g1 := same_new nrl (.lst [])
  have e1 : upd H rl (.lst []) rl = some (.lst []) := upd_same
  dsimp only [gName, tNext]
  generalize upd H rl (.lst []) = H1 at g1 e1 ⊢
  refine cut (fun σ H' => (∃ o1 o2 o3 : Option V, σ = [some (.str w), some (.str n), some (.ref u), some (.ref rl), o1, o2, o3]) ∧ Same H H' ∧ H' rl = some (.lst ((us.map fun u => jB (useWs w n u)).map V.str))) (fun N hN => ?_) ?_
  · refine ⟨_, rfl, u, rfl, ⟨_, SqL.of (g1 _ _ eu)⟩, for_list (xs := vs) (fun i σ H' => (∃ o1 o2 o3 : Option V, σ = [some (.str w), some (.str n), some (.ref u), some (.ref rl), o1, o2, o3]) ∧ Same H H' ∧ H' rl = some (.lst (((us.take i).map fun u => jB (useWs w n u)).map V.str))) ⟨⟨none, none, none, rfl⟩, g1, e1⟩ (fun i σ H' _ h => SqL.of (h.2.1 _ _ eu)) ?_ ?_⟩
    · rintro i y σ H2 hy ⟨⟨o1, o2, o3, rfl⟩, g2, e2⟩
      obtain ⟨x, hx, t, rfl, _, et⟩ := r.at_ hy
      obtain ⟨nm, m1, m8, h9⟩ := ub.2 x (List.mem_of_getElem? hx)
      have et2 : H2 t = some (.tup [.str x.1, vN x.2.1, vN x.2.2]) := g2 _ _ et
      have nml := nm.len
      have il := lt_of_at hx
      have ll1 := numT_len (n := x.2.1) (by omega)
      have ll2 := numT_len (n := x.2.2) (by omega)
      refine ⟨t, _, rfl, SqT.of et2, rfl, _, _, rfl, _, _, rfl, _, _, rfl, rfl, ?_⟩
      dsimp only [gName, tNext]
      refine ⟨_, rfl, .inl ⟨rfl, _, SqL.of e2⟩, _, rfl, _, _, rfl, rfl, (by omega), _, rfl, _, _, rfl, rfl, (by rw [Str.length_append]; omega), _, _, rfl, rfl, (by simp only [Str.length_append]; omega), _, rfl, _, _, rfl, rfl, (by simp only [Str.length_append]; omega), _, _, rfl, rfl, (by simp only [Str.length_append]; omega), _, rfl, _, rfl, num_lg (by omega), ?_⟩
      rw [num_T]
      refine ⟨_, _, rfl, rfl, (by simp only [Str.length_append]; omega), _, _, rfl, rfl, (by simp only [Str.length_append]; omega), _, rfl, _, rfl, num_lg (by omega), ?_⟩
      rw [num_T]
      refine ⟨_, _, rfl, rfl, (by simp only [Str.length_append]; omega), ?_⟩
      rw [cat5]
      refine ⟨rl, _, _, rfl, rfl, e2, (by rw [List.length_map, List.length_map, List.length_take]; omega), ⟨_, _, _, rfl⟩, sUpd g2 nrl _, ?_⟩
      rw [upd_same, mpR hx, strsR]
      rfl
    · rintro σ H2 ⟨h1, h2, h3⟩
      rw [lv, List.take_length] at h3
      exact hN _ _ ⟨h1, h2, h3⟩
  rintro σ H2 ⟨⟨o1, o2, o3, rfl⟩, g2, e2⟩
  exact ⟨_, rfl, q rl _ g2 nrl e2⟩

set_option maxHeartbeats 4000000 in
theorem ok_law_step_rows {dV : Value} (F : FunD K "_law_step_rows" "_law_step_rows" s_law_step_rows dV f fd) (D_law_amount_text : Dx P w K mg base CX0 1 "_law_amount_text" ["_law_amount_here"] [] spAmTL) (D_law_use_rows : Dx P w K mg base CX0 1 "_law_use_rows" ["_law_word", "_law_name", "_law_uses"] [] spUseRows) : FnOk P w K mg base CX0 2 f fd ["_law_step_here"] spStepRowsL := by
  have sc : FnScope ["_law_step_here", "_law_word", "_law_name", "_law_lengths_here", "_law_fill", "_law_uses", "_law_second_here", "_law_row_here", "_law_rows"] ["_law_step_here"] (defScope s_law_step_rows) := scK (by decide +kernel)
  refine F.ok sc (fun vs H Q E h => ?_) (fun cdv A outer s H vs Q E hr h => ?_)
  · obtain ⟨_, _, rfl, _⟩ := h
    rfl
  obtain ⟨⟨a, u, so⟩, ⟨w, n, lo, hi, fl, us, sec⟩, rfl, ⟨ll, f, v, ea, el, hf, hu, hs⟩, bd, q⟩ := h
  refine ⟨_, (pss_cons (ps_asg (pv 0) (pg_lst rfl (pgs_cons (pg_name (i := 1) sc.nd rfl (Or.inl rfl)) (pgs_cons (pg_name (i := 2) sc.nd rfl (Or.inl rfl)) (pgs_cons (pg_name (i := 3) sc.nd rfl (Or.inl rfl)) (pgs_cons (pg_name (i := 4) sc.nd rfl (Or.inl rfl)) (pgs_cons (pg_name (i := 5) sc.nd rfl (Or.inl rfl)) (pgs_cons (pg_name (i := 6) sc.nd rfl (Or.inl rfl)) pgs_nil)))))))) (pss_cons (ps_set (i := 7) sc.nd rfl (Or.inl rfl) (pe_op op_add_str (pe_op op_add_str (pe_op op_add_str (pe_op op_add_str (pe_op op_add_str (pe_op op_add_str (pv 1) pe_str) (pv 2)) pe_str) (pe_callTy call_str_int rfl B.b_str boot_str (@pa_cons _ _ _ _ _ (pe_ix ix_list (pv 3) pe_int (fun _ _ => rfl)) pa_nil rfl))) pe_str) (pe_callTy call_str_int rfl B.b_str boot_str (@pa_cons _ _ _ _ _ (pe_ix ix_list (pv 3) pe_int (fun _ _ => rfl)) pa_nil rfl)))) (pss_cons (ps_if (pt_cmpR op_eq (pv 1) pe_str (nomark _)) (pss_one (ps_set (i := 7) sc.nd rfl (Or.inl rfl) (pe_op op_add_str (pe_op op_add_str (pv 7) pe_str) (pcall0 D_law_amount_text hr (by decide) rfl (@pa_cons _ _ _ _ _ (pv 4) pa_nil rfl))))) pss_nil) (pss_cons (ps_set (i := 8) sc.nd rfl (Or.inl rfl) (pe_op op_cat (@pe_lst _ _ _ _ (@pa_cons _ _ _ _ _ (pv 7) pa_nil rfl)) (pcall0 D_law_use_rows hr (by decide) rfl (@pa_cons _ _ _ _ _ pe_str (@pa_cons _ _ _ _ _ (pv 2) (@pa_cons _ _ _ _ _ (pv 5) pa_nil rfl) rfl) rfl)))) (pss_cons (ps_if (pt_cmpR op_notN (pv 6) pe_non (nomark _)) (pss_cons (ps_expr (pe_bm PySem.F.plainAttrs_list PySem.F.slot_list_append PySem.F.type_list_append mt_append (pv 8) (@pa_cons _ _ _ _ _ (pe_op op_add_str (pe_op op_add_str (pe_op op_add_str (pe_op op_add_str (pe_op op_add_str pe_str (pv 2)) pe_str) (pe_callTy call_str_int rfl B.b_str boot_str (@pa_cons _ _ _ _ _ (pe_ix ix_list (pe_ix ix_list (pv 6) pe_int (fun _ _ => rfl)) pe_int (fun _ _ => rfl)) pa_nil rfl))) pe_str) (pe_callTy call_str_int rfl B.b_str boot_str (@pa_cons _ _ _ _ _ (pe_ix ix_list (pe_ix ix_list (pv 6) pe_int (fun _ _ => rfl)) pe_int (fun _ _ => rfl)) pa_nil rfl))) pa_nil rfl))) (pss_one (ps_set (i := 8) sc.nd rfl (Or.inl rfl) (pe_op op_cat (pv 8) (pcall0 D_law_use_rows hr (by decide) rfl (@pa_cons _ _ _ _ _ pe_str (@pa_cons _ _ _ _ _ (pv 2) (@pa_cons _ _ _ _ _ (pe_ix ix_list (pv 6) pe_int (fun _ _ => rfl)) pa_nil rfl) rfl) rfl)))))) pss_nil) (pss_one (ps_ret (pv 8)))))))), ?_⟩
  try dsimp only [cxK]
  have sl : sizeLine = 16777216 := sizeLine_eq
  dsimp only at ea el hf hu hs
  have nmn : Nm n := bd.nm
  have nl12 := nmn.len
  have wl : w.length ≤ 12 := bd.wd.len
  have hle : LeOk lo hi := bd.le
  obtain ⟨h1, h2, h3⟩ := hle
  have ub : UBd us := bd.us
  have lub := ub.1
  have l1 : (Str.ofString " ").length = 1 := by decide
  have ll1 := numT_len (n := lo) (by omega)
  have ll2 := numT_len (n := hi) (by omega)
  have el' : H ll = some (.lst [vN lo, vN hi]) := el
  refine ⟨_, rfl, a, _, rfl, SqL.of ea, rfl, _, _, rfl, _, _, rfl, _, _, rfl, _, _, rfl, _, _, rfl, _, _, rfl, rfl, ?_⟩
  dsimp only [gName, tNext]
  refine ⟨_, rfl, _, _, rfl, rfl, by omega, _, rfl, _, _, rfl, rfl, (by rw [Str.length_append]; omega), _, _, rfl, rfl, (by simp only [Str.length_append]; omega), _, rfl, ll, _, _, _, rfl, rfl, SqL.of el', rfl, _, rfl, num_lg (by omega), ?_⟩
  rw [num_T]
  refine ⟨_, _, rfl, rfl, (by simp only [Str.length_append]; omega), _, _, rfl, rfl, (by simp only [Str.length_append]; omega), _, rfl, ll, _, _, _, rfl, rfl, SqL.of el', rfl, _, rfl, num_lg (by omega), ?_⟩
  rw [num_T]
  refine ⟨_, _, rfl, rfl, (by simp only [Str.length_append]; omega), ?_⟩
  rw [cat4]
  have jl : (jB [w, n, numT lo, numT hi]).length ≤ 400 := row_len (fun z hz => by
    simp only [List.mem_cons, List.not_mem_nil, or_false] at hz
    rcases hz with rfl | rfl | rfl | rfl <;> omega) (by show 4 ≤ 6; decide)
  dsimp only [gName, tNext]
  refine cut (fun σ H' => σ = [some (.ref a), some (.str w), some (.str n), some (.ref ll), some f, some (.ref u), some v, some (.str (jB (stepWs ⟨w, n, lo, hi, fl, us, sec⟩))), none] ∧ H = H') (fun N hN => ?_) ?_
  · refine ⟨_, rfl, rfl, _, rfl, eS2 (fun e => ?_) fun e => ?_⟩
    · match fl, bd.fl, hf with
      | none, z, _ => exact absurd e z
      | some am, ⟨_, ag⟩, ⟨t, e1, e2⟩ =>
        subst e1
        have al := amT_len ag
        refine ⟨_, rfl, _, _, rfl, rfl, (by omega), _, rfl, t, am, rfl, e2, ag, _, _, rfl, rfl, (by rw [Str.length_append]; omega), hN _ _ ⟨?_, rfl⟩⟩
        rw [cat_more (by simp)]
        rfl
    · match fl, bd.fl with
      | some am, z => exact absurd z.1 e
      | none, _ => exact hN _ _ ⟨rfl, rfl⟩
  rintro σ _ ⟨rfl, rfl⟩
  have z4 := stepRow_len bd
  generalize hrw : jB (stepWs ⟨w, n, lo, hi, fl, us, sec⟩) = z0 at z4 ⊢
  refine ⟨_, rfl, (by show 1 ≤ sizeLine; decide), fun d nd => ?_⟩
  have g1 := same_new nd (.lst [.str z0])
  refine ⟨_, rfl, _, rfl, Str.ofString "with", n, u, us, rfl, hu.same g1, ub, (by decide), nl12, fun l5 H5 g5 nl5 e5 => ?_⟩
  have g15 := g1.trans g5
  refine ⟨d, l5, _, _, rfl, rfl, g5 _ _ upd_same, e5, (by rw [List.length_map, List.length_map]; show 1 + _ ≤ _; omega), fun rl nrl => ?_⟩
  obtain ⟨rs, hrs⟩ : ∃ rs : List Str, rs = z0 :: us.map fun u => jB (useWs "with" n u) := ⟨_, rfl⟩
  have lrs : rs.length ≤ 13 := by rw [hrs]; simp; omega
  have er : [V.str z0] ++ (us.map fun u => jB (useWs "with" n u)).map V.str = rs.map V.str := by rw [hrs]; rfl
  rw [er]
  have g6 := g15.trans (same_new nrl (.lst (rs.map V.str)))
  have e6 : upd H5 rl (.lst (rs.map V.str)) rl = some (.lst (rs.map V.str)) := upd_same
  have nrl0 := g15.free nrl
  dsimp only [gName, tNext]
  generalize upd H5 rl (.lst (rs.map V.str)) = H6 at g6 e6 ⊢
  match so, sec, hs, bd.sec, q with
  | none, none, hs, _, q =>
    have hs : v = .non := hs
    subst hs
    refine ⟨_, rfl, rfl, _, rfl, nF rfl ⟨_, rfl, q rl _ g6 nrl0 ?_⟩⟩
    rw [e6, hrs, ← hrw]
    simp [stepRows, secRows]
  | some (b, u2), some (lo2, hi2, us2), ⟨l2, e1, e2, e3, e4⟩, bs, q =>
    subst e1
    obtain ⟨⟨k1, k2, k3⟩, ub2⟩ := bs _ rfl
    dsimp only at k1 k2 k3 ub2
    have lub2 := ub2.1
    have mm1 := numT_len (n := lo2) (by omega)
    have mm2 := numT_len (n := hi2) (by omega)
    have l3 : (Str.ofString "or ").length = 3 := by decide
    have e26 := g6 _ _ e2
    have e36 : H6 l2 = some (.lst [vN lo2, vN hi2]) := g6 _ _ e3
    refine ⟨_, rfl, rfl, _, rfl, nT (fun z => nomatch z) ?_⟩
    refine ⟨_, rfl, .inl ⟨rfl, _, SqL.of e6⟩, _, rfl, _, _, rfl, rfl, (by omega), _, _, rfl, rfl, (by rw [Str.length_append]; omega), _, rfl, b, _, _, _, rfl, rfl, SqL.of e26, rfl, l2, _, _, _, rfl, rfl, SqL.of e36, rfl, _, rfl, num_lg (by omega), ?_⟩
    rw [num_T]
    refine ⟨_, _, rfl, rfl, (by simp only [Str.length_append]; omega), _, _, rfl, rfl, (by simp only [Str.length_append]; omega), _, rfl, b, _, _, _, rfl, rfl, SqL.of e26, rfl, l2, _, _, _, rfl, rfl, SqL.of e36, rfl, _, rfl, num_lg (by omega), ?_⟩
    rw [num_T]
    refine ⟨_, _, rfl, rfl, (by simp only [Str.length_append]; omega), ?_⟩
    rw [cat_or]
    refine ⟨rl, _, _, rfl, rfl, e6, (by rw [List.length_map]; omega), ?_⟩
    have g7 := sUpd g6 nrl0 (.lst (rs.map V.str ++ [.str (jB ["or", n, numT lo2, numT hi2])]))
    have e7 : upd H6 rl (.lst (rs.map V.str ++ [.str (jB ["or", n, numT lo2, numT hi2])])) rl = some (.lst ((rs ++ [jB ["or", n, numT lo2, numT hi2]]).map V.str)) := by rw [upd_same, strsR]
    dsimp only [gName, tNext]
    generalize upd H6 rl (.lst (rs.map V.str ++ [.str (jB ["or", n, numT lo2, numT hi2])])) = H7 at g7 e7 ⊢
    refine ⟨_, rfl, _, rfl, _, rfl, b, _, _, _, rfl, rfl, SqL.of (g7 _ _ e2), rfl, Str.ofString "orwith", n, u2, us2, rfl, e4.same g7, ub2, (by decide), nl12, fun l8 H8 g8 nl8 e8 => ?_⟩
    have g78 := g7.trans g8
    refine ⟨rl, l8, _, _, rfl, rfl, g8 _ _ e7, e8, (by rw [List.length_map, List.length_map, List.length_map, List.length_append]; show _ + 1 + _ ≤ _; omega), fun p np => ⟨_, rfl, q p _ (g78.trans (same_new np _)) (g78.free np) ?_⟩⟩
    rw [upd_same, hrs, ← hrw]
    simp [stepRows, secRows, secWs]

set_option maxHeartbeats 4000000 in
theorem ok_law_written {dV : Value} (F : FunD K "_law_written" "_law_written" s_law_written dV f fd) (D_law_amount_text : Dx P w K mg base CX0 1 "_law_amount_text" ["_law_amount_here"] [] spAmTL) (D_law_step_rows : Dx P w K mg base CX0 2 "_law_step_rows" ["_law_step_here"] [] spStepRowsL) : FnOk P w K mg base CX0 3 f fd ["_law_head", "_law_model"] spWritten := by
  have sc : FnScope ["_law_head", "_law_model", "_law_rows", "_law_good", "_law_amount_here", "_law_step_here", "_law_word", "_law_at", "_law_other", "_law_turns", "_law_row_here"] ["_law_head", "_law_model"] (defScope s_law_written) := scK (by decide +kernel)
  refine F.ok sc (fun vs H Q E h => ?_) (fun cdv A outer s H vs Q E hr h => ?_)
  · obtain ⟨_, _, _, _, _, _, _, _, rfl, _⟩ := h
    rfl
  obtain ⟨G, h0, m, lt, ls, lk, ks, M, rfl, ml, bd, q⟩ := h
  refine ⟨_, (pss_cons (ps_set (i := 2) sc.nd rfl (Or.inl rfl) (@pe_lst _ _ _ _ (@pa_cons _ _ _ _ _ (pv 0) pa_nil rfl))) (pss_cons (ps_for PassesOwn.never rfl (pi_list (pe_ix ix_list (pv 1) pe_int (fun _ _ => rfl))) (pg_tup rfl (pgs_cons (pg_name (i := 3) sc.nd rfl (Or.inl rfl)) (pgs_cons (pg_name (i := 4) sc.nd rfl (Or.inl rfl)) pgs_nil))) (pss_one (ps_expr (pe_bm PySem.F.plainAttrs_list PySem.F.slot_list_append PySem.F.type_list_append mt_append (pv 2) (@pa_cons _ _ _ _ _ (pe_op op_add_str (pe_op op_add_str (pe_op op_add_str pe_str (pv 3)) pe_str) (pcall0 D_law_amount_text hr (by decide) rfl (@pa_cons _ _ _ _ _ (pv 4) pa_nil rfl))) pa_nil rfl))))) (pss_cons (ps_for PassesOwn.never rfl (pi_list (pe_ix ix_list (pv 1) pe_int (fun _ _ => rfl))) (pg_name (i := 5) sc.nd rfl (Or.inl rfl)) (pss_one (ps_set (i := 2) sc.nd rfl (Or.inl rfl) (pe_op op_cat (pv 2) (pcall0 D_law_step_rows hr (by decide) rfl (@pa_cons _ _ _ _ _ (pv 5) pa_nil rfl)))))) (pss_cons (ps_for PassesOwn.never rfl (pi_list (pe_ix ix_list (pv 1) pe_int (fun _ _ => rfl))) (pg_tup rfl (pgs_cons (pg_name (i := 6) sc.nd rfl (Or.inl rfl)) (pgs_cons (pg_name (i := 7) sc.nd rfl (Or.inl rfl)) (pgs_cons (pg_name (i := 8) sc.nd rfl (Or.inl rfl)) (pgs_cons (pg_name (i := 9) sc.nd rfl (Or.inl rfl)) pgs_nil))))) (pss_cons (ps_set (i := 10) sc.nd rfl (Or.inl rfl) (pe_op op_add_str (pe_op op_add_str (pe_op op_add_str (pe_op op_add_str (pv 6) pe_str) (pe_ix ix_list (pe_ix ix_list (pe_ix ix_list (pv 1) pe_int (fun _ _ => rfl)) (pv 7) (fun _ _ => rfl)) pe_int (fun _ _ => rfl))) pe_str) (pe_ix ix_list (pe_ix ix_list (pe_ix ix_list (pv 1) pe_int (fun _ _ => rfl)) (pv 8) (fun _ _ => rfl)) pe_int (fun _ _ => rfl)))) (pss_cons (ps_if (pt_cmpR op_eq (pv 6) pe_str (nomark _)) (pss_one (ps_set (i := 10) sc.nd rfl (Or.inl rfl) (pe_op op_add_str (pe_op op_add_str (pv 10) pe_str) (pe_callTy call_str_int rfl B.b_str boot_str (@pa_cons _ _ _ _ _ (pv 9) pa_nil rfl))))) pss_nil) (pss_one (ps_expr (pe_bm PySem.F.plainAttrs_list PySem.F.slot_list_append PySem.F.type_list_append mt_append (pv 2) (@pa_cons _ _ _ _ _ (pv 10) pa_nil rfl))))))) (pss_one (ps_ret (pv 2))))))), ?_⟩
  try dsimp only [cxK]
  have sl : sizeLine = 16777216 := sizeLine_eq
  obtain ⟨vt, et, rt⟩ := id ml.et
  obtain ⟨vk, ek, rk⟩ := id ml.ek
  have es := ml.es
  have lks := ml.len
  have lkm : (ks.map fun x => V.ref x.a).length = M.steps.length := by rw [List.length_map]; exact lks
  have lt12 := rt.1
  have lk12 := rk.1
  have t12 := bd.t12
  have s12 := bd.s12
  have k24 := bd.k24
  have fl26 := (flatR_len bd.ss).2
  have l1 : (Str.ofString " ").length = 1 := by decide
  have l5 : (Str.ofString "take ").length = 5 := by decide
  refine ⟨_, rfl, (by show 1 ≤ sizeLine; decide), fun rl nrl0 => ?_⟩
  have g3 := same_new nrl0 (.lst [.str h0])
  have e3 : upd H rl (.lst [.str h0]) rl = some (.lst ([h0].map V.str)) := upd_same
  dsimp only [gName, tNext]
  generalize upd H rl (.lst [.str h0]) = H3 at g3 e3 ⊢
  refine cut (fun σ H' => (∃ o1 o2 : Option V, σ = [some (.str h0), some (.ref m), some (.ref rl), o1, o2, none, none, none, none, none, none]) ∧ Same H H' ∧ H' rl = some (.lst ((h0 :: M.takes.map takeT).map V.str))) (fun N hN => ?_) ?_
  · refine ⟨_, rfl, m, _, _, _, rfl, rfl, SqL.of (g3 _ _ ml.em), rfl, lt, rfl, ⟨_, SqL.of (g3 _ _ et)⟩, for_list (xs := vt) (fun i σ H' => (∃ o1 o2 : Option V, σ = [some (.str h0), some (.ref m), some (.ref rl), o1, o2, none, none, none, none, none, none]) ∧ Same H H' ∧ H' rl = some (.lst ((h0 :: (M.takes.take i).map takeT).map V.str))) ⟨⟨none, none, rfl⟩, g3, e3⟩ (fun i σ H' _ h => SqL.of (h.2.1 _ _ et)) ?_ ?_⟩
    · rintro i y σ H4 hy ⟨⟨o1, o2, rfl⟩, g4, e4⟩
      obtain ⟨x, hx, t, b, rfl, _, _, et', eb⟩ := rt.at_ hy
      obtain ⟨nx, ag⟩ := bd.ts x (List.mem_of_getElem? hx)
      have il := lt_of_at hx
      have xl := nx.len
      have al := amT_len ag
      refine ⟨t, _, rfl, SqT.of (g4 _ _ et'), rfl, _, _, rfl, _, _, rfl, rfl, ?_⟩
      dsimp only [gName, tNext]
      refine ⟨_, rfl, .inl ⟨rfl, _, SqL.of e4⟩, _, rfl, _, _, rfl, rfl, (by omega), _, _, rfl, rfl, (by rw [Str.length_append]; omega), _, rfl, b, x.2, rfl, g4 _ _ eb, ag, _, _, rfl, rfl, (by simp only [Str.length_append]; omega), ?_⟩
      rw [cat_take]
      refine ⟨rl, _, _, rfl, rfl, e4, (by rw [List.length_map, List.length_cons, List.length_map, List.length_take]; omega), ⟨_, _, rfl⟩, sUpd g4 nrl0 _, ?_⟩
      rw [upd_same, mpR hx, strsR]
      rfl
    · rintro σ H4 ⟨h1, h2, h3⟩
      rw [lt12, List.take_length] at h3
      exact hN _ _ ⟨h1, h2, h3⟩
  rintro σ H4 ⟨⟨o1, o2, rfl⟩, g4, e4⟩
  clear e3 g3
  refine cut (fun σ H' => ∃ rl : Addr, H rl = none ∧ (∃ o1 o2 o3 : Option V, σ = [some (.str h0), some (.ref m), some (.ref rl), o1, o2, o3, none, none, none, none, none]) ∧ Same H H' ∧ H' rl = some (.lst ((h0 :: M.takes.map takeT ++ (M.steps.map stepRows).flatten).map V.str))) (fun N hN => ?_) ?_
  · refine ⟨_, rfl, m, _, _, _, rfl, rfl, SqL.of (g4 _ _ ml.em), rfl, ls, rfl, ⟨_, SqL.of (g4 _ _ es)⟩, for_list (xs := ks.map fun x => V.ref x.a) (fun i σ H' => ∃ rl : Addr, H rl = none ∧ (∃ o1 o2 o3 : Option V, σ = [some (.str h0), some (.ref m), some (.ref rl), o1, o2, o3, none, none, none, none, none]) ∧ Same H H' ∧ H' rl = some (.lst ((h0 :: M.takes.map takeT ++ ((M.steps.take i).map stepRows).flatten).map V.str))) ⟨rl, nrl0, ⟨_, _, none, rfl⟩, g4, by rw [List.take_zero, List.map_nil, List.flatten_nil, List.append_nil]; exact e4⟩ (fun i σ H' _ h => by obtain ⟨_, _, _, g, _⟩ := h; exact SqL.of (g _ _ es)) ?_ ?_⟩
    · rintro i y σ H5 hy ⟨rl, nrl, ⟨o1, o2, o3, rfl⟩, g5, e5⟩
      rw [List.getElem?_map] at hy
      obtain ⟨k, hk, rfl⟩ := Option.map_eq_some_iff.mp hy
      have il := lt_of_at hk
      obtain ⟨x, hx⟩ : ∃ x, M.steps[i]? = some x := ⟨_, List.getElem?_eq_getElem (by omega)⟩
      have sb := bd.ss x (List.mem_of_getElem? hx)
      have fl := (flatR_len (ss := M.steps.take i) fun s hs => bd.ss s (List.mem_of_mem_take hs)).2
      have sr := (stepRows_len sb).2
      rw [List.length_take] at fl
      refine ⟨_, rfl, _, rfl, k, x, rfl, (ml.ss i k x hk hx).same g5, sb, fun l H6 g6 nl e6 => ?_⟩
      have g56 := g5.trans g6
      refine ⟨rl, l, _, _, rfl, rfl, g6 _ _ e5, e6, (by rw [List.length_map, List.length_map, List.length_append, List.length_cons, List.length_map]; omega), fun p np => ⟨p, g56.free np, ⟨_, _, _, rfl⟩, g56.trans (same_new np _), ?_⟩⟩
      rw [upd_same, flR hx, strs_cat, List.append_assoc]
    · rintro σ H5 ⟨rl, nrl, h1, h2, h3⟩
      rw [lkm, List.take_length] at h3
      exact hN _ _ ⟨rl, nrl, h1, h2, h3⟩
  rintro σ H5 ⟨rl, nrl, ⟨o1, o2, o3, rfl⟩, g5, e5⟩
  clear e4 g4 nrl0
  refine cut (fun σ H' => (∃ o1 o2 o3 o4 o5 o6 o7 o8 : Option V, σ = [some (.str h0), some (.ref m), some (.ref rl), o1, o2, o3, o4, o5, o6, o7, o8]) ∧ Same H H' ∧ H' rl = some (.lst ((h0 :: M.takes.map takeT ++ (M.steps.map stepRows).flatten ++ M.links.map (linkT M.steps)).map V.str))) (fun N hN => ?_) ?_
  · refine ⟨_, rfl, m, _, _, _, rfl, rfl, SqL.of (g5 _ _ ml.em), rfl, lk, rfl, ⟨_, SqL.of (g5 _ _ ek)⟩, for_list (xs := vk) (fun i σ H' => (∃ o1 o2 o3 o4 o5 o6 o7 o8 : Option V, σ = [some (.str h0), some (.ref m), some (.ref rl), o1, o2, o3, o4, o5, o6, o7, o8]) ∧ Same H H' ∧ H' rl = some (.lst ((h0 :: M.takes.map takeT ++ (M.steps.map stepRows).flatten ++ (M.links.take i).map (linkT M.steps)).map V.str))) ⟨⟨_, _, _, none, none, none, none, none, rfl⟩, g5, by rw [List.take_zero, List.map_nil, List.append_nil]; exact e5⟩ (fun i σ H' _ h => SqL.of (h.2.1 _ _ ek)) ?_ ?_⟩
    · rintro i y σ H6 hy ⟨⟨o1, o2, o3, o4, o5, o6, o7, o8, rfl⟩, g6, e6⟩
      obtain ⟨⟨w, a, b, tn⟩, hx, t, rfl, _, et'⟩ := rk.at_ hy
      have il := lt_of_at hx
      have ok := bd.ks _ (List.mem_of_getElem? hx)
      have la : a < M.steps.length := ok.a
      have lb : b < M.steps.length := ok.b
      have wl : w.length ≤ 12 := ok.w.len
      have tl : tn ≤ 100000 := ok.t
      have et6 : H6 t = some (.tup [.str w, vN a, vN b, vN tn]) := g6 _ _ et'
      obtain ⟨sa, hsa⟩ : ∃ sa, M.steps[a]? = some sa := ⟨_, List.getElem?_eq_getElem la⟩
      obtain ⟨sb, hsb⟩ : ∃ sb, M.steps[b]? = some sb := ⟨_, List.getElem?_eq_getElem lb⟩
      obtain ⟨ska, hka⟩ : ∃ sa, ks[a]? = some sa := ⟨_, List.getElem?_eq_getElem (by omega)⟩
      obtain ⟨skb, hkb⟩ : ∃ sb, ks[b]? = some sb := ⟨_, List.getElem?_eq_getElem (by omega)⟩
      obtain ⟨_, _, _, ea6, _⟩ := (ml.ss a _ _ hka hsa).same g6
      obtain ⟨_, _, _, eb6, _⟩ := (ml.ss b _ _ hkb hsb).same g6
      have nal := (bd.ss _ (List.mem_of_getElem? hsa)).nm.len
      have nbl := (bd.ss _ (List.mem_of_getElem? hsb)).nm.len
      have ata : atI (ks.map fun x => V.ref x.a) (a : Int) = some (.ref ska.a) := atI_nat (by rw [List.getElem?_map, hka]; rfl)
      have atb : atI (ks.map fun x => V.ref x.a) (b : Int) = some (.ref skb.a) := atI_nat (by rw [List.getElem?_map, hkb]; rfl)
      have em6 := g6 _ _ ml.em
      have es6 := g6 _ _ es
      have ll1 := numT_len (n := tn) (by omega)
      have elk : linkT M.steps (w, a, b, tn) = jB (linkWs w sa.n sb.n tn) := by
        unfold linkT
        rw [nmAt_some hsa, nmAt_some hsb]
      refine ⟨t, _, rfl, SqT.of et6, rfl, _, _, rfl, _, _, rfl, _, _, rfl, _, _, rfl, rfl, ?_⟩
      dsimp only [gName, tNext]
      refine ⟨_, rfl, _, _, rfl, rfl, (by omega), _, rfl, m, _, _, _, rfl, rfl, SqL.of em6, rfl, _, rfl, ls, _, _, _, rfl, rfl, SqL.of es6, ata, ska.a, _, _, _, rfl, rfl, SqL.of ea6, rfl, _, _, rfl, rfl, (by rw [Str.length_append]; omega), _, _, rfl, rfl, (by simp only [Str.length_append]; omega), _, rfl, m, _, _, _, rfl, rfl, SqL.of em6, rfl, _, rfl, ls, _, _, _, rfl, rfl, SqL.of es6, atb, skb.a, _, _, _, rfl, rfl, SqL.of eb6, rfl, _, _, rfl, rfl, (by simp only [Str.length_append]; omega), ?_⟩
      rw [cat3]
      have jl : (jB [w, sa.n, sb.n]).length ≤ 400 := row_len (fun z hz => by
        simp only [List.mem_cons, List.not_mem_nil, or_false] at hz
        rcases hz with rfl | rfl | rfl <;> omega) (by show 3 ≤ 6; decide)
      dsimp only [gName, tNext]
      refine cut (fun σ H' => σ = [some (.str h0), some (.ref m), some (.ref rl), o1, o2, o3, some (.str w), some (vN a), some (vN b), some (vN tn), some (.str (linkT M.steps (w, a, b, tn)))] ∧ H6 = H') (fun N hN => ?_) ?_
      · refine ⟨_, rfl, rfl, _, rfl, eS2 (fun e => ?_) fun e => hN _ _ ⟨?_, rfl⟩⟩
        · refine ⟨_, rfl, _, _, rfl, rfl, (by rw [l1]; omega), _, rfl, _, rfl, num_lg (by omega), ?_⟩
          rw [num_T]
          refine ⟨_, _, rfl, rfl, (by rw [Str.length_append, l1]; omega), hN _ _ ⟨?_, rfl⟩⟩
          rw [cat_more (by simp)]
          have e5 : linkT M.steps (w, a, b, tn) = jB ([w, sa.n, sb.n] ++ [numT tn]) := by
            rw [elk]
            unfold linkWs
            rw [if_pos e]
          rw [e5]
          rfl
        · have e5 : linkT M.steps (w, a, b, tn) = jB [w, sa.n, sb.n] := by
            rw [elk]
            unfold linkWs
            rw [if_neg e, List.append_nil]
          rw [e5]
          rfl
      rintro σ _ ⟨rfl, rfl⟩
      refine ⟨_, rfl, .inl ⟨rfl, _, SqL.of e6⟩, _, rfl, rl, _, _, rfl, rfl, e6, (by rw [List.length_map, List.length_append, List.length_append, List.length_cons, List.length_map, List.length_map, List.length_take]; omega), ⟨_, _, _, _, _, _, _, _, rfl⟩, sUpd g6 nrl _, ?_⟩
      rw [upd_same, mpR hx, strsR, List.append_assoc]
    · rintro σ H6 ⟨h1, h2, h3⟩
      rw [lk12, List.take_length] at h3
      exact hN _ _ ⟨h1, h2, h3⟩
  rintro σ H6 ⟨⟨o1, o2, o3, o4, o5, o6, o7, o8, rfl⟩, g6, e6⟩
  exact ⟨_, rfl, q rl _ g6 nrl e6⟩

set_option maxHeartbeats 4000000 in
theorem ok_law_built {dV : Value} (F : FunD K "_law_built" "_law_built" s_law_built dV f fd) (DStep_init : DxM P w K mg base CX0 1 f_Step_init ["self", "name", "least", "most", "uses", "second"] [.non, .non] (spInit2 K)) (DWarm_init : DxM P w K mg base CX0 2 f_Warm_init ["self", "name", "least", "most", "fill", "uses", "second"] [.non, .non] (spWarm2 K)) : FnOk P w K mg base CX0 4 f fd ["_law_step_here"] (spBuiltR c_Cut c_Rest c_Warm) := by
  have sc : FnScope ["_law_step_here", "_law_word", "_law_name", "_law_lengths_here", "_law_fill", "_law_uses", "_law_second_here", "_law_other"] ["_law_step_here"] (defScope s_law_built) := scK (by decide +kernel)
  refine F.ok sc (fun vs H Q E h => ?_) (fun cdv A outer s H vs Q E hr h => ?_)
  · obtain ⟨_, _, rfl, _⟩ := h
    rfl
  obtain ⟨⟨a, u, so⟩, ⟨w, n, lo, hi, fl, us, sec⟩, rfl, ⟨ll, f, v, ea, el, hf, hu, hs⟩, wd, fo, q⟩ := h
  refine ⟨_, (pss_cons (ps_asg (pv 0) (pg_lst rfl (pgs_cons (pg_name (i := 1) sc.nd rfl (Or.inl rfl)) (pgs_cons (pg_name (i := 2) sc.nd rfl (Or.inl rfl)) (pgs_cons (pg_name (i := 3) sc.nd rfl (Or.inl rfl)) (pgs_cons (pg_name (i := 4) sc.nd rfl (Or.inl rfl)) (pgs_cons (pg_name (i := 5) sc.nd rfl (Or.inl rfl)) (pgs_cons (pg_name (i := 6) sc.nd rfl (Or.inl rfl)) pgs_nil)))))))) (pss_cons (ps_set (i := 7) sc.nd rfl (Or.inl rfl) pe_non) (pss_cons (ps_if (pt_cmpR op_notN (pv 6) pe_non (nomark _)) (pss_one (ps_set (i := 7) sc.nd rfl (Or.inl rfl) (@pe_tup _ _ _ _ _ (@pa_cons _ _ _ _ _ (pe_ix ix_list (pe_ix ix_list (pv 6) pe_int (fun _ _ => rfl)) pe_int (fun _ _ => rfl)) (@pa_cons _ _ _ _ _ (pe_ix ix_list (pe_ix ix_list (pv 6) pe_int (fun _ _ => rfl)) pe_int (fun _ _ => rfl)) (@pa_cons _ _ _ _ _ (pe_callTy call_list_of rfl B.b_list boot_list (@pa_cons _ _ _ _ _ (pe_ix ix_list (pv 6) pe_int (fun _ _ => rfl)) pa_nil rfl)) pa_nil rfl) rfl) rfl)))) pss_nil) (pss_cons (ps_if (pt_cmpR op_eq (pv 1) pe_str (nomark _)) (pss_one (ps_ret (pmake0 B.mk_Cut DStep_init hr (by decide) rfl B.m_Cut (@pa_cons _ _ _ _ _ (pv 2) (@pa_cons _ _ _ _ _ (pe_ix ix_list (pv 3) pe_int (fun _ _ => rfl)) (@pa_cons _ _ _ _ _ (pe_ix ix_list (pv 3) pe_int (fun _ _ => rfl)) (@pa_cons _ _ _ _ _ (pe_callTy call_list_of rfl B.b_list boot_list (@pa_cons _ _ _ _ _ (pv 5) pa_nil rfl)) (@pa_cons _ _ _ _ _ (pv 7) pa_nil rfl) rfl) rfl) rfl) rfl)))) pss_nil) (pss_cons (ps_if (pt_cmpR op_eq (pv 1) pe_str (nomark _)) (pss_one (ps_ret (pmake0 B.mk_Rest DStep_init hr (by decide) rfl B.m_Rest (@pa_cons _ _ _ _ _ (pv 2) (@pa_cons _ _ _ _ _ (pe_ix ix_list (pv 3) pe_int (fun _ _ => rfl)) (@pa_cons _ _ _ _ _ (pe_ix ix_list (pv 3) pe_int (fun _ _ => rfl)) (@pa_cons _ _ _ _ _ (pe_callTy call_list_of rfl B.b_list boot_list (@pa_cons _ _ _ _ _ (pv 5) pa_nil rfl)) (@pa_cons _ _ _ _ _ (pv 7) pa_nil rfl) rfl) rfl) rfl) rfl)))) pss_nil) (pss_one (ps_ret (pmake0 B.mk_Warm DWarm_init hr (by decide) rfl B.m_Warm (@pa_cons _ _ _ _ _ (pv 2) (@pa_cons _ _ _ _ _ (pe_ix ix_list (pv 3) pe_int (fun _ _ => rfl)) (@pa_cons _ _ _ _ _ (pe_ix ix_list (pv 3) pe_int (fun _ _ => rfl)) (@pa_cons _ _ _ _ _ (pv 4) (@pa_cons _ _ _ _ _ (pe_callTy call_list_of rfl B.b_list boot_list (@pa_cons _ _ _ _ _ (pv 5) pa_nil rfl)) (@pa_cons _ _ _ _ _ (pv 7) pa_nil rfl) rfl) rfl) rfl) rfl) rfl))))))))), ?_⟩
  try dsimp only [cxK]
  have sl : sizeLine = 16777216 := sizeLine_eq
  dsimp only at ea el hf hu hs wd fo
  have el' : H ll = some (.lst [vN lo, vN hi]) := el
  obtain ⟨vs, eu, ra⟩ := hu
  obtain ⟨as, rfl⟩ := A2.ref ra
  refine ⟨_, rfl, a, _, rfl, SqL.of ea, rfl, _, _, rfl, _, _, rfl, _, _, rfl, _, _, rfl, _, _, rfl, _, _, rfl, rfl, ?_⟩
  dsimp only [gName, tNext]
  refine cut (fun σ H' => σ = [some (.ref a), some (.str w), some (.str n), some (.ref ll), some f, some (.ref u), some v, some .non] ∧ H = H') (fun N hN => hN _ _ ⟨rfl, rfl⟩) ?_
  rintro σ _ ⟨rfl, rfl⟩
  refine cut (fun σ H' => ∃ (ov : V) (c : Sec), σ = [some (.ref a), some (.str w), some (.str n), some (.ref ll), some f, some (.ref u), some v, some ov] ∧ Same H H' ∧ SecAt H' ov c ∧ SecR H c sec) (fun N hN => ?_) ?_
  · match so, sec, hs with
    | none, none, hs =>
      have hs : v = .non := hs
      subst hs
      exact ⟨_, rfl, rfl, _, rfl, nF rfl (hN _ _ ⟨.non, none, rfl, .refl _, rfl, trivial⟩)⟩
    | some (b, u2), some (lo2, hi2, us2), ⟨l2, e1, e2, e3, ⟨v2, e4, r4⟩⟩ =>
      subst e1
      obtain ⟨bs, rfl⟩ := A2.ref r4
      have e3' : H l2 = some (.lst [vN lo2, vN hi2]) := e3
      refine ⟨_, rfl, rfl, _, rfl, nT (fun z => nomatch z) ⟨_, rfl, b, _, _, _, rfl, rfl, SqL.of e2, rfl, l2, _, _, _, rfl, rfl, SqL.of e3', rfl, _, rfl, b, _, _, _, rfl, rfl, SqL.of e2, rfl, l2, _, _, _, rfl, rfl, SqL.of e3', rfl, _, rfl, b, _, _, _, rfl, rfl, SqL.of e2, rfl, u2, _, rfl, .inl (SqL.of e4), fun lc nc => ⟨(by show 3 ≤ sizeLine; decide), fun tc ntc => ?_⟩⟩⟩
      have g1 := same_new nc (.lst (bs.map V.ref))
      have g2 := same_new ntc (.tup [vN lo2, vN hi2, .ref lc])
      have g12 := g1.trans g2
      exact hN _ _ ⟨.ref tc, some (lo2, hi2, bs), rfl, g12, ⟨tc, lc, rfl, upd_same, g2 _ _ upd_same⟩, rfl, rfl, r4⟩
  rintro σ H1 ⟨ov, c, rfl, g1, hc, hr2⟩
  refine cut (fun σ H' => σ = [some (.ref a), some (.str w), some (.str n), some (.ref ll), some f, some (.ref u), some v, some ov] ∧ H1 = H' ∧ w ≠ "cut") (fun N hN => ?_) ?_
  · refine ⟨_, rfl, rfl, _, rfl, eS2 (fun e => ?_) fun e => hN _ _ ⟨rfl, rfl, e⟩⟩
    match fl, fo with
    | some am, z => exact absurd (e.symm.trans z.1) (by decide)
    | none, _ =>
    refine ⟨_, rfl, _, rfl, ll, _, _, _, rfl, rfl, SqL.of (g1 _ _ el'), rfl, _, rfl, ll, _, _, _, rfl, rfl, SqL.of (g1 _ _ el'), rfl, _, rfl, u, _, rfl, .inl (SqL.of (g1 _ _ eu)), fun lu nlu => ⟨_, rfl, fun x dx nx nd nxd => ?_⟩⟩
    have g2 := same_new nlu (.lst (as.map V.ref))
    have g12 := g1.trans g2
    have gm := made_new (C := c_Cut) nx nd
    refine ⟨x, _, dx, n, lo, hi, .ref lu, ov, as, c, rfl, upd_same, ⟨B.cl_Cut, B.na_Cut_name, B.na_Cut_least, B.na_Cut_most, B.na_Cut_uses, B.na_Cut_second⟩, .inr ⟨lu, rfl, gm _ _ upd_same⟩, (hc.same g2).same gm, fun u3 s H6 k6 ux nu eu6 hs6 ex => ⟨rfl, ?_⟩⟩
    have g6 := made_same nx nd k6
    have gZ := g12.trans g6
    refine q x H6 gZ (g12.free nx) fun H9 kp => ?_
    have kN : ∀ {b : Addr} {o : HO}, H6 b = some o → H b = none → H9 b = some o := fun e n => kp _ _ e fun ws z => by rw [n] at z; cases z
    have kT : ∀ {b : Addr} {xs : List V}, H b = some (.tup xs) → H9 b = some (.tup xs) := fun e => kp _ _ (gZ _ _ e) fun ws z => by rw [e] at z; cases z
    have gA := g12.trans gm
    refine ⟨_, dx, u3, s, _, kN ex (g12.free nx), .inl ⟨e, rfl⟩, stepF_st, trivial, ⟨_, kN eu6 (gA.free nu), ra.imp fun v x ⟨t, e1, e2, e3⟩ => ⟨t, e1, e2, kT e3⟩⟩, ?_⟩
    match c, sec, hr2, hs6 with
    | none, none, _, hs6 => exact hs6
    | some (x1, y1, bs), some (lo2, hi2, us2), ⟨e1, e2, rb⟩, hs6 =>
      obtain ⟨t, l2, f1, f2, f3, f4, f5⟩ := hs6
      subst e1 e2
      exact ⟨t, l2, f1, kN f2 (gA.free f4), _, kN f3 (gA.free f5), rb.imp fun v x ⟨t, e1, e2, e3⟩ => ⟨t, e1, e2, kT e3⟩⟩
  rintro σ _ ⟨rfl, rfl, n1⟩
  refine cut (fun σ H' => σ = [some (.ref a), some (.str w), some (.str n), some (.ref ll), some f, some (.ref u), some v, some ov] ∧ H1 = H' ∧ w ≠ "rest") (fun N hN => ?_) ?_
  · refine ⟨_, rfl, rfl, _, rfl, eS2 (fun e => ?_) fun e => hN _ _ ⟨rfl, rfl, e⟩⟩
    match fl, fo with
    | some am, z => exact absurd (e.symm.trans z.1) (by decide)
    | none, _ =>
    refine ⟨_, rfl, _, rfl, ll, _, _, _, rfl, rfl, SqL.of (g1 _ _ el'), rfl, _, rfl, ll, _, _, _, rfl, rfl, SqL.of (g1 _ _ el'), rfl, _, rfl, u, _, rfl, .inl (SqL.of (g1 _ _ eu)), fun lu nlu => ⟨_, rfl, fun x dx nx nd nxd => ?_⟩⟩
    have g2 := same_new nlu (.lst (as.map V.ref))
    have g12 := g1.trans g2
    have gm := made_new (C := c_Rest) nx nd
    refine ⟨x, _, dx, n, lo, hi, .ref lu, ov, as, c, rfl, upd_same, ⟨B.cl_Rest, B.na_Rest_name, B.na_Rest_least, B.na_Rest_most, B.na_Rest_uses, B.na_Rest_second⟩, .inr ⟨lu, rfl, gm _ _ upd_same⟩, (hc.same g2).same gm, fun u3 s H6 k6 ux nu eu6 hs6 ex => ⟨rfl, ?_⟩⟩
    have g6 := made_same nx nd k6
    have gZ := g12.trans g6
    refine q x H6 gZ (g12.free nx) fun H9 kp => ?_
    have kN : ∀ {b : Addr} {o : HO}, H6 b = some o → H b = none → H9 b = some o := fun e n => kp _ _ e fun ws z => by rw [n] at z; cases z
    have kT : ∀ {b : Addr} {xs : List V}, H b = some (.tup xs) → H9 b = some (.tup xs) := fun e => kp _ _ (gZ _ _ e) fun ws z => by rw [e] at z; cases z
    have gA := g12.trans gm
    refine ⟨_, dx, u3, s, _, kN ex (g12.free nx), .inr (.inl ⟨e, rfl⟩), stepF_st, trivial, ⟨_, kN eu6 (gA.free nu), ra.imp fun v x ⟨t, e1, e2, e3⟩ => ⟨t, e1, e2, kT e3⟩⟩, ?_⟩
    match c, sec, hr2, hs6 with
    | none, none, _, hs6 => exact hs6
    | some (x1, y1, bs), some (lo2, hi2, us2), ⟨e1, e2, rb⟩, hs6 =>
      obtain ⟨t, l2, f1, f2, f3, f4, f5⟩ := hs6
      subst e1 e2
      exact ⟨t, l2, f1, kN f2 (gA.free f4), _, kN f3 (gA.free f5), rb.imp fun v x ⟨t, e1, e2, e3⟩ => ⟨t, e1, e2, kT e3⟩⟩
  rintro σ _ ⟨rfl, rfl, n2⟩
  have e : w = "warm" := by
    rcases wd with e | e | e
    · exact absurd e n1
    · exact absurd e n2
    · exact e
  match fl, fo, hf with
  | none, z, _ => exact absurd e z
  | some am, _, ⟨tf, ef, etf⟩ =>
    subst ef
    refine ⟨_, rfl, _, rfl, ll, _, _, _, rfl, rfl, SqL.of (g1 _ _ el'), rfl, _, rfl, ll, _, _, _, rfl, rfl, SqL.of (g1 _ _ el'), rfl, _, rfl, _, rfl, u, _, rfl, .inl (SqL.of (g1 _ _ eu)), fun lu nlu => ⟨_, rfl, fun x dx nx nd nxd => ?_⟩⟩
    have g2 := same_new nlu (.lst (as.map V.ref))
    have g12 := g1.trans g2
    have gm := made_new (C := c_Warm) nx nd
    refine ⟨x, _, dx, n, lo, hi, .ref tf, .ref lu, ov, as, c, rfl, upd_same, ⟨B.cl_Warm, B.na_Warm_name, B.na_Warm_least, B.na_Warm_most, B.na_Warm_uses, B.na_Warm_second⟩, B.na_Warm_fill, .inr ⟨lu, rfl, gm _ _ upd_same⟩, (hc.same g2).same gm, fun u3 s H6 k6 ux nu eu6 hs6 ex => ⟨rfl, ?_⟩⟩
    have g6 := made_same nx nd k6
    have gZ := g12.trans g6
    refine q x H6 gZ (g12.free nx) fun H9 kp => ?_
    have kN : ∀ {b : Addr} {o : HO}, H6 b = some o → H b = none → H9 b = some o := fun e n => kp _ _ e fun ws z => by rw [n] at z; cases z
    have kT : ∀ {b : Addr} {xs : List V}, H b = some (.tup xs) → H9 b = some (.tup xs) := fun e => kp _ _ (gZ _ _ e) fun ws z => by rw [e] at z; cases z
    have gA := g12.trans gm
    refine ⟨_, dx, u3, s, _, kN ex (g12.free nx), .inr (.inr ⟨e, rfl⟩), warmF_st, ⟨tf, warmF_fill, kT etf⟩, ⟨_, kN eu6 (gA.free nu), ra.imp fun v x ⟨t, e1, e2, e3⟩ => ⟨t, e1, e2, kT e3⟩⟩, ?_⟩
    match c, sec, hr2, hs6 with
    | none, none, _, hs6 => exact hs6
    | some (x1, y1, bs), some (lo2, hi2, us2), ⟨e1, e2, rb⟩, hs6 =>
      obtain ⟨t, l2, f1, f2, f3, f4, f5⟩ := hs6
      subst e1 e2
      exact ⟨t, l2, f1, kN f2 (gA.free f4), _, kN f3 (gA.free f5), rb.imp fun v x ⟨t, e1, e2, e3⟩ => ⟨t, e1, e2, kT e3⟩⟩

set_option maxHeartbeats 4000000 in
theorem ok_law_values {dV : Value} (F : FunD K "_law_values" "_law_values" s_law_values dV f fd) (D_law_whole : Dx P w K mg base CX0 1 "_law_whole" ["_law_found"] [] spWhole) : FnOk P w K mg base CX0 2 f fd ["_law_recipe", "_law_name", "_law_plates", "_law_model", "_law_steps"] (spValuesL c_Recipe) := by
  have sc : FnScope ["_law_recipe", "_law_name", "_law_plates", "_law_model", "_law_steps", "_law_found"] ["_law_recipe", "_law_name", "_law_plates", "_law_model", "_law_steps"] (defScope s_law_values) := scK (by decide +kernel)
  refine F.ok sc (fun vs H Q E h => ?_) (fun cdv A outer s H vs Q E hr h => ?_)
  · obtain ⟨_, _, _, _, _, _, _, _, _, _, _, _, _, _, rfl, _⟩ := h
    rfl
  obtain ⟨r, lt, ls, lk, n, p, m, st, mt, ms, mk, xt, xs, xk, rfl, ⟨dx, er⟩, et, es, ek, em, emt, est, emk, sam, q⟩ := h
  refine ⟨_, (pss_cons (ps_if (PW.pt (pw_or (pt_not (pt_val (pe_callB (call_isiT (K := K) rfl) rfl B.b_isinstance boot_isinstance (@pa_cons _ _ _ _ _ (pe_fld (pv 0) rfl) (@pa_cons _ _ _ _ _ (pe_bltn (v := .ty "str") rfl B.b_str boot_str rfl) pa_nil rfl) rfl)))) (pw_or1 (pt_cmpR op_ne (pe_fld (pv 0) rfl) (pv 1) (nomark _))))) (pss_one (ps_ret pe_bl)) pss_nil) (pss_cons (ps_if (PW.pt (pw_or (pt_not (pt_val (pcall0 D_law_whole hr (by decide) rfl (@pa_cons _ _ _ _ _ (pe_fld (pv 0) rfl) pa_nil rfl)))) (pw_or1 (pt_cmpR op_ne (pe_fld (pv 0) rfl) (pv 2) (nomark _))))) (pss_one (ps_ret pe_bl)) pss_nil) (pss_cons (ps_for PassesOwn.never rfl (pi_list (@pe_lst _ _ _ _ (@pa_cons _ _ _ _ _ (pe_fld (pv 0) rfl) (@pa_cons _ _ _ _ _ (pe_fld (pv 0) rfl) (@pa_cons _ _ _ _ _ (pe_fld (pv 0) rfl) pa_nil rfl) rfl) rfl))) (pg_name (i := 5) sc.nd rfl (Or.inl rfl)) (pss_one (ps_if (pt_not (pt_val (pe_callB (call_isiT (K := K) rfl) rfl B.b_isinstance boot_isinstance (@pa_cons _ _ _ _ _ (pv 5) (@pa_cons _ _ _ _ _ (pe_bltn (v := .ty "list") rfl B.b_list boot_list rfl) pa_nil rfl) rfl)))) (pss_one (ps_ret pe_bl)) pss_nil))) (pss_one (ps_ret (pe_and (pe_cmpR (op_eqSam hr.units0) (pe_fld (pv 0) rfl) (pe_ix ix_list (pv 3) pe_int (fun _ _ => rfl)) (nomark _)) (pe_and (pe_cmpR (op_eqSam hr.units0) (pe_fld (pv 0) rfl) (pv 4) (nomark _)) (pe_one (pe_cmpR (op_eqSam hr.units0) (pe_fld (pv 0) rfl) (pe_ix ix_list (pv 3) pe_int (fun _ _ => rfl)) (nomark _)))))))))), ?_⟩
  try dsimp only [cxK]
  refine cut (fun σ H' => H = H' ∧ σ = [some (.ref r), some (.str n), some (vN p), some (.ref m), some (.ref st), none]) (fun N hN => ?_) ?_
  · exact ⟨_, rfl, r, _, dx, _, _, rfl, er, B.cl_Recipe, B.na_Recipe_name, recF_f.1, _, _, _, true, rfl, .str _, rfl, _, rfl, iteF ⟨_, rfl, r, _, dx, _, _, rfl, er, B.cl_Recipe, B.na_Recipe_name, recF_f.1, _, rfl, rfl, _, rfl, nF rfl (hN _ _ ⟨rfl, rfl⟩)⟩⟩
  rintro σ _ ⟨rfl, rfl⟩
  refine cut (fun σ H' => H = H' ∧ σ = [some (.ref r), some (.str n), some (vN p), some (.ref m), some (.ref st), none]) (fun N hN => ?_) ?_
  · exact ⟨_, rfl, r, _, dx, _, _, rfl, er, B.cl_Recipe, B.na_Recipe_plates, recF_f.2.1, (p : Int), rfl, true, rfl, iteF ⟨_, rfl, r, _, dx, _, _, rfl, er, B.cl_Recipe, B.na_Recipe_plates, recF_f.2.1, _, rfl, rfl, _, rfl, nF rfl (hN _ _ ⟨rfl, rfl⟩)⟩⟩
  rintro σ _ ⟨rfl, rfl⟩
  refine cut (fun σ H' => Same H H' ∧ ∃ o, σ = [some (.ref r), some (.str n), some (vN p), some (.ref m), some (.ref st), o]) (fun N hN => ?_) ?_
  · refine ⟨_, rfl, r, _, dx, _, _, rfl, er, B.cl_Recipe, B.na_Recipe_takes, recF_f.2.2.1, _, rfl, r, _, dx, _, _, rfl, er, B.cl_Recipe, B.na_Recipe_steps, recF_f.2.2.2.1, _, rfl, r, _, dx, _, _, rfl, er, B.cl_Recipe, B.na_Recipe_links, recF_f.2.2.2.2, (by show 3 ≤ sizeLine; decide), fun l3 n3 => ?_⟩
    have g := same_new n3 (.lst [.ref lt, .ref ls, .ref lk])
    have e3 : upd H l3 (.lst [.ref lt, .ref ls, .ref lk]) l3 = some (.lst [.ref lt, .ref ls, .ref lk]) := upd_same
    generalize upd H l3 (.lst [.ref lt, .ref ls, .ref lk]) = H3 at g e3 ⊢
    refine ⟨l3, rfl, ⟨_, SqL.of e3⟩, for_list (xs := [.ref lt, .ref ls, .ref lk]) (fun i σ H' => H3 = H' ∧ ∃ o, σ = [some (.ref r), some (.str n), some (vN p), some (.ref m), some (.ref st), o]) ⟨rfl, none, rfl⟩ (fun i σ H' _ h => by rw [← h.1]; exact SqL.of e3) ?_ ?_⟩
    · rintro i y σ _ hy ⟨rfl, o, rfl⟩
      obtain ⟨a, zs, rfl, ea⟩ : ∃ a zs, y = .ref a ∧ H3 a = some (.lst zs) := by
        match i, hy with
        | 0, hy => cases hy; exact ⟨lt, _, rfl, g _ _ et⟩
        | 1, hy => cases hy; exact ⟨ls, _, rfl, g _ _ es⟩
        | 2, hy => cases hy; exact ⟨lk, _, rfl, g _ _ ek⟩
      exact ⟨_, rfl, _, _, _, true, rfl, .lst ea, rfl, _, rfl, iteF ⟨rfl, _, rfl⟩⟩
    · rintro σ _ ⟨rfl, o, rfl⟩
      exact hN _ _ ⟨g, o, rfl⟩
  rintro σ H1 ⟨g, o, rfl⟩
  have er1 := g _ _ er
  have s1 : ∀ z ∈ xt, Sam z := fun z hz => sam z (List.mem_append_left _ (List.mem_append_left _ hz))
  have s2 : ∀ z ∈ xs, Sam z := fun z hz => sam z (List.mem_append_left _ (List.mem_append_right _ hz))
  have s3 : ∀ z ∈ xk, Sam z := fun z hz => sam z (List.mem_append_right _ hz)
  exact ⟨_, rfl, r, _, dx, _, _, rfl, er1, B.cl_Recipe, B.na_Recipe_takes, recF_f.2.2.1, _, rfl, m, _, _, _, rfl, rfl, SqL.of (g _ _ em), rfl, lt, mt, xt, rfl, rfl, SqL.of (g _ _ et), SqL.of (g _ _ emt), s1, _, rfl, iteT ⟨_, rfl, r, _, dx, _, _, rfl, er1, B.cl_Recipe, B.na_Recipe_steps, recF_f.2.2.2.1, _, rfl, ls, st, xs, rfl, rfl, SqL.of (g _ _ es), SqL.of (g _ _ est), s2, _, rfl, iteT ⟨_, rfl, r, _, dx, _, _, rfl, er1, B.cl_Recipe, B.na_Recipe_links, recF_f.2.2.2.2, _, rfl, m, _, _, _, rfl, rfl, SqL.of (g _ _ em), rfl, lk, mk, xk, rfl, rfl, SqL.of (g _ _ ek), SqL.of (g _ _ emk), s3, q _ g⟩⟩⟩

set_option maxHeartbeats 4000000 in
theorem ok_law_told {dV : Value} (F : FunD K "_law_told" "_law_told" s_law_told dV f fd) (Drecipe_text : Dx P w K mg base CX0 4 "recipe_text" ["recipe"] [] (spRecText c_Cut c_Rest c_Warm c_Recipe)) : FnOk P w K mg base CX0 5 f fd ["_law_recipe", "_law_due"] (spToldR c_Cut c_Rest c_Warm c_Recipe) := by
  have sc : FnScope ["_law_recipe", "_law_due", "_law_found"] ["_law_recipe", "_law_due"] (defScope s_law_told) := scK (by decide +kernel)
  refine F.ok sc (fun vs H Q E h => ?_) (fun cdv A outer s H vs Q E hr h => ?_)
  · obtain ⟨_, _, _, _, rfl, _⟩ := h
    rfl
  obtain ⟨r, n, p, M, rfl, rc, bd, nm, p1, q⟩ := h
  refine ⟨_, (pss_cons (ps_set (i := 2) sc.nd rfl (Or.inl rfl) (pcall0 Drecipe_text hr (by decide) rfl (@pa_cons _ _ _ _ _ (pv 0) pa_nil rfl))) (pss_one (ps_ret (pe_and (pe_callB (call_isiT (K := K) rfl) rfl B.b_isinstance boot_isinstance (@pa_cons _ _ _ _ _ (pv 2) (@pa_cons _ _ _ _ _ (pe_bltn (v := .ty "str") rfl B.b_str boot_str rfl) pa_nil rfl) rfl)) (pe_one (pe_cmpR op_eq (pv 2) (pv 1) (nomark _))))))), ?_⟩
  try dsimp only [cxK]
  refine ⟨_, rfl, r, n, p, M, rfl, rc, bd, nm, p1, fun H1 g1 => ?_⟩
  dsimp only [gName, tNext]
  refine ⟨_, rfl, _, _, _, true, rfl, .str _, rfl, _, rfl, iteT ⟨_, rfl, _, rfl, rfl, ?_⟩⟩
  exact dQt (Q := fun v => Q v _) (q _ g1)

set_option maxHeartbeats 4000000 in
theorem oklaw {dV : Value} (F : FunD K "law" "law" slaw dV f fd) (DStep_init : DxM P w K mg base CX0 1 f_Step_init ["self", "name", "least", "most", "uses", "second"] [.non, .non] (spInit2 K)) (DRecipe_init : DxM P w K mg base CX0 1 f_Recipe_init ["self", "name", "plates", "takes", "steps", "links"] [] (spRecI K)) (D_law_cell_at : Dx P w K mg base CX0 1 "_law_cell_at" ["_law_script", "_law_k"] [] (spCell K)) (D_law_names : Dx P w K mg base CX0 2 "_law_names" ["_law_cell"] [] spNamesZ) (D_law_row : Dx P w K mg base CX0 4 "_law_row" ["_law_model", "_law_names_here", "_law_cell", "_law_room"] [] spRowL) (D_law_written : Dx P w K mg base CX0 3 "_law_written" ["_law_head", "_law_model"] [] spWritten) (D_law_built : Dx P w K mg base CX0 4 "_law_built" ["_law_step_here"] [] (spBuiltR c_Cut c_Rest c_Warm)) (D_law_values : Dx P w K mg base CX0 2 "_law_values" ["_law_recipe", "_law_name", "_law_plates", "_law_model", "_law_steps"] [] (spValuesL c_Recipe)) (D_law_told : Dx P w K mg base CX0 5 "_law_told" ["_law_recipe", "_law_due"] [] (spToldR c_Cut c_Rest c_Warm c_Recipe)) : FnOk P w K mg base CX0 7 f fd ["_law_script"] (spLaw K) := by
  have sc : FnScope ["_law_script", "_law_names_here", "_law_plates", "_law_model", "_law_cell", "_law_steps", "_law_handed", "_law_recipe", "_law_due", "_law_bare"] ["_law_script"] (defScope slaw) := scK (by decide +kernel)
  refine F.ok sc (fun vs H Q E h => ?_) (fun cdv A outer s H vs Q E hr h => ?_)
  · obtain ⟨_, _, rfl, _⟩ := h
    rfl
  obtain ⟨a, ns, rfl, hS, h63, q⟩ := h
  refine ⟨_, (pss_cons (ps_set (i := 1) sc.nd rfl (Or.inl rfl) (pcall0 D_law_names hr (by decide) rfl (@pa_cons _ _ _ _ _ (pcall0 D_law_cell_at hr (by decide) rfl (@pa_cons _ _ _ _ _ (pv 0) (@pa_cons _ _ _ _ _ pe_int pa_nil rfl) rfl)) pa_nil rfl))) (pss_cons (ps_set (i := 2) sc.nd rfl (Or.inl rfl) (pe_ix ix_list (@pe_lst _ _ _ _ (@pa_cons _ _ _ _ _ (pe_op op_add pe_int (pe_op op_modN (pcall0 D_law_cell_at hr (by decide) rfl (@pa_cons _ _ _ _ _ (pv 0) (@pa_cons _ _ _ _ _ pe_int pa_nil rfl) rfl)) pe_int)) (@pa_cons _ _ _ _ _ pe_int (@pa_cons _ _ _ _ _ pe_int pa_nil rfl) rfl) rfl)) (pe_op op_modN (pcall0 D_law_cell_at hr (by decide) rfl (@pa_cons _ _ _ _ _ (pv 0) (@pa_cons _ _ _ _ _ pe_int pa_nil rfl) rfl)) pe_int) (fun _ _ => rfl))) (pss_cons (ps_set (i := 3) sc.nd rfl (Or.inl rfl) (@pe_lst _ _ _ _ (@pa_cons _ _ _ _ _ (@pe_lst _ _ _ _ pa_nil) (@pa_cons _ _ _ _ _ (@pe_lst _ _ _ _ pa_nil) (@pa_cons _ _ _ _ _ (@pe_lst _ _ _ _ pa_nil) pa_nil rfl) rfl) rfl))) (pss_cons (ps_for PassesOwn.never rfl (pi_list (pe_slice sl_list (pv 0) (po_some pe_int) (po_some pe_int))) (pg_name (i := 4) sc.nd rfl (Or.inl rfl)) (pss_one (ps_expr (pcall0 D_law_row hr (by decide) rfl (@pa_cons _ _ _ _ _ (pv 3) (@pa_cons _ _ _ _ _ (pv 1) (@pa_cons _ _ _ _ _ (pv 4) (@pa_cons _ _ _ _ _ pe_int pa_nil rfl) rfl) rfl) rfl))))) (pss_cons (ps_compA (own := "_law_step_here") (ys := []) (js := []) sc.nd (i := 5) rfl rfl rfl (cok atn .nil (by decide) rfl rfl rfl rfl rfl rfl rfl rfl) (pi_list (pe_ix ix_list (pv 3) pe_int (fun _ _ => rfl))) (fun C fp s H => (pcall0 D_law_built hr (by decide) rfl (@pa_cons _ _ _ _ _ (pv 0) pa_nil rfl)))) (pss_cons (ps_set (i := 6) sc.nd rfl (Or.inl rfl) (@pe_lst _ _ _ _ (@pa_cons _ _ _ _ _ (pe_callTy call_list_of rfl B.b_list boot_list (@pa_cons _ _ _ _ _ (pe_ix ix_list (pv 3) pe_int (fun _ _ => rfl)) pa_nil rfl)) (@pa_cons _ _ _ _ _ (pe_callTy call_list_of rfl B.b_list boot_list (@pa_cons _ _ _ _ _ (pv 5) pa_nil rfl)) (@pa_cons _ _ _ _ _ (pe_callTy call_list_of rfl B.b_list boot_list (@pa_cons _ _ _ _ _ (pe_ix ix_list (pv 3) pe_int (fun _ _ => rfl)) pa_nil rfl)) pa_nil rfl) rfl) rfl))) (pss_cons (ps_set (i := 7) sc.nd rfl (Or.inl rfl) (pmake0 B.mk_Recipe DRecipe_init hr (by decide) rfl B.m_Recipe (@pa_cons _ _ _ _ _ (pe_ix ix_list (pv 1) pe_int (fun _ _ => rfl)) (@pa_cons _ _ _ _ _ (pv 2) (@pa_cons _ _ _ _ _ (pe_ix ix_list (pv 6) pe_int (fun _ _ => rfl)) (@pa_cons _ _ _ _ _ (pe_ix ix_list (pv 6) pe_int (fun _ _ => rfl)) (@pa_cons _ _ _ _ _ (pe_ix ix_list (pv 6) pe_int (fun _ _ => rfl)) pa_nil rfl) rfl) rfl) rfl) rfl))) (pss_cons (ps_if (pt_cmpR (op_neTw (hu_of hr)) (pv 6) (@pe_lst _ _ _ _ (@pa_cons _ _ _ _ _ (pe_ix ix_list (pv 3) pe_int (fun _ _ => rfl)) (@pa_cons _ _ _ _ _ (pv 5) (@pa_cons _ _ _ _ _ (pe_ix ix_list (pv 3) pe_int (fun _ _ => rfl)) pa_nil rfl) rfl) rfl)) (nomark _)) (pss_one (ps_ret pe_bl)) pss_nil) (pss_cons (ps_expr (pe_bm PySem.F.plainAttrs_list PySem.F.slot_list_append PySem.F.type_list_append mt_append (pe_ix ix_list (pv 6) pe_int (fun _ _ => rfl)) (@pa_cons _ _ _ _ _ (@pe_tup _ _ _ _ _ (@pa_cons _ _ _ _ _ pe_str (@pa_cons _ _ _ _ _ (@pe_tup _ _ _ _ _ (@pa_cons _ _ _ _ _ pe_int (@pa_cons _ _ _ _ _ pe_int pa_nil rfl) rfl)) pa_nil rfl) rfl)) pa_nil rfl))) (pss_cons (ps_expr (pe_bm PySem.F.plainAttrs_list PySem.F.slot_list_append PySem.F.type_list_append mt_append (pe_ix ix_list (pv 6) pe_int (fun _ _ => rfl)) (@pa_cons _ _ _ _ _ (pmake0d B.mk_Rest DStep_init hr (by decide) rfl B.m_Rest (@pa_cons _ _ _ _ _ pe_str (@pa_cons _ _ _ _ _ pe_int (@pa_cons _ _ _ _ _ pe_int pa_nil rfl) rfl) rfl)) pa_nil rfl))) (pss_cons (ps_expr (pe_bm0 PySem.F.plainAttrs_list PySem.F.slot_list_clear PySem.F.type_list_clear mt_clear (pe_ix ix_list (pv 6) pe_int (fun _ _ => rfl)))) (pss_cons (ps_if (pt_not (pt_val (pcall0 D_law_values hr (by decide) rfl (@pa_cons _ _ _ _ _ (pv 7) (@pa_cons _ _ _ _ _ (pe_ix ix_list (pv 1) pe_int (fun _ _ => rfl)) (@pa_cons _ _ _ _ _ (pv 2) (@pa_cons _ _ _ _ _ (pv 3) (@pa_cons _ _ _ _ _ (pv 5) pa_nil rfl) rfl) rfl) rfl) rfl)))) (pss_one (ps_ret pe_bl)) pss_nil) (pss_cons (ps_set (i := 8) sc.nd rfl (Or.inl rfl) (pe_bm PySem.F.plainAttrs_str PySem.F.slot_str_join PySem.F.type_str_join mt_join pe_str (@pa_cons _ _ _ _ _ (pcall0 D_law_written hr (by decide) rfl (@pa_cons _ _ _ _ _ (pe_op op_add_str (pe_op op_add_str (pe_op op_add_str pe_str (pe_ix ix_list (pv 1) pe_int (fun _ _ => rfl))) pe_str) (pe_callTy call_str_int rfl B.b_str boot_str (@pa_cons _ _ _ _ _ (pv 2) pa_nil rfl))) (@pa_cons _ _ _ _ _ (pv 3) pa_nil rfl) rfl)) pa_nil rfl))) (pss_cons (ps_if (PW.pt (pw_or (pt_not (pt_val (pcall0 D_law_told hr (by decide) rfl (@pa_cons _ _ _ _ _ (pv 7) (@pa_cons _ _ _ _ _ (pv 8) pa_nil rfl) rfl)))) (pw_or1 (pt_not (pt_val (pcall0 D_law_values hr (by decide) rfl (@pa_cons _ _ _ _ _ (pv 7) (@pa_cons _ _ _ _ _ (pe_ix ix_list (pv 1) pe_int (fun _ _ => rfl)) (@pa_cons _ _ _ _ _ (pv 2) (@pa_cons _ _ _ _ _ (pv 3) (@pa_cons _ _ _ _ _ (pv 5) pa_nil rfl) rfl) rfl) rfl) rfl))))))) (pss_one (ps_ret pe_bl)) pss_nil) (pss_cons (ps_set (i := 9) sc.nd rfl (Or.inl rfl) (pmake0 B.mk_Recipe DRecipe_init hr (by decide) rfl B.m_Recipe (@pa_cons _ _ _ _ _ (pe_ix ix_list (pv 1) pe_int (fun _ _ => rfl)) (@pa_cons _ _ _ _ _ (pv 2) (@pa_cons _ _ _ _ _ (@pe_lst _ _ _ _ pa_nil) (@pa_cons _ _ _ _ _ (@pe_lst _ _ _ _ pa_nil) (@pa_cons _ _ _ _ _ (@pe_lst _ _ _ _ pa_nil) pa_nil rfl) rfl) rfl) rfl) rfl))) (pss_one (ps_ret (pe_and (pcall0 D_law_told hr (by decide) rfl (@pa_cons _ _ _ _ _ (pv 9) (@pa_cons _ _ _ _ _ (pe_op op_add_str (pe_op op_add_str (pe_op op_add_str pe_str (pe_ix ix_list (pv 1) pe_int (fun _ _ => rfl))) pe_str) (pe_callTy call_str_int rfl B.b_str boot_str (@pa_cons _ _ _ _ _ (pv 2) pa_nil rfl))) pa_nil rfl) rfl)) (pe_one (pcall0 D_law_told hr (by decide) rfl (@pa_cons _ _ _ _ _ (pv 7) (@pa_cons _ _ _ _ _ (pv 8) pa_nil rfl) rfl))))))))))))))))))))), ?_⟩
  try dsimp only [cxK]
  have sl : sizeLine = 16777216 := sizeLine_eq
  refine ⟨_, rfl, a, ns, 0, rfl, hS, by decide, fun c0 => ⟨c0, rfl, fun ln zs H1 g1 en zz => ?_⟩⟩
  dsimp only [gName, tNext]
  obtain ⟨z2, hz2, nz2⟩ := zz.at_ (i := 2) (by decide)
  obtain ⟨z3, hz3, nz3⟩ := zz.at_ (i := 3) (by decide)
  have z2l := nz2.len
  have z3l := nz3.len
  refine cut (fun σ H' => ∃ pl : Nat, σ = [some (.ref a), some (.ref ln), some (vN pl), none, none, none, none, none, none, none] ∧ Same H1 H' ∧ 1 ≤ pl ∧ pl ≤ 1000) (fun N hN => ?_) ?_
  · refine ⟨_, rfl, a, ns, 1, rfl, g1.seq hS, by decide, fun c1 => ⟨_, _, rfl, rfl, (by show (1000 : Int) ≠ 0; decide), _, _, rfl, rfl, (by show 3 ≤ sizeLine; decide), fun l3 n3 => ?_⟩⟩
    have g2 := same_new n3 (.lst [.int (1 + c1.fmod 1000), .int 1, .int 1000])
    have m1 := fm (a := c1) (n := 1000) (by decide)
    refine ⟨_, rfl, a, ns, 2, rfl, (g1.trans g2).seq hS, by decide, fun c2 => ?_⟩
    obtain ⟨pl, hv, h9⟩ : ∃ h : Nat, atI [V.int (1 + c1.fmod 1000), .int 1, .int 1000] (c2.fmod 3) = some (vN h) ∧ 1 ≤ h ∧ h ≤ 1000 := by
      obtain ⟨j, ej, jl⟩ := fmN (a := c2) (n := 3) (by decide)
      rw [ej]
      have jl : j < 3 := by omega
      match j, jl with
      | 0, _ => exact ⟨(1 + c1.fmod 1000).toNat, congrArg some (congrArg V.int (by omega)), by omega⟩
      | 1, _ => exact ⟨1, rfl, by decide⟩
      | 2, _ => exact ⟨1000, rfl, by decide⟩
    exact ⟨_, _, rfl, rfl, (by show (3 : Int) ≠ 0; decide), l3, _, _, _, rfl, rfl, SqL.of upd_same, hv, hN _ _ ⟨pl, rfl, g2, h9⟩⟩
  rintro σ H2 ⟨pl, rfl, g2, p1, p2⟩
  have g12 := g1.trans g2
  have en2 := g2 _ _ en
  clear g1 g2 en
  refine cut (fun σ H' => ∃ m lt ls lk, σ = [some (.ref a), some (.ref ln), some (vN pl), some (.ref m), none, none, none, none, none, none] ∧ ML H2 H' m lt ls lk [] ⟨[], [], []⟩) (fun N hN => ?_) ?_
  · refine ⟨(by show 0 ≤ sizeLine; decide), fun lt nlt => ⟨(by show 0 ≤ sizeLine; decide), fun ls nls => ⟨(by show 0 ≤ sizeLine; decide), fun lk nlk => ⟨(by show 3 ≤ sizeLine; decide), fun m nm => hN _ _ ⟨m, lt, ls, lk, rfl, ml_new nlt nls nlk nm⟩⟩⟩⟩⟩
  rintro σ H3 ⟨m, lt, ls, lk, rfl, ml0⟩
  obtain ⟨cs, hcs, l30⟩ := cut_cells (ns := ns)
  refine cut (fun σ H' => ∃ (o : Option V) (ks : List Sk) (M : Md), σ = [some (.ref a), some (.ref ln), some (vN pl), some (.ref m), o, none, none, none, none, none] ∧ ML H2 H' m lt ls lk ks M ∧ MOk zs 12 M) (fun N hN => ?_) ?_
  · refine ⟨_, rfl, _, rfl, _, rfl, a, _, rfl, (g12.trans ml0.fr).seq hS, fun p np => ?_⟩
    rw [hcs]
    have gp := same_new np (.lst (cs.map V.int))
    have ep : upd H3 p (.lst (cs.map V.int)) p = some (.lst (cs.map V.int)) := upd_same
    have ml1 := ml0.same gp
    generalize upd H3 p (.lst (cs.map V.int)) = H4 at gp ep ml1 ⊢
    have npo : ∀ x ∈ owns m lt ls lk [], x ≠ p := fun x hx z => by
      have := ml0.all x hx
      rw [z] at this
      exact this np
    refine ⟨p, rfl, ⟨_, SqL.of ep⟩, for_list (xs := cs.map V.int) (fun i σ H' => ∃ (o : Option V) (ks : List Sk) (M : Md), σ = [some (.ref a), some (.ref ln), some (vN pl), some (.ref m), o, none, none, none, none, none] ∧ ML (less H4 (owns m lt ls lk [])) H' m lt ls lk ks M ∧ MOk zs 12 M) ⟨none, [], ⟨[], [], []⟩, rfl, ml1.top, MOk.nil _ _⟩ (fun i σ H' _ h => ?_) ?_ ?_⟩
    · obtain ⟨_, _, _, _, ml, _⟩ := h
      exact SqL.of (ml.fr _ _ (by rw [less_at fun hx => npo p hx rfl]; exact ep))
    · rintro i y σ H5 hy ⟨o, ks, M, rfl, ml, ok⟩
      rw [List.getElem?_map] at hy
      obtain ⟨c, _, rfl⟩ := Option.map_eq_some_iff.mp hy
      have en5 : H5 ln = some (.lst (zs.map V.str)) := ml.fr _ _ (by
        rw [less_at fun hx => ?_]
        · exact (ml1.fr _ _ en2)
        · have := ml1.nw ln hx
          rw [en2] at this
          cases this)
      exact ⟨_, rfl, _, rfl, _, rfl, _, m, lt, ls, lk, ln, c, ks, M, zs, 12, rfl, by decide, ml, ok, en5, zz, fun z ks' M' H' ml' ok' _ => ⟨_, ks', M', rfl, ml', ok'⟩⟩
    · rintro σ H5 ⟨o, ks, M, rfl, ml, ok⟩
      refine hN _ _ ⟨o, ks, M, rfl, ml.low fun b v e => ?_, ok⟩
      rw [less_at fun hx => ?_]
      · exact ml1.fr _ _ e
      · have := ml1.nw b hx
        rw [e] at this
        cases this
  rintro σ H4 ⟨o, ks, M, rfl, ml, ok⟩
  have bd := ok.bd zz (by decide)
  have en4 := ml.fr _ _ en2
  have es4 := ml.es
  have s12 := bd.s12
  have lks := ml.len
  clear ml0
  refine cut (fun σ H' => ∃ (sl5 : Addr) (vs : List V), σ = [some (.ref a), some (.ref ln), some (vN pl), some (.ref m), o, some (.ref sl5), none, none, none, none] ∧ Same H4 H' ∧ H4 sl5 = none ∧ H' sl5 = some (.lst vs) ∧ A2 (StV c_Cut c_Rest c_Warm H') vs M.steps) (fun N hN => ?_) ?_
  · refine ⟨_, rfl, m, _, _, _, rfl, rfl, SqL.of ml.em, rfl, ls, rfl, ⟨_, SqL.of es4⟩, comp_Ro (fun i H' y => ∃ s, M.steps[i]? = some s ∧ StV c_Cut c_Rest c_Warm H' y s) (SqL.of es4) (by rw [List.length_map]; omega) (fun i x hx H5 g5 p ws ep Q' hQ => ?_) fun p ys H5 np hl hy g5 e5 => hN _ _ ⟨p, ys, rfl, g5, np, e5, ?_, fun i v s h1 h2 => ?_⟩⟩
    · rw [List.getElem?_map] at hx
      obtain ⟨k, hk, rfl⟩ := Option.map_eq_some_iff.mp hx
      have il := lt_of_at hk
      obtain ⟨s, hs⟩ : ∃ s, M.steps[i]? = some s := ⟨_, List.getElem?_eq_getElem (by omega)⟩
      have sb := bd.ss s (List.mem_of_getElem? hs)
      refine ⟨_, rfl, k, s, rfl, (ml.ss i k s hk hs).same g5, sb.wd, sb.fl, fun x H6 g6 nx hst => hQ _ _ g6 fun H7 kp => ⟨s, hs, x, rfl, hst H7 fun b o e nl => kp b o (fun z => ?_) e⟩⟩
      rw [z] at nl
      exact nl ws ep
    · rw [hl, List.length_map]; exact lks
    · obtain ⟨s', h3, h4⟩ := hy i v h1
      rw [h2] at h3
      cases h3
      exact h4
  rintro σ H5 ⟨sl5, vs, rfl, g5, nsl, esl, rs⟩
  have g24 := ml.fr
  obtain ⟨vt, et, rt⟩ := id ml.et
  obtain ⟨vk, ek, rk⟩ := id ml.ek
  have ml5 := ml.same g5
  have en5 := g5 _ _ en4
  have et5 := g5 _ _ et
  have ek5 := g5 _ _ ek
  have em5 := ml5.em
  have st5 : ∀ z ∈ vt, Sam z := take_sam rt
  have ss5 : ∀ z ∈ vs, Sam z := step_sam rs
  have sk5 : ∀ z ∈ vk, Sam z := tup_sam rk
  have sam : ∀ z ∈ vt ++ vs ++ vk, Sam z := fun z hz => by
    rcases List.mem_append.mp hz with hz | hz
    · rcases List.mem_append.mp hz with hz | hz
      · exact st5 z hz
      · exact ss5 z hz
    · exact sk5 z hz
  have rt5 := rt.imp fun _ _ q => mvS q g5
  have rk5 := rk.imp fun _ _ q => mvS q g5
  have lvt := rt.1
  have lvs := rs.1
  have t12 := bd.t12
  have atz2 := zs_at hz2
  have atz3 := zs_at hz3
  clear ml es4 et ek en4
  refine cut (fun σ H' => ∃ hl h0 h1 h2 : Addr, σ = [some (.ref a), some (.ref ln), some (vN pl), some (.ref m), o, some (.ref sl5), some (.ref hl), none, none, none] ∧ Same H5 H' ∧ H' hl = some (.lst [.ref h0, .ref h1, .ref h2]) ∧ H' h0 = some (.lst vt) ∧ H' h1 = some (.lst vs) ∧ H' h2 = some (.lst vk) ∧ H5 h0 = none ∧ H5 h1 = none ∧ H5 h2 = none ∧ (hl ≠ h0 ∧ hl ≠ h1 ∧ hl ≠ h2) ∧ h0 ≠ h1 ∧ h0 ≠ h2 ∧ h1 ≠ h2) (fun N hN => ?_) ?_
  · refine ⟨_, rfl, m, _, _, _, rfl, rfl, SqL.of em5, rfl, lt, _, rfl, .inl (SqL.of et5), fun h0 nh0 => ?_⟩
    have k0 := same_new nh0 (.lst vt)
    refine ⟨_, rfl, sl5, _, rfl, .inl (SqL.of (k0 _ _ esl)), fun h1 nh1 => ?_⟩
    have k1 := same_new nh1 (.lst vs)
    have k01 := k0.trans k1
    refine ⟨_, rfl, m, _, _, _, rfl, rfl, SqL.of (k01 _ _ em5), rfl, lk, _, rfl, .inl (SqL.of (k01 _ _ ek5)), fun h2 nh2 => ?_⟩
    have k2 := same_new nh2 (.lst vk)
    have k02 := k01.trans k2
    refine ⟨(by show 3 ≤ sizeLine; decide), fun hl nhl => ?_⟩
    have k3 := same_new nhl (.lst [.ref h0, .ref h1, .ref h2])
    have f0 := k2 _ _ (k1 _ _ (upd_same (H := H5) (a := h0) (o := .lst vt)))
    have f1 := k2 _ _ (upd_same (H := upd H5 h0 (.lst vt)) (a := h1) (o := .lst vs))
    have f2 := upd_same (H := upd (upd H5 h0 (.lst vt)) h1 (.lst vs)) (a := h2) (o := .lst vk)
    exact hN _ _ ⟨hl, h0, h1, h2, rfl, k02.trans k3, upd_same, k3 _ _ f0, k3 _ _ f1, k3 _ _ f2, nh0, k0.free nh1, k01.free nh2, ⟨(ne_of_none f0 nhl).symm, (ne_of_none f1 nhl).symm, (ne_of_none f2 nhl).symm⟩, ne_of_none upd_same nh1, ne_of_none (k1 _ _ upd_same) nh2, ne_of_none upd_same nh2⟩
  rintro σ H6 ⟨hl, h0, h1, h2, rfl, g6, el6, e06, e16, e26, n0, n1, n2, dl, d01, d02, d12⟩
  refine cut (fun σ H' => ∃ (r t s u : Addr), σ = [some (.ref a), some (.ref ln), some (vN pl), some (.ref m), o, some (.ref sl5), some (.ref hl), some (.ref r), none, none] ∧ Hd H5 H' c_Recipe r z2 pl t s u hl h0 h1 h2 vt vs vk vt vs vk) (fun N hN => ?_) ?_
  · refine ⟨_, rfl, ln, _, _, _, rfl, rfl, SqL.of (g6 _ _ en5), atz2, _, rfl, _, rfl, hl, _, _, _, rfl, rfl, SqL.of el6, rfl, _, rfl, hl, _, _, _, rfl, rfl, SqL.of el6, rfl, _, rfl, hl, _, _, _, rfl, rfl, SqL.of el6, rfl, fun r dx nr nd nrd => ?_⟩
    have gm := made_new (C := c_Recipe) nr nd
    refine ⟨r, _, dx, h0, h1, h2, .str z2, vN pl, vt, vs, vk, rfl, upd_same, ⟨B.cl_Recipe, B.na_Recipe_name, B.na_Recipe_plates, B.na_Recipe_takes, B.na_Recipe_steps, B.na_Recipe_links⟩, gm _ _ e06, gm _ _ e16, gm _ _ e26, fun t s u H7 ta sa ua nt ns nu nd3 kp et7 es7 eu7 er => ⟨rfl, ?_⟩⟩
    have g7 := made_same nr nd kp
    have nn : ∀ x, (upd (upd H6 dx (.own r)) r (.ins c_Recipe dx [])) x = none → x ≠ h0 ∧ x ≠ h1 ∧ x ≠ h2 := fun x hx => ⟨(ne_of_none (gm _ _ e06) hx).symm, (ne_of_none (gm _ _ e16) hx).symm, (ne_of_none (gm _ _ e26) hx).symm⟩
    refine hN _ _ ⟨r, t, s, u, rfl, g6.trans g7, ⟨dx, er⟩, et7, es7, eu7, g7 _ _ el6, g7 _ _ e06, g7 _ _ e16, g7 _ _ e26, n0, n1, n2, fun x hx => ?_, d01, d02, d12⟩
    simp only [List.mem_cons, List.not_mem_nil, or_false] at hx
    rcases hx with rfl | rfl | rfl | rfl
    · exact nn _ nt
    · exact nn _ ns
    · exact nn _ nu
    · exact dl
  rintro σ H7 ⟨r, t, s, u, rfl, hd⟩
  clear g6 el6 e06 e16 e26
  refine cut (fun σ H' => σ = [some (.ref a), some (.ref ln), some (vN pl), some (.ref m), o, some (.ref sl5), some (.ref hl), some (.ref r), none, none] ∧ Hd H5 H' c_Recipe r z2 pl t s u hl h0 h1 h2 vt vs vk vt vs vk) (fun N hN => ?_) ?_
  · refine ⟨_, rfl, _, rfl, m, _, _, _, rfl, rfl, SqL.of (hd.fr _ _ em5), rfl, _, rfl, _, rfl, m, _, _, _, rfl, rfl, SqL.of (hd.fr _ _ em5), rfl, (by show 3 ≤ sizeLine; decide), fun l9 n9 => ?_⟩
    have hd8 := hd.same (same_new n9 (.lst [.ref lt, .ref sl5, .ref lk]))
    refine ⟨hl, l9, _, _, rfl, rfl, SqL.of hd8.el, SqL.of upd_same, ⟨⟨h0, lt, vt, rfl, rfl, SqL.of hd8.e0, SqL.of (hd8.fr _ _ et5), st5⟩, ⟨h1, sl5, vs, rfl, rfl, SqL.of hd8.e1, SqL.of (hd8.fr _ _ esl), ss5⟩, ⟨h2, lk, vk, rfl, rfl, SqL.of hd8.e2, SqL.of (hd8.fr _ _ ek5), sk5⟩, trivial⟩, _, rfl, iteF (hN _ _ ⟨rfl, hd8⟩)⟩
  rintro σ H8 ⟨rfl, hd⟩
  refine cut (fun σ H' => σ = [some (.ref a), some (.ref ln), some (vN pl), some (.ref m), o, some (.ref sl5), some (.ref hl), some (.ref r), none, none] ∧ ∃ w0, Hd H5 H' c_Recipe r z2 pl t s u hl h0 h1 h2 vt vs vk w0 vs vk) (fun N hN => ?_) ?_
  · refine ⟨_, rfl, hl, _, _, _, rfl, rfl, SqL.of hd.el, rfl, .inl ⟨rfl, _, SqL.of hd.e0⟩, (by show 2 ≤ sizeLine; decide), fun tb ntb => ⟨(by show 2 ≤ sizeLine; decide), fun ta nta => ?_⟩⟩
    have hd9 := (hd.same (same_new ntb (.tup [.int 1, .int 2]))).same (same_new nta (.tup [.str "salt", .ref tb]))
    exact ⟨h0, _, _, rfl, rfl, hd9.e0, by omega, hN _ _ ⟨rfl, _, hd9.put0⟩⟩
  rintro σ H9 ⟨rfl, w0, hd⟩
  refine cut (fun σ H' => σ = [some (.ref a), some (.ref ln), some (vN pl), some (.ref m), o, some (.ref sl5), some (.ref hl), some (.ref r), none, none] ∧ ∃ w1, Hd H5 H' c_Recipe r z2 pl t s u hl h0 h1 h2 vt vs vk w0 w1 vk) (fun N hN => ?_) ?_
  · refine ⟨_, rfl, hl, _, _, _, rfl, rfl, SqL.of hd.el, rfl, .inl ⟨rfl, _, SqL.of hd.e1⟩, fun x dx nx nd nxd => ⟨x, _, dx, _, _, _, .non, .non, [], none, rfl, upd_same, ⟨B.cl_Rest, B.na_Rest_name, B.na_Rest_least, B.na_Rest_most, B.na_Rest_uses, B.na_Rest_second⟩, .inl ⟨rfl, rfl⟩, rfl, fun u6 s6 H6 k6 ux nu eu hs6 ex => ⟨rfl, ?_⟩⟩⟩
    have hd9 := hd.same (made_same nx nd k6)
    exact ⟨h1, _, _, rfl, rfl, hd9.e1, by omega, hN _ _ ⟨rfl, _, hd9.put1⟩⟩
  rintro σ H10 ⟨rfl, w1, hd⟩
  refine cut (fun σ H' => σ = [some (.ref a), some (.ref ln), some (vN pl), some (.ref m), o, some (.ref sl5), some (.ref hl), some (.ref r), none, none] ∧ Hd H5 H' c_Recipe r z2 pl t s u hl h0 h1 h2 vt vs vk w0 w1 []) (fun N hN => ?_) ?_
  · exact ⟨_, rfl, hl, _, _, _, rfl, rfl, SqL.of hd.el, rfl, .inl ⟨rfl, _, SqL.of hd.e2⟩, h2, _, rfl, rfl, hd.e2, hN _ _ ⟨rfl, hd.put2⟩⟩
  rintro σ H11 ⟨rfl, hd⟩
  refine cut (fun σ H' => σ = [some (.ref a), some (.ref ln), some (vN pl), some (.ref m), o, some (.ref sl5), some (.ref hl), some (.ref r), none, none] ∧ Hd H5 H' c_Recipe r z2 pl t s u hl h0 h1 h2 vt vs vk w0 w1 []) (fun N hN => ?_) ?_
  · exact ⟨_, rfl, _, rfl, ln, _, _, _, rfl, rfl, SqL.of (hd.fr _ _ en5), atz2, _, rfl, _, rfl, _, rfl, r, t, s, u, z2, pl, m, sl5, lt, ls, lk, vt, vs, vk, rfl, hd.rc, hd.et, hd.es, hd.eu, hd.fr _ _ em5, hd.fr _ _ et5, hd.fr _ _ esl, hd.fr _ _ ek5, sam, fun H' g => ⟨_, rfl, iteF (hN _ _ ⟨rfl, hd.same g⟩)⟩⟩
  rintro σ H12 ⟨rfl, hd⟩
  have l1 : (Str.ofString " ").length = 1 := by decide
  have l5 : (Str.ofString "dish ").length = 5 := by decide
  have lp := numT_len (n := pl) (by omega)
  have hl4 := headT_len nz2 p2
  refine cut (fun σ H' => σ = [some (.ref a), some (.ref ln), some (vN pl), some (.ref m), o, some (.ref sl5), some (.ref hl), some (.ref r), some (.str (recT z2 pl M)), none] ∧ Hd H5 H' c_Recipe r z2 pl t s u hl h0 h1 h2 vt vs vk w0 w1 []) (fun N hN => ?_) ?_
  · refine ⟨rfl, _, rfl, ln, _, _, _, rfl, rfl, SqL.of (hd.fr _ _ en5), atz2, _, _, rfl, rfl, by omega, _, _, rfl, rfl, (by rw [Str.length_append]; omega), _, rfl, _, rfl, num_lg (by omega), ?_⟩
    rw [num_T]
    refine ⟨_, _, rfl, rfl, (by rw [Str.length_append, Str.length_append]; omega), ?_⟩
    rw [cat_dish]
    refine ⟨_, rfl, _, headT z2 pl, m, lt, ls, lk, ks, M, rfl, ml5.same hd.fr, bd, fun l H' g nl e => ?_⟩
    exact ⟨_, l, _, rfl, rfl, SqL.of e, (by decide), recT_sum bd hl4, hN _ _ ⟨rfl, hd.same g⟩⟩
  rintro σ H13 ⟨rfl, hd⟩
  have rcA : ∀ {H' : Hp}, Hd H5 H' c_Recipe r z2 pl t s u hl h0 h1 h2 vt vs vk w0 w1 [] → RcA c_Cut c_Rest c_Warm c_Recipe H' r z2 pl M := fun hd => ⟨t, s, u, hd.rc, ⟨vt, hd.et, rt5.imp fun _ _ q => mvS q hd.fr⟩, ⟨vs, hd.es, rs.steps hd.fr⟩, ⟨vk, hd.eu, rk5.imp fun _ _ q => mvS q hd.fr⟩⟩
  refine cut (fun σ H' => σ = [some (.ref a), some (.ref ln), some (vN pl), some (.ref m), o, some (.ref sl5), some (.ref hl), some (.ref r), some (.str (recT z2 pl M)), none] ∧ Hd H5 H' c_Recipe r z2 pl t s u hl h0 h1 h2 vt vs vk w0 w1 []) (fun N hN => ?_) ?_
  · exact ⟨_, rfl, _, rfl, r, z2, pl, M, rfl, rcA hd, bd, nz2, p2, fun H14 g14 => ⟨_, rfl, iteF ⟨_, rfl, _, rfl, ln, _, _, _, rfl, rfl, SqL.of ((hd.same g14).fr _ _ en5), atz2, _, rfl, _, rfl, _, rfl, r, t, s, u, z2, pl, m, sl5, lt, ls, lk, vt, vs, vk, rfl, (hd.same g14).rc, (hd.same g14).et, (hd.same g14).es, (hd.same g14).eu, (hd.same g14).fr _ _ em5, (hd.same g14).fr _ _ et5, (hd.same g14).fr _ _ esl, (hd.same g14).fr _ _ ek5, sam, fun H' g => ⟨_, rfl, iteF (hN _ _ ⟨rfl, (hd.same g14).same g⟩)⟩⟩⟩⟩
  rintro σ H14 ⟨rfl, hd⟩
  refine ⟨_, rfl, ln, _, _, _, rfl, rfl, SqL.of (hd.fr _ _ en5), atz3, _, rfl, (by show 0 ≤ sizeLine; decide), fun b0 nb0 => ⟨(by show 0 ≤ sizeLine; decide), fun b1 nb1 => ⟨(by show 0 ≤ sizeLine; decide), fun b2 nb2 => fun rb dxb nr nd nrd => ?_⟩⟩⟩
  have k0 := same_new nb0 (.lst [])
  have k1 := same_new nb1 (.lst [])
  have k2 := same_new nb2 (.lst [])
  have gm := made_new (C := c_Recipe) nr nd
  refine ⟨rb, _, dxb, b0, b1, b2, .str z3, vN pl, [], [], [], rfl, upd_same, ⟨B.cl_Recipe, B.na_Recipe_name, B.na_Recipe_plates, B.na_Recipe_takes, B.na_Recipe_steps, B.na_Recipe_links⟩, gm _ _ (k2 _ _ (k1 _ _ upd_same)), gm _ _ (k2 _ _ upd_same), gm _ _ upd_same, fun t' s' u' H15 ta sa ua nt ns nu nd3 kp et7 es7 eu7 er => ⟨rfl, ?_⟩⟩
  have g15 := ((k0.trans k1).trans k2).trans (made_same nr nd kp)
  have hd15 := hd.same g15
  dsimp only [gName, tNext]
  refine ⟨_, rfl, _, rfl, ln, _, _, _, rfl, rfl, SqL.of (hd15.fr _ _ en5), atz3, _, _, rfl, rfl, by omega, _, _, rfl, rfl, (by rw [Str.length_append]; omega), _, rfl, _, rfl, num_lg (by omega), ?_⟩
  rw [num_T]
  refine ⟨_, _, rfl, rfl, (by rw [Str.length_append, Str.length_append]; omega), ?_⟩
  rw [cat_dish]
  refine ⟨rb, z3, pl, ⟨[], [], []⟩, rfl, ⟨t', s', u', ⟨dxb, er⟩, ⟨[], et7, A2.nil⟩, ⟨[], es7, A2.nil⟩, ⟨[], eu7, A2.nil⟩⟩, MBd.nil, nz3, p2, fun H16 g16 => ⟨_, rfl, iteT ⟨_, rfl, _, rfl, r, z2, pl, M, rfl, rcA (hd15.same g16), bd, nz2, p2, fun H17 _ => q _⟩⟩⟩

end
set_option maxHeartbeats 4000000 in
theorem all_mk {l : PySem.W.OpenLaw} {w : World} {K : PySem.W.Frag} {h : Heap} {mg : Str → Option Value} {fa fround_down famount_text frow_of frows_of_uses frows_of_step frow_of_link frecipe_text f_law_cell_at f_law_whole f_law_common f_law_stream f_law_names f_law_amount f_law_lengths f_law_take f_law_step f_law_second f_law_use f_law_link f_law_row f_law_amount_text f_law_use_rows f_law_step_rows f_law_written f_law_built f_law_values f_law_told flaw c_Cut c_Recipe c_Rest c_Step c_Warm f_Step_init f_Cut_word f_Warm_init f_Warm_word f_Rest_word f_Recipe_init : Addr} (X : K.In h) (G : h.Ns mainGlobals mg) (hfa : mg "law" = some (.ref fa))
    {odlaw anlaw : Option Addr} {sllaw : Array (Option Value)} {oclaw kVlaw dclaw pmlaw cdlaw ctlaw : Value}
    {TStep_init : Addr} {ToStep_init : Value} {TdStep_init : Option Addr} {TnStep_init : Nat} {TsStep_init : Array (Option Value)}
    {TWarm_init : Addr} {ToWarm_init : Value} {TdWarm_init : Option Addr} {TnWarm_init : Nat} {TsWarm_init : Array (Option Value)}
    (qround_down : GfAt K fround_down "round_down" sround_down .none)
    (qamount_text : GfAt K famount_text "amount_text" samount_text .none)
    (qrow_of : GfAt K frow_of "row_of" srow_of .none)
    (qrows_of_uses : GfAt K frows_of_uses "rows_of_uses" srows_of_uses .none)
    (qrows_of_step : GfAt K frows_of_step "rows_of_step" srows_of_step .none)
    (qrow_of_link : GfAt K frow_of_link "row_of_link" srow_of_link .none)
    (qrecipe_text : GfAt K frecipe_text "recipe_text" srecipe_text .none)
    (q_law_cell_at : GfAt K f_law_cell_at "_law_cell_at" s_law_cell_at .none)
    (q_law_whole : GfAt K f_law_whole "_law_whole" s_law_whole .none)
    (q_law_common : GfAt K f_law_common "_law_common" s_law_common .none)
    (q_law_stream : GfAt K f_law_stream "_law_stream" s_law_stream .none)
    (q_law_names : GfAt K f_law_names "_law_names" s_law_names .none)
    (q_law_amount : GfAt K f_law_amount "_law_amount" s_law_amount .none)
    (q_law_lengths : GfAt K f_law_lengths "_law_lengths" s_law_lengths .none)
    (q_law_take : GfAt K f_law_take "_law_take" s_law_take .none)
    (q_law_step : GfAt K f_law_step "_law_step" s_law_step .none)
    (q_law_second : GfAt K f_law_second "_law_second" s_law_second .none)
    (q_law_use : GfAt K f_law_use "_law_use" s_law_use .none)
    (q_law_link : GfAt K f_law_link "_law_link" s_law_link .none)
    (q_law_row : GfAt K f_law_row "_law_row" s_law_row .none)
    (q_law_amount_text : GfAt K f_law_amount_text "_law_amount_text" s_law_amount_text .none)
    (q_law_use_rows : GfAt K f_law_use_rows "_law_use_rows" s_law_use_rows .none)
    (q_law_step_rows : GfAt K f_law_step_rows "_law_step_rows" s_law_step_rows .none)
    (q_law_written : GfAt K f_law_written "_law_written" s_law_written .none)
    (q_law_built : GfAt K f_law_built "_law_built" s_law_built .none)
    (q_law_values : GfAt K f_law_values "_law_values" s_law_values .none)
    (q_law_told : GfAt K f_law_told "_law_told" s_law_told .none)
    (alaw : PySem.W.nsIn K mainGlobals "law" = some (some (.ref flaw)))
    (llaw : K.lookup flaw = some ⟨oclaw, odlaw, .func (PySem.W.fnOf "law" "law" (defArgs slaw) (defBody slaw) (defScope slaw) .none kVlaw dclaw pmlaw anlaw cdlaw ctlaw), sllaw⟩) (claw : PySem.W.codeIn K cdlaw "law" = true) (klaw : PySem.W.keepIn K (.ref flaw) = true)
    (zb_bool : PySem.W.nsIn K mainGlobals "bool" = some none)
    (zb_int : PySem.W.nsIn K mainGlobals "int" = some none)
    (zb_isinstance : PySem.W.nsIn K mainGlobals "isinstance" = some none)
    (zb_len : PySem.W.nsIn K mainGlobals "len" = some none)
    (zb_list : PySem.W.nsIn K mainGlobals "list" = some none)
    (zb_range : PySem.W.nsIn K mainGlobals "range" = some none)
    (zb_str : PySem.W.nsIn K mainGlobals "str" = some none)
    (zm_Cut : PySem.W.nsIn K mainGlobals "Cut" = some (some (.ref c_Cut)))
    (zm_Recipe : PySem.W.nsIn K mainGlobals "Recipe" = some (some (.ref c_Recipe)))
    (zm_Rest : PySem.W.nsIn K mainGlobals "Rest" = some (some (.ref c_Rest)))
    (zm_Step : PySem.W.nsIn K mainGlobals "Step" = some (some (.ref c_Step)))
    (zm_Warm : PySem.W.nsIn K mainGlobals "Warm" = some (some (.ref c_Warm)))
    (atStep_init : PySem.W.findIn K (.ref c_Step) "__init__" = some (some (.ref f_Step_init)))
    (qStep_init : FnAt K f_Step_init "__init__" "Step.__init__" sStep_init (.ref TStep_init))
    (qCut_word : MfAt K c_Cut f_Cut_word "word" "Cut.word" sCut_word .none)
    (atWarm_init : PySem.W.findIn K (.ref c_Warm) "__init__" = some (some (.ref f_Warm_init)))
    (qWarm_init : FnAt K f_Warm_init "__init__" "Warm.__init__" sWarm_init (.ref TWarm_init))
    (qWarm_word : MfAt K c_Warm f_Warm_word "word" "Warm.word" sWarm_word .none)
    (qRest_word : MfAt K c_Rest f_Rest_word "word" "Rest.word" sRest_word .none)
    (qRecipe_init : MfAt K c_Recipe f_Recipe_init "__init__" "Recipe.__init__" sRecipe_init .none)
    (dStep_init : K.lookup TStep_init = some ⟨ToStep_init, TdStep_init, .seq #[.none, .none] TnStep_init, TsStep_init⟩)
    (dWarm_init : K.lookup TWarm_init = some ⟨ToWarm_init, TdWarm_init, .seq #[.none, .none] TnWarm_init, TsWarm_init⟩)
    (zcl_Step : Cls K c_Step)
    (zmk_Step : Mk K c_Step f_Step_init)
    (zcl_Cut : Cls K c_Cut)
    (zmk_Cut : Mk K c_Cut f_Step_init)
    (zme_Cut_word : Meth K c_Cut "word" f_Cut_word)
    (zcl_Rest : Cls K c_Rest)
    (zmk_Rest : Mk K c_Rest f_Step_init)
    (zme_Rest_word : Meth K c_Rest "word" f_Rest_word)
    (zcl_Warm : Cls K c_Warm)
    (zmk_Warm : Mk K c_Warm f_Warm_init)
    (zme_Warm_word : Meth K c_Warm "word" f_Warm_word)
    (zcl_Recipe : Cls K c_Recipe)
    (zmk_Recipe : Mk K c_Recipe f_Recipe_init)
    (zna_Cut_name : NoAttr K c_Cut "name")
    (zna_Cut_least : NoAttr K c_Cut "least")
    (zna_Cut_most : NoAttr K c_Cut "most")
    (zna_Cut_uses : NoAttr K c_Cut "uses")
    (zna_Cut_second : NoAttr K c_Cut "second")
    (zna_Rest_name : NoAttr K c_Rest "name")
    (zna_Rest_least : NoAttr K c_Rest "least")
    (zna_Rest_most : NoAttr K c_Rest "most")
    (zna_Rest_uses : NoAttr K c_Rest "uses")
    (zna_Rest_second : NoAttr K c_Rest "second")
    (zna_Warm_name : NoAttr K c_Warm "name")
    (zna_Warm_least : NoAttr K c_Warm "least")
    (zna_Warm_most : NoAttr K c_Warm "most")
    (zna_Warm_uses : NoAttr K c_Warm "uses")
    (zna_Warm_second : NoAttr K c_Warm "second")
    (zna_Warm_fill : NoAttr K c_Warm "fill")
    (zna_Recipe_name : NoAttr K c_Recipe "name")
    (zna_Recipe_plates : NoAttr K c_Recipe "plates")
    (zna_Recipe_takes : NoAttr K c_Recipe "takes")
    (zna_Recipe_steps : NoAttr K c_Recipe "steps")
    (zna_Recipe_links : NoAttr K c_Recipe "links")
    (zcm_Step___init__ : ClsM K c_Step "__init__" f_Step_init)
    (ztc_Cut : TyC K c_Cut)
    (ztc_Rest : TyC K c_Rest)
    (ztc_Warm : TyC K c_Warm)
    (zkit_Cut_Warm : PySem.W.kitOne K (.ref c_Cut) (.ref c_Warm) = some false)
    (zkit_Rest_Warm : PySem.W.kitOne K (.ref c_Rest) (.ref c_Warm) = some false)
    (zkit_Warm_Warm : PySem.W.kitOne K (.ref c_Warm) (.ref c_Warm) = some true)
    : ∃ fd : FuncData, (∀ (s : Shared) (v : Value), BindsTo s fd ⟨[v], []⟩ [("_law_script", v)]) ∧ ∀ base : Heap, K.In base → base.Ns mainGlobals mg → FnOk l.prog w K mg base CX0 7 fa fd ["_law_script"] (spLaw K) := by
  have e := hfa.symm.trans (PySem.W.mg_of X G alaw)
  cases e
  have B : Bn K mg c_Cut c_Recipe c_Rest c_Step c_Warm f_Step_init f_Cut_word f_Warm_init f_Warm_word f_Rest_word f_Recipe_init := ⟨PySem.W.mg_none_of X G zb_bool, PySem.W.mg_none_of X G zb_int, PySem.W.mg_none_of X G zb_isinstance, PySem.W.mg_none_of X G zb_len, PySem.W.mg_none_of X G zb_list, PySem.W.mg_none_of X G zb_range, PySem.W.mg_none_of X G zb_str, PySem.W.mg_of X G zm_Cut, PySem.W.mg_of X G zm_Recipe, PySem.W.mg_of X G zm_Rest, PySem.W.mg_of X G zm_Step, PySem.W.mg_of X G zm_Warm, zcl_Step, zmk_Step, zcl_Cut, zmk_Cut, zme_Cut_word, zcl_Rest, zmk_Rest, zme_Rest_word, zcl_Warm, zmk_Warm, zme_Warm_word, zcl_Recipe, zmk_Recipe, zna_Cut_name, zna_Cut_least, zna_Cut_most, zna_Cut_uses, zna_Cut_second, zna_Rest_name, zna_Rest_least, zna_Rest_most, zna_Rest_uses, zna_Rest_second, zna_Warm_name, zna_Warm_least, zna_Warm_most, zna_Warm_uses, zna_Warm_second, zna_Warm_fill, zna_Recipe_name, zna_Recipe_plates, zna_Recipe_takes, zna_Recipe_steps, zna_Recipe_links, zcm_Step___init__, ztc_Cut, ztc_Rest, ztc_Warm, zkit_Cut_Warm, zkit_Rest_Warm, zkit_Warm_Warm⟩
  obtain ⟨_, _, _, _, _, _, _, _, _, lStep_init, cStep_init, kStep_init⟩ := qStep_init
  obtain ⟨_, _, _, _, _, _, _, _, _, lWarm_init, cWarm_init, kWarm_init⟩ := qWarm_init
  have FStep_init := funD_mk (st := sStep_init) lStep_init cStep_init kStep_init
  have FWarm_init := funD_mk (st := sWarm_init) lWarm_init cWarm_init kWarm_init
  have Flaw := funD_mk (st := slaw) llaw claw klaw
  refine ⟨PySem.W.fnOf "law" "law" (defArgs slaw) (defBody slaw) (defScope slaw) .none kVlaw dclaw pmlaw anlaw cdlaw ctlaw, ?bind, fun base _ _ => ?ok⟩
  case bind => exact fun s v => .of_eq rfl
  case ok =>
    have z9 : Bx l.prog w base := ⟨⟩
    have Dround_down := mkD z9 X G qround_down (fun _ _ _ _ _ _ => lenOf1 fun _ => rfl) fun F => okround_down B F 
    have Damount_text := mkD z9 X G qamount_text (fun _ _ _ _ _ _ => lenOf1 fun _ => rfl) fun F => okamount_text B F Dround_down
    have DStep_init : DxM l.prog w K mg base CX0 1 f_Step_init ["self", "name", "least", "most", "uses", "second"] [.non, .non] (spInit2 K) := ⟨_, okStep_init B FStep_init , FStep_init.binds (ps := ["self", "name", "least", "most", "uses", "second"]) (ds := []) dStep_init rfl fun _ _ _ _ _ _ us hl => match us, hl with | [_, _, _, _, _, _], _ => ⟨_, rfl, rfl⟩, ⟨[.none, .none], FStep_init.binds (ps := ["self", "name", "least", "most", "uses", "second"]) (ds := [.none, .none]) dStep_init rfl fun _ _ _ _ _ _ us hl => match us, hl with | [_, _, _, _], _ => ⟨_, rfl, rfl⟩ | [], h => absurd h (by simp) | [_], h => absurd h (by simp) | [_, _], h => absurd h (by simp) | [_, _, _], h => absurd h (by simp) | _ :: _ :: _ :: _ :: _ :: _, h => absurd h (by simp), .cons rfl (.cons rfl .nil)⟩⟩
    have DCut_word := mkM z9 qCut_word (fun _ _ _ _ _ _ => lenOf1 fun _ => rfl) fun F => okCut_word B F 
    have DWarm_init : DxM l.prog w K mg base CX0 2 f_Warm_init ["self", "name", "least", "most", "fill", "uses", "second"] [.non, .non] (spWarm2 K) := ⟨_, okWarm_init B FWarm_init DStep_init, FWarm_init.binds (ps := ["self", "name", "least", "most", "fill", "uses", "second"]) (ds := []) dWarm_init rfl fun _ _ _ _ _ _ us hl => match us, hl with | [_, _, _, _, _, _, _], _ => ⟨_, rfl, rfl⟩, ⟨[.none, .none], FWarm_init.binds (ps := ["self", "name", "least", "most", "fill", "uses", "second"]) (ds := [.none, .none]) dWarm_init rfl fun _ _ _ _ _ _ us hl => match us, hl with | [_, _, _, _, _], _ => ⟨_, rfl, rfl⟩ | [], h => absurd h (by simp) | [_], h => absurd h (by simp) | [_, _], h => absurd h (by simp) | [_, _, _], h => absurd h (by simp) | [_, _, _, _], h => absurd h (by simp) | _ :: _ :: _ :: _ :: _ :: _ :: _, h => absurd h (by simp), .cons rfl (.cons rfl .nil)⟩⟩
    have DWarm_word := mkM z9 qWarm_word (fun _ _ _ _ _ _ => lenOf1 fun _ => rfl) fun F => okWarm_word B F 
    have DRest_word := mkM z9 qRest_word (fun _ _ _ _ _ _ => lenOf1 fun _ => rfl) fun F => okRest_word B F 
    have DRecipe_init := mkM z9 qRecipe_init (fun _ _ _ _ _ _ => lenOf6 fun _ _ _ _ _ _ => rfl) fun F => okRecipe_init B F 
    have Drow_of := mkD z9 X G qrow_of (fun _ _ _ _ _ _ => lenOf1 fun _ => rfl) fun F => okrow_of B F 
    have Drows_of_uses := mkD z9 X G qrows_of_uses (fun _ _ _ _ _ _ => lenOf3 fun _ _ _ => rfl) fun F => okrows_of_uses B F Drow_of
    have Drows_of_step := mkD z9 X G qrows_of_step (fun _ _ _ _ _ _ => lenOf1 fun _ => rfl) fun F => okrows_of_step B F Damount_text DCut_word DWarm_word DRest_word Drow_of Drows_of_uses
    have Drow_of_link := mkD z9 X G qrow_of_link (fun _ _ _ _ _ _ => lenOf2 fun _ _ => rfl) fun F => okrow_of_link B F Drow_of
    have Drecipe_text := mkD z9 X G qrecipe_text (fun _ _ _ _ _ _ => lenOf1 fun _ => rfl) fun F => okrecipe_text B F Damount_text Drow_of Drows_of_step Drow_of_link
    have D_law_cell_at := mkD z9 X G q_law_cell_at (fun _ _ _ _ _ _ => lenOf2 fun _ _ => rfl) fun F => ok_law_cell_at B F 
    have D_law_whole := mkD z9 X G q_law_whole (fun _ _ _ _ _ _ => lenOf1 fun _ => rfl) fun F => ok_law_whole B F 
    have D_law_common := mkD z9 X G q_law_common (fun _ _ _ _ _ _ => lenOf2 fun _ _ => rfl) fun F => ok_law_common B F 
    have D_law_stream := mkD z9 X G q_law_stream (fun _ _ _ _ _ _ => lenOf2 fun _ _ => rfl) fun F => ok_law_stream B F 
    have D_law_names := mkD z9 X G q_law_names (fun _ _ _ _ _ _ => lenOf1 fun _ => rfl) fun F => ok_law_names B F D_law_stream
    have D_law_amount := mkD z9 X G q_law_amount (fun _ _ _ _ _ _ => lenOf2 fun _ _ => rfl) fun F => ok_law_amount B F D_law_common
    have D_law_lengths := mkD z9 X G q_law_lengths (fun _ _ _ _ _ _ => lenOf2 fun _ _ => rfl) fun F => ok_law_lengths B F 
    have D_law_take := mkD z9 X G q_law_take (fun _ _ _ _ _ _ => lenOf3 fun _ _ _ => rfl) fun F => ok_law_take B F D_law_amount
    have D_law_step := mkD z9 X G q_law_step (fun _ _ _ _ _ _ => lenOf4 fun _ _ _ _ => rfl) fun F => ok_law_step B F D_law_amount D_law_lengths
    have D_law_second := mkD z9 X G q_law_second (fun _ _ _ _ _ _ => lenOf2 fun _ _ => rfl) fun F => ok_law_second B F D_law_lengths
    have D_law_use := mkD z9 X G q_law_use (fun _ _ _ _ _ _ => lenOf4 fun _ _ _ _ => rfl) fun F => ok_law_use B F 
    have D_law_link := mkD z9 X G q_law_link (fun _ _ _ _ _ _ => lenOf2 fun _ _ => rfl) fun F => ok_law_link B F 
    have D_law_row := mkD z9 X G q_law_row (fun _ _ _ _ _ _ => lenOf4 fun _ _ _ _ => rfl) fun F => ok_law_row B F D_law_stream D_law_take D_law_step D_law_second D_law_use D_law_link
    have D_law_amount_text := mkD z9 X G q_law_amount_text (fun _ _ _ _ _ _ => lenOf1 fun _ => rfl) fun F => ok_law_amount_text B F 
    have D_law_use_rows := mkD z9 X G q_law_use_rows (fun _ _ _ _ _ _ => lenOf3 fun _ _ _ => rfl) fun F => ok_law_use_rows B F 
    have D_law_step_rows := mkD z9 X G q_law_step_rows (fun _ _ _ _ _ _ => lenOf1 fun _ => rfl) fun F => ok_law_step_rows B F D_law_amount_text D_law_use_rows
    have D_law_written := mkD z9 X G q_law_written (fun _ _ _ _ _ _ => lenOf2 fun _ _ => rfl) fun F => ok_law_written B F D_law_amount_text D_law_step_rows
    have D_law_built := mkD z9 X G q_law_built (fun _ _ _ _ _ _ => lenOf1 fun _ => rfl) fun F => ok_law_built B F DStep_init DWarm_init
    have D_law_values := mkD z9 X G q_law_values (fun _ _ _ _ _ _ => lenOf5 fun _ _ _ _ _ => rfl) fun F => ok_law_values B F D_law_whole
    have D_law_told := mkD z9 X G q_law_told (fun _ _ _ _ _ _ => lenOf2 fun _ _ => rfl) fun F => ok_law_told B F Drecipe_text
    exact oklaw B Flaw DStep_init DRecipe_init D_law_cell_at D_law_names D_law_row D_law_written D_law_built D_law_values D_law_told
theorem walk {l : PySem.W.OpenLaw} {q : Program} {loose : List Str} {XP : (Str → Option Value) → Heap → Prop} {YP : World → Heap → Prop} {d : DefRec} {K : Params → PySem.W.Frag} (hn : l.most = some 63) (hdf : d.params.defaults = [])
    (hY : ∀ (w : World) (h : Heap), YP w h → (K w.params).In h)
    (F : ∀ (w : World) (mg : Str → Option Value) (fa : Addr) (h : Heap), (K w.params).In h → h.Ns mainGlobals mg → mg d.name = some (.ref fa) →
      ∃ fd : FuncData, (∀ (s : Shared) (u : Value), BindsTo s fd ⟨[u], []⟩ [("_law_script", u)]) ∧ ∀ base : Heap, (K w.params).In base → base.Ns mainGlobals mg → FnOk l.prog w (K w.params) mg base CX0 7 fa fd ["_law_script"] (spLaw (K w.params))) :
    PySem.W.WalkO q loose XP YP l.row.toRowW d [] (fun f vs => PySem.call f vs) :=
  L2.walk_of (n := 63) (k := 7) (x := "_law_script") (CX := fun _ => CX0) (sp := fun w => spLaw (K w.params)) hn (by decide) hdf ⟨rfl, by decide, by decide⟩ hY F (fun _ _ a ns hl _ hS => ⟨a, ns, rfl, hS, hl, fun _ => rfl⟩) fun _ _ _ _ _ z => z
end Lk34
open PySem PySem.W PyProof.Rows
set_option maxRecDepth 100000 in
set_option maxHeartbeats 0 in
theorem PySem.Challenge.cw_stovework_k34_recipe_written_holds : PySem.Challenge.rw_stovework_k34_recipe_written.Holds := by
  refine Lk34.hd ?_
  k_fill
  refine Lk34.walk (l := PySem.Challenge.rw_stovework_k34_recipe_written) rfl rfl (fun w h Y => PySem.W.kIn_of Y) ?F
  case F =>
    intro w mg fa h KX G hmg
    refine' Lk34.all_mk KX G hmg ?h0 ?h1 ?h2 ?h3 ?h4 ?h5 ?h6 ?h7 ?h8 ?h9 ?h10 ?h11 ?h12 ?h13 ?h14 ?h15 ?h16 ?h17 ?h18 ?h19 ?h20 ?h21 ?h22 ?h23 ?h24 ?h25 ?h26 ?h27 ?h28 ?h29 ?h30 ?h31 ?h32 ?h33 ?h34 ?h35 ?h36 ?h37 ?h38 ?h39 ?h40 ?h41 ?h42 ?h43 ?h44 ?h45 ?h46 ?h47 ?h48 ?h49 ?h50 ?h51 ?h52 ?h53 ?h54 ?h55 ?h56 ?h57 ?h58 ?h59 ?h60 ?h61 ?h62 ?h63 ?h64 ?h65 ?h66 ?h67 ?h68 ?h69 ?h70 ?h71 ?h72 ?h73 ?h74 ?h75 ?h76 ?h77 ?h78 ?h79 ?h80 ?h81 ?h82 ?h83 ?h84 ?h85 ?h86 ?h87 ?h88 ?h89 ?h90 ?h91 ?h92 ?h93
    (case h0 => exact ⟨by k_is, _, _, _, _, _, _, _, _, _, by k_is, by k_is, by k_is⟩)
    (case h1 => exact ⟨by k_is, _, _, _, _, _, _, _, _, _, by k_is, by k_is, by k_is⟩)
    (case h2 => exact ⟨by k_is, _, _, _, _, _, _, _, _, _, by k_is, by k_is, by k_is⟩)
    (case h3 => exact ⟨by k_is, _, _, _, _, _, _, _, _, _, by k_is, by k_is, by k_is⟩)
    (case h4 => exact ⟨by k_is, _, _, _, _, _, _, _, _, _, by k_is, by k_is, by k_is⟩)
    (case h5 => exact ⟨by k_is, _, _, _, _, _, _, _, _, _, by k_is, by k_is, by k_is⟩)
    (case h6 => exact ⟨by k_is, _, _, _, _, _, _, _, _, _, by k_is, by k_is, by k_is⟩)
    (case h7 => exact ⟨by k_is, _, _, _, _, _, _, _, _, _, by k_is, by k_is, by k_is⟩)
    (case h8 => exact ⟨by k_is, _, _, _, _, _, _, _, _, _, by k_is, by k_is, by k_is⟩)
    (case h9 => exact ⟨by k_is, _, _, _, _, _, _, _, _, _, by k_is, by k_is, by k_is⟩)
    (case h10 => exact ⟨by k_is, _, _, _, _, _, _, _, _, _, by k_is, by k_is, by k_is⟩)
    (case h11 => exact ⟨by k_is, _, _, _, _, _, _, _, _, _, by k_is, by k_is, by k_is⟩)
    (case h12 => exact ⟨by k_is, _, _, _, _, _, _, _, _, _, by k_is, by k_is, by k_is⟩)
    (case h13 => exact ⟨by k_is, _, _, _, _, _, _, _, _, _, by k_is, by k_is, by k_is⟩)
    (case h14 => exact ⟨by k_is, _, _, _, _, _, _, _, _, _, by k_is, by k_is, by k_is⟩)
    (case h15 => exact ⟨by k_is, _, _, _, _, _, _, _, _, _, by k_is, by k_is, by k_is⟩)
    (case h16 => exact ⟨by k_is, _, _, _, _, _, _, _, _, _, by k_is, by k_is, by k_is⟩)
    (case h17 => exact ⟨by k_is, _, _, _, _, _, _, _, _, _, by k_is, by k_is, by k_is⟩)
    (case h18 => exact ⟨by k_is, _, _, _, _, _, _, _, _, _, by k_is, by k_is, by k_is⟩)
    (case h19 => exact ⟨by k_is, _, _, _, _, _, _, _, _, _, by k_is, by k_is, by k_is⟩)
    (case h20 => exact ⟨by k_is, _, _, _, _, _, _, _, _, _, by k_is, by k_is, by k_is⟩)
    (case h21 => exact ⟨by k_is, _, _, _, _, _, _, _, _, _, by k_is, by k_is, by k_is⟩)
    (case h22 => exact ⟨by k_is, _, _, _, _, _, _, _, _, _, by k_is, by k_is, by k_is⟩)
    (case h23 => exact ⟨by k_is, _, _, _, _, _, _, _, _, _, by k_is, by k_is, by k_is⟩)
    (case h24 => exact ⟨by k_is, _, _, _, _, _, _, _, _, _, by k_is, by k_is, by k_is⟩)
    (case h25 => exact ⟨by k_is, _, _, _, _, _, _, _, _, _, by k_is, by k_is, by k_is⟩)
    (case h26 => exact ⟨by k_is, _, _, _, _, _, _, _, _, _, by k_is, by k_is, by k_is⟩)
    (case h27 => k_is)
    (case h28 => k_is)
    (case h29 => k_is)
    (case h30 => k_is)
    (case h31 => k_is)
    (case h32 => k_is)
    (case h33 => k_is)
    (case h34 => k_is)
    (case h35 => k_is)
    (case h36 => k_is)
    (case h37 => k_is)
    (case h38 => k_is)
    (case h39 => k_is)
    (case h40 => k_is)
    (case h41 => k_is)
    (case h42 => k_is)
    (case h43 => k_is)
    (case h44 => exact ⟨_, _, _, _, _, _, _, _, _, by k_is, by k_is, by k_is⟩)
    (case h45 => exact ⟨by k_is, _, _, _, _, _, _, _, _, _, by k_is, by k_is, by k_is⟩)
    (case h46 => k_is)
    (case h47 => exact ⟨_, _, _, _, _, _, _, _, _, by k_is, by k_is, by k_is⟩)
    (case h48 => exact ⟨by k_is, _, _, _, _, _, _, _, _, _, by k_is, by k_is, by k_is⟩)
    (case h49 => exact ⟨by k_is, _, _, _, _, _, _, _, _, _, by k_is, by k_is, by k_is⟩)
    (case h50 => exact ⟨by k_is, _, _, _, _, _, _, _, _, _, by k_is, by k_is, by k_is⟩)
    (case h51 => k_is)
    (case h52 => k_is)
    (case h53 => exact ⟨by k_is, by k_is, by k_is, by k_is⟩)
    (case h54 => exact ⟨by k_is, by k_is, by k_is, by k_is⟩)
    (case h55 => exact ⟨by k_is, by k_is, by k_is, by k_is⟩)
    (case h56 => exact ⟨by k_is, by k_is, by k_is, by k_is⟩)
    (case h57 => exact ⟨by k_is, by k_is, by k_is⟩)
    (case h58 => exact ⟨by k_is, by k_is, by k_is, by k_is⟩)
    (case h59 => exact ⟨by k_is, by k_is, by k_is, by k_is⟩)
    (case h60 => exact ⟨by k_is, by k_is, by k_is⟩)
    (case h61 => exact ⟨by k_is, by k_is, by k_is, by k_is⟩)
    (case h62 => exact ⟨by k_is, by k_is, by k_is, by k_is⟩)
    (case h63 => exact ⟨by k_is, by k_is, by k_is⟩)
    (case h64 => exact ⟨by k_is, by k_is, by k_is, by k_is⟩)
    (case h65 => exact ⟨by k_is, by k_is, by k_is, by k_is⟩)
    (case h66 => unfold L2.NoAttr; k_is)
    (case h67 => unfold L2.NoAttr; k_is)
    (case h68 => unfold L2.NoAttr; k_is)
    (case h69 => unfold L2.NoAttr; k_is)
    (case h70 => unfold L2.NoAttr; k_is)
    (case h71 => unfold L2.NoAttr; k_is)
    (case h72 => unfold L2.NoAttr; k_is)
    (case h73 => unfold L2.NoAttr; k_is)
    (case h74 => unfold L2.NoAttr; k_is)
    (case h75 => unfold L2.NoAttr; k_is)
    (case h76 => unfold L2.NoAttr; k_is)
    (case h77 => unfold L2.NoAttr; k_is)
    (case h78 => unfold L2.NoAttr; k_is)
    (case h79 => unfold L2.NoAttr; k_is)
    (case h80 => unfold L2.NoAttr; k_is)
    (case h81 => unfold L2.NoAttr; k_is)
    (case h82 => unfold L2.NoAttr; k_is)
    (case h83 => unfold L2.NoAttr; k_is)
    (case h84 => unfold L2.NoAttr; k_is)
    (case h85 => unfold L2.NoAttr; k_is)
    (case h86 => unfold L2.NoAttr; k_is)
    (case h87 => exact ⟨by k_is, by k_is, by k_is, by k_is⟩)
    (case h88 => exact ⟨by k_is, by k_is, by k_is, by k_is⟩)
    (case h89 => exact ⟨by k_is, by k_is, by k_is, by k_is⟩)
    (case h90 => exact ⟨by k_is, by k_is, by k_is, by k_is⟩)
    (case h91 => kernel_rfl)
    (case h92 => kernel_rfl)
    (case h93 => kernel_rfl)
