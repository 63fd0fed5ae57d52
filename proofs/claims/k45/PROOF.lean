import PyProof.Rows.All
import Wide.All
import OpenK.AllK
import Wide.FinOn
import Lean
import PyProof.EqAt
import PyProof.EqKinds
import PyProof.TupleCall
import PyProof.NeKinds
import PyProof.StationsW
import PyProof.RulesAs
import PyProof.ExcArgsOwn
import PyProof.CompFree
import PyProof.ExcInit
import PyProof.ConsumeWalk
import PyProof.Rows.SeqGen
import PyProof.StrWalks
import PyProof.SliceStr2
import PyProof.MeetsStr
import KE.KIntText
import PyProof.Rows.FStr
import PyProof.StrCalls6
import PyProof.StrBlockL
import PyProof.ToksMono
import PyProof.WalkInts
import PyProof.Rows.MinMaxN
import PyProof.StrLawsReplace
import PyProof.StrLawsTight
import PyProof.Rows.StrLawsPart
import PyProof.DictWalks
import KE.KEqDict
import KE.KDictLaws
import KE.KRevIter
import PyProof.ListCopy
import PyProof.CollectIter
import PyProof.Rows.SetFrom
import PyProof.Rows.SortShellK
import PyProof.Rows.SortStr
import PyProof.Rows.SortWalk
import KE.KDictSum
import KE.KSortTup
import PyProof.TupleOfSeq
import PyProof.Rows.SortRuns
import PyProof.FactsAll.tuple_2
import PyProof.WalksEnum
import PyProof.EnumMake
import PyProof.EnumFor
import PyProof.ZipIter
import KE.KDictOf
import PyProof.DictItems
import PyProof.FactsAll.dict_itemiterator_1
import PyProof.MeetsSeq3
import PyProof.FactsAll.list_2
import PyProof.Rows.StrRules
import PySem.Challenge.RW_stovework_k45_bought
/-! The run of a law's top over a tree in the heap's place, at once: then the heap that it stands for is what the head asks. Own work. -/
namespace Ht
open PySem PySem.W PyProof.Rows
/-- steps till the top is through -/
noncomputable def runT (ok : Thread → Bool) (st : SharedT → Thread → Option (SharedT × Thread)) (n : Nat) : SharedT → Thread → Option SharedT :=
  Nat.rec (motive := fun _ => SharedT → Thread → Option SharedT) (fun _ _ => none) (fun _ ih s t =>
    Bool.rec (motive := fun _ => Option SharedT)
      (Bool.rec (motive := fun _ => Option SharedT) none (Option.rec (motive := fun _ => Option SharedT) none (fun r => Prod.rec (motive := fun _ => Option SharedT) (fun s' t' => ih s' t') r) (st s t)) (ok t))
      (some s) (through t)) n
theorem runT_of {tb : String → Option Builtin} {p : Program} {w : World} {m : Nat} {ann : Option Value} : ∀ {n : Nat} {s s' : SharedT} {t : Thread}, runT (stepOk m ann) (stepT (denote tb) p w) n s t = some s' → topRun tb p w m ann n s.abs t = some s'.abs
  | 0, _, _, _, h => by cases h
  | n + 1, s, s', t, h => by
    unfold topRun
    have h' : Bool.rec (motive := fun _ => Option SharedT)
      (Bool.rec (motive := fun _ => Option SharedT) none (Option.rec (motive := fun _ => Option SharedT) none (fun r => Prod.rec (motive := fun _ => Option SharedT) (fun s' t' => runT (stepOk m ann) (stepT (denote tb) p w) n s' t') r) (stepT (denote tb) p w s t)) (stepOk m ann t))
      (some s) (through t) = some s' := h
    cases ht : through t with
    | true => rw [ht] at h'; cases h'; rfl
    | false =>
      rw [ht] at h'
      cases hk : stepOk m ann t with
      | false => rw [hk] at h'; cases h'
      | true =>
        rw [hk] at h'
        cases hs : stepT (denote tb) p w s t with
        | none => rw [hs] at h'; cases h'
        | some r =>
          obtain ⟨s₂, t₂⟩ := r
          rw [hs] at h'
          dsimp only
          rw [stepT_spec hs]
          exact runT_of h'
/-- a tree of a list's things -/
noncomputable def grow (l : List Obj) : Nat → BT → Option BT :=
  List.rec (motive := fun _ => Nat → BT → Option BT) (fun _ t => some t) (fun o _ ih n t =>
    Bool.rec (motive := fun _ => Option BT) none (ih (n + 1) (t.ins n o)) ((t.ins n o).get n).isSome) l
theorem grow_of {life : Life} : ∀ {l : List Obj} {n : Nat} {t t' : BT}, grow l n t = some t' → absHeap t' (n + l.length) life = ⟨(absHeap t n life).objs ++ l.toArray, life⟩
  | [], n, t, t', h => by
    cases h
    simp [absHeap]
  | o :: l, n, t, t', h => by
    have h' : Bool.rec (motive := fun _ => Option BT) none (grow l (n + 1) (t.ins n o)) ((t.ins n o).get n).isSome = some t' := h
    cases e : ((t.ins n o).get n).isSome with
    | false => rw [e] at h'; cases h'
    | true =>
      rw [e] at h'
      have z := grow_of (life := life) h'
      rw [absHeap_ins e] at z
      rw [show n + (o :: l).length = n + 1 + l.length by rw [List.length_cons]; omega, z]
      simp [Heap.push]
noncomputable def treeOf (s : Shared) : Option SharedT :=
  Option.rec (motive := fun _ => Option SharedT) none (fun t => some ⟨t, s.heap.objs.size, s.heap.life, s.gens, s.drawn, s.toks, s.os⟩) (grow s.heap.objs.toList 0 .nil)
theorem treeOf_abs {s : Shared} {s' : SharedT} (h : treeOf s = some s') : s'.abs = s := by
  have h' : Option.rec (motive := fun _ => Option SharedT) none (fun t => some ⟨t, s.heap.objs.size, s.heap.life, s.gens, s.drawn, s.toks, s.os⟩) (grow s.heap.objs.toList 0 .nil) = some s' := h
  cases e : grow s.heap.objs.toList 0 .nil with
  | none => rw [e] at h'; cases h'
  | some t =>
    rw [e] at h'
    cases h'
    have z := grow_of (life := s.heap.life) e
    obtain ⟨⟨objs, life⟩, gens, drawn, toks, os⟩ := s
    simp only [SharedT.abs]
    have z' : absHeap t objs.size life = ⟨objs, life⟩ := by
      simpa [absHeap, BT.list] using z
    rw [z']
/-- the top's run from what the opening left -/
noncomputable def endsT (ok : Nat → Option Value → Thread → Bool) (st : SharedT → Thread → Option (SharedT × Thread)) (p : Program) (N : Nat) (s₀ : Shared) : Option Shared :=
  Bool.rec (motive := fun _ => Option Shared) none
    ((treeOf s₀).bind fun t₀ => (runT (ok s₀.heap.objs.size (s₀.heap.nsMap mainGlobals "__annotations__")) st N t₀ (topStub p)).bind fun t₁ =>
      (fun s₁ => Bool.rec (motive := fun _ => Option Shared) none (some s₁) (staticsOk (importedModules p.main.body) s₀.heap s₁.heap && namesBound p s₁.heap && gensDone s₁ && laidKept s₀.heap s₁.heap)) t₁.abs)
    (s₀.heap.isNs mainGlobals && s₀.gens.size == 0)
theorem endsT_of {tb : String → Option Builtin} {p : Program} {w : World} {N : Nat} {s₀ s : Shared} (h : endsT stepOk (stepT (denote tb) p w) p N s₀ = some s) : topFrom tb p w N s₀ = some s := by
  unfold endsT at h
  unfold topFrom
  cases e : s₀.heap.isNs mainGlobals && s₀.gens.size == 0 with
  | false => rw [e] at h; cases h
  | true =>
    rw [e] at h
    obtain ⟨t₀, e0, h⟩ := Option.bind_eq_some_iff.mp h
    obtain ⟨t₁, e1, h⟩ := Option.bind_eq_some_iff.mp h
    have r := runT_of e1
    rw [treeOf_abs e0] at r
    dsimp only
    rw [r]
    dsimp only at h
    show (match staticsOk (importedModules p.main.body) s₀.heap t₁.abs.heap && namesBound p t₁.abs.heap && gensDone t₁.abs && laidKept s₀.heap t₁.abs.heap with | true => some t₁.abs | false => none) = some s
    cases q : staticsOk (importedModules p.main.body) s₀.heap t₁.abs.heap && namesBound p t₁.abs.heap && gensDone t₁.abs && laidKept s₀.heap t₁.abs.heap with
    | false => rw [q] at h; cases h
    | true => rw [q] at h; exact h
end Ht
/-! The head's run looked at in parts, each by itself: less memory. Own work. -/
namespace Ht
open PySem PySem.W PyProof.Rows
noncomputable def rawT (ok : Nat → Option Value → Thread → Bool) (st : SharedT → Thread → Option (SharedT × Thread)) (p : Program) (N : Nat) (s₀ : Shared) : Option Shared :=
  (treeOf s₀).bind fun t₀ => (runT (ok s₀.heap.objs.size (s₀.heap.nsMap mainGlobals "__annotations__")) st N t₀ (topStub p)).map fun t₁ => t₁.abs
def chkT (p : Program) (s₀ s₁ : Shared) : Bool := (s₀.heap.isNs mainGlobals && s₀.gens.size == 0) && (staticsOk (importedModules p.main.body) s₀.heap s₁.heap && namesBound p s₁.heap && gensDone s₁ && laidKept s₀.heap s₁.heap)
theorem ends_raw {tb : String → Option Builtin} {p : Program} {w : World} {N : Nat} {s₀ s : Shared} (h : rawT stepOk (stepT (denote tb) p w) p N s₀ = some s) (c : chkT p s₀ s = true) : topFrom tb p w N s₀ = some s := by
  apply endsT_of
  unfold rawT at h
  obtain ⟨t₀, e0, h⟩ := Option.bind_eq_some_iff.mp h
  obtain ⟨t₁, e1, rfl⟩ := Option.map_eq_some_iff.mp h
  unfold chkT at c
  rw [Bool.and_eq_true] at c
  unfold endsT
  rw [c.1]
  show ((treeOf s₀).bind fun t₀ => _) = _
  rw [e0]
  show ((runT _ _ N t₀ (topStub p)).bind fun t₁ => _) = _
  rw [e1]
  show (Bool.rec (motive := fun _ => Option Shared) none (some t₁.abs) (staticsOk (importedModules p.main.body) s₀.heap t₁.abs.heap && namesBound p t₁.abs.heap && gensDone t₁.abs && laidKept s₀.heap t₁.abs.heap) : Option Shared) = _
  rw [c.2]
/-- a look at the end of the run -/
abbrev Look (p : Program) (N : Nat) {α : Type} (f : Shared → Shared → α) (v : World → α) : Prop := ∀ w : World, ((importEnds treeTable (opening p) w N (start (opening p)).1 (start (opening p)).2).bind fun s => (fenceModules? p s).bind fun s₀ => (rawT stepOk (stepT (denote treeTable) p w) p N s₀).map fun s₁ => f s₀ s₁) = some (v w)
theorem Look.at_ {p : Program} {N : Nat} {α : Type} {f : Shared → Shared → α} {v : World → α} (h : Look p N f v) (w : World) {s s₀ s₁ : Shared} (a : importEnds treeTable (opening p) w N (start (opening p)).1 (start (opening p)).2 = some s) (b : fenceModules? p s = some s₀) (c : rawT stepOk (stepT (denote treeTable) p w) p N s₀ = some s₁) : f s₀ s₁ = v w := by
  have := h w
  rw [a] at this
  replace this : ((fenceModules? p s).bind fun s₀ => (rawT stepOk (stepT (denote treeTable) p w) p N s₀).map fun s₁ => f s₀ s₁) = some (v w) := this
  rw [b] at this
  replace this : ((rawT stepOk (stepT (denote treeTable) p w) p N s₀).map fun s₁ => f s₀ s₁) = some (v w) := this
  rw [c] at this
  injection this
theorem left_of3 {p q : Program} {loose : List Str} {Xt : Shared → Bool} {α : Type} {Yf : Shared → α} {Ya : World → α} {N : Nat} {g0 : Bool} (hc : Look p N (fun s₀ s₁ => chkT p s₀ s₁) fun _ => true)
    (h1 : Look p N (fun _ s => openSeen q loose (importedModules p.main.body) Xt g0 s) fun _ => openGood q loose) (h2 : Look p N (fun _ s => Yf s) Ya) : LeftO p q loose Xt Yf Ya N g0 := fun w => by
  obtain ⟨s, a, e⟩ := Option.bind_eq_some_iff.mp (hc w)
  obtain ⟨s₀, b, e⟩ := Option.bind_eq_some_iff.mp e
  obtain ⟨s₁, c, e⟩ := Option.map_eq_some_iff.mp e
  have z : openEnds treeTable p w N = some s₁ := by
    unfold openEnds fencedOpening
    rw [a]
    show (fenceModules? p s).bind _ = _
    rw [b]
    exact ends_raw c e
  rw [z]
  show some (_, _) = some (_, _)
  rw [h1.at_ w a b c, h2.at_ w a b c]
end Ht
set_option Elab.async false
set_option linter.all false
set_option maxRecDepth 100000
namespace Lk45
open PySem PySem.W PyProof.Rows
def qv : Program := { PySem.Challenge.pw_stovework_k45_bought with main := { PySem.Challenge.pw_stovework_k45_bought.main with body := ([1, 2, 3, 4, 5, 6, 7, 8, 9, 10, 11, 12, 13, 14, 15, 16, 17, 19, 20, 23, 24, 25, 26, 27, 28, 33, 35, 36, 37, 38, 39, 40, 41, 42, 43, 44, 45, 46, 47, 48] : List Nat).filterMap fun i => PySem.Challenge.pw_stovework_k45_bought.main.body[i]? } }
def lo : List Str := ["fraction", "packs_for", "bought_of"]
/-- what the head asks of the text, but the run of its top -/
theorem head {α : Type} {Yf : Shared → α} {Ya : World → α} {YP : World → Heap → Prop} {d : DefRec} {kwd : List (Str × Expr)} (left : LeftO PySem.Challenge.pw_stovework_k45_bought qv lo (fun s => xlAt qv [] s && recOk [] s) Yf Ya 9614)
    (hY : ∀ w s, Yf s = Ya w → YP w s.heap) (hYk : ∀ w h h', YP w h → (∀ b o, h.get? b = some o → h'.get? b = some o) → YP w h') (hd : defOf qv PySem.Challenge.rw_stovework_k45_bought.row.name = some (d, kwd))
    (hp : PySem.Challenge.rw_stovework_k45_bought.row.prog.theDef PySem.Challenge.rw_stovework_k45_bought.row.name = some (d.params, d.body, d.scope)) (hk : kwWritten? d.params.kwonlyargs d.params.kw_defaults = some kwd)
    (said : PySem.Challenge.rw_stovework_k45_bought.row.wellSaid = true) (hw : PySem.Challenge.rw_stovework_k45_bought.row.toRowW.promised) (call : WalkO qv lo (XL qv []) YP PySem.Challenge.rw_stovework_k45_bought.row.toRowW d kwd fun f vs => PySem.call f vs) : PySem.Challenge.rw_stovework_k45_bought.row.Holds :=
  holds_open left hY hYk (fun s e => xl_of s (Bool.and_eq_true_iff.mp e).1) XL.keeps hd hp hk (fun s e => recFacts_of (Bool.and_eq_true_iff.mp e).2) rfl said (by decide +kernel) ⟨rfl, rfl, rfl, rfl, rfl, by decide +kernel⟩ hw call
end Lk45
namespace Lk45
open PySem PySem.W PyProof.Rows
set_option maxHeartbeats 0 in
theorem la : Ht.Look PySem.Challenge.pw_stovework_k45_bought 9614 (fun s₀ s₁ => Ht.chkT PySem.Challenge.pw_stovework_k45_bought s₀ s₁) (fun _ => true) := by
  intro w
  rw [PySem.W.Fast.te10274390034422433532, PySem.W.Fast.te14289696077712309145, PySem.W.Fast.te6613529449190102663, PySem.W.Fast.te10156331382660048174, PySem.W.Fast.te11892475500146522536, PySem.W.Fast.te14364793385576792824]
  kernel_rfl
set_option maxHeartbeats 0 in
theorem lb : Ht.Look PySem.Challenge.pw_stovework_k45_bought 9614 (fun _ s => openSeen qv lo (importedModules PySem.Challenge.pw_stovework_k45_bought.main.body) (fun s => xlAt qv [] s && recOk [] s) true s) (fun _ => openGood qv lo) := by
  intro w
  rw [PySem.W.Fast.te10274390034422433532, PySem.W.Fast.te14289696077712309145, PySem.W.Fast.te6613529449190102663, PySem.W.Fast.te10156331382660048174, PySem.W.Fast.te11892475500146522536, PySem.W.Fast.te14364793385576792824, PySem.W.Fast.te4187177175401517315]
  kernel_rfl
end Lk45
local macro_rules | `(tactic| o_head $H) => `(tactic| (refine Lk45.head (Yf := PySem.W.Hook.obs $H) (Ya := PySem.W.Hook.val $H) (YP := PySem.W.Hook.says $H) ?hl (PySem.W.Hook.of $H) (PySem.W.Hook.keeps $H) (by rfl) (by rfl) (by rfl) (by assumption) ?hw ?hc; (case hl => (refine Ht.left_of3 Lk45.la Lk45.lb ?c; (case c => (intro w; rw [PySem.W.Fast.te10274390034422433532, PySem.W.Fast.te14289696077712309145, PySem.W.Fast.te6613529449190102663, PySem.W.Fast.te10156331382660048174, PySem.W.Fast.te11892475500146522536, PySem.W.Fast.te14364793385576792824]; kernel_rfl))))))
namespace PySem.W.Fast
def tw7647333977260527210 : PySem.Program := PySem.Challenge.pw_stovework_k45_bought
theorem te7647333977260527210 : PySem.Challenge.pw_stovework_k45_bought = tw7647333977260527210 := rfl
end PySem.W.Fast
set_option maxHeartbeats 0 in
open_top Lk45.hd for PySem.Challenge.rw_stovework_k45_bought
set_option Elab.async false
set_option linter.all false
set_option maxRecDepth 100000
namespace So
open PySem PyProof.Rows
/-- the key of an entry -/
def kk (κ : KeyKind) (p : Keyed) : κ.α := (κ.keyOf p.1).getD κ.dflt
def Kd (κ : KeyKind) (p : Keyed) : Prop := ∃ a, κ.keyOf p.1 = some a
/-- what a comparison answers, by the keys -/
def LtS (prog : Program) (w : World) (A : Around) (E : Value → Shared → Prop) (s : Shared) (κ : KeyKind) (kd : SortKind) : Prop := ∀ (st : SortSt) (x y : Keyed) (Q : Option Bool → SortSt → Prop), kindOf st = kd → Kd κ x → Kd κ y → Q (some (κ.blt (kk κ x) (kk κ y))) st → wpS (model prog w) A E s (lt' x y) Q st
section
variable {prog : Program} {w : World} {A : Around} {E : Value → Shared → Prop} {s : Shared} {κ : KeyKind} {kd : SortKind}
theorem wpS_open {α β : Type} {st : SortSt} {x : StateT SortSt Sem α} {f : α → StateT SortSt Sem β} {Q : β → SortSt → Prop} (h : wpS (model prog w) A E s (x >>= f) Q st) : wpS (model prog w) A E s (x >>= f) Q st := h
theorem wpS_lt (hO : LtS prog w A E s κ kd) {st : SortSt} {x y : Keyed} {Q : Option Bool → SortSt → Prop} (hk : kindOf st = kd) (hx : Kd κ x) (hy : Kd κ y) (h : Q (some (κ.blt (kk κ x) (kk κ y))) st) : wpS (model prog w) A E s (lt' x y) Q st := hO st x y Q hk hx hy h
theorem wpS_elem {st : SortSt} {arr : Array Keyed} {i : Nat} {p : Keyed} {Q : Keyed → SortSt → Prop} (e : arr[i]? = some p) (h : Q p st) : wpS (model prog w) A E s (elem' arr i) Q st := by
  rw [elem'_eq, e]
  exact wpS_pure h
end
end So
set_option Elab.async false
set_option linter.all false
set_option maxRecDepth 100000
namespace So
open PySem PyProof.Rows
/-- not behind -/
def Lq (κ : KeyKind) (p q : Keyed) : Prop := κ.kle (kk κ p) (kk κ q)
section
variable {κ : KeyKind} {kd : SortKind} {a b out : Array Keyed} {ia ib : Nat}
end
end So
set_option Elab.async false
set_option linter.all false
set_option maxRecDepth 100000
namespace So
open PySem PyProof.Rows
section
variable {prog : Program} {w : World} {A : Around} {E : Value → Shared → Prop} {s : Shared} {κ : KeyKind} {kd : SortKind}
theorem wpS_rule {st : SortSt} {r : String} {Q : Unit → SortSt → Prop} (h : Q () st) : wpS (model prog w) A E s (liftM (rule r) : StateT SortSt Sem Unit) Q st := wpS_lift (wpAny_rule ⟨rfl, h⟩)
end
end So
set_option Elab.async false
set_option linter.all false
set_option maxRecDepth 100000
namespace So
open PySem PyProof.Rows
section
variable {κ : KeyKind} {kd : SortKind} {a b out : Array Keyed} {na nb : Nat}
end
section
variable {prog : Program} {w : World} {A : Around} {E : Value → Shared → Prop} {s : Shared} {κ : KeyKind} {kd : SortKind}
end
end So
set_option Elab.async false
set_option linter.all false
set_option maxRecDepth 100000
namespace So
open PySem PyProof.Rows
section
variable {prog : Program} {w : World} {A : Around} {E : Value → Shared → Prop} {s : Shared} {κ : KeyKind} {kd : SortKind}
end
section
variable {prog : Program} {w : World} {A : Around} {E : Value → Shared → Prop} {s : Shared} {κ : KeyKind} {kd : SortKind}
end
end So
set_option Elab.async false
set_option linter.all false
set_option maxRecDepth 100000
namespace So
open PySem PyProof.Rows
section
variable {prog : Program} {w : World} {A : Around} {E : Value → Shared → Prop} {s : Shared} {κ : KeyKind} {kd : SortKind}
theorem at_R {arr : Array Keyed} {P R : List Keyed} (e : arr.toList = P ++ R) {i : Nat} {x : Keyed} (h : R[i]? = some x) : arr[P.length + i]? = some x := by
  have : arr.toList[P.length + i]? = some x := by rw [e, List.getElem?_append_right (by omega), Nat.add_sub_cancel_left]; exact h
  simpa using this
theorem wpS_ltR (hO : LtS prog w A E s κ kd) {st : SortSt} {P R : List Keyed} {i j i' j' : Nat} {x y : Keyed} {Q : Option Bool → SortSt → Prop} (hk : kindOf st = kd) (ka : ∀ x ∈ R, Kd κ x) (e : (arrOf st).toList = P ++ R)
    (hi : R[i]? = some x) (hj : R[j]? = some y) (ei : i' = P.length + i) (ej : j' = P.length + j) (h : Q (some (κ.blt (kk κ x) (kk κ y))) st) : wpS (model prog w) A E s (ltAt' i' j') Q st := by
  subst ei ej
  rw [ltAt'_eq]
  refine wpS_bind (wpS_get ?_)
  exact wpS_bind (wpS_elem (at_R e hi) (wpS_bind (wpS_elem (at_R e hj) (wpS_lt hO hk (ka x (List.mem_of_getElem? hi)) (ka y (List.mem_of_getElem? hj)) h))))
theorem take_snoc {R : List Keyed} {n : Nat} {x : Keyed} (h : R[n]? = some x) : R.take (n + 1) = R.take n ++ [x] := by
  rw [List.take_succ, h]
  rfl
/-- a rising stretch grows -/
theorem rise {R : List Keyed} {n : Nat} {x y : Keyed} (h1 : 1 ≤ n) (hs : (R.take n).Pairwise (Lq κ)) (hy : R[n - 1]? = some y) (hx : R[n]? = some x) (l : Lq κ y x) : (R.take (n + 1)).Pairwise (Lq κ) := by
  have e1 : R.take n = R.take (n - 1) ++ [y] := by
    have := take_snoc hy
    rwa [show n - 1 + 1 = n by omega] at this
  rw [take_snoc hx, List.pairwise_append]
  refine ⟨hs, by simp, fun u hu v hv => ?_⟩
  simp at hv
  rw [hv]
  rw [e1] at hu hs
  rcases List.mem_append.mp hu with k | k
  · exact KeyOrd.kle_trans ((List.pairwise_append.mp hs).2.2 u k y (by simp)) l
  · simp at k
    rw [k]
    exact l
theorem wpS_asc {st : SortSt} {R : List Keyed} {n0 N : Nat} (hN : N = R.length) {body : Nat → Option (Option Nat) × Nat → StateT SortSt Sem (ForInStep (Option (Option Nat) × Nat))} {Q : Option (Option Nat) × Nat → SortSt → Prop} (h1 : 1 ≤ n0) (hn : n0 ≤ R.length) (hs : (R.take n0).Pairwise (Lq κ))
    (hb : ∀ n x y (i : Nat) (Q' : ForInStep (Option (Option Nat) × Nat) → SortSt → Prop), 1 ≤ n → R[n]? = some x → R[n - 1]? = some y → (κ.blt (kk κ x) (kk κ y) = true → Q' (.done (none, n)) st) → (κ.blt (kk κ x) (kk κ y) = false → Q' (.yield (none, n + 1)) st) → wpS (model prog w) A E s (body i (none, n)) Q' st)
    (h : ∀ n, n0 ≤ n → n ≤ R.length → (R.take n).Pairwise (Lq κ) → (n = R.length ∨ ∃ x y, R[n]? = some x ∧ R[n - 1]? = some y ∧ κ.blt (kk κ x) (kk κ y) = true) → Q (none, n) st) : wpS (model prog w) A E s (forIn [n0:N] (none, n0) body) Q st := by
  subst hN
  refine wpS_forRange (I := fun i c st' => st' = st ∧ c = (none, i) ∧ n0 ≤ i ∧ (R.take i).Pairwise (Lq κ)) ?_ ?_ ⟨rfl, rfl, Nat.le_refl _, hs⟩
  · rintro i c st' hi1 hi2 ⟨rfl, rfl, h3, h4⟩
    have ex := List.getElem?_eq_getElem hi2
    have ey := List.getElem?_eq_getElem (show i - 1 < R.length by omega)
    refine hb i _ _ i _ (by omega) ex ey (fun c => h i h3 (by omega) h4 (.inr ⟨_, _, ex, ey, c⟩)) (fun c => ⟨rfl, rfl, by omega, rise (by omega) h4 ey ex c⟩)
  · rintro c st' ⟨rfl, rfl, h3, h4⟩
    rw [Nat.max_eq_right hn] at h3 h4 ⊢
    exact h _ h3 (Nat.le_refl _) h4 (.inl rfl)
theorem mirror_list {arr : Array Keyed} {P D S : List Keyed} (e : arr.toList = P ++ (D ++ S)) : (mirror arr P.length (P.length + D.length) ((P.length + D.length - P.length) / 2)).toList = P ++ (D.reverse ++ S) := by
  have sz : arr.size = P.length + (D.length + S.length) := by
    have := congrArg List.length e
    simpa using this
  apply List.ext_getElem?
  intro k
  have q := getElem?_mirror_all (xs := arr) (i := P.length) (j := P.length + D.length) (by omega) k
  have q' : (mirror arr P.length (P.length + D.length) ((P.length + D.length - P.length) / 2)).toList[k]? = (mirror arr P.length (P.length + D.length) ((P.length + D.length - P.length) / 2))[k]? := by simp
  have ga : ∀ i, arr[i]? = (P ++ (D ++ S))[i]? := fun i => by rw [← e, Array.getElem?_toList]
  rw [q', q, ga, ga]
  by_cases c : P.length ≤ k ∧ k < P.length + D.length
  · rw [if_pos c, List.getElem?_append_right (by omega), List.getElem?_append_left (by omega), List.getElem?_append_right (by omega), List.getElem?_append_left (by rw [List.length_reverse]; omega), List.getElem?_reverse (by omega)]
    congr 1
    omega
  · rw [if_neg c]
    by_cases c2 : k < P.length
    · rw [List.getElem?_append_left c2, List.getElem?_append_left c2]
    · rw [List.getElem?_append_right (by omega), List.getElem?_append_right (by omega), List.getElem?_append_right (by omega), List.getElem?_append_right (by rw [List.length_reverse]; omega), List.length_reverse]
structure Kp (st st' : SortSt) : Prop where
  kind : kindOf st' = kindOf st
  failed : failedOf st' = failedOf st
  pend : pendingOf st' = pendingOf st
/-- keys that do not rise -/
def NI (κ : KeyKind) (L : List Keyed) (n : Nat) : Prop := ((L.map (kk κ)).take n).Pairwise fun a b => κ.blt a b = false
theorem NI.snoc {L : List Keyed} {n : Nat} {x y : Keyed} (h1 : 1 ≤ n) (h : NI κ L n) (hy : L[n - 1]? = some y) (hx : L[n]? = some x) (l : κ.blt (kk κ y) (kk κ x) = false) : NI κ L (n + 1) := by
  have ey : (L.map (kk κ))[n - 1]? = some (kk κ y) := by rw [List.getElem?_map, hy]; rfl
  have ex : (L.map (kk κ))[n]? = some (kk κ x) := by rw [List.getElem?_map, hx]; rfl
  unfold NI at h ⊢
  have e1 : (L.map (kk κ)).take n = (L.map (kk κ)).take (n - 1) ++ [kk κ y] := by
    have := List.take_succ (l := L.map (kk κ)) (i := n - 1)
    rw [show n - 1 + 1 = n by omega, ey] at this
    exact this
  have e2 : (L.map (kk κ)).take (n + 1) = (L.map (kk κ)).take n ++ [kk κ x] := by
    rw [List.take_succ, ex]
    rfl
  rw [e2, List.pairwise_append]
  refine ⟨h, by simp, fun u hu v hv => ?_⟩
  simp at hv
  rw [hv]
  rw [e1] at hu h
  rcases List.mem_append.mp hu with k | k
  · have q := (List.pairwise_append.mp h).2.2 u k (kk κ y) (by simp)
    exact KeyOrd.kle_trans (O := κ.toKeyOrd) l q
  · simp at k
    rw [k]
    exact l
theorem NI.falls {L : List Keyed} {n : Nat} (h : NI κ L n) : (L.take n).Pairwise (fun p q => Lq κ q p) := by
  unfold NI at h
  rw [← List.map_take, List.pairwise_map] at h
  exact h
/-- the last ones ahead of the place n are alike -/
def Eqs (κ : KeyKind) (L : List Keyed) (n m : Nat) : Prop := ∃ (D1 D2 S : List Keyed) (a : κ.α), L = D1 ++ (D2 ++ S) ∧ D1.length + D2.length = n ∧ D2.length = m + 1 ∧ ∀ x ∈ D2, kk κ x = a
theorem alike_rev {D : List Keyed} {a : κ.α} (h : ∀ x ∈ D, kk κ x = a) : D.reverse.map (kk κ) = D.map (kk κ) := by
  have e1 : D.map (kk κ) = List.replicate D.length a := List.eq_replicate_iff.mpr ⟨by simp, fun b hb => by
    obtain ⟨x, hx, rfl⟩ := List.mem_map.mp hb
    exact h x hx⟩
  have e2 : D.reverse.map (kk κ) = List.replicate D.length a := List.eq_replicate_iff.mpr ⟨by simp, fun b hb => by
    obtain ⟨x, hx, rfl⟩ := List.mem_map.mp hb
    exact h x (List.mem_reverse.mp hx)⟩
  rw [e1, e2]
/-- a stretch of alike ones turned about -/
theorem wpS_turn {st : SortSt} {P L : List Keyed} {n m i j : Nat} {Q : Unit → SortSt → Prop} (e : (arrOf st).toList = P ++ L) (q : Eqs κ L n m) (ei : i = P.length + n - (m + 1)) (ej : j = P.length + n)
    (h : ∀ st' L', Kp st st' → (arrOf st').toList = P ++ L' → L'.Perm L → L'.map (kk κ) = L.map (kk κ) → (∀ k, n ≤ k → L'[k]? = L[k]?) → Q () st') : wpS (model prog w) A E s (reverseSlice' i j) Q st := by
  obtain ⟨D1, D2, S, a, rfl, l1, l2, al⟩ := q
  refine wpS_reverse ?_
  have er : (arrOf st).toList = (P ++ D1) ++ (D2 ++ S) := by rw [e]; simp
  have em := mirror_list er
  have i1 : i = (P ++ D1).length := by rw [List.length_append]; omega
  have j1 : j = (P ++ D1).length + D2.length := by rw [List.length_append]; omega
  rw [i1, j1]
  refine h (setArr st (mirror (arrOf st) (P ++ D1).length ((P ++ D1).length + D2.length) (((P ++ D1).length + D2.length - (P ++ D1).length) / 2))) (D1 ++ (D2.reverse ++ S)) ⟨rfl, rfl, rfl⟩ ?_ ?_ ?_ fun k hk => ?_
  · rw [← List.append_assoc]
    exact em
  · exact List.Perm.append_left _ (List.Perm.append_right _ (List.reverse_perm _))
  · simp only [List.map_append]
    rw [alike_rev al]
  · rw [List.getElem?_append_right (by omega), List.getElem?_append_right (by rw [List.length_reverse]; omega), List.getElem?_append_right (by omega), List.getElem?_append_right (by omega), List.length_reverse]
theorem Kp.trans {a b c : SortSt} (h1 : Kp a b) (h2 : Kp b c) : Kp a c := ⟨h2.kind.trans h1.kind, h2.failed.trans h1.failed, h2.pend.trans h1.pend⟩
theorem eqs_one {L : List Keyed} {n : Nat} (h : n < L.length) : Eqs κ L (n + 1) 0 := by
  refine ⟨L.take n, [L[n]], L.drop (n + 1), kk κ L[n], ?_, by rw [List.length_take]; simp; omega, rfl, fun x hx => by simp at hx; rw [hx]⟩
  have := List.drop_eq_getElem_cons h
  rw [List.singleton_append, ← this, List.take_append_drop]
theorem Eqs.more {L : List Keyed} {n m : Nat} {x y : Keyed} (h : Eqs κ L n m) (hy : L[n - 1]? = some y) (hx : L[n]? = some x) (e : kk κ x = kk κ y) : Eqs κ L (n + 1) (m + 1) := by
  obtain ⟨D1, D2, S, a, rfl, l1, l2, al⟩ := h
  have my : y ∈ D2 := by
    rw [List.getElem?_append_right (by omega), List.getElem?_append_left (by omega)] at hy
    exact List.mem_of_getElem? hy
  rw [List.getElem?_append_right (by omega), List.getElem?_append_right (by omega)] at hx
  have z : n - D1.length - D2.length = 0 := by omega
  rw [z] at hx
  cases S with
  | nil => simp at hx
  | cons s S =>
    simp at hx
    subst hx
    refine ⟨D1, D2 ++ [s], S, a, by simp, by simp; omega, by simp; omega, fun u hu => ?_⟩
    rcases List.mem_append.mp hu with k | k
    · exact al u k
    · simp at k
      rw [k, e]
      exact al y my
theorem wpS_back {st st6 : SortSt} {P L R : List Keyed} {n : Nat} {f : Unit → StateT SortSt Sem (Option Nat)} {Q : Option Nat → SortSt → Prop} (kp : Kp st st6) (e : (arrOf st6).toList = P ++ L) (pr : L.Perm R) (hn : n ≤ R.length) (ni : NI κ L n)
    (h : ∀ st7 M, Kp st st7 → (arrOf st7).toList = P ++ M → M.Perm R → (M.take n).Pairwise (Lq κ) → wpS (model prog w) A E s (f ()) Q st7) : wpS (model prog w) A E s (reverseSlice' P.length (P.length + n) >>= f) Q st6 := by
  have tl : (L.take n).length = n := by rw [List.length_take, pr.length_eq]; omega
  have er : (arrOf st6).toList = P ++ (L.take n ++ L.drop n) := by rw [List.take_append_drop]; exact e
  have em := mirror_list er
  rw [tl] at em
  refine wpS_bind (wpS_reverse (h _ ((L.take n).reverse ++ L.drop n) ⟨kp.kind, kp.failed, kp.pend⟩ em ?_ ?_))
  · refine List.Perm.trans (List.Perm.append_right _ (List.reverse_perm _)) ?_
    rw [List.take_append_drop]
    exact pr
  · rw [List.take_left' (by rw [List.length_reverse, tl]), List.pairwise_reverse]
    exact ni.falls
theorem wpS_countAt (hO : LtS prog w A E s κ kd) {st : SortSt} {P R : List Keyed} {Q : Option Nat → SortSt → Prop} (hk : kindOf st = kd) (ka : ∀ x ∈ R, Kd κ x) (e : (arrOf st).toList = P ++ R) (hR : 1 ≤ R.length)
    (h : ∀ st' X S, Kp st st' → (arrOf st').toList = P ++ (X ++ S) → X.Pairwise (Lq κ) → (X ++ S).Perm R → 1 ≤ X.length → Q (some X.length) st') : wpS (model prog w) A E s (countRun' P.length R.length) Q st := by
  have got : ∀ n, 1 ≤ n → n ≤ R.length → (R.take n).Pairwise (Lq κ) → Q (some n) st := fun n h1 h2 h3 => by
    have q := h st (R.take n) (R.drop n) ⟨rfl, rfl, rfl⟩ (by rw [List.take_append_drop]; exact e) h3 (by rw [List.take_append_drop]) (by rw [List.length_take]; omega)
    rwa [List.length_take, Nat.min_eq_left h2] at q
  unfold countRun'
  refine wpS_open ?_
  try dsimp only
  refine wpS_bind (wpS_asc (κ := κ) (R := R) rfl (Nat.le_refl 1) hR ?_ (fun n x y i Q' h1 hx hy ht hf => ?_) fun n h1 h2 h3 h4 => ?_)
  · cases R with
    | nil => simp
    | cons => simp
  · refine wpS_bind (wpS_ltR hO hk ka e hx hy rfl (by omega) ?_)
    cases c : κ.blt (kk κ x) (kk κ y) with
    | true => exact wpS_pure (ht c)
    | false => exact wpS_pure (hf c)
  try dsimp only
  by_cases c1 : n = R.length
  · rw [if_pos (beq_iff_eq.mpr c1)]
    exact wpS_pure (got n h1 h2 h3)
  rw [if_neg (fun z => c1 (beq_iff_eq.mp z))]
  rcases h4 with h4 | ⟨x, y, hx, hy, lt⟩
  · exact absurd h4 c1
  have nl : n < R.length := by omega
  have all : ∀ (i j : Nat) (u v : Keyed), i ≤ j → j < n → R[i]? = some u → R[j]? = some v → Lq κ u v := fun i j u v hij hj hu hv => by
    rcases Nat.lt_or_ge i j with c | c
    · obtain ⟨l1, g1⟩ := List.getElem?_eq_some_iff.mp hu
      obtain ⟨l2, g2⟩ := List.getElem?_eq_some_iff.mp hv
      have q := List.pairwise_iff_getElem.mp h3 i j (by rw [List.length_take]; omega) (by rw [List.length_take]; omega) c
      rw [List.getElem_take, List.getElem_take, g1, g2] at q
      exact q
    · have : i = j := by omega
      subst this
      rw [hu] at hv
      cases hv
      exact KeyOrd.kle_refl _
  by_cases c2 : n > 1
  case' pos =>
    rw [if_pos c2]
    obtain ⟨x0, hx0⟩ : ∃ x, R[0]? = some x := ⟨_, List.getElem?_eq_getElem (by omega)⟩
    refine wpS_bind (wpS_ltR hO hk ka e hx0 hy rfl (by omega) ?_)
    try dsimp only
    cases rose : κ.blt (kk κ x0) (kk κ y) with
    | true => exact wpS_pure (got n h1 h2 h3)
    | false => ?_
    try dsimp only
    rw [if_neg (by decide)]
    have al : ∀ z ∈ R.take n, kk κ z = kk κ x0 := fun z hz => by
      obtain ⟨k, hk'⟩ := List.mem_iff_getElem?.mp hz
      have kn : k < n := by
        have := (List.getElem?_eq_some_iff.mp hk').1
        rw [List.length_take] at this
        omega
      rw [List.getElem?_take_of_lt kn] at hk'
      have a1 := all 0 k x0 z (by omega) kn hx0 hk'
      have a2 := all k (n - 1) z y (by omega) (by omega) hk' hy
      exact KeyOrd.kle_antisymm (O := κ.toKeyOrd) (KeyOrd.kle_trans (O := κ.toKeyOrd) a2 rose) a1
    have eq0 : Eqs κ R n (n - 1) := ⟨[], R.take n, R.drop n, kk κ x0, by simp, by rw [List.length_take]; simp; omega, by rw [List.length_take]; omega, al⟩
    have ni0 : NI κ R n := by
      unfold NI
      rw [← List.map_take]
      refine List.pairwise_map.mpr (List.Pairwise.imp_of_mem (R := fun _ _ => True) (fun {u v} hu hv _ => ?_) (List.pairwise_of_forall fun _ _ => trivial))
      rw [al u hu, al v hv]
      exact κ.irrefl _
    have ni1 : NI κ R (n + 1) := ni0.snoc h1 hy hx (KeyOrd.kle_of_klt lt)
    refine wpS_bind (wpS_turn (κ := κ) e eq0 (by omega) rfl fun st1 L0 kp1 e1 p1 m1 _ => ?_)
    have niL : NI κ L0 (n + 1) := by
      unfold NI at ni1 ⊢
      rw [m1]
      exact ni1
  case' neg =>
    rw [if_neg c2]
    have n1 : n = 1 := by omega
    have ni1 : NI κ R (n + 1) := by
      refine NI.snoc h1 ?_ hy hx (KeyOrd.kle_of_klt lt)
      rw [n1]
      unfold NI
      cases R with
      | nil => simp
      | cons => simp
    have kp1 : Kp st st := ⟨rfl, rfl, rfl⟩
    have e1 := e
    have p1 := List.Perm.refl R
    have niL := ni1
  all_goals
    refine wpS_bind (wpS_rule ?_)
    have n2 : 2 ≤ n + 1 := by omega
    refine wpS_bind (wpS_mono (wpS_forRange (I := fun i c st' => ∃ L m, c = (none, i, m) ∧ Kp st st' ∧ (arrOf st').toList = P ++ L ∧ L.Perm R ∧ NI κ L i ∧ Eqs κ L i m ∧ 2 ≤ i)
      (Q := fun c st' => ∃ n' L m, c = (none, n', m) ∧ Kp st st' ∧ (arrOf st').toList = P ++ L ∧ L.Perm R ∧ NI κ L n' ∧ Eqs κ L n' m ∧ 2 ≤ n' ∧ n' ≤ R.length) ?ds ?de ⟨_, 0, rfl, kp1, e1, p1, niL, ?i0, n2⟩) ?dp)
    case i0 =>
      exact eqs_one (by rw [p1.length_eq]; omega)
    case de =>
      rintro c st' ⟨L, m, rfl, kp, eL, pL, ni, eq, g1⟩
      have : max (n + 1) R.length = R.length := by omega
      rw [this] at ni eq g1 ⊢
      exact ⟨_, L, m, rfl, kp, eL, pL, ni, eq, g1, Nat.le_refl _⟩
    case ds =>
      rintro i c st' hi1 hi2 ⟨L, m, rfl, kp, eL, pL, ni, eq, g1⟩
      have hi3 : i < L.length := by rw [pL.length_eq]; exact hi2
      have ex := List.getElem?_eq_getElem hi3
      have ey := List.getElem?_eq_getElem (show i - 1 < L.length by omega)
      have kL : ∀ x ∈ L, Kd κ x := fun x hx => ka x (pL.mem_iff.mp hx)
      have hk' := kp.kind.trans hk
      try dsimp only
      refine wpS_bind (wpS_ltR hO hk' kL eL ex ey rfl (by omega) ?_)
      try dsimp only
      cases c : κ.blt (kk κ L[i]) (kk κ L[i - 1]) with
      | true =>
        rw [if_pos rfl]
        by_cases hm : m > 0
        · rw [if_pos hm]
          refine wpS_bind (wpS_turn (κ := κ) eL eq rfl rfl fun st6 L6 kp6 e6 p6 m6 g6 => wpS_pure ⟨L6, 0, rfl, kp.trans kp6, e6, p6.trans pL, ?_, eqs_one (by rw [p6.length_eq]; omega), by omega⟩)
          have := ni.snoc (by omega) ey ex (KeyOrd.kle_of_klt c)
          unfold NI at this ⊢
          rw [m6]
          exact this
        · rw [if_neg hm]
          exact wpS_pure ⟨L, 0, rfl, kp, eL, pL, ni.snoc (by omega) ey ex (KeyOrd.kle_of_klt c), eqs_one (by omega), by omega⟩
      | false =>
        rw [if_neg (by decide)]
        refine wpS_bind (wpS_ltR hO hk' kL eL ey ex (by omega) rfl ?_)
        try dsimp only
        cases c' : κ.blt (kk κ L[i - 1]) (kk κ L[i]) with
        | true => exact wpS_pure ⟨i, L, m, rfl, kp, eL, pL, ni, eq, g1, by omega⟩
        | false => exact wpS_pure ⟨L, m + 1, rfl, kp, eL, pL, ni.snoc (by omega) ey ex c', eq.more ey ex (κ.total _ _ c c'), by omega⟩
    case dp =>
      rintro c st' ⟨n', L, m, rfl, kp, eL, pL, ni, eq, g1, g2⟩
      try dsimp only
      by_cases hm : m > 0
      case' pos =>
        rw [if_pos hm]
        refine wpS_bind (wpS_turn (κ := κ) eL eq rfl rfl fun st6 L6 kp6' e6 p6' m6 g6 => ?_)
        have kp6 := kp.trans kp6'
        have p6 := p6'.trans pL
        have ni6 : NI κ L6 n' := by
          unfold NI at ni ⊢
          rw [m6]
          exact ni
      case' neg =>
        rw [if_neg hm]
        have kp6 := kp
        have e6 := eL
        have p6 := pL
        have ni6 := ni
      all_goals
        refine wpS_back (κ := κ) kp6 e6 p6 g2 ni6 fun st7 M kp7 e7 p7 s7 => ?_
        have rl := p7.length_eq
        have kM : ∀ x ∈ M, Kd κ x := fun x hx => ka x (p7.mem_iff.mp hx)
        refine wpS_bind (wpS_asc (κ := κ) (R := M) rl.symm (by omega) (by omega) s7 (fun m x y i Q' h1 hx hy ht hf => ?_) fun m h1 h2 h3 _ => ?_)
        · try dsimp only
          refine wpS_bind (wpS_ltR hO (kp7.kind.trans hk) kM e7 hx hy rfl (by omega) ?_)
          cases c : κ.blt (kk κ x) (kk κ y) with
          | true => exact wpS_pure (ht c)
          | false => exact wpS_pure (hf c)
        · have q := h st7 (M.take m) (M.drop m) kp7 (by rw [List.take_append_drop]; exact e7) h3 (by rw [List.take_append_drop]; exact p7) (by rw [List.length_take]; omega)
          rw [List.length_take, Nat.min_eq_left h2] at q
          exact wpS_pure q
end
end So
set_option Elab.async false
set_option linter.all false
set_option maxRecDepth 100000
namespace So
open PySem PyProof.Rows
theorem bubble_list {arr : Array Keyed} {B V W : List Keyed} {x : Keyed} (e : arr.toList = B ++ (V ++ x :: W)) : (bubble arr (B.length + V.length) V.length).toList = B ++ (x :: (V ++ W)) := by
  have sz : arr.size = B.length + (V.length + (W.length + 1)) := by
    have := congrArg List.length e
    simpa using this
  apply List.ext_getElem?
  intro k
  have q := getElem?_bubble (xs := arr) (src := B.length + V.length) (by omega) V.length (by omega) k
  rw [Nat.add_sub_cancel] at q
  have ga : ∀ i, arr[i]? = (B ++ (V ++ x :: W))[i]? := fun i => by rw [← e, Array.getElem?_toList]
  rw [Array.getElem?_toList, q, ga, ga, ga]
  by_cases c1 : k = B.length
  · rw [if_pos c1]
    subst c1
    simp
  rw [if_neg c1]
  by_cases c2 : B.length < k ∧ k ≤ B.length + V.length
  · rw [if_pos c2, List.getElem?_append_right (by omega), List.getElem?_append_left (by omega), List.getElem?_append_right (by omega)]
    have : k - B.length = (k - 1 - B.length) + 1 := by omega
    rw [this, List.getElem?_cons_succ, List.getElem?_append_left (by omega)]
  rw [if_neg c2]
  by_cases c3 : k < B.length
  · rw [List.getElem?_append_left c3, List.getElem?_append_left c3]
  · rw [List.getElem?_append_right (by omega), List.getElem?_append_right (by omega), List.getElem?_append_right (by omega)]
    have e1 : k - B.length - V.length = (k - B.length - V.length - 1) + 1 := by omega
    have e2 : k - B.length = (k - B.length - 1) + 1 := by omega
    rw [e1, List.getElem?_cons_succ, e2, List.getElem?_cons_succ, List.getElem?_append_right (by omega)]
    congr 1
    omega
section
variable {prog : Program} {w : World} {A : Around} {E : Value → Shared → Prop} {s : Shared} {κ : KeyKind} {kd : SortKind}
theorem wpS_binAt (hO : LtS prog w A E s κ kd) {st : SortSt} {P D S : List Keyed} {ok n : Nat} {Q : Bool → SortSt → Prop} (hn : n = D.length) (hk : kindOf st = kd) (ka : ∀ x ∈ D, Kd κ x) (e : (arrOf st).toList = P ++ (D ++ S)) (h1 : 1 ≤ ok) (h2 : ok ≤ D.length) (hs : (D.take ok).Pairwise (Lq κ))
    (h : ∀ st' X, Kp st st' → (arrOf st').toList = P ++ (X ++ S) → X.Pairwise (Lq κ) → X.Perm D → Q true st') : wpS (model prog w) A E s (binarySort' P.length n ok) Q st := by
  subst hn
  unfold binarySort'
  refine wpS_open ?_
  try dsimp only
  have mx : max ok 1 = ok := by omega
  rw [mx]
  refine wpS_bind (wpS_mono (wpS_forRange (I := fun k c st' => c = (none, ()) ∧ Kp st st' ∧ ∃ X, (arrOf st').toList = P ++ (X ++ S) ∧ X.Perm D ∧ (X.take k).Pairwise (Lq κ))
    (Q := fun c st' => c = (none, ()) ∧ Kp st st' ∧ ∃ X, (arrOf st').toList = P ++ (X ++ S) ∧ X.Perm D ∧ X.Pairwise (Lq κ)) ?s1 ?e1 ⟨rfl, ⟨rfl, rfl, rfl⟩, D, e, List.Perm.refl _, hs⟩) ?p1)
  case e1 =>
    rintro c st' ⟨rfl, kp, X, eX, pX, sX⟩
    rw [Nat.max_eq_right h2, List.take_of_length_le (by rw [pX.length_eq]; exact Nat.le_refl _)] at sX
    exact ⟨rfl, kp, X, eX, pX, sX⟩
  case p1 =>
    rintro c st' ⟨rfl, kp, X, eX, pX, sX⟩
    exact wpS_pure (h st' X kp eX sX pX)
  case s1 =>
    rintro k c st' hk1 hk2 ⟨rfl, kp, X, eX, pX, sX⟩
    have xl := pX.length_eq
    have kaX : ∀ x ∈ X ++ S, x ∈ X → Kd κ x := fun x _ hx => ka x (pX.mem_iff.mp hx)
    have hkx : k < X.length := by omega
    have ex := List.getElem?_eq_getElem hkx
    generalize X[k] = x at ex
    have eX' : (arrOf st').toList = P ++ X ++ S := by rw [eX, List.append_assoc]
    have lt : ∀ {i : Nat} {y : Keyed} {Q' : Option Bool → SortSt → Prop}, X[i]? = some y → Q' (some (κ.blt (kk κ x) (kk κ y))) st' → wpS (model prog w) A E s (ltAt' (P.length + k) (P.length + i)) Q' st' := fun {i y Q'} hy hq => by
      have il := (List.getElem?_eq_some_iff.mp hy).1
      rw [ltAt'_eq]
      refine wpS_bind (wpS_get ?_)
      exact wpS_bind (wpS_elem (at_R eX (by rw [List.getElem?_append_left hkx]; exact ex)) (wpS_bind (wpS_elem (at_R eX (by rw [List.getElem?_append_left il]; exact hy)) (wpS_lt hO (kp.kind.trans hk) (ka x (pX.mem_iff.mp (List.mem_of_getElem? ex))) (ka y (pX.mem_iff.mp (List.mem_of_getElem? hy))) hq))))
    have mono : ∀ {i j : Nat} {u v : Keyed}, i ≤ j → j < k → X[i]? = some u → X[j]? = some v → Lq κ u v := fun {i j u v} hij hj hu hv => by
      rcases Nat.lt_or_ge i j with c | c
      · obtain ⟨l1, g1⟩ := List.getElem?_eq_some_iff.mp hu
        obtain ⟨l2, g2⟩ := List.getElem?_eq_some_iff.mp hv
        have q := List.pairwise_iff_getElem.mp sX i j (by rw [List.length_take]; omega) (by rw [List.length_take]; omega) c
        rw [List.getElem_take, List.getElem_take, g1, g2] at q
        exact q
      · have : i = j := by omega
        subst this
        rw [hu] at hv
        cases hv
        exact KeyOrd.kle_refl _
    try dsimp only
    refine wpS_bind (wpS_mono (wpS_forRange (I := fun i c st'' => st'' = st' ∧ ∃ l r, c = (none, l, r) ∧ l ≤ r ∧ r ≤ k ∧ (∀ j u, j < l → X[j]? = some u → Lq κ u x) ∧ (∀ j u, r ≤ j → j < k → X[j]? = some u → Lq κ x u) ∧ r - l + i ≤ k)
      (Q := fun c st'' => st'' = st' ∧ ∃ l, c = (none, l, l) ∧ l ≤ k ∧ (∀ j u, j < l → X[j]? = some u → Lq κ u x) ∧ (∀ j u, l ≤ j → j < k → X[j]? = some u → Lq κ x u)) ?s2 ?e2 ⟨rfl, 0, k, rfl, by omega, by omega, fun j u z => absurd z (by omega), fun j u z z' => absurd z' (by omega), by omega⟩) ?p2)
    case e2 =>
      rintro c st'' ⟨rfl, l, r, rfl, a1, a2, a3, a4, a5⟩
      have : l = r := by omega
      subst this
      exact ⟨rfl, l, rfl, a2, a3, a4⟩
    case s2 =>
      rintro i c st'' _ hi ⟨rfl, l, r, rfl, a1, a2, a3, a4, a5⟩
      try dsimp only
      by_cases c : l ≥ r
      · rw [if_pos c]
        have : l = r := by omega
        subst this
        exact wpS_pure ⟨rfl, l, rfl, a2, a3, a4⟩
      · rw [if_neg c]
        have ml : (l + r) / 2 < X.length := by omega
        have em := List.getElem?_eq_getElem ml
        refine wpS_bind (lt em ?_)
        try dsimp only
        cases cc : κ.blt (kk κ x) (kk κ X[(l + r) / 2]) with
        | true => exact wpS_pure ⟨rfl, _, _, rfl, by omega, by omega, a3, fun j u hj hj2 hu => KeyOrd.kle_trans (KeyOrd.kle_of_klt cc) (mono hj hj2 em hu), by omega⟩
        | false => exact wpS_pure ⟨rfl, _, _, rfl, by omega, by omega, fun j u hj hu => KeyOrd.kle_trans (mono (show j ≤ (l + r) / 2 by omega) (by omega) hu em) cc, a4, by omega⟩
    case p2 =>
      rintro c st'' ⟨rfl, l, rfl, a2, a3, a4⟩
      try dsimp only
      have eX2 : X = X.take l ++ ((X.take k).drop l ++ x :: X.drop (k + 1)) := by
        obtain ⟨l1, g1⟩ := List.getElem?_eq_some_iff.mp ex
        have d1 : X.drop k = x :: X.drop (k + 1) := by rw [List.drop_eq_getElem_cons l1, g1]
        have t1 : X.take k = X.take l ++ (X.take k).drop l := by
          have q := (List.take_append_drop l (X.take k)).symm
          rw [List.take_take, Nat.min_eq_left a2] at q
          exact q
        rw [← d1, ← List.append_assoc, ← t1, List.take_append_drop]
      have lv : ((X.take k).drop l).length = k - l := by rw [List.length_drop, List.length_take]; omega
      have lu : (X.take l).length = l := by rw [List.length_take]; omega
      have mU : ∀ u ∈ X.take l, Lq κ u x := fun u hu => by
        obtain ⟨j, hj⟩ := List.mem_iff_getElem?.mp hu
        have jl := (List.getElem?_eq_some_iff.mp hj).1
        rw [lu] at jl
        rw [List.getElem?_take_of_lt jl] at hj
        exact a3 j u jl hj
      have mV : ∀ u ∈ (X.take k).drop l, Lq κ x u := fun u hu => by
        obtain ⟨j, hj⟩ := List.mem_iff_getElem?.mp hu
        have jl := (List.getElem?_eq_some_iff.mp hj).1
        rw [lv] at jl
        rw [List.getElem?_drop, List.getElem?_take_of_lt (by omega)] at hj
        exact a4 (l + j) u (by omega) (by omega) hj
      have sUV : (X.take l ++ (X.take k).drop l).Pairwise (Lq κ) := by
        have q := (List.take_append_drop l (X.take k)).symm
        rw [List.take_take, Nat.min_eq_left a2] at q
        rw [← q]
        exact sX
      generalize X.take l = U at *
      generalize (X.take k).drop l = V at *
      generalize X.drop (k + 1) = W at *
      subst eX2
      have eb : (arrOf st'').toList = (P ++ U) ++ (V ++ x :: (W ++ S)) := by rw [eX]; simp
      have bl := bubble_list eb
      have l1 : (P ++ U).length + V.length = P.length + k := by rw [List.length_append]; omega
      rw [l1] at bl
      have l2 : P.length + k - (P.length + l) = V.length := by omega
      have sp := List.pairwise_append.mp sUV
      refine wpS_bind ?_
      show wpS _ _ _ _ (moveDown' (P.length + k) (P.length + l)) _ _
      rw [moveDown'_eq]
      refine wpS_modify (wpS_pure ⟨rfl, ⟨kp.kind, kp.failed, kp.pend⟩, U ++ (x :: (V ++ W)), ?_, ?_, ?_⟩)
      · show (bubble (arrOf st'') (P.length + k) (P.length + k - (P.length + l))).toList = _
        rw [l2, bl]
        simp
      · refine List.Perm.trans (List.Perm.append_left _ ?_) pX
        exact (List.perm_middle).symm
      · have t : U ++ (x :: (V ++ W)) = (U ++ x :: V) ++ W := by simp
        rw [t, List.take_left' (by simp; omega), List.pairwise_append, List.pairwise_cons]
        refine ⟨sp.1, ⟨mV, sp.2.1⟩, fun u hu v hv => ?_⟩
        rcases List.mem_cons.mp hv with c | c
        · rw [c]; exact mU u hu
        · exact sp.2.2 u hu v c
end
end So
set_option Elab.async false
set_option linter.all false
set_option maxRecDepth 100000
namespace So
open PySem PyProof.Rows
/-! ### the runs that wait -/
section
variable {κ : KeyKind} {kd : SortKind}
end
section
variable {prog : Program} {w : World} {A : Around} {E : Value → Shared → Prop} {s : Shared} {κ : KeyKind} {kd : SortKind}
end
end So
set_option Elab.async false
set_option linter.all false
set_option maxRecDepth 100000
namespace So
open PySem PyProof.Rows
section
variable {prog : Program} {w : World} {A : Around} {E : Value → Shared → Prop} {s : Shared} {κ : KeyKind} {kd : SortKind}
end
end So
set_option Elab.async false
set_option linter.all false
set_option maxRecDepth 100000
namespace So
open PySem PyProof.Rows
section
variable {prog : Program} {w : World} {A : Around} {E : Value → Shared → Prop} {s : Shared} {κ : KeyKind}
end
end So
set_option Elab.async false
set_option linter.all false
set_option maxRecDepth 100000
/-! THE HAND LAYER, for ints, bools, texts, own classes, LISTS and tuples (index, slices, in, append, pop ..), calls, loops. Paste it whole ahead of your own text; what your proof does not reach may be deleted. -/
namespace L2
open PySem PySem.Spec PyProof.Rows

/-- a key: an int or a str -/
abbrev Key := Sum Int Str
def keyIs : Key → Value → Bool
  | .inl k, v => Value.isInt k v
  | .inr x, v => Value.isStrOf x v
def keyH (w : World) : Key → Int
  | .inl k => hashInt k
  | .inr x => hashStr w x
theorem keyIs_shape : ∀ {k : Key} {v : Value}, keyIs k v = true → (∃ i t, k = Sum.inl i ∧ v = Value.int i t) ∨ (∃ x t, k = Sum.inr x ∧ v = Value.str x t)
  | .inl i, v, h => by
    obtain ⟨t, e⟩ := Value.isInt_shape (k := i) (v := v) h
    exact .inl ⟨i, t, rfl, e⟩
  | .inr x, v, h => by
    obtain ⟨t, e⟩ := Value.isStrOf_shape (x := x) (v := v) h
    exact .inr ⟨x, t, rfl, e⟩
theorem keyIs_int (i : Int) (t : Tok) : keyIs (.inl i) (.int i t) = true := by simp [keyIs, Value.isInt]
theorem keyIs_str (x : Str) (t : Tok) : keyIs (.inr x) (.str x t) = true := by simp [keyIs, Value.isStrOf]
theorem key_ll (a b : Int) : decide ((Sum.inl a : Key) = Sum.inl b) = (a == b) := by
  by_cases e : a = b
  · subst e; simp
  · have h : ¬ (Sum.inl a : Key) = Sum.inl b := fun q => e (Sum.inl.inj q)
    rw [decide_eq_false h]
    exact (beq_eq_false_iff_ne.mpr e).symm
theorem key_rr (a b : Str) : decide ((Sum.inr a : Key) = Sum.inr b) = decide (a = b) := by
  by_cases e : a = b
  · subst e; simp
  · have h : ¬ (Sum.inr a : Key) = Sum.inr b := fun q => e (Sum.inr.inj q)
    rw [decide_eq_false h, decide_eq_false e]
theorem key_lr (a : Int) (b : Str) : decide ((Sum.inl a : Key) = Sum.inr b) = false := decide_eq_false (fun q => nomatch q)
theorem key_rl (a : Str) (b : Int) : decide ((Sum.inr a : Key) = Sum.inl b) = false := decide_eq_false (fun q => nomatch q)

def mixKind (prog : Program) (w : World) : PySem.KeyKind prog w Key where
  is := keyIs
  hash := keyH w
  inj := fun v a b ha hb => by
    rcases keyIs_shape ha with ⟨i, t, rfl, rfl⟩ | ⟨x, t, rfl, rfl⟩
    · rcases keyIs_shape hb with ⟨j, u, rfl, e⟩ | ⟨y, u, rfl, e⟩
      · injection e with e1 _; rw [e1]
      · exact nomatch e
    · rcases keyIs_shape hb with ⟨j, u, rfl, e⟩ | ⟨y, u, rfl, e⟩
      · exact nomatch e
      · injection e with e1 _; rw [e1]
  byValue := fun k v h => by
    rcases keyIs_shape h with ⟨i, t, rfl, rfl⟩ | ⟨x, t, rfl, rfl⟩ <;> rfl
  pyHash := fun hv h => by
    rcases keyIs_shape hv with ⟨i, t, rfl, rfl⟩ | ⟨x, t, rfl, rfl⟩
    · exact wpAny_pyHash_int h
    · exact wpAny_pyHash_str h
  eqBool := fun hu hv h => by
    rcases keyIs_shape hu with ⟨i, t, rfl, rfl⟩ | ⟨x, t, rfl, rfl⟩
    · rcases keyIs_shape hv with ⟨j, u, rfl, rfl⟩ | ⟨y, u, rfl, rfl⟩
      · rw [key_ll] at h; exact wpAny_eqBool_int h
      · rw [key_lr] at h; exact SeqAt.EqAt.int_str i t y u _ _ _ _ h
    · rcases keyIs_shape hv with ⟨j, u, rfl, rfl⟩ | ⟨y, u, rfl, rfl⟩
      · rw [key_rl] at h; exact SeqAt.EqAt.str_int x t j u _ _ _ _ h
      · rw [key_rr] at h; exact wpAny_eqBool_str h
  «strs» := fun k x t v h => by
    rcases keyIs_shape h with ⟨i, u, rfl, e⟩ | ⟨y, u, rfl, e⟩
    · exact nomatch e
    · injection e with e1 _
      subst e1
      cases v <;> rfl

theorem mixKind_int (prog : Program) (w : World) (i : Int) (t : Tok) : (mixKind prog w).is (.inl i) (.int i t) = true := keyIs_int i t
theorem mixKind_str (prog : Program) (w : World) (x : Str) (t : Tok) : (mixKind prog w).is (.inr x) (.str x t) = true := keyIs_str x t
end L2

namespace L2
open PySem PySem.Spec PyProof.Rows

/-- a value, without the heap -/
inductive V where
  | non | bl (b : Bool) | int (i : Int) | str (x : Str) | byt (b : Array UInt8) | flt (b : UInt64) | ref (a : Addr) | ty (n : String)
  deriving DecidableEq

def RelV : V → Value → Prop
  | .non, u => u = Value.none
  | .bl b, u => u = Value.bool b
  | .int i, u => ∃ t, u = Value.int i t
  | .str x, u => ∃ t, u = Value.str x t
  | .byt b, u => ∃ t, u = Value.bytes b t
  | .flt b, u => ∃ t, u = Value.float b t
  | .ref a, u => u = Value.ref a
  | .ty n, u => u = Value.type n

abbrev Vals : List V → List Value → Prop := Paired RelV
theorem Vals.length {xs : List V} {us : List Value} (r : Vals xs us) : xs.length = us.length := Paired.length r
theorem Vals.get : ∀ {xs : List V} {us : List Value} {i : Nat} {x : V}, Vals xs us → xs[i]? = some x → ∃ u, us[i]? = some u ∧ RelV x u
  | _, _, _, _, .nil, e => by simp at e
  | _, _, 0, _, .cons r _, e => by simp at e; subst e; exact ⟨_, rfl, r⟩
  | _, _, i + 1, x, .cons _ t, e => by
    obtain ⟨u, h1, h2⟩ := Vals.get (i := i) (x := x) t (by simpa using e)
    exact ⟨u, by simpa using h1, h2⟩
theorem Vals.append : ∀ {xs ys : List V} {us ws : List Value}, Vals xs us → Vals ys ws → Vals (xs ++ ys) (us ++ ws)
  | _, _, _, _, .nil, s => s
  | _, _, _, _, .cons r t, s => .cons r (Vals.append t s)
def RelO : Option V → Option Value → Prop
  | some v, some u => RelV v u
  | none, none => True
  | _, _ => False
def KV {κ : Type} : List (κ × V) → List (κ × Value) → Prop := Paired fun (p : κ × V) (q : κ × Value) => p.1 = q.1 ∧ RelV p.2 q.2

/-- a key of a dict (00_mix): an int or a text -/
def kV : Key → V
  | .inl i => .int i
  | .inr x => .str x

/-- what stands at a tracked address -/
inductive HO where
  /-- a list -/
  | lst (xs : List V)
  /-- a tuple (never changes) -/
  | tup (xs : List V)
  /-- a dict whose keys are ints and texts; one whose keys are tuples of ints and texts (the empty one is both) -/
  | dK (kvs : List (Key × V)) | dT (kvs : List (List Key × V))
  /-- a set of ints: its members, its size -/
  | set (S : Int → Bool) (n : Nat)
  /-- an instance of the class at C, its dict at dx, its attributes -/
  | ins (C dx : Addr) (fs : List (Str × V))
  /-- the dict of the instance at x -/
  | own (x : Addr)
  /-- the dict of an exception -/
  | xd (fs : List (Str × V))
  /-- a bound method, f of x -/
  | met (f x : Addr)
  /-- a range object lo, lo + 1, .. below hi -/
  | rng (lo hi : Int)
  /-- a thing that is known to the object (the script; a dict while a loop walks it): read, never written while it is so -/
  | frz (o : Obj) (u : HO)
  /-- a code object's table -/
  | tbl (ps : Array Value)
  /-- any other thing, by what is true of its one object (a def of one's own: SetO a S n := HO.ext fun h => ..) -/
  | ext (φ : Heap → Prop)

abbrev Hp := Addr → Option HO
def upd (H : Hp) (a : Addr) (o : HO) : Hp := fun b => if b = a then some o else H b
theorem upd_same {H : Hp} {a : Addr} {o : HO} : upd H a o a = some o := by unfold upd; rw [if_pos rfl]
theorem upd_ne {H : Hp} {a b : Addr} {o : HO} (h : b ≠ a) : upd H a o b = H b := by unfold upd; rw [if_neg h]
/-- two objects of different content stand apart -/
theorem ne_of {H : Hp} {a b : Addr} {o u : HO} (h : H a = some o) (h' : H b = some u) (d : o ≠ u) : a ≠ b := by
  intro e; subst e; rw [h] at h'; exact d (Option.some.inj h')
theorem ne_of_none {H : Hp} {a b : Addr} {o : HO} (h : H a = some o) (h' : H b = none) : a ≠ b := by
  intro e; subst e; rw [h] at h'; cases h'

section
variable (P : Program) (w : World)
def ObjOk (H : Hp) (h : Heap) (a : Addr) : HO → Prop
  | .lst xs => xs.length ≤ sizeLine ∧ ∃ (its : List Value) (n : Nat), Vals xs its ∧ h.get? a = some { cls := .type "list", data := .seq its.toArray n }
  | .tup xs => xs.length ≤ sizeLine ∧ ∃ its : List Value, Vals xs its ∧ IsTup h a its.toArray
  | .dK kvs => kvs.length ≤ sizeLine ∧ (a == sysModules) = false ∧ ∃ vs, KV kvs vs ∧ h.DictOf (mixKind P w) a vs
  | .dT kvs => kvs.length ≤ sizeLine ∧ (a == sysModules) = false ∧ ∃ xs : List (List Key × Addr × Value),
      Paired (fun (p : List Key × V) (q : List Key × Addr × Value) => p.1 = q.1 ∧ H q.2.1 = some (.tup (p.1.map kV)) ∧ RelV p.2 q.2.2) kvs xs ∧
      ∃ o es ep, h.get? a = some o ∧ o.ExactDict ∧ o.data = .dict es ep ∧ es.toList = xs.map (entryOfKey (tupleKind (mixKind P w))) ∧ (xs.map (·.1)).Nodup
  | .set S n => h.SetOf (intKind P w) a S n
  | .ins C dx fs => H dx = some (.own a) ∧ fs.length ≤ 1000 ∧ dx ≠ a ∧ h.get? a = some (PySem.W.instObj C dx) ∧
      ∃ mA, h.Ns1 dx mA ∧ (∀ f, RelO (fs.lookup f) (mA f)) ∧ PySem.Within mA (fs.map (·.1))
  | .own _ => ∃ o, h.get? a = some o
  | .xd fs => ∃ mA, h.Ns1 a mA ∧ ∀ f, RelO (fs.lookup f) (mA f)
  | .rng lo hi => ∃ t u v, h.get? a = some { cls := .type "range", data := .fields #[.int lo t, .int hi u, .int 1 v] }
  | .frz o u => h.get? a = some o ∧ ObjOk H h a u
  | .tbl ps => h.get? a = some { cls := .none, data := .fields ps }
  | .met f x => h.get? a = some (PySem.W.methodObj (.ref f) (.ref x))
  | .ext φ => φ h ∧ (∃ o, h.get? a = some o) ∧ ∀ h1 h2 : Heap, φ h1 → (∀ o, h1.get? a = some o → h2.get? a = some o) → φ h2
/-- the abstract heap is held -/
def HOk (H : Hp) (h : Heap) : Prop := ∀ a o, H a = some o → ObjOk P w H h a o
end

section
variable {P : Program} {w : World} {H H' : Hp} {h h' : Heap} {a : Addr} {o : HO}
theorem ObjOk.lt (x : ObjOk P w H h a o) : a < h.objs.size := by
  cases o with
  | lst xs => obtain ⟨_, _, _, _, e⟩ := x; exact Heap.lt_size e
  | tup xs => obtain ⟨_, _, _, p⟩ := x; exact p.lt
  | dK kvs => obtain ⟨_, _, _, _, o, _, _, e, _⟩ := x; exact Heap.lt_size e
  | dT kvs => obtain ⟨_, _, _, _, o, _, _, e, _⟩ := x; exact Heap.lt_size e
  | set S n => obtain ⟨o, _, _, _, e, _⟩ := x; exact Heap.lt_size e
  | ins C dx fs => obtain ⟨_, _, _, e, _⟩ := x; exact Heap.lt_size e
  | own y => obtain ⟨_, e⟩ := x; exact Heap.lt_size e
  | xd fs => obtain ⟨_, ⟨_, _, _, e, _⟩, _⟩ := x; exact Heap.lt_size e
  | rng lo hi => obtain ⟨_, _, _, e⟩ := x; exact Heap.lt_size e
  | frz ob u => obtain ⟨e, _⟩ := x; exact Heap.lt_size e
  | tbl ps => exact Heap.lt_size (show h.get? a = some _ from x)
  | met f y => exact Heap.lt_size (show h.get? a = some _ from x)
  | ext φ => obtain ⟨_, ⟨_, e⟩, _⟩ := x; exact Heap.lt_size e
theorem Paired.mapP {α β : Type} {F G : α → β → Prop} : ∀ {l₁ : List α} {l₂ : List β}, Paired F l₁ l₂ → (∀ a b, F a b → G a b) → Paired G l₁ l₂
  | _, _, .nil, _ => .nil
  | _, _, .cons r t, f => .cons (f _ _ r) (Paired.mapP t f)
/-- what an object's description leans on: its own object, its own dict, the tuples -/
theorem ObjOk.stay (x : ObjOk P w H h a o) (k : ∀ b u, (b = a ∨ H b = some (.own a)) → h.get? b = some u → h'.get? b = some u)
    (ho : ∀ b, H b = some (.own a) → H' b = some (.own a)) (ht : ∀ b xs, H b = some (.tup xs) → H' b = some (.tup xs)) : ObjOk P w H' h' a o := by
  induction o with
  | lst xs => obtain ⟨z, its, n, r, e⟩ := x; exact ⟨z, its, n, r, k _ _ (.inl rfl) e⟩
  | tup xs => obtain ⟨z, its, r, ob, e, c⟩ := x; exact ⟨z, its, r, ob, k _ _ (.inl rfl) e, c⟩
  | dK kvs => obtain ⟨z, y, vs, r, ob, es, ep, e, c⟩ := x; exact ⟨z, y, vs, r, ob, es, ep, k _ _ (.inl rfl) e, c⟩
  | dT kvs =>
    obtain ⟨z, y, xs, r, ob, es, ep, e, c⟩ := x
    exact ⟨z, y, xs, Paired.mapP r fun p q z => ⟨z.1, ht _ _ z.2.1, z.2.2⟩, ob, es, ep, k _ _ (.inl rfl) e, c⟩
  | set S n => obtain ⟨ob, es, ep, t, e, c⟩ := x; exact ⟨ob, es, ep, t, k _ _ (.inl rfl) e, c⟩
  | ins C dx fs =>
    obtain ⟨d, z, ne, e, mA, ⟨od, es, ep, e2, c⟩, r⟩ := x
    exact ⟨ho _ d, z, ne, k _ _ (.inl rfl) e, mA, ⟨od, es, ep, k _ _ (.inr d) e2, c⟩, r⟩
  | own y => obtain ⟨ob, e⟩ := x; exact ⟨ob, k _ _ (.inl rfl) e⟩
  | xd fs => obtain ⟨mA, ⟨od, es, ep, e, c⟩, r⟩ := x; exact ⟨mA, ⟨od, es, ep, k _ _ (.inl rfl) e, c⟩, r⟩
  | rng lo hi => obtain ⟨t, u, v, e⟩ := x; exact ⟨t, u, v, k _ _ (.inl rfl) e⟩
  | frz ob u ih => obtain ⟨e, q⟩ := x; exact ⟨k _ _ (.inl rfl) e, ih q⟩
  | tbl ps =>
    have e : h.get? a = some { cls := .none, data := .fields ps } := x
    show h'.get? a = some { cls := .none, data := .fields ps }
    exact k a _ (.inl rfl) e
  | met f y =>
    have e : h.get? a = some (PySem.W.methodObj (.ref f) (.ref y)) := x
    show h'.get? a = some (PySem.W.methodObj (.ref f) (.ref y))
    exact k a _ (.inl rfl) e
  | ext φ => obtain ⟨p, ⟨o, e⟩, st⟩ := x; exact ⟨st _ _ p fun o q => k _ _ (.inl rfl) q, ⟨o, k _ _ (.inl rfl) e⟩, st⟩
theorem HOk.lt (x : HOk P w H h) (e : H a = some o) : a < h.objs.size := (x a o e).lt
theorem HOk.fresh (x : HOk P w H h) (e : h.objs.size ≤ a) : H a = none := by
  cases q : H a with
  | none => rfl
  | some u => exact absurd (Nat.lt_of_lt_of_le (x.lt q) e) (Nat.lt_irrefl _)
/-- every object of the heap is kept -/
theorem HOk.kept (x : HOk P w H h) (k : ∀ b u, h.get? b = some u → h'.get? b = some u) : HOk P w H h' := fun a o e =>
  (x a o e).stay (fun b u _ q => k b u q) (fun _ q => q) fun _ _ q => q
/-- a new object is laid and tracked -/
theorem HOk.laid (x : HOk P w H h) (k : ∀ b u, h.get? b = some u → h'.get? b = some u) (hp : h.objs.size ≤ a) (new : ObjOk P w (upd H a o) h' a o) : HOk P w (upd H a o) h' := fun b u e => by
  have hn := x.fresh hp
  by_cases hb : b = a
  · subst hb; rw [upd_same] at e; cases e; exact new
  · rw [upd_ne hb] at e
    exact (x b u e).stay (fun c v _ q => k c v q) (fun c q => by rw [upd_ne (ne_of_none q hn)]; exact q) fun c xs q => by rw [upd_ne (ne_of_none q hn)]; exact q
end

/-- what may be read as u: it is u, or a known u -/
def Rd (H : Hp) (a : Addr) (u : HO) : Prop := H a = some u ∨ ∃ o, H a = some (.frz o u)
theorem Rd.ok {P : Program} {w : World} {H : Hp} {h : Heap} {a : Addr} {u : HO} (r : Rd H a u) (x : HOk P w H h) : ObjOk P w H h a u := by
  rcases r with r | ⟨o, r⟩
  · exact x a u r
  · obtain ⟨_, q⟩ := x a _ r
    exact q
/-- what may be written -/
def Mut : Option HO → Prop
  | some (.lst _) => True
  | some (.dK _) => True
  | some (.dT _) => True
  | some (.set _ _) => True
  | some (.ins _ _ _) => True
  | some (.ext _) => True
  | _ => False
section
variable {P : Program} {w : World} {H : Hp} {h h' : Heap} {x e : Addr} {o' : HO}
/-- the object at e is changed: x itself, or the dict of the instance x -/
theorem HOk.write (ok : HOk P w H h) (mu : Mut (H x)) (he : e = x ∨ H e = some (.own x)) (k : ∀ b u, b ≠ e → h.get? b = some u → h'.get? b = some u) (heo : ∃ u, h'.get? e = some u)
    (new : ObjOk P w (upd H x o') h' x o') : HOk P w (upd H x o') h' := fun b u q => by
  have nown : ∀ c y, H c = some (.own y) → c ≠ x := fun c y r z => by subst z; rw [r] at mu; exact mu
  have ntup : ∀ c xs, H c = some (.tup xs) → c ≠ x := fun c xs r z => by subst z; rw [r] at mu; exact mu
  by_cases hb : b = x
  · subst hb; rw [upd_same] at q; cases q; exact new
  · rw [upd_ne hb] at q
    by_cases hbe : b = e
    · have q' : H b = some (.own x) := by
        rcases he with z | z
        · exact absurd (hbe.trans z) hb
        · rw [hbe]; exact z
      rw [q] at q'; cases q'
      obtain ⟨v, hv⟩ := heo
      exact ⟨v, by rw [hbe]; exact hv⟩
    · refine (ok b u q).stay (fun c v hc r => k c v ?_ r) (fun c r => by rw [upd_ne (nown c b r)]; exact r) fun c xs r => by rw [upd_ne (ntup c xs r)]; exact r
      rcases hc with rfl | hc
      · exact hbe
      · rintro rfl
        rcases he with z | z
        · exact nown c b hc z
        · rw [hc] at z; cases z; exact hb rfl
end

/-! ### kept unless tracked; of the frames at fs (the callers') the slots may change (an exception that passes writes there); of the records at ex (iterators) nothing is said -/
structure Un (fs ex : List Addr) (H H' : Hp) (h h' : Heap) : Prop where
  keep : ∀ b o, h.get? b = some o → H b = none → b ∉ fs → b ∉ ex → h'.get? b = some o
  slot : ∀ b o, h.get? b = some o → H b = none → b ∈ fs → b ∉ ex → ∃ sl, h'.get? b = some { o with slots := sl }
  free : ∀ b o, h.get? b = some o → H b = none → b ∉ ex → H' b = none
  there : ∀ b o, h.get? b = some o → b ∉ ex → ∃ o', h'.get? b = some o'
  tups : ∀ b xs, H b = some (.tup xs) → H' b = some (.tup xs)
  frzs : ∀ b o u, H b = some (.frz o u) → H' b = some (.frz o u)
  tbls : ∀ b ps, H b = some (.tbl ps) → ∃ more, H' b = some (.tbl (ps ++ more))
section
variable {fs fs' ex ex' : List Addr} {H H1 H2 : Hp} {h h1 h2 h' : Heap} {a x e : Addr} {o : HO}
theorem Un.any (u : Un fs ex H H1 h h1) {b : Addr} {ob : Obj} (q : h.get? b = some ob) (n : H b = none) (hx : b ∉ ex) : ∃ sl, h1.get? b = some { ob with slots := sl } := by
  by_cases hb : b ∈ fs
  · exact u.slot b ob q n hb hx
  · exact ⟨ob.slots, u.keep b ob q n hb hx⟩
theorem Un.trans (a : Un fs ex H H1 h h1) (b : Un fs ex H1 H2 h1 h2) : Un fs ex H H2 h h2 where
  keep := fun c ob q n hc hx => b.keep c ob (a.keep c ob q n hc hx) (a.free c ob q n hx) hc hx
  slot := fun c ob q n hc hx => by
    obtain ⟨sl, e1⟩ := a.slot c ob q n hc hx
    obtain ⟨sl', e2⟩ := b.slot c _ e1 (a.free c ob q n hx) hc hx
    exact ⟨sl', e2⟩
  free := fun c ob q n hx => by
    obtain ⟨o', e1⟩ := a.there c ob q hx
    exact b.free c o' e1 (a.free c ob q n hx) hx
  there := fun c ob q hx => by
    obtain ⟨o', e1⟩ := a.there c ob q hx
    exact b.there c o' e1 hx
  tups := fun c xs q => b.tups c xs (a.tups c xs q)
  frzs := fun c ob xs q => b.frzs c ob xs (a.frzs c ob xs q)
  tbls := fun c ps q => by
    obtain ⟨m1, e1⟩ := a.tbls c ps q
    obtain ⟨m2, e2⟩ := b.tbls c _ e1
    exact ⟨m1 ++ m2, by rw [e2, Array.append_assoc]⟩
theorem Un.kept (k : ∀ b u, h.get? b = some u → h'.get? b = some u) : Un fs ex H H h h' :=
  ⟨fun b ob q _ _ _ => k b ob q, fun b ob q _ _ _ => ⟨ob.slots, k b ob q⟩, fun _ _ _ n _ => n, fun b ob q _ => ⟨ob, k b ob q⟩, fun _ _ q => q, fun _ _ _ q => q, fun _ ps q => ⟨#[], by rw [q]; simp⟩⟩
theorem Un.refl : Un fs ex H H h h := Un.kept fun _ _ q => q
theorem Un.laid (k : ∀ b u, h.get? b = some u → h'.get? b = some u) (hp : h.objs.size ≤ a) (hn : H a = none) : Un fs ex H (upd H a o) h h' where
  keep := fun b u q _ _ _ => k b u q
  slot := fun b u q _ _ _ => ⟨u.slots, k b u q⟩
  free := fun b u q n _ => by rw [upd_ne (Nat.ne_of_lt (Nat.lt_of_lt_of_le (Heap.lt_size q) hp))]; exact n
  there := fun b u q _ => ⟨u, k b u q⟩
  tups := fun b xs q => by rw [upd_ne (ne_of_none q hn)]; exact q
  frzs := fun b u xs q => by rw [upd_ne (ne_of_none q hn)]; exact q
  tbls := fun b ps q => ⟨#[], by rw [upd_ne (ne_of_none q hn), q]; simp⟩
theorem Un.write (mu : Mut (H x)) (he : e = x ∨ H e = some (.own x)) (k : ∀ b u, b ≠ e → h.get? b = some u → h'.get? b = some u) (heo : ∃ u, h'.get? e = some u) : Un fs ex H (upd H x o) h h' := by
  have hx : ∀ b, H b = none → b ≠ x := fun b n z => by subst z; rw [n] at mu; exact mu
  have hb : ∀ b, H b = none → b ≠ e := fun b n z => by
    subst z
    rcases he with r | r
    · exact hx b n r
    · rw [n] at r; cases r
  have hm : ∀ b u, H b = some u → ¬ Mut (some u) → b ≠ x := fun b u q nm z => by subst z; rw [q] at mu; exact nm mu
  refine ⟨fun b u q n _ _ => k b u (hb b n) q, fun b u q n _ _ => ⟨u.slots, k b u (hb b n) q⟩, fun b u q n _ => by rw [upd_ne (hx b n)]; exact n, fun b u q _ => ?_,
    fun b xs q => by rw [upd_ne (hm b _ q fun z => z)]; exact q, fun b u xs q => by rw [upd_ne (hm b _ q fun z => z)]; exact q, fun b ps q => ⟨#[], by rw [upd_ne (hm b _ q fun z => z), q]; simp⟩⟩
  by_cases hbe : b = e
  · subst hbe; exact heo
  · exact ⟨u, k b u hbe q⟩
end

/-! ### the heap without what is tracked -/
def trk (h : Heap) (H : Hp) : List Addr := (List.range h.objs.size).filter fun a => (H a).isSome
def hidT (h : Heap) (H : Hp) : Heap := PySem.W.hideAll h (trk h H)
theorem hidT_size (h : Heap) (H : Hp) : (hidT h H).objs.size = h.objs.size := PySem.W.hideAll_size _ _
theorem hidT_get {h : Heap} {H : Hp} {b : Addr} {o : Obj} (e : h.get? b = some o) (n : H b = none) : (hidT h H).get? b = some o :=
  PySem.W.hideAll_get _ e fun hm => by
    have q : (H b).isSome = true := (List.mem_filter.mp hm).2
    rw [n] at q; simp at q
theorem of_hidT {h : Heap} {H : Hp} {b : Addr} {o : Obj} (e : (hidT h H).get? b = some o) : h.get? b = some o ∧ H b = none := by
  have e' : h.get? b = some o := PySem.W.of_hideAll (trk h H) e
  refine ⟨e', ?_⟩
  cases q : H b with
  | none => rfl
  | some x =>
    have hm : b ∈ trk h H := List.mem_filter.mpr ⟨List.mem_range.mpr (Heap.lt_size e'), by simp [q]⟩
    have z : (hidT h H).get? b = none := PySem.W.hideAll_none (trk h H) hm
    rw [z] at e; cases e

/-! ### OpenK's ledger, filled with every new object but one -/
end L2

namespace L2
open PySem PySem.Spec PyProof.Rows

/-- the module's facts, over the base: the heap at the law's entry without what is tracked there -/
structure Mod (K : PySem.W.Frag) (mg : Str → Option Value) (base : Heap) : Prop where
  kin : K.In base
  glob : base.Ns mainGlobals mg
  blt : ∃ mb, base.Ns builtinsNs mb ∧ ∀ x : Str, x ≠ "__name__" → mb x = bootBuiltins x
  nolimit : base.NoLimit

/-- the context: a def's body (or a comprehension's block) running. base: fixed through the whole law; s₀, H₀: the entry; outer: the frames whose slots others may change (a def's callers); stack: all frames that run;
   ex: iterators that were made ahead of the entry and are walked here (a comprehension's); fn: the names whose cells were made at the entry (a def: all; a comprehension's block: its own); calm: not within an except suite; pn: pins that every state bears; xe: what is wanted of an exception that leaves the code -/
structure Cx where
  prog : Program
  w : World
  K : PySem.W.Frag
  mg : Str → Option Value
  base : Heap
  A : Around
  N : List Str
  s₀ : Shared
  H₀ : Hp
  env : Env
  outer : List Env
  stack : List Env
  ex : List Addr
  fn : Str → Bool
  calm : Bool
  pn : List (Addr × Obj)
  xe : Value → Shared → Prop
/-- the callers' frames -/
def frs (l : List Env) : List Addr := l.filterMap (·.frame)
abbrev Cx.fs (X : Cx) : List Addr := frs X.outer

def Vis (sc : Scope) (x : Str) : Prop := sc.names.lookup x = some .local ∨ sc.names.lookup x = some .cell ∨ sc.names.lookup x = some .free
def Loc (sc : Scope) (x : Str) : Prop := sc.names.lookup x = some .local ∨ sc.names.lookup x = some .cell
def Look (env : Env) (h : Heap) (m : Str → Option Value) (x : Str) (u : Value) : Prop :=
  (env.kindOf x = some .local ∧ m x = some u) ∨ ((env.kindOf x = some .cell ∨ env.kindOf x = some .free) ∧ ∃ c, env.cells.lookup x = some c ∧ h.IsCell c (some u))

structure Cx.Ok (X : Cx) : Prop where
  mod : Mod X.K X.mg X.base
  kind : X.env.scope.kind = .function
  glob : X.env.globals = mainGlobals
  blt : X.env.builtins = builtinsNs
  above : X.s₀.heap.objs.size ≤ X.env.locals
  inj : ∀ x y c, X.env.cells.lookup x = some c → X.env.cells.lookup y = some c → x = y
  has : ∀ x, (X.env.kindOf x = some .cell ∨ X.env.kindOf x = some .free) → ∃ c, X.env.cells.lookup x = some c
  cab : ∀ x c, X.fn x = true → X.env.cells.lookup x = some c → X.s₀.heap.objs.size ≤ c
  hd : X.calm = true → X.A.handled = none
  frames : X.A.frames = some X.stack
  stk : X.stack = X.outer ∨ (X.stack = X.env :: X.outer ∧ X.env.frame = some X.env.locals)
  exf : ∀ b ∈ X.ex, b ≠ X.env.locals ∧ ∀ x c, X.env.cells.lookup x = some c → c ≠ b
  bs : ∀ b o, X.base.get? b = some o → X.s₀.heap.get? b = some o ∧ X.H₀ b = none
  bsz : X.base.objs.size ≤ X.s₀.heap.objs.size
  noex : ∀ b o, X.base.get? b = some o → b ∉ X.ex
  exfs : ∀ b ∈ X.ex, b ∉ X.fs
  funs : X.s₀.heap.FunFrames X.base X.outer
  frf : ∀ b ∈ X.fs, X.H₀ b = none

structure Inv (X : Cx) (pins : List (Addr × Obj)) (σ : List (Option V)) (H : Hp) (s : Shared) : Prop where
  ok : X.Ok
  os : s.os = X.s₀.os
  bare : AllBare s.gens
  base : Un X.fs X.ex X.H₀ H X.s₀.heap s.heap
  loc : ∃ m, s.heap.Ns X.env.locals m ∧ ∀ (i : Nat) (x : Str) (v : V), X.N[i]? = some x → σ[i]? = some (some v) → Vis X.env.scope x → ∃ u, RelV v u ∧ Look X.env s.heap m x u
  cell : ∀ x c, X.env.cells.lookup x = some c → ∃ v, s.heap.IsCell c v
  free : H X.env.locals = none
  freeC : ∀ x c, X.env.cells.lookup x = some c → H c = none
  pin : ∀ p ∈ X.pn ++ pins, s.heap.get? p.1 = some p.2 ∧ H p.1 = none ∧ p.1 ≠ X.env.locals ∧ p.1 ∉ X.fs ∧ ∀ v, p.2.data ≠ .cell v
  hok : HOk X.prog X.w H s.heap
  len : σ.length = X.N.length

section
variable {X : Cx} {pins : List (Addr × Obj)} {σ : List (Option V)} {H H' : Hp} {s : Shared} {h' : Heap}

theorem Cx.Ok.nofr (ok : X.Ok) {b : Addr} {o : Obj} (e : X.base.get? b = some o) : b ∉ X.fs := fun hb => by
  have := (ok.funs.mem hb).1
  rw [e] at this; cases this
theorem Inv.bs (I : Inv X pins σ H s) : ∀ b o, X.base.get? b = some o → s.heap.get? b = some o ∧ H b = none := fun b o e =>
  ⟨I.base.keep b o (I.ok.bs b o e).1 (I.ok.bs b o e).2 (I.ok.nofr e) (I.ok.noex b o e), I.base.free b o (I.ok.bs b o e).1 (I.ok.bs b o e).2 (I.ok.noex b o e)⟩
theorem Inv.bk (I : Inv X pins σ H s) : ∀ b o, X.base.get? b = some o → s.heap.get? b = some o := fun b o e => (I.bs b o e).1
theorem Inv.mod (I : Inv X pins σ H s) : Mod X.K X.mg X.base := I.ok.mod
theorem Inv.kIn (I : Inv X pins σ H s) : X.K.In s.heap := I.ok.mod.kin.keeps I.bk
theorem Inv.lt (I : Inv X pins σ H s) : X.env.locals < s.heap.objs.size := let ⟨_, hn, _⟩ := I.loc; hn.lt
theorem Inv.sz (I : Inv X pins σ H s) : X.s₀.heap.objs.size ≤ s.heap.objs.size := Nat.le_trans I.ok.above (Nat.le_of_lt I.lt)
theorem Inv.nofs (I : Inv X pins σ H s) {a : Addr} (h : s.heap.objs.size ≤ a) : a ∉ X.fs := fun hb => by
  obtain ⟨_, o, ho, _⟩ := I.ok.funs.mem hb
  exact absurd (Nat.lt_of_lt_of_le (Heap.lt_size ho) (Nat.le_trans I.sz h)) (Nat.lt_irrefl _)
theorem Inv.cne (I : Inv X pins σ H s) : ∀ x c, X.env.cells.lookup x = some c → c ≠ X.env.locals := fun x c e z => by
  obtain ⟨v, o, ho, hd⟩ := I.cell x c e
  obtain ⟨m, ⟨o', es, ep, ho', hd', _⟩, _⟩ := I.loc
  rw [z, ho'] at ho; cases ho; rw [hd'] at hd; cases hd
theorem Inv.funs (I : Inv X pins σ H s) : s.heap.FunFrames X.base X.outer := by
  have all : ∀ (l : List Env), (∀ b ∈ frs l, b ∈ X.fs) → X.s₀.heap.FunFrames X.base l → s.heap.FunFrames X.base l := by
    intro l
    induction l with
    | nil => intro _ _; trivial
    | cons env r ih =>
      intro hs hl
      obtain ⟨hk, ⟨L, o, hf, hn, ho, hd⟩, hr⟩ := hl
      have hL : L ∈ X.fs := hs L (by unfold frs; rw [List.filterMap_cons, hf]; exact List.mem_cons_self)
      obtain ⟨sl, e⟩ := I.base.slot L o ho (I.ok.frf L hL) hL fun z => I.ok.exfs L z hL
      exact ⟨hk, ⟨L, _, hf, hn, e, hd⟩, ih (fun b hb => hs b (by unfold frs; rw [List.filterMap_cons, hf]; exact List.mem_cons_of_mem _ hb)) hr⟩
  exact all X.outer (fun _ hb => hb) I.ok.funs

/-- the frames that run, for a call -/
theorem Inv.stack (I : Inv X pins σ H s) : s.heap.FunFrames X.base X.stack := by
  rcases I.ok.stk with e | ⟨e, hf⟩
  · rw [e]; exact I.funs
  · rw [e]
    obtain ⟨m, hn, _⟩ := I.loc
    refine .cons (by rw [I.ok.kind]; decide) hf hn ?_ I.funs
    exact Heap.get?_none_of_le (Nat.le_trans I.ok.bsz I.ok.above)
theorem Inv.stkSub (I : Inv X pins σ H s) : ∀ b ∈ frs X.stack, b ∈ X.env.locals :: X.fs := fun b hb => by
  rcases I.ok.stk with e | ⟨e, hf⟩
  · rw [e] at hb; exact List.mem_cons_of_mem _ hb
  · rw [e] at hb
    unfold frs at hb
    rw [List.filterMap_cons, hf] at hb
    exact hb
theorem Inv.stkFree (I : Inv X pins σ H s) : ∀ b ∈ frs X.stack, H b = none := fun b hb => by
  rcases List.mem_cons.mp (I.stkSub b hb) with e | hb
  · rw [e]; exact I.free
  · obtain ⟨_, o, ho, _⟩ := I.ok.funs.mem hb
    exact I.base.free b o ho (I.ok.frf b hb) fun z => I.ok.exfs b z hb

/-- THE STEP: the untracked objects but the frame and the records at ch are kept (the callers' frames up to slots), the frame's map is kept, the new abstract heap is held -/
theorem Inv.step {g' : Array GenState} {t' : Nat} {d' : Drawn} {ch : List Addr} (I : Inv X pins σ H s)
    (hch : ∀ b ∈ ch, (b ∈ X.ex ∨ X.s₀.heap.objs.size ≤ b) ∧ b ≠ X.env.locals ∧ (∀ x c, X.env.cells.lookup x = some c → c ≠ b) ∧ ∀ p ∈ X.pn ++ pins, p.1 ≠ b)
    (keep : ∀ b o, b ≠ X.env.locals → b ∉ X.fs → b ∉ ch → s.heap.get? b = some o → H b = none → h'.get? b = some o)
    (slot : ∀ b o, b ≠ X.env.locals → b ∈ X.fs → b ∉ ch → s.heap.get? b = some o → H b = none → ∃ sl, h'.get? b = some { o with slots := sl }) (free : ∀ b o, b ∉ ch → s.heap.get? b = some o → H b = none → H' b = none)
    (there : ∀ b o, b ∉ ch → s.heap.get? b = some o → ∃ o', h'.get? b = some o')
    (tups : ∀ b xs, H b = some (.tup xs) → H' b = some (.tup xs)) (frzs : ∀ b o u, H b = some (.frz o u) → H' b = some (.frz o u)) (tbls : ∀ b ps, H b = some (.tbl ps) → ∃ more, H' b = some (.tbl (ps ++ more)))
    (ns : ∀ m, s.heap.Ns X.env.locals m → h'.Ns X.env.locals m) (hok : HOk X.prog X.w H' h') (hg : AllBare g') :
    Inv X pins σ H' { s with heap := h', gens := g', drawn := d', toks := t' } := by
  have neL : ∀ b o, X.s₀.heap.get? b = some o → b ≠ X.env.locals := fun b o e => Nat.ne_of_lt (Nat.lt_of_lt_of_le (Heap.lt_size e) I.ok.above)
  have neC : ∀ b o, X.s₀.heap.get? b = some o → b ∉ X.ex → b ∉ ch := fun b o e hx hb => by
    rcases (hch b hb).1 with z | z
    · exact hx z
    · exact absurd (Nat.lt_of_lt_of_le (Heap.lt_size e) z) (Nat.lt_irrefl _)
  have cellK : ∀ x c, X.env.cells.lookup x = some c → ∀ v, s.heap.IsCell c v → h'.IsCell c v := fun x c e v ⟨o, ho, hd⟩ => by
    have nch : c ∉ ch := fun z => (hch c z).2.2.1 x c e rfl
    by_cases hc : c ∈ X.fs
    · obtain ⟨sl, q⟩ := slot c o (I.cne x c e) hc nch ho (I.freeC x c e)
      exact ⟨_, q, hd⟩
    · exact ⟨o, keep c o (I.cne x c e) hc nch ho (I.freeC x c e), hd⟩
  refine ⟨I.ok, I.os, hg, ⟨fun b o e n hb hx => ?_, fun b o e n hb hx => ?_, fun b o e n hx => ?_, fun b o e hx => ?_, fun b xs e => tups b xs (I.base.tups b xs e), fun b o xs e => frzs b o xs (I.base.frzs b o xs e), fun b ps e => ?_⟩, ?_, fun x c e => ?_, ?_, fun x c e => ?_, fun p hp => ?_, hok, I.len⟩
  · exact keep b o (neL b o e) hb (neC b o e hx) (I.base.keep b o e n hb hx) (I.base.free b o e n hx)
  · obtain ⟨sl, e1⟩ := I.base.slot b o e n hb hx
    obtain ⟨sl', e2⟩ := slot b _ (neL b o e) hb (neC b o e hx) e1 (I.base.free b o e n hx)
    exact ⟨sl', e2⟩
  · obtain ⟨o', e1⟩ := I.base.there b o e hx
    exact free b o' (neC b o e hx) e1 (I.base.free b o e n hx)
  · obtain ⟨o', e1⟩ := I.base.there b o e hx
    exact there b o' (neC b o e hx) e1
  · obtain ⟨m1, e1⟩ := I.base.tbls b ps e
    obtain ⟨m2, e2⟩ := tbls b _ e1
    exact ⟨m1 ++ m2, by rw [e2, Array.append_assoc]⟩
  · obtain ⟨m, hn, hl⟩ := I.loc
    refine ⟨m, ns m hn, fun i x v e1 e2 e3 => ?_⟩
    obtain ⟨u, r, l⟩ := hl i x v e1 e2 e3
    refine ⟨u, r, ?_⟩
    rcases l with l | ⟨k, c, e, z⟩
    · exact .inl l
    · exact .inr ⟨k, c, e, cellK x c e _ z⟩
  · obtain ⟨v, z⟩ := I.cell x c e
    exact ⟨v, cellK x c e v z⟩
  · obtain ⟨m, ⟨o, _, _, ho, _⟩, _⟩ := I.loc
    exact free _ o (fun z => (hch _ z).2.1 rfl) ho I.free
  · obtain ⟨v, o, ho, hd⟩ := I.cell x c e
    exact free c o (fun z => (hch c z).2.2.1 x c e rfl) ho (I.freeC x c e)
  · obtain ⟨e, n, ne, nf, d⟩ := I.pin p hp
    have nch : p.1 ∉ ch := fun z => (hch p.1 z).2.2.2 p hp rfl
    exact ⟨keep p.1 p.2 ne nf nch e n, free p.1 p.2 nch e n, ne, nf, d⟩
/-- .. where the frame's own object is kept too -/
theorem Inv.un {t' : Nat} (I : Inv X pins σ H s) (u : Un X.fs [] H H' s.heap h') (hok : HOk X.prog X.w H' h') : Inv X pins σ H' { s with heap := h', toks := t' } := by
  obtain ⟨m, ⟨o, es, ep, ho, r⟩, _⟩ := id I.loc
  obtain ⟨sl, hL⟩ := u.any ho I.free (by simp)
  exact I.step (g' := s.gens) (d' := s.drawn) (ch := []) (fun _ z => nomatch z) (fun b o _ hb _ e n => u.keep b o e n hb (by simp)) (fun b o _ hb _ e n => u.slot b o e n hb (by simp)) (fun b o _ e n => u.free b o e n (by simp)) (fun b o _ e => u.there b o e (by simp)) u.tups u.frzs u.tbls (fun m' hm => by
    obtain ⟨o', es', ep', ho', r'⟩ := hm
    rw [ho] at ho'; cases ho'
    exact ⟨_, es', ep', hL, r'⟩) hok I.bare
/-- behind a call (or a comprehension's block): the slots of this frame may have changed too, the records at ch may have turned -/
theorem Inv.call {g' : Array GenState} {t' : Nat} {d' : Drawn} {ch : List Addr} (I : Inv X pins σ H s) (u : Un (frs X.stack) ch H H' s.heap h') (hok : HOk X.prog X.w H' h') (hg : AllBare g')
    (hch : ∀ b ∈ ch, (b ∈ X.ex ∨ X.s₀.heap.objs.size ≤ b) ∧ b ≠ X.env.locals ∧ (∀ x c, X.env.cells.lookup x = some c → c ≠ b) ∧ ∀ p ∈ X.pn ++ pins, p.1 ≠ b) :
    Inv X pins σ H' { s with heap := h', gens := g', drawn := d', toks := t' } := by
  obtain ⟨m, ⟨o, es, ep, ho, r⟩, _⟩ := id I.loc
  obtain ⟨sl, hL⟩ := u.any ho I.free fun z => (hch _ z).2.1 rfl
  exact I.step (ch := ch) hch (fun b o hL hb hc e n => u.keep b o e n (fun z => (List.mem_cons.mp (I.stkSub b z)).elim hL hb) hc) (fun b o _ _ hc e n => u.any e n hc) (fun b o hc e n => u.free b o e n hc) (fun b o hc e => u.there b o e hc) u.tups u.frzs u.tbls (fun m' hm => by
    obtain ⟨o', es', ep', ho', r'⟩ := hm
    rw [ho] at ho'; cases ho'
    exact ⟨_, es', ep', hL, r'⟩) hok hg
/-- an untracked record of ours (an iterator) has turned -/
theorem Inv.turned {t' : Nat} {it : Addr} (I : Inv X pins σ H s) (k : ∀ b o, b ≠ it → s.heap.get? b = some o → h'.get? b = some o) (hn : H it = none) (hL : it ≠ X.env.locals)
    (h1 : it ∈ X.ex ∨ X.s₀.heap.objs.size ≤ it) (h2 : ∀ x c, X.env.cells.lookup x = some c → c ≠ it) (h3 : ∀ p ∈ X.pn ++ pins, p.1 ≠ it) : Inv X pins σ H { s with heap := h', toks := t' } := by
  have nit : ∀ b u, H b = some u → b ≠ it := fun b u e z => by rw [z, hn] at e; cases e
  refine I.step (g' := s.gens) (d' := s.drawn) (ch := [it]) (fun b hb => ?_) (fun b o _ _ hc e _ => k b o (fun z => hc (by simp [z])) e) (fun b o _ _ hc e _ => ⟨o.slots, k b o (fun z => hc (by simp [z])) e⟩) (fun _ _ _ _ n => n)
    (fun b o hc e => ⟨o, k b o (fun z => hc (by simp [z])) e⟩) (fun _ _ e => e) (fun _ _ _ e => e) (fun b ps e => ⟨#[], by rw [e]; simp⟩) (fun m hm => ?_) (fun b u e => ?_) I.bare
  · have e : b = it := by simpa using hb
    subst e
    exact ⟨h1, hL, h2, h3⟩
  · obtain ⟨o, es, ep, ho, r⟩ := hm
    exact ⟨o, es, ep, k _ o (Ne.symm hL) ho, r⟩
  · refine (I.hok b u e).stay (fun c v hc q => k c v ?_ q) (fun _ q => q) fun _ _ q => q
    rcases hc with z | z
    · rw [z]; exact nit b u e
    · exact nit c _ z
theorem Inv.tok (I : Inv X pins σ H s) (t : Nat) : Inv X pins σ H { s with toks := t } := I.un (h' := s.heap) (t' := t) Un.refl I.hok
/-- all objects kept -/
theorem Inv.kept {t' : Nat} (I : Inv X pins σ H s) (k : ∀ b u, s.heap.get? b = some u → h'.get? b = some u) : Inv X pins σ H { s with heap := h', toks := t' } := I.un (Un.kept k) (I.hok.kept k)
/-- a new object laid and tracked -/
theorem Inv.laid {a : Addr} {o : HO} {t' : Nat} (I : Inv X pins σ H s) (k : ∀ b u, s.heap.get? b = some u → h'.get? b = some u) (hp : s.heap.objs.size ≤ a) (new : ObjOk X.prog X.w (upd H a o) h' a o) :
    Inv X pins σ (upd H a o) { s with heap := h', toks := t' } := I.un (Un.laid k hp (I.hok.fresh hp)) (I.hok.laid k hp new)
/-- an object written -/
theorem Inv.write {x e : Addr} {o : HO} {t' : Nat} (I : Inv X pins σ H s) (mu : Mut (H x)) (he : e = x ∨ H e = some (.own x)) (k : ∀ b u, b ≠ e → s.heap.get? b = some u → h'.get? b = some u) (heo : ∃ u, h'.get? e = some u)
    (new : ObjOk X.prog X.w (upd H x o) h' x o) : Inv X pins σ (upd H x o) { s with heap := h', toks := t' } := I.un (Un.write mu he k heo) (I.hok.write mu he k heo new)
theorem Inv.pins_of {pins' : List (Addr × Obj)} (I : Inv X pins σ H s) (h : ∀ p ∈ pins', s.heap.get? p.1 = some p.2 ∧ H p.1 = none ∧ p.1 ≠ X.env.locals ∧ p.1 ∉ X.fs ∧ ∀ v, p.2.data ≠ .cell v) : Inv X pins' σ H s :=
  ⟨I.ok, I.os, I.bare, I.base, I.loc, I.cell, I.free, I.freeC, fun p hp => (List.mem_append.mp hp).elim (fun z => I.pin p (List.mem_append_left _ z)) (h p), I.hok, I.len⟩

theorem nodup_ix {N : List Str} (hN : N.Nodup) {i j : Nat} {x : Str} (a : N[i]? = some x) (b : N[j]? = some x) : i = j := by
  obtain ⟨h1, e1⟩ := List.getElem?_eq_some_iff.mp a
  obtain ⟨h2, e2⟩ := List.getElem?_eq_some_iff.mp b
  exact (List.getElem_inj hN).mp (e1.trans e2.symm)

/-- a name is stored; what changed -/
theorem store_ok2 {M : Model} {A : Around} {E : Value → Shared → Prop} {i : Nat} {x : Str} {v : V} {u : Value} {Q : Unit → Shared → Prop} (I : Inv X pins σ H s) (hN : X.N.Nodup) (hi : X.N[i]? = some x) (hx : Loc X.env.scope x) (r : RelV v u)
    (h : ∀ s', Inv X pins (σ.set i (some v)) H s' → (∃ a, Heap.SameBut a s.heap s'.heap ∧ (a = X.env.locals ∨ X.env.cells.lookup x = some a)) → Q () s') (hf : X.fn x = true ∨ X.env.scope.names.lookup x = some .local := by first | exact .inl rfl | exact .inr rfl | assumption) : wpAny M A (storeName X.env x u) Q E s := by
  obtain ⟨m, hn, hl⟩ := id I.loc
  have hcls : (X.env.scope.kind == .class || (X.env.scope.kind == .module && X.env.locals != X.env.globals)) = false := by rw [I.ok.kind]; rfl
  have hiσ : i < σ.length := by rw [I.len]; exact (List.getElem?_eq_some_iff.mp hi).1
  have cne := I.cne
  have tracked : ∀ {a : Addr} {h' : Heap}, (∃ o, s.heap.get? a = some o ∧ H a = none) → Heap.SameBut a s.heap h' → HOk X.prog X.w H h' := fun {a h'} ha hs b ob e => by
    obtain ⟨_, _, hfree⟩ := ha
    refine (I.hok b ob e).stay (fun c w' hc q => (hs.2 c ?_).trans q) (fun _ q => q) fun _ _ q => q
    rintro rfl
    rcases hc with rfl | hc
    · rw [hfree] at e; cases e
    · rw [hfree] at hc; cases hc
  rcases hx with hk | hk
  · refine wpAny_storeName_local hk hn (fun h' hn' hs => ?_) hcls
    obtain ⟨oL, _, _, hoL, _⟩ := id hn
    refine h _ ⟨I.ok, I.os, I.bare, ⟨fun b o e n hb hx => ?_, fun b o e n hb hx => ?_, I.base.free, fun b o e hx => ?_, I.base.tups, I.base.frzs, I.base.tbls⟩, ⟨_, hn', fun j y v' e1 e2 e3 => ?_⟩, fun y c e => ?_, I.free, I.freeC, fun p hp => ?_, tracked ⟨oL, hoL, I.free⟩ hs, by simpa using I.len⟩ ⟨_, hs, .inl rfl⟩
    · exact (hs.2 b (Nat.ne_of_lt (Nat.lt_of_lt_of_le (Heap.lt_size e) I.ok.above))).trans (I.base.keep b o e n hb hx)
    · obtain ⟨sl, e1⟩ := I.base.slot b o e n hb hx
      exact ⟨sl, (hs.2 b (Nat.ne_of_lt (Nat.lt_of_lt_of_le (Heap.lt_size e) I.ok.above))).trans e1⟩
    · obtain ⟨o', e1⟩ := I.base.there b o e hx
      exact ⟨o', (hs.2 b (Nat.ne_of_lt (Nat.lt_of_lt_of_le (Heap.lt_size e) I.ok.above))).trans e1⟩
    · by_cases hj : j = i
      · subst hj
        rw [hi] at e1; cases e1
        rw [List.getElem?_set_self hiσ] at e2
        cases e2
        exact ⟨u, r, .inl ⟨hk, by simp⟩⟩
      · rw [List.getElem?_set_ne (Ne.symm hj)] at e2
        obtain ⟨u', r', q⟩ := hl j y v' e1 e2 e3
        refine ⟨u', r', ?_⟩
        rcases q with ⟨k, e⟩ | ⟨k, c, e, z⟩
        · refine .inl ⟨k, ?_⟩
          have : y ≠ x := fun e => hj (nodup_ix hN e1 (e ▸ hi))
          simp [this, e]
        · exact .inr ⟨k, c, e, z.sameBut hs (cne y c e)⟩
    · obtain ⟨w', z⟩ := I.cell y c e
      exact ⟨w', z.sameBut hs (cne y c e)⟩
    · obtain ⟨e, n, ne, nf, d⟩ := I.pin p hp
      exact ⟨(hs.2 p.1 ne).trans e, n, ne, nf, d⟩
  · have hfn : X.fn x = true := by
      rcases hf with z | z
      · exact z
      · rw [z] at hk; cases hk
    obtain ⟨c, hc⟩ := I.ok.has x (.inl hk)
    obtain ⟨w', z⟩ := I.cell x c hc
    refine wpAny_storeName_cell I.ok.kind hk hc z (fun h' hc' hs => ?_)
    obtain ⟨oc, hoc, hocd⟩ := id z
    refine h { s with heap := h' } ⟨I.ok, I.os, I.bare, ⟨fun b o e n hb hx => ?_, fun b o e n hb hx => ?_, I.base.free, fun b o e hx => ?_, I.base.tups, I.base.frzs, I.base.tbls⟩, ⟨m, hn.sameBut hs (Ne.symm (cne x c hc)), fun j y v' e1 e2 e3 => ?_⟩, fun y c' e => ?_, I.free, I.freeC, fun p hp => ?_, tracked ⟨oc, hoc, I.freeC x c hc⟩ hs, by simpa using I.len⟩ ⟨c, hs, .inr hc⟩
    · exact (hs.2 b (Nat.ne_of_lt (Nat.lt_of_lt_of_le (Heap.lt_size e) (I.ok.cab x c hfn hc)))).trans (I.base.keep b o e n hb hx)
    · obtain ⟨sl, e1⟩ := I.base.slot b o e n hb hx
      exact ⟨sl, (hs.2 b (Nat.ne_of_lt (Nat.lt_of_lt_of_le (Heap.lt_size e) (I.ok.cab x c hfn hc)))).trans e1⟩
    · obtain ⟨o', e1⟩ := I.base.there b o e hx
      exact ⟨o', (hs.2 b (Nat.ne_of_lt (Nat.lt_of_lt_of_le (Heap.lt_size e) (I.ok.cab x c hfn hc)))).trans e1⟩
    · by_cases hj : j = i
      · subst hj
        rw [hi] at e1; cases e1
        rw [List.getElem?_set_self hiσ] at e2
        cases e2
        exact ⟨u, r, .inr ⟨.inl hk, c, hc, hc'⟩⟩
      · rw [List.getElem?_set_ne (Ne.symm hj)] at e2
        obtain ⟨u', r', q⟩ := hl j y v' e1 e2 e3
        refine ⟨u', r', ?_⟩
        rcases q with q | ⟨k, c', e, z'⟩
        · exact .inl q
        · refine .inr ⟨k, c', e, z'.sameBut hs ?_⟩
          rintro rfl
          exact hj (nodup_ix hN e1 (I.ok.inj _ _ _ e hc ▸ hi))
    · by_cases hcc : c' = c
      · subst hcc; exact ⟨_, hc'⟩
      · obtain ⟨w2, z2⟩ := I.cell y c' e
        exact ⟨w2, z2.sameBut hs hcc⟩
    · obtain ⟨e, n, ne, nf, d⟩ := I.pin p hp
      refine ⟨(hs.2 p.1 ?_).trans e, n, ne, nf, d⟩
      intro q
      rw [q, hoc] at e
      have q' : oc = p.2 := Option.some.inj e
      exact d w' (by rw [← q']; exact hocd)
theorem store_ok {M : Model} {A : Around} {E : Value → Shared → Prop} {i : Nat} {x : Str} {v : V} {u : Value} {Q : Unit → Shared → Prop} (I : Inv X pins σ H s) (hN : X.N.Nodup) (hi : X.N[i]? = some x) (hx : Loc X.env.scope x) (r : RelV v u)
    (h : ∀ s', Inv X pins (σ.set i (some v)) H s' → Q () s') (hf : X.fn x = true ∨ X.env.scope.names.lookup x = some .local := by first | exact .inl rfl | exact .inr rfl | assumption) : wpAny M A (storeName X.env x u) Q E s :=
  store_ok2 I hN hi hx r (fun s' I' _ => h s' I') hf
/-- behind a call or a block, the state as it is -/
theorem Inv.call' {s' : Shared} {ch : List Addr} (I : Inv X pins σ H s) (ho : s'.os = s.os) (u : Un (frs X.stack) ch H H' s.heap s'.heap) (hok : HOk X.prog X.w H' s'.heap) (hg : AllBare s'.gens)
    (hch : ∀ b ∈ ch, (b ∈ X.ex ∨ X.s₀.heap.objs.size ≤ b) ∧ b ≠ X.env.locals ∧ (∀ x c, X.env.cells.lookup x = some c → c ≠ b) ∧ ∀ p ∈ X.pn ++ pins, p.1 ≠ b) : Inv X pins σ H' s' := by
  obtain ⟨h', g', d', t', o'⟩ := s'
  have e : o' = s.os := ho
  subst e
  exact I.call (g' := g') (t' := t') (d' := d') u hok hg hch
end

/-! ### the judgements -/
/-- an exception: its class, its own dict's address (where it has one), the abstract heap behind it -/
abbrev XK := Value → Option Addr → Hp → Prop
abbrev St := List (Option V)
abbrev VK := V → Hp → Prop
/-- an expression's reading; a test's; an argument list's -/
abbrev TE := St → Hp → VK → Prop
abbrev TT := St → Hp → (Bool → Hp → Prop) → Prop
abbrev TA := St → Hp → (List V → Hp → Prop) → Prop
/-- what is wanted behind a statement -/
structure Ends where
  nx : St → Hp → Prop
  rt : VK
  bk : St → Hp → Prop := fun _ _ => False
  ct : St → Hp → Prop := fun _ _ => False
abbrev TS := Ends → St → Hp → Prop

def EP (X : Cx) (pins : List (Addr × Obj)) (σ : St) (Q : VK) (u : Value) (s' : Shared) : Prop := ∃ v H', Inv X pins σ H' s' ∧ RelV v u ∧ Q v H'
def TP (X : Cx) (pins : List (Addr × Obj)) (σ : St) (Q : Bool → Hp → Prop) (b : Bool) (s' : Shared) : Prop := ∃ H', Inv X pins σ H' s' ∧ Q b H'
def AP (X : Cx) (pins : List (Addr × Obj)) (σ : St) (Q : List V → Hp → Prop) (us : List Value) (s' : Shared) : Prop := ∃ vs H', Inv X pins σ H' s' ∧ Vals vs us ∧ Q vs H'
def SP (X : Cx) (pins : List (Addr × Obj)) (D : Ends) (f : Flow) (s' : Shared) : Prop :=
  match f with
  | .next => ∃ σ' H', Inv X pins σ' H' s' ∧ D.nx σ' H'
  | .brk => ∃ σ' H', Inv X pins σ' H' s' ∧ D.bk σ' H'
  | .cont => ∃ σ' H', Inv X pins σ' H' s' ∧ D.ct σ' H'
  | .ret u => ∃ v σ' H', Inv X pins σ' H' s' ∧ RelV v u ∧ D.rt v H'

def PE (X : Cx) (e : Expr) (t : TE) : Prop :=
  ∀ (pins : List (Addr × Obj)) (s : Shared) (σ : St) (H : Hp) (Q : VK), Inv X pins σ H s → t σ H Q → wpAny (model X.prog X.w) X.A (eval e X.env) (EP X pins σ Q) X.xe s
def PT (X : Cx) (e : Expr) (t : TT) : Prop :=
  ∀ (pins : List (Addr × Obj)) (s : Shared) (σ : St) (H : Hp) (Q : Bool → Hp → Prop), Inv X pins σ H s → t σ H Q → wpAny (model X.prog X.w) X.A (isTrue e X.env (eval e X.env)) (TP X pins σ Q) X.xe s
/-- a test whatever its 'whole' is (and, or) -/
def PW (X : Cx) (e : Expr) (t : TT) : Prop :=
  ∀ (whole : Sem Value) (pins : List (Addr × Obj)) (s : Shared) (σ : St) (H : Hp) (Q : Bool → Hp → Prop), Inv X pins σ H s → t σ H Q → wpAny (model X.prog X.w) X.A (isTrue e X.env whole) (TP X pins σ Q) X.xe s
theorem PW.pt {X : Cx} {e : Expr} {t : TT} (h : PW X e t) : PT X e t := h _
/-- an argument list (no star), from the left -/
def PA (X : Cx) (es : List Expr) (t : TA) : Prop :=
  ∀ (pos : Pos) (pins : List (Addr × Obj)) (s : Shared) (σ : St) (H : Hp) (Q : List V → Hp → Prop), Inv X pins σ H s → t σ H Q → wpAny (model X.prog X.w) X.A (spliced (backTo pos (starEach es X.env))) (AP X pins σ Q) X.xe s
def PS (X : Cx) (st : Stmt) (t : TS) : Prop :=
  ∀ (pins : List (Addr × Obj)) (s : Shared) (σ : St) (H : Hp) (D : Ends), Inv X pins σ H s → t D σ H → wpAny (model X.prog X.w) X.A (exec st X.env) (SP X pins D) X.xe s
def PSs (X : Cx) (st : List Stmt) (t : TS) : Prop :=
  ∀ (pins : List (Addr × Obj)) (s : Shared) (σ : St) (H : Hp) (D : Ends), Inv X pins σ H s → t D σ H → wpAny (model X.prog X.w) X.A (execs st X.env) (SP X pins D) X.xe s
/-- weaken the end -/
theorem thn {α : Type} {t : Sem α} {Q Q' : α → Shared → Prop} {M : Model} {A : Around} {E : Value → Shared → Prop} {s : Shared} (h : wpAny M A t Q E s) (hQ : ∀ a s, Q a s → Q' a s) : wpAny M A t Q' E s := wpAny_mono h hQ fun _ _ x => x
end L2

namespace L2
open PySem PySem.Spec PyProof.Rows
section
variable {X : Cx}

/-! ### names and constants -/
def tVar (i : Nat) : TE := fun σ H Q => ∃ v, σ[i]? = some (some v) ∧ Q v H
def tC (v : V) : TE := fun _ H Q => Q v H
theorem pe_var {i : Nat} {x : Str} {pos : Pos} (hN : X.N[i]? = some x) (hv : Vis X.env.scope x) (hd : (x == ("__debug__" : Str)) = false := by decide) (hcd : (x == ("__classdict__" : Str)) = false := by decide) : PE X (.Name x pos) (tVar i) := by
  intro pins s σ H Q I h
  obtain ⟨v, e, h⟩ := h
  obtain ⟨m, hn, hl⟩ := I.loc
  obtain ⟨u, r, l⟩ := hl i x v hN e hv
  have fin : EP X pins σ Q u s := ⟨v, H, I, r, h⟩
  rcases l with ⟨hk, hm⟩ | ⟨hk, c, hc, hcell⟩
  · exact wpAny_Name (wpAny_loadName_local I.ok.kind hk hn hm fin) hd
  · rcases hk with hk | hk
    · exact wpAny_Name (wpAny_loadName_cell I.ok.kind hk hc hcell fin) hd
    · exact wpAny_Name (wpAny_loadName_free I.ok.kind hk hc hcell fin hcd) hd
theorem pe_int {i j pos} : PE X (.Constant (.int i) j pos) (tC (.int i)) := fun _ _ _ H _ I h => wpAny_Constant_int ⟨.int i, H, I.tok _, ⟨_, rfl⟩, h⟩
theorem pe_bl {b j pos} : PE X (.Constant (.bool b) j pos) (tC (.bl b)) := fun _ _ _ H _ I h => Constant_bool ⟨.bl b, H, I, rfl, h⟩
theorem pe_non {j pos} : PE X (.Constant .none j pos) (tC .non) := fun _ _ _ H _ I h => Constant_none ⟨.non, H, I, rfl, h⟩
theorem pe_str {x j pos} : PE X (.Constant (.str x) j pos) (tC (.str x)) := fun _ _ _ H _ I h => Calls.Constant_str ⟨.str x, H, I.tok _, ⟨_, rfl⟩, h⟩

/-- a global name of the def -/
def Gl (X : Cx) (x : Str) : Prop := X.env.kindOf x = some .globalImplicit
theorem ld_glob {E : Value → Shared → Prop} {pins : List (Addr × Obj)} {s : Shared} {σ : St} {H : Hp} {x : Str} {u : Value} {pos : Pos} {Q : Value → Shared → Prop} (I : Inv X pins σ H s) (hg : Gl X x) (hm : X.mg x = some u) (h : Q u s)
    (hd : (x == ("__debug__" : Str)) = false := by decide) : wpAny (model X.prog X.w) X.A (eval (.Name x pos) X.env) Q E s :=
  Calls.Name_function_global I.ok.kind hg (Calls.loadGlobal_global (by rw [I.ok.glob]; exact I.mod.glob.keeps I.bk) hm h) hd
theorem ld_blt {E : Value → Shared → Prop} {pins : List (Addr × Obj)} {s : Shared} {σ : St} {H : Hp} {x : Str} {u : Value} {pos : Pos} {Q : Value → Shared → Prop} (I : Inv X pins σ H s) (hg : Gl X x) (hm : X.mg x = none) (hv : bootBuiltins x = some u) (h : Q u s)
    (hn : x ≠ "__name__" := by decide) (hd : (x == ("__debug__" : Str)) = false := by decide) : wpAny (model X.prog X.w) X.A (eval (.Name x pos) X.env) Q E s := by
  obtain ⟨mb, h1, h2⟩ := I.mod.blt
  exact Calls.Name_function_global I.ok.kind hg (Calls.loadGlobal_builtin (by rw [I.ok.glob]; exact I.mod.glob.keeps I.bk) hm (by rw [I.ok.blt]; exact h1.keeps I.bk) ((h2 x hn).trans hv) h) hd
/-- a module's constant, a class, a function, as a value -/
theorem pe_glob {x : Str} {v : V} {u : Value} {pos : Pos} (hg : Gl X x) (hm : X.mg x = some u) (r : RelV v u) (hd : (x == ("__debug__" : Str)) = false := by decide) : PE X (.Name x pos) (tC v) :=
  fun _ _ _ H _ I h => ld_glob I hg hm ⟨v, H, I, r, h⟩ hd
theorem pe_bltn {x : Str} {v : V} {u : Value} {pos : Pos} (hg : Gl X x) (hm : X.mg x = none) (hv : bootBuiltins x = some u) (r : RelV v u) (hn : x ≠ "__name__" := by decide) (hd : (x == ("__debug__" : Str)) = false := by decide) : PE X (.Name x pos) (tC v) :=
  fun _ _ _ H _ I h => ld_blt I hg hm hv ⟨v, H, I, r, h⟩ hn hd

/-! ### arithmetic -/
variable {a b : Expr} {ta tb : TE} {pos : Pos}
/-! ### comparisons -/
def PC (X : Cx) (op : CmpOp) (a b : Expr) (t : TE) : Prop :=
  ∀ (pins : List (Addr × Obj)) (s : Shared) (σ : St) (H : Hp) (Q : VK), Inv X pins σ H s → t σ H Q →
    wpAny (model X.prog X.w) X.A (eval a X.env) (fun v s₁ => wpAny (model X.prog X.w) X.A (eval b X.env) (fun u s₂ => wpAny (model X.prog X.w) X.A (compareOp op v u) (EP X pins σ Q) X.xe s₂) X.xe s₁) X.xe s
/-- a comparison as a value, as a test -/
def tB (t : TE) : TT := fun σ H Q => t σ H fun x H1 => ∃ c, x = .bl c ∧ Q c H1
theorem pt_cmp {op : CmpOp} {t : TE} (h : PC X op a b t) (h1 : behindInMarks op b = false := by first | exact nobehind _ (by decide) (by decide) | rfl) : PT X (.Compare a [op] [b] pos) (tB t) := by
  intro pins s σ H Q I hw
  refine wpAny_isTrue_Compare1 (thn (h pins s σ H _ I hw) fun v s1 h1 => thn h1 fun u s2 h2 => thn h2 fun c s3 ⟨x, H1, I1, r1, q1⟩ => ?_) h1
  obtain ⟨d, rfl, q⟩ := q1
  cases r1
  exact wpAny_truthy_bool ⟨H1, I1, q⟩
/-- an expression whose value is a bool, as a test -/
theorem pt_val {e : Expr} {t : TE} (h : PE X e t) (he : ∀ whole, isTrue e X.env whole = (do let v ← whole; standAt e.pos; holding [v] (truthy v)) := by intro _; rfl) : PT X e (tB t) := by
  intro pins s σ H Q I hw
  refine isTrue_plain (thn (h pins s σ H _ I hw) fun v s1 ⟨x, H1, I1, r1, q1⟩ => ?_) (he _)
  obtain ⟨d, rfl, q⟩ := q1
  cases r1
  exact wpAny_truthy_bool ⟨H1, I1, q⟩

/-! ### and, or, not -/
variable {tA tB' : TT} {rest : List Expr}
def tAnd (t u : TT) : TT := fun σ H Q => t σ H fun c H1 => if c = true then u σ H1 Q else Q false H1
def tOr (t u : TT) : TT := fun σ H Q => t σ H fun c H1 => if c = true then Q true H1 else u σ H1 Q
def tNot (t : TT) : TT := fun σ H Q => t σ H fun c H1 => Q (!c) H1
theorem pw_and1 (ha : PT X a tA) : PW X (.BoolOp .And [a] pos) tA := by
  intro wh pins s σ H Q I h
  refine isTrue_and (thn (ha pins s σ H Q I h) fun c s1 e => ?_)
  cases c with
  | true => exact isTrue_and_nil e
  | false => exact e
theorem pw_or1 (ha : PT X a tA) : PW X (.BoolOp .Or [a] pos) tA := by
  intro wh pins s σ H Q I h
  refine isTrue_or (thn (ha pins s σ H Q I h) fun c s1 e => ?_)
  cases c with
  | false => exact isTrue_or_nil e
  | true => exact e
theorem pw_and (ha : PT X a tA) (hb : PW X (.BoolOp .And (b :: rest) pos) tB') : PW X (.BoolOp .And (a :: b :: rest) pos) (tAnd tA tB') := by
  intro wh pins s σ H Q I h
  refine isTrue_and (thn (ha pins s σ H _ I h) fun c s1 ⟨H1, I1, q1⟩ => ?_)
  cases c with
  | true => exact hb wh pins s1 σ H1 Q I1 q1
  | false => exact ⟨H1, I1, q1⟩
theorem pw_or (ha : PT X a tA) (hb : PW X (.BoolOp .Or (b :: rest) pos) tB') : PW X (.BoolOp .Or (a :: b :: rest) pos) (tOr tA tB') := by
  intro wh pins s σ H Q I h
  refine isTrue_or (thn (ha pins s σ H _ I h) fun c s1 ⟨H1, I1, q1⟩ => ?_)
  cases c with
  | true => exact ⟨H1, I1, q1⟩
  | false => exact hb wh pins s1 σ H1 Q I1 q1
theorem pt_not (ha : PT X a tA) : PT X (.UnaryOp .Not a pos) (tNot tA) := by
  intro pins s σ H Q I h
  exact isTrue_not (ha pins s σ H (fun c H1 => Q (!c) H1) I h)
/-- .. as values (bools) -/
def tAndV (ta tb : TE) : TE := fun σ H Q => ta σ H fun x H1 => ∃ c, x = .bl c ∧ if c = true then tb σ H1 Q else Q (.bl false) H1
def tNotV (ta : TE) : TE := fun σ H Q => ta σ H fun x H1 => ∃ c, x = .bl c ∧ Q (.bl (!c)) H1
theorem pe_one {op} {t : TE} (h : PE X a t) : PE X (.BoolOp op [a] pos) t := fun pins s σ H Q I hw => BoolOp_one (h pins s σ H Q I hw)
theorem pe_and (ha : PE X a ta) (hb : PE X (.BoolOp .And (b :: rest) pos) tb) : PE X (.BoolOp .And (a :: b :: rest) pos) (tAndV ta tb) := by
  intro pins s σ H Q I h
  refine BoolOp_and (thn (ha pins s σ H _ I h) fun v s1 ⟨x, H1, I1, r1, q1⟩ => ?_)
  obtain ⟨c, rfl, q1⟩ := q1
  cases r1
  refine wpAny_truthy_bool ?_
  cases c with
  | true => exact hb pins s1 σ H1 Q I1 q1
  | false => exact ⟨.bl false, H1, I1, rfl, q1⟩
theorem pe_not (ha : PE X a ta) : PE X (.UnaryOp .Not a pos) (tNotV ta) := by
  intro pins s σ H Q I h
  refine UnaryOp_ (thn (ha pins s σ H _ I h) fun v s1 ⟨x, H1, I1, r1, q1⟩ => ?_)
  obtain ⟨c, rfl, q1⟩ := q1
  cases r1
  exact not_of (wpAny_truthy_bool ⟨.bl (!c), H1, I1, rfl, q1⟩)
/-- a if t else b -/
def tIf (t : TT) (ta tb : TE) : TE := fun σ H Q => t σ H fun c H1 => if c = true then ta σ H1 Q else tb σ H1 Q
theorem pe_ifExp {c : Expr} (hc : PT X c tA) (ha : PE X a ta) (hb : PE X b tb) : PE X (.IfExp c a b pos) (tIf tA ta tb) := by
  intro pins s σ H Q I h
  refine wpAny_IfExp (thn (hc pins s σ H _ I h) fun d s1 ⟨H1, I1, q1⟩ => ?_)
  cases d with
  | true => exact ha pins s1 σ H1 Q I1 q1
  | false => exact hb pins s1 σ H1 Q I1 q1
end
end L2

namespace L2
open PySem PySem.Spec PyProof.Rows

/-! ### a list, a tuple that is read: tracked, frozen, or an object of the module -/
def SqL (K : PySem.W.Frag) (H : Hp) (a : Addr) (xs : List V) : Prop :=
  Rd H a (.lst xs) ∨
    ∃ (o : Obj) (its : Array Value) (n : Nat), K.lookup a = some o ∧ o.cls = .type "list" ∧ o.dict = none ∧ o.data = .seq its n ∧ its.size ≤ sizeLine ∧ Vals xs its.toList
def SqT (K : PySem.W.Frag) (H : Hp) (a : Addr) (xs : List V) : Prop :=
  Rd H a (.tup xs) ∨
    ∃ (o : Obj) (its : Array Value) (n : Nat), K.lookup a = some o ∧ o.cls = .type "tuple" ∧ o.data = .seq its n ∧ its.size ≤ sizeLine ∧ Vals xs its.toList
def absV : Value → Option V
  | .none => some .non
  | .bool b => some (.bl b)
  | .int i _ => some (.int i)
  | .str x _ => some (.str x)
  | .bytes b _ => some (.byt b)
  | .float b _ => some (.flt b)
  | .ref a => some (.ref a)
  | .type n => some (.ty n)
  | _ => none
theorem RelV.abs {x : V} {u : Value} (r : RelV x u) : absV u = some x := by
  cases x with
  | non => cases r; rfl
  | bl _ => cases r; rfl
  | int _ => obtain ⟨t, rfl⟩ := r; rfl
  | str _ => obtain ⟨t, rfl⟩ := r; rfl
  | byt _ => obtain ⟨t, rfl⟩ := r; rfl
  | flt _ => obtain ⟨t, rfl⟩ := r; rfl
  | ref _ => cases r; rfl
  | ty _ => cases r; rfl
theorem RelV.inj {x y : V} {u : Value} (r : RelV x u) (q : RelV y u) : x = y := Option.some.inj (r.abs.symm.trans q.abs)
theorem Vals.inj : ∀ {xs ys : List V} {us : List Value}, Vals xs us → Vals ys us → xs = ys
  | _, _, _, .nil, .nil => rfl
  | _, _, _, .cons r t, .cons r' t' => by rw [r.inj r', Vals.inj t t']
section
variable {X : Cx} {pins : List (Addr × Obj)} {σ : St} {H : Hp} {s : Shared} {a : Addr} {xs ys : List V}
theorem SqL.of {K : PySem.W.Frag} (h : H a = some (.lst xs)) : SqL K H a xs := .inl (.inl h)
theorem SqT.of {K : PySem.W.Frag} (h : H a = some (.tup xs)) : SqT K H a xs := .inl (.inl h)
theorem Inv.list (I : Inv X pins σ H s) (h : SqL X.K H a xs) : ∃ its : List Value, Vals xs its ∧ PlainL s.heap a its.toArray ∧ xs.length ≤ sizeLine := by
  rcases h with h | ⟨o, its, n, hk, hc, hd, hs, hz, r⟩
  · obtain ⟨z, its, n, r, e⟩ := h.ok I.hok
    exact ⟨its, r, ⟨_, n, e, rfl, rfl, rfl⟩, z⟩
  · refine ⟨its.toList, r, ⟨o, n, I.kIn a o hk, hc, hd, by simpa using hs⟩, ?_⟩
    have e := r.length
    simp only [Array.length_toList] at e
    omega
theorem Inv.tuple (I : Inv X pins σ H s) (h : SqT X.K H a xs) : ∃ its : List Value, Vals xs its ∧ IsTup s.heap a its.toArray ∧ xs.length ≤ sizeLine := by
  rcases h with h | ⟨o, its, n, hk, hc, hs, hz, r⟩
  · obtain ⟨z, its, r, p⟩ := h.ok I.hok
    exact ⟨its, r, p, z⟩
  · refine ⟨its.toList, r, ⟨o, I.kIn a o hk, hc, n, by simpa using hs⟩, ?_⟩
    have e := r.length
    simp only [Array.length_toList] at e
    omega
theorem Inv.list_inj (I : Inv X pins σ H s) (h : SqL X.K H a xs) (h' : SqL X.K H a ys) : xs = ys := by
  obtain ⟨its, r, ⟨o, n, e, _, _, d⟩, _⟩ := I.list h
  obtain ⟨its', r', ⟨o', n', e', _, _, d'⟩, _⟩ := I.list h'
  rw [e] at e'; cases e'
  rw [d] at d'
  injection d' with d1 _
  have : its = its' := by simpa using congrArg Array.toList d1
  subst this
  exact r.inj r'
end

/-! ### another wish about exceptions -/
abbrev Cx.wish (X : Cx) (E : Value → Shared → Prop) : Cx := { X with xe := E }
/-- no exception leaves -/
abbrev Cx.nox (X : Cx) : Cx := X.wish fun _ _ => False
theorem Cx.Ok.wish {X : Cx} (ok : X.Ok) (E : Value → Shared → Prop) : (X.wish E).Ok :=
  ⟨ok.mod, ok.kind, ok.glob, ok.blt, ok.above, ok.inj, ok.has, ok.cab, ok.hd, ok.frames, ok.stk, ok.exf, ok.bs, ok.bsz, ok.noex, ok.exfs, ok.funs, ok.frf⟩
theorem Cx.Ok.unwish {X : Cx} {E : Value → Shared → Prop} (ok : (X.wish E).Ok) : X.Ok :=
  ⟨ok.mod, ok.kind, ok.glob, ok.blt, ok.above, ok.inj, ok.has, ok.cab, ok.hd, ok.frames, ok.stk, ok.exf, ok.bs, ok.bsz, ok.noex, ok.exfs, ok.funs, ok.frf⟩
section
variable {X : Cx} {pins : List (Addr × Obj)} {σ : St} {H : Hp} {s : Shared} {E : Value → Shared → Prop}
theorem Inv.wish (I : Inv X pins σ H s) (E : Value → Shared → Prop) : Inv (X.wish E) pins σ H s := ⟨I.ok.wish E, I.os, I.bare, I.base, I.loc, I.cell, I.free, I.freeC, I.pin, I.hok, I.len⟩
theorem Inv.unwish (I : Inv (X.wish E) pins σ H s) : Inv X pins σ H s := ⟨I.ok.unwish, I.os, I.bare, I.base, I.loc, I.cell, I.free, I.freeC, I.pin, I.hok, I.len⟩
theorem SP.unwish {D : Ends} {f : Flow} {s' : Shared} (h : SP (X.wish E) pins D f s') : SP X pins D f s' := by
  cases f with
  | next => obtain ⟨σ', H', I, q⟩ := h; exact ⟨σ', H', I.unwish, q⟩
  | brk => obtain ⟨σ', H', I, q⟩ := h; exact ⟨σ', H', I.unwish, q⟩
  | cont => obtain ⟨σ', H', I, q⟩ := h; exact ⟨σ', H', I.unwish, q⟩
  | ret u => obtain ⟨v, σ', H', I, r, q⟩ := h; exact ⟨v, σ', H', I.unwish, r, q⟩
theorem PSs.nox {st : List Stmt} {t : TS} (h : PSs X.nox st t) : PSs X st t := fun pins s σ H D I hw =>
  wpAny_mono (h pins s σ H D (I.wish _) hw) (fun _ _ q => q.unwish) fun _ _ z => False.elim z
end

/-! ### blocks and small statements -/
section
variable {X : Cx} {st : Stmt} {rest : List Stmt} {t u : TS} {e : Expr} {te : TE} {pos : Pos}
def tNext : TS := fun D σ H => D.nx σ H
def tSeq (t u : TS) : TS := fun D σ H => t { D with nx := u D } σ H
theorem pss_nil : PSs X [] tNext := fun _ _ σ H _ I h => wpAny_execs_nil ⟨σ, H, I, h⟩
theorem pss_cons (h1 : PS X st t) (h2 : PSs X rest u) : PSs X (st :: rest) (tSeq t u) := by
  intro pins s σ H D I h
  refine wpAny_execs_cons (thn (h1 pins s σ H { D with nx := u D } I h) fun f s1 q => ?_)
  cases f with
  | next =>
    obtain ⟨σ', H', I', q⟩ := q
    exact h2 pins s1 σ' H' D I' q
  | ret v => exact q
  | brk => exact q
  | cont => exact q
theorem pss_one (h1 : PS X st t) : PSs X [st] t := by
  intro pins s σ H D I h
  refine wpAny_execs_cons (thn (h1 pins s σ H D I h) fun f s1 q => ?_)
  cases f with
  | next => exact wpAny_execs_nil q
  | ret v => exact q
  | brk => exact q
  | cont => exact q
/-- in a def's body nothing is shown -/
theorem Inv.quiet {pins : List (Addr × Obj)} {σ : St} {H : Hp} {s : Shared} (I : Inv X pins σ H s) : interactive X.env = false := by simp [interactive, I.ok.kind]
/-- an expression whose value is dropped -/
def tDrop (te : TE) : TS := fun D σ H => te σ H fun _ H1 => D.nx σ H1
theorem ps_expr (he : PE X e te) (hs : swapsWith e none pos.line X.env = pure false := by rfl) : PS X (.Expr e pos) (tDrop te) := by
  intro pins s σ H D I h
  exact wpAny_Expr_any (thn (he pins s σ H _ I h) fun v s1 ⟨x, H1, I1, r1, q1⟩ => ⟨σ, H1, I1, q1⟩) I.quiet hs
def tRet (te : TE) : TS := fun D σ H => te σ H D.rt
theorem ps_ret (he : PE X e te) : PS X (.Return (some e) pos) (tRet te) := by
  intro pins s σ H D I h
  exact wpAny_Return_some (thn (he pins s σ H _ I h) fun v s1 ⟨x, H1, I1, r1, q1⟩ => ⟨x, σ, H1, I1, r1, q1⟩)
def tIfS (c : TT) (t u : TS) : TS := fun D σ H => c σ H fun b H1 => if b = true then t D σ H1 else u D σ H1
theorem ps_if {c : Expr} {a b : List Stmt} {tc : TT} (hc : PT X c tc) (ha : PSs X a t) (hb : PSs X b u) : PS X (.If c a b pos) (tIfS tc t u) := by
  intro pins s σ H D I h
  refine wpAny_If (thn (hc pins s σ H _ I h) fun d s1 ⟨H1, I1, q1⟩ => ?_)
  cases d with
  | true => exact ha pins s1 σ H1 D I1 q1
  | false => exact hb pins s1 σ H1 D I1 q1
end

/-! ### targets -/
abbrev TG := V → St → Hp → (St → Hp → Prop) → Prop
abbrev TGs := List V → St → Hp → (St → Hp → Prop) → Prop
def PG (X : Cx) (target : Expr) (t : TG) : Prop :=
  ∀ (pins : List (Addr × Obj)) (s : Shared) (σ : St) (H : Hp) (v : V) (u : Value) (Q : St → Hp → Prop), Inv X pins σ H s → RelV v u → t v σ H Q →
    wpAny (model X.prog X.w) X.A (assign target X.env u) (fun _ s' => ∃ σ' H', Inv X pins σ' H' s' ∧ Q σ' H') X.xe s
/-- several targets, one after another -/
def PGs (X : Cx) (ts : List Expr) (t : TGs) : Prop :=
  ∀ (pins : List (Addr × Obj)) (s : Shared) (σ : St) (H : Hp) (vs : List V) (us : List Value) (Q : St → Hp → Prop), Inv X pins σ H s → Vals vs us → t vs σ H Q →
    wpAny (model X.prog X.w) X.A (assignInOrder ((assignEach ts X.env).map (·.2)) us) (fun _ s' => ∃ σ' H', Inv X pins σ' H' s' ∧ Q σ' H') X.xe s
section
variable {X : Cx} {pos : Pos}
def gName (i : Nat) : TG := fun v σ H Q => Q (σ.set i (some v)) H
theorem pg_name {i : Nat} {x : Str} (hN : X.N.Nodup) (hi : X.N[i]? = some x) (hx : Loc X.env.scope x) (hf : X.fn x = true ∨ X.env.scope.names.lookup x = some .local := by first | exact .inl rfl | exact .inr rfl | assumption) : PG X (.Name x pos) (gName i) := by
  intro pins s σ H v u Q I r h
  exact wpAny_assign_Name (store_ok I hN hi hx r (fun s' I' => ⟨_, H, I', h⟩) hf)
def gNil : TGs := fun vs σ H Q => vs = [] ∧ Q σ H
def gCons (t : TG) (u : TGs) : TGs := fun vs σ H Q => ∃ v r, vs = v :: r ∧ t v σ H fun σ' H' => u r σ' H' Q
theorem pgs_nil : PGs X [] gNil := by
  intro pins s σ H vs us Q I r h
  obtain ⟨e, h⟩ := h
  subst e
  cases r
  exact assignInOrder_nil ⟨σ, H, I, h⟩
theorem pgs_cons {e : Expr} {es : List Expr} {t : TG} {u : TGs} (h1 : PG X e t) (h2 : PGs X es u)
    (hs : (assignEach (e :: es) X.env).map (·.2) = assign e X.env :: (assignEach es X.env).map (·.2) := by rfl) : PGs X (e :: es) (gCons t u) := by
  intro pins s σ H vs us Q I r h
  obtain ⟨v, vr, e1, h⟩ := h
  subst e1
  cases r with
  | cons r rr =>
    rw [hs]
    refine assignInOrder_cons (thn (h1 pins s σ H _ _ _ I r h) fun _ s1 ⟨σ1, H1, I1, q1⟩ => ?_)
    exact h2 pins s1 σ1 H1 _ _ Q I1 rr q1
/-- (a, b, ..) = a tuple of that length -/
def gTup (K : PySem.W.Frag) (n : Nat) (t : TGs) : TG := fun v σ H Q => ∃ a xs, v = .ref a ∧ SqT K H a xs ∧ xs.length = n ∧ t xs σ H Q
theorem pg_tup {es : List Expr} {k : Nat} {t : TGs} {n : Nat} (hc : X.calm = true) (h : PGs X es t)
    (hn : (assignEach es X.env).length = n := by rfl) (hst : (assignEach es X.env).findIdx? (·.1) = none := by rfl) : PG X (.Tuple es k pos) (gTup X.K n t) := by
  intro pins s σ H v u Q I r hw
  obtain ⟨a, xs, e1, hq, hl, hw⟩ := hw
  subst e1
  cases r
  obtain ⟨its, rv, ht, hz⟩ := I.tuple hq
  refine assign_Tuple_tuple (I.ok.hd hc) ht (by simp [hn, ← hl, rv.length]) hst fun h' hx => ?_
  have I1 : Inv X pins σ H { s with heap := h' } := I.kept (t' := s.toks) fun b o e => hx b o (Nat.ne_of_lt (Heap.lt_size e)) e
  exact h pins _ σ H xs _ Q I1 (by simpa using rv) hw
/-- target = value -/
def tAsg (te : TE) (g : TG) : TS := fun D σ H => te σ H fun x H1 => g x σ H1 D.nx
/-- name = value -/
theorem ps_set {i : Nat} {x : Str} {e : Expr} {te : TE} {pos' : Pos} (hN : X.N.Nodup) (hi : X.N[i]? = some x) (hx : Loc X.env.scope x) (he : PE X e te) (hs : swapsWith e (some (.Name x pos')) pos.line X.env = pure false := by rfl) (hf : X.fn x = true ∨ X.env.scope.names.lookup x = some .local := by first | exact .inl rfl | exact .inr rfl | assumption) :
    PS X (.Assign [.Name x pos'] e pos) (tAsg te (gName i)) := by
  intro pins s σ H D I h
  refine wpAny_Assign_Name (thn (he pins s σ H _ I h) fun v s1 ⟨y, H1, I1, r1, q1⟩ => ?_) hs
  exact store_ok I1 hN hi hx r1 (fun s2 I2 => ⟨_, H1, I2, q1⟩) hf
/-- a, b = x, y with plain local names: stored from the right; the pair itself is not tracked (the opening rows as in PyProof/Rows/TupAssign.lean:23) -/
def tPar (i j : Nat) (ta : TA) : TS := fun D σ H => ta σ H fun vs H1 => ∃ v w, vs = [v, w] ∧ D.nx ((σ.set i (some v)).set j (some w)) H1
theorem ps_par {i j : Nat} {x y : Str} {a b : Expr} {ta : TA} {px py pt : Pos} {kt k2 pt2} (hc : X.calm = true) (hN : X.N.Nodup) (hi : X.N[i]? = some x) (hj : X.N[j]? = some y) (hij : i ≠ j)
    (hx : X.env.scope.names.lookup x = some .local) (hy : X.env.scope.names.lookup y = some .local) (ha : PA X [a, b] ta)
    (hw : swappedStores [.Tuple [.Name x px, .Name y py] kt pt] (.Tuple [a, b] k2 pt2) X.env = pure (some [x, y]))
    (hs : swapsWithSole [.Tuple [.Name x px, .Name y py] kt pt] (.Tuple [a, b] k2 pt2) pos.line X.env = pure false := by rfl) :
    PS X (.Assign [.Tuple [.Name x px, .Name y py] kt pt] (.Tuple [a, b] k2 pt2) pos) (tPar i j ta) := by
  intro pins s σ H D I h
  rw [exec_Assign_arm]
  refine wpAny_bind (wpAny_standAt ?_)
  rw [hs]
  refine wpAny_bind (wpAny_pure ?_)
  rw [if_neg (by decide)]
  refine wpAny_bind (Tuple_ (thn (ha _ pins s σ H _ I h) fun us s1 ⟨vs, H1, I1, r1, q1⟩ => ?_))
  obtain ⟨v, w, e1, q1⟩ := q1
  subst e1
  obtain ⟨u1, u2, rfl, rv, rw'⟩ : ∃ u1 u2, us = [u1, u2] ∧ RelV v u1 ∧ RelV w u2 := by
    cases r1 with
    | cons p q =>
      cases q with
      | cons p' q' =>
        cases q'
        exact ⟨_, _, rfl, p, p'⟩
  refine wpAny_newObj_type ?_ (by show 2 ≤ sizeLine; decide)
  have I2 : Inv X pins σ H1 { s1 with heap := s1.heap.push { cls := .type "tuple", data := .seq [u1, u2].toArray } } := I1.kept (t' := s1.toks) fun b o e => Heap.get?_push_of_some _ e
  rw [hw]
  refine wpAny_bind (wpAny_pure ?_)
  show wpAny (model X.prog X.w) X.A (do rule "assign.swapped-stores"; let items ← unpackItems (.ref s1.heap.objs.size) 2 none; assignInOrder [fun v => bindName X.env y v, fun v => bindName X.env x v] items.reverse; pure Flow.next) _ _ _
  refine wpAny_bind (wpAny_rule (wpAny_bind (unpackItems_tuple (items := #[u1, u2]) (I.ok.hd hc) (IsTup.new s1.heap _) fun h' hx' => ?_)))
  have I3 := I2.kept (h' := h') (t' := s1.toks) fun b o e => hx' b o (Nat.ne_of_lt (Heap.lt_size e)) e
  show wpAny _ _ (assignInOrder [fun v => bindName X.env y v, fun v => bindName X.env x v] [u2, u1] >>= fun _ => pure Flow.next) _ _ _
  refine wpAny_bind (assignInOrder_cons (wpAny_bindName (store_ok I3 hN hj (.inl hy) rw' (fun s2 I4 => ?_) (.inr hy))))
  refine assignInOrder_cons (wpAny_bindName (store_ok I4 hN hi (.inl hx) rv (fun s3 I5 => assignInOrder_nil (wpAny_pure ?_)) (.inr hx)))
  rw [List.set_comm _ _ (Ne.symm hij)] at I5
  exact ⟨_, H1, I5, q1⟩
end

/-! ### while -/
section
variable {X : Cx} {pos : Pos}
/-- the invariant W with its measure -/
def tWhile (c : TT) (tb : TS) : TS := fun D σ H => ∃ W : Nat → St → Hp → Prop, (∃ m, W m σ H) ∧ ∀ m σ H, W m σ H →
  c σ H fun b H1 => if b = true then ∃ N : St → Hp → Prop, (∀ σ' H', N σ' H' → ∃ m', m' < m ∧ W m' σ' H') ∧ tb { D with nx := N, ct := N, bk := D.nx } σ H1 else D.nx σ H1
theorem ps_while {c : Expr} {body : List Stmt} {tc : TT} {tb : TS} (hp : PassesOwn (model X.prog X.w) X.A X.env X.xe) (hc : PT X c tc) (hb : PSs X body tb) : PS X (.While c body [] pos) (tWhile tc tb) := by
  intro pins s σ H D I h
  obtain ⟨W, ⟨m0, w0⟩, turn⟩ := h
  refine wpAny_While (codeAny_whileLoop (fun n s' => ∃ σ' H', Inv X pins σ' H' s' ∧ W n σ' H') ?_ m0 ⟨σ, H, I, w0⟩)
  rintro n s1 ⟨σ1, H1, I1, w1⟩
  refine wpAny_passesOwn hp (thn (hc pins s1 σ1 H1 _ I1 (turn n σ1 H1 w1)) fun b s2 ⟨H2, I2, q2⟩ => ?_)
  cases b with
  | true =>
    obtain ⟨N, hN, q2⟩ := q2
    rw [if_pos rfl]
    refine wpAny_passesOwn hp (thn (hb pins s2 σ1 H2 _ I2 q2) fun f s3 q3 => ?_)
    cases f with
    | next =>
      obtain ⟨σ3, H3, I3, n3⟩ := q3
      obtain ⟨m', hm, w3⟩ := hN σ3 H3 n3
      exact ⟨m', hm, σ3, H3, I3, w3⟩
    | cont =>
      obtain ⟨σ3, H3, I3, n3⟩ := q3
      obtain ⟨m', hm, w3⟩ := hN σ3 H3 n3
      exact ⟨m', hm, σ3, H3, I3, w3⟩
    | brk => exact q3
    | ret v => exact q3
  | false =>
    rw [if_neg Bool.false_ne_true]
    exact wpAny_execs_nil ⟨σ1, H2, I2, q2⟩
end

/-! ### what a loop or a comprehension walks -/
/-- at turn i: it yields x (the heap may grow), or it stops -/
structure It where
  go : Nat → Hp → Prop
  yld : Nat → Hp → V → Hp → Prop
  stop : Nat → Hp → Prop
/-- the iterator's own objects may turn: they are not the frame's, not pinned, younger than the entry (or a comprehension's own) -/
def FpOk (X : Cx) (pins : List (Addr × Obj)) (H : Hp) (b : Addr) : Prop :=
  H b = none ∧ b ≠ X.env.locals ∧ b ∉ X.fs ∧ (b ∈ X.ex ∨ X.s₀.heap.objs.size ≤ b) ∧ (∀ x c, X.env.cells.lookup x = some c → c ≠ b) ∧ ∀ p ∈ X.pn ++ pins, p.1 ≠ b
theorem Inv.fpOk {X : Cx} {pins : List (Addr × Obj)} {σ : St} {H H' : Hp} {s : Shared} {b : Addr} (I : Inv X pins σ H s) (hb : s.heap.objs.size ≤ b) (hn : H' b = none) : FpOk X pins H' b := by
  refine ⟨hn, Nat.ne_of_gt (Nat.lt_of_lt_of_le I.lt hb), I.nofs hb, .inr (Nat.le_trans I.sz hb), fun x c e z => ?_, fun p hp z => ?_⟩
  · obtain ⟨v, q⟩ := I.cell x c e
    exact absurd (Nat.lt_of_lt_of_le q.lt (by rw [z]; exact hb)) (Nat.lt_irrefl _)
  · exact absurd (Nat.lt_of_lt_of_le (Heap.lt_size (I.pin p hp).1) (by rw [z]; exact hb)) (Nat.lt_irrefl _)
structure Turn (P : Program) (w : World) (K : PySem.W.Frag) (tg : Expr) (J : It) (fp : List Addr) (it : Addr) (tn : Nat → Heap → Prop) : Prop where
  mem : it ∈ fp
  obj : ∀ i h, tn i h → ∀ b ∈ fp, ∃ o, h.get? b = some o ∧ ∀ v, o.data ≠ .cell v
  keep : ∀ i h h', tn i h → (∀ b ∈ fp, ∀ o, h.get? b = some o → h'.get? b = some o) → tn i h'
  item : ∀ (X : Cx), X.prog = P → X.w = w → X.K = K → X.calm = true → ∀ (i : Nat) (pins : List (Addr × Obj)) (s : Shared) (σ : St) (H : Hp) (E : Value → Shared → Prop), Inv X pins σ H s → (∀ b ∈ fp, FpOk X pins H b) → tn i s.heap → J.go i H →
    wpAny (model P w) X.A (pyNext (.ref it)) (fun r s1 => ∃ u, r = some u ∧
      wpAny (model P w) X.A (letOwnedTupleGo tg (.ref it) u) (fun _ s2 => ∃ x H', Inv X pins σ H' s2 ∧ RelV x u ∧ J.yld i H x H' ∧ tn (i + 1) s2.heap ∧ ∀ b ∈ fp, H' b = none) E s1) E s
  done : ∀ (X : Cx), X.prog = P → X.w = w → X.K = K → X.calm = true → ∀ (i : Nat) (pins : List (Addr × Obj)) (s : Shared) (σ : St) (H : Hp) (E : Value → Shared → Prop), Inv X pins σ H s → (∀ b ∈ fp, FpOk X pins H b) → tn i s.heap → J.stop i H →
    wpAny (model P w) X.A (pyNext (.ref it)) (fun r s1 => r = none ∧ Inv X pins σ H s1) E s
  self : ∀ (A : Around) (i : Nat) (s : Shared) (Q : Value → Shared → Prop) (E : Value → Shared → Prop), tn i s.heap → Q (.ref it) s → wpAny (model P w) A (pyIter (.ref it)) Q E s
abbrev TI := St → Hp → (It → Hp → Prop) → Prop
/-- an iterator has come -/
def PIE (X : Cx) (pins : List (Addr × Obj)) (σ : St) (tg : Expr) (R : It → Hp → Prop) (itv : Value) (s2 : Shared) : Prop :=
  ∃ (it : Addr) (fp : List Addr) (tn : Nat → Heap → Prop) (J : It) (H' : Hp), itv = .ref it ∧ Inv X pins σ H' s2 ∧ Turn X.prog X.w X.K tg J fp it tn ∧ tn 0 s2.heap ∧ (∀ b ∈ fp, FpOk X pins H' b) ∧ R J H'
def PI (X : Cx) (tg iter : Expr) (wi : TI) : Prop :=
  ∀ (pins : List (Addr × Obj)) (s : Shared) (σ : St) (H : Hp) (R : It → Hp → Prop), Inv X pins σ H s → wi σ H R →
    wpAny (model X.prog X.w) X.A (eval iter X.env) (fun v s1 => wpAny (model X.prog X.w) X.A (pyIter v) (PIE X pins σ tg R) X.xe s1) X.xe s

/-- the step ahead of the store is nothing for an iterator that keeps no tuple -/
theorem go_of {M : Model} {A : Around} {E : Value → Shared → Prop} {s : Shared} {tg : Expr} {it : Addr} {u : Value} {o : Obj} {n : String} {vs : Array Value} {Q : Unit → Shared → Prop} (ho : s.heap.get? it = some o) (hc : o.cls = .type n) (hd : o.data = .fields vs)
    (hn : ["enumerate", "zip", "dict_itemiterator", "dict_reverseitemiterator", "odict_iterator", "itertools.zip_longest", "itertools.pairwise"].contains n = false) (hQ : Q () s) : wpAny M A (letOwnedTupleGo tg (.ref it) u) Q E s := by
  unfold letOwnedTupleGo
  cases tg <;> first
    | exact wpAny_pure hQ
    | (cases u <;> first
        | exact wpAny_pure hQ
        | (refine wpAny_bind (wpAny_load ho ?_)
           rw [hc, hd]
           show wpAny M A (if (["enumerate", "zip", "dict_itemiterator", "dict_reverseitemiterator", "odict_iterator", "itertools.zip_longest", "itertools.pairwise"].contains n && vs[0]? == some (rawInt _)) = true then _ else _) Q E s
           rw [if_neg (by intro h; rw [hn, Bool.false_and] at h; cases h)]
           exact wpAny_pure hQ))

/-- the list at a, as it stands at each turn (a loop may append to it) -/
def Itl (K : PySem.W.Frag) (a : Addr) : It :=
  ⟨fun i H => ∃ xs x, SqL K H a xs ∧ xs[i]? = some x, fun i H x H' => H' = H ∧ ∀ xs, SqL K H a xs → xs[i]? = some x, fun i H => ∃ xs, SqL K H a xs ∧ xs.length ≤ i⟩
/-- lo, lo + 1, .. (n of them) -/
def Itr (lo : Int) (n : Nat) : It := ⟨fun i _ => i < n, fun i H x H' => H' = H ∧ x = .int (lo + i), fun i _ => n ≤ i⟩
theorem turn_list {P : Program} {w : World} {K : PySem.W.Frag} {tg : Expr} (a it : Addr) : Turn P w K tg (Itl K a) [it] it (fun i h => h.IsListIter it a i) where
  mem := by simp
  obj := fun i h st b hb => by
    have e : b = it := by simpa using hb
    subst e
    obtain ⟨o, e, c, d⟩ := st
    exact ⟨o, e, fun v z => by rw [d] at z; cases z⟩
  keep := fun i h h' st k => st.at fun o e => k it (by simp) o e
  item := by
    intro X hP hw hK hc i pins s σ H E I hf st hg
    subst hP hw hK
    obtain ⟨xs, x, hq, hx⟩ := hg
    obtain ⟨its, rv, p, hz⟩ := I.list hq
    obtain ⟨u, hu, ru⟩ := rv.get hx
    obtain ⟨f0, f1, f2, f3, f4, f5⟩ := hf it (by simp)
    refine wpAny_pyNext_list_item st p.isList (x := u) (by simpa using hu) fun h' st' sb => ?_
    have I1 : Inv X pins σ H { s with heap := h' } := I.turned (t' := s.toks) (fun b o hb e => (sb.2 b hb).trans e) f0 f1 f3 f4 f5
    obtain ⟨o, e, c, d⟩ := id st'
    exact ⟨u, rfl, go_of (s := { s with heap := h' }) e c d (by decide) ⟨x, H, I1, ru, ⟨rfl, fun ys hy => by rw [I.list_inj hy hq]; exact hx⟩, st', fun b hb => (hf b hb).1⟩⟩
  done := by
    intro X hP hw hK hc i pins s σ H E I hf st hg
    subst hP hw hK
    obtain ⟨xs, hq, hx⟩ := hg
    obtain ⟨its, rv, p, hz⟩ := I.list hq
    obtain ⟨f0, f1, f2, f3, f4, f5⟩ := hf it (by simp)
    have hl := rv.length
    exact wpAny_pyNext_list_end (I.ok.hd hc) st p.isList (by simp; omega) fun h' eb => ⟨rfl, I.turned (t' := s.toks) (fun b o hb e => eb b o hb e) f0 f1 f3 f4 f5⟩
  self := fun _ _ _ _ _ st h => wpAny_pyIter_listiter st h
theorem turn_range {P : Program} {w : World} {K : PySem.W.Frag} {tg : Expr} (it : Addr) (lo : Int) (n : Nat) : Turn P w K tg (Itr lo n) [it] it (fun i h => IsRangeIter h it (lo + (i : Nat) * 1) ((n : Int) - (i : Nat)) 1) where
  mem := by simp
  obj := fun i h st b hb => by
    have e : b = it := by simpa using hb
    subst e
    exact ⟨_, st, fun v z => by
      have z' : Data.fields _ = Data.cell v := z
      cases z'⟩
  keep := fun i h h' st k => k it (by simp) _ st
  item := by
    intro X hP hw hK hc i pins s σ H E I hf st hg
    subst hP hw hK
    obtain ⟨f0, f1, f2, f3, f4, f5⟩ := hf it (by simp)
    have W := Walks.range (prog := X.prog) (w := X.w) (I.ok.hd hc) it lo 1 n
    refine W.item i s _ _ hg st fun v h' tk hv st' kk => ?_
    obtain ⟨t, rfl⟩ := hv
    have I1 : Inv X pins σ H { s with heap := h', toks := tk } := I.turned (fun b o hb e => kk b o (by simpa using hb) e) f0 f1 f3 f4 f5
    refine ⟨_, rfl, go_of (s := { s with heap := h', toks := tk }) (n := "range_iterator") st' rfl rfl (by decide) ⟨.int (lo + i), H, I1, ⟨t, ?_⟩, ⟨rfl, rfl⟩, st', fun b hb => (hf b hb).1⟩⟩
    rw [Int.mul_one]
  done := by
    intro X hP hw hK hc i pins s σ H E I hf st hg
    subst hP hw hK
    obtain ⟨f0, f1, f2, f3, f4, f5⟩ := hf it (by simp)
    exact wpAny_pyNext_range_end (I.ok.hd hc) st (by have : n ≤ i := hg; omega) fun h' eb => ⟨rfl, I.turned (t' := s.toks) (fun b o hb e => eb b o hb e) f0 f1 f3 f4 f5⟩
  self := fun _ _ _ _ _ st h => wpAny_pyIter_rangeiter st h
end L2

namespace L2
open PySem PySem.Spec PyProof.Rows
section
variable {X : Cx} {tg : Expr}
def iList (K : PySem.W.Frag) (tl : TE) : TI := fun σ H R => tl σ H fun x H1 => ∃ a, x = .ref a ∧ (∃ xs, SqL K H1 a xs) ∧ R (Itl K a) H1
theorem pi_list {l : Expr} {tl : TE} (hl : PE X l tl) : PI X tg l (iList X.K tl) := by
  intro pins s σ H R I h
  refine thn (hl pins s σ H _ I h) fun v s1 ⟨x, H1, I1, r1, q1⟩ => ?_
  obtain ⟨a, e, ⟨xs, hq⟩, q⟩ := q1
  subst e
  cases r1
  obtain ⟨its, rv, p, hz⟩ := I1.list hq
  refine wpAny_pyIter_list p.isList ?_
  refine ⟨s1.heap.objs.size, [s1.heap.objs.size], _, _, H1, rfl, I1.kept (t' := s1.toks) fun b o e => Heap.get?_push_of_some _ e, turn_list a _, ⟨_, Heap.get?_push_size _ rfl, rfl, rfl⟩, fun b hb => ?_, q⟩
  have e : b = s1.heap.objs.size := by simpa using hb
  subst e
  exact I1.fpOk (Nat.le_refl _) (I1.hok.fresh (Nat.le_refl _))
/-- a range object just made, walked -/
theorem range_it {pins : List (Addr × Obj)} {σ : St} {H : Hp} {s : Shared} {R : It → Hp → Prop} {E : Value → Shared → Prop} {lo hi : Int} {t u v : Tok} {tk : Nat} (I : Inv X pins σ H s) (h1 : -(2 ^ 62) ≤ lo) (h2 : lo < 2 ^ 62) (h3 : -(2 ^ 62) ≤ hi) (h4 : hi < 2 ^ 62)
    (q : R (Itr lo (hi - lo).toNat) H) : wpAny (model X.prog X.w) X.A (pyIter (.ref s.heap.objs.size)) (PIE X pins σ tg R) E { s with heap := s.heap.push { cls := .type "range", data := .fields #[.int lo t, .int hi u, .int 1 v] }, toks := tk } := by
  refine wpAny_pyIter_range (IsRange.new ..) (small_one h1 h2 h3 h4) ?_
  have I1 : Inv X pins σ H { s with heap := s.heap.push { cls := .type "range", data := .fields #[.int lo t, .int hi u, .int 1 v] }, toks := tk } := I.kept fun b o e => Heap.get?_push_of_some _ e
  refine ⟨(s.heap.push { cls := .type "range", data := .fields #[.int lo t, .int hi u, .int 1 v] }).objs.size, [(s.heap.push { cls := .type "range", data := .fields #[.int lo t, .int hi u, .int 1 v] }).objs.size], _, _, H, rfl,
    I1.kept (t' := tk) fun b o e => Heap.get?_push_of_some _ e, turn_range _ lo (hi - lo).toNat, ?_, fun b hb => ?_, q⟩
  · have e1 : lo + ((0 : Nat) : Int) * 1 = lo := by simp
    have e2 : (((hi - lo).toNat : Nat) : Int) - ((0 : Nat) : Int) = Builtin.Range.rangeSize lo hi 1 := by rw [rangeSize_one]; split <;> omega
    show IsRangeIter _ _ (lo + ((0 : Nat) : Int) * 1) ((((hi - lo).toNat : Nat) : Int) - ((0 : Nat) : Int)) 1
    rw [e1, e2]
    exact Heap.get?_push_size _ rfl
  · have e : b = (s.heap.push { cls := .type "range", data := .fields #[.int lo t, .int hi u, .int 1 v] }).objs.size := by simpa using hb
    subst e
    exact I1.fpOk (Nat.le_refl _) (I1.hok.fresh (Nat.le_refl _))
def iRng1 (ta : TA) : TI := fun σ H R => ta σ H fun vs H1 => ∃ j : Int, vs = [.int j] ∧ -(2 ^ 62) ≤ j ∧ j < 2 ^ 62 ∧ R (Itr 0 j.toNat) H1
theorem pi_range1 {a : Expr} {ta : TA} {p pos : Pos} (hg : Gl X "range") (hm : X.mg "range" = none) (ha : PA X [a] ta) (hs : starEach [a] X.env = [(false, eval a X.env)] := by rfl) : PI X tg (.Call (.Name "range" p) [a] [] pos) (iRng1 ta) := by
  intro pins s σ H R I h
  refine Call_ (ld_blt I hg hm boot_range (PyProof.Rows.callWith_type1 (thn (ha pos pins s σ H _ I h) fun us s1 ⟨vs, H1, I1, r1, q1⟩ => ?_) hs rfl))
  obtain ⟨j, e, q1, q2, q⟩ := q1
  subst e
  cases r1 with
  | cons r rr =>
    cases rr
    obtain ⟨t, rfl⟩ := r
    exact call_range_1 (range_it I1 (by omega) (by omega) q1 q2 (by simpa using q))
/-! ### for -/
/-- W: the invariant by the turn and a measure; N: what the body is to reach -/
def tFor (wi : TI) (g : TG) (tb : TS) : TS := fun D σ H => wi σ H fun J H1 => ∃ W : Nat → Nat → St → Hp → Prop, (∃ m, W 0 m σ H1) ∧ ∀ i m σ H, W i m σ H →
  (J.stop i H ∧ D.nx σ H) ∨ (J.go i H ∧ ∃ N : St → Hp → Prop, (∀ σ' H', N σ' H' → ∃ m', m' < m ∧ W (i + 1) m' σ' H') ∧ ∀ x H', J.yld i H x H' → g x σ H' fun σ2 H2 => tb { D with nx := N, ct := N, bk := D.nx } σ2 H2)
/-- the records at fp as they stand -/
def pinsAt (fp : List Addr) (h : Heap) : List (Addr × Obj) := fp.filterMap fun b => (h.get? b).map fun o => (b, o)
theorem mem_pinsAt {fp : List Addr} {h : Heap} {b : Addr} {o : Obj} (hb : b ∈ fp) (e : h.get? b = some o) : (b, o) ∈ pinsAt fp h := List.mem_filterMap.mpr ⟨b, hb, by rw [e]; rfl⟩
theorem of_pinsAt {fp : List Addr} {h : Heap} {p : Addr × Obj} (hp : p ∈ pinsAt fp h) : p.1 ∈ fp ∧ h.get? p.1 = some p.2 := by
  obtain ⟨b, hb, e⟩ := List.mem_filterMap.mp hp
  cases q : h.get? b with
  | none => rw [q] at e; cases e
  | some o =>
    rw [q] at e
    have e' : (b, o) = p := Option.some.inj e
    subst e'
    exact ⟨hb, q⟩
theorem Inv.pinned {pins : List (Addr × Obj)} {σ : St} {H : Hp} {s : Shared} {fp : List Addr} (I : Inv X pins σ H s) (hf : ∀ b ∈ fp, FpOk X pins H b) (ho : ∀ b ∈ fp, ∃ o, s.heap.get? b = some o ∧ ∀ v, o.data ≠ .cell v) : Inv X (pins ++ pinsAt fp s.heap) σ H s :=
  I.pins_of fun p hp => (List.mem_append.mp hp).elim (fun z => I.pin p (List.mem_append_right _ z)) fun z => by
    obtain ⟨hb, e⟩ := of_pinsAt z
    obtain ⟨f0, f1, f2, _⟩ := hf p.1 hb
    obtain ⟨o, e', d⟩ := ho p.1 hb
    rw [e] at e'; cases e'
    exact ⟨e, f0, f1, f2, d⟩
theorem Inv.unpinned {pins pl : List (Addr × Obj)} {σ : St} {H : Hp} {s : Shared} (I : Inv X (pins ++ pl) σ H s) : Inv X pins σ H s := I.pins_of fun p hp => I.pin p (List.mem_append_right _ (List.mem_append_left _ hp))
theorem ps_for {iter : Expr} {body : List Stmt} {wi : TI} {g : TG} {tb : TS} {pos : Pos} (hp : PassesOwn (model X.prog X.w) X.A X.env X.xe) (hc : X.calm = true) (hi : PI X tg iter wi) (hg : PG X tg g) (hb : PSs X body tb)
    (hs : ∀ x, foldedSetIterable iter X.env x = pure x := by intro _; rfl) : PS X (.For tg iter body [] pos) (tFor wi g tb) := by
  intro pins s σ H D I h
  refine wpAny_For (thn (hi pins s σ H _ I h) fun v s1 h1 => thn h1 fun itv s2 h2 => ?_) hs
  obtain ⟨it, fp, tn, J, H2, e, I2, T, st2, f2, W, ⟨m0, w0⟩, turn⟩ := h2
  subst e
  -- what stays true of the iterator's objects through the loop
  have stat : ∀ {H' : Hp}, (∀ b ∈ fp, H' b = none) → ∀ b ∈ fp, FpOk X pins H' b := fun hn b hb => ⟨hn b hb, (f2 b hb).2⟩
  refine codeAny_forLoop_any (fun n s' => ∃ i σ' H', Inv X pins σ' H' s' ∧ tn i s'.heap ∧ (∀ b ∈ fp, H' b = none) ∧ W i n σ' H') ?_ m0 ⟨0, σ, H2, I2, st2, fun b hb => (f2 b hb).1, w0⟩
  rintro n s3 ⟨i, σ3, H3, I3, st3, fr3, w3⟩
  rcases turn i n σ3 H3 w3 with ⟨stop, qn⟩ | ⟨go, N, hN, step⟩
  · refine wpAny_passesOwn hp (thn (T.done X rfl rfl rfl hc i pins s3 σ3 H3 X.xe I3 (stat fr3) st3 stop) fun r s4 ⟨hr, I4⟩ => ?_)
    subst hr
    exact wpAny_execs_nil ⟨σ3, H3, I4, qn⟩
  · refine wpAny_passesOwn hp (thn (T.item X rfl rfl rfl hc i pins s3 σ3 H3 X.xe I3 (stat fr3) st3 go) fun r s4 ⟨u, hr, h4⟩ => ?_)
    subst hr
    refine wpAny_passesOwn hp (thn h4 fun _ s5 ⟨x, H5, I5, r5, y5, st5, fr5⟩ => ?_)
    have I5' := I5.pinned (stat fr5) (T.obj _ _ st5)
    refine wpAny_passesOwn hp (thn (hg _ s5 σ3 H5 x u _ I5' r5 (step x H5 y5)) fun _ s6 ⟨σ6, H6, I6, q6⟩ => ?_)
    refine wpAny_passesOwn hp (thn (hb _ s6 σ6 H6 _ I6 q6) fun f s7 q7 => ?_)
    have again : ∀ {σ7 : St} {H7 : Hp}, Inv X (pins ++ pinsAt fp s5.heap) σ7 H7 s7 → N σ7 H7 → ∃ m, m < n ∧ ∃ i σ' H', Inv X pins σ' H' s7 ∧ tn i s7.heap ∧ (∀ b ∈ fp, H' b = none) ∧ W i m σ' H' := fun {σ7 H7} I7 n7 => by
      obtain ⟨m', hm, w7⟩ := hN σ7 H7 n7
      refine ⟨m', hm, i + 1, σ7, H7, I7.unpinned, T.keep _ _ _ st5 fun b hb o e => (I7.pin (b, o) (List.mem_append_right _ (List.mem_append_right _ (mem_pinsAt hb e)))).1, fun b hb => ?_, w7⟩
      obtain ⟨o, e, d⟩ := T.obj _ _ st5 b hb
      exact (I7.pin (b, o) (List.mem_append_right _ (List.mem_append_right _ (mem_pinsAt hb e)))).2.1
    cases f with
    | next => obtain ⟨σ7, H7, I7, n7⟩ := q7; exact again I7 n7
    | cont => obtain ⟨σ7, H7, I7, n7⟩ := q7; exact again I7 n7
    | brk => obtain ⟨σ7, H7, I7, q7⟩ := q7; exact ⟨σ7, H7, I7.unpinned, q7⟩
    | ret v => obtain ⟨x7, σ7, H7, I7, r7, q7⟩ := q7; exact ⟨x7, σ7, H7, I7.unpinned, r7, q7⟩
end

/-! ### the forms one uses -/
/-- over a list that the body leaves as it is -/
theorem for_list {K : PySem.W.Frag} {a : Addr} {xs : List V} {g : TG} {tb : TS} {D : Ends} {σ : St} {H : Hp} (Pv : Nat → St → Hp → Prop) (h0 : Pv 0 σ H) (hl : ∀ i σ H, i ≤ xs.length → Pv i σ H → SqL K H a xs)
    (hs : ∀ i x σ H, xs[i]? = some x → Pv i σ H → g x σ H fun σ2 H2 => tb { D with nx := Pv (i + 1), ct := Pv (i + 1), bk := D.nx } σ2 H2) (hd : ∀ σ H, Pv xs.length σ H → D.nx σ H) :
    ∃ W : Nat → Nat → St → Hp → Prop, (∃ m, W 0 m σ H) ∧ ∀ i m σ H, W i m σ H →
      ((Itl K a).stop i H ∧ D.nx σ H) ∨ ((Itl K a).go i H ∧ ∃ N : St → Hp → Prop, (∀ σ' H', N σ' H' → ∃ m', m' < m ∧ W (i + 1) m' σ' H') ∧ ∀ x H', (Itl K a).yld i H x H' → g x σ H' fun σ2 H2 => tb { D with nx := N, ct := N, bk := D.nx } σ2 H2) := by
  refine ⟨fun i m σ H => m = xs.length - i ∧ i ≤ xs.length ∧ Pv i σ H, ⟨xs.length, by simp, Nat.zero_le _, h0⟩, ?_⟩
  rintro i m σ H ⟨rfl, hi, p⟩
  have q := hl i σ H hi p
  by_cases hlt : i < xs.length
  · refine .inr ⟨⟨xs, xs[i], q, by simp [hlt]⟩, Pv (i + 1), fun σ' H' p' => ⟨xs.length - (i + 1), by omega, rfl, hlt, p'⟩, fun x H' y => ?_⟩
    obtain ⟨e, y⟩ := y
    subst e
    exact hs i x σ _ (y xs q) p
  · have e : i = xs.length := by omega
    subst e
    exact .inl ⟨⟨xs, q, Nat.le_refl _⟩, hd σ H p⟩
theorem for_range {lo : Int} {n : Nat} {g : TG} {tb : TS} {D : Ends} {σ : St} {H : Hp} (Pv : Nat → St → Hp → Prop) (h0 : Pv 0 σ H)
    (hs : ∀ i σ H, i < n → Pv i σ H → g (.int (lo + i)) σ H fun σ2 H2 => tb { D with nx := Pv (i + 1), ct := Pv (i + 1), bk := D.nx } σ2 H2) (hd : ∀ σ H, Pv n σ H → D.nx σ H) :
    ∃ W : Nat → Nat → St → Hp → Prop, (∃ m, W 0 m σ H) ∧ ∀ i m σ H, W i m σ H →
      ((Itr lo n).stop i H ∧ D.nx σ H) ∨ ((Itr lo n).go i H ∧ ∃ N : St → Hp → Prop, (∀ σ' H', N σ' H' → ∃ m', m' < m ∧ W (i + 1) m' σ' H') ∧ ∀ x H', (Itr lo n).yld i H x H' → g x σ H' fun σ2 H2 => tb { D with nx := N, ct := N, bk := D.nx } σ2 H2) := by
  refine ⟨fun i m σ H => m = n - i ∧ i ≤ n ∧ Pv i σ H, ⟨n, by simp, Nat.zero_le _, h0⟩, ?_⟩
  rintro i m σ H ⟨rfl, hi, p⟩
  by_cases hlt : i < n
  · refine .inr ⟨hlt, Pv (i + 1), fun σ' H' p' => ⟨n - (i + 1), by omega, rfl, hlt, p'⟩, fun x H' y => ?_⟩
    obtain ⟨e, y⟩ := y
    subst e y
    exact hs i σ _ hlt p
  · have e : i = n := by omega
    subst e
    exact .inl ⟨Nat.le_refl _, hd σ H p⟩
/-- while, by a word and a measure of the state -/
theorem while_by {c : TT} {tb : TS} {D : Ends} {σ : St} {H : Hp} (Pv : St → Hp → Prop) (μ : St → Hp → Nat) (h0 : Pv σ H)
    (hs : ∀ σ H, Pv σ H → c σ H fun b H1 => if b = true then tb { D with nx := fun σ' H' => Pv σ' H' ∧ μ σ' H' < μ σ H, ct := fun σ' H' => Pv σ' H' ∧ μ σ' H' < μ σ H, bk := D.nx } σ H1 else D.nx σ H1)
    (mono : ∀ σ H Q Q', (∀ b H1, Q b H1 → Q' b H1) → c σ H Q → c σ H Q') : tWhile c tb D σ H := by
  refine ⟨fun m σ H => m = μ σ H ∧ Pv σ H, ⟨_, rfl, h0⟩, ?_⟩
  rintro m σ H ⟨rfl, p⟩
  refine mono σ H _ _ (fun b H1 q => ?_) (hs σ H p)
  cases b with
  | true => exact ⟨_, fun σ' H' ⟨p', l⟩ => ⟨_, l, rfl, p'⟩, q⟩
  | false => exact q
end L2

namespace L2
open PySem PySem.Spec PyProof.Rows

abbrev R2 := V → V → Hp → VK → Prop
/-- a two-place operation on values: f is binaryOp op, inplaceOp op or compareOp op -/
def OpR (X : Cx) (f : Value → Value → Sem Value) (r : R2) : Prop :=
  ∀ (pins : List (Addr × Obj)) (s : Shared) (σ : St) (H : Hp) (x y : V) (v u : Value) (Q : VK), Inv X pins σ H s → RelV x v → RelV y u → r x y H Q →
    wpAny (model X.prog X.w) X.A (f v u) (EP X pins σ Q) X.xe s
/-- a one-place operation -/
def UnR (X : Cx) (f : Value → Sem Value) (r : V → Hp → VK → Prop) : Prop :=
  ∀ (pins : List (Addr × Obj)) (s : Shared) (σ : St) (H : Hp) (x : V) (v : Value) (Q : VK), Inv X pins σ H s → RelV x v → r x H Q →
    wpAny (model X.prog X.w) X.A (f v) (EP X pins σ Q) X.xe s
/-- a call of a value that is known (a builtin, a type) with values -/
def CallR (X : Cx) (f : Value) (r : List V → Hp → VK → Prop) : Prop :=
  ∀ (pins : List (Addr × Obj)) (s : Shared) (σ : St) (H : Hp) (xs : List V) (us : List Value) (Q : VK), Inv X pins σ H s → Vals xs us → r xs H Q →
    wpAny (model X.prog X.w) X.A (call f us) (EP X pins σ Q) X.xe s
def tOp (r : R2) (ta tb : TE) : TE := fun σ H Q => ta σ H fun x H1 => tb σ H1 fun y H2 => r x y H2 Q
def tUn (r : V → Hp → VK → Prop) (ta : TE) : TE := fun σ H Q => ta σ H fun x H1 => r x H1 Q
/-- ints in, under C, and a value out -/
def rI (C : Int → Int → Prop) (g : Int → Int → V) : R2 := fun x y H Q => ∃ i j, x = .int i ∧ y = .int j ∧ C i j ∧ Q (g i j) H
def rI0 (g : Int → Int → V) : R2 := fun x y H Q => ∃ i j, x = .int i ∧ y = .int j ∧ Q (g i j) H
def rU (g : Int → V) : V → Hp → VK → Prop := fun x H Q => ∃ i, x = .int i ∧ Q (g i) H

section
variable {X : Cx} {a b c : Expr} {ta tb tc : TE} {pos : Pos}

theorem binT (ha : PE X a ta) (hb : PE X b tb) {pins : List (Addr × Obj)} {s : Shared} {σ : St} {H : Hp} {R : V → V → Hp → Prop} (I : Inv X pins σ H s)
    (h : ta σ H fun x H1 => tb σ H1 fun y H2 => R x y H2) {Q : Value → Shared → Prop} {f : Value → Value → Sem Value}
    (hf : ∀ v u s2 x y H2, Inv X pins σ H2 s2 → RelV x v → RelV y u → R x y H2 → wpAny (model X.prog X.w) X.A (f v u) Q X.xe s2) :
    wpAny (model X.prog X.w) X.A (eval a X.env) (fun v s₁ => wpAny (model X.prog X.w) X.A (eval b X.env) (fun u s₂ => wpAny (model X.prog X.w) X.A (f v u) Q X.xe s₂) X.xe s₁) X.xe s := by
  refine thn (ha pins s σ H _ I h) fun v s1 ⟨x, H1, I1, r1, q1⟩ => ?_
  refine thn (hb pins s1 σ H1 _ I1 q1) fun u s2 ⟨y, H2, I2, r2, q2⟩ => ?_
  exact hf v u s2 x y H2 I2 r1 r2 q2

theorem pe_op {op : Operator} {r : R2} (ho : OpR X (binaryOp op) r) (ha : PE X a ta) (hb : PE X b tb) : PE X (.BinOp a op b pos) (tOp r ta tb) := by
  intro pins s σ H Q I h
  exact wpAny_BinOp (binT ha hb I h fun v u s2 x y H2 I2 rx ry q => ho pins s2 σ H2 x y v u Q I2 rx ry q)
theorem pe_un {op : UnaryOp} {r : V → Hp → VK → Prop} (ho : UnR X (unaryOp op) r) (ha : PE X a ta) : PE X (.UnaryOp op a pos) (tUn r ta) := by
  intro pins s σ H Q I h
  exact UnaryOp_ (thn (ha pins s σ H _ I h) fun v s1 ⟨x, H1, I1, r1, q1⟩ => ho pins s1 σ H1 x v Q I1 r1 q1)
/-! ### ints -/
theorem opI {f : Value → Value → Sem Value} {C : Int → Int → Prop} {g : Int → Int → Int}
    (rule : ∀ (i j : Int) (t u : Tok) (s : Shared) (Q : Value → Shared → Prop) (E : Value → Shared → Prop), C i j → Q (.int (g i j) s.toks) { s with toks := s.toks + 1 } → wpAny (model X.prog X.w) X.A (f (.int i t) (.int j u)) Q E s) :
    OpR X f (rI C fun i j => .int (g i j)) := by
  intro pins s σ H x y v u Q I rx ry h
  obtain ⟨i, j, rfl, rfl, hc, q⟩ := h
  obtain ⟨t, rfl⟩ := rx
  obtain ⟨t', rfl⟩ := ry
  exact rule i j t t' s _ _ hc ⟨.int (g i j), H, I.tok _, ⟨_, rfl⟩, q⟩
theorem opI0 {f : Value → Value → Sem Value} {g : Int → Int → Int}
    (rule : ∀ (i j : Int) (t u : Tok) (s : Shared) (Q : Value → Shared → Prop) (E : Value → Shared → Prop), Q (.int (g i j) s.toks) { s with toks := s.toks + 1 } → wpAny (model X.prog X.w) X.A (f (.int i t) (.int j u)) Q E s) :
    OpR X f (rI0 fun i j => .int (g i j)) := by
  intro pins s σ H x y v u Q I rx ry h
  obtain ⟨i, j, rfl, rfl, q⟩ := h
  obtain ⟨t, rfl⟩ := rx
  obtain ⟨t', rfl⟩ := ry
  exact rule i j t t' s _ _ ⟨.int (g i j), H, I.tok _, ⟨_, rfl⟩, q⟩
theorem opB0 {f : Value → Value → Sem Value} {g : Int → Int → Bool}
    (rule : ∀ (i j : Int) (t u : Tok) (s : Shared) (Q : Value → Shared → Prop) (E : Value → Shared → Prop), Q (.bool (g i j)) s → wpAny (model X.prog X.w) X.A (f (.int i t) (.int j u)) Q E s) :
    OpR X f (rI0 fun i j => .bl (g i j)) := by
  intro pins s σ H x y v u Q I rx ry h
  obtain ⟨i, j, rfl, rfl, q⟩ := h
  obtain ⟨t, rfl⟩ := rx
  obtain ⟨t', rfl⟩ := ry
  exact rule i j t t' s _ _ ⟨.bl (g i j), H, I, rfl, q⟩

theorem op_add : OpR X (binaryOp .Add) (rI0 fun i j => .int (i + j)) := opI0 fun _ _ _ _ _ _ _ q => add_int q
theorem op_sub : OpR X (binaryOp .Sub) (rI0 fun i j => .int (i - j)) := opI0 fun _ _ _ _ _ _ _ q => sub_int q
theorem op_modN : OpR X (binaryOp .Mod) (rI (fun _ j => j ≠ 0) fun i j => .int (i.fmod j)) := opI fun _ _ _ _ _ _ _ hc q => mod_int' hc q
theorem unI {f : Value → Sem Value} {g : Int → Int}
    (rule : ∀ (i : Int) (t : Tok) (s : Shared) (Q : Value → Shared → Prop) (E : Value → Shared → Prop), Q (.int (g i) s.toks) { s with toks := s.toks + 1 } → wpAny (model X.prog X.w) X.A (f (.int i t)) Q E s) :
    UnR X f (rU fun i => .int (g i)) := by
  intro pins s σ H x v Q I rx h
  obtain ⟨i, rfl, q⟩ := h
  obtain ⟨t, rfl⟩ := rx
  exact rule i t s _ _ ⟨.int (g i), H, I.tok _, ⟨_, rfl⟩, q⟩
theorem un_neg : UnR X (unaryOp .USub) (rU fun i => .int (-i)) := unI fun _ _ _ _ _ q => neg_int q
/-! ### bools among ints: n += (a < b) -/
end

/-! ### comparisons -/
/-- the scalars that == tells apart as data does -/
def scal : V → V → Bool
  | .non, .non => true | .non, .int _ => true | .int _, .non => true | .non, .bl _ => true | .bl _, .non => true | .non, .str _ => true | .str _, .non => true
  | .int _, .int _ => true | .bl _, .bl _ => true | .str _, .str _ => true | .byt _, .byt _ => true
  | .int _, .str _ => true | .str _, .int _ => true | .bl _, .str _ => true | .str _, .bl _ => true
  | _, _ => false
def rEq : R2 := fun x y H Q => scal x y = true ∧ Q (.bl (decide (x = y))) H
def rNe : R2 := fun x y H Q => scal x y = true ∧ Q (.bl (!decide (x = y))) H

theorem dec_int {i j : Int} : decide (V.int i = V.int j) = (i == j) := by
  rw [Bool.eq_iff_iff]
  simp
theorem dec_bl {i j : Bool} : decide (V.bl i = V.bl j) = (i == j) := by
  rw [Bool.eq_iff_iff]
  simp
theorem dec_str {i j : Str} : decide (V.str i = V.str j) = (i == j) := by
  rw [Bool.eq_iff_iff]
  simp
theorem dec_byt {i j : Array UInt8} : decide (V.byt i = V.byt j) = (i.toList == j.toList) := by
  rw [Bool.eq_iff_iff]
  cases i
  cases j
  simp

section
variable {X : Cx} {a b c : Expr} {ta tb tc : TE} {pos : Pos}
theorem fin_bl {pins : List (Addr × Obj)} {σ : St} {H : Hp} {s : Shared} {Q : VK} {k k' : Bool} (I : Inv X pins σ H s) (q : Q (.bl k) H) (e : k = k') : EP X pins σ Q (.bool k') s := by
  subst e
  exact ⟨.bl k, H, I, rfl, q⟩
theorem op_eq : OpR X (compareOp .Eq) rEq := by
  intro pins s σ H x y v u Q I rx ry h
  obtain ⟨hs, q⟩ := h
  cases x with
  | non =>
    cases rx
    cases y with
    | non => cases ry; exact PySem.EqNone.eq_none_none (fin_bl I q (by simp))
    | bl j => cases ry; exact PySem.EqNone.eq_none_bool (fin_bl I q (by simp))
    | int j => obtain ⟨t', rfl⟩ := ry; exact PySem.EqNone.eq_none_int (fin_bl I q (by simp))
    | str j => obtain ⟨t', rfl⟩ := ry; exact PySem.EqNone.eq_none_str (fin_bl I q (by simp))
    | _ => exact absurd (show false = true from hs) Bool.false_ne_true
  | bl i =>
    cases rx
    cases y with
    | non => cases ry; exact PySem.EqNone.eq_bool_none (fin_bl I q (by simp))
    | bl j => cases ry; exact eq_bool (fin_bl I q dec_bl)
    | str j => obtain ⟨t', rfl⟩ := ry; exact PySem.EqMixed.eq_bool_str (fin_bl I q (by simp))
    | _ => exact absurd (show false = true from hs) Bool.false_ne_true
  | int i =>
    obtain ⟨t, rfl⟩ := rx
    cases y with
    | non => cases ry; exact PySem.EqNone.eq_int_none (fin_bl I q (by simp))
    | int j => obtain ⟨t', rfl⟩ := ry; exact eq_int (fin_bl I q dec_int)
    | str j => obtain ⟨t', rfl⟩ := ry; exact PySem.EqMixed.eq_int_str (fin_bl I q (by simp))
    | _ => exact absurd (show false = true from hs) Bool.false_ne_true
  | str i =>
    obtain ⟨t, rfl⟩ := rx
    cases y with
    | non => cases ry; exact PySem.EqNone.eq_str_none (fin_bl I q (by simp))
    | bl j => cases ry; exact PySem.EqMixed.eq_str_bool (fin_bl I q (by simp))
    | int j => obtain ⟨t', rfl⟩ := ry; exact PySem.EqMixed.eq_str_int (fin_bl I q (by simp))
    | str j => obtain ⟨t', rfl⟩ := ry; exact eq_str (fin_bl I q dec_str)
    | _ => exact absurd (show false = true from hs) Bool.false_ne_true
  | byt i =>
    obtain ⟨t, rfl⟩ := rx
    cases y with
    | byt j => obtain ⟨t', rfl⟩ := ry; exact PySem.W.eq_bytes (fin_bl I q dec_byt)
    | _ => exact absurd (show false = true from hs) Bool.false_ne_true
  | _ => cases y <;> exact absurd (show false = true from hs) Bool.false_ne_true
theorem op_ne : OpR X (compareOp .NotEq) rNe := by
  intro pins s σ H x y v u Q I rx ry h
  obtain ⟨hs, q⟩ := h
  cases x with
  | non =>
    cases rx
    cases y with
    | non => cases ry; exact PySem.EqNone.ne_none_none (fin_bl I q (by simp))
    | bl j => cases ry; exact PySem.EqNone.ne_none_bool (fin_bl I q (by simp))
    | int j => obtain ⟨t', rfl⟩ := ry; exact PySem.EqNone.ne_none_int (fin_bl I q (by simp))
    | str j => obtain ⟨t', rfl⟩ := ry; exact PySem.EqNone.ne_none_str (fin_bl I q (by simp))
    | _ => exact absurd (show false = true from hs) Bool.false_ne_true
  | bl i =>
    cases rx
    cases y with
    | non => cases ry; exact PySem.EqNone.ne_bool_none (fin_bl I q (by simp))
    | bl j => cases ry; exact ne_bool (fin_bl I q (congrArg not dec_bl))
    | str j => obtain ⟨t', rfl⟩ := ry; exact PySem.EqMixed.ne_bool_str (fin_bl I q (by simp))
    | _ => exact absurd (show false = true from hs) Bool.false_ne_true
  | int i =>
    obtain ⟨t, rfl⟩ := rx
    cases y with
    | non => cases ry; exact PySem.EqNone.ne_int_none (fin_bl I q (by simp))
    | int j => obtain ⟨t', rfl⟩ := ry; exact ne_int (fin_bl I q (congrArg not dec_int))
    | str j => obtain ⟨t', rfl⟩ := ry; exact PySem.EqMixed.ne_int_str (fin_bl I q (by simp))
    | _ => exact absurd (show false = true from hs) Bool.false_ne_true
  | str i =>
    obtain ⟨t, rfl⟩ := rx
    cases y with
    | non => cases ry; exact PySem.EqNone.ne_str_none (fin_bl I q (by simp))
    | bl j => cases ry; exact PySem.EqMixed.ne_str_bool (fin_bl I q (by simp))
    | int j => obtain ⟨t', rfl⟩ := ry; exact PySem.EqMixed.ne_str_int (fin_bl I q (by simp))
    | str j => obtain ⟨t', rfl⟩ := ry; exact ne_str (fin_bl I q (congrArg not dec_str))
    | _ => exact absurd (show false = true from hs) Bool.false_ne_true
  | byt i =>
    obtain ⟨t, rfl⟩ := rx
    cases y with
    | byt j => obtain ⟨t', rfl⟩ := ry; exact PySem.W.ne_bytes (fin_bl I q (congrArg not dec_byt))
    | _ => exact absurd (show false = true from hs) Bool.false_ne_true
  | _ => cases y <;> exact absurd (show false = true from hs) Bool.false_ne_true

theorem op_lt : OpR X (compareOp .Lt) (rI0 fun i j => .bl (decide (i < j))) := opB0 fun _ _ _ _ _ _ _ q => lt_int q
theorem op_le : OpR X (compareOp .LtE) (rI0 fun i j => .bl (decide (i ≤ j))) := opB0 fun _ _ _ _ _ _ _ q => le_int q
theorem op_gt : OpR X (compareOp .Gt) (rI0 fun i j => .bl (decide (j < i))) := opB0 fun _ _ _ _ _ _ _ q => gt_int q
/-- is None, is not None: the right side a value none -/
theorem op_isN : OpR X (compareOp .Is) (fun x y H Q => y = .non ∧ Q (.bl (decide (x = .non))) H) := by
  intro pins s σ H x y v u Q I rx ry h
  obtain ⟨rfl, q⟩ := h
  cases ry
  refine is_none_gen (fin_bl I q ?_)
  cases x <;> first
    | (cases rx; rfl)
    | (obtain ⟨t, rfl⟩ := rx; rfl)
theorem op_notN : OpR X (compareOp .IsNot) (fun x y H Q => y = .non ∧ Q (.bl (!decide (x = .non))) H) := by
  intro pins s σ H x y v u Q I rx ry h
  obtain ⟨rfl, q⟩ := h
  cases ry
  refine isnot_none_gen (fin_bl I q ?_)
  cases x <;> first
    | (cases rx; rfl)
    | (obtain ⟨t, rfl⟩ := rx; rfl)

theorem nomark (b : Expr) {op : CmpOp} (h : op ≠ .In := by decide) (h2 : op ≠ .NotIn := by decide) : behindInMarks op b = false := by
  have e1 : (op == CmpOp.In) = false := by cases op <;> first | rfl | exact absurd rfl h
  have e2 : (op == CmpOp.NotIn) = false := by cases op <;> first | rfl | exact absurd rfl h2
  cases b <;> simp [behindInMarks, e1, e2]
/-- a comparison as a value; hm: nomark b, or (for in, not in) by with_unfolding_all rfl -/
theorem pe_cmpR {op : CmpOp} {r : R2} (ho : OpR X (compareOp op) r) (ha : PE X a ta) (hb : PE X b tb) (hm : behindInMarks op b = false) : PE X (.Compare a [op] [b] pos) (tOp r ta tb) := by
  intro pins s σ H Q I h
  exact wpAny_Compare1 (binT ha hb I h fun v u s2 x y H2 I2 rx ry q => ho pins s2 σ H2 x y v u Q I2 rx ry q) hm
/-- a reading of a value as a test -/
def tTest (t : TE) : TT := fun σ H Q => t σ H fun x H' => ∃ k, x = .bl k ∧ Q k H'
theorem pt_cmpR {op : CmpOp} {r : R2} (ho : OpR X (compareOp op) r) (ha : PE X a ta) (hb : PE X b tb) (hm : behindInMarks op b = false) : PT X (.Compare a [op] [b] pos) (tTest (tOp r ta tb)) := by
  intro pins s σ H Q I h
  refine wpAny_isTrue_Compare1 (thn (ha pins s σ H _ I h) fun v s1 ⟨x, H1, I1, r1, q1⟩ => thn (hb pins s1 σ H1 _ I1 q1) fun u s2 ⟨y, H2, I2, r2, q2⟩ =>
    thn (ho pins s2 σ H2 x y v u _ I2 r1 r2 q2) fun c s3 ⟨z, H3, I3, r3, k, e, q3⟩ => ?_) hm
  subst e
  cases r3
  exact wpAny_truthy_bool ⟨H3, I3, q3⟩
/-! ### truth -/
theorem line63 : (sizeLine : Nat) < 2 ^ 63 := by rw [sizeLine_eq]; decide
/-! ### strs and bytes -/
theorem op_add_str : OpR X (binaryOp .Add) (fun x y H Q => ∃ i j, x = .str i ∧ y = .str j ∧ i.length + j.length ≤ sizeLine ∧ Q (.str (i ++ j)) H) := by
  intro pins s σ H x y v u Q I rx ry h
  obtain ⟨i, j, rfl, rfl, hz, q⟩ := h
  obtain ⟨t, rfl⟩ := rx
  obtain ⟨t', rfl⟩ := ry
  exact add_str (fun t' tk => ⟨.str (i ++ j), H, I.tok _, ⟨_, rfl⟩, q⟩) hz
/-! ### scalar builtins, by CallR -/
theorem vals1 {x : V} {us : List Value} (r : Vals [x] us) : ∃ u, us = [u] ∧ RelV x u := by
  cases r with
  | cons r1 r2 => cases r2; exact ⟨_, rfl, r1⟩
theorem vals2 {x y : V} {us : List Value} (r : Vals [x, y] us) : ∃ u w', us = [u, w'] ∧ RelV x u ∧ RelV y w' := by
  cases r with
  | cons r1 r2 =>
    cases r2 with
    | cons r3 r4 => cases r4; exact ⟨_, _, rfl, r1, r3⟩
theorem call_abs : CallR X (.builtin "abs") (fun xs H Q => ∃ i, xs = [.int i] ∧ Q (.int (if i < 0 then -i else i)) H) := by
  intro pins s σ H xs us Q I r h
  obtain ⟨i, rfl, q⟩ := h
  obtain ⟨u, rfl, t, rfl⟩ := vals1 r
  exact call_abs_int fun u tk => ⟨.int (if i < 0 then -i else i), H, I.tok _, ⟨_, rfl⟩, q⟩
theorem call_max2 (hc : X.calm = true) : CallR X (.builtin "max") (fun xs H Q => ∃ i j, xs = [.int i, .int j] ∧ Q (.int (if j > i then j else i)) H) := by
  intro pins s σ H xs us Q I r h
  obtain ⟨i, j, rfl, q⟩ := h
  obtain ⟨u, w', rfl, ⟨t, rfl⟩, ⟨t', rfl⟩⟩ := vals2 r
  refine max_two_ints (I.ok.hd hc) fun h' tk k => ⟨_, H, I.kept k, ?_, q⟩
  by_cases hj : j > i
  · rw [if_pos hj, if_pos hj]; exact ⟨_, rfl⟩
  · rw [if_neg hj, if_neg hj]; exact ⟨_, rfl⟩
end
end L2

namespace L2
open PySem PySem.Spec PyProof.Rows

/-! ### an instance, its attributes a map -/
structure ObjM (h : Heap) (x dx C : Addr) (mA : Str → Option Value) : Prop where
  obj : h.get? x = some (PySem.W.instObj C dx)
  ns : h.Ns1 dx mA
  ne : dx ≠ x

theorem lookIn_ns {h : Heap} {dx : Addr} {mA : Str → Option Value} (n : h.Ns1 dx mA) : ∃ od, h.get? dx = some od ∧ ∀ name, PySem.W.lookIn name od = some (mA name) := by
  obtain ⟨o, es, ep, ho, hd, hk, _, hm⟩ := n
  refine ⟨o, ho, fun name => ?_⟩
  have e := hm name
  unfold nsFind findBy at e
  rw [← Array.find?_toList] at e
  unfold PySem.W.lookIn
  rw [hd]
  dsimp only
  split
  · rename_i y q
    rw [q] at e
    exact congrArg some e
  · rename_i q
    rw [q] at e
    have a : es.toList.any (·.refKey) = false := by
      rw [List.any_eq_false]
      intro y hy
      obtain ⟨z, t, hkey⟩ := hk y (Array.mem_toList_iff.mp hy)
      simp [DictEntry.refKey, hkey]
    have a' : ¬ es.toList.any (·.refKey) = true := by rw [a]; exact Bool.false_ne_true
    rw [if_neg a']
    exact congrArg some e

theorem ObjM.look {h : Heap} {x dx C : Addr} {mA : Str → Option Value} (I : ObjM h x dx C mA) : ∃ od, PySem.W.InstAt h x (PySem.W.instObj C dx) C (some od) ∧ ∀ name, PySem.W.lookIn name od = some (mA name) :=
  let ⟨od, ho, hl⟩ := lookIn_ns I.ns
  ⟨od, ⟨I.obj, rfl, rfl, ho⟩, hl⟩

section
variable {prog : Program} {w : World} {A : Around} {E : Value → Shared → Prop} {s : Shared} {K : PySem.W.Frag} {x dx C f : Addr} {mA : Str → Option Value} {name : Str} {v : Value}

end

/-! ### the attributes as a list of pairs -/
theorem RelO.some_of {v : V} {o : Option Value} (r : RelO (some v) o) : ∃ u, o = some u ∧ RelV v u := by
  cases o with
  | none => exact (show False from r).elim
  | some u => exact ⟨u, rfl, r⟩
theorem handed_of {v : V} {u : Value} (r : RelV v u) : PySem.W.handedIn u = true := by
  cases v with
  | non => cases (show u = Value.none from r); rfl
  | bl b => cases (show u = Value.bool b from r); rfl
  | int i => obtain ⟨t, e⟩ := (show ∃ t, u = Value.int i t from r); cases e; rfl
  | str x => obtain ⟨t, e⟩ := (show ∃ t, u = Value.str x t from r); cases e; rfl
  | byt b => obtain ⟨t, e⟩ := (show ∃ t, u = Value.bytes b t from r); cases e; rfl
  | flt b => obtain ⟨t, e⟩ := (show ∃ t, u = Value.float b t from r); cases e; rfl
  | ref a => cases (show u = Value.ref a from r); rfl
  | ty n => cases (show u = Value.type n from r); rfl

section
variable {P : Program} {w : World} {H H' : Hp} {h h' : Heap} {a C dx : Addr} {fs fs' : List (Str × V)}
theorem ins_get (hok : HOk P w H h) (e : H a = some (.ins C dx fs)) : ∃ mA, ObjM h a dx C mA ∧ (∀ f, RelO (fs.lookup f) (mA f)) ∧ PySem.Within mA (fs.map (·.1)) ∧ fs.length ≤ 1000 ∧ H dx = some (.own a) := by
  obtain ⟨d, z, ne, ob, mA, n, r, q⟩ := (show ObjOk P w H h a (.ins C dx fs) from hok a _ e)
  exact ⟨mA, ⟨ob, n, ne⟩, r, q, z, d⟩
end

/-! ### what of the text a class must have -/
structure Cls (K : PySem.W.Frag) (C : Addr) : Prop where
  pg : PySem.W.plainGet K C Str.empty = true
  hd : PySem.W.hasDictIn K C = true
  po : PySem.W.plainOver K C = true
  sa : PySem.W.findIn K (.ref C) "__setattr__" = some (some (.builtin "object.__setattr__"))
theorem Cls.get {K : PySem.W.Frag} {C : Addr} (c : Cls K C) (f : Str) : PySem.W.plainGet K C f = true := c.pg
section
variable {X : Cx} {pins : List (Addr × Obj)} {σ : St} {H : Hp} {s : Shared} {a C dx : Addr} {fs : List (Str × V)} {f : Str} {v : V} {A : Around} {E : Value → Shared → Prop}

/-- e.f where nothing but the object is asked: through attributeBase (super) and the last hold -/
theorem attr_of {prog : Program} {w : World} {env : Env} {e : Expr} {f : Str} {pos : Pos} {s : Shared} {Q : Value → Shared → Prop} (hb : attributeBase e f env (eval e env) = eval e env)
    (h : wpAny (model prog w) A (eval e env) (fun o s₁ => wpAny (model prog w) A (getAttr o f true) Q E s₁) E s) : wpAny (model prog w) A (eval (.Attribute e f pos) env) Q E s :=
  Attribute_any_ h (by rw [arm_eval_Attribute, hb])
end

/-! ### readings and rules -/
section
variable {X : Cx} {o e value : Expr} {f : Str} {pos pos' tpos : Pos} {ta tv : TE}
end

/-! ### isinstance -/
section
variable {X : Cx} {pins : List (Addr × Obj)} {σ : St} {H : Hp} {s : Shared} {A : Around} {E : Value → Shared → Prop} {Q : Value → Shared → Prop} {c : Value} {b : Bool}
/-- the type of a value, as the fragment's deciders take it; for an instance its class -/
inductive TyOf (K : PySem.W.Frag) (H : Hp) : V → Value → Prop where
  | non : TyOf K H .non (.type "NoneType")
  | bl (x : Bool) : TyOf K H (.bl x) (.type "bool")
  | int (i : Int) : TyOf K H (.int i) (.type "int")
  | str (x : Str) : TyOf K H (.str x) (.type "str")
  | flt (x : UInt64) : TyOf K H (.flt x) (.type "float")
  | lst {a : Addr} {xs : List V} (e : H a = some (.lst xs)) : TyOf K H (.ref a) (.type "list")
  | frz {a : Addr} {o : Obj} {xs : List V} (e : H a = some (.frz o (.lst xs))) : TyOf K H (.ref a) (.type "list")
  | tup {a : Addr} {xs : List V} (e : H a = some (.tup xs)) : TyOf K H (.ref a) (.type "tuple")
  | dK {a : Addr} {kvs : List (Key × V)} (e : H a = some (.dK kvs)) : TyOf K H (.ref a) (.type "dict")
  | dT {a : Addr} {kvs : List (List Key × V)} (e : H a = some (.dT kvs)) : TyOf K H (.ref a) (.type "dict")
  | ins {a C dx : Addr} {fs : List (Str × V)} (e : H a = some (.ins C dx fs)) (cl : Cls K C) (ha : PySem.W.findIn K (.ref C) "__class__" = some (some (.builtin "object.__class__")))
      (hn : PySem.W.specialIn K (.builtin "object.__class__") "__get__" = some (some (.builtin "getset_descriptor.__get__"))) (htk : PySem.W.takesIn K (.builtin "object.__class__") = some true)
      (hm : PySem.W.mroIn K C (.type "object") = some true) : TyOf K H (.ref a) (.ref C)
/-- isinstance(x, c) for one class c, a built-in or an own one: kitOne's answer -/
theorem isinst_ok {x : V} {u t : Value} (I : Inv X pins σ H s) (rx : RelV x u) (ty : TyOf X.K H x t) (e : PySem.W.kitOne X.K t c = some b) (h : ∀ tk, Q (.bool b) { s with toks := tk }) :
    wpAny (model X.prog X.w) A (call (.builtin "isinstance") [u, c]) Q E s := by
  cases ty with
  | non => cases (show u = Value.none from rx); exact PySem.W.kia_one PySem.W.kitx_none I.kIn True.intro e (fun z => nomatch z) h
  | bl y => cases (show u = Value.bool y from rx); exact PySem.W.kia_one PySem.W.kitx_bool I.kIn True.intro e (fun z => nomatch z) h
  | int i => obtain ⟨t, q⟩ := (show ∃ t, u = Value.int i t from rx); cases q; exact PySem.W.kia_one PySem.W.kitx_int I.kIn True.intro e (fun z => nomatch z) h
  | str y => obtain ⟨t, q⟩ := (show ∃ t, u = Value.str y t from rx); cases q; exact PySem.W.kia_one PySem.W.kitx_str I.kIn True.intro e (fun z => nomatch z) h
  | flt y => obtain ⟨t, q⟩ := (show ∃ t, u = Value.float y t from rx); cases q; exact PySem.W.kia_one PySem.W.kitx_float I.kIn True.intro e (fun z => nomatch z) h
  | @lst a xs ea =>
    cases (show u = Value.ref a from rx)
    obtain ⟨_, _, n, _, h1⟩ := (show ObjOk X.prog X.w H s.heap a (.lst xs) from I.hok a _ ea)
    exact PySem.W.kia_one PySem.W.kitx_list I.kIn ⟨_, h1, rfl⟩ e (fun z => nomatch z) h
  | @frz a ob xs ea =>
    cases (show u = Value.ref a from rx)
    obtain ⟨_, _, _, n, _, h1⟩ := (show ObjOk X.prog X.w H s.heap a (.frz ob (.lst xs)) from I.hok a _ ea)
    exact PySem.W.kia_one PySem.W.kitx_list I.kIn ⟨_, h1, rfl⟩ e (fun z => nomatch z) h
  | @tup a xs ea =>
    cases (show u = Value.ref a from rx)
    obtain ⟨_, _, _, p⟩ := (show ObjOk X.prog X.w H s.heap a (.tup xs) from I.hok a _ ea)
    obtain ⟨o, h1, h2, _⟩ := p
    exact PySem.W.kia_one PySem.W.kitx_tuple I.kIn ⟨o, h1, h2⟩ e (fun z => nomatch z) h
  | @dK a kvs ea =>
    cases (show u = Value.ref a from rx)
    obtain ⟨_, _, vs, _, p⟩ := (show ObjOk X.prog X.w H s.heap a (.dK kvs) from I.hok a _ ea)
    obtain ⟨o, es, ep, h1, h2, _⟩ := p
    exact PySem.W.kia_one PySem.W.kitx_dict I.kIn ⟨o, h1, h2.1⟩ e (fun z => nomatch z) h
  | @dT a kvs ea =>
    cases (show u = Value.ref a from rx)
    obtain ⟨_, _, xs, _, o, es, ep, h1, h2, _⟩ := (show ObjOk X.prog X.w H s.heap a (.dT kvs) from I.hok a _ ea)
    exact PySem.W.kia_one PySem.W.kitx_dict I.kIn ⟨o, h1, h2.1⟩ e (fun z => nomatch z) h
  | @ins a C dx fs ea cl ha hn htk hm =>
    cases (show u = Value.ref a from rx)
    obtain ⟨mA, O, _⟩ := ins_get I.hok ea
    obtain ⟨od, J, _⟩ := O.look
    exact PySem.W.kia_one (PySem.W.kitx_own (cl.get _) cl.hd ha hn htk hm) I.kIn J e (fun z => nomatch z) h
end
end L2

namespace L2
open PySem PySem.Spec PyProof.Rows

/-! ### room -/
structure Room (k : Nat) (A : Around) : Prop where
  hd : A.handled = none
  dp : A.depth + 3 * k + 5 < recursionLimit
  un : A.units + 16 * k + 200 < cLine
theorem Room.mono {j k : Nat} {A : Around} (r : Room k A) (h : j ≤ k) : Room j A := ⟨r.hd, by have := r.dp; omega, by have := r.un; omega⟩
theorem Room.deeper {k : Nat} {A : Around} (r : Room (k + 1) A) (env : Env) : Room k (A.deeper env) :=
  ⟨r.hd, by have := r.dp; show A.depth + 1 + 3 * k + 5 < _; omega, by have := r.un; show A.units + 3 + 16 * k + 200 < _; omega⟩
theorem make_depth {A : Around} {C : Addr} {us : List Value} {kw : List (Str × Value)} : (A.under (.builtin "type.__call__" ⟨.ref C :: us, kw⟩)).depth = A.depth + 1 := by
  first | rfl | simp [Around.under, Code.weight, Code.isCreation, Code.isGuard, Code.isCaller, Code.frames, Code.isFrame, guardIds]
theorem make_units {A : Around} {C : Addr} {us : List Value} {kw : List (Str × Value)} : (A.under (.builtin "type.__call__" ⟨.ref C :: us, kw⟩)).units = A.units + 1 := by
  first | rfl | simp [Around.under, Code.cUnits, Code.frames, Code.isFrame]
theorem Room.make {k : Nat} {A : Around} (r : Room (k + 1) A) (C : Addr) (us : List Value) (kw : List (Str × Value)) : Room k (A.under (.builtin "type.__call__" ⟨.ref C :: us, kw⟩)) :=
  ⟨r.hd, by have := r.dp; rw [make_depth]; omega, by have := r.un; rw [make_units]; omega⟩
theorem Room.depth {k : Nat} {A : Around} (r : Room k A) : A.depth < recursionLimit := by have := r.dp; omega
theorem Room.units {k : Nat} {A : Around} (r : Room k A) : A.units + 64 < cLine := by have := r.un; omega
theorem Room.units0 {k : Nat} {A : Around} (r : Room k A) : A.units < cLine := by have := r.un; omega

/-! ### argument lists and displays -/
def tNil : TA := fun _ H Q => Q [] H
def tCons (ta : TE) (tr : TA) : TA := fun σ H Q => ta σ H fun x H1 => tr σ H1 fun xs H2 => Q (x :: xs) H2
section
variable {X : Cx} {e : Expr} {es : List Expr} {te : TE} {t : TA} {pos : Pos}
theorem pa_nil : PA X [] tNil := fun _ _ _ _ H Q I h => Calls.spliced_nil ⟨[], H, I, .nil, h⟩
theorem pa_cons (ha : PE X e te) (hr : PA X es t) (hs : starEach (e :: es) X.env = (false, eval e X.env) :: starEach es X.env := by rfl) : PA X (e :: es) (tCons te t) := by
  intro pos pins s σ H Q I h
  rw [hs]
  show wpAny _ _ (spliced ((false, eval e X.env) :: backTo pos (starEach es X.env))) _ _ s
  refine Calls.spliced_cons (thn (ha pins s σ H _ I h) fun u s1 ⟨x, H1, I1, r1, q1⟩ => ?_)
  exact thn (hr pos pins s1 σ H1 _ I1 q1) fun us s2 ⟨xs, H2, I2, r2, q2⟩ => ⟨x :: xs, H2, I2, .cons r1 r2, q2⟩

/-- a tuple, a list of written items -/
def tTup (t : TA) : TE := fun σ H Q => t σ H fun xs H1 => xs.length ≤ sizeLine ∧ ∀ p, H1 p = none → Q (.ref p) (upd H1 p (.tup xs))
def tLst (t : TA) : TE := fun σ H Q => t σ H fun xs H1 => xs.length ≤ sizeLine ∧ ∀ p, H1 p = none → Q (.ref p) (upd H1 p (.lst xs))
theorem pe_tup {x1} (h : PA X es t) : PE X (.Tuple es x1 pos) (tTup t) := by
  intro pins s σ H Q I hq
  refine wpAny_Tuple_spliced (thn (h pos pins s σ H _ I hq) fun us s1 ⟨xs, H1, I1, r, z, q⟩ => ⟨by rw [← r.length]; exact z, ?_⟩)
  have hf : H1 s1.heap.objs.size = none := I1.hok.fresh (Nat.le_refl _)
  refine ⟨.ref s1.heap.objs.size, upd H1 s1.heap.objs.size (.tup xs), I1.laid (t' := s1.toks) (fun b u e => Heap.get?_push_of_some _ e) (Nat.le_refl _) ?_, rfl, q _ hf⟩
  exact ⟨z, us, r, ⟨_, Heap.get?_push_size _ rfl, rfl, _, rfl⟩⟩
theorem pe_lst (h : PA X es t) : PE X (.List es pos) (tLst t) := by
  intro pins s σ H Q I hq
  refine wpAny_List_spliced (thn (h pos pins s σ H _ I hq) fun us s1 ⟨xs, H1, I1, r, z, q⟩ => ⟨by rw [← r.length]; exact z, ?_⟩)
  have hf : H1 s1.heap.objs.size = none := I1.hok.fresh (Nat.le_refl _)
  refine ⟨.ref s1.heap.objs.size, upd H1 s1.heap.objs.size (.lst xs), I1.laid (t' := s1.toks) (fun b u e => Heap.get?_push_of_some _ e) (Nat.le_refl _) ?_, rfl, q _ hf⟩
  exact ⟨z, us, 0, r, Heap.get?_push_size _ rfl⟩
end

/-! ### what a def promises -/
/-- a def's promise: the bound arguments in the parameters' order, the heap, the wanted end, the wanted exception -/
abbrev Sp := List V → Hp → VK → XK → Prop
/-- how an exception lies behind a call (file 08 gives it): the callers' frames, abstract heap and state ahead of the call, the wish, the exception, the state -/
abbrev CXT := List Env → Hp → Shared → XK → Value → Shared → Prop

/-- the state at a call -/
structure Env0 (P : Program) (w : World) (K : PySem.W.Frag) (mg : Str → Option Value) (base : Heap) (A : Around) (outer : List Env) (s : Shared) (H : Hp) : Prop where
  frames : A.frames = some outer
  mod : Mod K mg base
  bs : ∀ b o, base.get? b = some o → s.heap.get? b = some o ∧ H b = none
  bsz : base.objs.size ≤ s.heap.objs.size
  funs : s.heap.FunFrames base outer
  frf : ∀ b ∈ frs outer, H b = none
  hok : HOk P w H s.heap
  bare : AllBare s.gens
/-- a call's end -/
def CE (outer : List Env) (P : Program) (w : World) (H : Hp) (s : Shared) (Q : VK) (u : Value) (s' : Shared) : Prop :=
  ∃ v H', s'.os = s.os ∧ AllBare s'.gens ∧ Un (frs outer) [] H H' s.heap s'.heap ∧ HOk P w H' s'.heap ∧ RelV v u ∧ Q v H'
def CR (CX : CXT) (outer : List Env) (P : Program) (w : World) (H : Hp) (s : Shared) (Q : VK) (E : XK) (r : Result) (s' : Shared) : Prop :=
  match r with
  | .ok (.ret u) => CE outer P w H s Q u s'
  | .ok _ => False
  | .error e => CX outer H s E e s'
structure FnOk (P : Program) (w : World) (K : PySem.W.Frag) (mg : Str → Option Value) (base : Heap) (CX : CXT) (k : Nat) (f : Addr) (fd : FuncData) (ps : List Str) (sp : Sp) : Prop where
  len : ∀ vs H Q E, sp vs H Q E → vs.length = ps.length
  run : ∀ (A : Around) (outer : List Env) (s : Shared) (H : Hp) (args : Args) (us : List Value) (vs : List V) (Q : VK) (E : XK), Room k A → Env0 P w K mg base A outer s H → BindsTo s fd args (ps.zip us) → Vals vs us → sp vs H Q E →
    codeAny (model P w) A (.call (.ref f) args) (CR CX outer P w H s Q E) s
theorem Env0.make {P : Program} {w : World} {K : PySem.W.Frag} {mg : Str → Option Value} {base : Heap} {A : Around} {outer : List Env} {s : Shared} {H : Hp} (e : Env0 P w K mg base A outer s H) (C : Addr) (us : List Value) (kw : List (Str × Value)) :
    Env0 P w K mg base (A.under (.builtin "type.__call__" ⟨.ref C :: us, kw⟩)) outer s H := ⟨by first | exact e.frames | (simpa [Around.under, Code.envs, Code.isFrame, pushEnvs] using e.frames), e.mod, e.bs, e.bsz, e.funs, e.frf, e.hok, e.bare⟩
section
variable {X : Cx} {pins : List (Addr × Obj)} {σ : St} {H : Hp} {s s' : Shared}
/-- from a body: what a callee wants -/
theorem Inv.env0 (I : Inv X pins σ H s) : Env0 X.prog X.w X.K X.mg X.base X.A X.stack s H :=
  ⟨I.ok.frames, I.ok.mod, I.bs, Nat.le_trans I.ok.bsz I.sz, I.stack, I.stkFree, I.hok, I.bare⟩
/-- behind a call -/
theorem Inv.after {Q : VK} {u : Value} (I : Inv X pins σ H s) (h : CE X.stack X.prog X.w H s Q u s') : EP X pins σ Q u s' := by
  obtain ⟨v, H', os, bare, un, hok, r, q⟩ := h
  obtain ⟨hh, g, d, t, os'⟩ := s'
  obtain rfl : os' = s.os := os
  exact ⟨v, H', I.call (h' := hh) (g' := g) (d' := d) (t' := t) (ch := []) un hok bare (fun b z => absurd z (by simp)), r, q⟩
end

/-! ### calls -/
/-- f(..): the written arguments, then the defaults dvs; E: what is wanted of an exception -/
def tCall (sp : Sp) (dvs : List V) (E : XK) (t : TA) : TE := fun σ H Q => t σ H fun vs H1 => sp (vs ++ dvs) H1 Q E
/-- how the parameters are bound: us the positional arguments, kw the keywords' values by name, ds the defaults that fill up -/
def Binds (K : PySem.W.Frag) (fd : FuncData) (ps : List Str) (ds : List Value) : Prop :=
  ∀ (s : Shared) (us : List Value), K.In s.heap → (us ++ ds).length = ps.length → BindsTo s fd ⟨us, []⟩ (ps.zip (us ++ ds))
/-- every parameter is given -/
theorem Binds.all {K : PySem.W.Frag} {fd : FuncData} {ps : List Str} (h : ∀ us : List Value, us.length = ps.length → bindArgs fd ⟨us, []⟩ = pure (ps.zip us)) : Binds K fd ps [] := fun s us _ hl => by
  rw [List.append_nil] at hl ⊢
  exact .of_eq (h us hl)

/-- an exception of a callee reaches what this body wants of exceptions -/
def Passes (CX : CXT) (X : Cx) (E : XK) : Prop := ∀ (pins : List (Addr × Obj)) (σ : St) (H : Hp) (s : Shared) (e : Value) (s' : Shared), Inv X pins σ H s → CX X.stack H s E e s' → X.xe e s'

section
variable {X : Cx} {CX : CXT} {k : Nat} {f C : Addr} {fd : FuncData} {ps : List Str} {sp : Sp} {dvs : List V} {ds : List Value} {E : XK} {x m : Str} {p pos apos : Pos} {e o : Expr} {es : List Expr} {ta : TE} {t : TA}

/-- the callee runs -/
theorem run_fn {pins : List (Addr × Obj)} {σ : St} {H : Hp} {s : Shared} {Q : VK} {us : List Value} {vs : List V} (F : FnOk X.prog X.w X.K X.mg X.base CX k f fd ps sp) (hr : Room k X.A) (hb : Binds X.K fd ps ds) (hd : Vals dvs ds) (hx : Passes CX X E)
    (I : Inv X pins σ H s) (r : Vals vs us) (h : sp (vs ++ dvs) H Q E) : wpAny (model X.prog X.w) X.A (call (.ref f) us) (EP X pins σ Q) X.xe s := by
  have r2 : Vals (vs ++ dvs) (us ++ ds) := r.append hd
  have hl : (us ++ ds).length = ps.length := by rw [← r2.length]; exact F.len _ _ _ _ h
  refine wpAny_call (codeAny_mono (F.run X.A X.stack s H ⟨us, []⟩ (us ++ ds) (vs ++ dvs) Q E hr I.env0 (hb s us I.kIn hl) r2 h) fun r s' hq => ?_)
  cases r with
  | error e => exact hx pins σ H s e s' I hq
  | ok fl =>
    cases fl with
    | ret u => exact I.after hq
    | next => exact False.elim hq
    | brk => exact False.elim hq
    | cont => exact False.elim hq

theorem pe_call (F : FnOk X.prog X.w X.K X.mg X.base CX k f fd ps sp) (hr : Room k X.A) (hg : Gl X x) (hm : X.mg x = some (.ref f)) (hk : PySem.W.keepIn X.K (.ref f) = true) (hb : Binds X.K fd ps ds) (hd : Vals dvs ds) (hx : Passes CX X E)
    (ha : PA X (e :: es) t) (hdb : (x == ("__debug__" : Str)) = false := by decide) (he : starEach (e :: es) X.env = (false, eval e X.env) :: starEach es X.env := by rfl) (hpl : (backTo pos (starEach es X.env)).any (·.1) = false := by rfl) :
    PE X (.Call (.Name x p) (e :: es) [] pos) (tCall sp dvs E t) := by
  intro pins s σ H Q I h
  refine wpAny_Call_Name_kw (ld_glob I hg hm ?_ hdb)
  refine PySem.W.callWith_K (h₀ := X.base) I.ok.mod.kin hk (thn (ha pos pins s σ H _ I h) fun us s1 ⟨vs, H1, I1, r, q⟩ => ⟨I1.kIn, ?_⟩) he hpl
  exact run_fn F hr hb hd hx I1 r q
end

/-! ### keywords -/
section
variable {X : Cx} {CX : CXT} {k : Nat} {f C : Addr} {fd : FuncData} {ps ks : List Str} {sp : Sp} {E : XK} {x m : Str} {p pos apos kpos : Pos} {e o : Expr} {es : List Expr} {kws : List Keyword} {te ta : TE} {t tk : TA} {nm : Option Str}
variable {g : List Value → List Value → List Value} {gV : List V → List V → List V}
end

/-! ### a def's body keeps its promise -/
/-- names: the parameters first -/
structure FnScope (N P : List Str) (sc : Scope) : Prop where
  kind : sc.kind = .function
  co : sc.isCoroutine = false
  gen : sc.isGenerator = false
  nd : N.Nodup
  pre : N.take P.length = P
  par : ∀ x ∈ P, sc.names.lookup x = some .local ∨ sc.names.lookup x = some .cell
  nofree : ∀ y ∈ sc.names, y.2 ≠ .free

theorem bindL_out {kindOf : Str → Option NameKind} {x : Str} : ∀ {binds : List (Str × Value)} {m : Str → Option Value}, (∀ v, (x, v) ∉ binds) → bindL kindOf binds m x = m x
  | [], _, _ => rfl
  | (n, v) :: r, m, h => by
    unfold bindL
    rw [bindL_out fun w hw => h w (List.mem_cons_of_mem _ hw)]
    split
    · have : x ≠ n := by rintro rfl; exact h v List.mem_cons_self
      simp [this]
    · rfl
theorem bindC_out {kindOf : Str → Option NameKind} {x : Str} : ∀ {binds : List (Str × Value)} {m : Str → Option Value}, (∀ v, (x, v) ∉ binds) → bindC kindOf binds m x = m x
  | [], _, _ => rfl
  | (n, v) :: r, m, h => by
    unfold bindC
    rw [bindC_out fun w hw => h w (List.mem_cons_of_mem _ hw)]
    split
    · rfl
    · have : x ≠ n := by rintro rfl; exact h v List.mem_cons_self
      simp [this]
theorem bindL_get {kindOf : Str → Option NameKind} {x : Str} {v : Value} : ∀ {P : List Str} {vs : List Value} {i : Nat} {m : Str → Option Value}, P.Nodup → P[i]? = some x → vs[i]? = some v → kindOf x = some .local →
    bindL kindOf (P.zip vs) m x = some v
  | [], _, _, _, _, h, _, _ => by simp at h
  | _ :: _, [], _, _, _, _, h, _ => by simp at h
  | p :: P, w :: vs, 0, m, nd, h1, h2, hk => by
    simp at h1 h2; subst h1; subst h2
    show bindL kindOf ((p, w) :: P.zip vs) m p = _
    unfold bindL
    rw [bindL_out fun v hv => (List.nodup_cons.mp nd).1 (List.of_mem_zip hv).1, if_pos hk]
    simp
  | p :: P, w :: vs, i + 1, m, nd, h1, h2, hk => by
    show bindL kindOf ((p, w) :: P.zip vs) m x = _
    unfold bindL
    exact bindL_get (i := i) (List.nodup_cons.mp nd).2 (by simpa using h1) (by simpa using h2) hk
theorem bindC_get {kindOf : Str → Option NameKind} {x : Str} {v : Value} : ∀ {P : List Str} {vs : List Value} {i : Nat} {m : Str → Option Value}, P.Nodup → P[i]? = some x → vs[i]? = some v → kindOf x ≠ some .local →
    bindC kindOf (P.zip vs) m x = some v
  | [], _, _, _, _, h, _, _ => by simp at h
  | _ :: _, [], _, _, _, _, h, _ => by simp at h
  | p :: P, w :: vs, 0, m, nd, h1, h2, hk => by
    simp at h1 h2; subst h1; subst h2
    show bindC kindOf ((p, w) :: P.zip vs) m p = _
    unfold bindC
    rw [bindC_out fun v hv => (List.nodup_cons.mp nd).1 (List.of_mem_zip hv).1, if_neg hk]
    simp
  | p :: P, w :: vs, i + 1, m, nd, h1, h2, hk => by
    show bindC kindOf ((p, w) :: P.zip vs) m x = _
    unfold bindC
    exact bindC_get (i := i) (List.nodup_cons.mp nd).2 (by simpa using h1) (by simpa using h2) hk

/-- the names' values at the entry -/
def start (N : List Str) (vs : List V) : St := vs.map some ++ List.replicate (N.length - vs.length) none

/-- the context of a def's body, at its entry; an exception leaves the frame, then lies as CX says -/
def cxOf (CX : CXT) (P : Program) (w : World) (K : PySem.W.Frag) (mg : Str → Option Value) (base : Heap) (N : List Str) (qual : Str) (scope : Scope) (f : Addr) (cd : Value) (A : Around) (outer : List Env) (s : Shared) (H : Hp) (E : XK) : Cx where
  prog := P
  w := w
  K := K
  mg := mg
  base := base
  A := A.deeper (envOfC qual scope s.heap.objs.size f cd)
  N := N
  s₀ := s
  H₀ := H
  env := envOfC qual scope s.heap.objs.size f cd
  outer := outer
  stack := envOfC qual scope s.heap.objs.size f cd :: outer
  ex := []
  calm := true
  fn := fun _ => true
  pn := []
  xe := fun e s' => wpAny (model P w) (A.deeper (envOfC qual scope s.heap.objs.size f cd)) (leaving (envOfC qual scope s.heap.objs.size f cd) e) (fun _ s'' => CX outer H s E e s'') (fun e' s'' => CX outer H s E e' s'') s'

theorem cell_has {sc : Scope} {n : Nat} {x : Str} (h : sc.names.lookup x = some .cell) : ∃ c, (cellsFrom n sc.names []).lookup x = some c := by
  have q := PySem.W.cellsFrom_some sc.names n [] (.inl h)
  exact Option.isSome_iff_exists.mp q

theorem inv_start {CX : CXT} {P : Program} {w : World} {K : PySem.W.Frag} {mg : Str → Option Value} {base : Heap} {N ps : List Str} {qual : Str} {scope : Scope} {f : Addr} {cd : Value} {A : Around} {outer : List Env} {s s1 : Shared} {H : Hp} {E : XK} {us : List Value} {vs : List V}
    (S : FnScope N ps scope) (hd : A.handled = none) (e0 : Env0 P w K mg base A outer s H) (hl : vs.length = ps.length) (r : Vals vs us)
    (x : InCallC s s.heap.objs.size (bindL (envOfC qual scope s.heap.objs.size f cd).kindOf (ps.zip us) fun _ => none) (cellsFrom (s.heap.objs.size + 1) scope.names []) (bindC (envOfC qual scope s.heap.objs.size f cd).kindOf (ps.zip us) fun _ => none) s1) :
    Inv (cxOf CX P w K mg base N qual scope f cd A outer s H E) [] (start N vs) H s1 := by
  have hpl : ps.length ≤ N.length := by have := congrArg List.length S.pre; rw [List.length_take] at this; omega
  obtain ⟨h1, tk, rfl, hk⟩ := x.done
  have noA : ∀ b : Addr, b ∉ (cxOf CX P w K mg base N qual scope f cd A outer s H E).ex := fun b z => absurd (show b ∈ ([] : List Addr) from z) (by simp)
  refine ⟨⟨e0.mod, S.kind, rfl, rfl, Nat.le_refl _, fun y z c h1 h2 => ?_, fun y hy => ?_, fun y c _ h => ?_, fun _ => hd, Around.frames_deeper e0.frames, .inr ⟨rfl, rfl⟩, fun b z => absurd z (noA b), e0.bs, e0.bsz, fun b _ _ => noA b, fun b z => absurd z (noA b), e0.funs, e0.frf⟩,
    rfl, e0.bare, Un.kept hk, ⟨_, x.toInCall.ns, fun i y v h1 h2 h3 => ?_⟩, fun y c h => ⟨_, x.cell y c h⟩, e0.hok.fresh (Nat.le_refl _), fun y c h => ?_, fun p hp => absurd (show p ∈ ([] : List (Addr × Obj)) from hp) (by simp), e0.hok.kept hk, ?_⟩
  · exact name_of_addr x.apart (PySem.mem_of_lookup h1) (PySem.mem_of_lookup h2)
  · have hy : scope.names.lookup y = some .cell ∨ scope.names.lookup y = some .free := hy
    rcases hy with hy | hy
    · exact cell_has hy
    · exact absurd rfl (S.nofree _ (PySem.mem_of_lookup hy))
  · exact Nat.le_of_lt (x.above y c (PySem.mem_of_lookup h))
  · have hi : i < vs.length := by
      unfold start at h2
      by_cases hi : i < vs.length
      · exact hi
      · rw [List.getElem?_append_right (by simpa using hi)] at h2
        rw [List.getElem?_replicate] at h2
        split at h2 <;> cases h2
    have ha : vs[i]? = some v := by
      unfold start at h2
      rw [List.getElem?_append_left (by simpa using hi), List.getElem?_map] at h2
      cases e : vs[i]? with
      | none => rw [e] at h2; cases h2
      | some a => rw [e] at h2; cases h2; rfl
    obtain ⟨u, hu, rv⟩ := r.get ha
    have hp : ps[i]? = some y := by
      rw [← S.pre, List.getElem?_take_of_lt (by omega)]; exact h1
    have ndP : ps.Nodup := by rw [← S.pre]; exact S.nd.sublist (List.take_sublist _ _)
    refine ⟨u, rv, ?_⟩
    rcases S.par y (List.mem_of_getElem? hp) with k | k
    · exact .inl ⟨k, bindL_get ndP hp hu k⟩
    · obtain ⟨c, e⟩ := cell_has (n := s.heap.objs.size + 1) k
      refine .inr ⟨.inl k, c, e, ?_⟩
      have q := x.cell y c e
      rw [bindC_get ndP hp hu (by show scope.names.lookup y ≠ _; rw [k]; decide)] at q
      exact q
  · exact e0.hok.fresh (Nat.le_of_lt (x.above y c (PySem.mem_of_lookup h)))
  · unfold start
    show _ = N.length
    rw [List.length_append, List.length_map, List.length_replicate]
    omega

/-- THE RULE: a def (or a method) of the text, by its body. The body's reading t is chosen for each entry; it is run at the parameters' values -/
theorem fn_of {CX : CXT} {P : Program} {w : World} {K : PySem.W.Frag} {mg : Str → Option Value} {base : Heap} {k : Nat} {f : Addr} {name qual : Str} {params : Arguments} {body : List Stmt} {scope : Scope} {dV kV doc pm cdv ct oc : Value} {an od : Option Addr}
    {osl : Array (Option Value)} {N ps : List Str} {sp : Sp} (lk : K.lookup f = some ⟨oc, od, .func (PySem.W.fnOf name qual params body scope dV kV doc pm an cdv ct), osl⟩) (hcd : PySem.W.codeIn K cdv qual = true) (S : FnScope N ps scope)
    (len : ∀ vs H Q E, sp vs H Q E → vs.length = ps.length)
    (hbody : ∀ (A : Around) (outer : List Env) (s : Shared) (H : Hp) (vs : List V) (Q : VK) (E : XK), Room k (A.deeper (envOfC qual scope s.heap.objs.size f cdv)) → sp vs H Q E →
      ∃ t, PSs (cxOf CX P w K mg base N qual scope f cdv A outer s H E) body t ∧ t { nx := fun _ H' => Q .non H', rt := Q } (start N vs) H) :
    FnOk P w K mg base CX (k + 1) f (PySem.W.fnOf name qual params body scope dV kV doc pm an cdv ct) ps sp := by
  refine ⟨len, fun A outer s H args us vs Q E hr e0 hb r hsp => ?_⟩
  have hl := len _ _ _ _ hsp
  have KX : K.In s.heap := e0.mod.kin.keeps fun b o e => (e0.bs b o e).1
  have lim : s.heap.NoLimit := e0.mod.nolimit.keeps fun b o e => (e0.bs b o e).1
  have hkind : ∀ y ∈ ps.zip us, scope.names.lookup y.1 = some .local ∨ (scope.names.lookup y.1 = some .cell ∧ ((cellsFrom (s.heap.objs.size + 1) scope.names []).lookup y.1).isSome = true) := fun ⟨n, v⟩ hy => by
    rcases S.par n (List.of_mem_zip hy).1 with q | q
    · exact .inl q
    · exact .inr ⟨q, PySem.W.cellsFrom_some _ _ _ (.inl q)⟩
  refine codeAny_call_function hr.depth (KX _ _ lk) rfl S.co S.gen rfl (PySem.W.codeRec_of KX hcd) (hb _ _ _ _ ?_)
  refine wpAny_newFunctionEnv_cells S.kind hkind fun env he s1 x => ?_
  subst he
  refine ⟨lim.keeps x.toInCall.keep, codeAny_func ?_⟩
  obtain ⟨t, ht, hq⟩ := hbody A outer s H vs Q E (hr.deeper _) hsp
  have I : Inv (cxOf CX P w K mg base N qual scope f cdv A outer s H E) [] (start N vs) H s1 := inv_start S hr.hd e0 hl r x
  refine wpAny_mono (ht [] s1 (start N vs) H _ I hq) (fun fl s' hs => ?_) fun e s' hs => hs
  have fin : ∀ {σ' : St} {H' : Hp} {v : V} {u : Value}, Inv (cxOf CX P w K mg base N qual scope f cdv A outer s H E) [] σ' H' s' → RelV v u → Q v H' → CE outer P w H s Q u s' :=
    fun {σ' H' v u} J rv q => ⟨v, H', J.os, J.bare, J.base, J.hok, rv, q⟩
  cases fl with
  | ret u =>
    obtain ⟨v, σ', H', J, rv, q⟩ := hs
    exact fin J rv q
  | next =>
    obtain ⟨σ', H', J, q⟩ := hs
    exact fin (v := V.non) (u := Value.none) J rfl q
  | brk =>
    obtain ⟨_, _, _, q⟩ := hs
    exact False.elim q
  | cont =>
    obtain ⟨_, _, _, q⟩ := hs
    exact False.elim q
end L2

namespace L2
open PySem PySem.Spec PyProof.Rows
section
variable {X : Cx} {x : Str} {p pos : Pos} {e : Expr} {es : List Expr} {t : TA} {id T : String} {r : List V → Hp → VK → Prop}

def tCB (r : List V → Hp → VK → Prop) (t : TA) : TE := fun σ H Q => t σ H fun vs H1 => r vs H1 Q
/-- f(e, ..), f a built-in function -/
theorem pe_callB (hc : CallR X (.builtin id) r) (hg : Gl X x) (hm : X.mg x = none) (hv : bootBuiltins x = some (.builtin id)) (ha : PA X (e :: es) t) (hn : x ≠ "__name__" := by decide) (hdb : (x == ("__debug__" : Str)) = false := by decide)
    (he : starEach (e :: es) X.env = (false, eval e X.env) :: starEach es X.env := by rfl) (hpl : (backTo pos (starEach es X.env)).any (·.1) = false := by rfl) : PE X (.Call (.Name x p) (e :: es) [] pos) (tCB r t) := by
  intro pins s σ H Q I h
  refine wpAny_Call_Name_kw (ld_blt I hg hm hv ?_ hn hdb)
  exact PyProof.Rows.callWith_builtin1 (thn (ha pos pins s σ H _ I h) fun us s1 ⟨vs, H1, I1, r1, q1⟩ => hc pins s1 σ H1 vs us Q I1 r1 q1) he hpl
/-- T(e, ..), T a built-in type -/
theorem pe_callTy (hc : CallR X (.type T) r) (hg : Gl X x) (hm : X.mg x = none) (hv : bootBuiltins x = some (.type T)) (ha : PA X (e :: es) t) (hn : x ≠ "__name__" := by decide) (hdb : (x == ("__debug__" : Str)) = false := by decide)
    (he : starEach (e :: es) X.env = (false, eval e X.env) :: starEach es X.env := by rfl) (hpl : (backTo pos (starEach es X.env)).any (·.1) = false := by rfl) : PE X (.Call (.Name x p) (e :: es) [] pos) (tCB r t) := by
  intro pins s σ H Q I h
  refine wpAny_Call_Name_kw (ld_blt I hg hm hv ?_ hn hdb)
  exact PyProof.Rows.callWith_type1 (thn (ha pos pins s σ H _ I h) fun us s1 ⟨vs, H1, I1, r1, q1⟩ => hc pins s1 σ H1 vs us Q I1 r1 q1) he hpl
end
end L2

namespace HT
open PySem PyProof.Rows

section
open PySem.SeqAt
open PySem.AutoSeq1 (wpAny_loadPart')
open PySem.MeetsSeq PySem.MeetsSeq2 PySem.MeetsSeq3

end

section
variable {prog : Program} {w : World} {A : Around} {E : Value → Shared → Prop} {s : Shared}

/-! ### t[a:b], not the whole -/
/-- a slice's bound as a place among n (d where it is left out) -/
def sIx (n d : Nat) : Option Int → Nat
  | none => d
  | some v => if v < 0 then (v + (n : Int)).toNat else min v.toNat n
end
end HT

namespace L2
open PySem PySem.Spec PyProof.Rows

/-! ### the parts of a slice -/
abbrev TO := St → Hp → (Option Int → Hp → Prop) → Prop
/-- a slice's part (left out, or an int) -/
def PO (X : Cx) (e : Option Expr) (t : TO) : Prop :=
  ∀ (pins : List (Addr × Obj)) (s : Shared) (σ : St) (H : Hp) (Q : Option Int → Hp → Prop), Inv X pins σ H s → t σ H Q →
    wpAny (model X.prog X.w) X.A (evalPart e X.env) (fun u s' => ∃ o H', Inv X pins σ H' s' ∧ IsPart u o ∧ Q o H') X.xe s
def tNoPart : TO := fun _ H Q => Q none H
def tPart (t : TE) : TO := fun σ H Q => t σ H fun x H1 => ∃ i, x = .int i ∧ Q (some i) H1

section
variable {X : Cx} {e : Expr} {te : TE} {lo hi : Option Expr} {tl th : TO} {pos p2 : Pos}

theorem po_none : PO X none tNoPart := by
  intro pins s σ H Q I h
  rw [evalPart_none]
  exact wpAny_pure ⟨none, H, I, .none, h⟩
theorem po_some (h : PE X e te) : PO X (some e) (tPart te) := by
  intro pins s σ H Q I hw
  rw [evalPart_some]
  refine thn (h pins s σ H _ I hw) fun u s1 ⟨x, H1, I1, r1, q1⟩ => ?_
  obtain ⟨i, rfl, q⟩ := q1
  obtain ⟨t, rfl⟩ := r1
  exact ⟨some i, H1, I1, .int i t, q⟩

/-- what a slice of a value is, by values: the slice object stands at sl -/
def SlR (X : Cx) (r : V → Option Int → Option Int → Hp → VK → Prop) : Prop :=
  ∀ (pins : List (Addr × Obj)) (s : Shared) (σ : St) (H : Hp) (x : V) (v vl vu : Value) (lo hi : Option Int) (sl : Addr) (Q : VK), Inv X pins σ H s → RelV x v → s.heap.IsSliceOf sl vl vu .none → IsPart vl lo → IsPart vu hi → r x lo hi H Q →
    ∃ T id, typeLookup (.type T) "__getitem__" = pure (some (.builtin id)) ∧ s.TypeIs v T ∧ wpAny (model X.prog X.w) X.A (getItem v (.ref sl)) (EP X pins σ Q) X.xe s
def tSl (r : V → Option Int → Option Int → Hp → VK → Prop) (te : TE) (tl th : TO) : TE := fun σ H Q => te σ H fun x H1 => tl σ H1 fun l H2 => th σ H2 fun u H3 => r x l u H3 Q
/-- a[lo:hi], any a -/
theorem pe_slice {r : V → Option Int → Option Int → Hp → VK → Prop} (hr : SlR X r) (he : PE X e te) (hl : PO X lo tl) (hu : PO X hi th) : PE X (.Subscript e (.Slice lo hi none p2) pos) (tSl r te tl th) := by
  intro pins s σ H Q I h
  refine Subscript_ (thn (he pins s σ H _ I h) fun v s1 ⟨x, H1, I1, r1, q1⟩ => ?_)
  refine wpAny_Slice (thn (hl pins s1 σ H1 _ I1 q1) fun vl s2 ⟨l, H2, I2, pl, q2⟩ => thn (hu pins s2 σ H2 _ I2 q2) fun vu s3 ⟨u, H3, I3, pu, q3⟩ => ?_)
  rw [evalPart_none]
  refine wpAny_pure ?_
  have I4 : Inv X pins σ H3 { s3 with heap := s3.heap.push { cls := .type "slice", data := .fields #[vl, vu, .none] } } := I3.kept (t' := s3.toks) fun b ob q => Heap.get?_push_of_some _ q
  obtain ⟨T, id, hT, ht, hg⟩ := hr pins { s3 with heap := s3.heap.push { cls := .type "slice", data := .fields #[vl, vu, .none] } } σ H3 x v vl vu l u s3.heap.objs.size Q I4 r1 (Heap.IsSliceOf.new ..) pl pu q3
  show wpAny (model X.prog X.w) X.A (subscriptTail e (.Slice lo hi none p2) v (.ref s3.heap.objs.size)) (EP X pins σ Q) X.xe { s3 with heap := s3.heap.push { cls := .type "slice", data := .fields #[vl, vu, .none] } }
  exact tail_any (ops := [.ref s3.heap.objs.size, v]) ht hT hg (by with_unfolding_all rfl)

/-! ### t < u, t + u -/
end
end L2

namespace L2
open PySem PySem.Spec PyProof.Rows

/-! ### places -/
/-- the place that an index of any sign means -/
def ixN (n : Nat) (i : Int) : Option Nat := if 0 ≤ i then (if i < n then some i.toNat else none) else if -(n : Int) ≤ i then some (i + n).toNat else none
def atI {α : Type} (xs : List α) (i : Int) : Option α := (ixN xs.length i).bind fun j => xs[j]?
theorem ixN_seq {n : Nat} {i : Int} {j : Nat} (h : ixN n i = some j) : seqIndex? i n = some j ∧ j < n ∧ -(n : Int) ≤ i ∧ i < n := by
  unfold ixN at h
  by_cases h0 : 0 ≤ i
  · rw [if_pos h0] at h
    by_cases h1 : i < n
    · rw [if_pos h1] at h
      have e : i.toNat = j := Option.some.inj h
      exact ⟨by rw [seqIndex_of h0 h1, e], by omega, by omega, h1⟩
    · rw [if_neg h1] at h; cases h
  · rw [if_neg h0] at h
    by_cases h1 : -(n : Int) ≤ i
    · rw [if_pos h1] at h
      have e : (i + n).toNat = j := Option.some.inj h
      exact ⟨by rw [seqIndex_neg (by omega) h1, e], by omega, h1, by omega⟩
    · rw [if_neg h1] at h; cases h
theorem atI_get {α : Type} {xs : List α} {i : Int} {v : α} (h : atI xs i = some v) : ∃ j, seqIndex? i xs.length = some j ∧ xs[j]? = some v ∧ j < xs.length ∧ -(xs.length : Int) ≤ i ∧ i < xs.length := by
  unfold atI at h
  cases e : ixN xs.length i with
  | none => rw [e] at h; cases h
  | some j =>
    rw [e] at h
    obtain ⟨h1, h2, h3, h4⟩ := ixN_seq e
    exact ⟨j, h1, h, h2, h3, h4⟩
theorem atI_nat {α : Type} {xs : List α} {j : Nat} {v : α} (h : xs[j]? = some v) : atI xs (j : Int) = some v := by
  have hj : j < xs.length := (List.getElem?_eq_some_iff.mp h).1
  have e : ixN xs.length (j : Int) = some j := by
    unfold ixN
    rw [if_pos (by omega), if_pos (by omega)]; simp
  unfold atI; rw [e]; exact h
/-! ### what may be subscripted -/
/-- what stands as an index of a plain subscript -/
def PlainIx (b : Expr) : Prop := ∀ o i, subscripted b false o i = operate [o, i] (getItem o i)
/-- a subscript by values -/
def IxR (X : Cx) (r : R2) : Prop :=
  ∀ (value slice : Expr) (pins : List (Addr × Obj)) (s : Shared) (σ : St) (H : Hp) (x y : V) (v u : Value) (Q : VK), Inv X pins σ H s → RelV x v → RelV y u → r x y H Q →
    subscripted slice false v u = operate [v, u] (getItem v u) → wpAny (model X.prog X.w) X.A (subscriptTail value slice v u) (EP X pins σ Q) X.xe s
/-- a call of a builtin's method by values: the receiver, the arguments -/
def MtR (X : Cx) (id : String) (r : V → List V → Hp → VK → Prop) : Prop :=
  ∀ (pins : List (Addr × Obj)) (s : Shared) (σ : St) (H : Hp) (x : V) (xs : List V) (v : Value) (us : List Value) (Q : VK), Inv X pins σ H s → RelV x v → Vals xs us → r x xs H Q →
    wpAny (model X.prog X.w) X.A (call (.builtin id) (v :: us)) (EP X pins σ Q) X.xe s
section
variable {X : Cx} {a b : Expr} {ta tb : TE} {pos : Pos}
/-- a[b] -/
theorem pe_ix {r : R2} (hr : IxR X r) (ha : PE X a ta) (hb : PE X b tb) (hs : PlainIx b) : PE X (.Subscript a b pos) (tOp r ta tb) := by
  intro pins s σ H Q I h
  exact Subscript_ (binT ha hb I h fun v u s2 x y H2 I2 rx ry q => hr a b pins s2 σ H2 x y v u Q I2 rx ry q (hs _ _))

def rIxL (K : PySem.W.Frag) : R2 := fun x y H Q => ∃ p xs i v, x = .ref p ∧ y = .int i ∧ SqL K H p xs ∧ atI xs i = some v ∧ Q v H
def rIxT (K : PySem.W.Frag) : R2 := fun x y H Q => ∃ p xs i v, x = .ref p ∧ y = .int i ∧ SqT K H p xs ∧ atI xs i = some v ∧ Q v H
def rIxS : R2 := fun x y H Q => ∃ z i c, x = .str z ∧ y = .int i ∧ z.length ≤ sizeLine ∧ atI z.cps.toList i = some c ∧ Q (.str ⟨#[c]⟩) H
theorem ix_list : IxR X (rIxL X.K) := by
  intro value slice pins s σ H x y v u Q I rx ry h hs
  obtain ⟨p, xs, i, z, rfl, rfl, hq, he, q⟩ := h
  cases rx
  obtain ⟨t, rfl⟩ := ry
  obtain ⟨its, r, pl, hz⟩ := I.list hq
  obtain ⟨j, h1, h2, h3, h4, h5⟩ := atI_get he
  obtain ⟨w, ew, rw'⟩ := r.get h2
  have hl := r.length
  have hn := line63
  have fin : EP X pins σ Q w s := ⟨z, H, I, rw', q⟩
  by_cases h0 : 0 ≤ i
  · have hj : i.toNat = j := by
      rw [seqIndex_of h0 h5] at h1
      exact Option.some.inj h1
    exact item_listR pl.isList h0 (by omega) (by rw [hj]; simpa using ew) fin hs
  · have hj : (i + (its.toArray.size : Int)).toNat = j := by
      rw [seqIndex_neg (by omega) h4] at h1
      rw [List.size_toArray, ← hl]
      exact Option.some.inj h1
    exact subscriptTail_builtinR (x := w) pl.isList.typeIs slot_list_getitem.lookup
      (wpAny_getItem_list_neg (Q := fun r s' => r = w ∧ EP X pins σ Q r s') pl.isList (by omega) (by rw [List.size_toArray] <;> omega) (by omega) (by rw [hj]; simpa using ew) ⟨rfl, fin⟩) hs
theorem ix_tup : IxR X (rIxT X.K) := by
  intro value slice pins s σ H x y v u Q I rx ry h hs
  obtain ⟨p, xs, i, z, rfl, rfl, hq, he, q⟩ := h
  cases rx
  obtain ⟨t, rfl⟩ := ry
  obtain ⟨its, r, pl, hz⟩ := I.tuple hq
  obtain ⟨j, h1, h2, h3, h4, h5⟩ := atI_get he
  obtain ⟨w, ew, rw'⟩ := r.get h2
  have hl := r.length
  have hn := line63
  have fin : EP X pins σ Q w s := ⟨z, H, I, rw', q⟩
  exact subscriptTail_builtinR (x := w) pl.typeIs slot_tuple_getitem.lookup
    (getItem_tuple (j := j) (Q := fun r s' => r = w ∧ EP X pins σ Q r s') pl (by omega) (by omega) (by rw [List.size_toArray, ← hl]; exact h1) (by simpa using ew) ⟨rfl, fin⟩) hs
theorem ix_str : IxR X rIxS := by
  intro value slice pins s σ H x y v u Q I rx ry h hs
  obtain ⟨z, i, c, rfl, rfl, hz, he, q⟩ := h
  obtain ⟨t, rfl⟩ := rx
  obtain ⟨t', rfl⟩ := ry
  obtain ⟨j, h1, h2, h3, h4, h5⟩ := atI_get he
  have hl : z.cps.toList.length = z.length := by simp [Str.length]
  rw [hl] at h1 h4 h5
  have hn := line63
  exact tail_any (typeIs_str s z t) slot_str_getitem.lookup (getItem_str (c := c) (by
    have e1 : decide (i < -(2 ^ 63 : Int)) = false := decide_eq_false (by omega)
    have e2 : decide (i ≥ 2 ^ 63) = false := decide_eq_false (by omega)
    rw [e1, e2, Bool.or_false]) (by rw [h1]; simpa using h2) ⟨.str ⟨#[c]⟩, H, I.tok _, ⟨_, rfl⟩, q⟩) hs
/-! ### xs[i] = v, any sign -/
/-! ### slices -/
/-! ### in, not in: flat items -/
/-! ### len, list(x), tuple(x) of any list or tuple that is read -/
theorem call_len_seq : CallR X (.builtin "len") (fun xs H Q => ∃ p ys, xs = [.ref p] ∧ (SqL X.K H p ys ∨ SqT X.K H p ys) ∧ Q (.int ys.length) H) := by
  intro pins s σ H xs us Q I r h
  obtain ⟨p, ys, rfl, hq, q⟩ := h
  obtain ⟨u, rfl, rx⟩ := vals1 r
  cases rx
  have hn := line63
  rcases hq with hq | hq
  · obtain ⟨its, r', pl, hz⟩ := I.list hq
    have hlen := r'.length
    exact Calls.call_len_list pl.isList (by simp only [List.size_toArray] <;> omega) ⟨.int ys.length, H, I.tok _, ⟨s.toks + 1, by rw [List.size_toArray, hlen]⟩, q⟩
  · obtain ⟨its, r', pl, hz⟩ := I.tuple hq
    have hlen := r'.length
    exact len_tuple pl (by simp only [List.size_toArray] <;> omega) ⟨.int ys.length, H, I.tok _, ⟨s.toks + 1, by rw [List.size_toArray, hlen]⟩, q⟩
theorem call_list_of : CallR X (.type "list") (fun xs H Q => ∃ p ys, xs = [.ref p] ∧ (SqL X.K H p ys ∨ SqT X.K H p ys) ∧ ∀ l, H l = none → Q (.ref l) (upd H l (.lst ys))) := by
  intro pins s σ H xs us Q I r h
  obtain ⟨p, ys, rfl, hq, q⟩ := h
  obtain ⟨u, rfl, rx⟩ := vals1 r
  cases rx
  have fin : ∀ (its : List Value), Vals ys its → ys.length ≤ sizeLine → ∀ (h' : Heap) (c' : Nat), (∀ b o', s.heap.get? b = some o' → h'.get? b = some o') →
      h'.get? s.heap.objs.size = some { cls := .type "list", dict := none, data := .seq its.toArray c', slots := #[] } → EP X pins σ Q (.ref s.heap.objs.size) { s with heap := h' } := fun its r' hz h' c' kp e =>
    ⟨.ref s.heap.objs.size, _, I.laid (t' := s.toks) kp (Nat.le_refl _) (show ObjOk X.prog X.w _ h' _ (.lst ys) from ⟨hz, its, c', r', e⟩), rfl, q _ (I.hok.fresh (Nat.le_refl _))⟩
  rcases hq with hq | hq
  · obtain ⟨its, r', pl, hz⟩ := I.list hq
    have hlen := r'.length
    obtain ⟨o, ho, hc, n, hd⟩ := pl.isList
    exact call_list_seq p (.inl rfl) ho hc hd (fun h' c' kp e => fin its r' hz h' c' kp e) (by simp only [List.size_toArray] <;> omega)
  · obtain ⟨its, r', pl, hz⟩ := I.tuple hq
    have hlen := r'.length
    obtain ⟨o, ho, hc, n, hd⟩ := pl
    exact call_list_seq p (.inr rfl) ho hc hd (fun h' c' kp e => fin its r' hz h' c' kp e) (by simp only [List.size_toArray] <;> omega)
/-! ### the call of a builtin's method: o.m(..) -/
/-- the value is of that builtin type -/
def tyV (K : PySem.W.Frag) (T : String) (x : V) (H : Hp) : Prop := match x with
  | .str _ => T = "str"
  | .int _ => T = "int"
  | .ref p => (T = "list" ∧ ∃ xs, SqL K H p xs) ∨ (T = "tuple" ∧ ∃ o, K.lookup p = some o ∧ o.cls = .type "tuple" ∧ o.dict = none) ∨
      (T = "dict" ∧ ((∃ kvs, H p = some (.dK kvs)) ∨ ∃ kvs, H p = some (.dT kvs))) ∨ (T = "set" ∧ ∃ S n, H p = some (.set S n))
  | _ => False
theorem tyV_is {pins : List (Addr × Obj)} {σ : St} {H : Hp} {s : Shared} {T : String} {x : V} {v : Value} (I : Inv X pins σ H s) (r : RelV x v) (ty : tyV X.K T x H) :
    s.TypeIs v T ∧ ∀ a, v = .ref a → ∃ ob, s.heap.get? a = some ob ∧ ob.dict = none := by
  cases x with
  | str z =>
    obtain ⟨t, rfl⟩ := r
    cases (show T = "str" from ty)
    exact ⟨typeIs_str s z t, fun _ e => nomatch e⟩
  | int i =>
    obtain ⟨t, rfl⟩ := r
    cases (show T = "int" from ty)
    exact ⟨typeIs_int s i t, fun _ e => nomatch e⟩
  | ref p =>
    cases r
    rcases ty with ⟨rfl, xs, hq⟩ | ⟨rfl, o, hk, hc, hd⟩ | ⟨rfl, hk⟩ | ⟨rfl, S, n, hk⟩
    · obtain ⟨its, _, pl, _⟩ := I.list hq
      refine ⟨pl.isList.typeIs, fun a e => ?_⟩
      cases e
      obtain ⟨o, n, e, c, hd, _⟩ := pl
      exact ⟨o, e, hd⟩
    · refine ⟨⟨o, I.kIn p o hk, hc⟩, fun a e => ?_⟩
      cases e
      exact ⟨o, I.kIn _ o hk, hd⟩
    · have z : ∃ o, s.heap.get? p = some o ∧ o.ExactDict := by
        rcases hk with ⟨kvs, hk⟩ | ⟨kvs, hk⟩
        · obtain ⟨_, _, _, _, o, _, _, e, ex, _⟩ := I.hok p _ hk
          exact ⟨o, e, ex⟩
        · obtain ⟨_, _, _, _, o, _, _, e, ex, _⟩ := I.hok p _ hk
          exact ⟨o, e, ex⟩
      obtain ⟨o, e, ex⟩ := z
      refine ⟨⟨o, e, ex.1⟩, fun a e2 => ?_⟩
      cases e2
      exact ⟨o, e, ex.2.1⟩
    · obtain ⟨o, _, _, _, e, ex, _⟩ := I.hok p _ hk
      refine ⟨⟨o, e, ex.1⟩, fun a e2 => ?_⟩
      cases e2
      exact ⟨o, e, ex.2.1⟩
  | _ => exact False.elim ty
def tBM (K : PySem.W.Frag) (T : String) (r : V → List V → Hp → VK → Prop) (to : TE) (t : TA) : TE := fun σ H Q => to σ H fun x H1 => tyV K T x H1 ∧ t σ H1 fun xs H2 => r x xs H2 Q
variable {o e : Expr} {es : List Expr} {to : TE} {t : TA} {name : Str} {apos cpos : Pos} {T id : String} {r : V → List V → Hp → VK → Prop}
theorem pe_bm (pa : PlainAttrs T) (slot : Slot T name id) (hty : typeOf (.builtin id) = pure (.type "method_descriptor")) (hm : MtR X id r) (ho : PE X o to) (ha : PA X (e :: es) t)
    (hbase : attributeBase o name X.env (eval o X.env) = eval o X.env := by rfl)
    (hfew : ((backTo cpos (starEach (e :: es) X.env)).all (fun x => !x.1) && (backToKw cpos (keywordEach [] X.env)).all (fun x => x.1.isSome)
      && decide ((e :: es).length + ([] : List Keyword).length + (if ([] : List Keyword).isEmpty then 0 else 1) < 30)) = true := by rfl)
    (hline : (apos.endLine == cpos.line) = true := by rfl) (hs : starEach (e :: es) X.env = (false, eval e X.env) :: starEach es X.env := by rfl) (hplain : (backTo cpos (starEach es X.env)).any (·.1) = false := by rfl) :
    PE X (.Call (.Attribute o name apos) (e :: es) [] cpos) (tBM X.K T r to t) := by
  intro pins s σ H Q I h
  refine wpAny_Call_method_late hbase hfew hline rfl (thn (ho pins s σ H _ I h) fun v s1 ⟨x, H1, I1, r1, ty, q1⟩ => ?_)
  obtain ⟨h1, h2⟩ := tyV_is I1 r1 ty
  refine ⟨T, id, pa, slot, hty, h1, h2, ?_⟩
  have hA := ha cpos pins s1 σ H1 _ I1 q1
  rw [hs] at hA ⊢
  refine Calls.callWith_builtin (by show (false || (backTo cpos (starEach es X.env)).any (·.1)) = false; rw [hplain] <;> rfl) (Calls.evalArgs_plain ?_)
  exact thn hA fun us s2 ⟨vs, H2, I2, r2, q2⟩ => hm pins s2 σ H2 x vs v us Q I2 r1 r2 q2
/- xs.append(e), list.index on a module's tuple .. are MtR facts of 06m -/
end
end L2

namespace L2
open PySem PySem.Spec PyProof.Rows

def MtM (X : Cx) (id : String) (r : V → List V → Hp → VK → Prop) : Prop :=
  ∀ (pins : List (Addr × Obj)) (s : Shared) (σ : St) (H : Hp) (x : V) (xs : List V) (v : Value) (us : List Value) (Q : VK), Inv X pins σ H s → RelV x v → Vals xs us → r x xs H Q →
    wpAny (model X.prog X.w) X.A (call (.builtin id) (v :: us)) (EP X pins σ Q) X.xe s

/-! ### lists of values -/
theorem Vals.one : ∀ {x : V} {us : List Value}, Vals [x] us → ∃ u, us = [u] ∧ RelV x u
  | _, _, .cons r .nil => ⟨_, rfl, r⟩
section
variable {X : Cx} {pins : List (Addr × Obj)} {σ : St} {H : Hp} {s : Shared} {l b : Addr} {xs ys zs : List V}

/-! ### the two steps: a tracked list is rewritten, a new list is laid -/
theorem Inv.lset {its its' : List Value} {n : Nat} {f : Array Value → Array Value} {t' : Nat} (I : Inv X pins σ H s) (hH : H l = some (.lst xs))
    (e : s.heap.get? l = some { cls := .type "list", data := .seq its.toArray n }) (hf : f its.toArray = its'.toArray) (hv : Vals ys its') (hz : ys.length ≤ sizeLine) :
    Inv X pins σ (upd H l (.lst ys)) { s with heap := s.heap.update l (Obj.mapSeq f), toks := t' } := by
  have q := PySem.IsL.update e f
  rw [hf] at q
  refine I.write (x := l) (e := l) (by rw [hH]; exact trivial) (.inl rfl) (fun b' u hb hu => (Heap.get?_update_other s.heap (Obj.mapSeq f) (Ne.symm hb)).trans hu) ⟨_, q⟩ ?_
  exact ⟨hz, its', _, hv, q⟩
theorem Inv.fresh (I : Inv X pins σ H s) : H s.heap.objs.size = none := I.hok.fresh (Nat.le_refl _)
theorem Inv.lstM (I : Inv X pins σ H s) (hH : H l = some (.lst xs)) : xs.length ≤ sizeLine ∧ ∃ (its : List Value) (n : Nat), Vals xs its ∧ xs.length = its.length ∧ s.heap.get? l = some { cls := .type "list", data := .seq its.toArray n } := by
  obtain ⟨z, its, n, r, e⟩ := I.hok l _ hH
  exact ⟨z, its, n, r, r.length, e⟩

end

section
variable {X : Cx}

/-! ### methods -/
def rAppend : V → List V → Hp → VK → Prop := fun x vs H Q => ∃ l xs y, x = .ref l ∧ vs = [y] ∧ H l = some (.lst xs) ∧ xs.length < sizeLine ∧ Q .non (upd H l (.lst (xs ++ [y])))
theorem mt_append : MtM X "list.append" rAppend := by
  intro pins s σ H x vs v us Q I rx rv h
  obtain ⟨l, xs, y, rfl, rfl, hH, hz, q⟩ := h
  cases rx
  obtain ⟨u, rfl, ru⟩ := rv.one
  obtain ⟨z, its, n, r, hl, e⟩ := I.lstM hH
  refine call_meets F.slot_list_append ⟨_, e, rfl⟩ F.entry_list_append (F.args_list_append_2 _ _) (PySem.list_append l its.toArray n u (by rw [List.size_toArray]; omega)) ⟨e, ?_⟩
  refine ⟨.non, _, I.lset (its' := its ++ [u]) hH e (by simp) (r.append (.cons ru .nil)) ?_, rfl, q⟩
  rw [List.length_append, List.length_singleton]
  omega

/-! ### list + list, list += list, list * int -/
/-! ### del xs[i] -/
end

/-! ### xs[a:b] = ys -/
section
variable {prog : Program} {w : World} {A : Around} {E : Value → Shared → Prop} {s : Shared}
end

section
variable {X : Cx}
end
end L2

namespace L2
open PySem PySem.Spec PyProof.Rows

/-! ### lists of pairs as tables -/
section
variable {κ : Type} [DecidableEq κ]
def valV (kvs : List (κ × V)) (k : κ) : Option V := (kvs.find? fun kv => decide (kv.1 = k)).map (·.2)
/-- in its place, or at the end -/
def putK (kvs : List (κ × V)) (k : κ) (v : V) : List (κ × V) :=
  if (kvs.any fun kv => decide (kv.1 = k)) = true then kvs.map (fun kv => if kv.1 = k then (kv.1, v) else kv) else kvs ++ [(k, v)]
theorem valV_pos {p : κ × V} {r : List (κ × V)} {k : κ} (e : p.1 = k) : valV (p :: r) k = some p.2 := by simp [valV, List.find?_cons, e]
theorem valV_neg {p : κ × V} {r : List (κ × V)} {k : κ} (e : ¬ p.1 = k) : valV (p :: r) k = valV r k := by simp [valV, List.find?_cons, e]
theorem valV_any (k : κ) : ∀ kvs : List (κ × V), (kvs.any fun kv => decide (kv.1 = k)) = (valV kvs k).isSome
  | [] => rfl
  | p :: r => by
    rw [List.any_cons]
    by_cases e : p.1 = k
    · simp only [valV_pos e, decide_eq_true e, Bool.true_or, Option.isSome_some]
    · rw [valV_neg e, decide_eq_false e, Bool.false_or]; exact valV_any k r
theorem valV_map (k j : κ) (y : V) : ∀ kvs : List (κ × V), valV (kvs.map fun kv => if kv.1 = k then (kv.1, y) else kv) j = (valV kvs j).map fun x => if j = k then y else x
  | [] => rfl
  | p :: r => by
    have ih := valV_map k j y r
    rw [List.map_cons]
    by_cases h : p.1 = k
    · rw [if_pos h]
      by_cases e : p.1 = j
      · rw [valV_pos (p := (p.1, y)) e, valV_pos e, Option.map_some, if_pos (e.symm.trans h)]
      · rw [valV_neg (p := (p.1, y)) e, valV_neg e, ih]
    · rw [if_neg h]
      by_cases e : p.1 = j
      · rw [valV_pos (p := p) e, valV_pos e, Option.map_some, if_neg (fun z => h (e.trans z))]
      · rw [valV_neg (p := p) e, valV_neg e, ih]
theorem valV_snoc (k j : κ) (y : V) : ∀ kvs : List (κ × V), valV kvs k = none → valV (kvs ++ [(k, y)]) j = if j = k then some y else valV kvs j
  | [], _ => by
    by_cases e : k = j
    · rw [if_pos e.symm]; exact valV_pos (p := (k, y)) e
    · rw [if_neg (fun z => e z.symm)]; exact valV_neg (p := (k, y)) e
  | p :: r, hn => by
    rw [List.cons_append]
    have hk : ¬ p.1 = k := fun z => by rw [valV_pos z] at hn; cases hn
    rw [valV_neg hk] at hn
    have ih := valV_snoc k j y r hn
    by_cases e : p.1 = j
    · rw [valV_pos e, valV_pos e, if_neg (fun z => hk (e.trans z))]
    · rw [valV_neg e, valV_neg e, ih]
theorem valV_put (kvs : List (κ × V)) (k j : κ) (y : V) : valV (putK kvs k y) j = if j = k then some y else valV kvs j := by
  unfold putK
  by_cases a : (kvs.any fun kv => decide (kv.1 = k)) = true
  · rw [if_pos a, valV_map]
    rw [valV_any] at a
    by_cases e : j = k
    · obtain ⟨x, hx⟩ := Option.isSome_iff_exists.mp a
      rw [if_pos e, e, hx, Option.map_some, if_pos rfl]
    · rw [if_neg e]
      cases valV kvs j with
      | none => rfl
      | some x => rw [Option.map_some, if_neg e]
  · rw [if_neg a]
    refine valV_snoc k j y kvs ?_
    rw [valV_any] at a
    cases q : valV kvs k with
    | none => rfl
    | some x => rw [q] at a; exact (a rfl).elim
theorem length_putK (kvs : List (κ × V)) (k : κ) (v : V) : (putK kvs k v).length ≤ kvs.length + 1 := by
  unfold putK
  split
  · rw [List.length_map]; omega
  · rw [List.length_append, List.length_cons, List.length_nil]; omega
theorem RelO.isSome_eq {o : Option V} {u : Option Value} (r : RelO o u) : o.isSome = u.isSome := by
  cases o with
  | none => cases u with
    | none => rfl
    | some _ => exact (show False from r).elim
  | some _ => cases u with
    | none => exact (show False from r).elim
    | some _ => rfl
theorem RelO.getD {o : Option V} {u : Option Value} {d : V} {d' : Value} (r : RelO o u) (rd : RelV d d') : RelV (o.getD d) (u.getD d') := by
  cases o with
  | none => cases u with
    | none => exact rd
    | some _ => exact (show False from r).elim
  | some _ => cases u with
    | none => exact (show False from r).elim
    | some _ => exact r

/-- raw tables of the same keys -/
theorem KV.val {kvs : List (κ × V)} {vs : List (κ × Value)} (r : KV kvs vs) (k : κ) : RelO (valV kvs k) (valueAt vs k) := by
  unfold KV at r
  induction r with
  | nil => exact True.intro
  | @cons p q ps qs h t ih =>
    obtain ⟨h1, h2⟩ := h
    by_cases e : p.1 = k
    · have e' : q.1 = k := h1.symm.trans e
      have b : valueAt (q :: qs) k = some q.2 := by simp [valueAt, List.find?_cons, e']
      rw [valV_pos e, b]; exact h2
    · have e' : ¬ q.1 = k := fun z => e (h1.trans z)
      have b : valueAt (q :: qs) k = valueAt qs k := by simp [valueAt, List.find?_cons, e']
      rw [valV_neg e, b]; exact ih
theorem KV.any {kvs : List (κ × V)} {vs : List (κ × Value)} (r : KV kvs vs) (k : κ) : (kvs.any fun kv => decide (kv.1 = k)) = vs.any fun kv => decide (kv.1 = k) := by
  unfold KV at r
  induction r with
  | nil => rfl
  | cons h t ih => rw [List.any_cons, List.any_cons, ih, h.1]
theorem KV.repl {kvs : List (κ × V)} {vs : List (κ × Value)} (r : KV kvs vs) (k : κ) {y : V} {u : Value} (ry : RelV y u) :
    KV (kvs.map fun kv => if kv.1 = k then (kv.1, y) else kv) (vs.map fun kv => if kv.1 = k then (kv.1, u) else kv) := by
  unfold KV at r ⊢
  induction r with
  | nil => exact .nil
  | @cons p q ps qs h t ih =>
    rw [List.map_cons, List.map_cons]
    refine .cons ?_ ih
    obtain ⟨h1, h2⟩ := h
    by_cases e : p.1 = k
    · rw [if_pos e, if_pos (h1.symm.trans e)]; exact ⟨h1, ry⟩
    · rw [if_neg e, if_neg (fun z => e (h1.trans z))]; exact ⟨h1, h2⟩
theorem KV.put {kvs : List (κ × V)} {vs : List (κ × Value)} (r : KV kvs vs) (k : κ) {y : V} {u : Value} (ry : RelV y u) : KV (putK kvs k y) (stored vs k u) := by
  unfold putK stored
  rw [r.any k]
  by_cases e : (vs.any fun kv => decide (kv.1 = k)) = true
  · rw [if_pos e, if_pos e]; exact r.repl k ry
  · rw [if_neg e, if_neg e]; exact Paired.snoc r ⟨rfl, ry⟩
theorem KV.length {kvs : List (κ × V)} {vs : List (κ × Value)} (r : KV kvs vs) : kvs.length = vs.length := Paired.length r
end


/-! ### a tracked dict, its keys ints and texts or tuples of these -/
theorem kV_is {P : Program} {w : World} {k : Key} {u : Value} (r : RelV (kV k) u) : (mixKind P w).is k u = true := by
  cases k with
  | inl i => obtain ⟨t, e⟩ := (show ∃ t, u = Value.int i t from r); subst e; exact mixKind_int P w i t
  | inr x => obtain ⟨t, e⟩ := (show ∃ t, u = Value.str x t from r); subst e; exact mixKind_str P w x t
theorem items_are {P : Program} {w : World} : ∀ {ks : List Key} {us : List Value}, Vals (ks.map kV) us → ItemsAre (mixKind P w) ks us
  | [], _, r => by rw [List.map_nil] at r; cases r; exact .nil
  | k :: ks, _, r => by
    rw [List.map_cons] at r
    cases r with
    | cons h t => exact .cons (kV_is h) (items_are t)

/-- raw entries of a dict with tuple keys -/
abbrev KT (H : Hp) : List (List Key × V) → List (List Key × Addr × Value) → Prop := Paired fun p q => p.1 = q.1 ∧ H q.2.1 = some (.tup (p.1.map kV)) ∧ RelV p.2 q.2.2
theorem KT.val {H : Hp} {kvs : List (List Key × V)} {xs : List (List Key × Addr × Value)} (r : KT H kvs xs) (k : List Key) : RelO (valV kvs k) ((atKey xs k).map (·.2)) := by
  induction r with
  | nil => exact True.intro
  | @cons p q ps qs h t ih =>
    obtain ⟨h1, _, h2⟩ := h
    by_cases e : p.1 = k
    · have e' : q.1 = k := h1.symm.trans e
      have b : atKey (q :: qs) k = some q.2 := by simp [atKey, List.find?_cons, e']
      rw [valV_pos e, b]; exact h2
    · have e' : ¬ q.1 = k := fun z => e (h1.trans z)
      have b : atKey (q :: qs) k = atKey qs k := by simp [atKey, List.find?_cons, e']
      rw [valV_neg e, b]; exact ih
theorem KT.repl {H : Hp} {kvs : List (List Key × V)} {xs : List (List Key × Addr × Value)} (r : KT H kvs xs) (k : List Key) {y : V} {u : Value} (ry : RelV y u) :
    KT H (kvs.map fun kv => if kv.1 = k then (kv.1, y) else kv) (xs.map (putAt k u)) := by
  induction r with
  | nil => exact .nil
  | @cons p q ps qs h t ih =>
    rw [List.map_cons, List.map_cons]
    refine .cons ?_ ih
    obtain ⟨h1, h2, h3⟩ := h
    unfold putAt
    by_cases e : p.1 = k
    · rw [if_pos e, if_pos (h1.symm.trans e)]; exact ⟨h1, h2, ry⟩
    · rw [if_neg e, if_neg (fun z => e (h1.trans z))]; exact ⟨h1, h2, h3⟩
theorem KT.put {H : Hp} {kvs : List (List Key × V)} {xs : List (List Key × Addr × Value)} (r : KT H kvs xs) (k : List Key) {b : Addr} {y : V} {u : Value} (hb : H b = some (.tup (k.map kV))) (ry : RelV y u) :
    KT H (putK kvs k y) (storedH xs k b u) := by
  have e : (kvs.any fun kv => decide (kv.1 = k)) = (atKey xs k).isSome := by
    rw [valV_any, (r.val k).isSome_eq, Option.isSome_map]
  unfold putK storedH
  rw [e]
  by_cases q : (atKey xs k).isSome = true
  · rw [if_pos q, if_pos q]; exact r.repl k ry
  · rw [if_neg q, if_neg q]; exact Paired.snoc r ⟨rfl, hb, ry⟩
theorem KT.keeps {H H' : Hp} {kvs : List (List Key × V)} {xs : List (List Key × Addr × Value)} (r : KT H kvs xs) (ht : ∀ b ys, H b = some (.tup ys) → H' b = some (.tup ys)) : KT H' kvs xs :=
  Paired.mapP r fun _ _ z => ⟨z.1, ht _ _ z.2.1, z.2.2⟩

section
variable {P : Program} {w : World} {H : Hp} {h : Heap} {a : Addr}
theorem rd_of {u : HO} (ok : HOk P w H h) (e : Rd H a u) : ObjOk P w H h a u := e.ok ok
theorem dk_rd {kvs : List (Key × V)} (ok : HOk P w H h) (e : Rd H a (.dK kvs)) : kvs.length ≤ sizeLine ∧ (a == sysModules) = false ∧ ∃ vs, KV kvs vs ∧ h.DictOf (mixKind P w) a vs :=
  show ObjOk P w H h a (.dK kvs) from rd_of ok e
theorem dk_of {kvs : List (Key × V)} (ok : HOk P w H h) (e : H a = some (.dK kvs)) : kvs.length ≤ sizeLine ∧ (a == sysModules) = false ∧ ∃ vs, KV kvs vs ∧ h.DictOf (mixKind P w) a vs := dk_rd ok (.inl e)
/-- a tracked tuple of ints and texts is a key -/
theorem key_of {ks : List Key} (ok : HOk P w H h) (e : H a = some (.tup (ks.map kV))) : (tupleKind (mixKind P w)).is h ks a := by
  obtain ⟨_, its, r, o, h1, h2, n, h3⟩ := (show ObjOk P w H h a (.tup (ks.map kV)) from ok a _ e)
  exact ⟨o, its.toArray, n, h1, h2, h3, by simpa using items_are r⟩
theorem dt_rd {kvs : List (List Key × V)} (ok : HOk P w H h) (e : Rd H a (.dT kvs)) : kvs.length ≤ sizeLine ∧ (a == sysModules) = false ∧
    ∃ xs, KT H kvs xs ∧ h.DictOfH (tupleKind (mixKind P w)) a xs := by
  obtain ⟨z, y, xs, r, o, es, ep, h1, h2, h3, h4, h5⟩ := (show ObjOk P w H h a (.dT kvs) from rd_of ok e)
  refine ⟨z, y, xs, r, o, es, ep, h1, h2, h3, h4, fun x hx => ?_, h5⟩
  have all : ∀ {l : List (List Key × V)} {m : List (List Key × Addr × Value)}, KT H l m → ∀ x ∈ m, (tupleKind (mixKind P w)).is h x.1 x.2.1 := by
    intro l m q
    induction q with
    | nil => intro x hx; exact nomatch hx
    | @cons p q ps qs hq t ih =>
      intro x hx
      rcases List.mem_cons.mp hx with e | hx
      · subst e
        exact key_of ok (by rw [← hq.1]; exact hq.2.1)
      · exact ih x hx
  exact all r x hx
theorem dt_of {kvs : List (List Key × V)} (ok : HOk P w H h) (e : H a = some (.dT kvs)) : kvs.length ≤ sizeLine ∧ (a == sysModules) = false ∧
    ∃ xs, KT H kvs xs ∧ h.DictOfH (tupleKind (mixKind P w)) a xs := dt_rd ok (.inl e)
end

/-- what the dict at a holds at the key y -/
def DGet (H : Hp) (a : Addr) (y : V) (r : Option V) : Prop :=
  (∃ kvs k, Rd H a (.dK kvs) ∧ y = kV k ∧ r = valV kvs k) ∨ ∃ kvs k b, Rd H a (.dT kvs) ∧ y = .ref b ∧ H b = some (.tup (k.map kV)) ∧ r = valV kvs k
/-- the heap behind a[y] = v -/
def DPut (H : Hp) (a : Addr) (y v : V) (H' : Hp) : Prop :=
  (∃ kvs k, H a = some (.dK kvs) ∧ y = kV k ∧ kvs.length < sizeLine ∧ H' = upd H a (.dK (putK kvs k v))) ∨
  ∃ kvs k b, H a = some (.dT kvs) ∧ y = .ref b ∧ H b = some (.tup (k.map kV)) ∧ kvs.length < sizeLine ∧ H' = upd H a (.dT (putK kvs k v))
theorem DGet.k {H : Hp} {a : Addr} {kvs : List (Key × V)} {k : Key} (e : H a = some (.dK kvs)) : DGet H a (kV k) (valV kvs k) := .inl ⟨kvs, k, .inl e, rfl, rfl⟩
theorem DPut.k {H : Hp} {a : Addr} {kvs : List (Key × V)} {k : Key} {v : V} (e : H a = some (.dK kvs)) (hl : kvs.length < sizeLine) : DPut H a (kV k) v (upd H a (.dK (putK kvs k v))) := .inl ⟨kvs, k, e, rfl, hl, rfl⟩
section
variable {X : Cx} {pins : List (Addr × Obj)} {σ : St} {H : Hp} {s : Shared} {a : Addr} {y v : V} {u r : Value} {o : Option V} {A : Around} {E : Value → Shared → Prop}

theorem Inv.big (I : Inv X pins σ H s) : sysModules < s.heap.objs.size := by
  have h : mainGlobals < s.heap.objs.size := (I.mod.glob.keeps I.bk).lt
  exact Nat.lt_trans (by decide) h

/-- d[y], there -/
theorem d_getItem {Q : Value → Shared → Prop} (hu : A.units + 1 < cLine) (I : Inv X pins σ H s) (g : DGet H a y (some v)) (ry : RelV y u) (h : ∀ w' s', Inv X pins σ H s' → RelV v w' → Q w' s') :
    wpAny (model X.prog X.w) A (getItem (.ref a) u) Q E s := by
  rcases g with ⟨kvs, k, e, ey, l⟩ | ⟨kvs, k, b, e, ey, eb, l⟩
  · subst ey
    obtain ⟨z, hd, vs, rel, dd⟩ := dk_rd I.hok e
    obtain ⟨w', hw, rw'⟩ := RelO.some_of (v := v) (o := valueAt vs k) (by rw [l]; exact rel.val k)
    exact wpAny_getItem_of (kV_is ry) dd.mapOf hw (h w' _ (I.tok _) rw')
  · subst ey
    cases (show u = Value.ref b from ry)
    obtain ⟨z, hd, xs, rel, dd⟩ := dt_rd I.hok e
    obtain ⟨w', hw, rw'⟩ := RelO.some_of (v := v) (o := (atKey xs k).map (·.2)) (by rw [l]; exact rel.val k)
    obtain ⟨p, hp, hp2⟩ := Option.map_eq_some_iff.mp hw
    refine wpAny_getItem_heap (tupleKind_room_in1 hu) (key_of I.hok eb) dd hp ?_
    rw [hp2]
    exact h w' _ (I.tok _) rw'
theorem d_notIn {Q : Value → Shared → Prop} (hu : A.units + 1 < cLine) (I : Inv X pins σ H s) (g : DGet H a y o) (ry : RelV y u) (h : ∀ s', Inv X pins σ H s' → Q (.bool (!o.isSome)) s') :
    wpAny (model X.prog X.w) A (compareOp .NotIn u (.ref a)) Q E s := by
  rcases g with ⟨kvs, k, e, ey, l⟩ | ⟨kvs, k, b, e, ey, eb, l⟩
  · subst ey
    obtain ⟨z, hd, vs, rel, dd⟩ := dk_rd I.hok e
    refine wpAny_notIn_of (kV_is ry) hd dd.mapOf ?_
    rw [← (rel.val k).isSome_eq, ← l]
    exact h _ (I.tok _)
  · subst ey
    cases (show u = Value.ref b from ry)
    obtain ⟨z, hd, xs, rel, dd⟩ := dt_rd I.hok e
    refine wpAny_notIn_heap (tupleKind_room_in1 hu) (key_of I.hok eb) hd dd ?_
    have q := (rel.val k).isSome_eq
    rw [Option.isSome_map] at q
    rw [← q, ← l]
    exact h _ (I.tok _)
/-- a dict's object is replaced -/
theorem d_write {h' : Heap} {t' : Nat} {ob : HO} (I : Inv X pins σ H s) (mu : Mut (H a)) (hs : Heap.SameBut a s.heap h') (he : ∃ q, h'.get? a = some q) (new : ObjOk X.prog X.w (upd H a ob) h' a ob) :
    Inv X pins σ (upd H a ob) { s with heap := h', toks := t' } :=
  I.write (x := a) (e := a) mu (.inl rfl) (fun b q hb z => (hs.2 b hb).trans z) he new
theorem dk_new {P : Program} {w : World} {H' : Hp} {h' : Heap} {kvs : List (Key × V)} {vs : List (Key × Value)} (z : kvs.length ≤ sizeLine) (hd : (a == sysModules) = false) (rel : KV kvs vs) (dd : h'.DictOf (mixKind P w) a vs) :
    ObjOk P w H' h' a (.dK kvs) := ⟨z, hd, vs, rel, dd⟩
/-- d[y] = v -/
theorem d_setItem {H' : Hp} {Q : Unit → Shared → Prop} (hu : A.units + 1 < cLine) (I : Inv X pins σ H s) (g : DPut H a y v H') (ry : RelV y u) (rv : RelV v r) (h : ∀ s', Inv X pins σ H' s' → Q () s') :
    wpAny (model X.prog X.w) A (setItem (.ref a) u r) Q E s := by
  rcases g with ⟨kvs, k, e, ey, l, eH⟩ | ⟨kvs, k, b, e, ey, eb, l, eH⟩
  · subst ey eH
    obtain ⟨z, hd, vs, rel, dd⟩ := dk_of I.hok e
    have hz : vs.length ≤ sizeLine := by rw [← rel.length]; exact z
    have hl : (putK kvs k v).length ≤ sizeLine := by have := length_putK kvs k v; omega
    refine wpAny_setItem_pairs (hsz := hz) (kV_is ry) dd fun h' dd' hs => h _ ?_
    have he : ∃ q, h'.get? a = some q := let ⟨q, _, _, hq, _⟩ := dd'; ⟨q, hq⟩
    exact d_write I (by rw [e]; exact True.intro) hs he (dk_new hl hd (rel.put k rv) dd')
  · subst ey eH
    cases (show u = Value.ref b from ry)
    obtain ⟨z, hd, xs, rel, dd⟩ := dt_of I.hok e
    have hz : xs.length ≤ sizeLine := by rw [← Paired.length rel]; exact z
    have hl : (putK kvs k v).length ≤ sizeLine := by have := length_putK kvs k v; omega
    refine wpAny_setItem_heap (hsz := hz) (tupleKind_room_in1 hu) (key_of I.hok eb) dd fun h' dd' hs => h _ ?_
    obtain ⟨q, es, ep, hq, h2, h3, h4, _, h5⟩ := dd'
    refine d_write I (by rw [e]; exact True.intro) hs ⟨q, hq⟩ ⟨hl, hd, _, (rel.put k eb rv).keeps fun c ys ec => ?_, q, es, ep, hq, h2, h3, h4, h5⟩
    rw [upd_ne (ne_of ec e (fun z => nomatch z))]
    exact ec
end

section
variable {X : Cx} {pins : List (Addr × Obj)} {σ : St} {H : Hp} {s : Shared} {a : Addr} {kvs : List (Key × V)} {k : Key} {u : Value} {A : Around} {E : Value → Shared → Prop}
end


/-! ### readings and rules -/
/-- the element of a subscription, not a slice -/
def NoSl (i : Expr) : Prop := ∀ ov iv, subscripted i false ov iv = operate [ov, iv] (getItem ov iv)
theorem subD_of {prog : Program} {w : World} {A : Around} {E : Value → Shared → Prop} {s : Shared} {env : Env} {value slice : Expr} {pos : Pos} {T id : String} {Q : Value → Shared → Prop}
    (hl : typeLookup (.type T) "__getitem__" = pure (some (.builtin id))) (hs : NoSl slice)
    (h : wpAny (model prog w) A (eval value env) (fun o s₁ => wpAny (model prog w) A (eval slice env) (fun i s₂ => s₂.TypeIs o T ∧ wpAny (model prog w) A (getItem o i) Q E s₂) E s₁) E s) :
    wpAny (model prog w) A (eval (.Subscript value slice pos) env) Q E s := by
  refine Subscript_ (wpAny_mono h (fun o s₁ h₁ => wpAny_mono h₁ (fun i s₂ h₂ => ?_) fun _ _ x => x) fun _ _ x => x)
  obtain ⟨hT, h₂⟩ := h₂
  unfold subscriptTail
  refine wpAny_bind ?_
  rw [getitemInPython_of_ne hT.not_modules]
  refine wpAny_bind (wpAny_specialOf hT hl ?_)
  have fin : wpAny (model prog w) A (subscripted slice false o i) (fun r s₃ => wpAny (model prog w) A (letTemporaryGo value o r >>= fun _ => pure r) Q E s₃) E s₂ := by
    rw [hs o i]
    exact wpAny_operating (wpAny_mono h₂ (fun r s₃ h₃ => wpAny_bind (wpAny_letTemporaryGo (wpAny_pure h₃))) fun _ _ x => x)
  first
    | exact wpAny_pure (wpAny_bind fin)
    | exact wpAny_bind (wpAny_pure (wpAny_bind fin))
    | exact wpAny_bind fin

theorem dict_typeIs {X : Cx} {pins : List (Addr × Obj)} {σ : St} {H : Hp} {s : Shared} {a : Addr} {y : V} {o : Option V} (I : Inv X pins σ H s) (g : DGet H a y o) : s.TypeIs (.ref a) "dict" := by
  rcases g with ⟨kvs, k, e, _, _⟩ | ⟨kvs, k, b, e, _, _, _⟩
  · obtain ⟨_, _, vs, _, dd⟩ := dk_rd I.hok e
    exact dd.typeIs
  · obtain ⟨_, _, xs, _, dd⟩ := dt_rd I.hok e
    exact dd.typeIs
/-- d[y] -/
def tDGet (td ty : TE) : TE := fun σ H Q => td σ H fun x H1 => ty σ H1 fun y H2 => ∃ a v, x = .ref a ∧ DGet H2 a y (some v) ∧ Q v H2
def tDNotIn (ty td : TE) : TE := fun σ H Q => ty σ H fun y H1 => td σ H1 fun x H2 => ∃ a o, x = .ref a ∧ DGet H2 a y o ∧ Q (.bl (!o.isSome)) H2
/-- d[y] = v -/
def sDPut (td ty tv : TE) : TS := fun D σ H => tv σ H fun v H1 => td σ H1 fun x H2 => ty σ H2 fun y H3 => ∃ a H4, x = .ref a ∧ DPut H3 a y v H4 ∧ D.nx σ H4
section
variable {X : Cx} {o i e value : Expr} {pos pos' tpos : Pos} {td ty tv : TE}
theorem pe_dget (hu : X.A.units + 1 < cLine) (ho : PE X o td) (hi : PE X i ty) (hs : NoSl i) : PE X (.Subscript o i pos) (tDGet td ty) := by
  intro pins s σ H Q I h
  refine subD_of PySem.F.slot_dict_getitem.lookup hs (thn (ho pins s σ H _ I h) fun u s1 ⟨x, H1, I1, rx, q1⟩ => thn (hi pins s1 σ H1 _ I1 q1) fun iv s2 ⟨y, H2, I2, ry, a, v, ex, g, q2⟩ => ?_)
  subst ex
  obtain rfl : u = Value.ref a := rx
  exact ⟨dict_typeIs I2 g, d_getItem hu I2 g ry fun w' s3 I3 rw' => ⟨v, H2, I3, rw', q2⟩⟩
theorem pc_dnotin (hu : X.A.units + 1 < cLine) (hi : PE X i ty) (ho : PE X o td) : PC X .NotIn i o (tDNotIn ty td) := by
  intro pins s σ H Q I h
  refine thn (hi pins s σ H _ I h) fun iv s1 ⟨y, H1, I1, ry, q1⟩ => thn (ho pins s1 σ H1 _ I1 q1) fun u s2 ⟨x, H2, I2, rx, a, ov, ex, g, q2⟩ => ?_
  subst ex
  obtain rfl : u = Value.ref a := rx
  exact d_notIn hu I2 g ry fun s3 I3 => ⟨.bl (!ov.isSome), H2, I3, rfl, q2⟩
theorem ps_dput (hu : X.A.units + 1 < cLine) (ho : PE X o td) (hi : PE X i ty) (hv : PE X value tv) (hs : swapsWith value (some (.Subscript o i pos')) pos.line X.env = pure false) :
    PS X (.Assign [.Subscript o i pos'] value pos) (sDPut td ty tv) := by
  intro pins s σ H D I h
  refine wpAny_Assign_Subscript (thn (hv pins s σ H _ I h) fun r s1 ⟨v, H1, I1, rv, q1⟩ => thn (ho pins s1 σ H1 _ I1 q1) fun u s2 ⟨x, H2, I2, rx, q2⟩ => thn (hi pins s2 σ H2 _ I2 q2) fun iv s3 ⟨y, H3, I3, ry, a, H4, ex, g, q3⟩ => ?_) hs
  subst ex
  obtain rfl : u = Value.ref a := rx
  exact d_setItem hu I3 g ry rv fun s4 I4 => ⟨σ, H4, I4, q3⟩
end


/-! ### displays -/
theorem dk_empty {P : Program} {w : World} {H : Hp} (h : Heap) (hb : sysModules < h.objs.size) : ObjOk P w H (h.push { cls := .type "dict", data := .dict #[] }) h.objs.size (.dK []) :=
  ⟨Nat.zero_le _, beq_eq_false_iff_ne.mpr (Ne.symm (Nat.ne_of_lt hb)), [], .nil, Heap.DictOf.new h⟩
/-- {}, to be a dict of the kind that is wanted -/
def tDNewK : TE := fun _ H Q => ∀ p, H p = none → Q (.ref p) (upd H p (.dK []))
section
variable {X : Cx} {pos : Pos}
theorem pe_dnewK : PE X (.Dict [] [] pos) tDNewK := fun pins s σ H Q I h =>
  wpAny_Dict_empty ⟨.ref s.heap.objs.size, _, I.laid (a := s.heap.objs.size) (o := .dK []) (t' := s.toks) (fun _ _ q => Heap.get?_push_of_some _ q) (Nat.le_refl _) (dk_empty s.heap I.big), rfl, h _ (I.hok.fresh (Nat.le_refl _))⟩
end

/-- the pairs of a display, from the left -/
def tPairs : List (TE × TE) → St → Hp → (List (V × V) → Hp → Prop) → Prop
  | [], _, H, Q => Q [] H
  | (tk, tv) :: r, σ, H, Q => tk σ H fun x H1 => tv σ H1 fun y H2 => tPairs r σ H2 fun ps H3 => Q ((x, y) :: ps) H3
abbrev VV : List (V × V) → List (Value × Value) → Prop := Paired fun p q => RelV p.1 q.1 ∧ RelV p.2 q.2
def PPs (X : Cx) (pos : Pos) (keys : List (Option Expr)) (values : List Expr) (trs : List (TE × TE)) : Prop :=
  ∀ (pins : List (Addr × Obj)) (s : Shared) (σ : St) (H : Hp) (Q : List (V × V) → Hp → Prop), Inv X pins σ H s → tPairs trs σ H Q →
    wpAny (model X.prog X.w) X.A (evalPairs (pairTrees keys values X.env pos)) (fun vs s' => ∃ ps H', Inv X pins σ H' s' ∧ VV ps vs ∧ Q ps H') X.xe s
theorem pps_nil {X : Cx} {pos : Pos} : PPs X pos [] [] [] := fun pins s σ H Q I h => pairTrees_nil_walk ⟨[], H, I, .nil, h⟩
theorem pps_cons {X : Cx} {pos : Pos} {k v : Expr} {ks : List (Option Expr)} {vs : List Expr} {tk tv : TE} {trs : List (TE × TE)} (hk : PE X k tk) (hv : PE X v tv) (hr : PPs X pos ks vs trs) :
    PPs X pos (some k :: ks) (v :: vs) ((tk, tv) :: trs) := fun pins s σ H Q I h =>
  pairTrees_cons_walk (thn (hk pins s σ H _ I h) fun u s1 ⟨x, H1, I1, rx, q1⟩ => thn (hv pins s1 σ H1 _ I1 q1) fun w2 s2 ⟨y, H2, I2, ry, q2⟩ =>
    thn (hr pins s2 σ H2 _ I2 q2) fun ws s3 ⟨ps, H3, I3, rel, q3⟩ => ⟨(x, y) :: ps, H3, I3, .cons ⟨rx, ry⟩ rel, q3⟩)

def mergeK (kvs more : List (Key × V)) : List (Key × V) := more.foldl (fun acc kv => putK acc kv.1 kv.2) kvs
theorem KV.merge : ∀ {more : List (Key × V)} {rs : List (Key × Value)} {kvs : List (Key × V)} {vs : List (Key × Value)}, KV more rs → KV kvs vs → KV (mergeK kvs more) (merged vs rs) := by
  intro more rs kvs vs r
  unfold KV at r
  induction r generalizing kvs vs with
  | nil => intro q; exact q
  | @cons p q ps qs h t ih =>
    intro r0
    have e : KV (putK kvs p.1 p.2) (stored vs q.1 q.2) := by
      have := r0.put p.1 h.2
      rw [← h.1]; exact this
    exact ih e
theorem length_mergeK : ∀ (more kvs : List (Key × V)), (mergeK kvs more).length ≤ kvs.length + more.length
  | [], kvs => by show kvs.length ≤ kvs.length + 0; omega
  | p :: r, kvs => by
    have h1 := length_mergeK r (putK kvs p.1 p.2)
    have h2 := length_putK kvs p.1 p.2
    show (mergeK (putK kvs p.1 p.2) r).length ≤ _
    rw [List.length_cons]; omega
theorem carries_of {P : Program} {w : World} : ∀ {kvs : List (Key × V)} {ws : List (Value × Value)}, VV (kvs.map fun kv => (kV kv.1, kv.2)) ws → ∃ rs, Carries (mixKind P w) ws rs ∧ KV kvs rs
  | [], _, r => by rw [List.map_nil] at r; cases r; exact ⟨[], True.intro, .nil⟩
  | p :: kvs, _, r => by
    rw [List.map_cons] at r
    cases r with
    | @cons a b as bs h t =>
      obtain ⟨rs, c, q⟩ := carries_of (P := P) (w := w) t
      obtain ⟨b1, b2⟩ := b
      exact ⟨(p.1, b2) :: rs, ⟨kV_is h.1, rfl, c⟩, .cons ⟨rfl, h.2⟩ q⟩
/-- {k: v, ..} with keys ints and texts; the new dict stands empty while the pairs are made -/
def tDisp (trs : List (TE × TE)) : TE := fun σ H Q => ∀ p, H p = none → tPairs trs σ (upd H p (.dK [])) fun ps H2 => H2 p = some (.dK []) ∧ ∃ kvs : List (Key × V), ps = kvs.map (fun kv => (kV kv.1, kv.2)) ∧ kvs.length ≤ 15 ∧ Q (.ref p) (upd H2 p (.dK (mergeK [] kvs)))
theorem pe_disp {X : Cx} {pos : Pos} {keys : List (Option Expr)} {values : List Expr} {trs : List (TE × TE)} (h : PPs X pos keys values trs) (hall : keys.all (·.isSome) = true) (hl : keys.length = values.length) (h0 : keys ≠ [])
    (h15 : keys.length ≤ 15) : PE X (.Dict keys values pos) (tDisp trs) := by
  intro pins s σ H Q I q
  have hn := I.hok.fresh (Nat.le_refl s.heap.objs.size)
  have I1 := I.laid (a := s.heap.objs.size) (o := .dK []) (h' := s.heap.push { cls := .type "dict", data := .dict #[] }) (t' := s.toks) (fun _ _ q => Heap.get?_push_of_some _ q) (Nat.le_refl _) (dk_empty s.heap I.big)
  refine wpAny_Dict_walk (knd := mixKind X.prog X.w) hall hl h0 h15 (thn (h pins _ σ _ _ I1 (q _ hn)) fun ws s2 ⟨ps, H2, I2, rel, e, kvs, ep, lk, q2⟩ => ?_)
  subst ep
  obtain ⟨rs, c, rk⟩ := carries_of (P := X.prog) (w := X.w) rel
  obtain ⟨z, hd, vs0, r0, dd⟩ := dk_of I2.hok e
  cases r0
  refine ⟨rs, c, dd, fun h' dd' hs => ⟨.ref s.heap.objs.size, _, ?_, rfl, q2⟩⟩
  have hz : (mergeK [] kvs).length ≤ sizeLine := by
    have h1 := length_mergeK kvs []
    rw [List.length_nil] at h1
    rw [sizeLine_eq]; omega
  have he : ∃ q, h'.get? s.heap.objs.size = some q := let ⟨q, _, _, hq, _⟩ := dd'; ⟨q, hq⟩
  exact d_write I2 (by rw [e]; exact True.intro) hs he (dk_new hz hd (rk.merge .nil) dd')


/-! ### methods -/
structure M2 (X : Cx) (o : Expr) (m : Str) (apos : Pos) (e f : Expr) (cpos : Pos) : Prop where
  base : attributeBase o m X.env (eval o X.env) = eval o X.env
  few : ((backTo cpos (starEach [e, f] X.env)).all (fun x => !x.1) && (backToKw cpos (keywordEach [] X.env)).all (fun x => x.1.isSome)
    && decide (([e, f] : List Expr).length + ([] : List Keyword).length + (if ([] : List Keyword).isEmpty then 0 else 1) < 30)) = true
  line : (apos.endLine == cpos.line) = true
  trees : backTo cpos (starEach [e, f] X.env) = [(false, eval e X.env), (false, eval f X.env)]

/-- a is a dict, whatever its keys -/
def IsD (H : Hp) (a : Addr) : Prop := (∃ kvs, Rd H a (.dK kvs)) ∨ ∃ kvs, Rd H a (.dT kvs)
theorem isD_at {X : Cx} {pins : List (Addr × Obj)} {σ : St} {H : Hp} {s : Shared} {a : Addr} (I : Inv X pins σ H s) (d : IsD H a) :
    s.TypeIs (.ref a) "dict" ∧ (∀ b, Value.ref a = .ref b → ∃ ob, s.heap.get? b = some ob ∧ ob.dict = none) ∧ (a == sysModules) = false := by
  rcases d with ⟨kvs, e⟩ | ⟨kvs, e⟩
  · obtain ⟨_, hd, vs, _, dd⟩ := dk_rd I.hok e
    refine ⟨dd.typeIs, fun b q => ?_, hd⟩
    cases q
    obtain ⟨ob, _, _, h1, h2, _⟩ := dd
    exact ⟨ob, h1, h2.2.1⟩
  · obtain ⟨_, hd, xs, _, dd⟩ := dt_rd I.hok e
    refine ⟨dd.typeIs, fun b q => ?_, hd⟩
    cases q
    obtain ⟨ob, _, _, h1, h2, _⟩ := dd
    exact ⟨ob, h1, h2.2.1⟩

section
variable {X : Cx} {pins : List (Addr × Obj)} {σ : St} {H : Hp} {s : Shared} {a : Addr} {y d : V} {u r : Value} {o : Option V} {A : Around} {E : Value → Shared → Prop}
/-- d.get(y, x) -/
theorem d_get2 {Q : Value → Shared → Prop} (hu : A.units + 1 < cLine) (I : Inv X pins σ H s) (g : DGet H a y o) (ry : RelV y u) (rd : RelV d r) (h : ∀ w' s', Inv X pins σ H s' → RelV (o.getD d) w' → Q w' s') :
    wpAny (model X.prog X.w) A (call (.builtin "dict.get") [.ref a, u, r]) Q E s := by
  rcases g with ⟨kvs, k, e, ey, l⟩ | ⟨kvs, k, b, e, ey, eb, l⟩
  · subst ey
    obtain ⟨z, hd, vs, rel, dd⟩ := dk_rd I.hok e
    refine call_meetsIn PySem.F.slot_dict_get dd.typeIs PySem.F.entry_dict_get (PySem.F.args_dict_get_3 _ _ _) (meets_dict_get_default (mixKind X.prog X.w) a (kV_is ry) hd r) ⟨_, dd.mapOf, h _ _ (I.tok _) ?_⟩
    rw [l]
    exact (rel.val k).getD rd
  · subst ey
    cases (show u = Value.ref b from ry)
    obtain ⟨z, hd, xs, rel, dd⟩ := dt_rd I.hok e
    refine call_meetsIn PySem.F.slot_dict_get dd.typeIs PySem.F.entry_dict_get (PySem.F.args_dict_get_3 _ _ _) (meetsH_dict_get_default (tupleKind (mixKind X.prog X.w)) a b hd r) ⟨tupleKind_room_in1 hu, k, xs, key_of I.hok eb, dd, h _ _ (I.tok _) ?_⟩
    rw [l]
    exact (rel.val k).getD rd
end

def tDGet2 (td ty tx : TE) : TE := fun σ H Q => td σ H fun x H1 => ∃ a, x = .ref a ∧ IsD H1 a ∧ ty σ H1 fun y H2 => tx σ H2 fun z H3 => ∃ o, DGet H3 a y o ∧ Q (o.getD z) H3
section
variable {X : Cx} {o e f : Expr} {apos cpos : Pos} {td ty tx : TE}
theorem pe_dget2 (hu : X.A.units + 1 < cLine) (ho : PE X o td) (he : PE X e ty) (hf : PE X f tx) (m : M2 X o "get" apos e f cpos) : PE X (.Call (.Attribute o "get" apos) [e, f] [] cpos) (tDGet2 td ty tx) := by
  intro pins s σ H Q I h
  refine wpAny_Call_method m.base m.few m.line PySem.F.plainAttrs_dict PySem.F.slot_dict_get PySem.F.type_dict_get (thn (ho pins s σ H _ I h) fun u s1 ⟨x, H1, I1, rx, a, ex, d, q1⟩ => ?_)
  subst ex
  obtain rfl : u = Value.ref a := rx
  obtain ⟨t1, t2, _⟩ := isD_at I1 d
  refine ⟨t1, t2, ?_⟩
  rw [m.trees]
  refine Calls.callWith_builtin rfl (Calls.evalArgs_plain (Calls.spliced_cons (thn (he pins s1 σ H1 _ I1 q1) fun iv s2 ⟨y, H2, I2, ry, q2⟩ =>
    Calls.spliced_cons (thn (hf pins s2 σ H2 _ I2 q2) fun fv s3 ⟨z, H3, I3, rz, ov, g, q3⟩ => Calls.spliced_nil ?_))))
  exact d_get2 hu I3 g ry rz fun w' s4 I4 rw' => ⟨_, H3, I4, rw', q3⟩
end

/-! ### dict(d): a copy -/
section
variable {X : Cx} {pins : List (Addr × Obj)} {σ : St} {H : Hp} {s : Shared} {a : Addr} {kvs : List (Key × V)} {A : Around} {E : Value → Shared → Prop}
end


section
variable {X : Cx} {pins : List (Addr × Obj)} {σ : St} {H : Hp} {s : Shared} {a : Addr} {y : V} {u : Value} {A : Around} {E : Value → Shared → Prop}
end
end L2

namespace Att
open PySem PySem.W PySem.Calls PyProof.Rows

/-! ### the script -/
theorem ints_of_wellAll {P : Params} {h : Heap} : ∀ (ns : List Int) (vs : List Value), WellAll P h vs (ns.map WData.int) → IntsAre vs ns := by
  intro ns
  induction ns with
  | nil =>
    intro vs w
    rw [List.map_nil] at w
    cases w
    exact .nil
  | cons n ns ih =>
    intro vs w
    rw [List.map_cons] at w
    cases w with
    | cons a b =>
      cases a
      exact .cons _ _ (ih _ b)

theorem script_of {l : OpenLaw} {n : Nat} (hn : l.most = some n) {P : Params} {h : Heap} {args : List WData} {vals : List Value}
    (hpre : l.row.toRowW.claim.pre args = true) (hwl : WellAll P h vals args) :
    ∃ a vs ns, vals = [Value.ref a] ∧ args = [WData.list (ns.map WData.int)] ∧ h.get? a = some { cls := .type "list", data := .seq vs.toArray } ∧ IntsAre vs ns ∧ ns.length ≤ n := by
  have hsh : WShape.hasAll [] args [.list .int] = true := (pre_splitW hpre).1
  have hc : l.pre.holds [] { args := args } = true := (pre_splitW hpre).2
  obtain ⟨d, r, rfl, h1, h2⟩ := hasAllW_cons hsh
  obtain rfl := hasAllW_nil h2
  obtain ⟨xs, rfl, h3⟩ := hasW_list h1
  obtain ⟨ns, rfl⟩ := items_int h3
  have hlen : ns.length ≤ n := by
    unfold OpenLaw.pre at hc
    have h4 : (WTm.not (.lt (.lit (.int (n : Int))) (.len (.arg 0)))).holds [] { args := [.list (ns.map .int)] } = true := by
      have h4 := (holds_andW hc).1
      rw [hn] at h4
      exact h4
    have h5 := condW_of h4 (w_not (w_lt w_lit (w_len_list (w_arg rfl))))
    rw [List.length_map] at h5
    refine Nat.le_of_not_lt fun q => ?_
    have q' : (n : Int) < ((ns.length : Nat) : Int) := by omega
    first
      | (rw [decide_eq_true q'] at h5; exact absurd h5 (by decide))
      | (simp at h5; omega)
  cases hwl with
  | cons w1 w2 =>
    cases w2
    cases w1 with
    | list ho hall => exact ⟨_, _, ns, rfl, rfl, ho, ints_of_wellAll ns _ hall, hlen⟩

theorem post_true (l : OpenLaw) (args : List WData) : l.row.toRowW.claim.post args (.bool true) args = true :=
  postW_of (r := l.row.toRowW) (X := (true == true))
    (show WShape.has [] (.bool true) .bool = true by first | rfl | decide | simp [WShape.has, WShape.arms, WShape.armsAll])
    (show (WTm.eq .res (.lit (.bool true))).value [] { args := args, res := some (.bool true), after := args } = some (.bool (true == true)) from w_eq_bool (w_res rfl) w_lit) rfl

/-! ### the attachment: holds_open's last premise (the goal 'hc' behind k_head) from a wpAny of the law's body -/
/-- the same from a codeAny of the CALL (for a layer whose function contracts speak of calls) -/
theorem attach_call {l : OpenLaw} {n : Nat} {q : Program} {loose : List Str} {XP : (Str → Option Value) → Heap → Prop} {YP : World → Heap → Prop} {d : DefRec}
    (hn : l.most = some n) (hdf : d.params.defaults = [])
    (call : ∀ (w : World) (s₀ s₁ : Shared) (mg mb : Str → Option Value) (fa : Addr) (o : Obj) (pm cd doc : Value) (a : Addr) (vs : List Value) (ns : List Int),
      Ground q loose [] XP w s₀ mg mb s₁.heap → YP w s₁.heap →
      s₁.heap.get? fa = some o → o.data = .func (docDef d.name d.params d.body d.scope pm cd doc) → s₁.heap.CodeRec cd d.name → mg d.name = some (.ref fa) →
      s₁.heap.get? a = some { cls := .type "list", data := .seq vs.toArray } → IntsAre vs ns → ns.length ≤ n → s₁.gens = #[] →
      codeAny (model l.prog w) callerA (.call (.ref fa) ⟨[.ref a], []⟩) (fun r s' => r = .ok (.ret (.bool true)) ∧ OldK s₁.heap s'.heap ∧ s'.os = s₁.os ∧ AllBare s'.gens) s₁) :
    WalkO q loose XP YP l.row.toRowW d [] (fun f vs => PySem.call f vs) := by
  intro w s₀ s₁ mg mb G Y fa o pm cd doc dV kV ho hd hcd hD hmg hg args vals as hpre hlay hrd hwl hlo
  obtain rfl : dV = .none := Dflts.none hD hdf
  obtain rfl : kV = .none := Dflts.noKw hD
  obtain ⟨a, vs, ns, rfl, rfl, hobj, hints, hlen⟩ := script_of hn hpre hwl
  refine enter_call (codeAny_mono (call w s₀ s₁ mg mb fa o pm cd doc a vs ns G Y ho (fd_plain hd) hcd hmg hobj hints hlen hg) fun r s' hq => ?_)
  obtain ⟨rfl, h2, h3, h4⟩ := hq
  exact ⟨.inl ⟨.bool true, .bool true, [], rfl, fun _ => rfl, .bool true, post_true l _, fun _ => ⟨List.Pairwise.nil, fun _ hm => (nomatch hm)⟩⟩, h2, h3, h4⟩

/-! ### rules over ANY heap (no ledger) from facts about the written part K: the library's own take a ledger (News) for what they write -/
section
variable {prog : Program} {w : World} {A : Around} {E : Value → Shared → Prop} {s : Shared} {K : Frag}

/-! the whole heap as the ledger: makes every rule that writes through a ledger a rule over any heap -/
end
end Att

namespace L2
open PySem PySem.Spec PyProof.Rows

theorem vals_ints : ∀ {vs : List Value} {ns : List Int}, IntsAre vs ns → Vals (ns.map V.int) vs
  | _, _, .nil => .nil
  | _, _, .cons n t h => .cons ⟨t, rfl⟩ (vals_ints h)

/-- nothing is tracked but the script, known to the object (or it is an object of the module) -/
def Only (H : Hp) : Prop := ∀ b, H b = none ∨ ∃ o xs, H b = some (.frz o (.lst xs))

/-- THE HEAD: the law's promise, at the heap behind the top. F, the promise of the law's def, may use that base is part of the heap (so K.In base, base.Ns mainGlobals mg stand in Mod) -/
theorem law_call {P : Program} {w : World} {K : PySem.W.Frag} {mg mb : Str → Option Value} {CX : CXT} {k : Nat} {fa a : Addr} {fd : FuncData} {x : Str} {sp : Sp} {s₁ : Shared} {vs : List Value} {ns : List Int}
    (KX : K.In s₁.heap) (hns : s₁.heap.Ns mainGlobals mg) (hb : s₁.heap.Ns builtinsNs mb) (hbb : ∀ x : Str, x ≠ "__name__" → mb x = bootBuiltins x) (hlim : s₁.heap.NoLimit) (hg : s₁.gens = #[])
    (ha : s₁.heap.get? a = some { cls := .type "list", data := .seq vs.toArray }) (hi : IntsAre vs ns) (hl : ns.length ≤ sizeLine) (hr : Room k callerA)
    (F : ∀ base : Heap, K.In base → base.Ns mainGlobals mg → FnOk P w K mg base CX k fa fd [x] sp) (hbind : ∀ (s : Shared) (u : Value), BindsTo s fd ⟨[u], []⟩ [(x, u)])
    (hsp : ∀ H : Hp, Only H → SqL K H a (ns.map V.int) → sp [.ref a] H (fun v _ => v = .bl true) fun _ _ _ => False)
    (hCX : ∀ H e s', CX [] H s₁ (fun _ _ _ => False) e s' → False) :
    codeAny (model P w) callerA (.call (.ref fa) ⟨[.ref a], []⟩) (fun r s' => r = .ok (.ret (.bool true)) ∧ OldK s₁.heap s'.heap ∧ s'.os = s₁.os ∧ AllBare s'.gens) s₁ := by
  have rv := vals_ints hi
  have lenV := hi.length
  -- from an abstract heap in which nothing but the script may be tracked
  have core : ∀ H : Hp, Only H → SqL K H a (ns.map V.int) → HOk P w H s₁.heap → (∀ b, H b ≠ none → b = a) → (H a ≠ none → K.lookup a = none) →
      codeAny (model P w) callerA (.call (.ref fa) ⟨[.ref a], []⟩) (fun r s' => r = .ok (.ret (.bool true)) ∧ OldK s₁.heap s'.heap ∧ s'.os = s₁.os ∧ AllBare s'.gens) s₁ := by
    intro H hO hS hok hA hK
    have base_of : ∀ {b : Addr} {o : Obj}, s₁.heap.get? b = some o → H b = none → (hidT s₁.heap H).get? b = some o := fun e n => hidT_get e n
    have noA : ∀ {b : Addr} {o : Obj} {es : Array DictEntry} {ep : Nat}, s₁.heap.get? b = some o → o.data = .dict es ep → H b = none := fun {b o es ep} e d => by
      cases q : H b with
      | none => rfl
      | some u =>
        have e' : b = a := hA b (by rw [q]; simp)
        subst e'
        rw [ha] at e; cases e
        have d' : Data.seq vs.toArray _ = Data.dict es ep := d
        cases d'
    have nsK : ∀ {b : Addr} {m : Str → Option Value}, s₁.heap.Ns b m → (hidT s₁.heap H).Ns b m := fun {b m} ⟨o, es, ep, e, d, r⟩ => ⟨o, es, ep, base_of e (noA e d), d, r⟩
    have hKb : K.In (hidT s₁.heap H) := fun b o e => base_of (KX b o e) (by
      cases q : H b with
      | none => rfl
      | some u =>
        have e' : b = a := hA b (by rw [q]; simp)
        subst e'
        rw [hK (by rw [q]; simp)] at e; cases e)
    have hM : Mod K mg (hidT s₁.heap H) := ⟨hKb, nsK hns, ⟨mb, nsK hb, hbb⟩, let ⟨mc, h1, h2⟩ := hlim; ⟨mc, nsK h1, h2⟩⟩
    have e0 : Env0 P w K mg (hidT s₁.heap H) callerA [] s₁ H := ⟨rfl, hM, fun b o e => of_hidT e, Nat.le_of_eq (hidT_size _ _), trivial, fun b hb => absurd (show b ∈ ([] : List Addr) from hb) (by simp), hok, .of_eq hg⟩
    refine codeAny_mono ((F _ hKb (nsK hns)).run callerA [] s₁ H ⟨[.ref a], []⟩ [.ref a] [.ref a] _ _ hr e0 (hbind s₁ (.ref a)) (.cons rfl .nil) (hsp H hO hS)) fun r s' h => ?_
    cases r with
    | error e => exact (hCX H e s' h).elim
    | ok fl =>
      cases fl with
      | next => exact False.elim h
      | brk => exact False.elim h
      | cont => exact False.elim h
      | ret u =>
        obtain ⟨v, H', os, bare, un, hok', r', q⟩ := h
        have q' : v = .bl true := q
        subst q'
        obtain rfl : u = Value.bool true := r'
        refine ⟨rfl, OldK.of_keep fun b o e => ?_, os, bare⟩
        cases q : H b with
        | none => exact un.keep b o e q (by intro z; exact absurd (show b ∈ ([] : List Addr) from z) (by simp)) (by simp)
        | some u =>
          rcases hO b with z | ⟨ob, xs, z⟩
          · rw [q] at z; cases z
          · have z2 := un.frzs b ob _ z
            obtain ⟨e1, _⟩ := hok b _ z
            obtain ⟨e2, _⟩ := hok' b _ z2
            rw [e] at e1; cases e1
            exact e2
  cases hk : K.lookup a with
  | some o =>
    -- the script is one of the module's own objects
    have e := KX a o hk
    rw [ha] at e
    cases e
    refine core (fun _ => none) (fun _ => .inl rfl) (.inr ⟨_, vs.toArray, _, hk, rfl, rfl, rfl, by rw [List.size_toArray, lenV]; exact hl, by simpa using rv⟩) (fun b u z => by have z' : (none : Option HO) = some u := z; cases z') (fun b z => absurd rfl z) fun z => absurd rfl z
  | none =>
    refine core (fun b => if b = a then some (.frz { cls := .type "list", data := .seq vs.toArray } (.lst (ns.map V.int))) else none) (fun b => ?_) (.inl (.inr ⟨{ cls := .type "list", data := .seq vs.toArray }, if_pos rfl⟩)) (fun b u z => ?_) (fun b z => ?_) fun _ => hk
    · by_cases hb : b = a
      · exact .inr ⟨_, _, if_pos hb⟩
      · exact .inl (if_neg hb)
    · by_cases hb : b = a
      · have z' := (if_pos hb).symm.trans z
        cases z'
        subst hb
        exact ⟨ha, by rw [List.length_map]; exact hl, vs, _, rv, ha⟩
      · have z' := (if_neg hb).symm.trans z
        cases z'
    · by_cases hb : b = a
      · exact hb
      · exact absurd (if_neg hb) z
end L2

namespace L2
open PySem PySem.Spec PyProof.Rows

/-- the goal that k_head leaves (case hc), from the law's promise. F gives the function object fd (K's own) once, then the promise over every base -/
theorem walk_of {l : PySem.W.OpenLaw} {n k : Nat} {q : Program} {loose : List Str} {XP : (Str → Option Value) → Heap → Prop} {YP : World → Heap → Prop} {d : DefRec} {K : Params → PySem.W.Frag} {CX : World → CXT} {sp : World → Sp} {x : Str}
    (hn : l.most = some n) (hn2 : n ≤ sizeLine) (hdf : d.params.defaults = []) (hr : Room k callerA)
    (hY : ∀ (w : World) (h : Heap), YP w h → (K w.params).In h)
    (F : ∀ (w : World) (mg : Str → Option Value) (fa : Addr) (h : Heap), (K w.params).In h → h.Ns mainGlobals mg → mg d.name = some (.ref fa) →
      ∃ fd : FuncData, (∀ (s : Shared) (u : Value), BindsTo s fd ⟨[u], []⟩ [(x, u)]) ∧
        ∀ base : Heap, (K w.params).In base → base.Ns mainGlobals mg → FnOk l.prog w (K w.params) mg base (CX w) k fa fd [x] (sp w))
    (hsp : ∀ (w : World) (H : Hp) (a : Addr) (ns : List Int), ns.length ≤ n → Only H → SqL (K w.params) H a (ns.map V.int) → sp w [.ref a] H (fun v _ => v = .bl true) fun _ _ _ => False)
    (hCX : ∀ (w : World) (H : Hp) (s : Shared) (e : Value) (s' : Shared), CX w [] H s (fun _ _ _ => False) e s' → False) :
    PySem.W.WalkO q loose XP YP l.row.toRowW d [] (fun f vs => PySem.call f vs) := by
  refine Att.attach_call hn hdf fun w s₀ s₁ mg mb fa o pm cd doc a vs ns G Y ho hd hcd hmg hobj hints hlen hg => ?_
  have KX := hY w _ Y
  obtain ⟨fd, hb, hF⟩ := F w mg fa _ KX G.T.g hmg
  exact law_call KX G.T.g G.T.b G.T.builtins G.T.nolimit hg hobj hints (Nat.le_trans hlen hn2) hr hF hb (fun H hO hS => hsp w H a ns hlen hO hS) fun H e s' => hCX w H s₁ e s'
end L2

/- THE LAST THEOREM (shape; LID, My.* are yours):
   My.Adr: a structure of the addresses that your layer names (classes, functions); My.Txt K t: a structure (Prop) of the equations over K;
   My.txt_mk : {K} {implicit addresses ..} (e1 : nsIn K mainGlobals "law" = some (some (.ref f))) (e2 : K.lookup f = some ⟨oc, od, .func (fnOf "law" "law" params body scope dV kV doc pm an cdv ct), sl⟩) (e3 : codeIn K cdv "law" = true) .. : ∃ t, My.Txt K t

set_option maxRecDepth 100000 in
set_option maxHeartbeats 0 in
theorem PySem.Challenge.cw_LID_holds : PySem.Challenge.rw_LID.Holds := by
  w_on; o_law; k_head; (case hw => w_witness2)
  k_fill
  refine L2.walk_of (l := PySem.Challenge.rw_LID) (n := 63) (k := 40) (x := "script") (CX := fun w => ..) (sp := fun _ => My.sp_law) rfl (by decide) rfl ⟨rfl, by decide, by decide⟩ (fun w h Y => PySem.W.kIn_of Y) ?F ?S ?C
  case F =>
    intro w mg fa h KX G hmg
    have T : ∃ t, My.Txt (L2.KOf KX) t := by
      dsimp only [L2.KOf]                          -- K must stand as «<heap const> w.params» for k_is
      refine' My.txt_mk ?e1 ?e2 ?e3 ..
      (case e1 => PySem.W.k_is)                    -- in the order: a name -> its address -> its object -> its parts
      (case e2 => PySem.W.k_is)
      ..
    obtain ⟨t, T⟩ := T
    have e0 := hmg.symm.trans (PySem.W.mg_of KX G T.law)
    cases e0                                       -- fa is the law's own address
    exact ⟨_, fun s u => .of_eq rfl, fun base kb nb => My.law_fn T kb nb⟩     -- if «.of_eq rfl» comes too early: refine' ⟨_, ?b, fun base kb nb => My.law_fn T kb nb⟩; exact fun s u => .of_eq rfl
  case S => exact fun w H a ns hl hO hS => ..
  case C => exact ..
(the tactic k_is has no namespace: write k_is) -/

/-! SHORT WORDS over the layer: a def of the text, its body, what a loop and a test want. -/
namespace L2
open PySem PySem.Spec PyProof.Rows

/-! ### the text by places -/
def defArgs (s : Stmt) : Arguments := match s with
  | .FunctionDef _ a _ _ _ _ _ _ _ _ => a
  | _ => { posonlyargs := [], args := [], vararg := none, kwonlyargs := [], kw_defaults := [], kwarg := none, defaults := [] }
def defBody (s : Stmt) : List Stmt := match s with
  | .FunctionDef _ _ b _ _ _ _ _ _ _ => b
  | _ => []
def defScope (s : Stmt) : Scope := match s with
  | .FunctionDef _ _ _ _ _ _ sc _ _ _ => sc
  | _ => { kind := .function, names := [], isGenerator := false, isCoroutine := false }

/-! ### no exception leaves a def -/
abbrev CX0 : CXT := fun _ _ _ _ _ _ => False
abbrev E0 : XK := fun _ _ _ => False
theorem pass0 {X : Cx} : Passes CX0 X E0 := fun _ _ _ _ _ _ _ h => h.elim

/-! ### a def (or method) of the text as it stands behind the top -/
section
variable {P : Program} {w : World} {K : PySem.W.Frag} {mg : Str → Option Value} {base : Heap}
end
theorem hu_of {A : Around} {k : Nat} (hr : Room k A) : A.units + 1 < cLine := Nat.lt_of_le_of_lt (Nat.add_le_add_left (by decide : 1 ≤ 64) _) hr.units
/-! ### expressions in short: the name that stands in the i-th slot -/
section
variable {X : Cx}
theorem pv (i : Nat) {x : Str} {pos : Pos} (hN : X.N[i]? = some x := by rfl) (hv : Vis X.env.scope x := by first | exact Or.inl rfl | exact Or.inr (Or.inl rfl) | exact Or.inr (Or.inr rfl)) (hd : (x == ("__debug__" : Str)) = false := by decide)
    (hcd : (x == ("__classdict__" : Str)) = false := by decide) : PE X (.Name x pos) (tVar i) := pe_var hN hv hd hcd
end

/-! ### tests -/
theorem iteF {A B : Prop} (h : B) : if false = true then A else B := by
  rw [if_neg Bool.false_ne_true]
  exact h
theorem iteT {A B : Prop} (h : A) : if true = true then A else B := by
  rw [if_pos rfl]
  exact h
/-! ### heaps -/
/-- all that was tracked is as it was -/
def Same (H H' : Hp) : Prop := ∀ b o, H b = some o → H' b = some o
theorem Same.refl (H : Hp) : Same H H := fun _ _ h => h
theorem Same.trans {H H1 H2 : Hp} (a : Same H H1) (b : Same H1 H2) : Same H H2 := fun c o h => b c o (a c o h)
theorem Same.free {H H' : Hp} (e : Same H H') {l : Addr} (h : H' l = Option.none) : H l = Option.none := by
  cases q : H l with
  | none => rfl
  | some o =>
    rw [e l o q] at h
    cases h
theorem Same.seq {K : PySem.W.Frag} {H H' : Hp} {a : Addr} {xs : List V} (e : Same H H') (h : SqL K H a xs) : SqL K H' a xs := by
  rcases h with (h | ⟨o, h⟩) | h
  · exact .inl (.inl (e _ _ h))
  · exact .inl (.inr ⟨o, e _ _ h⟩)
  · exact .inr h

end L2
set_option Elab.async false
set_option linter.all false
set_option maxRecDepth 100000
namespace L2
open PySem PySem.Spec PyProof.Rows
section
variable {X : Cx}
theorem op_mulB : OpR X (binaryOp .Mult) (rI (fun i j => IntMulOk i j) fun i j => .int (i * j)) := opI fun _ _ _ _ _ _ _ hc q => mul_int q hc
theorem op_fdivB : OpR X (binaryOp .FloorDiv) (rI (fun i j => j ≠ 0 ∧ Builtin.divisionGoesByPylong i j = false) fun i j => .int (i.fdiv j)) := opI fun _ _ _ _ _ _ _ hc q => floordiv_int hc.1 q (.inl hc.2)
theorem op_powB : OpR X (binaryOp .Pow) (rI (fun i j => 0 ≤ j ∧ (Builtin.Int.intBits i : Int) * j ≤ 2 ^ 27) fun i j => .int (i ^ j.toNat)) := opI fun _ _ _ _ _ _ _ hc q => pow_int hc.1 hc.2 q
theorem isi_int_int : CallR X (.builtin "isinstance") (fun xs H Q => ∃ i, xs = [.int i, .ty "int"] ∧ Q (.bl true) H) := by
  intro pins s σ H xs us Q I r h
  obtain ⟨i, rfl, q⟩ := h
  obtain ⟨u, w', rfl, ⟨t, rfl⟩, e2⟩ := vals2 r
  cases e2
  exact PySem.call_isinstance (PySem.isinstance_true (Tx := "int") PySem.F.isi_meta_int PySem.F.isi_self_int) ⟨rfl, ⟨.bl true, H, I, rfl, q⟩⟩
theorem isi_int_bool : CallR X (.builtin "isinstance") (fun xs H Q => ∃ i, xs = [.int i, .ty "bool"] ∧ Q (.bl false) H) := by
  intro pins s σ H xs us Q I r h
  obtain ⟨i, rfl, q⟩ := h
  obtain ⟨u, w', rfl, ⟨t, rfl⟩, e2⟩ := vals2 r
  cases e2
  exact PySem.call_isinstance (PySem.isinstance_false_int (T := "bool") (by decide) PySem.F.isi_meta_bool PySem.F.sub_int_bool) ⟨.bl false, H, I.tok _, rfl, q⟩
theorem isi_bl_bool : CallR X (.builtin "isinstance") (fun xs H Q => ∃ i, xs = [.bl i, .ty "bool"] ∧ Q (.bl true) H) := by
  intro pins s σ H xs us Q I r h
  obtain ⟨i, rfl, q⟩ := h
  obtain ⟨u, w', rfl, e1, e2⟩ := vals2 r
  cases e1
  cases e2
  exact PySem.call_isinstance (PySem.isinstance_true (Tx := "bool") PySem.F.isi_meta_bool PySem.F.isi_self_bool) ⟨rfl, ⟨.bl true, H, I, rfl, q⟩⟩
theorem isi_tup_tup : CallR X (.builtin "isinstance") (fun xs H Q => ∃ a ys, xs = [.ref a, .ty "tuple"] ∧ SqT X.K H a ys ∧ Q (.bl true) H) := by
  intro pins s σ H xs us Q I r h
  obtain ⟨a, ys, rfl, hs, q⟩ := h
  obtain ⟨u, w', rfl, e1, e2⟩ := vals2 r
  cases e1
  cases e2
  obtain ⟨its, _, p1, _⟩ := I.tuple hs
  exact PySem.call_isinstance (PySem.isinstance_true (Tx := "tuple") PySem.F.isi_meta_tuple PySem.F.isi_self_tuple) ⟨p1.typeIs, ⟨.bl true, H, I, rfl, q⟩⟩
end
end L2
set_option Elab.async false
set_option linter.all false
set_option maxRecDepth 100000
namespace Sw
open PySem
/-! ### sizes -/
def Bd (n : Nat) (x : Int) : Prop := x.natAbs < 2 ^ n
theorem Bd.mono {m n : Nat} {x : Int} (h : Bd m x) (e : m ≤ n) : Bd n x := Nat.lt_of_lt_of_le h (Nat.pow_le_pow_right (by decide) e)
theorem Bd.of_le {n : Nat} {x y : Int} (h : Bd n y) (e : x.natAbs ≤ y.natAbs) : Bd n x := Nat.lt_of_le_of_lt e h
theorem Bd.neg {n : Nat} {x : Int} (h : Bd n x) : Bd n (-x) := h.of_le (by omega)
theorem Bd.mul {m n : Nat} {x y : Int} (h : Bd m x) (g : Bd n y) : Bd (m + n) (x * y) := by
  unfold Bd at *
  rw [Int.natAbs_mul, Nat.pow_add]
  exact Nat.mul_lt_mul_of_lt_of_le h (Nat.le_of_lt g) (Nat.lt_of_le_of_lt (Nat.zero_le _) g)
theorem Bd.add {k : Nat} {x y : Int} (h : Bd k x) (g : Bd k y) : Bd (k + 1) (x + y) := by
  unfold Bd at *
  rw [Nat.pow_succ]
  generalize 2 ^ k = p at h g ⊢
  omega
theorem Bd.sub {k : Nat} {x y : Int} (h : Bd k x) (g : Bd k y) : Bd (k + 1) (x - y) := by
  unfold Bd at *
  rw [Nat.pow_succ]
  generalize 2 ^ k = p at h g ⊢
  omega
theorem Bd.ok {m n : Nat} {x y : Int} (h : Bd m x) (g : Bd n y) (e : m + n ≤ 134217728 := by decide) : IntMulOk x y :=
  IntMulOk.of_le (intBits_le_iff.mpr h) (intBits_le_iff.mpr g) e
theorem Bd.div {n : Nat} {x y : Int} (h : Bd n y) (y0 : y ≠ 0) (e : n ≤ 9000 := by decide) : Builtin.divisionGoesByPylong x y = false := by
  refine PyProof.noPylong_of_log2 ((Nat.log2_lt (by omega)).mpr ?_)
  exact Nat.lt_of_lt_of_le h (Nat.pow_le_pow_right (by decide) e)
theorem Bd.one : Bd 1 1 := by unfold Bd; decide
theorem Bd.zero : Bd 1 0 := by unfold Bd; decide
/-! ### divisors -/
def gcdI (a b : Int) : Int := ((Int.gcd a b : Nat) : Int)
theorem gcdI_nn (a b : Int) : 0 ≤ gcdI a b := Int.natCast_nonneg _
theorem gcdI_neg_l (a b : Int) : gcdI (-a) b = gcdI a b := by unfold gcdI; rw [Int.neg_gcd]
theorem gcdI_neg_r (a b : Int) : gcdI a (-b) = gcdI a b := by unfold gcdI; rw [Int.gcd_neg]
theorem gcdI_fmod {g l : Int} (hl : 0 < l) : gcdI l (g.fmod l) = gcdI g l := by
  unfold gcdI
  have e : g.fmod l = g - (g.fdiv l) * l := by rw [Int.fmod_def, Int.mul_comm]
  rw [e, Int.gcd_comm l, Int.gcd_sub_mul_right_left]
def absI (i : Int) : Int := if i < 0 then -i else i
theorem absI_nn (i : Int) : 0 ≤ absI i := by unfold absI; split <;> omega
theorem gcdI_abs (a b : Int) : gcdI (absI a) (absI b) = gcdI a b := by
  unfold absI
  split <;> split <;> simp only [gcdI_neg_l, gcdI_neg_r]
theorem gcdI_zero {g : Int} (h : 0 ≤ g) : gcdI g 0 = g := by
  unfold gcdI; rw [Int.gcd_zero_right]; omega
theorem gcdI_eq_zero {a b : Int} (h : gcdI a b = 0) : a = 0 ∧ b = 0 := by
  unfold gcdI at h
  exact Int.gcd_eq_zero_iff.mp (by omega)
theorem gcdI_dvd_l (a b : Int) : gcdI a b ∣ a := Int.gcd_dvd_left ..
theorem gcdI_dvd_r (a b : Int) : gcdI a b ∣ b := Int.gcd_dvd_right ..
/-! ### fractions -/
structure Fr (p q a b : Int) : Prop where
  pos : 0 < q
  low : gcdI p q = 1
  same : p * b = a * q
  bt : p.natAbs ≤ a.natAbs
  bb : q.natAbs ≤ b.natAbs
structure Low (p q : Int) : Prop where
  pos : 0 < q
  low : gcdI p q = 1
theorem Fr.to {p q a b : Int} (h : Fr p q a b) : Low p q := ⟨h.pos, h.low⟩
theorem coprime_dvd {p q k : Int} (h : gcdI p q = 1) (d : q ∣ p * k) : q ∣ k := by
  have c : Int.gcd q p = 1 := by unfold gcdI at h; rw [Int.gcd_comm]; omega
  have d' : q.natAbs ∣ p.natAbs * k.natAbs := by rw [← Int.natAbs_mul]; exact Int.natAbs_dvd_natAbs.mpr d
  exact Int.natAbs_dvd_natAbs.mp (Nat.Coprime.dvd_of_dvd_mul_left (show Nat.Coprime q.natAbs p.natAbs from c) d')
theorem low_unique {p q p' q' : Int} (h : Low p q) (h' : Low p' q') (e : p * q' = p' * q) : p = p' ∧ q = q' := by
  have d1 : q ∣ q' := coprime_dvd h.low (by rw [e]; exact Int.dvd_mul_left ..)
  have d2 : q' ∣ q := coprime_dvd h'.low (by rw [← e]; exact Int.dvd_mul_left ..)
  have eq : q = q' := by
    have n1 := Int.le_of_dvd h'.pos d1
    have n2 := Int.le_of_dvd h.pos d2
    omega
  subst eq
  exact ⟨Int.eq_of_mul_eq_mul_right (by have := h.pos; omega) e, rfl⟩
def frC (a b : Int) : Int := if b < 0 then -gcdI a b else gcdI a b
theorem frC_ne {a b : Int} (h : b ≠ 0) : frC a b ≠ 0 := by
  have g : gcdI a b ≠ 0 := fun z => h (gcdI_eq_zero z).2
  unfold frC; split <;> omega
theorem fr_of {a b : Int} (h : b ≠ 0) : Fr (a.fdiv (frC a b)) (b.fdiv (frC a b)) a b := by
  have g : gcdI a b ≠ 0 := fun z => h (gcdI_eq_zero z).2
  have p : 0 < gcdI a b := by have := gcdI_nn a b; omega
  have c0 := frC_ne (a := a) h
  have da : frC a b ∣ a := by
    unfold frC; split
    · exact Int.neg_dvd.mpr (gcdI_dvd_l a b)
    · exact gcdI_dvd_l a b
  have db : frC a b ∣ b := by
    unfold frC; split
    · exact Int.neg_dvd.mpr (gcdI_dvd_r a b)
    · exact gcdI_dvd_r a b
  obtain ⟨x, hx⟩ := da
  obtain ⟨y, hy⟩ := db
  have ex : a.fdiv (frC a b) = x := by
    conv => lhs; arg 1; rw [hx]
    exact Int.mul_fdiv_cancel_left x c0
  have ey : b.fdiv (frC a b) = y := by
    conv => lhs; arg 1; rw [hy]
    exact Int.mul_fdiv_cancel_left y c0
  rw [ex, ey]
  have yp : 0 < y := by
    have e := hy
    unfold frC at e
    rcases (by omega : y < 0 ∨ y = 0 ∨ 0 < y) with q | q | q
    · exfalso
      split at e
      · rename_i hb
        have := Int.mul_neg_of_pos_of_neg p q
        rw [Int.neg_mul] at e
        omega
      · have := Int.mul_neg_of_pos_of_neg p q
        omega
    · rw [q] at hy; omega
    · exact q
  have lowx : gcdI x y = 1 := by
    have m : gcdI (frC a b * x) (frC a b * y) = gcdI a b * gcdI x y := by
      show ((Int.gcd _ _ : Nat) : Int) = _ * ((Int.gcd x y : Nat) : Int)
      rw [Int.gcd_mul_left, Int.natCast_mul]
      congr 1
      unfold frC; split <;> omega
    rw [← hx, ← hy] at m
    exact Int.eq_one_of_mul_eq_self_right g m.symm
  refine ⟨yp, lowx, ?_, ?_, ?_⟩
  · conv => lhs; rw [hy]
    conv => rhs; rw [hx]
    rw [← Int.mul_assoc, Int.mul_comm x]
  · have : a.natAbs = (frC a b).natAbs * x.natAbs := by conv => lhs; rw [hx]; rw [Int.natAbs_mul]
    rw [this]
    exact Nat.le_mul_of_pos_left _ (by omega)
  · have : b.natAbs = (frC a b).natAbs * y.natAbs := by conv => lhs; rw [hy]; rw [Int.natAbs_mul]
    rw [this]
    exact Nat.le_mul_of_pos_left _ (by omega)
end Sw
set_option Elab.async false
set_option linter.all false
set_option maxRecDepth 100000
namespace L2
open PySem
inductive Isi (K : PySem.W.Frag) (H : Hp) : V → String → Bool → Prop where
  | ii (i : Int) : Isi K H (.int i) "int" true
  | ib (i : Int) : Isi K H (.int i) "bool" false
  | bb (b : Bool) : Isi K H (.bl b) "bool" true
  | tt (a : Addr) (ys : List V) (h : SqT K H a ys) : Isi K H (.ref a) "tuple" true
theorem call_isi {X : Cx} : CallR X (.builtin "isinstance") (fun xs H Q => ∃ x T b, xs = [x, .ty T] ∧ Isi X.K H x T b ∧ Q (.bl b) H) := by
  intro pins s σ H xs us Q I r h
  obtain ⟨x, T, b, rfl, i, q⟩ := h
  cases i with
  | ii i => exact isi_int_int pins s σ H _ us Q I r ⟨i, rfl, q⟩
  | ib i => exact isi_int_bool pins s σ H _ us Q I r ⟨i, rfl, q⟩
  | bb i => exact isi_bl_bool pins s σ H _ us Q I r ⟨i, rfl, q⟩
  | tt a ys h => exact isi_tup_tup pins s σ H _ us Q I r ⟨a, ys, rfl, h, q⟩
end L2
namespace Sw
open PySem L2
theorem dT {p A B : Prop} [Decidable p] (h : p) (a : A) : if decide p = true then A else B := by rw [if_pos (decide_eq_true h)]; exact a
theorem dF {p A B : Prop} [Decidable p] (h : ¬ p) (b : B) : if decide p = true then A else B := by rw [if_neg (by simp [h])]; exact b
theorem d2 {p A B : Prop} [Decidable p] (h1 : p → A) (h2 : ¬ p → B) : if decide p = true then A else B := by
  by_cases h : p
  · exact dT h (h1 h)
  · exact dF h (h2 h)
theorem nT {p A B : Prop} [Decidable p] (h : ¬ p) (a : A) : if (!decide p) = true then A else B := by rw [if_pos (by simp [h])]; exact a
theorem nF {p A B : Prop} [Decidable p] (h : p) (b : B) : if (!decide p) = true then A else B := by rw [if_neg (by simp [h])]; exact b
theorem vi {a b : Int} (h : a = b) : V.int a = V.int b := by rw [h]
theorem vj {a b : Int} (h : V.int a = V.int b) : a = b := by cases h; rfl
theorem d2I {a b : Int} {A B : Prop} (h1 : a = b → A) (h2 : a ≠ b → B) : if decide (V.int a = V.int b) = true then A else B := d2 (fun h => h1 (vj h)) fun h => h2 fun e => h (vi e)
theorem n2I {a b : Int} {A B : Prop} (h1 : a ≠ b → A) (h2 : a = b → B) : if (!decide (V.int a = V.int b)) = true then A else B := by
  by_cases h : a = b
  · exact nF (vi h) (h2 h)
  · exact nT (fun e => h (vj e)) (h1 h)
section
variable {X : Cx} {k j : Nat} {x : Str} {ps : List Str} {sp : Sp} {p pos : Pos} {e : Expr} {es : List Expr} {t : TA}
end
/-! ### promises -/
def spDiv : Sp := fun vs H Q _ => ∃ a b : Int, vs = [.int a, .int b] ∧ Q (.int (gcdI a b)) H
def spCell (K : PySem.W.Frag) : Sp := fun vs H Q _ => ∃ (a : Addr) (ns : List Int) (k : Int), vs = [.ref a, .int k] ∧ SqL K H a (ns.map V.int) ∧ 0 ≤ k ∧ ∀ v : Int, Q (.int v) H
def spWhole : Sp := fun vs H Q _ => ∃ v : Int, vs = [.int v] ∧ Q (.bl true) H
def spLaw (K : PySem.W.Frag) : Sp := fun vs H Q _ => ∃ (a : Addr) (ns : List Int), vs = [.ref a] ∧ SqL K H a (ns.map V.int) ∧ ns.length ≤ 63 ∧ ∀ H', Q (.bl true) H'
theorem cell_ok {ns : List Int} {k : Int} (h0 : 0 ≤ k) (h : k < (((ns.map V.int).length : Nat) : Int)) : ∃ v : Int, atI (ns.map V.int) k = some (.int v) := by
  rw [List.length_map] at h
  have hk : k.toNat < ns.length := by omega
  have ek : k = ((k.toNat : Nat) : Int) := by omega
  have q : atI (ns.map V.int) ((k.toNat : Nat) : Int) = some (.int ns[k.toNat]) := atI_nat (by rw [List.getElem?_map, List.getElem?_eq_getElem hk] <;> rfl)
  rw [← ek] at q
  exact ⟨_, q⟩
end Sw
set_option Elab.async false
set_option linter.all false
set_option maxRecDepth 100000
namespace Sw
open PySem L2
theorem cut {t u : TS} {D : Ends} {σ : L2.St} {H : Hp} (I : L2.St → Hp → Prop) (h1 : ∀ N : L2.St → Hp → Prop, (∀ σ H, I σ H → N σ H) → t { D with nx := N } σ H) (h2 : ∀ σ H, I σ H → u D σ H) : tSeq t u D σ H := h1 _ h2
theorem sameT {K : PySem.W.Frag} {H H' : Hp} {a : Addr} {xs : List V} (e : Same H H') (h : SqT K H a xs) : SqT K H' a xs := by
  rcases h with (h | ⟨o, h⟩) | h
  · exact .inl (.inl (e _ _ h))
  · exact .inl (.inr ⟨o, e _ _ h⟩)
  · exact .inr h
theorem same_new {H : Hp} {p : Addr} (h : H p = none) (o : HO) : Same H (upd H p o) := fun b u q => by rw [upd_ne (ne_of_none q h)]; exact q
theorem frC_pos {a b : Int} (h : 0 < b) : frC a b = gcdI a b := by unfold frC; rw [if_neg (by omega)]
theorem frC_bd {n : Nat} {a b : Int} (b0 : b ≠ 0) (h : Bd n b) : Bd n (frC a b) := by
  have d : gcdI a b ∣ b := gcdI_dvd_r a b
  have k := Nat.le_of_dvd (by omega) (Int.natAbs_dvd_natAbs.mpr d)
  refine h.of_le ?_
  unfold frC
  split <;> omega
/-- a new pair -/
def Pair (H : Hp) (Q : VK) (p q : Int) : Prop := ∀ (t : Addr) (H' : Hp), Same H H' → H' t = some (.tup [.int p, .int q]) → Q (.ref t) H'
def spLow : Sp := fun vs H Q _ => ∃ a b : Int, vs = [.int a, .int b] ∧ 0 < b ∧ Bd 8500 b ∧ ∀ p q : Int, Fr p q a b → Pair H Q p q
def spFr : Sp := fun vs H Q _ => ∃ a b : Int, vs = [.int a, .int b] ∧ b ≠ 0 ∧ Bd 8500 b ∧ ∀ p q : Int, Fr p q a b → Pair H Q p q
structure FrIn (K : PySem.W.Frag) (n : Nat) (H : Hp) (t : Addr) (p q : Int) : Prop where
  at_ : SqT K H t [.int p, .int q]
  pos : 0 < q
  bp : Bd n p
  bq : Bd n q
theorem FrIn.same {K : PySem.W.Frag} {n : Nat} {H H' : Hp} {t : Addr} {p q : Int} (h : FrIn K n H t p q) (e : Same H H') : FrIn K n H' t p q := ⟨sameT e h.at_, h.pos, h.bp, h.bq⟩
theorem FrIn.mono {K : PySem.W.Frag} {m n : Nat} {H : Hp} {t : Addr} {p q : Int} (h : FrIn K m H t p q) (e : m ≤ n) : FrIn K n H t p q := ⟨h.at_, h.pos, h.bp.mono e, h.bq.mono e⟩
theorem FrIn.of {K : PySem.W.Frag} {n : Nat} {H : Hp} {t : Addr} {p q a b : Int} (f : Fr p q a b) (ha : Bd n a) (hb : Bd n b) (e : H t = some (.tup [.int p, .int q])) : FrIn K n H t p q := ⟨SqT.of e, f.pos, ha.of_le f.bt, hb.of_le f.bb⟩
def spLess (K : PySem.W.Frag) : Sp := fun vs H Q _ => ∃ (t t' : Addr) (p q p' q' : Int), vs = [.ref t, .ref t'] ∧ FrIn K 4000 H t p q ∧ FrIn K 4000 H t' p' q' ∧ Q (.bl (decide (p * q' < p' * q))) H
def spUp (K : PySem.W.Frag) : Sp := fun vs H Q _ => ∃ (t : Addr) (p q : Int), vs = [.ref t] ∧ FrIn K 8000 H t p q ∧ Q (.int (-((-p).fdiv q))) H
theorem fdiv_bounds {p q : Int} (h : 0 < q) : p.fdiv q * q ≤ p ∧ p < (p.fdiv q + 1) * q := by
  have e := Int.fmod_def p q
  have h1 := Int.fmod_nonneg_of_pos p h
  have h2 := Int.fmod_lt_of_pos p h
  have e2 : p.fdiv q * q = q * p.fdiv q := Int.mul_comm ..
  have e3 : (p.fdiv q + 1) * q = q * p.fdiv q + q := by rw [Int.add_mul, e2, Int.one_mul]
  omega
theorem up_bounds {p q : Int} (h : 0 < q) : p ≤ -((-p).fdiv q) * q ∧ (-((-p).fdiv q) - 1) * q < p := by
  have b := fdiv_bounds (p := -p) h
  have e1 : -((-p).fdiv q) * q = -((-p).fdiv q * q) := Int.neg_mul ..
  have e2 : (-((-p).fdiv q) - 1) * q = -(((-p).fdiv q + 1) * q) := by rw [← Int.neg_mul]; congr 1; omega
  omega
theorem fdiv_bd {n : Nat} {p q : Int} (h : Bd n p) : Bd n (p.fdiv q) := h.of_le (natAbs_fdiv_le p q)
end Sw
set_option Elab.async false
set_option linter.all false
set_option maxRecDepth 100000
namespace Sw
open PySem L2
structure FunD (K : PySem.W.Frag) (x qual : Str) (st : Stmt) (dV : Value) (f : Addr) (fd : FuncData) : Prop where
  ex : ∃ (oc : Value) (od : Option Addr) (kV doc pm : Value) (an : Option Addr) (cdv ct : Value) (osl : Array (Option Value)),
    fd = PySem.W.fnOf x qual (defArgs st) (defBody st) (defScope st) dV kV doc pm an cdv ct ∧ K.lookup f = some ⟨oc, od, .func fd, osl⟩ ∧ PySem.W.codeIn K cdv qual = true
  kp : PySem.W.keepIn K (.ref f) = true
section
variable {P : Program} {w : World} {K : PySem.W.Frag} {mg : Str → Option Value} {base : Heap}
theorem FunD.ok {x qual : Str} {st : Stmt} {dV : Value} {f : Addr} {fd : FuncData} {N ps : List Str} {k : Nat} {sp : Sp} (F : FunD K x qual st dV f fd) (S : FnScope N ps (defScope st)) (len : ∀ vs H Q E, sp vs H Q E → vs.length = ps.length)
    (hbody : ∀ (cdv : Value) (A : Around) (outer : List Env) (s : Shared) (H : Hp) (vs : List V) (Q : VK) (E : XK), Room k (A.deeper (PyProof.Rows.envOfC qual (defScope st) s.heap.objs.size f cdv)) → sp vs H Q E →
      ∃ t, PSs (cxOf CX0 P w K mg base N qual (defScope st) f cdv A outer s H E).nox (defBody st) t ∧ t { nx := fun _ H' => Q .non H', rt := Q } (start N vs) H) : FnOk P w K mg base CX0 (k + 1) f fd ps sp := by
  obtain ⟨oc, od, kV, doc, pm, an, cdv, ct, osl, rfl, lk, hcd⟩ := F.ex
  refine fn_of lk hcd S len fun A outer s H vs Q E hr hsp => ?_
  obtain ⟨t, h, q⟩ := hbody cdv A outer s H vs Q E hr hsp
  exact ⟨t, h.nox, q⟩
theorem FunD.binds {x qual : Str} {st : Stmt} {T : Addr} {f : Addr} {fd : FuncData} {ps : List Str} {o : Obj} {items : Array Value} {n : Nat} {ds : List Value} (F : FunD K x qual st (.ref T) f fd) (ho : K.lookup T = some o) (hs : o.data = .seq items n)
    (h : ∀ (kV doc pm : Value) (an : Option Addr) (cdv ct : Value) (us : List Value), (us ++ ds).length = ps.length → ∃ k : Option (Array Value) → Sem (List (Str × Value)), bindArgs (PySem.W.fnOf x qual (defArgs st) (defBody st) (defScope st) (.ref T) kV doc pm an cdv ct) ⟨us, []⟩ = seqItems? (.ref T) >>= k ∧ k (some items) = pure (ps.zip (us ++ ds))) : Binds K fd ps ds := by
  obtain ⟨oc, od, kV, doc, pm, an, cdv, ct, osl, rfl, lk, hcd⟩ := F.ex
  intro s us KX hl
  obtain ⟨k, h1, h2⟩ := h kV doc pm an cdv ct us hl
  exact PySem.W.binds_K KX rfl ho hs h1 h2
theorem FunD.binds0 {x qual : Str} {st : Stmt} {dV : Value} {f : Addr} {fd : FuncData} {ps : List Str} (F : FunD K x qual st dV f fd)
    (h : ∀ (kV doc pm : Value) (an : Option Addr) (cdv ct : Value) (us : List Value), us.length = ps.length → bindArgs (PySem.W.fnOf x qual (defArgs st) (defBody st) (defScope st) dV kV doc pm an cdv ct) ⟨us, []⟩ = pure (ps.zip us)) : Binds K fd ps [] := by
  obtain ⟨oc, od, kV, doc, pm, an, cdv, ct, osl, rfl, lk, hcd⟩ := F.ex
  exact .all (h kV doc pm an cdv ct)
theorem funD_mk {x qual : Str} {st : Stmt} {f : Addr} {oc dV : Value} {od an : Option Addr} {osl : Array (Option Value)} {kV doc pm cdv ct : Value} (l : K.lookup f = some ⟨oc, od, .func (PySem.W.fnOf x qual (defArgs st) (defBody st) (defScope st) dV kV doc pm an cdv ct), osl⟩)
    (c : PySem.W.codeIn K cdv qual = true) (k : PySem.W.keepIn K (.ref f) = true) : FunD K x qual st dV f (PySem.W.fnOf x qual (defArgs st) (defBody st) (defScope st) dV kV doc pm an cdv ct) := ⟨⟨oc, od, kV, doc, pm, an, cdv, ct, osl, rfl, l, c⟩, k⟩
end
section
variable {X : Cx} {k j : Nat} {x : Str} {ps : List Str} {sp : Sp} {p pos : Pos} {e : Expr} {es : List Expr} {t : TA} {dvs : List V}
end
def spPlus (K : PySem.W.Frag) : Sp := fun vs H Q _ => ∃ (t t' : Addr) (p q p' q' : Int), vs = [.ref t, .ref t'] ∧ FrIn K 4000 H t p q ∧ FrIn K 4000 H t' p' q' ∧ ∀ r s : Int, Fr r s (p * q' + p' * q) (q * q') → Pair H Q r s
def spMinus (K : PySem.W.Frag) : Sp := fun vs H Q _ => ∃ (t t' : Addr) (p q p' q' : Int), vs = [.ref t, .ref t'] ∧ FrIn K 4000 H t p q ∧ FrIn K 4000 H t' p' q' ∧ ∀ r s : Int, Fr r s (p * q' - p' * q) (q * q') → Pair H Q r s
def spProd (K : PySem.W.Frag) : Sp := fun vs H Q _ => ∃ (t t' : Addr) (p q p' q' : Int), vs = [.ref t, .ref t'] ∧ FrIn K 4000 H t p q ∧ FrIn K 4000 H t' p' q' ∧ ∀ r s : Int, Fr r s (p * p') (q * q') → Pair H Q r s
def spQuot (K : PySem.W.Frag) : Sp := fun vs H Q _ => ∃ (t t' : Addr) (p q p' q' : Int), vs = [.ref t, .ref t'] ∧ FrIn K 4000 H t p q ∧ FrIn K 4000 H t' p' q' ∧ p' ≠ 0 ∧ ∀ r s : Int, Fr r s (p * q') (q * p') → Pair H Q r s
/-! ### the mathematics of sums -/
theorem cancel {x y k : Int} (h : x * k = y * k) (k0 : k ≠ 0) : x = y := Int.eq_of_mul_eq_mul_right k0 h
theorem mul_ne {x y : Int} (h : 0 < x) (g : 0 < y) : x * y ≠ 0 := by have := Int.mul_pos h g; omega
end Sw
set_option Elab.async false
set_option linter.all false
set_option maxRecDepth 100000
namespace XH
open PySem
/-! ### what a frame's note and the flight of an exception change -/
structure Mv (fs ch : List Addr) (h h' : Heap) : Prop where
  keep : ∀ b o, b ∉ fs → b ∉ ch → h.get? b = some o → h'.get? b = some o
  slot : ∀ b o, b ∈ fs → b ∉ ch → h.get? b = some o → ∃ sl, h'.get? b = some { o with slots := sl }
  there : ∀ b o, h.get? b = some o → ∃ o', h'.get? b = some o'
theorem Mv.refl (fs ch : List Addr) (h : Heap) : Mv fs ch h h := ⟨fun _ _ _ _ q => q, fun _ o _ _ q => ⟨o.slots, q⟩, fun _ o q => ⟨o, q⟩⟩
theorem Mv.trans {fs c1 c2 ch : List Addr} {h h1 h2 : Heap} (x : Mv fs c1 h h1) (y : Mv fs c2 h1 h2) (k1 : ∀ b, b ∈ c1 → b ∈ ch) (k2 : ∀ b, b ∈ c2 → b ∈ ch) : Mv fs ch h h2 where
  keep := fun b o hf hc q => y.keep b o hf (fun z => hc (k2 b z)) (x.keep b o hf (fun z => hc (k1 b z)) q)
  slot := fun b o hf hc q => by
    obtain ⟨sl, q1⟩ := x.slot b o hf (fun z => hc (k1 b z)) q
    obtain ⟨sl2, q2⟩ := y.slot b _ hf (fun z => hc (k2 b z)) q1
    exact ⟨sl2, q2⟩
  there := fun b o q => by
    obtain ⟨o1, q1⟩ := x.there b o q
    exact y.there b o1 q1
/-- the note in an exception's traceback: none yet, or an entry in such a flight -/
inductive XSt where
  | new
  | fl (v : Value)
def XSt.Is (F : Addr → Prop) (h : Heap) (e : Addr) (vs : Array Value) : XSt → Prop
  | .new => vs[1]? = some .none
  | .fl v => ∃ T oT ts, vs[1]? = some (.ref T) ∧ F T ∧ T ≠ e ∧ h.get? T = some oT ∧ oT.data = .fields ts ∧ ts[3]? = some v
/-- room for its entries, and it came with no other one handled -/
def Fz (vs : Array Value) : Prop := 1 < vs.size ∧ vs[2]? = some .none
theorem Fz.set {vs : Array Value} (h : Fz vs) (v : Value) : Fz (vs.setIfInBounds 1 v) := ⟨by simpa using h.1, by rw [Array.getElem?_setIfInBounds]; simp [h.2]⟩
structure XO (F : Addr → Prop) (h : Heap) (e : Addr) (cls : Value) (dx : Option Addr) (st : XSt) : Prop where
  ex : ∃ oe vs, h.get? e = some oe ∧ oe.cls = cls ∧ oe.dict = dx ∧ oe.data = .fields vs ∧ Fz vs ∧ st.Is F h e vs
  fr : F e
theorem XO.mono {F G : Addr → Prop} {h : Heap} {e : Addr} {cls : Value} {dx : Option Addr} {st : XSt} (x : XO F h e cls dx st) (k : ∀ b, F b → G b) : XO G h e cls dx st := by
  obtain ⟨⟨oe, vs, a, b, c, d, f, g⟩, fr⟩ := x
  refine ⟨⟨oe, vs, a, b, c, d, f, ?_⟩, k _ fr⟩
  cases st with
  | new => exact g
  | fl v =>
    obtain ⟨T, oT, ts, g1, g2, g3⟩ := g
    exact ⟨T, oT, ts, g1, k _ g2, g3⟩
theorem mapf_dict (o : Obj) (f : Array Value → Array Value) : (o.mapFields f).dict = o.dict := by
  obtain ⟨c, d, dt, sl⟩ := o
  cases dt <;> rfl
section
variable {M : Model} {A : Around} {E : Value → Shared → Prop} {s : Shared}
theorem entry_ok {base : Heap} {env : Env} {outer : List Env} {L e : Addr} {oe : Obj} {vs : Array Value} {head : Value} {had : Bool} {Q : Unit → Shared → Prop}
    (hfr : A.frames = some (env :: outer)) (hl : s.heap.FunFrames base (env :: outer)) (hf : env.frame = some L) (he : s.heap.get? e = some oe) (hd : oe.data = .fields vs) (hsz : 1 < vs.size)
    (h : ∀ h' T, Mv ((env :: outer).filterMap (·.frame)) [e] s.heap h' → s.heap.get? T = none → T ≠ e → h'.get? e = some (oe.mapFields (·.setIfInBounds 1 (.ref T))) →
      (∃ oT ts, h'.get? T = some oT ∧ oT.data = .fields ts ∧ ts[3]? = some (rawInt L)) → Q () { s with heap := h' }) :
    wpAny M A (do let a ← frameOf env; let pl ← entryPlaceOf L had; let b ← EntryCells.newEntry head a .none (rawInt L) .none pl; setField (.ref e) 1 b) Q E s := by
  have hne : e ∉ (env :: outer).filterMap (·.frame) := by
    intro hm
    obtain ⟨_, o, ho, hnf⟩ := hl.mem hm
    rw [he] at ho
    cases ho
    exact hnf vs hd
  apply wpAny_bind
  apply wpAny_frameOf_fun hfr hl hf
  intro h1 hs
  apply wpAny_bind
  apply wpAny_entryPlaceOf
  intro pl hpl
  unfold EntryCells.newEntry newFields
  apply wpAny_bind
  refine wpAny_newObj_type ?_ (hpl.sizeOk5 ..)
  have e1 : h1.get? e = some oe := (hs.2.1 e hne).trans he
  generalize hob : ({ cls := .type "traceback", dict := none, data := .fields ([head, .ref L, .none, rawInt L, .none] ++ (if pl.isEmpty then List.replicate 6 Value.none else pl)).toArray } : Obj) = ob
  have e2 := Heap.get?_push_of_some (h := h1) ob e1
  refine wpAny_setField e2 hd hsz ?_
  have hTe : h1.objs.size ≠ e := Nat.ne_of_gt (Heap.lt_size e1)
  have d3 := Obj.data_mapFields hd (·.setIfInBounds 1 (Value.ref h1.objs.size))
  have e3 := Heap.get?_update_self (Obj.mapFields (·.setIfInBounds 1 (Value.ref h1.objs.size))) e2 (Obj.isFreed_of_fields d3)
  have kp : ∀ b o, b ≠ e → h1.get? b = some o → ((h1.push ob).update e (Obj.mapFields (·.setIfInBounds 1 (Value.ref h1.objs.size)))).get? b = some o := by
    intro b o hb q
    rw [Heap.get?_update_other _ _ (Ne.symm hb)]
    exact Heap.get?_push_of_some _ q
  have t3 : ((h1.push ob).update e (Obj.mapFields (·.setIfInBounds 1 (Value.ref h1.objs.size)))).get? h1.objs.size = some ob := by
    rw [Heap.get?_update_other _ _ (Ne.symm hTe)]
    exact Heap.get?_push_size h1 (by rw [← hob]; rfl)
  refine h _ h1.objs.size ⟨?_, ?_, ?_⟩ ?_ hTe e3 ?_
  · intro b o hb hc q
    exact kp b o (fun z => hc (by rw [z]; exact List.mem_singleton.mpr rfl)) ((hs.2.1 b hb).trans q)
  · intro b o hb hc q
    obtain ⟨sl, q1⟩ := hs.2.2 b o q
    exact ⟨sl, kp b _ (fun z => hc (by rw [z]; exact List.mem_singleton.mpr rfl)) q1⟩
  · intro b o q
    by_cases hb : b = e
    · subst hb
      exact ⟨_, e3⟩
    · obtain ⟨sl, q1⟩ := hs.2.2 b o q
      exact ⟨_, kp b _ hb q1⟩
  · exact Heap.get?_none_of_le (by rw [hs.1]; exact Nat.le_refl _)
  · subst hob
    refine ⟨_, _, t3, rfl, ?_⟩
    rcases hpl with rfl | ⟨_, _, _, _, _, _, _, rfl⟩ <;> simp
theorem flight_ok {F : Addr → Prop} {e : Addr} {cls v : Value} {dx fl : Option Addr} {Q : Unit → Shared → Prop} (x : XO F s.heap e cls dx (.fl v))
    (h : ∀ h' T, F T → Mv [] [T] s.heap h' → XO F h' e cls dx (.fl (fl.elim .none fun f => rawInt f)) → Q () { s with heap := h' }) : wpAny M A (setFlight (.ref e) fl) Q E s := by
  obtain ⟨⟨oe, vs, he, hc, hdx, hd, hsz, T, oT, ts, h1, hF, hTe, hT, hdT, h3⟩, fr⟩ := x
  have z3 : 3 < ts.size := (Array.getElem?_eq_some_iff.mp h3).1
  have oth : ∀ b, b ≠ T → (s.heap.update T (Obj.mapFields (·.setIfInBounds 3 (fl.elim Value.none fun f => rawInt f)))).get? b = s.heap.get? b := fun b hb => Heap.get?_update_other _ _ (Ne.symm hb)
  have t4 := Heap.get?_update_self (Obj.mapFields (·.setIfInBounds 3 (fl.elim Value.none fun f => rawInt f))) hT (Obj.isFreed_of_fields (Obj.data_mapFields hdT _))
  unfold setFlight
  apply wpAny_bind
  apply wpAny_field he hd h1
  rw [if_pos (by simp)]
  apply wpAny_setField hT hdT z3
  refine h _ T hF ⟨?_, fun b o hb => absurd hb (by simp), ?_⟩ ⟨⟨oe, vs, (oth e (Ne.symm hTe)).trans he, hc, hdx, hd, hsz, T, _, _, h1, hF, hTe, t4, Obj.data_mapFields hdT _, by simp [z3]⟩, fr⟩
  · intro b o _ hb q
    exact (oth b (fun z => hb (by rw [z]; exact List.mem_singleton.mpr rfl))).trans q
  · intro b o q
    by_cases hb : b = T
    · subst hb
      exact ⟨_, t4⟩
    · exact ⟨o, (oth b hb).trans q⟩
theorem note_ok {F : Addr → Prop} {base : Heap} {env : Env} {outer : List Env} {L e : Addr} {cls : Value} {dx : Option Addr} {st : XSt} {Q : Unit → Shared → Prop}
    (hfr : A.frames = some (env :: outer)) (hl : s.heap.FunFrames base (env :: outer)) (hf : env.frame = some L) (x : XO F s.heap e cls dx st)
    (h : ∀ h' ch, (∀ b ∈ ch, F b) → Mv ((env :: outer).filterMap (·.frame)) ch s.heap h' → XO (fun b => F b ∨ s.heap.get? b = none) h' e cls dx (.fl (rawInt L)) → Q () { s with heap := h' }) : wpAny M A (noteFrame (.ref e) env) Q E s := by
  obtain ⟨⟨oe, vs, he, hc, hdx, hd, hsz, hst⟩, fr⟩ := x
  unfold noteFrame
  simp only [hf]
  cases st with
  | new =>
    apply wpAny_bind
    apply wpAny_field he hd hst
    rw [if_neg (by decide)]
    refine entry_ok hfr hl hf he hd hsz.1 fun h' T mv tn tne he' ⟨oT, ts, hT, hdT, h3⟩ => ?_
    refine h h' [e] (fun b hb => by rw [List.mem_singleton.mp hb]; exact fr) mv ⟨⟨_, _, he', ?_, ?_, Obj.data_mapFields hd _, hsz.set _, T, oT, ts, by simp [hsz.1], .inr tn, tne, hT, hdT, h3⟩, .inl fr⟩
    · rw [Obj.cls_mapFields]; exact hc
    · rw [mapf_dict]; exact hdx
  | fl v =>
    obtain ⟨T, oT, ts, h1, hF, hTe, hT, hdT, h3⟩ := hst
    have z3 : 3 < ts.size := (Array.getElem?_eq_some_iff.mp h3).1
    apply wpAny_bind
    apply wpAny_field he hd h1
    rw [if_pos (by simp)]
    apply wpAny_bind
    apply wpAny_field hT hdT h3
    by_cases hv : (v == rawInt L) = true
    · rw [if_pos hv]
      have ev : v = rawInt L := beq_iff_eq.mp hv
      subst ev
      refine wpAny_pure (h s.heap [] (fun b hb => absurd hb (by simp)) (.refl ..) ⟨⟨oe, vs, he, hc, hdx, hd, hsz, T, oT, ts, h1, .inl hF, hTe, hT, hdT, h3⟩, .inl fr⟩)
    · rw [if_neg hv]
      apply wpAny_bind
      apply wpAny_setField hT hdT z3
      have oth : ∀ b, b ≠ T → (s.heap.update T (Obj.mapFields (·.setIfInBounds 3 Value.none))).get? b = s.heap.get? b := fun b hb => Heap.get?_update_other _ _ (Ne.symm hb)
      have t4 := Heap.get?_update_self (Obj.mapFields (·.setIfInBounds 3 Value.none)) hT (Obj.isFreed_of_fields (Obj.data_mapFields hdT _))
      have nrec : ∀ b o, s.heap.get? b = some o → (∀ vs, o.data ≠ .fields vs) → b ≠ T := by
        intro b o hb hn z
        rw [z, hT] at hb
        cases hb
        exact hn ts hdT
      have mv1 : Mv ((env :: outer).filterMap (·.frame)) [T] s.heap (s.heap.update T (Obj.mapFields (·.setIfInBounds 3 Value.none))) := by
        refine ⟨fun b o _ hb q => (oth b (fun z => hb (by rw [z]; exact List.mem_singleton.mpr rfl))).trans q, fun b o _ hb q => ⟨o.slots, (oth b (fun z => hb (by rw [z]; exact List.mem_singleton.mpr rfl))).trans q⟩, fun b o q => ?_⟩
        by_cases hb : b = T
        · subst hb
          exact ⟨_, t4⟩
        · exact ⟨o, (oth b hb).trans q⟩
      refine entry_ok (s := { s with heap := s.heap.update T (Obj.mapFields (·.setIfInBounds 3 Value.none)) }) hfr (hl.of_keeps fun b o hb hn => ⟨o, (oth b (nrec b o hb hn)).trans hb, rfl⟩) hf ((oth e (Ne.symm hTe)).trans he) hd hsz.1 fun h' T2 mv tn tne he' ⟨oT2, ts2, hT2, hdT2, h32⟩ => ?_
      refine h h' [T, e] ?_ (mv1.trans mv (fun b hb => by simp at hb; simp [hb]) (fun b hb => by simp at hb; simp [hb])) ⟨⟨_, _, he', ?_, ?_, Obj.data_mapFields hd _, hsz.set _, T2, oT2, ts2, by simp [hsz.1], .inr ?_, tne, hT2, hdT2, h32⟩, .inl fr⟩
      · intro b hb
        simp at hb
        rcases hb with rfl | rfl
        · exact hF
        · exact fr
      · rw [Obj.cls_mapFields]; exact hc
      · rw [mapf_dict]; exact hdx
      · cases q : s.heap.get? T2 with
        | none => rfl
        | some o =>
          obtain ⟨o', q'⟩ := mv1.there T2 o q
          rw [q'] at tn
          cases tn
end
end XH
set_option Elab.async false
set_option linter.all false
set_option maxRecDepth 100000
namespace L2
open PySem PySem.Spec PyProof.Rows XH
/-! ### an exception behind a call, in flight: it and its notes are untracked, and were not there ahead of the call -/
structure CXat (P : Program) (w : World) (outer : List Env) (H : Hp) (s : Shared) (a : Addr) (H' : Hp) (cls : Value) (dx : Option Addr) (st : XSt) (s' : Shared) : Prop where
  os : s'.os = s.os
  bare : AllBare s'.gens
  un : Un (frs outer) [] H H' s.heap s'.heap
  hok : HOk P w H' s'.heap
  xo : XO (fun b => s.heap.get? b = none ∧ H' b = none) s'.heap a cls dx st
def CX1 (P : Program) (w : World) : CXT := fun outer H s E e s' => ∃ a H' cls dx st, e = .ref a ∧ CXat P w outer H s a H' cls dx st s' ∧ E cls dx H'
section
variable {P : Program} {w : World} {H H' : Hp} {h h' h0 : Heap} {fs ch : List Addr} {a : Addr} {o : HO}
theorem ObjOk.there (x : ObjOk P w H h a o) : ∃ u, h.get? a = some u := by
  cases o with
  | lst xs => obtain ⟨_, _, _, _, e⟩ := x; exact ⟨_, e⟩
  | tup xs => obtain ⟨_, _, _, _, e, _⟩ := x; exact ⟨_, e⟩
  | dK kvs => obtain ⟨_, _, _, _, _, _, _, e, _⟩ := x; exact ⟨_, e⟩
  | dT kvs => obtain ⟨_, _, _, _, _, _, _, e, _⟩ := x; exact ⟨_, e⟩
  | set S n => obtain ⟨_, _, _, _, e, _⟩ := x; exact ⟨_, e⟩
  | ins C dx fs => obtain ⟨_, _, _, e, _⟩ := x; exact ⟨_, e⟩
  | own y => exact x
  | xd fs => obtain ⟨_, ⟨_, _, _, e, _⟩, _⟩ := x; exact ⟨_, e⟩
  | rng lo hi => obtain ⟨_, _, _, e⟩ := x; exact ⟨_, e⟩
  | frz ob u => obtain ⟨e, _⟩ := x; exact ⟨_, e⟩
  | tbl ps => exact ⟨_, show h.get? a = some _ from x⟩
  | met f y => exact ⟨_, show h.get? a = some _ from x⟩
  | ext φ => obtain ⟨_, ⟨_, e⟩, _⟩ := x; exact ⟨_, e⟩
theorem HOk.none_of (k : HOk P w H h) (q : h.get? a = none) : H a = none := by
  cases r : H a with
  | none => rfl
  | some o =>
    obtain ⟨u, e⟩ := (k a o r).there
    rw [q] at e
    cases e
theorem un_mv (u : Un fs [] H H' h0 h) (m : Mv fs ch h h') (hc : ∀ b ∈ ch, h0.get? b = none) : Un fs [] H H' h0 h' where
  keep := fun b o q n hb hx => m.keep b o hb (fun z => by rw [hc b z] at q; cases q) (u.keep b o q n hb hx)
  slot := fun b o q n hb hx => by
    obtain ⟨sl, q1⟩ := u.slot b o q n hb hx
    obtain ⟨sl2, q2⟩ := m.slot b _ hb (fun z => by rw [hc b z] at q; cases q) q1
    exact ⟨sl2, q2⟩
  free := u.free
  there := fun b o q hx => by
    obtain ⟨o1, q1⟩ := u.there b o q hx
    exact m.there b o1 q1
  tups := u.tups
  frzs := u.frzs
  tbls := u.tbls
theorem hok_mv (k : HOk P w H h) (m : Mv fs ch h h') (hc : ∀ b ∈ ch, H b = none) (hf : ∀ b ∈ fs, H b = none) : HOk P w H h' := fun a o e =>
  (k a o e).stay (fun b u hb q => by
    have t : H b ≠ none := by
      rcases hb with z | z
      · rw [z, e]; exact fun y => nomatch y
      · rw [z]; exact fun y => nomatch y
    exact m.keep b u (fun z => t (hf b z)) (fun z => t (hc b z)) q) (fun _ q => q) fun _ _ q => q
theorem _root_.XH.Mv.wider (m : Mv [] ch h h') : Mv fs ch h h' := ⟨fun b o _ hc q => m.keep b o (by simp) hc q, fun b o _ hc q => ⟨o.slots, m.keep b o (by simp) hc q⟩, m.there⟩
theorem funs_un {base : Heap} (u : Un fs [] H H' h h') : ∀ {l : List Env}, h.FunFrames base l → (∀ b ∈ frs l, b ∈ fs ∧ H b = none) → h'.FunFrames base l
  | [], _, _ => trivial
  | env :: r, ⟨hk, ⟨L, o, hf, hn, ho, hd⟩, hr⟩, hs => by
    have hL : L ∈ frs (env :: r) := by unfold frs; rw [List.filterMap_cons, hf]; exact List.mem_cons_self
    obtain ⟨sl, e⟩ := u.slot L o ho (hs L hL).2 (hs L hL).1 (by simp)
    exact ⟨hk, ⟨L, _, hf, hn, e, hd⟩, funs_un u hr fun b hb => hs b (by unfold frs; rw [List.filterMap_cons, hf]; exact List.mem_cons_of_mem _ hb)⟩
end
section
variable {P : Program} {w : World} {H H' : Hp} {s s' : Shared} {a L : Addr} {cls v : Value} {dx : Option Addr} {st : XSt} {env : Env} {outer : List Env} {base : Heap} {M : Model} {A : Around} {Z : Value → Shared → Prop} {Q : Unit → Shared → Prop}
theorem CXat.frees (c : CXat P w outer H s a H' cls dx st s') (hl : s.heap.FunFrames base outer) (hH : ∀ b ∈ frs outer, H b = none) : ∀ b ∈ frs outer, H' b = none := fun b hb => by
  obtain ⟨_, o, ho, _⟩ := hl.mem hb
  exact c.un.free b o ho (hH b hb) (by simp)
theorem CXat.note (c : CXat P w (env :: outer) H s a H' cls dx st s') (hfr : A.frames = some (env :: outer)) (hf : env.frame = some L) (hl : s.heap.FunFrames base (env :: outer)) (hH : ∀ b ∈ frs (env :: outer), H b = none)
    (h : ∀ s'', CXat P w (env :: outer) H s a H' cls dx (.fl (rawInt L)) s'' → Q () s'') : wpAny M A (noteFrame (.ref a) env) Q Z s' := by
  refine note_ok hfr (funs_un c.un hl fun b hb => ⟨hb, hH b hb⟩) hf c.xo fun h' ch hch mv x => h _ ?_
  refine ⟨c.os, c.bare, un_mv c.un mv fun b hb => (hch b hb).1, hok_mv c.hok mv (fun b hb => (hch b hb).2) (c.frees hl hH), x.mono ?_⟩
  rintro b (q | q)
  · exact q
  · refine ⟨?_, c.hok.none_of q⟩
    cases r : s.heap.get? b with
    | none => rfl
    | some o =>
      obtain ⟨o', r'⟩ := c.un.there b o r (by simp)
      rw [r'] at q
      cases q
theorem CXat.flight {fl : Option Addr} (c : CXat P w outer H s a H' cls dx (.fl v) s') (hl : s.heap.FunFrames base outer) (hH : ∀ b ∈ frs outer, H b = none)
    (h : ∀ s'', CXat P w outer H s a H' cls dx (.fl (fl.elim .none fun f => rawInt f)) s'' → Q () s'') : wpAny M A (setFlight (.ref a) fl) Q Z s' := by
  refine flight_ok c.xo fun h' T hT mv x => h _ ⟨c.os, c.bare, un_mv c.un mv.wider fun b hb => ?_, hok_mv c.hok (mv.wider (fs := frs outer)) (fun b hb => ?_) (c.frees hl hH), x⟩
  · rw [List.mem_singleton.mp hb]; exact hT.1
  · rw [List.mem_singleton.mp hb]; exact hT.2
end
/-- what is wanted of an exception in a body: E speaks of the names, its class, its dict, the heap -/
def XS (X : Cx) (E : St → XK) : Value → Shared → Prop := fun e s' => ∃ σ H0 s0, Inv X [] σ H0 s0 ∧ CX1 X.prog X.w X.stack H0 s0 (E σ) e s'
def PassX (X : Cx) (E : St → XK) : Prop := ∀ (pins : List (Addr × Obj)) (σ : St) (H : Hp) (s : Shared) (e : Value) (s' : Shared), Inv X pins σ H s → CX1 X.prog X.w X.stack H s (E σ) e s' → X.xe e s'
theorem passX {X : Cx} {E : St → XK} : PassX (X.wish (XS X E)) E := fun pins σ H s e s' I c => ⟨σ, H, s, I.unwish.pins_of (fun p hp => absurd hp (by simp)), c⟩
def tCallX (sp : Sp) (dvs : List V) (E : St → XK) (t : TA) : TE := fun σ H Q => t σ H fun vs H1 => sp (vs ++ dvs) H1 Q (E σ)
section
variable {X : Cx} {k : Nat} {f C : Addr} {fd : FuncData} {ps : List Str} {sp : Sp} {dvs : List V} {ds : List Value} {E : St → XK} {x m : Str} {p pos apos : Pos} {e o : Expr} {es : List Expr} {ta : TE} {t : TA}
theorem run_fnX {pins : List (Addr × Obj)} {σ : St} {H : Hp} {s : Shared} {Q : VK} {us : List Value} {vs : List V} (F : FnOk X.prog X.w X.K X.mg X.base (CX1 X.prog X.w) k f fd ps sp) (hr : Room k X.A) (hb : Binds X.K fd ps ds) (hd : Vals dvs ds) (hx : PassX X E)
    (I : Inv X pins σ H s) (r : Vals vs us) (h : sp (vs ++ dvs) H Q (E σ)) : wpAny (model X.prog X.w) X.A (call (.ref f) us) (EP X pins σ Q) X.xe s := by
  have r2 : Vals (vs ++ dvs) (us ++ ds) := r.append hd
  have hl : (us ++ ds).length = ps.length := by rw [← r2.length]; exact F.len _ _ _ _ h
  refine wpAny_call (codeAny_mono (F.run X.A X.stack s H ⟨us, []⟩ (us ++ ds) (vs ++ dvs) Q (E σ) hr I.env0 (hb s us I.kIn hl) r2 h) fun r s' hq => ?_)
  cases r with
  | error e => exact hx pins σ H s e s' I hq
  | ok fl =>
    cases fl with
    | ret u => exact I.after hq
    | next => exact False.elim hq
    | brk => exact False.elim hq
    | cont => exact False.elim hq
theorem pe_callX (F : FnOk X.prog X.w X.K X.mg X.base (CX1 X.prog X.w) k f fd ps sp) (hr : Room k X.A) (hg : Gl X x) (hm : X.mg x = some (.ref f)) (hk : PySem.W.keepIn X.K (.ref f) = true) (hb : Binds X.K fd ps ds) (hd : Vals dvs ds) (hx : PassX X E)
    (ha : PA X (e :: es) t) (hdb : (x == ("__debug__" : Str)) = false := by decide) (he : starEach (e :: es) X.env = (false, eval e X.env) :: starEach es X.env := by rfl) (hpl : (backTo pos (starEach es X.env)).any (·.1) = false := by rfl) :
    PE X (.Call (.Name x p) (e :: es) [] pos) (tCallX sp dvs E t) := by
  intro pins s σ H Q I h
  refine wpAny_Call_Name_kw (ld_glob I hg hm ?_ hdb)
  refine PySem.W.callWith_K (h₀ := X.base) I.ok.mod.kin hk (thn (ha pos pins s σ H _ I h) fun us s1 ⟨vs, H1, I1, r, q⟩ => ⟨I1.kIn, ?_⟩) he hpl
  exact run_fnX F hr hb hd hx I1 r q
end
theorem PSs.toX {X : Cx} {E' : Value → Shared → Prop} {st : List Stmt} {t : TS} (h : PSs (X.wish E') st t) (k : ∀ e s, E' e s → X.xe e s) : PSs X st t := fun pins s σ H D I hw =>
  wpAny_mono (h pins s σ H D (I.wish _) hw) (fun _ _ q => q.unwish) fun e s z => k e s z
section
variable {P : Program} {w : World} {K : PySem.W.Frag} {mg : Str → Option Value} {base : Heap}
theorem leave_ok {N : List Str} {qual : Str} {scope : Scope} {f : Addr} {cd : Value} {A : Around} {outer : List Env} {s : Shared} {H : Hp} {E : XK} {e : Value} {s' : Shared}
    (h : XS (cxOf (CX1 P w) P w K mg base N qual scope f cd A outer s H E) (fun _ => E) e s') : (cxOf (CX1 P w) P w K mg base N qual scope f cd A outer s H E).xe e s' := by
  obtain ⟨σ, H0, s0, I, a, H', cls, dx, st, rfl, c, hE⟩ := h
  show wpAny (model P w) (A.deeper (envOfC qual scope s.heap.objs.size f cd)) (leaving (envOfC qual scope s.heap.objs.size f cd) (.ref a)) (fun _ s'' => CX1 P w outer H s E (.ref a) s'') (fun e' s'' => CX1 P w outer H s E e' s'') s'
  unfold leaving
  apply wpAny_bind
  refine c.note (L := s.heap.objs.size) I.ok.frames rfl I.stack I.stkFree fun s1 c1 => ?_
  refine c1.flight I.stack I.stkFree fun s2 c2 => ?_
  have J := I.call' c2.os c2.un c2.hok c2.bare (fun b z => absurd z (by simp))
  refine ⟨a, H', cls, dx, _, rfl, ⟨J.os, c2.bare, J.base, c2.hok, c2.xo.mono fun b q => ⟨?_, q.2⟩⟩, hE⟩
  cases r : s.heap.get? b with
  | none => rfl
  | some o =>
    obtain ⟨o', r'⟩ := I.base.there b o r (fun z => absurd (show b ∈ ([] : List Addr) from z) (by simp))
    rw [q.1] at r'
    cases r'
/-- THE RULE for a def that may refuse -/
theorem fn_ofX {k : Nat} {f : Addr} {name qual : Str} {params : Arguments} {body : List Stmt} {scope : Scope} {dV kV doc pm cdv ct oc : Value} {an od : Option Addr}
    {osl : Array (Option Value)} {N ps : List Str} {sp : Sp} (lk : K.lookup f = some ⟨oc, od, .func (PySem.W.fnOf name qual params body scope dV kV doc pm an cdv ct), osl⟩) (hcd : PySem.W.codeIn K cdv qual = true) (S : FnScope N ps scope)
    (len : ∀ vs H Q E, sp vs H Q E → vs.length = ps.length)
    (hbody : ∀ (A : Around) (outer : List Env) (s : Shared) (H : Hp) (vs : List V) (Q : VK) (E : XK), Room k (A.deeper (envOfC qual scope s.heap.objs.size f cdv)) → sp vs H Q E →
      ∃ t, PSs ((cxOf (CX1 P w) P w K mg base N qual scope f cdv A outer s H E).wish (XS (cxOf (CX1 P w) P w K mg base N qual scope f cdv A outer s H E) fun _ => E)) body t ∧ t { nx := fun _ H' => Q .non H', rt := Q } (start N vs) H) :
    FnOk P w K mg base (CX1 P w) (k + 1) f (PySem.W.fnOf name qual params body scope dV kV doc pm an cdv ct) ps sp := by
  refine fn_of lk hcd S len fun A outer s H vs Q E hr hsp => ?_
  obtain ⟨t, h, q⟩ := hbody A outer s H vs Q E hr hsp
  exact ⟨t, h.toX fun e s' z => leave_ok z, q⟩
/-- a promise under which it refuses nothing -/
theorem FnOk.noraise {k : Nat} {f : Addr} {fd : FuncData} {ps : List Str} {sp sp0 : Sp} (F : FnOk P w K mg base (CX1 P w) k f fd ps sp) (h : ∀ vs H Q E, sp0 vs H Q E → sp vs H Q E0) : FnOk P w K mg base CX0 k f fd ps sp0 :=
  ⟨fun vs H Q E q => F.len vs H Q E0 (h _ _ _ _ q), fun A outer s H args us vs Q E hr he hb hv hs => codeAny_mono (F.run A outer s H args us vs Q E0 hr he hb hv (h _ _ _ _ hs)) fun r s' hq => by
    cases r with
    | error e => obtain ⟨_, _, _, _, _, _, _, z⟩ := hq; exact z.elim
    | ok fl => cases fl <;> exact hq⟩
end
/-! ### try -/
abbrev Cx.tried (X : Cx) (pins : List (Addr × Obj)) : Cx := { X with pn := X.pn ++ pins }
abbrev Cx.suite (X : Cx) (pins : List (Addr × Obj)) (a : Addr) : Cx := { X with A := X.A.mark (some (.ref a)), calm := false, pn := X.pn ++ pins, xe := fun _ _ => False }
/-- an exception that was caught or made, tracked -/
def excB (n : Bool) (a : Addr) (cls : Value) (dx : Option Addr) : HO := .ext fun h => ∃ ox vs, h.get? a = some ox ∧ ox.cls = cls ∧ ox.dict = dx ∧ ox.data = .fields vs ∧ vs[2]? = some .none ∧ (n = true → 1 < vs.size ∧ vs[1]? = some .none)
abbrev excO := excB false
theorem excB_ok {P : Program} {w : World} {H : Hp} {h : Heap} {n : Bool} {a : Addr} {cls : Value} {dx : Option Addr} {ox : Obj} {vs : Array Value} (h1 : h.get? a = some ox) (h2 : ox.cls = cls) (h3 : ox.dict = dx) (h4 : ox.data = .fields vs) (h6 : vs[2]? = some .none) (h5 : n = true → 1 < vs.size ∧ vs[1]? = some .none) : ObjOk P w H h a (excB n a cls dx) :=
  ⟨⟨ox, vs, h1, h2, h3, h4, h6, h5⟩, ⟨ox, h1⟩, fun _ _ ⟨oy, ws, q, r⟩ kp => ⟨oy, ws, kp _ q, r⟩⟩
abbrev TH := Ends → St → Value → Option Addr → Hp → Addr → Prop
def PH (X : Cx) (hs : List ExceptHandler) (th : TH) : Prop :=
  ∀ (pins : List (Addr × Obj)) (σ : St) (H0 : Hp) (s0 : Shared) (D : Ends) (a : Addr) (H' : Hp) (cls v : Value) (dx : Option Addr) (s' : Shared), Inv X pins σ H0 s0 → CXat X.prog X.w X.stack H0 s0 a H' cls dx (.fl v) s' → th D σ cls dx H' a →
    wpAny (model X.prog X.w) X.A (handleBy (.ref a) X.env hs) (SP X pins D) X.xe s'
section
variable {X : Cx} {pins : List (Addr × Obj)} {σ : St} {H H' : Hp} {s s' : Shared}
theorem Inv.tried (I : Inv X pins σ H s) : Inv (X.tried pins) [] σ H s :=
  ⟨⟨I.ok.mod, I.ok.kind, I.ok.glob, I.ok.blt, I.ok.above, I.ok.inj, I.ok.has, I.ok.cab, I.ok.hd, I.ok.frames, I.ok.stk, I.ok.exf, I.ok.bs, I.ok.bsz, I.ok.noex, I.ok.exfs, I.ok.funs, I.ok.frf⟩,
    I.os, I.bare, I.base, I.loc, I.cell, I.free, I.freeC, fun p hp => I.pin p (by simpa using hp), I.hok, I.len⟩
theorem Inv.untried (I : Inv (X.tried pins) [] σ H s) : Inv X pins σ H s :=
  ⟨⟨I.ok.mod, I.ok.kind, I.ok.glob, I.ok.blt, I.ok.above, I.ok.inj, I.ok.has, I.ok.cab, I.ok.hd, I.ok.frames, I.ok.stk, I.ok.exf, I.ok.bs, I.ok.bsz, I.ok.noex, I.ok.exfs, I.ok.funs, I.ok.frf⟩,
    I.os, I.bare, I.base, I.loc, I.cell, I.free, I.freeC, fun p hp => I.pin p (by simpa using hp), I.hok, I.len⟩
theorem Inv.insuite (I : Inv X pins σ H s) (a : Addr) : Inv (X.suite pins a) [] σ H s :=
  ⟨⟨I.ok.mod, I.ok.kind, I.ok.glob, I.ok.blt, I.ok.above, I.ok.inj, I.ok.has, I.ok.cab, fun z => (Bool.noConfusion z), I.ok.frames, I.ok.stk, I.ok.exf, I.ok.bs, I.ok.bsz, I.ok.noex, I.ok.exfs, I.ok.funs, I.ok.frf⟩,
    I.os, I.bare, I.base, I.loc, I.cell, I.free, I.freeC, fun p hp => I.pin p (by simpa using hp), I.hok, I.len⟩
theorem Inv.outsuite {a : Addr} (ok : X.Ok) (I : Inv (X.suite pins a) [] σ H s) : Inv X pins σ H s :=
  ⟨ok, I.os, I.bare, I.base, I.loc, I.cell, I.free, I.freeC, fun p hp => I.pin p (by simpa using hp), I.hok, I.len⟩
/-- a name that goes -/
theorem Inv.unbound {n : Str} {i : Nat} {h' : Heap} {m : Str → Option Value} {v : Option Value} {t' : Nat} (I : Inv X pins σ H s) (hi : X.N[i]? = some n) (hN : X.N.Nodup)
    (hm : ∀ (j : Nat) (x : Str) (v : V), X.N[j]? = some x → σ[j]? = some (some v) → Vis X.env.scope x → ∃ u, RelV v u ∧ Look X.env s.heap m x u)
    (hn : h'.Ns X.env.locals (fun x => if x = n then v else m x)) (hs : Heap.SameBut X.env.locals s.heap h') : Inv X pins (σ.set i none) H { s with heap := h', toks := t' } := by
  obtain ⟨m0, hn0, _⟩ := id I.loc
  obtain ⟨oL, _, _, hoL, _⟩ := id hn0
  have cne := I.cne
  have low : ∀ b o, X.s₀.heap.get? b = some o → b ≠ X.env.locals := fun b o e => Nat.ne_of_lt (Nat.lt_of_lt_of_le (Heap.lt_size e) I.ok.above)
  refine ⟨I.ok, I.os, I.bare, ⟨fun b o e n hb hx => ?_, fun b o e n hb hx => ?_, I.base.free, fun b o e hx => ?_, I.base.tups, I.base.frzs, I.base.tbls⟩, ⟨_, hn, fun j y v' e1 e2 e3 => ?_⟩, fun y c e => ?_, I.free, I.freeC, fun p hp => ?_, fun b ob e => ?_, by simpa using I.len⟩
  · exact (hs.2 b (low b o e)).trans (I.base.keep b o e n hb hx)
  · obtain ⟨sl, e1⟩ := I.base.slot b o e n hb hx
    exact ⟨sl, (hs.2 b (low b o e)).trans e1⟩
  · obtain ⟨o', e1⟩ := I.base.there b o e hx
    exact ⟨o', (hs.2 b (low b o e)).trans e1⟩
  · by_cases hj : j = i
    · subst hj
      rw [List.getElem?_set] at e2
      simp at e2
    · rw [List.getElem?_set_ne (Ne.symm hj)] at e2
      obtain ⟨u', r', q⟩ := hm j y v' e1 e2 e3
      refine ⟨u', r', ?_⟩
      rcases q with ⟨k, e⟩ | ⟨k, c, e, z⟩
      · refine .inl ⟨k, ?_⟩
        have : y ≠ n := fun e => hj (nodup_ix hN e1 (e ▸ hi))
        simp [this, e]
      · exact .inr ⟨k, c, e, z.sameBut hs (cne y c e)⟩
  · obtain ⟨w', z⟩ := I.cell y c e
    exact ⟨w', z.sameBut hs (cne y c e)⟩
  · obtain ⟨e, n, ne, nf, d⟩ := I.pin p hp
    exact ⟨(hs.2 p.1 ne).trans e, n, ne, nf, d⟩
  · refine (I.hok b ob e).stay (fun c w' hc q => (hs.2 c ?_).trans q) (fun _ q => q) fun _ _ q => q
    rintro rfl
    rcases hc with rfl | hc
    · rw [I.free] at e; cases e
    · rw [I.free] at hc; cases hc
/-- the exception is tracked from here on -/
theorem un_track {fs : List Addr} {h0 h : Heap} {a : Addr} {o : HO} (u : Un fs [] H H' h0 h) (n0 : h0.get? a = none) (na : H' a = none) : Un fs [] H (upd H' a o) h0 h where
  keep := u.keep
  slot := u.slot
  free := fun b ob q n hx => by
    have : b ≠ a := fun z => by rw [z, n0] at q; cases q
    rw [upd_ne this]
    exact u.free b ob q n hx
  there := u.there
  tups := fun b xs e => by
    have q := u.tups b xs e
    rw [upd_ne (ne_of_none q na)]
    exact q
  frzs := fun b o' w' e => by
    have q := u.frzs b o' w' e
    rw [upd_ne (ne_of_none q na)]
    exact q
  tbls := fun b ps e => by
    obtain ⟨mo, q⟩ := u.tbls b ps e
    exact ⟨mo, by rw [upd_ne (ne_of_none q na)]; exact q⟩
theorem hok_track {P : Program} {w : World} {h : Heap} {a : Addr} {o : HO} (k : HOk P w H h) (na : H a = none) (new : ObjOk P w (upd H a o) h a o) : HOk P w (upd H a o) h := fun b u e => by
  by_cases hb : b = a
  · subst hb; rw [upd_same] at e; cases e; exact new
  · rw [upd_ne hb] at e
    exact (k b u e).stay (fun c v _ q => q) (fun c q => by rw [upd_ne (ne_of_none q na)]; exact q) fun c xs q => by rw [upd_ne (ne_of_none q na)]; exact q
theorem CXat.caughtN {a : Addr} {cls : Value} {dx : Option Addr} (I : Inv X pins σ H s) (c : CXat X.prog X.w X.stack H s a H' cls dx .new s') : Inv X pins σ (upd H' a (excB true a cls dx)) s' := by
  obtain ⟨⟨oe, vs, he, hc, hd, hda, hz, hn⟩, n0, na⟩ := c.xo
  refine I.call' c.os (un_track c.un n0 na) (hok_track c.hok na (excB_ok he hc hd hda hz.2 fun _ => ⟨hz.1, hn⟩)) c.bare fun b z => absurd z (by simp)
theorem CXat.caught {a : Addr} {cls : Value} {dx : Option Addr} {st : XSt} (I : Inv X pins σ H s) (c : CXat X.prog X.w X.stack H s a H' cls dx st s') : Inv X pins σ (upd H' a (excO a cls dx)) s' := by
  obtain ⟨⟨oe, vs, he, hc, hd, hda, hz, _⟩, n0, na⟩ := c.xo
  refine I.call' c.os (un_track c.un n0 na) (hok_track c.hok na (excB_ok he hc hd hda hz.2 fun z => nomatch z)) c.bare fun b z => absurd z (by simp)
end
section
variable {X : Cx} {body : List Stmt} {h₀ : ExceptHandler} {hs : List ExceptHandler} {pos : Pos} {th : TH}
def tTry (tb : (St → XK) → TS) (th : TH) : TS := fun D σ H => tb (fun σ' cls dx H' => ∀ a, H' a = none → th D σ' cls dx H' a) D σ H
theorem SP.untried {pins : List (Addr × Obj)} {E : Value → Shared → Prop} {D : Ends} {f : Flow} {s' : Shared} (h : SP ((X.tried pins).wish E) [] D f s') : SP X pins D f s' := by
  cases f with
  | next => obtain ⟨σ', H', I, q⟩ := h; exact ⟨σ', H', I.unwish.untried, q⟩
  | brk => obtain ⟨σ', H', I, q⟩ := h; exact ⟨σ', H', I.unwish.untried, q⟩
  | cont => obtain ⟨σ', H', I, q⟩ := h; exact ⟨σ', H', I.unwish.untried, q⟩
  | ret u => obtain ⟨v, σ', H', I, r, q⟩ := h; exact ⟨v, σ', H', I.unwish.untried, r, q⟩
theorem ps_try {tb : (St → XK) → TS} (hstk : X.stack = X.env :: X.outer) (hfm : X.env.frame = some X.env.locals)
    (hb : ∀ (pins : List (Addr × Obj)) (E : St → XK), PSs ((X.tried pins).wish (XS (X.tried pins) E)) body (tb E)) (hh : PH X (h₀ :: hs) th) : PS X (.Try body (h₀ :: hs) [] [] pos) (tTry tb th) := by
  intro pins s σ H D I h
  refine wpAny_Try_except ?_
  refine wpAny_mono (hb pins _ [] s σ H D (I.tried.wish _) h) (fun f s1 q => ?_) fun e s1 hx => ?_
  · have q := q.untried
    cases f with
    | next => exact wpAny_execs_nil q
    | brk => exact q
    | cont => exact q
    | ret u => exact q
  · obtain ⟨σ', H0, s0, I0, a, H', cls, dx, st, rfl, c, hE⟩ := hx
    have c' : CXat X.prog X.w (X.env :: X.outer) H0 s0 a H' cls dx st s1 := hstk ▸ c
    have J := I0.untried
    have fr : X.A.frames = some (X.env :: X.outer) := by rw [← hstk]; exact J.ok.frames
    have st1 : s0.heap.FunFrames X.base (X.env :: X.outer) := by rw [← hstk]; exact J.stack
    have sf : ∀ b ∈ frs (X.env :: X.outer), H0 b = none := by rw [← hstk]; exact J.stkFree
    refine c'.note fr hfm st1 sf fun s2 c2 => ?_
    refine c2.flight st1 sf fun s3 c3 => ?_
    exact hh pins σ' H0 s0 D a H' cls _ dx s3 J (hstk ▸ c3) (hE a c3.xo.fr.2)
theorem ph_nil : PH X [] (fun _ _ _ _ _ _ => False) := fun _ _ _ _ _ _ _ _ _ _ _ _ _ h => h.elim
end
/-- what an except clause asks of its class -/
structure XT (K : PySem.W.Frag) (C : Addr) : Prop where
  ty : PySem.W.typeIn K (.ref C) = some (.type "type")
  cl : (PySem.W.clsIn K C).isSome = true
  ex : PySem.W.subIn K (.ref C) (.type "BaseException") = some true
theorem looks_isType {K : PySem.W.Frag} {M : Model} {h : Heap} {C : Addr} (X : K.In h) (e : (PySem.W.clsIn K C).isSome = true) : PySem.W.Looks M h (isType (.ref C)) true := by
  unfold PySem.W.clsIn at e
  split at e
  · rename_i ho
    intro A' Q' E' s' k q
    unfold isType loadHead
    exact wpAny_bind (wpAny_loadPart (k _ _ (X _ _ ho)) (wpAny_pure q))
  · cases e
end L2
set_option Elab.async false
set_option linter.all false
set_option maxRecDepth 100000
namespace L2
open PySem PySem.Spec PyProof.Rows XH
structure XG (K : PySem.W.Frag) (C : Addr) : Prop where
  ga : PySem.W.findIn K (.ref C) "__getattribute__" = some (some (.builtin "BaseException.__getattribute__"))
  gt : PySem.W.findIn K (.ref C) "__getattr__" = some none
  be : PySem.W.mroIn K C (.type "BaseException") = some true
section
variable {prog : Program} {w : World} {A : Around} {E : Value → Shared → Prop} {K : PySem.W.Frag} {h : Heap} {g : Array GenState} {d : Drawn} {t : Nat} {os : OsState} {x C : Addr} {ox : Obj} {od : Option Obj} {name : Str}
open PySem.W in
theorem exc_check {nameV : Value} {Q : Unit → Shared → Prop} (X : K.In h) (I : InstAt h x ox C od) (G : XG K C) (hq : Q () ⟨h, g, d, t, os⟩) :
    wpAny (model prog w) A (checkBuiltinCall "BaseException.__getattribute__" ⟨[.ref x, nameV], []⟩) Q E ⟨h, g, d, t, os⟩ := by
  have hk : builtinKind "BaseException.__getattribute__" = some .slot := by decide +kernel
  have hs : splitId "BaseException.__getattribute__" = some ("BaseException", "__getattribute__") := by decide +kernel
  have l0 := I.type (M := model prog w)
  have l1 := looks_mroIn (M := model prog w) X G.be
  have ha := F.args_bexc_ga (.ref x) nameV
  have l2 : Looks (model prog w) h (isInstance (.ref x) (.type "BaseException")) true := l0.andThen l1
  simp only [checkBuiltinCall, hk, hs]
  refine wpAny_bind ?_
  unfold isInstance
  have hx := I.at_
  have hc := I.cls
  repeat (first | (with_reducible refine wpAny_loadPart_at hx ?_; rw [hc]) | with_reducible refine l1.at ?_ | wp_step)
  exact hq
open PySem.W in
theorem exc_entry_value {tk : Tok} {v : Value} {Q : Fin → Shared → Prop} (X : K.In h) (I : InstAt h x ox C od) (hf : findObj K C od name = some (.value v)) (hq : Q (.done (.ret v)) ⟨h, g, d, t, os⟩) :
    wpAny (model prog w) A (Builtin.«object.__getattribute__» ⟨[.ref x, .str name tk], []⟩) Q E ⟨h, g, d, t, os⟩ := by
  have l0 := I.type (M := model prog w)
  have l1 := looks_find (M := model prog w) X I hf
  unfold Builtin.«object.__getattribute__»
  refine wpAny_bind (wpAny_pure (wpAny_bind (wpAny_pure (wpAny_bind (l0.at (wpAny_bind (l1.at ?_)))))))
  exact wpAny_pure hq
open PySem.W in
theorem exc_entry_bind {tk : Tok} {gv a : Value} {Q : Fin → Shared → Prop} (X : K.In h) (I : InstAt h x ox C od) (hf : findObj K C od name = some (.bind gv a))
    (hq : wpAny (model prog w) A (call gv [a, .ref x, .ref C]) (fun v s' => Q (.done (.ret v)) s') E ⟨h, g, d, t, os⟩) :
    wpAny (model prog w) A (Builtin.«object.__getattribute__» ⟨[.ref x, .str name tk], []⟩) Q E ⟨h, g, d, t, os⟩ := by
  have l0 := I.type (M := model prog w)
  have l1 := looks_find (M := model prog w) X I hf
  unfold Builtin.«object.__getattribute__»
  refine wpAny_bind (wpAny_pure (wpAny_bind (wpAny_pure (wpAny_bind (l0.at (wpAny_bind (l1.at ?_)))))))
  show wpAny _ _ (holding [a] (call gv [a, .ref x, .ref C]) >>= ret) _ _ _
  exact wpAny_bind (wpAny_holding (wpAny_mono hq (fun v s' z => wpAny_pure z) fun _ _ z => z))
open PySem.W in
theorem exc_by {tk : Tok} {fill expr : Bool} {Q : Value → Shared → Prop} (X : K.In h) (I : InstAt h x ox C od) (G : XG K C)
    (hq : ∀ A' : Around, wpAny (model prog w) A' (Builtin.«object.__getattribute__» ⟨[.ref x, .str name tk], []⟩) (fun fin s' => match fin with | .done (.ret v) => wpAny (model prog w) A (handedOut v) Q E s' | _ => False) (fun _ _ => False) ⟨h, g, d, t, os⟩) :
    wpAny (model prog w) A (getAttrBy (.ref x) (.str name tk) fill expr) Q E ⟨h, g, d, t, os⟩ := by
  have l0 := I.type (M := model prog w)
  have l1 := looks_findIn (M := model prog w) X G.ga
  have l2 := looks_findIn (M := model prog w) X G.gt
  have fb := F.attrBase_ValueError
  have f3 := fb.ga.bind (.ref x)
  unfold getAttrBy
  refine wpAny_holding (wpAny_bind (l0.at (wpAny_bind (l1.at ?_))))
  have hx2 : (Value.builtin "BaseException.__getattribute__" == Value.builtin "object.__getattribute__") = false := by decide +kernel
  simp only [hx2, Bool.and_false, Bool.false_eq_true, if_false]
  unfold getAttrByItsOwn hookBefore
  refine wpAny_bind ?_
  rw [if_pos (show onTheHeap (.ref C) = true from rfl)]
  refine l2.at ?_
  refine wpAny_bind (wpAny_attempt (wpAny_holding ?_))
  unfold callGetattribute
  rw [if_neg (by cases expr <;> exact Bool.false_ne_true)]
  unfold boundAndCalled
  refine wpAny_bind (wpAny_of_eq f3 ?_)
  refine wpAny_call (codeAny_call_builtin fb.ga.plain F.entry_bexc_ga (exc_check X I G (wpAny_mono (hq _) (fun fin s' z => ?_) fun _ _ z => z.elim)))
  rcases fin with (_ | _ | _ | _) | _ <;> first | exact z.elim | exact z
end
end L2
set_option Elab.async false
set_option linter.all false
set_option maxRecDepth 100000
namespace L2
open PySem PySem.Spec PyProof.Rows XH
section
variable {prog : Program} {w : World} {A : Around} {E : Value → Shared → Prop} {K : PySem.W.Frag}
theorem matches_ok {h : Heap} {g : Array GenState} {d : Drawn} {t : Nat} {os : OsState} {e C C' : Addr} {oe : Obj} {b : Bool} {Q : Bool → Shared → Prop} (KX : K.In h) (he : h.get? e = some oe) (hc : oe.cls = .ref C) (T : XT K C')
    (hsub : PySem.W.subIn K (.ref C) (.ref C') = some b) (hq : Q b ⟨h, g, d, t, os⟩) : wpAny (model prog w) A (excMatches (.ref e) (.ref C')) Q E ⟨h, g, d, t, os⟩ := by
  have l1 := PySem.W.looks_typeIn (M := model prog w) KX T.ty
  have l2 := PySem.W.looks_subIn (M := model prog w) KX T.ex
  have l3 := PySem.W.looks_subIn (M := model prog w) KX hsub
  have l4 := looks_isType (M := model prog w) KX T.cl
  have l5 : PySem.W.Looks (model prog w) h (isInstance (.ref C') (.type "tuple")) false := l1.andThen (PySem.W.Looks.of_pure tc_notTuple)
  have l6 : PySem.W.Looks (model prog w) h (isExcClass (.ref C')) true := by
    unfold isExcClass
    refine l4.andThen ?_
    exact l2
  unfold excMatches
  repeat (first | with_reducible refine wpAny_bind (l5.at ?_) | with_reducible refine wpAny_bind (l6.at ?_) | with_reducible refine wpAny_bind (l3.at ?_) | (with_reducible refine wpAny_loadPart_at he ?_; rw [hc]) | wp_step)
  cases b <;> (wp_walk; exact hq)
end
/-- a name that goes behind its suite -/
def offE (i : Nat) (D : Ends) : Ends := { nx := fun σ H => D.nx (σ.set i none) H, rt := D.rt, bk := fun σ H => D.bk (σ.set i none) H, ct := fun σ H => D.ct (σ.set i none) H }
section
variable {X : Cx} {x n : Str} {np pos : Pos} {b0 : Stmt} {suite : List Stmt} {rest : List ExceptHandler} {i : Nat} {C' : Addr} {t : TS} {th : TH}
theorem gone_ok {pins : List (Addr × Obj)} {a : Addr} {D : Ends} {f : Flow} {s : Shared} {M : Model} {A : Around} {E : Value → Shared → Prop} (ok : X.Ok) (hN : X.N.Nodup) (hi : X.N[i]? = some n) (hloc : X.env.scope.names.lookup n = some .local)
    (q : SP (X.suite pins a) [] (offE i D) f s) : wpAny M A (do bindName X.env n .none; unbindBehindTheSuite X.env n pos) (fun _ s' => SP X pins D f s') E s := by
  have hcls : (X.env.scope.kind == .class || (X.env.scope.kind == .module && X.env.locals != X.env.globals)) = false := by rw [ok.kind]; rfl
  cases f with
  | next =>
    obtain ⟨σ, H, I, q⟩ := q
    have J := I.outsuite ok
    obtain ⟨m, hn, hl⟩ := id J.loc
    exact wpAny_nameGoes_keeps hloc hn hcls fun h' v hn' hs => ⟨_, H, J.unbound hi hN hl hn' hs, q⟩
  | brk =>
    obtain ⟨σ, H, I, q⟩ := q
    have J := I.outsuite ok
    obtain ⟨m, hn, hl⟩ := id J.loc
    exact wpAny_nameGoes_keeps hloc hn hcls fun h' v hn' hs => ⟨_, H, J.unbound hi hN hl hn' hs, q⟩
  | cont =>
    obtain ⟨σ, H, I, q⟩ := q
    have J := I.outsuite ok
    obtain ⟨m, hn, hl⟩ := id J.loc
    exact wpAny_nameGoes_keeps hloc hn hcls fun h' v hn' hs => ⟨_, H, J.unbound hi hN hl hn' hs, q⟩
  | ret u =>
    obtain ⟨v, σ, H, I, r, q⟩ := q
    have J := I.outsuite ok
    obtain ⟨m, hn, hl⟩ := id J.loc
    exact wpAny_nameGoes_keeps hloc hn hcls fun h' v' hn' hs => ⟨v, _, H, J.unbound hi hN hl hn' hs, r, q⟩
/-- an exception that passes a loop of this body -/
theorem own_XS {E : St → XK} (hstk : X.stack = X.env :: X.outer) (hfm : X.env.frame = some X.env.locals) : PassesOwn (model X.prog X.w) X.A X.env (XS X E) := by
  intro e s1 hx
  obtain ⟨σ', H0, s0, J, a, H', cls, dx, st, rfl, c, hE⟩ := hx
  have c' : CXat X.prog X.w (X.env :: X.outer) H0 s0 a H' cls dx st s1 := hstk ▸ c
  have fr : X.A.frames = some (X.env :: X.outer) := by rw [← hstk]; exact J.ok.frames
  have st1 : s0.heap.FunFrames X.base (X.env :: X.outer) := by rw [← hstk]; exact J.stack
  have sf : ∀ b ∈ frs (X.env :: X.outer), H0 b = none := by rw [← hstk]; exact J.stkFree
  unfold notedBy
  refine c'.note fr hfm st1 sf fun s2 c2 => ?_
  unfold cameBackBy
  obtain ⟨oe, vs, he, _, _, hd, _, T, _, _, h1, _⟩ := c2.xo.ex
  apply wpAny_bind
  apply wpAny_field he hd h1
  rw [if_neg (by simp)]
  refine c2.flight st1 sf fun s3 c3 => ?_
  exact ⟨σ', H0, s0, J, a, H', cls, dx, _, rfl, hstk ▸ c3, hE⟩
end
/-! ### raise -/
def bmV : List Value := [.type "ValueError", .type "Exception", .type "BaseException", .type "object"]
theorem exc_of {K : PySem.W.Frag} {h : Heap} {C : Addr} {bmB : List Value} {nw : String} (X : K.In h) (q : PySem.W.excIn K C bmB nw = true) :
    ∃ bm N nm qn bs hdct sn sub ab col dd k0 k1 k2 k3 k5 mN, h.get? C = some (excClassObj nm qn C N bs bm hdct sn sub ab col dd k0 k1 k2 k3 k5 nw) ∧ h.Ns N mN ∧ mN "__init__" = none ∧ OwnTail h bmB bm := by
  unfold PySem.W.excIn at q
  split at q
  · rename_i dd cd sl ho
    split at q
    · rename_i C' bm k0 k1 k2 k3 n k5 hm hs
      simp only [Bool.and_eq_true, beq_iff_eq, Bool.not_eq_true'] at q
      obtain ⟨⟨⟨⟨⟨e1, e2⟩, hdel⟩, ht⟩, hok⟩, hni⟩ := q
      subst e1 e2
      obtain ⟨nm, bs, mro, ns, qn, hd, sn, sub, ab, col, del⟩ := cd
      dsimp only at hm hdel hok hni
      subst hm hdel
      obtain ⟨l⟩ := sl
      have hl : l = [k0, k1, k2, k3, some (.builtin n), k5] := hs
      subst hl
      exact ⟨bm, ns, nm, qn, bs, hd, sn, sub, ab, col, dd, k0, k1, k2, k3, k5, _, X _ _ ho, .of_isNs (PySem.W.isNs_of_in X hok), PySem.W.nsMap_none_of_in X hok hni, PySem.W.tail_of_in X ht⟩
    · cases q
  · cases q
def tRaise (C : Addr) (E : St → XK) (t : TA) : TS := fun _ σ H => t σ H fun vs H1 => vs.length ≤ sizeLine ∧ E σ (.ref C) none H1
section
variable {X : Cx} {x : Str} {np cpos pos : Pos} {e₀ : Expr} {rest : List Expr} {C : Addr} {t : TA} {E : St → XK}
theorem made_cx {pins : List (Addr × Obj)} {σ : St} {H : Hp} {s : Shared} {h' : Heap} {e : Addr} {us : List Value} (I : Inv X pins σ H s) (mk : Heap.MadeExcOf s.heap h' e (.ref C) us) : CXat X.prog X.w X.stack H s e H (.ref C) none .new { s with heap := h' } := by
  obtain ⟨t, ht, _, _⟩ := mk.there
  exact ⟨rfl, I.bare, Un.kept mk.keeps, I.hok.kept mk.keeps, ⟨⟨_, _, ht, rfl, rfl, rfl, ⟨by show 1 < 6; decide, rfl⟩, rfl⟩, mk.new, I.hok.none_of mk.new⟩⟩
theorem ps_raise (q : PySem.W.excIn X.K C bmV "ValueError.__new__" = true) (hg : Gl X x) (hm : X.mg x = some (.ref C)) (hc : X.calm = true) (hp : PassX X E) (ha : PA X (e₀ :: rest) t) (hd : (x == ("__debug__" : Str)) = false := by decide)
    (he : starEach (e₀ :: rest) X.env = (false, eval e₀ X.env) :: starEach rest X.env := by rfl) (hpl : (backTo cpos (starEach rest X.env)).any (·.1) = false := by rfl) :
    PS X (.Raise (some (.Call (.Name x np) (e₀ :: rest) [] cpos)) none pos) (tRaise C E t) := by
  intro pins s σ H D I h
  obtain ⟨bm, N, nm, qn, bs, hdct, sn, sub, ab, col, dd, k0, k1, k2, k3, k5, mN, hC, hN, hni, TL⟩ := exc_of I.ok.mod.kin q
  have F := PySem.F.excBase_ValueError
  have W := ha cpos pins s σ H _ I h
  refine wpAny_Raise_call_subT (C := C) (nm := nm) (q := qn) (N := N) (bs := bs) (bm := bm) (hdct := hdct) (sn := sn) (sub := sub) (ab := ab) (col := col) (dd := dd) (k0 := k0) (k1 := k1) (k2 := k2) (k3 := k3) (k5 := k5) (mN := mN)
    F (TL.hasType F.hasBase) (I.ok.hd hc) (by rw [he]; exact hpl) hni (ld_glob I hg hm ⟨rfl, ?_⟩ hd)
  rw [he] at W ⊢
  refine Calls.evalArgs_plain (thn W fun us s2 ⟨vs, H1, I1, r, hl, z⟩ => ⟨rfl, by rw [← r.length]; exact hl, I1.bk _ _ hC, hN.keeps I1.bk, TL.keeps I1.bk, fun h' e mk => ?_⟩)
  exact hp pins σ H1 s2 _ _ I1 ⟨e, H1, .ref C, none, .new, rfl, made_cx I1 mk, z⟩
end
/-! ### isinstance of an exception -/
structure XI (K : PySem.W.Frag) (C : Addr) : Prop where
  gg : XG K C
  cl : (PySem.W.clsIn K C).isSome = true
  at_ : PySem.W.findIn K (.ref C) "__class__" = some (some (.builtin "object.__class__"))
  gt : PySem.W.specialIn K (.builtin "object.__class__") "__get__" = some (some (.builtin "getset_descriptor.__get__"))
  tk : PySem.W.takesIn K (.builtin "object.__class__") = some true
  ob : PySem.W.mroIn K C (.type "object") = some true
theorem findObj_cls {K : PySem.W.Frag} {C : Addr} {od : Option Obj} (x : XI K C) : PySem.W.findObj K C od "__class__" = some (.bind (.builtin "getset_descriptor.__get__") (.builtin "object.__class__")) := by
  obtain ⟨cd, hc⟩ := Option.isSome_iff_exists.mp x.cl
  unfold PySem.W.findObj
  rw [hc, Option.bind_some, x.at_, Option.bind_some]
  simp [x.gt, x.tk]
theorem kitx_exc {K : PySem.W.Frag} {a C : Addr} (x : XI K C) : PySem.W.KitX K (.ref a) (.ref C) (fun h => ∃ ox od, PySem.W.InstAt h a ox C od) where
  ty := fun _ _ _ ⟨_, _, I⟩ => I.type
  it := fun _ _ X _ => looks_isType X x.cl
  ne := fun h tp dd its n sl X htp => by
    refine Bool.eq_false_iff.mpr fun q => ?_
    have e : C = tp := Value.ref.inj (beq_iff_eq.mp q)
    subst e
    have c := x.cl
    unfold PySem.W.clsIn at c
    split at c
    · rename_i ho
      have z := (X _ _ ho).symm.trans htp
      cases z
    · cases c
  ca := fun {_ _ _ _ _ s} X I k => by
    obtain ⟨ox, od, I⟩ := I
    obtain ⟨hh, g, d, t, os⟩ := s
    unfold getAttr? getAttrBy?
    refine wpAny_bind (wpAny_mkText (wpAny_bind (wpAny_attempt (exc_by (h := hh) X I x.gg fun A' => exc_entry_bind X I (findObj_cls x) ?_))))
    exact wpAny_call (PySem.W.class_get (s := ⟨hh, g, d, t + 1, os⟩) (ox := ox) (od := od) X I x.ob (PySem.W.handed_on rfl (wpAny_pure k)))
def XDict (H : Hp) (dx : Option Addr) : Prop := match dx with
  | none => True
  | some d => ∃ fs, H d = some (.xd fs)
theorem inst_of {X : Cx} {pins : List (Addr × Obj)} {σ : St} {H : Hp} {s : Shared} {a C : Addr} {n : Bool} {dx : Option Addr} (I : Inv X pins σ H s) (e : H a = some (excB n a (.ref C) dx)) (d : XDict H dx) : ∃ ox od, PySem.W.InstAt s.heap a ox C od := by
  obtain ⟨⟨ox, vs, h1, h2, h3, h4, _⟩, _⟩ := (show ObjOk X.prog X.w H s.heap a (excB n a (.ref C) dx) from I.hok a _ e)
  have nc : PySem.W.notCls ox = true := by unfold PySem.W.notCls; rw [h4]
  cases dx with
  | none => exact ⟨ox, none, h1, h2, nc, by rw [h3]; trivial⟩
  | some d' =>
    obtain ⟨fs, hd⟩ := d
    obtain ⟨mA, ⟨o, es, ep, e', _⟩, _⟩ := (show ObjOk X.prog X.w H s.heap d' (.xd fs) from I.hok d' _ hd)
    exact ⟨ox, some o, h1, h2, nc, by rw [h3]; exact e'⟩
/-- the answer for a class of the text, for one of Python's own -/
inductive XIs (K : PySem.W.Frag) (C : Addr) : V → Bool → Prop where
  | own {D : Addr} {b : Bool} (h : PySem.W.kitOne K (.ref C) (.ref D) = some b) : XIs K C (.ref D) b
  | ty {T : String} {b : Bool} (h : PySem.W.kitOne K (.ref C) (.type T) = some b) : XIs K C (.ty T) b
theorem call_isiX {X : Cx} {K : PySem.W.Frag} (hK : X.K = K) : CallR X (.builtin "isinstance") (fun xs H Q => ∃ a C dx c b, xs = [.ref a, c] ∧ (∃ n, H a = some (excB n a (.ref C) dx)) ∧ XDict H dx ∧ XI K C ∧ XIs K C c b ∧ Q (.bl b) H) := by
  subst hK
  intro pins s σ H xs us Q I r h
  obtain ⟨a, C, dx, c, b, rfl, ⟨n, e⟩, d, xi, xs, q⟩ := h
  obtain ⟨u, w', rfl, e1, e2⟩ := vals2 r
  cases e1
  cases xs with
  | own h =>
    cases e2
    exact PySem.W.kia_one (kitx_exc xi) I.kIn (inst_of I e d) h (fun z => nomatch z) fun tk => ⟨.bl b, H, I.tok tk, rfl, q⟩
  | ty h =>
    cases e2
    exact PySem.W.kia_one (kitx_exc xi) I.kIn (inst_of I e d) h (fun z => nomatch z) fun tk => ⟨.bl b, H, I.tok tk, rfl, q⟩
end L2
set_option Elab.async false
set_option linter.all false
set_option maxRecDepth 100000
namespace L2
open PySem PySem.Spec PyProof.Rows XH
/-! ### list comprehensions -/
section
variable {prog : Program} {w : World} {A : Around} {R : Result → Shared → Prop} {s : Shared}
end
section
variable {X : Cx} {scope : Scope} {cl : List (Str × Addr)} {own : Str} {ys : List Str} {js : List Nat} {fp : List Addr} {pins : List (Addr × Obj)} {σ : St} {H : Hp} {s s4 : Shared}
end
section
variable {X : Cx} {scope : Scope} {cl : List (Str × Addr)} {own : Str} {ys : List Str} {js : List Nat} {elt iter : Expr} {px pos : Pos} {wi : TI} {te : TE}
end
end L2
set_option Elab.async false
set_option linter.all false
set_option maxRecDepth 100000
namespace L2
open PySem PySem.Spec PyProof.Rows XH PySem.Builtin PySem.Builtin.ObjectAttr
/-! ### an own refusal's __init__: its field -/
/-- the classes above it, as a store asks -/
structure XA (K : PySem.W.Frag) (C S : Addr) : Prop where
  sa : PySem.W.findIn K (.ref C) "__setattr__" = some (some (.builtin "object.__setattr__"))
  mro : (PySem.W.clsIn K C).map (·.mro) = some (.ref C :: .ref S :: bmV)
  dct : PySem.W.hasDictIn K C = true
  ob : PySem.W.mroIn K C (.type "object") = some true
theorem refuse_V (self : Value) (C S : Addr) : refuseLoop self "__setattr__" (.ref C :: .ref S :: bmV) = pure () := by
  rw [refuseLoop_ref, refuseLoop_ref]
  kernel_rfl
section
variable {prog : Program} {w : World} {A : Around} {E : Value → Shared → Prop} {s : Shared} {K : PySem.W.Frag} {x C S : Addr} {ox : Obj} {od : Option Obj} {name : Str} {v : Value}
open PySem.W in
theorem osa_exc {R : Result → Shared → Prop} {tk : Tok} (X : K.In s.heap) (I : InstAt s.heap x ox C od) (N : XA K C S) (hn : findIn K (.ref C) name = some none)
    (h : wpAny (model prog w) A.in1 (storeInOwnDict (.ref x) (.ref C) (.str name tk) name v false) (fun fin s' => match fin with | .done f => R (.ok f) s' | .again c' => c'.quiet = true ∧ codeAny (model prog w) A c' R s') (fun e s' => R (.error e) s') s) :
    codeAny (model prog w) A (.call (.builtin "object.__setattr__") ⟨[.ref x, .str name tk, v], []⟩) R s := by
  have so := PySem.F.store_object
  obtain ⟨cd, hc, hm⟩ := Option.map_eq_some_iff.mp N.mro
  have sub : Looks (model prog w) s.heap (isInstance (.ref x) (.type "object")) true := I.type.andThen (looks_mroIn X N.ob)
  have lm : Looks (model prog w) s.heap (mroOf (.ref C)) cd.mro := (looks_clsIn X hc).andThen .now
  have ck : ∀ {A' : Around} {Q' : Unit → Shared → Prop} {E' : Value → Shared → Prop}, Q' () s → wpAny (model prog w) A' (checkBuiltinCall "object.__setattr__" ⟨[.ref x, .str name tk, v], []⟩) Q' E' s := fun {A' Q' E'} q =>
    check_slot (M := model prog w) (A := A') (E := E') (s := s) (i := "object.__setattr__") (owner := "object") (n := "__setattr__") (self := .ref x) (rest := [.str name tk, v]) (kw := []) (Q := Q') so.kind so.split sub (so.args (.ref x) (.str name tk) v) q
  refine codeAny_call_builtin so.slot.plain so.entry (ck ?_)
  rw [osa_eq, refuse_eq]
  refine wpAny_bind (wpAny_bind (I.type.here ?_))
  refine wpAny_bind (lm.here ?_)
  rw [hm, refuse_V]
  refine wpAny_pure (wpAny_bind ?_)
  refine I.type.here (wpAny_bind ?_)
  refine (looks_findIn X hn).here (wpAny_bind (wpAny_pure ?_))
  exact h
open PySem.W in
theorem set_exc {vs : Array Value} {Q : Unit → Shared → Prop} (X : K.In s.heap) (he : s.heap.get? x = some ox) (hc : ox.cls = .ref C) (hdx : ox.dict = none) (hda : ox.data = .fields vs) (N : XA K C S) (hn : findIn K (.ref C) name = some none)
    (h : ∀ h', (∀ b o, b ≠ x → s.heap.get? b = some o → h'.get? b = some o) → h'.get? x = some { ox with dict := some s.heap.objs.size } → h'.Ns1 s.heap.objs.size (fun y => if y = name then some v else none) →
      Q () { s with heap := h', toks := s.toks + 2 }) : wpAny (model prog w) A (setAttr (.ref x) name v) Q E s := by
  have I : InstAt s.heap x ox C none := ⟨he, hc, by unfold notCls; rw [hda], by rw [hdx]; trivial⟩
  apply set_plain X I N.sa
  have I2 : InstAt ({ s with toks := s.toks + 1 } : Shared).heap x ox C none := I
  apply osa_exc (s := { s with toks := s.toks + 1 }) X I2 N hn
  obtain ⟨cd, hcd, hd⟩ := any_some N.dct
  obtain ⟨oc, odi, oda, osl⟩ := ox
  dsimp only at hc hdx hda
  subst hc hdx hda
  refine wpAny_bind (wpAny_pure (wpAny_bind (wpAny_bind (wpAny_loadPart he ?_))))
  refine wpAny_bind (Looks.here (s := { s with toks := s.toks + 1 }) (looks_clsIn X hcd) ?_)
  rw [hd]
  show wpAny _ _ (alloc { cls := .type "dict", data := .dict #[] } >>= fun d => update x (fun o => { o with dict := some d }) >>= fun _ => dictMade (.ref C) x d) _ _ _
  refine wpAny_bind (wpAny_alloc ?_)
  have lt := Heap.lt_size he
  have hne : x ≠ s.heap.objs.size := Nat.ne_of_lt lt
  have he1 := Heap.get?_push_of_some (h := s.heap) { cls := .type "dict", data := .dict #[] } he
  have e1 : (s.heap.push PySem.W.emptyDict).get? s.heap.objs.size = some PySem.W.emptyDict := Heap.get?_push_size s.heap rfl
  have e2 : (s.heap.push PySem.W.emptyDict).Ns s.heap.objs.size (fun _ => none) := ⟨PySem.W.emptyDict, #[], _, e1, rfl, (fun e he => absurd he (by simp)), fun _ => rfl⟩
  refine wpAny_bind (wpAny_update he1 ?_)
  refine wpAny_pure ?_
  have up : ∀ b, b ≠ x → ((s.heap.push PySem.W.emptyDict).update x (fun o => { o with dict := some s.heap.objs.size })).get? b = (s.heap.push PySem.W.emptyDict).get? b := fun b hb => Heap.get?_update_other _ _ (Ne.symm hb)
  have e3 : ((s.heap.push PySem.W.emptyDict).update x (fun o => { o with dict := some s.heap.objs.size })).Ns1 s.heap.objs.size (fun _ => none) := (Heap.Ns1.of_empty e2).at fun o q => (up _ (Ne.symm hne)).trans q
  have e4 : ((s.heap.push PySem.W.emptyDict).update x (fun o => { o with dict := some s.heap.objs.size })).get? x = some ⟨.ref C, some s.heap.objs.size, .fields vs, osl⟩ := Heap.get?_update_self _ he1 rfl
  refine wpAny_bind (wpAny_pure (wpAny_bind ?_))
  refine wpAny_nsSet1 (s := ⟨(s.heap.push PySem.W.emptyDict).update x (fun o => { o with dict := some s.heap.objs.size }), s.gens, s.drawn, s.toks + 1, s.os⟩) e3 fun h' hn2 hs2 => ?_
  obtain ⟨oD, esD, epD, hoD, hdD, hcD⟩ := hn2.count (ns := [name]) (PySem.Within.cons (ns := []) name v (fun y hy => absurd rfl hy))
  refine wpAny_bind (wpAny_lookBehind hoD (by rw [hdD]; exact pastItsLine_dict (Nat.le_trans hcD (by show 1 ≤ sizeLine + 1; decide))) ?_)
  refine wpAny_pure (h h' (fun b o hb q => ?_) ((hs2.2 x hne).trans e4) hn2)
  have hbd : b ≠ s.heap.objs.size := Nat.ne_of_lt (Heap.lt_size q)
  exact (hs2.2 b hbd).trans ((up b hb).trans (Heap.get?_push_of_some _ q))
end
/-- self.f = e in the __init__ of an own refusal -/
def sFldX (K : PySem.W.Frag) (ta tv : TE) (f : Str) : TS := fun D σ H => tv σ H fun y H1 => ta σ H1 fun x H2 => ∃ a C S n, x = .ref a ∧ H2 a = some (excB n a (.ref C) none) ∧ XA K C S ∧ PySem.W.findIn K (.ref C) f = some none ∧
  ∀ d, H2 d = none → D.nx σ (upd (upd H2 d (.xd [(f, y)])) a (excB n a (.ref C) (some d)))
section
variable {X : Cx} {o value : Expr} {f : Str} {pos pos' : Pos} {ta tv : TE}
theorem setx_ok {pins : List (Addr × Obj)} {σ : St} {H : Hp} {s : Shared} {a C S : Addr} {y : V} {u : Value} {n : Bool} {A : Around} {E : Value → Shared → Prop} {Q : Unit → Shared → Prop} (I : Inv X pins σ H s) (e : H a = some (excB n a (.ref C) none)) (N : XA X.K C S)
    (hn : PySem.W.findIn X.K (.ref C) f = some none) (ry : RelV y u) (h : ∀ d s', H d = none → Inv X pins σ (upd (upd H d (.xd [(f, y)])) a (excB n a (.ref C) (some d))) s' → Q () s') :
    wpAny (model X.prog X.w) A (setAttr (.ref a) f u) Q E s := by
  obtain ⟨⟨ox, vs, h1, h2, h3, h4, h6, h5⟩, _⟩ := (show ObjOk X.prog X.w H s.heap a (excB n a (.ref C) none) from I.hok a _ e)
  refine set_exc I.kIn h1 h2 h3 h4 N hn fun h' kp ha hd => ?_
  have nd : H s.heap.objs.size = none := I.hok.fresh (Nat.le_refl _)
  have ad : a ≠ s.heap.objs.size := ne_of_none e nd
  refine h s.heap.objs.size _ nd ?_
  have ne : ∀ b o, H b = some o → b ≠ s.heap.objs.size := fun b o q => ne_of_none q nd
  have nea : ∀ b, H b = none → b ≠ a := fun b q z => by rw [z, e] at q; cases q
  refine I.un (t' := s.toks + 2) (h' := h') ⟨?_, ?_, ?_, ?_, ?_, ?_, ?_⟩ ?_
  · intro b o q n hb _
    exact kp b o (nea b n) q
  · intro b o q n hb _
    exact ⟨o.slots, kp b o (nea b n) q⟩
  · intro b o q n _
    rw [upd_ne (nea b n), upd_ne (Nat.ne_of_lt (Heap.lt_size q))]
    exact n
  · intro b o q _
    by_cases hb : b = a
    · subst hb
      exact ⟨_, ha⟩
    · exact ⟨o, kp b o hb q⟩
  · intro b xs q
    have hb : b ≠ a := ne_of q e (by intro z; cases z)
    rw [upd_ne hb, upd_ne (ne b _ q)]
    exact q
  · intro b o' u' q
    have hb : b ≠ a := ne_of q e (by intro z; cases z)
    rw [upd_ne hb, upd_ne (ne b _ q)]
    exact q
  · intro b ps q
    have hb : b ≠ a := ne_of q e (by intro z; cases z)
    exact ⟨#[], by rw [upd_ne hb, upd_ne (ne b _ q), q]; simp⟩
  · intro b ob q
    by_cases hb : b = a
    · subst hb
      rw [upd_same] at q
      cases q
      exact excB_ok ha h2 rfl h4 h6 h5
    · rw [upd_ne hb] at q
      by_cases hbd : b = s.heap.objs.size
      · subst hbd
        rw [upd_same] at q
        cases q
        refine ⟨_, hd, fun g => ?_⟩
        show RelO (List.lookup g [(f, y)]) (if g = f then some u else none)
        by_cases hg : g = f
        · subst hg
          rw [if_pos rfl]
          simp only [List.lookup, beq_self_eq_true]
          exact ry
        · rw [if_neg hg]
          have : (g == f) = false := beq_eq_false_iff_ne.mpr hg
          simp only [List.lookup, this]
          trivial
      · rw [upd_ne hbd] at q
        refine (I.hok b ob q).stay (fun c v hc z => kp c v (fun y => ?_) z) (fun c z => ?_) fun c xs z => ?_
        · rcases hc with z' | z'
          · exact hb (z'.symm.trans y)
          · rw [y, e] at z'; cases z'
        · have hc : c ≠ a := ne_of z e (by intro z; cases z)
          rw [upd_ne hc, upd_ne (ne c _ z)]
          exact z
        · have hc : c ≠ a := ne_of z e (by intro z; cases z)
          rw [upd_ne hc, upd_ne (ne c _ z)]
          exact z
end
end L2
set_option Elab.async false
set_option linter.all false
set_option maxRecDepth 100000
namespace L2
open PySem PySem.Spec PyProof.Rows XH
section
variable {X : Cx} {o e value : Expr} {f : Str} {pos pos' : Pos} {ta tv : TE}
theorem ps_fldX {K : PySem.W.Frag} (hK : X.K = K) (ha : PE X o ta) (hv : PE X value tv) (hs : swapsWith value (some (.Attribute o f pos')) pos.line X.env = pure false) : PS X (.Assign [.Attribute o f pos'] value pos) (sFldX K ta tv f) := by
  subst hK
  intro pins s σ H D I h
  refine plainObj_wpAny_Assign_Attribute (thn (hv pins s σ H _ I h) fun u s1 ⟨y, H1, I1, ry, q⟩ => thn (ha pins s1 σ H1 _ I1 q) fun ov s2 ⟨x, H2, I2, rx, a, C, S, nb, ex, ea, n, hn, q2⟩ => ?_) hs
  subst ex
  obtain rfl : ov = Value.ref a := rx
  exact setx_ok I2 ea n hn ry fun d s3 nd I3 => ⟨σ, _, I3, q2 d nd⟩
/-- e.f of a refusal that has the field -/
structure XF (K : PySem.W.Frag) (C : Addr) (f : Str) : Prop where
  gg : XG K C
  dct : PySem.W.hasDictIn K C = true
  no : PySem.W.findIn K (.ref C) f = some none
def tFldX (K : PySem.W.Frag) (ta : TE) (f : Str) : TE := fun σ H Q => ta σ H fun x H1 => ∃ a C d fs v n, x = .ref a ∧ H1 a = some (excB n a (.ref C) (some d)) ∧ H1 d = some (.xd fs) ∧ XF K C f ∧ fs.lookup f = some v ∧ Q v H1
theorem pe_fldX {K : PySem.W.Frag} (hK : X.K = K) (he : PE X e ta) (hb : attributeBase e f X.env (eval e X.env) = eval e X.env) : PE X (.Attribute e f pos) (tFldX K ta f) := by
  subst hK
  intro pins s σ H Q I h
  refine attr_of hb (thn (he pins s σ H _ I h) fun ov s1 ⟨x, H1, I1, rx, a, C, d, fs, v, nb, ex, ea, ed, n, l, q⟩ => ?_)
  subst ex
  obtain rfl : ov = Value.ref a := rx
  obtain ⟨⟨ox, vs, h1, h2, h3, h4, _⟩, _⟩ := (show ObjOk X.prog X.w H1 s1.heap a (excB nb a (.ref C) (some d)) from I1.hok a _ ea)
  obtain ⟨mA, ns, rel⟩ := (show ObjOk X.prog X.w H1 s1.heap d (.xd fs) from I1.hok d _ ed)
  obtain ⟨od, hod, lk⟩ := lookIn_ns ns
  obtain ⟨u, hu, ru⟩ := RelO.some_of (v := v) (o := mA f) (by rw [← l]; exact rel f)
  have J : PySem.W.InstAt s1.heap a ox C (some od) := ⟨h1, h2, by unfold PySem.W.notCls; rw [h4], by rw [h3]; exact hod⟩
  have KX := I1.kIn
  have I2 := I1.tok (s1.toks + 1)
  obtain ⟨hh, g, dr, t, os⟩ := s1
  unfold getAttr
  refine wpAny_bind (wpAny_mkText (exc_by (h := hh) KX J n.gg fun A' => exc_entry_value KX J (PySem.W.findObj_own n.dct n.no rfl (by rw [lk, hu])) ?_))
  exact PySem.W.handed_on (handed_of ru) ⟨v, H1, I2, ru, q⟩
end
/-! ### a refusal with an __init__ is made -/
theorem ns_some {K : PySem.W.Frag} {h : Heap} {N : Addr} {mg : Str → Option Value} {n : Str} {v : Value} (X : K.In h) (G : h.Ns N mg) (e : PySem.W.nsIn K N n = some (some v)) : mg n = some v := by
  obtain ⟨o, es, ep, ho, hd, _, hf⟩ := G
  unfold PySem.W.nsIn at e
  split at e
  · rename_i q
    have z := X _ _ q
    rw [ho] at z
    cases z
    cases hd
    split at e
    · rename_i he
      cases e
      rw [← hf]
      unfold nsFind findBy
      rw [← Array.find?_toList, he]
      rfl
    · split at e <;> cases e
  · cases e
structure XCi (K : PySem.W.Frag) (C f : Addr) : Prop where
  ex : ∃ bm N nm q bs hdct sn sub ab col dd k0 k1 k2 k3 k5, K.lookup C = some (excClassObj nm q C N bs bm hdct sn sub ab col dd k0 k1 k2 k3 k5 "ValueError.__new__") ∧ PySem.W.nsOkIn K N = true ∧ PySem.W.nsIn K N "__init__" = some (some (.ref f)) ∧ PySem.W.tailIn K bmV bm = true
  fn : PySem.W.typeIn K (.ref f) = some (.type "function")
  kp : PySem.W.keepIn K (.ref C) = true
section
variable {prog : Program} {w : World} {A : Around} {E : Value → Shared → Prop} {h : Heap} {g : Array GenState} {d : Drawn} {t : Nat} {os : OsState}
variable {nm q : Str} {C N : Addr} {bs bm : List Value} {hdct : Bool} {sn : List Str} {sub : List Value} {ab : Bool} {col : Option Bool} {dd : Option Addr} {k0 k1 k2 k3 k5 : Option Value}
theorem type_call_init {mN : Str → Option Value} {rest : List Value} {fI : Addr} {oI : Obj} {Q : Fin → Shared → Prop} (tl : OwnTail h bmV bm)
    (cl : h.get? C = some (excClassObj nm q C N bs bm hdct sn sub ab col dd k0 k1 k2 k3 k5 "ValueError.__new__")) (nn : h.Ns N mN) (ni : mN "__init__" = some (.ref fI)) (gI : h.get? fI = some oI) (cI : oI.cls = .type "function")
    (kq : ∀ h' e, Heap.MadeExcOf h h' e (.ref C) rest → wpAny (model prog w) A (call (.ref fI) (.ref e :: rest)) (fun r s' => r = .none ∧ Q (.done (.ret (.ref e))) s') E ⟨h', g, d, t, os⟩) (lr : rest.length ≤ sizeLine) :
    wpAny (model prog w) A (Builtin.«type.__call__» ⟨.ref C :: rest, []⟩) Q E ⟨h, g, d, t, os⟩ := by
  have FV := PySem.F.excBase_ValueError
  repeat (first | with_reducible refine wpAny_loadPart_at cl ?_ | with_reducible refine wpAny_madeBy_exc cl ?_ | wp_step)
  refine codeAny_call_builtin_code (Code.quiet_builtin _ FV.quiet) (wpAny_check_new_subT FV tl cl ?_)
  refine codeAny_exc_new_subT FV tl cl ?_ lr
  show wpAny _ _ _ _ _ _
  generalize hp : (h.push { cls := .type "tuple", data := .seq rest.toArray }).push { cls := .ref C, data := .fields #[.ref h.objs.size, .none, .none, .none, .bool false, .none] } = h2
  have kp : ∀ b o, h.get? b = some o → h2.get? b = some o := fun b o z => by rw [← hp]; exact Heap.get?_push_of_some _ (Heap.get?_push_of_some _ z)
  have ge : h2.get? (h.objs.size + 1) = some { cls := .ref C, data := .fields #[.ref h.objs.size, .none, .none, .none, .bool false, .none] } := by rw [← hp]; heap_get
  have gt : h2.get? h.objs.size = some { cls := .type "tuple", data := .seq rest.toArray } := by rw [← hp]; exact Heap.get?_push_of_some _ (Heap.get?_push_at rfl rfl)
  have cl2 := kp _ _ cl
  have nn2 : h2.Ns N mN := nn.keeps kp
  have self : (Value.ref C :: bm).contains (.ref C) = true := by simp
  unfold isInstance
  repeat (first | with_reducible refine wpAny_loadPart_at ge ?_ | (with_reducible refine wpAny_isSubtype_exc cl2 ?_; rw [self]) | wp_step)
  show wpAny _ _ (typeLookup (.ref C) _) _ _ _
  refine wpAny_typeLookup_tail cl2 nn2 (tl.keeps kp) FV.mroIs FV.init.lookup ?_
  rw [ni]
  refine wpAny_holding (wpAny_bind ?_)
  unfold bindSpecial
  refine wpAny_bind (wpAny_typeOf (T := "function") ⟨_, kp _ _ gI, cI⟩ ?_)
  rw [if_pos (by decide)]
  refine wpAny_pure (wpAny_bind ?_)
  refine wpAny_mono (kq h2 (h.objs.size + 1) ⟨kp, Heap.get?_none_of_le (Nat.le_succ _), h.objs.size, ge, Heap.get?_none_of_le (Nat.le_refl _), gt⟩) (fun r s' hr => ?_) fun _ _ z => z
  obtain ⟨rfl, z⟩ := hr
  wp_walk
  exact z
theorem call_init {mN : Str → Option Value} {rest : List Value} {fI : Addr} {oI : Obj} {Q : Value → Shared → Prop} (tl : OwnTail h bmV bm)
    (cl : h.get? C = some (excClassObj nm q C N bs bm hdct sn sub ab col dd k0 k1 k2 k3 k5 "ValueError.__new__")) (nn : h.Ns N mN) (ni : mN "__init__" = some (.ref fI)) (gI : h.get? fI = some oI) (cI : oI.cls = .type "function")
    (kq : ∀ h' e, Heap.MadeExcOf h h' e (.ref C) rest → wpAny (model prog w) (A.under (.builtin "type.__call__" ⟨.ref C :: rest, []⟩)) (call (.ref fI) (.ref e :: rest)) (fun r s' => r = .none ∧ Q (.ref e) s') E ⟨h', g, d, t, os⟩) (lr : rest.length ≤ sizeLine) :
    wpAny (model prog w) A (call (.ref C) rest) Q E ⟨h, g, d, t, os⟩ := by
  have a1 := tc_lookup
  have a2 := tc_bind (.ref C)
  have ty : (⟨h, g, d, t, os⟩ : Shared).TypeIs (.ref C) "type" := ⟨_, cl, rfl⟩
  refine wpAny_call (codeAny_of_tree ?_)
  show wpAny _ _ (callAny (.ref C) _) _ _ _
  repeat (any_goals (first | assumption | with_reducible refine wpAny_loadPart_at cl ?_ | wp_step))
  refine ⟨rfl, ?_⟩
  refine codeAny_call_builtin_at (Code.quiet_builtin _ (by decide +kernel)) entry_typeCall (wpAny_check_type_call_sub cl ?_)
  exact type_call_init tl cl nn ni gI cI (fun h' e mk => kq h' e mk) lr
end
section
variable {X : Cx} {x : Str} {p pos : Pos} {e : Expr} {es : List Expr} {C fI : Addr} {t : TA} {k : Nat} {fd : FuncData} {ps : List Str} {sp : Sp}
theorem run_init {pins : List (Addr × Obj)} {σ : St} {H : Hp} {s : Shared} {Q : Value → Shared → Prop} {us : List Value} {vs : List V} {E : Value → Shared → Prop} {R : Addr → Hp → Prop} (M : XCi X.K C fI) (F : FnOk X.prog X.w X.K X.mg X.base CX0 k fI fd ps sp) (hr : Room (k + 1) X.A) (hb : Binds X.K fd ps [])
    (I : Inv X pins σ H s) (r : Vals vs us) (lr : vs.length ≤ sizeLine) (h : ∀ a, H a = none → sp (.ref a :: vs) (upd H a (excB true a (.ref C) none)) (fun v H2 => v = .non ∧ R a H2) E0)
    (hq : ∀ a h' H2 s2, Heap.MadeExcOf s.heap h' a (.ref C) us → s2.os = s.os → AllBare s2.gens → Un (frs X.stack) [] H H2 s.heap s2.heap → HOk X.prog X.w H2 s2.heap → R a H2 → Q (.ref a) s2) :
    wpAny (model X.prog X.w) X.A (call (.ref C) us) Q E s := by
  obtain ⟨bm, N, nm, qn, bs, hdct, sn, sub, ab, col, dd, k0, k1, k2, k3, k5, lk, ok, ini, tl⟩ := M.ex
  have KX := I.kIn
  have lr' : us.length ≤ sizeLine := by rw [← r.length]; exact lr
  have fn := M.fn
  unfold PySem.W.typeIn at fn
  obtain ⟨oI, gI, cI⟩ := Option.map_eq_some_iff.mp fn
  have nn : s.heap.Ns N (s.heap.nsMap N) := .of_isNs (PySem.W.isNs_of_in KX ok)
  have key := fun h' a (mk : Heap.MadeExcOf s.heap h' a (.ref C) us) => (made_cx I mk).caughtN I
  have un := fun h' a (mk : Heap.MadeExcOf s.heap h' a (.ref C) us) => un_track (o := excB true a (.ref C) none) (Un.kept (fs := frs X.stack) (ex := []) (H := H) mk.keeps) mk.new (I.hok.none_of mk.new)
  obtain ⟨hh, g, d, tk, os⟩ := s
  refine call_init (PySem.W.tail_of_in KX tl) (KX _ _ lk) nn (ns_some KX nn ini) (KX _ _ gI) cI (fun h' a mk => ?_) lr'
  have I2 := key h' a mk
  have na : H a = none := I.hok.none_of mk.new
  have hs := h a na
  have r2 : Vals (V.ref a :: vs) (Value.ref a :: us) := .cons rfl r
  have hl : (Value.ref a :: us ++ []).length = ps.length := by
    rw [List.append_nil, ← r2.length]
    exact F.len _ _ _ _ hs
  have hb' := hb ⟨h', g, d, tk, os⟩ (Value.ref a :: us) I2.kIn hl
  rw [List.append_nil] at hb'
  refine wpAny_call (codeAny_mono (F.run _ X.stack _ _ ⟨Value.ref a :: us, []⟩ (Value.ref a :: us) _ _ E0 (hr.make C us []) (I2.env0.make C us []) hb' r2 hs) fun rr s' hq' => ?_)
  cases rr with
  | error z => exact hq'.elim
  | ok fl =>
    cases fl with
    | ret u =>
      obtain ⟨v, H2, os', bare, un2, hok, rv, ev, q2⟩ := hq'
      subst ev
      exact ⟨rv, hq a h' H2 s' mk os' bare ((un h' a mk).trans un2) hok q2⟩
    | next => exact False.elim hq'
    | brk => exact False.elim hq'
    | cont => exact False.elim hq'
end
end L2
set_option Elab.async false
set_option linter.all false
set_option maxRecDepth 100000
namespace L2
open PySem PySem.Spec PyProof.Rows XH
section
variable {M : Model} {A : Around} {E : Value → Shared → Prop} {env : Env}
variable {nm q : Str} {C N : Addr} {bs bm : List Value} {hdct : Bool} {sn : List Str} {sub : List Value} {ab : Bool} {col : Option Bool} {dd : Option Addr} {k0 k1 k2 k3 k5 : Option Value} {nw : String}
theorem raise_any {s : Shared} {x : Sem Value} {Q : Flow → Shared → Prop} (hb : bm.contains (.type "BaseException") = true) (hh : A.handled = none)
    (h : wpAny M A x (fun v s1 => ∃ e dx ws sl, v = .ref e ∧ s1.heap.get? C = some (excClassObj nm q C N bs bm hdct sn sub ab col dd k0 k1 k2 k3 k5 nw) ∧ s1.heap.get? e = some ⟨.ref C, dx, .fields ws, sl⟩ ∧ ws[1]? = some .none ∧ E (.ref e) s1) E s) :
    wpAny M A (raiseStmt env (some x) none) Q E s := by
  have cb : (Value.ref C :: bm).contains (.type "BaseException") = true := by rw [List.contains_cons, hb, Bool.or_true]
  unfold raiseStmt
  apply wpAny_bind
  refine wpAny_mono h (fun v s1 h1 => ?_) fun _ _ z => z
  obtain ⟨e, dx, ws, sl, rfl, cl, ge, n1, he⟩ := h1
  obtain ⟨hp, g, d, tk, os⟩ := s1
  repeat (first | with_reducible refine wpAny_loadPart_at ge ?_ | with_reducible refine wpAny_loadPart_at cl ?_ | (with_reducible refine wpAny_isSubtype_exc cl ?_; rw [cb]) | wp_step)
  rw [n1]
  refine wpAny_pure ?_
  rw [if_neg (by decide)]
  exact wpAny_pure (wpAny_raiseNew_none hh he)
end
def del (H : Hp) (a : Addr) : Hp := fun b => if b = a then none else H b
theorem del_ne {H : Hp} {a b : Addr} (h : b ≠ a) : del H a b = H b := if_neg h
theorem del_same {H : Hp} {a : Addr} : del H a a = none := if_pos rfl
theorem un_del {fs : List Addr} {H H2 : Hp} {h0 h : Heap} {a : Addr} (u : Un fs [] H H2 h0 h) (na : H a = none) : Un fs [] H (del H2 a) h0 h where
  keep := u.keep
  slot := u.slot
  free := fun b o q n hx => by
    by_cases hb : b = a
    · rw [hb, del_same]
    · rw [del_ne hb]; exact u.free b o q n hx
  there := u.there
  tups := fun b xs e => by rw [del_ne (ne_of_none e na)]; exact u.tups b xs e
  frzs := fun b o w e => by rw [del_ne (ne_of_none e na)]; exact u.frzs b o w e
  tbls := fun b ps e => by rw [del_ne (ne_of_none e na)]; exact u.tbls b ps e
theorem hok_del {P : Program} {w : World} {H : Hp} {h : Heap} {a : Addr} {φ : Heap → Prop} (k : HOk P w H h) (e : H a = some (.ext φ)) : HOk P w (del H a) h := fun b o q => by
  by_cases hb : b = a
  · rw [hb, del_same] at q; cases q
  · rw [del_ne hb] at q
    refine (k b o q).stay (fun c v _ z => z) (fun c z => ?_) fun c xs z => ?_
    · rw [del_ne (ne_of z e (by intro y; cases y))]; exact z
    · rw [del_ne (ne_of z e (by intro y; cases y))]; exact z
def tRaiseI (C : Addr) (sp : Sp) (E : St → XK) (t : TA) : TS := fun _ σ H => t σ H fun vs H1 => vs.length ≤ sizeLine ∧ ∀ a, H1 a = none → sp (.ref a :: vs) (upd H1 a (excB true a (.ref C) none)) (fun v H2 => v = .non ∧ ∃ d, H2 a = some (excB true a (.ref C) (some d)) ∧ E σ (.ref C) (some d) (del H2 a)) E0
section
variable {X : Cx} {x : Str} {np cpos pos : Pos} {e₀ : Expr} {rest : List Expr} {C fI : Addr} {t : TA} {k : Nat} {fd : FuncData} {ps : List Str} {sp : Sp} {E : St → XK}
theorem ps_raiseI (M : XCi X.K C fI) (F : FnOk X.prog X.w X.K X.mg X.base CX0 k fI fd ps sp) (hr : Room (k + 1) X.A) (hg : Gl X x) (hm : X.mg x = some (.ref C)) (hb : Binds X.K fd ps []) (hc : X.calm = true) (hp : PassX X E) (ha : PA X (e₀ :: rest) t) (hd : (x == ("__debug__" : Str)) = false := by decide)
    (he : starEach (e₀ :: rest) X.env = (false, eval e₀ X.env) :: starEach rest X.env := by rfl) (hpl : (backTo cpos (starEach rest X.env)).any (·.1) = false := by rfl) :
    PS X (.Raise (some (.Call (.Name x np) (e₀ :: rest) [] cpos)) none pos) (tRaiseI C sp E t) := by
  intro pins s σ H D I h
  obtain ⟨bm, N, nm, qn, bs, hdct, sn, sub, ab, col, dd, k0, k1, k2, k3, k5, lk, ok, ini, tl⟩ := M.ex
  have bb : bm.contains (.type "BaseException") = true := (PySem.W.tail_of_in I.kIn tl).hasType PySem.F.excBase_ValueError.hasBase
  have body : wpAny (model X.prog X.w) X.A (eval (.Call (.Name x np) (e₀ :: rest) [] cpos) X.env) (fun v s1 => ∃ e dx ws sl, v = .ref e ∧ s1.heap.get? C = some (excClassObj nm qn C N bs bm hdct sn sub ab col dd k0 k1 k2 k3 k5 "ValueError.__new__") ∧ s1.heap.get? e = some ⟨.ref C, dx, .fields ws, sl⟩ ∧ ws[1]? = some .none ∧ X.xe (.ref e) s1) X.xe s := by
    refine wpAny_Call_Name_kw (ld_glob I hg hm ?_ hd)
    refine PySem.W.callWith_K (h₀ := X.base) I.ok.mod.kin M.kp (thn (ha cpos pins s σ H _ I h) fun us s1 ⟨vs, H1, I1, r, lr, q⟩ => ⟨I1.kIn, ?_⟩) he hpl
    refine run_init M F hr hb I1 r lr q fun a h' H2 s2 mk os bare un hok q2 => ?_
    obtain ⟨d, ed, hE⟩ := q2
    have I2 := I1.call' os un hok bare (fun b z => absurd z (by simp))
    obtain ⟨⟨ox, ws, g1, g2, g3, g4, g6, g5⟩, _⟩ := (show ObjOk X.prog X.w H2 s2.heap a (excB true a (.ref C) (some d)) from hok a _ ed)
    have na := I1.hok.none_of mk.new
    obtain ⟨oc, odx, oda, osl⟩ := ox
    dsimp only at g2 g3 g4
    subst g2 g3 g4
    refine ⟨a, some d, ws, osl, rfl, I2.kIn _ _ lk, g1, (g5 rfl).2, hp pins σ H1 s1 _ _ I1 ⟨a, del H2 a, .ref C, some d, .new, rfl, ⟨os, bare, un_del un na, hok_del hok ed, ⟨⟨_, ws, g1, rfl, rfl, rfl, ⟨(g5 rfl).1, g6⟩, (g5 rfl).2⟩, mk.new, del_same⟩⟩, hE⟩⟩
  rw [arm_exec_Raise]
  apply wpAny_bind
  apply wpAny_standAt
  refine raise_any (C := C) (nm := nm) (q := qn) (N := N) (bs := bs) (bm := bm) (hdct := hdct) (sn := sn) (sub := sub) (ab := ab) (col := col) (dd := dd) (k0 := k0) (k1 := k1) (k2 := k2) (k3 := k3) (k5 := k5) (nw := "ValueError.__new__") bb (I.ok.hd hc) ?_
  apply wpAny_bind
  refine wpAny_mono body (fun v s1 h1 => ?_) fun _ _ z => z
  apply wpAny_bind
  apply wpAny_standAt
  exact wpAny_pure h1
end
end L2
set_option Elab.async false
set_option linter.all false
set_option maxRecDepth 100000
namespace L2
open PySem PySem.Spec PyProof.Rows XH
/-! ### within an except suite, and in what is called there -/
section
variable {prog : Program} {w : World} {A : Around} {E : Value → Shared → Prop} {s : Shared}
end
/-! ### iterators under a handled exception -/
section
variable {X : Cx} {tg : Expr} {hd : Option Value}
end
section
variable {X : Cx} {scope : Scope} {cl : List (Str × Addr)} {own : Str} {ys : List Str} {js : List Nat} {elt iter : Expr} {px pos : Pos} {wi : TI} {te : TE} {hd : Option Value}
end
/-! ### an except suite whose reading knows the exception -/
def tHasA (K : PySem.W.Frag) (C' : Addr) (i : Nat) (t : Addr → TS) (r : TH) : TH := fun D σ cls dx H a => ∃ C b, cls = .ref C ∧ PySem.W.subIn K (.ref C) (.ref C') = some b ∧
  if b = true then t a (offE i D) (σ.set i (some (.ref a))) (upd H a (excO a cls dx)) else r D σ cls dx H a
section
variable {X : Cx} {x n : Str} {np pos : Pos} {b0 : Stmt} {suite : List Stmt} {rest : List ExceptHandler} {i : Nat} {C' : Addr} {tA : Addr → TS} {th : TH}
theorem ph_asA (T : XT X.K C') (hg : Gl X x) (hm : X.mg x = some (.ref C')) (hN : X.N.Nodup) (hi : X.N[i]? = some n) (hloc : X.env.scope.names.lookup n = some .local)
    (hs : ∀ (pins : List (Addr × Obj)) (a : Addr), PSs (X.suite pins a) (b0 :: suite) (tA a)) (hrest : PH X rest th) (hd : (x == ("__debug__" : Str)) = false := by decide) :
    PH X (.ExceptHandler (some (.Name x np)) (some n) (b0 :: suite) pos :: rest) (tHasA X.K C' i tA th) := by
  intro pins σ H0 s0 D a H' cls v dx s' I c h
  obtain ⟨C, b, rfl, hsub, h⟩ := h
  have J : Inv X pins σ H' s' := I.call' c.os c.un c.hok c.bare (fun b z => absurd z (by simp))
  obtain ⟨oe, vs, he, hc, _, _, _⟩ := c.xo.ex
  refine wpAny_handleBy_cons (codeAny_handlers_test (ld_glob (X := X.suite pins a) (J.insuite a) hg hm ?_ hd)) (by intro q; cases q)
  have KX := J.kIn
  obtain ⟨hh, g, d, tk, os⟩ := s'
  refine matches_ok KX he hc T hsub ?_
  cases b with
  | false => exact hrest pins σ H0 s0 D a H' _ v dx _ I c h
  | true =>
    refine codeAny_handlers_suite_as ?_
    refine c.flight I.stack I.stkFree fun s2 c2 => ?_
    have J2 := (c2.caught I).insuite a
    refine store_ok (X := X.suite pins a) (v := V.ref a) J2 hN hi (.inl hloc) (show RelV (V.ref a) (Value.ref a) from rfl) (fun s3 I3 => ?_) (.inr hloc)
    refine wpAny_mono (hs pins a [] s3 _ _ _ I3 h) (fun f s4 q => ?_) fun _ _ z => z.elim
    exact gone_ok I.ok hN hi hloc q
end
/-! ### calls, whatever is handled -/
structure RoomH (hd : Option Value) (k : Nat) (A : Around) : Prop where
  hd : A.handled = hd
  dp : A.depth + 3 * k + 5 < recursionLimit
  un : A.units + 16 * k + 200 < cLine
theorem RoomH.mono {hd : Option Value} {j k : Nat} {A : Around} (r : RoomH hd k A) (h : j ≤ k) : RoomH hd j A := ⟨r.hd, by have := r.dp; omega, by have := r.un; omega⟩
theorem RoomH.deeper {hd : Option Value} {k : Nat} {A : Around} (r : RoomH hd (k + 1) A) (env : Env) : RoomH hd k (A.deeper env) :=
  ⟨r.hd, by have := r.dp; show A.depth + 1 + 3 * k + 5 < _; omega, by have := r.un; show A.units + 3 + 16 * k + 200 < _; omega⟩
theorem RoomH.depth {hd : Option Value} {k : Nat} {A : Around} (r : RoomH hd k A) : A.depth < recursionLimit := by have := r.dp; omega
theorem Room.h {k : Nat} {A : Around} (r : Room k A) : RoomH none k A := ⟨r.hd, r.dp, r.un⟩
theorem Room.suite {k : Nat} {A : Around} (r : Room k A) (v : Value) : RoomH (some v) k (A.mark (some v)) := ⟨rfl, r.dp, r.un⟩
structure FnH (hd : Option Value) (P : Program) (w : World) (K : PySem.W.Frag) (mg : Str → Option Value) (base : Heap) (k : Nat) (f : Addr) (fd : FuncData) (ps : List Str) (sp : Sp) : Prop where
  len : ∀ vs H Q E, sp vs H Q E → vs.length = ps.length
  run : ∀ (A : Around) (outer : List Env) (s : Shared) (H : Hp) (args : Args) (us : List Value) (vs : List V) (Q : VK) (E : XK), RoomH hd k A → Env0 P w K mg base A outer s H → BindsTo s fd args (ps.zip us) → Vals vs us → sp vs H Q E →
    codeAny (model P w) A (.call (.ref f) args) (CR CX0 outer P w H s Q E) s
section
variable {P : Program} {w : World} {K : PySem.W.Frag} {mg : Str → Option Value} {base : Heap} {hd : Option Value}
theorem FnH.calm {k : Nat} {f : Addr} {fd : FuncData} {ps : List Str} {sp : Sp} (F : FnH none P w K mg base k f fd ps sp) : FnOk P w K mg base CX0 k f fd ps sp :=
  ⟨F.len, fun A outer s H args us vs Q E hr => F.run A outer s H args us vs Q E hr.h⟩
def cxH (hd : Option Value) (P : Program) (w : World) (K : PySem.W.Frag) (mg : Str → Option Value) (base : Heap) (N : List Str) (qual : Str) (scope : Scope) (f : Addr) (cd : Value) (A : Around) (outer : List Env) (s : Shared) (H : Hp) (E : XK) : Cx :=
  { cxOf CX0 P w K mg base N qual scope f cd A outer s H E with calm := hd.isNone }
theorem inv_startH {N ps : List Str} {qual : Str} {scope : Scope} {f : Addr} {cd : Value} {A : Around} {outer : List Env} {s s1 : Shared} {H : Hp} {E : XK} {us : List Value} {vs : List V}
    (S : FnScope N ps scope) (hA : A.handled = hd) (e0 : Env0 P w K mg base A outer s H) (hl : vs.length = ps.length) (r : Vals vs us)
    (x : InCallC s s.heap.objs.size (bindL (envOfC qual scope s.heap.objs.size f cd).kindOf (ps.zip us) fun _ => none) (cellsFrom (s.heap.objs.size + 1) scope.names []) (bindC (envOfC qual scope s.heap.objs.size f cd).kindOf (ps.zip us) fun _ => none) s1) :
    Inv (cxH hd P w K mg base N qual scope f cd A outer s H E) [] (start N vs) H s1 := by
  have e0' : Env0 P w K mg base { A with handled := none } outer s H := ⟨e0.frames, e0.mod, e0.bs, e0.bsz, e0.funs, e0.frf, e0.hok, e0.bare⟩
  have I := inv_start (CX := CX0) (E := E) S (A := { A with handled := none }) rfl e0' hl r x
  have hh : (cxH hd P w K mg base N qual scope f cd A outer s H E).calm = true → (cxH hd P w K mg base N qual scope f cd A outer s H E).A.handled = none := fun z => by
    cases hd with
    | none => exact hA
    | some v => cases (show false = true from z)
  exact ⟨⟨I.ok.mod, I.ok.kind, I.ok.glob, I.ok.blt, I.ok.above, I.ok.inj, I.ok.has, I.ok.cab, hh, I.ok.frames, I.ok.stk, I.ok.exf, I.ok.bs, I.ok.bsz, I.ok.noex, I.ok.exfs, I.ok.funs, I.ok.frf⟩,
    I.os, I.bare, I.base, I.loc, I.cell, I.free, I.freeC, I.pin, I.hok, I.len⟩
theorem fn_ofH {k : Nat} {f : Addr} {name qual : Str} {params : Arguments} {body : List Stmt} {scope : Scope} {dV kV doc pm cdv ct oc : Value} {an od : Option Addr}
    {osl : Array (Option Value)} {N ps : List Str} {sp : Sp} (lk : K.lookup f = some ⟨oc, od, .func (PySem.W.fnOf name qual params body scope dV kV doc pm an cdv ct), osl⟩) (hcd : PySem.W.codeIn K cdv qual = true) (S : FnScope N ps scope)
    (len : ∀ vs H Q E, sp vs H Q E → vs.length = ps.length)
    (hbody : ∀ (A : Around) (outer : List Env) (s : Shared) (H : Hp) (vs : List V) (Q : VK) (E : XK), RoomH hd k (A.deeper (envOfC qual scope s.heap.objs.size f cdv)) → sp vs H Q E →
      ∃ t, PSs (cxH hd P w K mg base N qual scope f cdv A outer s H E) body t ∧ t { nx := fun _ H' => Q .non H', rt := Q } (start N vs) H) :
    FnH hd P w K mg base (k + 1) f (PySem.W.fnOf name qual params body scope dV kV doc pm an cdv ct) ps sp := by
  refine ⟨len, fun A outer s H args us vs Q E hr e0 hb r hsp => ?_⟩
  have hl := len _ _ _ _ hsp
  have KX : K.In s.heap := e0.mod.kin.keeps fun b o e => (e0.bs b o e).1
  have lim : s.heap.NoLimit := e0.mod.nolimit.keeps fun b o e => (e0.bs b o e).1
  have hkind : ∀ y ∈ ps.zip us, scope.names.lookup y.1 = some .local ∨ (scope.names.lookup y.1 = some .cell ∧ ((cellsFrom (s.heap.objs.size + 1) scope.names []).lookup y.1).isSome = true) := fun ⟨n, v⟩ hy => by
    rcases S.par n (List.of_mem_zip hy).1 with q | q
    · exact .inl q
    · exact .inr ⟨q, PySem.W.cellsFrom_some _ _ _ (.inl q)⟩
  refine codeAny_call_function hr.depth (KX _ _ lk) rfl S.co S.gen rfl (PySem.W.codeRec_of KX hcd) (hb _ _ _ _ ?_)
  refine wpAny_newFunctionEnv_cells S.kind hkind fun env he s1 x => ?_
  subst he
  refine ⟨lim.keeps x.toInCall.keep, codeAny_func ?_⟩
  obtain ⟨t, ht, hq⟩ := hbody A outer s H vs Q E (hr.deeper _) hsp
  have I : Inv (cxH hd P w K mg base N qual scope f cdv A outer s H E) [] (start N vs) H s1 := inv_startH S hr.hd e0 hl r x
  refine wpAny_mono (ht [] s1 (start N vs) H _ I hq) (fun fl s' hs => ?_) fun e s' hs => hs
  have fin : ∀ {σ' : St} {H' : Hp} {v : V} {u : Value}, Inv (cxH hd P w K mg base N qual scope f cdv A outer s H E) [] σ' H' s' → RelV v u → Q v H' → CE outer P w H s Q u s' :=
    fun {σ' H' v u} J rv q => ⟨v, H', J.os, J.bare, J.base, J.hok, rv, q⟩
  cases fl with
  | ret u =>
    obtain ⟨v, σ', H', J, rv, q⟩ := hs
    exact fin J rv q
  | next =>
    obtain ⟨σ', H', J, q⟩ := hs
    exact fin (v := V.non) (u := Value.none) J rfl q
  | brk =>
    obtain ⟨_, _, _, q⟩ := hs
    exact False.elim q
  | cont =>
    obtain ⟨_, _, _, q⟩ := hs
    exact False.elim q
end
section
variable {X : Cx} {k : Nat} {f : Addr} {fd : FuncData} {ps : List Str} {sp : Sp} {dvs : List V} {ds : List Value} {x : Str} {p pos : Pos} {e : Expr} {es : List Expr} {t : TA} {hd : Option Value}
theorem run_fnH {pins : List (Addr × Obj)} {σ : St} {H : Hp} {s : Shared} {Q : VK} {us : List Value} {vs : List V} (F : FnH hd X.prog X.w X.K X.mg X.base k f fd ps sp) (hr : RoomH hd k X.A) (hb : Binds X.K fd ps ds) (hv : Vals dvs ds)
    (I : Inv X pins σ H s) (r : Vals vs us) (h : sp (vs ++ dvs) H Q E0) : wpAny (model X.prog X.w) X.A (call (.ref f) us) (EP X pins σ Q) X.xe s := by
  have r2 : Vals (vs ++ dvs) (us ++ ds) := r.append hv
  have hl : (us ++ ds).length = ps.length := by rw [← r2.length]; exact F.len _ _ _ _ h
  refine wpAny_call (codeAny_mono (F.run X.A X.stack s H ⟨us, []⟩ (us ++ ds) (vs ++ dvs) Q E0 hr I.env0 (hb s us I.kIn hl) r2 h) fun r s' hq => ?_)
  cases r with
  | error e => exact False.elim hq
  | ok fl =>
    cases fl with
    | ret u => exact I.after hq
    | next => exact False.elim hq
    | brk => exact False.elim hq
    | cont => exact False.elim hq
theorem pe_callH (F : FnH hd X.prog X.w X.K X.mg X.base k f fd ps sp) (hr : RoomH hd k X.A) (hg : Gl X x) (hm : X.mg x = some (.ref f)) (hk : PySem.W.keepIn X.K (.ref f) = true) (hb : Binds X.K fd ps ds) (hv : Vals dvs ds)
    (ha : PA X (e :: es) t) (hdb : (x == ("__debug__" : Str)) = false := by decide) (he : starEach (e :: es) X.env = (false, eval e X.env) :: starEach es X.env := by rfl) (hpl : (backTo pos (starEach es X.env)).any (·.1) = false := by rfl) :
    PE X (.Call (.Name x p) (e :: es) [] pos) (tCall sp dvs E0 t) := by
  intro pins s σ H Q I h
  refine wpAny_Call_Name_kw (ld_glob I hg hm ?_ hdb)
  refine PySem.W.callWith_K (h₀ := X.base) I.ok.mod.kin hk (thn (ha pos pins s σ H _ I h) fun us s1 ⟨vs, H1, I1, r, q⟩ => ⟨I1.kIn, ?_⟩) he hpl
  exact run_fnH F hr hb hv I1 r q
end
end L2
set_option Elab.async false
set_option linter.all false
set_option maxRecDepth 100000
namespace Sw
open PySem L2 XH
/-- a def as its callers see it -/
structure Dx (P : Program) (w : World) (K : PySem.W.Frag) (mg : Str → Option Value) (base : Heap) (CX : CXT) (k : Nat) (x : Str) (ps : List Str) (dvs : List V) (sp : Sp) where
  f : Addr
  fd : FuncData
  ok : FnOk P w K mg base CX k f fd ps sp
  m : mg x = some (.ref f)
  q : PySem.W.keepIn K (.ref f) = true
  b : Binds K fd ps []
  bd : ∃ ds, Binds K fd ps ds ∧ Vals dvs ds
def Dx.calm {P : Program} {w : World} {K : PySem.W.Frag} {mg : Str → Option Value} {base : Heap} {k : Nat} {x : Str} {ps : List Str} {dvs : List V} {sp sp0 : Sp} (D : Dx P w K mg base (CX1 P w) k x ps dvs sp) (h : ∀ vs H Q E, sp0 vs H Q E → sp vs H Q E0) : Dx P w K mg base CX0 k x ps dvs sp0 :=
  ⟨D.f, D.fd, D.ok.noraise h, D.m, D.q, D.b, D.bd⟩
section
variable {X : Cx} {k j : Nat} {x : Str} {ps : List Str} {sp : Sp} {p pos : Pos} {e : Expr} {es : List Expr} {t : TA} {dvs : List V} {E : St → XK}
theorem pcall0 (D : Dx X.prog X.w X.K X.mg X.base CX0 k x ps dvs sp) (hr : Room j X.A) (hk : k ≤ j) (hg : Gl X x) (ha : PA X (e :: es) t) (hdb : (x == ("__debug__" : Str)) = false := by decide)
    (he : starEach (e :: es) X.env = (false, eval e X.env) :: starEach es X.env := by rfl) (hpl : (backTo pos (starEach es X.env)).any (·.1) = false := by rfl) :
    PE X (.Call (.Name x p) (e :: es) [] pos) (tCall sp [] E0 t) :=
  pe_call D.ok (hr.mono hk) hg D.m D.q D.b .nil pass0 ha hdb he hpl
theorem pcall0d (D : Dx X.prog X.w X.K X.mg X.base CX0 k x ps dvs sp) (hr : Room j X.A) (hk : k ≤ j) (hg : Gl X x) (ha : PA X (e :: es) t) (hdb : (x == ("__debug__" : Str)) = false := by decide)
    (he : starEach (e :: es) X.env = (false, eval e X.env) :: starEach es X.env := by rfl) (hpl : (backTo pos (starEach es X.env)).any (·.1) = false := by rfl) :
    PE X (.Call (.Name x p) (e :: es) [] pos) (tCall sp dvs E0 t) := by
  obtain ⟨ds, hb, hv⟩ := D.bd
  exact pe_call D.ok (hr.mono hk) hg D.m D.q hb hv pass0 ha hdb he hpl
theorem pcall1 (D : Dx X.prog X.w X.K X.mg X.base (CX1 X.prog X.w) k x ps dvs sp) (hr : Room j X.A) (hk : k ≤ j) (hg : Gl X x) (hx : PassX X E) (ha : PA X (e :: es) t) (hdb : (x == ("__debug__" : Str)) = false := by decide)
    (he : starEach (e :: es) X.env = (false, eval e X.env) :: starEach es X.env := by rfl) (hpl : (backTo pos (starEach es X.env)).any (·.1) = false := by rfl) :
    PE X (.Call (.Name x p) (e :: es) [] pos) (tCallX sp [] E t) :=
  pe_callX D.ok (hr.mono hk) hg D.m D.q D.b .nil hx ha hdb he hpl
theorem pcall1d (D : Dx X.prog X.w X.K X.mg X.base (CX1 X.prog X.w) k x ps dvs sp) (hr : Room j X.A) (hk : k ≤ j) (hg : Gl X x) (hx : PassX X E) (ha : PA X (e :: es) t) (hdb : (x == ("__debug__" : Str)) = false := by decide)
    (he : starEach (e :: es) X.env = (false, eval e X.env) :: starEach es X.env := by rfl) (hpl : (backTo pos (starEach es X.env)).any (·.1) = false := by rfl) :
    PE X (.Call (.Name x p) (e :: es) [] pos) (tCallX sp dvs E t) := by
  obtain ⟨ds, hb, hv⟩ := D.bd
  exact pe_callX D.ok (hr.mono hk) hg D.m D.q hb hv hx ha hdb he hpl
end
theorem FunD.okX {P : Program} {w : World} {K : PySem.W.Frag} {mg : Str → Option Value} {base : Heap} {x qual : Str} {st : Stmt} {dV : Value} {f : Addr} {fd : FuncData} {N ps : List Str} {k : Nat} {sp : Sp} (F : FunD K x qual st dV f fd) (S : FnScope N ps (defScope st)) (len : ∀ vs H Q E, sp vs H Q E → vs.length = ps.length)
    (hbody : ∀ (cdv : Value) (A : Around) (outer : List Env) (s : Shared) (H : Hp) (vs : List V) (Q : VK) (E : XK), Room k (A.deeper (PyProof.Rows.envOfC qual (defScope st) s.heap.objs.size f cdv)) → sp vs H Q E →
      ∃ t, PSs ((cxOf (CX1 P w) P w K mg base N qual (defScope st) f cdv A outer s H E).wish (XS (cxOf (CX1 P w) P w K mg base N qual (defScope st) f cdv A outer s H E) fun _ => E)) (defBody st) t ∧ t { nx := fun _ H' => Q .non H', rt := Q } (start N vs) H) : FnOk P w K mg base (CX1 P w) (k + 1) f fd ps sp := by
  obtain ⟨oc, od, kV, doc, pm, an, cdv, ct, osl, rfl, lk, hcd⟩ := F.ex
  exact fn_ofX lk hcd S len fun A outer s H vs Q E hr hsp => hbody cdv A outer s H vs Q E hr hsp
end Sw
set_option Elab.async false
set_option linter.all false
set_option maxRecDepth 100000
namespace Sw
open PySem L2 XH
def spFrZ (c : Addr) : Sp := fun vs H Q E => ∃ a b : Int, vs = [.int a, .int b] ∧ Bd 8500 b ∧ (b ≠ 0 → ∀ p q : Int, Fr p q a b → Pair H Q p q) ∧ (b = 0 → E (.ref c) none H)
theorem frZ_of {c : Addr} : ∀ vs H Q E, spFr vs H Q E → spFrZ c vs H Q E0 := fun vs H Q E ⟨a, b, e, b0, hb, q⟩ => ⟨a, b, e, hb, fun _ => q, fun z => absurd z b0⟩
def spQuotX (K : PySem.W.Frag) (c : Addr) : Sp := fun vs H Q E => ∃ (t t' : Addr) (p q p' q' : Int), vs = [.ref t, .ref t'] ∧ FrIn K 4000 H t p q ∧ FrIn K 4000 H t' p' q' ∧ (p' ≠ 0 → ∀ r s : Int, Fr r s (p * q') (q * p') → Pair H Q r s) ∧ (p' = 0 → E (.ref c) none H)
theorem quotX_of {K : PySem.W.Frag} {c : Addr} : ∀ vs H Q E, spQuot K vs H Q E → spQuotX K c vs H Q E0 := fun vs H Q E ⟨t, t', p, q, p', q', e, h1, h2, n, z⟩ => ⟨t, t', p, q, p', q', e, h1, h2, fun _ => z, fun y => absurd y n⟩
end Sw
set_option Elab.async false
set_option linter.all false
set_option maxRecDepth 100000
namespace L2
open PySem PySem.Spec PyProof.Rows XH
theorem call_isiT {X : Cx} {K : PySem.W.Frag} (hK : X.K = K) : CallR X (.builtin "isinstance") (fun xs H Q => ∃ x t T b, xs = [x, .ty T] ∧ TyOf K H x t ∧ PySem.W.kitOne K t (.type T) = some b ∧ Q (.bl b) H) := by
  subst hK
  intro pins s σ H xs us Q I r h
  obtain ⟨x, t, T, b, rfl, ty, e, q⟩ := h
  obtain ⟨u, w', rfl, e1, e2⟩ := vals2 r
  cases e2
  exact isinst_ok I e1 ty e fun tk => ⟨.bl b, H, I.tok tk, rfl, q⟩
end L2
namespace Sw
open PySem L2 XH
/-! ### whatever is handed in: is it a whole number, is it a fraction -/
section
variable {K : PySem.W.Frag} {H : Hp}
end
end Sw
set_option Elab.async false
set_option linter.all false
set_option maxRecDepth 100000
namespace L2
open PySem PySem.Spec PyProof.Rows XH
/-- a truth, a number, a text -/
def Smp : V → Prop
  | .bl _ => True
  | .int _ => True
  | .str _ => True
  | .non => True
  | _ => False
theorem eqat_smp {A : Around} {s : Shared} {v : V} {u w : Value} (h : Smp v) (r1 : RelV v u) (r2 : RelV v w) : SeqAt.EqAt A s u w true := by
  cases v with
  | bl b =>
    cases r1
    cases r2
    have z := SeqAt.EqAt.bool_bool (A := A) (s := s) b b
    rw [beq_self_eq_true] at z
    exact z
  | int i =>
    obtain ⟨t, rfl⟩ := r1
    obtain ⟨t', rfl⟩ := r2
    have z := SeqAt.EqAt.int_int (A := A) (s := s) i t i t'
    rw [beq_self_eq_true] at z
    exact z
  | str i =>
    obtain ⟨t, rfl⟩ := r1
    obtain ⟨t', rfl⟩ := r2
    have z := SeqAt.EqAt.str_str (A := A) (s := s) i t i t'
    rw [beq_self_eq_true] at z
    exact z
  | non =>
    cases r1
    cases r2
    exact SeqAt.EqAt.same _
  | _ => exact absurd h (fun z => z)
theorem vals_eqat {A : Around} {s : Shared} : ∀ {zs : List V} {us ws : List Value}, (∀ z ∈ zs, Smp z) → Vals zs us → Vals zs ws → ∀ j (h1 : j < us.length) (h2 : j < ws.length), SeqAt.EqAt A s us[j] ws[j] true
  | _, _, _, _, .nil, .nil, j, h1, _ => absurd h1 (by simp)
  | _, _, _, hs, .cons r1 _, .cons r2 _, 0, _, _ => eqat_smp (hs _ (List.mem_cons_self)) r1 r2
  | _, _, _, hs, .cons _ t1, .cons _ t2, j + 1, h1, h2 => vals_eqat (fun z hz => hs z (List.mem_cons_of_mem _ hz)) t1 t2 j (by simpa using h1) (by simpa using h2)
end L2
set_option Elab.async false
set_option linter.all false
set_option maxRecDepth 100000
namespace L2
open PySem PySem.Spec PyProof.Rows XH
/-! ### a text, walked sign by sign -/
section
variable {X : Cx} {tg : Expr}
end
/-! ### x[lo:hi] of a text -/
def cutS (x : Str) (lo hi : Option Int) : Str := ⟨((x.cps.toList.drop (HT.sIx x.length 0 lo)).take (HT.sIx x.length x.length hi - HT.sIx x.length 0 lo)).toArray⟩
theorem sIdx (lo hi : Option Int) (n : Nat) : Builtin.Str.strSliceIndices lo hi 1 n = (List.range (HT.sIx n n hi - HT.sIx n 0 lo)).map (HT.sIx n 0 lo + ·) := by
  have h1 : (match lo with | none => (0 : Int) | some i => max 0 (min (if i < 0 then i + (n : Int) else i) n)) = ((HT.sIx n 0 lo : Nat) : Int) := by
    cases lo with
    | none => simp [HT.sIx]
    | some i =>
      simp only [HT.sIx]
      by_cases h : i < 0
      · simp only [h, if_true] <;> omega
      · simp only [h, if_false] <;> omega
  have h2 : (match hi with | none => (n : Int) | some i => max 0 (min (if i < 0 then i + (n : Int) else i) n)) = ((HT.sIx n n hi : Nat) : Int) := by
    cases hi with
    | none => simp [HT.sIx]
    | some i =>
      simp only [HT.sIx]
      by_cases h : i < 0
      · simp only [h, if_true] <;> omega
      · simp only [h, if_false] <;> omega
  rw [← sliceRange_one, ← h1, ← h2]
  cases lo <;> cases hi <;> rfl
theorem cutS_picked (x : Str) (l u : Option (Int × Tok)) : (⟨((slicePicked x l u none).filterMap (x.cps[·]?)).toArray⟩ : Str) = cutS x (l.map (·.1)) (u.map (·.1)) := by
  show (⟨((Builtin.Str.strSliceIndices (l.map (·.1)) (u.map (·.1)) 1 x.length).filterMap (x.cps[·]?)).toArray⟩ : Str) = _
  rw [sIdx, pick_run]
  rfl
theorem cutS_length (x : Str) (lo hi : Option Int) : (cutS x lo hi).length ≤ x.length := by
  show ((x.cps.toList.drop _).take _).toArray.size ≤ x.cps.size
  rw [List.size_toArray, List.length_take, List.length_drop]
  simp only [Array.length_toList]
  omega
theorem cutS_whole (x : Str) (l u : Option (Int × Tok)) (h : (slicePicked x l u none).length = x.length) : cutS x (l.map (·.1)) (u.map (·.1)) = x := by
  have h' : (Builtin.Str.strSliceIndices (l.map (·.1)) (u.map (·.1)) 1 x.length).length = x.length := h
  rw [sIdx, List.length_map, List.length_range] at h'
  have hs : HT.sIx x.length x.length (u.map (·.1)) ≤ x.length ∨ x.length < HT.sIx x.length x.length (u.map (·.1)) := by omega
  have hu : HT.sIx x.length x.length (u.map (·.1)) ≤ x.length := by
    cases u with
    | none => exact Nat.le_refl _
    | some p =>
      show (if p.1 < 0 then (p.1 + (x.length : Int)).toNat else min p.1.toNat x.length) ≤ x.length
      by_cases hp : p.1 < 0
      · rw [if_pos hp]; omega
      · rw [if_neg hp]; omega
  unfold cutS
  by_cases hx : x.length = 0
  · have e : x.cps.toList = [] := by
      have : x.cps.toList.length = 0 := by rw [Array.length_toList]; exact hx
      exact List.eq_nil_of_length_eq_zero this
    rw [e, List.drop_nil, List.take_nil]
    obtain ⟨c⟩ := x
    have e' : c = #[] := Array.toList_inj.mp (by simpa using e)
    rw [e']
  · have h0 : HT.sIx x.length 0 (l.map (·.1)) = 0 := by omega
    rw [h0, List.drop_zero, List.take_of_length_le (by rw [Array.length_toList]; show x.length ≤ _; omega)]
theorem part_of {v : Value} {o : Option Int} (p : IsPart v o) : ∃ l : Option (Int × Tok), partValue l = v ∧ l.map (·.1) = o := by
  cases p with
  | none => exact ⟨none, rfl, rfl⟩
  | int i t => exact ⟨some (i, t), rfl, rfl⟩
theorem sl_str {X : Cx} : SlR X (fun x lo hi H Q => ∃ z, x = .str z ∧ z.length ≤ sizeLine ∧ Q (.str (cutS z lo hi)) H) := by
  intro pins s σ H x v vl vu lo hi sl Q I rx hs pl pu h
  obtain ⟨z, rfl, hz, q⟩ := h
  obtain ⟨t, rfl⟩ := rx
  obtain ⟨l, rfl, rfl⟩ := part_of pl
  obtain ⟨u, rfl, rfl⟩ := part_of pu
  refine ⟨"str", _, slot_str_getitem.lookup, typeIs_str s z t, ?_⟩
  refine wpAny_getItem_str_slice (l := l) (u := u) (st := none) hs rfl ?_
  unfold sliceMade
  by_cases hw : (slicePicked z l u none).length = z.length
  · rw [if_pos (by simp [hw])]
    refine ⟨.str (cutS z (l.map (·.1)) (u.map (·.1))), H, I, ⟨t, by rw [cutS_whole z l u hw]⟩, q⟩
  · rw [if_neg (by simp [hw])]
    rw [cutS_picked]
    exact ⟨Nat.le_trans (cutS_length _ _ _) hz, .str (cutS z (l.map (·.1)) (u.map (·.1))), H, I.tok _, ⟨_, rfl⟩, q⟩
/-! ### methods of texts -/
end L2
set_option Elab.async false
set_option linter.all false
set_option maxRecDepth 100000
namespace Sw
open PySem L2 XH PyProof.Rows
/-! ### defs that are called from a handler too, and refusals' __init__ -/
structure DxH (hd : Option Value) (P : Program) (w : World) (K : PySem.W.Frag) (mg : Str → Option Value) (base : Heap) (k : Nat) (x : Str) (ps : List Str) (sp : Sp) where
  f : Addr
  fd : FuncData
  ok : FnH hd P w K mg base k f fd ps sp
  m : mg x = some (.ref f)
  q : PySem.W.keepIn K (.ref f) = true
  b : Binds K fd ps []
def DxH.calm {P : Program} {w : World} {K : PySem.W.Frag} {mg : Str → Option Value} {base : Heap} {k : Nat} {x : Str} {ps : List Str} {sp : Sp} (D : DxH none P w K mg base k x ps sp) : Dx P w K mg base CX0 k x ps [] sp :=
  ⟨D.f, D.fd, D.ok.calm, D.m, D.q, D.b, ⟨[], D.b, .nil⟩⟩
structure DxI (P : Program) (w : World) (K : PySem.W.Frag) (mg : Str → Option Value) (base : Heap) (k : Nat) (C : Addr) (ps : List Str) (sp : Sp) where
  f : Addr
  fd : FuncData
  ok : FnOk P w K mg base CX0 k f fd ps sp
  ci : XCi K C f
  b : Binds K fd ps []
section
variable {X : Cx} {k j : Nat} {x : Str} {ps : List Str} {sp : Sp} {p np pos cpos : Pos} {e : Expr} {es : List Expr} {t : TA} {hd : Option Value} {C : Addr} {E : L2.St → XK}
theorem pcallH (D : DxH hd X.prog X.w X.K X.mg X.base k x ps sp) (hr : RoomH hd j X.A) (hk : k ≤ j) (hg : Gl X x) (ha : PA X (e :: es) t) (hdb : (x == ("__debug__" : Str)) = false := by decide)
    (he : starEach (e :: es) X.env = (false, eval e X.env) :: starEach es X.env := by rfl) (hpl : (backTo pos (starEach es X.env)).any (·.1) = false := by rfl) :
    PE X (.Call (.Name x p) (e :: es) [] pos) (tCall sp [] E0 t) :=
  pe_callH D.ok (hr.mono hk) hg D.m D.q D.b .nil ha hdb he hpl
theorem praiseI (D : DxI X.prog X.w X.K X.mg X.base k C ps sp) (hr : Room j X.A) (hk : k + 1 ≤ j) (hg : Gl X x) (hm : X.mg x = some (.ref C)) (hc : X.calm = true) (hp : PassX X E) (ha : PA X (e :: es) t) (hdb : (x == ("__debug__" : Str)) = false := by decide)
    (he : starEach (e :: es) X.env = (false, eval e X.env) :: starEach es X.env := by rfl) (hpl : (backTo cpos (starEach es X.env)).any (·.1) = false := by rfl) :
    PS X (.Raise (some (.Call (.Name x np) (e :: es) [] cpos)) none pos) (tRaiseI C sp E t) :=
  ps_raiseI D.ci D.ok (hr.mono hk) hg hm D.b hc hp ha hdb he hpl
end
theorem FunD.okH {hd : Option Value} {P : Program} {w : World} {K : PySem.W.Frag} {mg : Str → Option Value} {base : Heap} {x qual : Str} {st : Stmt} {dV : Value} {f : Addr} {fd : FuncData} {N ps : List Str} {k : Nat} {sp : Sp} (F : FunD K x qual st dV f fd) (S : FnScope N ps (defScope st)) (len : ∀ vs H Q E, sp vs H Q E → vs.length = ps.length)
    (hbody : ∀ (cdv : Value) (A : Around) (outer : List Env) (s : Shared) (H : Hp) (vs : List V) (Q : VK) (E : XK), RoomH hd k (A.deeper (envOfC qual (defScope st) s.heap.objs.size f cdv)) → sp vs H Q E →
      ∃ t, PSs (cxH hd P w K mg base N qual (defScope st) f cdv A outer s H E) (defBody st) t ∧ t { nx := fun _ H' => Q .non H', rt := Q } (start N vs) H) : FnH hd P w K mg base (k + 1) f fd ps sp := by
  obtain ⟨oc, od, kV, doc, pm, an, cdv, ct, osl, rfl, lk, hcd⟩ := F.ex
  exact fn_ofH lk hcd S len fun A outer s H vs Q E hr hsp => hbody cdv A outer s H vs Q E hr hsp
theorem sUpd {H H' : Hp} {p : Addr} (g : Same H H') (h : H p = none) (o : HO) : Same H (upd H' p o) := fun b u q => by
  rw [upd_ne (ne_of_none q h)]
  exact g b u q
/-! ### the sixteen refusals -/
section
variable {K : PySem.W.Frag} {cs : List Addr} {S C D : Addr} {i j : Nat}
end
def spInit (C : Addr) (f : Str) : Sp := fun vs H Q _ => ∃ a y n, vs = [.ref a, y] ∧ H a = some (excB n a (.ref C) none) ∧ ∀ d, H d = none → Q .non (L2.upd (L2.upd H d (.xd [(f, y)])) a (excB n a (.ref C) (some d)))
theorem init_of {H : Hp} {Q : VK} {a C : Addr} {f : Str} {y : V} (na : H a = none) (h : ∀ d H2, Same H H2 → H2 a = some (excB true a (.ref C) (some d)) → H2 d = some (.xd [(f, y)]) → d ≠ a → Same H (del H2 a) → del H2 a d = some (.xd [(f, y)]) → Q .non H2) {E : XK} :
    spInit C f [.ref a, y] (L2.upd H a (excB true a (.ref C) none)) Q E := by
  refine ⟨a, y, true, rfl, upd_same, fun d hd => ?_⟩
  have ne : d ≠ a := by
    intro z
    rw [z, upd_same] at hd
    cases hd
  have nd : H d = none := by rwa [upd_ne ne] at hd
  have g : Same H (L2.upd (L2.upd (L2.upd H a (excB true a (.ref C) none)) d (.xd [(f, y)])) a (excB true a (.ref C) (some d))) := sUpd (sUpd (sUpd (fun _ _ q => q) na _) nd _) na _
  have e2 : L2.upd (L2.upd (L2.upd H a (excB true a (.ref C) none)) d (.xd [(f, y)])) a (excB true a (.ref C) (some d)) d = some (.xd [(f, y)]) := by rw [upd_ne ne, upd_same]
  exact h d _ g upd_same e2 ne (fun b o q => by rw [del_ne (ne_of_none q na)]; exact g b o q) (by rw [del_ne ne]; exact e2)
end Sw
set_option Elab.async false
set_option linter.all false
set_option maxRecDepth 100000
namespace Sw
open PySem PySem.NumText
/-! ### the figures of a number -/
/-! ### a number of a text -/
/-! ### a text cut at a sign -/
/-! ### what is read -/
end Sw
set_option Elab.async false
set_option linter.all false
set_option maxRecDepth 100000
namespace L2
open PySem PySem.Spec PyProof.Rows XH
section
variable {X : Cx} {a b e o : Expr} {es : List Expr} {t te to : TE} {ta : TA} {pos apos cpos : Pos} {x y : Str}
/-! ### a text with numbers and texts put in -/
/-! ### int(text), max(list), values of the file's top -/
/-! ### tuples of numbers that are alike -/
theorem op_eqT (hu : X.A.units < cLine) : OpR X (compareOp .Eq) (fun x y H Q => ∃ a b zs, x = .ref a ∧ y = .ref b ∧ SqT X.K H a zs ∧ SqT X.K H b zs ∧ (∀ z ∈ zs, Smp z) ∧ Q (.bl true) H) := by
  intro pins s σ H x y v u Q I rx ry h
  obtain ⟨a, b, zs, rfl, rfl, h1, h2, hs, hq⟩ := h
  cases rx
  cases ry
  obtain ⟨i1, r1, p1, _⟩ := I.tuple h1
  obtain ⟨i2, r2, p2, _⟩ := I.tuple h2
  refine SeqAt.eq_tupleAt (e := fun _ => true) p1 p2 hu (fun j g1 g2 => ?_) ?_
  · exact vals_eqat (A := X.A.in1) (s := s) hs r1 r2 j (by simpa using g1) (by simpa using g2)
  · exact ⟨.bl true, H, I, by show Value.bool _ = Value.bool _; simp [← r1.length, ← r2.length], hq⟩
/-! ### a list walked in a comprehension -/
/-! ### split -/
/-! ### replace: the two texts must be made behind something else -/
end
end L2
set_option Elab.async false
set_option linter.all false
set_option maxRecDepth 100000
namespace Sw
open PySem L2 XH PySem.NumText
/-! ### texts and their signs -/
/-! ### a text split at a sign -/
/-! ### promises -/
end Sw
namespace Sw
open PySem L2 XH PySem.NumText
end Sw
namespace Sw
open PySem L2 XH PySem.NumText
end Sw
namespace Sw
open PySem L2 XH PySem.NumText
end Sw
namespace Sw
open PySem L2 XH PySem.NumText
theorem atI_in {xs : List V} {i : Int} (h0 : 0 ≤ i) (h : i < (xs.length : Int)) : ∃ v ∈ xs, atI xs i = some v := by
  have hk : i.toNat < xs.length := by omega
  have ek : i = ((i.toNat : Nat) : Int) := by omega
  refine ⟨xs[i.toNat], List.getElem_mem hk, ?_⟩
  have q : atI xs ((i.toNat : Nat) : Int) = some xs[i.toNat] := atI_nat (List.getElem?_eq_getElem hk)
  rw [← ek] at q
  exact q
theorem atI_inN {xs : List Nat} {i : Int} (h0 : 0 ≤ i) (h : i < (xs.length : Int)) : ∃ v, atI xs i = some v := by
  have hk : i.toNat < xs.length := by omega
  have ek : i = ((i.toNat : Nat) : Int) := by omega
  refine ⟨xs[i.toNat], ?_⟩
  have q : atI xs ((i.toNat : Nat) : Int) = some xs[i.toNat] := atI_nat (List.getElem?_eq_getElem hk)
  rw [← ek] at q
  exact q
end Sw
namespace Sw
open PySem L2 XH PySem.NumText
end Sw
set_option Elab.async false
set_option linter.all false
set_option maxRecDepth 100000
namespace L2
open PySem PySem.Spec PyProof.Rows XH
/-! ### a dict, walked key by key; while it is walked it is known to the object -/
section
variable {X : Cx} {tg : Expr}
end
end L2
set_option Elab.async false
set_option linter.all false
set_option maxRecDepth 100000
namespace L2
open PySem PySem.Spec PyProof.Rows XH
/-! ### list comprehensions with one test -/
section
variable {prog : Program} {w : World} {A : Around} {R : Result → Shared → Prop} {s : Shared}
end
section
variable {X : Cx} {scope : Scope} {cl : List (Str × Addr)} {own : Str} {ys : List Str} {js : List Nat} {elt iter cond : Expr} {px pos : Pos} {wi : TI} {te : TE} {tc : TT}
end
end L2
set_option Elab.async false
set_option linter.all false
set_option maxRecDepth 100000
namespace L2
open PySem PySem.Spec PyProof.Rows XH
/-! ### setdefault -/
section
variable {X : Cx}
end
/-! ### dicts that are alike -/
section
variable {prog : Program} {w : World} {κ : Type} [DecidableEq κ] {knd : KeyKind prog w κ} {A : Around} {E : Value → Shared → Prop} {s : Shared}
def LEq (prog : Program) (w : World) (A : Around) (s : Shared) (v y : Value) : Prop := ∀ (E : Value → Shared → Prop) (Q : Bool → Shared → Prop), Q true s → wpAny (model prog w) A (eqBool v y) Q E s
theorem same_all {nm : String} {a b : Addr} {ka kb : List (κ × Value)} {Q : Bool → Shared → Prop} (na : (a == sysModules) = false) (nb : (b == sysModules) = false)
    (da : s.heap.DictOf knd a ka) (db : s.heap.DictOf knd b kb) (hl : ka.length = kb.length) (hits : ∀ (i : Nat) (k : κ) (v : Value), ka[i]? = some (k, v) → ∃ y, valueAt kb k = some y ∧ LEq prog w A s v y) (q : Q true s) :
    wpAny (model prog w) A (Builtin.Dict.samePairs nm a b) Q E s := by
  obtain ⟨o1, t1, e1, g1, _, d1, k1, p1, _⟩ := da
  obtain ⟨o2, t2, e2, g2, _, d2, k2, p2, _⟩ := db
  have n1 : ka.length = t1.size := p1.length.symm.trans Array.length_toList
  have n2 : kb.length = t2.size := p2.length.symm.trans Array.length_toList
  have look : ∀ k, findBy knd.is t2 k = valueAt kb k := by
    intro k
    rw [← p2.find k]
    clear n2 p2 k2 d2 g2
    rcases t2 with ⟨l⟩
    simp [findBy]
  have sz : t1.size = t2.size := by rw [← n1, ← n2, hl]
  simp only [Builtin.Dict.samePairs, Builtin.Dict.showsAll, na, nb, Bool.false_eq_true, if_false]
  apply wpAny_bind
  apply wpAny_pure
  apply wpAny_bind
  apply wpAny_pure
  apply wpAny_bind
  apply wpAny_dictEntries g1 d1
  apply wpAny_bind
  apply wpAny_dictEntries g2 d2
  have ns : (t1.size != t2.size) = false := by simp [sz]
  rw [ns]
  apply wpAny_bind
  apply wpAny_dictEpoch g1 d1
  apply wpAny_bind
  rewrite [Std.Legacy.Range.forIn_eq_forIn_range']
  simp only [Nat.sub_zero, Nat.div_one, Nat.add_sub_cancel, Std.Legacy.Range.size]
  apply wpAny_forIn_list _ (fun rest r s' => s' = s ∧ r = (none, ()) ∧ ∃ i, rest = List.range' i (t1.size - i) ∧ i ≤ t1.size)
  case h => exact ⟨rfl, rfl, 0, by simp, Nat.zero_le _⟩
  case fin =>
    rintro r s' ⟨rfl, rfl, _⟩
    exact wpAny_pure q
  case turn =>
    rintro x rest r s' ⟨rfl, rfl, i, er, hi⟩
    have hlt : i < t1.size := by
      apply Nat.lt_of_not_le
      intro c
      rw [Nat.sub_eq_zero_of_le c] at er
      simp at er
    have one : t1.size - i = (t1.size - (i + 1)) + 1 := by omega
    rw [one, List.range'_succ] at er
    injection er with ex erest
    subst ex
    apply wpAny_bind
    apply wpAny_dictEntries g1 d1
    rw [Array.getElem?_eq_getElem hlt]
    have hlk : x < ka.length := by rw [n1]; exact hlt
    have hat : ka[x]? = some (ka[x].1, ka[x].2) := List.getElem?_eq_getElem hlk
    obtain ⟨y, hy, le⟩ := hits x _ _ hat
    obtain ⟨ky, vy⟩ := p1.get? (i := x) (e := t1[x]) (by rw [Array.getElem?_toList]; exact Array.getElem?_eq_getElem hlt) hat
    obtain ⟨k', hk', hh⟩ := k1 t1[x] (Array.getElem_mem hlt)
    rw [knd.inj _ _ _ hk' ky] at hh
    show wpAny _ _ (holding [t1[x].key, t1[x].val] _ >>= _) _ _ _
    rw [hh]
    apply wpAny_bind
    apply wpAny_holding
    apply wpAny_bind
    apply wpAny_dictFind_of ky g2 d2 k2
    have fnd := look ka[x].1
    rw [hy, findBy_of_findIdx?] at fnd
    cases hj : t2.findIdx? fun e => knd.is ka[x].1 e.key with
    | none => rw [hj] at fnd; cases fnd
    | some j =>
      obtain ⟨jlt, _⟩ := Array.findIdx?_eq_some_iff_getElem.mp hj
      rw [hj] at fnd
      have ev : t2[j].val = y := by simpa [Array.getElem?_eq_getElem jlt] using fnd
      apply wpAny_bind
      apply wpAny_dictEntries g2 d2
      rw [Array.getElem?_eq_getElem jlt]
      apply wpAny_holding
      rw [ev, vy]
      apply le
      apply wpAny_bind
      apply wpAny_dictEpoch g1 d1
      rw [if_neg (by simp)]
      exact wpAny_pure ⟨rfl, rfl, x + 1, erest, hlt⟩
theorem dict_eq {c d : Addr} {ka kb : List (κ × Value)} {Q : Value → Shared → Prop} (na : (c == sysModules) = false) (nb : (d == sysModules) = false) (da : s.heap.DictOf knd c ka) (db : s.heap.DictOf knd d kb) (hu : A.units < cLine)
    (hl : ka.length = kb.length) (hits : ∀ (i : Nat) (k : κ) (v : Value), ka[i]? = some (k, v) → ∃ y, valueAt kb k = some y ∧ LEq prog w A.in1 s v y) (q : Q (.bool true) s) : wpAny (model prog w) A (compareOp .Eq (.ref c) (.ref d)) Q E s := by
  apply wpAny_richCompare_same_room (op := .Eq) da.typeIs db.typeIs PySem.F.slot_dict_eq ?_ hu
  apply wpAny_call_entry PySem.F.slot_dict_eq da.typeIs PySem.F.entry_dict_eq ?_ (PySem.F.args_dict_eq_2 _ _)
  show wpAny _ _ (Builtin.Dict.dictSlotArgs "__eq__" ⟨[.ref c, .ref d], []⟩ >>= _) _ _ s
  apply wpAny_bind
  unfold Builtin.Dict.dictSlotArgs
  apply wpAny_bind
  apply wpAny_notOrdered_dict da.typeIs
  show wpAny _ _ (pure (Value.ref c, Value.ref d)) _ _ s
  apply wpAny_pure
  apply wpAny_bind
  apply wpAny_isInstance (T := "dict") db.typeIs PySem.F.sub_dict_dict
  simp only [if_false, Bool.not_true, Bool.false_eq_true]
  apply wpAny_bind
  apply wpAny_pure
  apply wpAny_bind
  apply wpAny_pure
  apply wpAny_bind
  apply same_all na nb da db hl hits
  exact wpAny_pure ⟨_, rfl, (fun z => nomatch z), q⟩
end
end L2
set_option Elab.async false
set_option linter.all false
set_option maxRecDepth 100000
namespace L2
open PySem PySem.Spec PyProof.Rows XH
/-! ### list(reversed(xs)) -/
section
variable {prog : Program} {w : World} {A : Around} {R : Result → Shared → Prop} {s : Shared} {I l S : Addr} {items : Array Value}
end
section
variable {X : Cx} {e : Expr} {te : TE} {p1 p2 pos pos2 : Pos}
end
end L2
set_option Elab.async false
set_option linter.all false
set_option maxRecDepth 100000
namespace L2
open PySem PySem.Spec PyProof.Rows XH
/-! ### set(xs) of texts and numbers that are all unlike -/
section
variable {prog : Program} {w : World} {A : Around} {R : Result → Shared → Prop} {I : Addr} {fp wr : List Addr} {G : Array GenState → Array GenState → Prop} {n : Nat} {P : Nat → Value → Prop} {St : Nat → Shared → Prop}
end
section
variable {prog : Program} {w : World} {A : Around} {E : Value → Shared → Prop} {s : Shared}
end
end L2
namespace L2
open PySem PySem.Spec PyProof.Rows XH
/-! ### len(set(xs)) -/
section
variable {X : Cx} {e : Expr} {te : TE} {p1 p2 pos pos2 : Pos}
end
end L2
set_option Elab.async false
set_option linter.all false
set_option maxRecDepth 100000
namespace L2
open PySem PySem.Spec PyProof.Rows XH
end L2
namespace Sw
open PySem L2
/-! ### what parts lead to -/
/-! ### dicts with one value for all keys -/
/-! ### how many of a list are not yet there -/
/-! ### a list of pairs -/
end Sw
namespace Sw
open PySem L2
def lettT : Str := "abcdefghijklmnopqrstuvwxyz"
theorem lett_at {i : Int} (h0 : 0 ≤ i) (h : i < 26) : ∃ c, atI lettT.cps.toList i = some c := by
  refine atI_inN h0 ?_
  have e : lettT.cps.toList.length = 26 := by decide
  rw [e]
  exact h
end Sw
set_option Elab.async false
set_option linter.all false
set_option maxRecDepth 100000
namespace Sw
open PySem L2
/-! ### parts as a dict of dicts -/
/-! ### as it lies in the heap -/
end Sw
set_option Elab.async false
set_option linter.all false
set_option maxRecDepth 100000
namespace Sw
open PySem L2
/-! ### all that is in a good, each with the one ahead of it -/
end Sw
set_option Elab.async false
set_option linter.all false
set_option maxRecDepth 100000
namespace Sw
open PySem L2
/-! ### a way down, kept from its end -/
end Sw
set_option Elab.async false
set_option linter.all false
set_option maxRecDepth 100000
namespace L2
open PySem PySem.Spec PyProof.Rows XH
section
variable {X : Cx} {scope : Scope} {cl : List (Str × Addr)} {own : Str} {ys : List Str} {js : List Nat} {elt iter cond : Expr} {px pos : Pos} {wi : TI} {te : TE} {tc : TT}
end
end L2
set_option Elab.async false
set_option linter.all false
set_option maxRecDepth 100000
namespace L2
open PySem PySem.Spec PyProof.Rows XH
/-! ### x == [] -/
/-! ### comprehensions with a test that changes nothing -/
end L2
namespace Sw
open PySem L2 PyProof.Rows
/-! ### dicts of dicts that are alike -/
theorem leq_same {prog : Program} {w : World} {A : Around} {s : Shared} (v : Value) : LEq prog w A s v v := fun E Q q => SeqAt.EqAt.same v prog w E Q q
theorem leq_refs {prog : Program} {w : World} {A : Around} {s : Shared} {a b : Addr} (h : a ≠ b → ∀ (E : Value → Shared → Prop) (Q : Value → Shared → Prop), Q (.bool true) s → wpAny (model prog w) A (compareOp .Eq (.ref a) (.ref b)) Q E s) : LEq prog w A s (.ref a) (.ref b) := fun E Q q => by
  by_cases e : a = b
  · subst e
    exact leq_same _ E Q q
  · unfold eqBool
    refine wpAny_holding ?_
    refine wpAny_ite_split (fun hab => absurd (by have := eq_of_beq hab; injection this) e) (fun _ => ?_)
    exact wpAny_bind (h e E _ (wpAny_truthy_bool q))
/-! ### a way down to one of the goals -/
end Sw
set_option Elab.async false
set_option linter.all false
set_option maxRecDepth 100000
namespace Sw
open PySem L2 PyProof.Rows
end Sw
set_option Elab.async false
set_option linter.all false
set_option maxRecDepth 100000
namespace L2
open PySem PySem.Spec PyProof.Rows XH Sw So
end L2
set_option Elab.async false
set_option linter.all false
set_option maxRecDepth 100000
namespace So
open PySem PySem.Spec PyProof.Rows
end So
set_option Elab.async false
set_option linter.all false
set_option maxRecDepth 100000
namespace So
open PySem PyProof.Rows
section
variable {prog : Program} {w : World} {A : Around} {E : Value → Shared → Prop} {s : Shared} {κ : KeyKind} {kd : SortKind}
/-- fewer than 64: one run, counted and filled up by insertion -/
theorem wpS_short (hO : LtS prog w A E s κ kd) {a0 : List Keyed} {st : SortSt} {Q : Unit → SortSt → Prop} (hk : kindOf st = kd) (hf : failedOf st = none) (hp : pendingOf st = #[]) (ha : (arrOf st).toList = a0) (k0 : ∀ x ∈ a0, Kd κ x) (h64 : a0.length < 64)
    (h : ∀ st', (arrOf st').toList.Perm a0 → failedOf st' = none → (arrOf st').toList.Pairwise (Lq κ) → Q () st') : wpS (model prog w) A E s sortRuns' Q st := by
  have sz : (arrOf st).size = a0.length := by rw [← ha]; simp
  have mr : minRun' a0.length a0.length 0 = a0.length := by
    cases n : a0.length with
    | zero => rfl
    | succ m =>
      rw [n] at h64
      rw [minRun'_succ, if_pos h64, Nat.add_zero]
  unfold sortRuns'
  refine wpS_open ?_
  refine wpS_bind (wpS_get ?_)
  dsimp only
  rw [sz]
  change wpS _ _ _ _ (_ >>= _) _ _
  have mr' : (sortPriv% PySem.Builtin.minRun) a0.length a0.length 0 = a0.length := mr
  rw [mr']
  refine wpS_bind (wpS_mono (wpS_forRange (I := fun x c st' => (x = 0 ∧ c = (none, 0) ∧ st' = st) ∨ (c = (none, a0.length) ∧ (arrOf st').toList.Perm a0 ∧ failedOf st' = none ∧ (arrOf st').toList.Pairwise (Lq κ) ∧ (pendingOf st').size ≤ 1))
    (Q := fun c st' => ∃ lo, c = (none, lo) ∧ (arrOf st').toList.Perm a0 ∧ failedOf st' = none ∧ (arrOf st').toList.Pairwise (Lq κ) ∧ (pendingOf st').size ≤ 1) ?s1 ?e1 (.inl ⟨rfl, rfl, rfl⟩)) ?p1)
  case e1 =>
    rintro c st' (⟨h0, rfl, rfl⟩ | ⟨rfl, z⟩)
    · have z0 : a0 = [] := List.eq_nil_of_length_eq_zero (by omega)
      refine ⟨_, rfl, by rw [ha], hf, by rw [ha, z0]; exact List.Pairwise.nil, by rw [hp]; decide⟩
    · exact ⟨_, rfl, z⟩
  case p1 =>
    rintro c st' ⟨lo, rfl, p1, p2, p3, p4⟩
    try dsimp only
    refine wpS_bind (wpS_mono (wpS_forRange (I := fun x c st'' => c = (none, ()) ∧ st'' = st') (Q := fun c st'' => c = (none, ()) ∧ st'' = st') ?s4 (fun _ _ z => z) ⟨rfl, rfl⟩) ?p4)
    case s4 =>
      rintro x c st'' _ hx ⟨rfl, rfl⟩
      refine wpS_bind (wpS_get ?_)
      rw [if_pos p4]
      exact wpS_pure ⟨rfl, rfl⟩
    case p4 =>
      rintro c st'' ⟨rfl, rfl⟩
      exact wpS_pure (h _ p1 p2 p3)
  case s1 =>
    rintro x c st1 _ hx (⟨h0, rfl, rfl⟩ | ⟨rfl, z⟩)
    · try dsimp only
      rw [if_neg (by omega)]
      have e0 : (arrOf st1).toList = [] ++ a0 := by simpa using ha
      refine wpS_bind (wpS_countAt hO (P := []) (R := a0) hk k0 e0 (by omega) fun st3 X3 S3 kp3 e3 s3 p3 l3 => ?_)
      try dsimp only
      have n3 : X3.length + S3.length = a0.length := by rw [← List.length_append]; exact p3.length_eq
      have pe3 : pendingOf st3 = #[] := kp3.pend.trans hp
      by_cases cm : X3.length < a0.length
      · rw [if_pos cm]
        refine wpS_bind (wpS_rule (wpS_bind (wpS_binAt hO (P := []) (D := X3 ++ S3) (S := []) (by rw [List.length_append, n3]; omega) (kp3.kind.trans hk) (fun x hx => k0 x (p3.mem_iff.mp hx)) (by rw [List.append_nil]; exact e3) l3 (by rw [List.length_append]; omega) (by rw [List.take_left]; exact s3) fun st4 X4 kp4 e4 s4 p4 => ?_)))
        simp only [Bool.not_true, Bool.false_eq_true, if_false]
        refine wpS_bind (wpS_get ?_)
        have pe4 : pendingOf st4 = #[] := kp4.pend.trans pe3
        have e4' : (arrOf st4).toList = X4 := by simpa using e4
        split
        · rename_i q
          have q' : (pendingOf st4).back? = some _ := q
          rw [pe4] at q'
          cases q'
        · refine wpS_bind (wpS_modify (wpS_pure (.inr ⟨?_, ?_, ?_, ?_, ?_⟩)))
          · rw [Nat.zero_add, Nat.sub_zero, Nat.min_self]
          · show (arrOf st4).toList.Perm a0
            rw [e4']
            exact p4.trans p3
          · exact kp4.failed.trans (kp3.failed.trans hf)
          · show (arrOf st4).toList.Pairwise (Lq κ)
            rw [e4']
            exact s4
          · show ((pendingOf st4).push _).size ≤ 1
            rw [pe4]
            exact Nat.le_refl 1
      · rw [if_neg cm]
        refine wpS_bind (wpS_get ?_)
        have S0 : S3 = [] := List.eq_nil_of_length_eq_zero (by omega)
        subst S0
        have e3' : (arrOf st3).toList = X3 := by simpa using e3
        split
        · rename_i q
          have q' : (pendingOf st3).back? = some _ := q
          rw [pe3] at q'
          cases q'
        · refine wpS_bind (wpS_modify (wpS_pure (.inr ⟨?_, ?_, ?_, ?_, ?_⟩)))
          · have : X3.length = a0.length := by simpa using n3
            rw [Nat.zero_add, this]
          · show (arrOf st3).toList.Perm a0
            rw [e3']
            simpa using p3
          · exact kp3.failed.trans hf
          · show (arrOf st3).toList.Pairwise (Lq κ)
            rw [e3']
            exact s3
          · show ((pendingOf st3).push _).size ≤ 1
            rw [pe3]
            exact Nat.le_refl 1
    · try dsimp only
      rw [if_pos (Nat.le_refl _)]
      exact wpS_pure ⟨_, rfl, z⟩
end
end So
set_option Elab.async false
set_option linter.all false
set_option maxRecDepth 100000
namespace L2
open PySem PySem.Spec PyProof.Rows XH Sw So
/-- tuples, by the texts that they begin with -/
def tupKind (nm : Addr → Option Str) : PyProof.Rows.KeyKind := { PyProof.Rows.strKind with keyOf := fun v => match v with | .ref a => (nm a).map fun y => y.cps.toList | _ => none }
theorem tup_key {nm : Addr → Option Str} {v : Value} {k : List Nat} (h : (tupKind nm).keyOf v = some k) : ∃ a y, v = .ref a ∧ nm a = some y ∧ k = y.cps.toList := by
  cases v with
  | ref a =>
    cases e : nm a with
    | none =>
      have h' : ((nm a).map fun y => y.cps.toList) = some k := h
      rw [e] at h'
      cases h'
    | some y =>
      have h' : ((nm a).map fun y => y.cps.toList) = some k := h
      rw [e] at h'
      cases h'
      exact ⟨a, y, rfl, e, rfl⟩
  | _ => cases h
section
variable {prog : Program} {w : World} {A : Around} {E : Value → Shared → Prop} {s : Shared}
theorem looks_str (M : Model) (h : Heap) (y : Str) (t : Tok) : PySem.W.Looks M h (typeOf (.str y t)) (.type "str") := PySem.W.Looks.of_pure rfl
end
end L2
set_option Elab.async false
set_option linter.all false
set_option maxRecDepth 100000
namespace L2
open PySem PySem.Spec PyProof.Rows XH Sw So
theorem refs_of : ∀ {as : List Addr} {us : List Value}, Vals (as.map V.ref) us → us = as.map Value.ref
  | [], _, h => by cases h; rfl
  | a :: as, _, h => by
    cases h with
    | cons r rr =>
      have e := refs_of rr
      subst e
      cases r
      rfl
theorem vals_refs : ∀ (as : List Addr), Vals (as.map V.ref) (as.map Value.ref)
  | [] => .nil
  | _ :: as => .cons rfl (vals_refs as)
theorem vals3 {x y z : V} {us : List Value} (h : Vals [x, y, z] us) : ∃ a b c, us = [a, b, c] ∧ RelV x a ∧ RelV y b ∧ RelV z c := by
  cases h with
  | cons r1 h =>
    cases h with
    | cons r2 h =>
      cases h with
      | cons r3 h =>
        cases h
        exact ⟨_, _, _, rfl, r1, r2, r3⟩
theorem perm_pull {α β : Type} {g : α → β} {k : β → α} (hk : ∀ a, k (g a) = a) {l : List β} {as : List α} (h : l.Perm (as.map g)) : ∃ bs : List α, bs.Perm as ∧ l = bs.map g := by
  refine ⟨l.map k, ?_, ?_⟩
  · have := h.map k
    rw [List.map_map] at this
    have e : as.map (k ∘ g) = as := by
      conv => rhs; rw [← List.map_id as]
      exact List.map_congr_left fun a _ => hk a
    rw [e] at this
    exact this
  · rw [List.map_map]
    conv => lhs; rw [← List.map_id l]
    refine List.map_congr_left fun x hx => ?_
    obtain ⟨a, _, rfl⟩ := List.mem_map.mp (h.mem_iff.mp hx)
    show g a = g (k (g a))
    rw [hk]
theorem zip_self {α β : Type} (g : α → β) : ∀ as : List α, (as.map g).zip (as.map g) = as.map fun a => (g a, g a)
  | [] => rfl
  | a :: as => by
    have := zip_self g as
    simp [this]
/-- a list, collected into one that is laid anew -/
theorem collect_lst {prog : Program} {w : World} {A : Around} {E : Value → Shared → Prop} {s : Shared} {r : Addr} {its : List Value} {n : Nat} {R : List Value → Shared → Prop} (hr : s.heap.get? r = some (seqObj "list" its.toArray n)) (hn : its.length ≤ sizeLine)
    (h : ∀ h' : Heap, s.heap.objs.size < h'.objs.size → (∀ b o, s.heap.get? b = some o → h'.get? b = some o) → R its { s with heap := h' }) : wpAny (model prog w) A (collect (.ref r)) R E s := by
  unfold collect
  refine wpAny_bind (wpAny_runValue (codeAny_builtin entry_proto_collect' ?_))
  rw [Around.under_plainId PySem.F.plain_proto_collect _]
  show wpAny _ A.in1 (newList [] >>= fun l => again (.builtin "list.__iadd__" ⟨[l, .ref r], []⟩)) _ _ s
  refine wpAny_bind (wpAny_newObj_type (wpAny_pure ⟨plainId_quiet PySem.F.plain_list_iadd _, codeAny_builtin entry_list_iadd' ?_⟩))
  rw [Around.under_plainId PySem.F.plain_list_iadd _]
  have fresh : (s.heap.push { cls := .type "list", data := .seq ([] : List Value).toArray }).get? s.heap.objs.size = some { cls := .type "list", data := .seq #[] } := Heap.get?_push_size _ rfl
  show wpAny _ A.in1 (Builtin.List.listExtendWith (.ref s.heap.objs.size) (.ref r) (.ref s.heap.objs.size)) _ _ _
  have key := wpAny_extend_seq (A := A) (s := { s with heap := s.heap.push { cls := .type "list", data := .seq ([] : List Value).toArray } }) (prog := prog) (w := w)
    (R := fun (q : Result) (s' : Shared) => q = .ok (.ret (.ref s.heap.objs.size)) ∧ s' = { s with heap := (s.heap.push { cls := .type "list", data := .seq ([] : List Value).toArray }).update s.heap.objs.size (Obj.mapSeq (· ++ its.toArray)) })
    s.heap.objs.size r (.ref s.heap.objs.size) 0 (.inl rfl) fresh (Heap.get?_push_of_some _ hr) rfl rfl ⟨rfl, rfl⟩ (by simpa using hn)
  have at_ := Heap.get?_update_self (Obj.mapSeq (· ++ its.toArray)) fresh rfl
  have fin : R its { s with heap := (s.heap.push { cls := .type "list", data := .seq ([] : List Value).toArray }).update s.heap.objs.size (Obj.mapSeq (· ++ its.toArray)) } := by
    refine h _ (by rw [Heap.size_update, Heap.size_push]; exact Nat.lt_succ_self _) fun b o e => ?_
    exact (Heap.get?_update_other _ _ (Nat.ne_of_gt (Heap.lt_size e))).trans (Heap.get?_push_of_some _ e)
  have ei : ((#[] : Array Value) ++ its.toArray).toList = its := by simp
  have fin' : R ((#[] : Array Value) ++ its.toArray).toList { s with heap := (s.heap.push { cls := .type "list", data := .seq ([] : List Value).toArray }).update s.heap.objs.size (Obj.mapSeq (· ++ its.toArray)) } := by rw [ei]; exact fin
  refine wpAny_mono key (fun f s' x => ?_) fun e s' x => ?_
  · cases f with
    | done f =>
      obtain ⟨e, rfl⟩ := x
      cases e
      show wpAny _ A (load s.heap.objs.size >>= _) _ _ _
      exact wpAny_bind (wpAny_load at_ (wpAny_pure fin'))
    | again c₁ =>
      refine ⟨x.1, codeAny_mono x.2 fun q s₂ y => ?_⟩
      obtain ⟨rfl, rfl⟩ := y
      show wpAny _ A (load s.heap.objs.size >>= _) _ _ _
      exact wpAny_bind (wpAny_load at_ (wpAny_pure fin'))
  · exact absurd x.1 (by simp)
end L2
set_option Elab.async false
set_option linter.all false
set_option maxRecDepth 100000
namespace L2
open PySem PySem.Spec PyProof.Rows XH Sw So
theorem vals2x {x y : V} {us : List Value} (h : Vals [x, y] us) : ∃ a b, us = [a, b] ∧ RelV x a ∧ RelV y b := by
  cases h with
  | cons r1 h =>
    cases h with
    | cons r2 h =>
      cases h
      exact ⟨_, _, rfl, r1, r2⟩
/-- a tuple of a text and a thing that lies somewhere -/
structure T2 (h : Heap) (a : Addr) (y : Str) (m : Addr) : Prop where
  ex : ∃ (o : Obj) (n : Nat) (t : Tok), h.get? a = some o ∧ o.cls = .type "tuple" ∧ o.data = .seq #[.str y t, .ref m] n
section
variable {prog : Program} {w : World} {A : Around} {E : Value → Shared → Prop} {s : Shared}
theorem lts_two {nm : Addr → Option Str} (inj : ∀ a b y, nm a = some y → nm b = some y → a = b) (tup : ∀ a y, nm a = some y → ∃ m, T2 s.heap a y m) : LtS prog w A E s (tupKind nm) (tuples' true) := by
  intro st x y Q hk hx hy h
  obtain ⟨ka, ha⟩ := hx
  obtain ⟨kb, hb⟩ := hy
  have e1 : kk (tupKind nm) x = ka := by unfold kk; rw [ha]; rfl
  have e2 : kk (tupKind nm) y = kb := by unfold kk; rw [hb]; rfl
  rw [e1, e2] at h
  obtain ⟨a, na, xa, ea, rfl⟩ := tup_key ha
  obtain ⟨b, nb, xb, eb, rfl⟩ := tup_key hb
  obtain ⟨m1, o1, n1, t1, g1, c1, d1⟩ := tup a na ea
  obtain ⟨m2, o2, n2, u1, g2, c2, d2⟩ := tup b nb eb
  rw [lt'_eq]
  refine wpS_bind (wpS_get ?_)
  rw [hk, xa, xb]
  refine wpS_bind (wpS_lift (wpAny_attempt (PySem.W.kat_lt (b := true) g1 d1 g2 d2 ?_)))
  by_cases hab : a = b
  · subst hab
    rw [g1] at g2
    cases g2
    rw [d1] at d2
    cases d2
    refine PySem.W.kat_cons (SeqAt.EqAt.same _ _ _ _ _ (PySem.W.kat_yes ?_))
    refine PySem.W.kat_cons (SeqAt.EqAt.same _ _ _ _ _ (PySem.W.kat_yes ?_))
    refine PySem.W.kat_nil ⟨rfl, ?_⟩
    rw [ea] at eb
    cases eb
    have z : (tupKind nm).blt na.cps.toList na.cps.toList = false := (tupKind nm).irrefl _
    rw [z] at h
    exact wpS_pure h
  · have ne : na ≠ nb := fun z => hab (inj a b na ea (z ▸ eb))
    refine PySem.W.kat_cons ?_
    have q := SeqAt.EqAt.str_str (A := A) (s := s) na t1 nb u1
    rw [show (na == nb) = false from beq_eq_false_iff_ne.mpr ne] at q
    refine q _ _ _ _ (PySem.W.kat_no ?_)
    refine strKind_oneLt prog w A _ s (.str na t1) (.str nb u1) na.cps.toList nb.cps.toList rfl rfl ⟨rfl, ?_⟩
    exact wpS_pure h
theorem kat_twos {h : Heap} : ∀ {vs : List Value}, (∀ v ∈ vs, ∃ x y m, v = .ref x ∧ T2 h x y m) → ∃ fs : List Value, PySem.W.KatTups h vs fs ∧ fs.length = vs.length ∧ ∀ f ∈ fs, ∃ y t, f = .str y t
  | [], _ => ⟨[], trivial, rfl, by simp⟩
  | v :: vs, hv => by
    obtain ⟨fs, k1, k2, k3⟩ := kat_twos (vs := vs) fun u hu => hv u (List.mem_cons_of_mem _ hu)
    obtain ⟨x, y, m, rfl, o, n, t, g, c, d⟩ := hv v (by simp)
    refine ⟨.str y t :: fs, ⟨⟨x, o, _, n, rfl, g, c, d, rfl⟩, k1⟩, by simp [k2], fun f hf => ?_⟩
    rcases List.mem_cons.mp hf with e | e
    · exact ⟨y, t, e⟩
    · exact k3 f e
theorem sort_two {a : Addr} {vs : List Value} {n : Nat} {P : Fin → Shared → Prop} {nm : Addr → Option Str} (ho : s.heap.get? a = some (seqObj "list" vs.toArray n)) (inj : ∀ a b y, nm a = some y → nm b = some y → a = b)
    (keys : ∀ v ∈ vs, ∃ x y, v = .ref x ∧ nm x = some y) (tup : ∀ x y, nm x = some y → ∃ m, T2 s.heap x y m) (nd : vs.Nodup) (hz : vs.length ≤ sizeLine) (h64 : vs.length < 64)
    (h : ∀ st' : SortSt, (arrOf st').toList.Perm (pairsOf vs).toList → (arrOf st').toList.Pairwise (Lq (tupKind nm)) → P (.done (.ret .none)) { s with heap := sortedHeap s.heap a vs ((arrOf st').map (·.2)) }) :
    wpAny (model prog w) A (Builtin.«list.sort» ⟨[.ref a], []⟩) P E s := by
  rw [list_sort_plain]
  have ha : a < s.heap.objs.size := Heap.lt_size ho
  refine wpAny_bind (listItems_at ho rfl ?_)
  refine wpAny_bind (listUpdate_at ho rfl ?_)
  obtain ⟨e1, ho1⟩ : ∃ e1, (s.heap.update a (Obj.mapSeq fun _ => #[])).get? a = some (seqObj "list" #[] e1) := ⟨_, get?_update_seq ho (fun _ => #[])⟩
  refine wpAny_bind (seqEpoch_at ho1 rfl (wpAny_bind (wpAny_newTuple (wpAny_bind (wpAny_newList (wpAny_holding ?_))))))
  have ho6 : (((s.heap.update a (Obj.mapSeq fun _ => #[])).push (seqObj "tuple" vs.toArray 0)).push (seqObj "list" #[] 0)).get? a = some (seqObj "list" #[] e1) := by
    rw [Heap.get?_push_ne _ _ _ (by rw [size_push', Heap.size_update]; exact Nat.ne_of_lt (Nat.lt_succ_of_lt ha)), Heap.get?_push_ne _ _ _ (by rw [Heap.size_update]; exact Nat.ne_of_lt ha)]
    exact ho1
  have old : ∀ {b : Addr} {o : Obj}, b ≠ a → s.heap.get? b = some o → (((s.heap.update a (Obj.mapSeq fun _ => #[])).push (seqObj "tuple" vs.toArray 0)).push (seqObj "list" #[] 0)).get? b = some o := fun {b o} hb e => by
    have bl := Heap.lt_size e
    rw [Heap.get?_push_ne _ _ _ (by rw [size_push', Heap.size_update]; exact Nat.ne_of_lt (Nat.lt_succ_of_lt bl)), Heap.get?_push_ne _ _ _ (by rw [Heap.size_update]; exact Nat.ne_of_lt bl), Heap.get?_update_other _ _ (Ne.symm hb)]
    exact e
  show wpAny (model prog w) A _ P E { s with heap := ((s.heap.update a (Obj.mapSeq fun _ => #[])).push (seqObj "tuple" vs.toArray 0)).push (seqObj "list" #[] 0) }
  dsimp only
  have tna : ∀ {x : Addr} {y : Str} {m : Addr}, T2 s.heap x y m → x ≠ a := fun {x y m} t z => by
    obtain ⟨o, n', t1, g, c, d⟩ := t.ex
    rw [z, ho] at g
    cases g
    have c' : ("list" : String) = "tuple" := by injection c
    exact absurd c' (by decide)
  have fin : ∀ st' : SortSt, (arrOf st').toList.Perm (pairsOf vs).toList → failedOf st' = none → (arrOf st').toList.Pairwise (Lq (tupKind nm)) → P (.done (.ret .none)) { s with heap := sortedHeap s.heap a vs ((arrOf st').map (·.2)) } ∧ ((arrOf st').map (·.2)).size ≤ sizeLine + 1 := fun st' hp hf hs => by
    refine ⟨h st' hp hs, ?_⟩
    have := hp.length_eq
    rw [Array.size_map]
    have e : (pairsOf vs).toList.length = vs.length := by rw [pairsOf_toList]; simp
    rw [e, Array.length_toList] at this
    omega
  by_cases h2 : vs.toArray.size < 2
  · rw [if_pos h2, if_pos h2]
    refine wpAny_bind (wpAny_pure ?_)
    have st0 := fin (SortSt.mk' general' (vs.toArray.zip vs.toArray) #[] 7 none) (List.Perm.refl _) rfl (by
      have : (pairsOf vs).toList.length < 2 := by rw [pairsOf_toList]; simp at h2 ⊢; exact h2
      match e : (pairsOf vs).toList, this with
      | [], _ => exact List.Pairwise.nil
      | [x], _ => exact List.pairwise_singleton _ _
      | _ :: _ :: _, l => simp at l; omega)
    refine wpAny_bind (wpAny_pure ?_)
    dsimp only
    refine wpAny_bind (seqEpoch_at ho6 rfl ?_)
    refine wpAny_bind (listUpdate_at ho6 rfl ?_ (hsz2 := st0.2))
    simp only [bne_self_eq_false, Bool.false_eq_true, if_false]
    exact wpAny_pure st0.1
  · rw [if_neg h2, if_neg h2]
    have tup6 : ∀ x y, nm x = some y → ∃ m, T2 (((s.heap.update a (Obj.mapSeq fun _ => #[])).push (seqObj "tuple" vs.toArray 0)).push (seqObj "list" #[] 0)) x y m := fun x y hx => by
      obtain ⟨m, t⟩ := tup x y hx
      have na := tna t
      obtain ⟨o, n', t1, g, c, d⟩ := t.ex
      exact ⟨m, o, n', t1, old na g, c, d⟩
    obtain ⟨fs, kt, kl, kf⟩ := kat_twos (h := ((s.heap.update a (Obj.mapSeq fun _ => #[])).push (seqObj "tuple" vs.toArray 0)).push (seqObj "list" #[] 0)) (vs := vs) fun v hv => by
      obtain ⟨x, y, rfl, hx⟩ := keys v hv
      obtain ⟨m, t⟩ := tup6 x y hx
      exact ⟨x, y, m, rfl, t⟩
    have l2 : 2 ≤ vs.length := by simpa using h2
    refine wpAny_bind (PySem.W.kat_kind (T := .type "str") kt (by omega) (fun v hv => by obtain ⟨y, t, rfl⟩ := kf v hv; exact looks_str _ _ _ _) rfl ?_)
    refine wpAny_bind (wpAny_mono (wpS_short (κ := tupKind nm) (kd := tuples' true) (lts_two inj tup6) (a0 := (pairsOf vs).toList) (st := SortSt.mk' (tuples' true) (vs.toArray.zip vs.toArray) #[] 7 none)
      (Q := fun _ st' => (arrOf st').toList.Perm (pairsOf vs).toList ∧ failedOf st' = none ∧ (arrOf st').toList.Pairwise (Lq (tupKind nm)))
      rfl rfl rfl rfl (fun x hx => ?_) (by rw [pairsOf_toList]; simpa using h64) fun st' pr fl sr => ⟨pr, fl, sr⟩) ?_ fun _ _ e => e)
    · rw [pairsOf_toList] at hx
      have hm : x.1 ∈ vs := (List.of_mem_zip hx).1
      obtain ⟨z, y, e, hy⟩ := keys _ hm
      refine ⟨y.cps.toList, ?_⟩
      rw [e]
      show ((nm z).map fun y => y.cps.toList) = _
      rw [hy]
      rfl
    rintro ⟨⟨⟩, st'⟩ s' ⟨rfl, hp, hf, hs⟩
    have f := fin st' hp hf hs
    dsimp only
    refine wpAny_bind (seqEpoch_at ho6 rfl ?_)
    refine wpAny_bind (listUpdate_at ho6 rfl ?_ (hsz2 := f.2))
    rw [hf]
    simp only [bne_self_eq_false, Bool.false_eq_true, if_false]
    exact wpAny_pure f.1
end
/-- sorted(l): tuples of a text and two numbers, the texts unlike -/
theorem call_sortTwo {X : Cx} : CallR X (.builtin "sorted") (fun xs H Q => ∃ (l : Addr) (as : List Addr) (f : Addr → Str), xs = [.ref l] ∧ H l = some (.lst (as.map V.ref)) ∧ (∀ a ∈ as, ∃ m : Addr, H a = some (.tup [.str (f a), .ref m])) ∧ (as.map f).Nodup ∧ as.length < 64 ∧
    ∀ (p : Addr) (bs : List Addr), H p = none → bs.Perm as → sortedS (bs.map f) = true → Q (.ref p) (upd H p (.lst (bs.map V.ref)))) := by
  intro pins s σ H xs us Q I r h
  obtain ⟨l, as, f, rfl, hl, ht, nd, h64, q⟩ := h
  obtain ⟨u, rfl, ru⟩ := vals1 r
  cases ru
  obtain ⟨z, its, n, rv, hlen, hg⟩ := I.lstM hl
  have ei := refs_of rv
  subst ei
  have z' : as.length ≤ sizeLine := by simpa using z
  refine Calls.call_function_entry kind_sorted plain_sorted entry_sorted (args_sorted1 _) ?_
  unfold Builtin.«sorted»
  refine wpAny_bind (m := checkCount "sorted" 1 1 _) (wpAny_pure ?_)
  refine wpAny_bind (collect_lst hg (by simpa using z') fun h' hlt hk => ?_)
  refine wpAny_bind (wpAny_newList ?_ (by simpa using z'))
  have hoL : (h'.push (seqObj "list" (as.map Value.ref).toArray 0)).get? h'.objs.size = some (seqObj "list" (as.map Value.ref).toArray 0) := Heap.get?_push_size _ rfl
  have injf : ∀ a ∈ as, ∀ b ∈ as, f a = f b → a = b := fun a ha b hb e => by
    obtain ⟨i, hi⟩ := List.mem_iff_getElem?.mp ha
    obtain ⟨j, hj⟩ := List.mem_iff_getElem?.mp hb
    have il := (List.getElem?_eq_some_iff.mp hi).1
    have jl := (List.getElem?_eq_some_iff.mp hj).1
    have e1 : (as.map f)[i]? = some (f a) := by rw [List.getElem?_map, hi]; rfl
    have e2 : (as.map f)[j]? = some (f a) := by rw [List.getElem?_map, hj, e]; rfl
    have ij := (List.getElem?_inj (by rw [List.length_map]; exact il) nd).mp (e1.trans e2.symm)
    rw [ij, hj] at hi
    exact (Option.some.inj hi).symm
  have nda : as.Nodup := (List.pairwise_map.mp nd).imp fun h e => h (by rw [e])
  have ndv : (as.map Value.ref).Nodup := List.pairwise_map.mpr (nda.imp fun h e => h (by injection e))
  let nm : Addr → Option Str := fun a => if a ∈ as then some (f a) else none
  have nm_of : ∀ {a : Addr} {y : Str}, nm a = some y → a ∈ as ∧ f a = y := fun {a y} e => by
    by_cases m : a ∈ as
    · have e' : (if a ∈ as then some (f a) else none) = some y := e
      rw [if_pos m] at e'
      exact ⟨m, Option.some.inj e'⟩
    · have e' : (if a ∈ as then some (f a) else none) = some y := e
      rw [if_neg m] at e'
      cases e'
  have nm_in : ∀ {a : Addr}, a ∈ as → nm a = some (f a) := fun {a} m => by
    show (if a ∈ as then some (f a) else none) = _
    rw [if_pos m]
  have inj : ∀ a b y, nm a = some y → nm b = some y → a = b := fun a b y h1 h2 => injf a (nm_of h1).1 b (nm_of h2).1 ((nm_of h1).2.trans (nm_of h2).2.symm)
  have tup : ∀ x y, nm x = some y → ∃ m, T2 (h'.push (seqObj "list" (as.map Value.ref).toArray 0)) x y m := fun x y hx => by
    obtain ⟨m, e⟩ := ht x (nm_of hx).1
    rw [(nm_of hx).2] at e
    obtain ⟨its, rv, ⟨o, e1, c1, n1, d1⟩, _⟩ := I.tuple (SqT.of e)
    obtain ⟨a1, a2, rfl, ⟨t1, rfl⟩, e2⟩ := vals2x rv
    cases e2
    exact ⟨m, o, n1, t1, Heap.get?_push_of_some _ (hk _ _ e1), c1, d1⟩
  refine wpAny_bind (wpAny_holding (wpAny_call_entry slot_list_sort ⟨_, hoL, rfl⟩ entry_list_sort (sort_two (nm := nm) hoL inj (fun v hv => ?_) tup ndv (by simpa using z') (by simpa using h64) fun st' hp hs => ⟨_, rfl, ?_⟩) (args_list_sort _)))
  · obtain ⟨a, ha, rfl⟩ := List.mem_map.mp hv
    exact ⟨a, f a, rfl, nm_in ha⟩
  have ez : (pairsOf (as.map Value.ref)).toList = as.map (fun a => ((.ref a : Value), (.ref a : Value))) := by
    rw [pairsOf_toList]
    exact zip_self Value.ref as
  rw [ez] at hp
  obtain ⟨bs, hb, eb⟩ := perm_pull (k := fun p : Keyed => match p.1 with | .ref a => a | _ => 0) (fun a => rfl) hp
  have so : sortedS (bs.map f) = true := by
    refine sortedS_of_pairwise _ (List.pairwise_map.mpr ?_)
    rw [eb, List.pairwise_map] at hs
    refine List.Pairwise.imp_of_mem (fun {a b} ha hb' hab => ?_) hs
    have ma := hb.mem_iff.mp ha
    have mb := hb.mem_iff.mp hb'
    have k1 : kk (tupKind nm) ((.ref a : Value), (.ref a : Value)) = (f a).cps.toList := by
      show (((nm a).map fun y => y.cps.toList).getD _) = _
      rw [nm_in ma]
      rfl
    have k2 : kk (tupKind nm) ((.ref b : Value), (.ref b : Value)) = (f b).cps.toList := by
      show (((nm b).map fun y => y.cps.toList).getD _) = _
      rw [nm_in mb]
      rfl
    have hab' : (tupKind nm).blt (kk (tupKind nm) ((.ref b : Value), (.ref b : Value))) (kk (tupKind nm) ((.ref a : Value), (.ref a : Value))) = false := hab
    rw [k1, k2] at hab'
    rw [ltCps_eq]
    exact hab'
  have eo : ((arrOf st').map (·.2)) = (bs.map Value.ref).toArray := by
    apply Array.toList_inj.mp
    rw [Array.toList_map, eb, List.map_map]
    simp
  have sl : s.heap.objs.size ≤ h'.objs.size := Nat.le_of_lt hlt
  refine wpAny_pure ⟨_, rfl, .ref h'.objs.size, _, I.laid (a := h'.objs.size) (o := .lst (bs.map V.ref)) (h' := sortedHeap (h'.push (seqObj "list" (as.map Value.ref).toArray 0)) h'.objs.size (as.map Value.ref) ((arrOf st').map (·.2))) (t' := s.toks) (fun b o eo => ?_) sl ?_, rfl, q _ bs (I.hok.fresh sl) hb so⟩
  · have eo' := hk b o eo
    have bl := Heap.lt_size eo'
    rw [sortedHeap_old (Nat.ne_of_lt bl) (by rw [size_push']; exact Nat.lt_succ_of_lt bl)]
    exact Heap.get?_push_of_some _ eo'
  · obtain ⟨e, he⟩ := sortedHeap_at (out := (arrOf st').map (·.2)) hoL
    refine ⟨by rw [List.length_map, hb.length_eq]; exact z', bs.map Value.ref, e, vals_refs bs, ?_⟩
    rw [← eo]
    exact he
end L2
set_option Elab.async false
set_option linter.all false
set_option maxRecDepth 100000
namespace Sw
open PySem L2 XH
/-! ### own classes: their defs as callers see them -/
section
variable {X : Cx} {k j : Nat} {f C : Addr} {ps : List Str} {sp : Sp} {dvs : List V} {x m : Str} {p pos apos : Pos} {e o : Expr} {es : List Expr} {ta tb : TE} {t : TA}
end
end Sw
set_option Elab.async false
set_option linter.all false
set_option maxRecDepth 100000
namespace Sw
open PySem L2 XH
/-! ### packs -/
structure PackOk (p q p2 q2 a0 b0 n l m : Int) : Prop where
  nn : 0 ≤ n
  lo : 0 ≤ n * (p2 * q * b0) - (p * b0 - a0 * q) * q2
  hi : 0 < n → n * (p2 * q * b0) - (p * b0 - a0 * q) * q2 < p2 * q * b0
  low : Low l m
  same : l * (q * q2 * b0) = (n * (p2 * q * b0) - (p * b0 - a0 * q) * q2) * m
  bn : Bd 2200 n
  bl : Bd 4300 l
  bm : Bd 4300 m
def Have (K : PySem.W.Frag) (H : Hp) (hv : V) (a0 b0 : Int) : Prop := (hv = .non ∧ a0 = 0 ∧ b0 = 1) ∨ ∃ t3, hv = .ref t3 ∧ FrIn K 700 H t3 a0 b0
/-- a new pair of a number and a fraction -/
def PackPair (H : Hp) (Q : VK) (n l m : Int) : Prop := ∀ (tl tt : Addr) (H' : Hp), Same H H' → H' tl = some (.tup [.int l, .int m]) → H' tt = some (.tup [.int n, .ref tl]) → Q (.ref tt) H'
def spPackX (K : PySem.W.Frag) (c : Addr) : Sp := fun vs H Q E => ∃ (t1 t2 : Addr) (hv : V) (p q p2 q2 a0 b0 : Int), vs = [.ref t1, .ref t2, hv] ∧ FrIn K 700 H t1 p q ∧ FrIn K 700 H t2 p2 q2 ∧ Have K H hv a0 b0 ∧
  (0 < p2 → ∀ n l m : Int, PackOk p q p2 q2 a0 b0 n l m → PackPair H Q n l m) ∧ (p2 ≤ 0 → E (.ref c) none H)
def spPack (K : PySem.W.Frag) : Sp := fun vs H Q E => ∃ (t1 t2 : Addr) (hv : V) (p q p2 q2 a0 b0 : Int), vs = [.ref t1, .ref t2, hv] ∧ FrIn K 700 H t1 p q ∧ FrIn K 700 H t2 p2 q2 ∧ Have K H hv a0 b0 ∧ 0 < p2 ∧
  ∀ n l m : Int, PackOk p q p2 q2 a0 b0 n l m → PackPair H Q n l m
theorem packX_of {K : PySem.W.Frag} {c : Addr} : ∀ vs H Q E, spPack K vs H Q E → spPackX K c vs H Q E0 := fun vs H Q E ⟨t1, t2, hv, p, q, p2, q2, a0, b0, e, h1, h2, h3, z, k⟩ => ⟨t1, t2, hv, p, q, p2, q2, a0, b0, e, h1, h2, h3, fun _ => k, fun y => absurd y (by omega)⟩
theorem pack_same {p q p2 q2 a0 b0 n u v g h l m : Int} (v0 : 0 < v) (h0 : 0 < h) (e1 : u * (1 * q2) = (n * p2) * v) (e2 : g * (b0 * v) = (a0 * v + u * b0) * h) (e3 : l * (h * q) = (g * q - p * h) * m) :
    l * (q * q2 * b0) = (n * (p2 * q * b0) - (p * b0 - a0 * q) * q2) * m := by
  refine cancel (k := h * v) ?_ (mul_ne h0 v0)
  have e1' : u * q2 = n * p2 * v := by rw [Int.one_mul] at e1; exact e1
  have s1 : l * (q * q2 * b0) * (h * v) = (l * (h * q)) * (q2 * b0 * v) := by grind
  have s2 : (g * q - p * h) * m * (q2 * b0 * v) = m * q2 * (q * (g * (b0 * v)) - p * h * b0 * v) := by grind
  rw [s1, e3, s2, e2]
  have s3 : m * q2 * (q * ((a0 * v + u * b0) * h) - p * h * b0 * v) = m * h * (q * a0 * v * q2 + q * b0 * (u * q2) - p * b0 * v * q2) := by grind
  rw [s3, e1']
  grind
theorem le_of_mul {a b k : Int} (k0 : 0 < k) (h : a * k ≤ b * k) : a ≤ b := Int.le_of_mul_le_mul_right h k0
theorem lt_of_mul {a b k : Int} (k0 : 0 < k) (h : a * k < b * k) : a < b := Int.lt_of_mul_lt_mul_right h (Int.le_of_lt k0)
theorem pack_same0 {p q p2 q2 a0 b0 m1 m2 r s : Int} (e1 : m1 * (q * b0) = (p * b0 - a0 * q) * m2) (m0 : 0 < m2) (e2 : r * (m2 * p2) = (m1 * q2) * s) : r * (p2 * q * b0) = ((p * b0 - a0 * q) * q2) * s := by
  refine cancel (k := m2) ?_ (by omega)
  have s1 : r * (p2 * q * b0) * m2 = (r * (m2 * p2)) * (q * b0) := by grind
  rw [s1, e2]
  have s2 : m1 * q2 * s * (q * b0) = (m1 * (q * b0)) * (q2 * s) := by grind
  rw [s2, e1]
  grind
theorem pack_ok {p q p2 q2 a0 b0 m1 m2 r s u v g h l m : Int} (q0 : 0 < q) (z2 : 0 < p2) (b00 : 0 < b0) (e1 : m1 * (q * b0) = (p * b0 - a0 * q) * m2) (m0 : 0 < m2) (e2 : r * (m2 * p2) = (m1 * q2) * s) (s0 : 0 < s)
    (v0 : 0 < v) (h0 : 0 < h) (e3 : u * (1 * q2) = ((if -((-r).fdiv s) > 0 then -((-r).fdiv s) else 0) * p2) * v) (e4 : g * (b0 * v) = (a0 * v + u * b0) * h) (e5 : l * (h * q) = (g * q - p * h) * m) (lo : Low l m)
    (br : Bd 2199 r) (bl : Bd 4300 l) (bm : Bd 4300 m) : PackOk p q p2 q2 a0 b0 (if -((-r).fdiv s) > 0 then -((-r).fdiv s) else 0) l m := by
  have ub := up_bounds (p := r) s0
  have ubd : Bd 2200 (-((-r).fdiv s)) := ((fdiv_bd br.neg).neg).mono (by decide)
  have es := pack_same0 e1 m0 e2
  have sm := pack_same v0 h0 e3 e4 e5
  generalize -((-r).fdiv s) = U at *
  have P0 : 0 < p2 * q * b0 := Int.mul_pos (Int.mul_pos z2 q0) b00
  have lo1 : (p * b0 - a0 * q) * q2 ≤ U * (p2 * q * b0) := by
    refine le_of_mul s0 ?_
    rw [← es]
    have k := Int.mul_le_mul_of_nonneg_right ub.1 (Int.le_of_lt P0)
    have s1 : U * (p2 * q * b0) * s = U * s * (p2 * q * b0) := by grind
    rw [s1]
    exact k
  have hi1 : (U - 1) * (p2 * q * b0) < (p * b0 - a0 * q) * q2 := by
    refine lt_of_mul s0 ?_
    rw [← es]
    have k := Int.mul_lt_mul_of_pos_right ub.2 P0
    have s1 : (U - 1) * (p2 * q * b0) * s = (U - 1) * s * (p2 * q * b0) := by grind
    rw [s1]
    exact k
  have hs : (U - 1) * (p2 * q * b0) = U * (p2 * q * b0) - p2 * q * b0 := by rw [Int.sub_mul, Int.one_mul]
  by_cases hU : U > 0
  · rw [if_pos hU] at *
    exact ⟨by omega, by omega, fun _ => by omega, lo, sm, ubd, bl, bm⟩
  · rw [if_neg hU] at *
    refine ⟨by omega, ?_, fun z => absurd z (by omega), lo, sm, Bd.zero.mono (by decide), bl, bm⟩
    have k : U * (p2 * q * b0) ≤ 0 := Int.mul_nonpos_of_nonpos_of_nonneg (by omega) (Int.le_of_lt P0)
    rw [Int.zero_mul]
    omega
end Sw
namespace L2
open PySem PySem.Spec PyProof.Rows
end L2
namespace Sw
open PySem L2 XH
theorem fr_zero {p q : Int} (f : Fr p q 0 1) : p = 0 ∧ q = 1 := by
  have h1 := f.bt
  have h2 := f.bb
  have h3 := f.pos
  simp only [Int.natAbs_zero, Int.natAbs_one] at h1 h2
  omega
theorem fr_whole {p q n : Int} (f : Fr p q n 1) : p = n ∧ q = 1 := by
  have h2 := f.bb
  have h3 := f.pos
  have h4 := f.same
  simp only [Int.natAbs_one] at h2
  have e : q = 1 := by omega
  subst e
  rw [Int.mul_one, Int.mul_one] at h4
  exact ⟨h4, rfl⟩
theorem top_pos {p q c d : Int} (h : p * d = c * q) (d0 : 0 < d) (q0 : 0 < q) (z : 0 < c) : 0 < p := by
  have k := Int.mul_pos z q0
  rw [← h] at k
  exact Int.pos_of_mul_pos_left k d0
end Sw
set_option Elab.async false
set_option linter.all false
set_option maxRecDepth 100000
namespace Sw
open PySem L2 XH
/-! ### many needs: tops, bottoms, and how many figures of two a bottom has -/
end Sw
set_option Elab.async false
set_option linter.all false
set_option maxRecDepth 100000
namespace Sw
open PySem L2 XH
theorem take_snoc {α : Type} {l : List α} {i : Nat} {x : α} (h : l[i]? = some x) : l.take (i + 1) = l.take i ++ [x] := by
  rw [List.take_succ, h]
  rfl
end Sw
namespace L2
open PySem PySem.Spec PyProof.Rows
theorem op_ne2T {X : Cx} (hu : X.A.units < cLine) : OpR X (compareOp .NotEq) (fun x y H Q => ∃ a b p q, x = .ref a ∧ y = .ref b ∧ SqT X.K H a [.int p, .int q] ∧ SqT X.K H b [.int p, .int q] ∧ Q (.bl false) H) := by
  intro pins s σ H x y v u Q I rx ry h
  obtain ⟨a, b, p, q, rfl, rfl, h1, h2, hq⟩ := h
  cases rx
  cases ry
  obtain ⟨i1, r1, p1, _⟩ := I.tuple h1
  obtain ⟨i2, r2, p2, _⟩ := I.tuple h2
  obtain ⟨w1, w2, rfl, ⟨t1, rfl⟩, ⟨t2, rfl⟩⟩ := vals2 r1
  obtain ⟨w3, w4, rfl, ⟨t3, rfl⟩, ⟨t4, rfl⟩⟩ := vals2 r2
  refine SeqAt.RcNeAt.tuples (e := fun _ => true) p1 p2 hu ?_ _ _ _ _ ⟨.bl false, H, I, rfl, hq⟩
  intro j hj1 hj2
  match j, hj1, hj2 with
  | 0, _, _ =>
    have z := SeqAt.EqAt.int_int (A := X.A.in1) (s := s) p t1 p t3
    rw [beq_self_eq_true] at z
    exact z
  | 1, _, _ =>
    have z := SeqAt.EqAt.int_int (A := X.A.in1) (s := s) q t2 q t4
    rw [beq_self_eq_true] at z
    exact z
end L2
set_option Elab.async false
set_option linter.all false
set_option maxRecDepth 100000
namespace Sw
open PySem L2 XH
/-! ### steps: their fields -/
/-! ### rounds -/
end Sw
set_option Elab.async false
set_option linter.all false
set_option maxRecDepth 100000
namespace Sw
open PySem L2 XH PyProof.Rows
/-! ### steps with their uses and second ways -/
end Sw
set_option Elab.async false
set_option linter.all false
set_option maxRecDepth 100000
namespace L2
open PySem PySem.Spec PyProof.Rows XH
section
variable {X : Cx}
end
end L2
namespace Sw
open PySem L2 XH PySem.NumText
/-! ### a row's words, sign by sign -/
end Sw
set_option Elab.async false
set_option linter.all false
set_option maxRecDepth 100000
namespace L2
open PySem PySem.Spec PyProof.Rows XH Sw
end L2
namespace Sw
open PySem L2 XH PyProof.Rows
end Sw
set_option Elab.async false
set_option linter.all false
set_option maxRecDepth 100000
namespace Sw
open PySem L2 XH
/-! ### defs of own classes that may refuse -/
section
variable {X : Cx} {k j : Nat} {f C : Addr} {ps : List Str} {sp : Sp} {dvs : List V} {x m : Str} {p pos apos : Pos} {e o : Expr} {es : List Expr} {ta tb : TE} {t : TA} {E : L2.St → XK}
end
end Sw
set_option Elab.async false
set_option linter.all false
set_option maxRecDepth 100000
namespace L2
open PySem PySem.Spec PyProof.Rows XH Sw
theorem vals_refs' {cs : List Addr} {its : List Value} (h : Vals (cs.map V.ref) its) : its = cs.map Value.ref := by
  induction cs generalizing its with
  | nil => cases h; rfl
  | cons c cs ih =>
    cases h with
    | cons r rr => cases r; rw [ih rr]; rfl
/-- isinstance(e, (C, ..)) of a refusal -/
theorem call_isiXt {X : Cx} {K : PySem.W.Frag} (hK : X.K = K) : CallR X (.builtin "isinstance") (fun xs H Q => ∃ (a C : Addr) (dx : Option Addr) (t : Addr) (cs : List Addr) (b : Bool), xs = [.ref a, .ref t] ∧ (∃ n, H a = some (excB n a (.ref C) dx)) ∧ XDict H dx ∧ XI K C ∧ H t = some (.tup (cs.map V.ref)) ∧ PySem.W.kitAny K (.ref C) (cs.map Value.ref) = some b ∧ Q (.bl b) H) := by
  subst hK
  intro pins s σ H xs us Q I r h
  obtain ⟨a, C, dx, t, cs, b, rfl, ⟨n, e⟩, d, xi, et, ka, q⟩ := h
  obtain ⟨u, w', rfl, e1, e2⟩ := vals2 r
  cases e1
  cases e2
  obtain ⟨_, its, hv, ht⟩ := (show ObjOk X.prog X.w H s.heap t (.tup (cs.map V.ref)) from I.hok t _ et)
  rw [vals_refs' hv] at ht
  obtain ⟨⟨oc, od, odt, osl⟩, hg, h1, m, h2⟩ := ht
  cases h1
  cases h2
  exact PySem.W.kia_tup (kitx_exc xi) I.kIn (inst_of I e d) hg ka (fun z => nomatch z) fun tk => ⟨.bl b, H, I.tok tk, rfl, q⟩
/-! ### long lists of constants and small displays -/
section
variable {X : Cx} {es es' : List Expr} {t t' : TA} {p : Pos} 
end
section
variable {X : Cx} {k j : Nat} {f C : Addr} {ps : List Str} {sp : Sp} {dvs : List V} {x m : Str} {p pos apos : Pos} {e o : Expr} {es : List Expr} {ta tb : TE} {t : TA} {E : L2.St → XK}
end
end L2
set_option Elab.async false
set_option linter.all false
set_option maxRecDepth 100000
namespace Sw
open PySem L2 XH PySem.NumText
/-! ### names -/
end Sw
set_option Elab.async false
set_option linter.all false
set_option maxRecDepth 100000
namespace Sw
open PySem L2 XH
/-! ### larders: names refused -/
def spNoL : Sp := fun _ _ _ _ => False
end Sw
set_option Elab.async false
set_option linter.all false
set_option maxRecDepth 100000
namespace Sw
open PySem L2 PyProof.Rows So
end Sw
set_option Elab.async false
set_option linter.all false
set_option maxRecDepth 100000
namespace Sw
open PySem L2 XH PyProof.Rows
end Sw
namespace Sw
open PySem L2 XH PyProof.Rows
end Sw
set_option Elab.async false
set_option linter.all false
set_option maxRecDepth 100000
namespace L2
open PySem PySem.Spec PyProof.Rows XH Sw
/-! ### pairs of texts in a list of such -/
section
variable {X : Cx} {pins : List (Addr × Obj)} {σ : St} {H : Hp} {s : Shared}
end
end L2
set_option Elab.async false
set_option linter.all false
set_option maxRecDepth 100000
namespace L2
open PySem PySem.Spec PyProof.Rows XH
/-! ### set(xs) of texts, alike or unlike: what lies in it, and that it can be walked -/
section
variable {prog : Program} {w : World} {A : Around} {E : Value → Shared → Prop} {s : Shared}
end
end L2
set_option Elab.async false
set_option linter.all false
set_option maxRecDepth 100000
namespace L2
open PySem PySem.Spec PyProof.Rows XH
section
variable {prog : Program} {w : World} {A : Around} {R : Result → Shared → Prop} {I : Addr} {fp wr : List Addr} {G : Array GenState → Array GenState → Prop} {n : Nat} {P : Nat → Value → Prop} {St : Nat → Shared → Prop}
end
section
variable {prog : Program} {w : World} {A : Around} {E : Value → Shared → Prop} {s : Shared}
end
end L2
set_option Elab.async false
set_option linter.all false
set_option maxRecDepth 100000
namespace L2
open PySem PySem.Spec PyProof.Rows XH
/-! ### a set of texts walked -/
section
variable {prog : Program} {w : World} {A : Around} {E : Value → Shared → Prop} {s : Shared}
end
end L2
set_option Elab.async false
set_option linter.all false
set_option maxRecDepth 100000
namespace L2
open PySem PySem.Spec PyProof.Rows XH
section
variable {prog : Program} {w : World} {A : Around} {E : Value → Shared → Prop} {s : Shared}
end
end L2
set_option Elab.async false
set_option linter.all false
set_option maxRecDepth 100000
namespace L2
open PySem PySem.Spec PyProof.Rows XH
section
variable {prog : Program} {w : World} {A : Around} {E : Value → Shared → Prop} {s : Shared}
end
end L2
set_option Elab.async false
set_option linter.all false
set_option maxRecDepth 100000
namespace L2
open PySem PySem.Spec PyProof.Rows XH
section
variable {prog : Program} {w : World} {A : Around} {E : Value → Shared → Prop} {s : Shared}
end
end L2
set_option Elab.async false
set_option linter.all false
set_option maxRecDepth 100000
namespace L2
open PySem PySem.Spec PyProof.Rows XH Sw So
section
variable {prog : Program} {w : World} {A : Around} {E : Value → Shared → Prop} {s : Shared}
end
end L2
set_option Elab.async false
set_option linter.all false
set_option maxRecDepth 100000
namespace L2
open PySem PySem.Spec PyProof.Rows XH Sw So
/-! ### sorted(set(xs)), xs texts -/
section
variable {X : Cx} {e : Expr} {te : TE} {p1 p2 pos pos2 : Pos}
end
end L2
set_option Elab.async false
set_option linter.all false
set_option maxRecDepth 100000
namespace Sw
open PySem L2 XH PyProof.Rows
/-! ### names by letters -/
end Sw
set_option Elab.async false
set_option linter.all false
set_option maxRecDepth 100000
namespace Sw
open PySem L2 XH PyProof.Rows
end Sw
set_option Elab.async false
set_option linter.all false
namespace Hm
/-! ### things of a heap, by their numbers; the order of them -/
/-! ### the heap -/
end Hm
set_option Elab.async false
set_option linter.all false
set_option maxRecDepth 100000
namespace Hm
open PySem PySem.SeqAt PySem.MeetsSeq
/-! ### less than, of tuples of whole numbers -/
section
variable {prog : Program} {w : World} {A : Around} {E : Value → Shared → Prop} {s : Shared}
end
end Hm
set_option Elab.async false
set_option linter.all false
set_option maxRecDepth 100000
namespace Hm
open PySem PySem.SeqAt PySem.MeetsSeq PySem.MeetsSeq3
/-! ### less than, of lists of texts -/
section
variable {prog : Program} {w : World} {A : Around} {E : Value → Shared → Prop} {s : Shared}
end
end Hm
set_option Elab.async false
set_option linter.all false
set_option maxRecDepth 100000
namespace Wo
open PySem Hm So
/-! ### the order of chains -/
def ltS (x y : Str) : Prop := x.cps.toList < y.cps.toList
instance (x y : Str) : Decidable (ltS x y) := inferInstanceAs (Decidable (x.cps.toList < y.cps.toList))
/-! ### chains found round by round -/
end Wo
set_option Elab.async false
set_option linter.all false
set_option maxRecDepth 100000
namespace L2
open PySem PySem.Spec PyProof.Rows XH
/-! ### a dict whose keys are tuples, walked key by key -/
section
variable {prog : Program} {w : World} {A : Around} {E : Value → Shared → Prop} {s : Shared}
end
end L2
namespace L2
open PySem PySem.Spec PyProof.Rows XH
section
variable {X : Cx} {tg : Expr}
end
end L2
set_option Elab.async false
set_option linter.all false
set_option maxRecDepth 100000
namespace L2
open PySem PySem.Spec PyProof.Rows XH Hm
end L2
namespace Sw
open PySem L2 XH Hm Wo So PyProof.Rows
/-! ### stand-ins, as dicts -/
/-! ### all but two stay -/
/-! ### pairs, as a dict of tuples -/
/-- with values chosen -/
theorem val_mem {κ : Type} [DecidableEq κ] : ∀ {kvs : List (κ × V)} {k : κ} {v : V}, valV kvs k = some v → (k, v) ∈ kvs
  | [], _, _, h => by cases h
  | p :: r, k, v, h => by
    by_cases e : p.1 = k
    · rw [valV_pos e] at h
      cases h
      subst e
      exact List.mem_cons_self
    · rw [valV_neg e] at h
      exact List.mem_cons_of_mem _ (val_mem h)
theorem mem_val {κ : Type} [DecidableEq κ] : ∀ {kvs : List (κ × V)} {k : κ} {v : V}, (k, v) ∈ kvs → ∃ w, valV kvs k = some w
  | p :: r, k, v, h => by
    by_cases e : p.1 = k
    · exact ⟨_, valV_pos e⟩
    · rw [valV_neg e]
      rcases List.mem_cons.mp h with z | z
      · subst z
        exact absurd rfl e
      · exact mem_val z
/-! ### the dict of the pairs -/
/-! ### what the law tells of the chains -/
end Sw
set_option Elab.async false
set_option linter.all false
set_option maxRecDepth 100000
namespace L2
open PySem PySem.Spec PyProof.Rows
section
variable {X : Cx} {pins : List (Addr × Obj)} {σ : St} {H : Hp} {s : Shared} {h' : Heap}
end
end L2
set_option Elab.async false
set_option linter.all false
set_option maxRecDepth 100000
namespace L2
open PySem PySem.Spec PyProof.Rows
end L2
set_option Elab.async false
set_option linter.all false
set_option maxRecDepth 100000
namespace L2
open PySem PySem.Spec PyProof.Rows XH
section
variable {X : Cx} {a b c d : Expr} {ta tb tc td : TE} {pos : Pos}
end
/-- dict(d) -/
theorem call_dictD {X : Cx} : CallR X (.type "dict") (fun xs H Q => ∃ (d : Addr) (kvs : List (Key × V)), xs = [.ref d] ∧ H d = some (.dK kvs) ∧ ∀ p, H p = none → Q (.ref p) (upd H p (.dK kvs))) := by
  intro pins s σ H xs us Q I r h
  obtain ⟨d, kvs, rfl, hd, q⟩ := h
  cases r with
  | cons r rr =>
    cases rr
    cases r
    obtain ⟨z, y, vs, rel, D⟩ := dk_of I.hok hd
    refine kt_call_dict y D (by rw [← rel.length]; exact z) fun h' hm hs => ?_
    have kp : ∀ b o, s.heap.get? b = some o → h'.get? b = some o := fun b o e => (hs.2 b (Nat.ne_of_lt (Heap.lt_size e))).trans (Heap.get?_push_of_some _ e)
    have big : (s.heap.objs.size == sysModules) = false := by
      have := I.big
      exact beq_eq_false_iff_ne.mpr (Nat.ne_of_gt this)
    exact ⟨.ref s.heap.objs.size, _, I.laid (o := .dK kvs) (t' := s.toks) kp (Nat.le_refl _) ⟨z, big, vs, rel, hm⟩, rfl, q _ I.fresh⟩
end L2
set_option Elab.async false
set_option linter.all false
set_option maxRecDepth 100000
namespace L2
open PySem PySem.Spec PyProof.Rows XH Sw So Hm
/-! ### things: whole numbers, or tuples of such -/
section
variable {prog : Program} {w : World} {A : Around} {E : Value → Shared → Prop} {s : Shared}
end
end L2
set_option Elab.async false
set_option linter.all false
set_option maxRecDepth 100000
namespace L2
open PySem PySem.Spec PyProof.Rows XH
section
variable {X : Cx} {scope : Scope} {cl : List (Str × Addr)} {own : Str} {ys : List Str} {js : List Nat} {elt iter : Expr} {px pos : Pos} {wi : TI} {te : TE}
end
end L2
set_option Elab.async false
set_option linter.all false
set_option maxRecDepth 100000
namespace L2
open PySem PySem.Spec PyProof.Rows XH Sw So Hm
end L2
namespace Sw
open PySem L2 XH Hm
section
variable {X : Cx} {k j : Nat} {f C : Addr} {ps : List Str} {sp : Sp} {dvs : List V} {x m : Str} {p pos apos : Pos} {e o : Expr} {es : List Expr} {ta tb : TE} {t : TA} {E : L2.St → XK}
end
/-! ### a heap that is kept in a list -/
theorem at_zero {xs : List V} {i : Nat} {v : V} (h : xs[i]? = some v) : atI xs (0 + (i : Int)) = some v := by
  rw [Int.zero_add]
  exact atI_nat h
end Sw
set_option Elab.async false
set_option linter.all false
set_option maxRecDepth 100000
namespace L2
open PySem PySem.Spec PyProof.Rows XH Sw Hm
end L2
namespace Sw
open PySem L2 XH Hm
/-! ### nets and plans: what lies at the addresses -/
def Ref2 {α : Type} (R : Addr → α → Prop) (as : List Addr) (xs : List α) : Prop := as.length = xs.length ∧ ∀ (i : Nat) (a : Addr) (x : α), as[i]? = some a → xs[i]? = some x → R a x
theorem Ref2.imp {α : Type} {R S : Addr → α → Prop} {as : List Addr} {xs : List α} (h : Ref2 R as xs) (f : ∀ a x, R a x → S a x) : Ref2 S as xs := ⟨h.1, fun i a x e1 e2 => f a x (h.2 i a x e1 e2)⟩
theorem Ref2.get {α : Type} {R : Addr → α → Prop} {as : List Addr} {xs : List α} (h : Ref2 R as xs) {i : Nat} {x : α} (e : xs[i]? = some x) : ∃ a, as[i]? = some a ∧ R a x := by
  have il : i < as.length := by rw [h.1]; exact (List.getElem?_eq_some_iff.mp e).1
  exact ⟨_, List.getElem?_eq_getElem il, h.2 i _ x (List.getElem?_eq_getElem il) e⟩
theorem Ref2.nil {α : Type} {R : Addr → α → Prop} : Ref2 R [] ([] : List α) := ⟨rfl, fun i a x e => by simp at e⟩
theorem Ref2.snoc {α : Type} {R : Addr → α → Prop} {as : List Addr} {xs : List α} (h : Ref2 R as xs) {a : Addr} {x : α} (r : R a x) : Ref2 R (as ++ [a]) (xs ++ [x]) := by
  refine ⟨by simp [h.1], fun i b y e1 e2 => ?_⟩
  have il := (List.getElem?_eq_some_iff.mp e1).1
  by_cases c : i < as.length
  · rw [List.getElem?_append_left c] at e1
    rw [List.getElem?_append_left (by rw [← h.1]; exact c)] at e2
    exact h.2 i b y e1 e2
  · have ei : i = as.length := by simp at il; omega
    subst ei
    rw [List.getElem?_append_right (Nat.le_refl _)] at e1
    rw [List.getElem?_append_right (by rw [h.1]; exact Nat.le_refl _), h.1] at e2
    simp at e1 e2
    subst e1 e2
    exact r
end Sw
set_option Elab.async false
set_option linter.all false
set_option maxRecDepth 100000
namespace L2
open PySem PySem.Spec PyProof.Rows XH
theorem boot_dict1 : bootBuiltins "dict" = some (.type "dict") := by kernel_rfl
end L2
namespace Sw
open PySem L2 XH Hm
end Sw
set_option Elab.async false
set_option linter.all false
set_option maxRecDepth 100000
namespace L2
open PySem PySem.Spec PyProof.Rows XH
section
variable {X : Cx} {scope : Scope} {cl : List (Str × Addr)} {os : List Str} {ys : List Str} {js : List Nat} {fp : List Addr} {pins : List (Addr × Obj)} {σ : St} {H : Hp} {s s4 : Shared}
end
section
variable {X : Cx} {scope : Scope} {cl : List (Str × Addr)} {os : List Str} {ys : List Str} {js : List Nat} {elt iter tg : Expr} {px pos : Pos} {wi : TI} {te : TE} {g : TG}
end
end L2

namespace Sw
open PySem L2 XH
end Sw
set_option Elab.async false
set_option linter.all false
set_option maxRecDepth 100000
namespace L2
open PySem PySem.Spec PyProof.Rows XH
section
variable {X : Cx} {scope : Scope} {cl : List (Str × Addr)} {os : List Str} {ys : List Str} {js : List Nat} {elt iter tg : Expr} {px pos : Pos} {wi : TI} {te : TE} {g : TG}
end
end L2
set_option Elab.async false
set_option linter.all false
set_option maxRecDepth 100000
namespace L2
open PySem PySem.Spec PyProof.Rows XH
section
variable {X : Cx}
end
/-! ### things alike, of any depth -/
end L2
namespace Sw
open PySem L2 XH
/-! ### recipes -/
end Sw
set_option Elab.async false
set_option linter.all false
set_option maxRecDepth 100000
namespace L2
open PySem PySem.Spec PyProof.Rows XH Sw So
end L2
namespace Sw
open PySem L2 XH Hm
/-! ### breaches: lists of tuples (text, number) -/
end Sw
namespace L2
open PySem PySem.Spec PyProof.Rows XH Sw Hm
end L2
namespace Sw
open PySem L2 XH Hm
/-! ### plans -/
theorem map_at {α : Type} {f : α → V} {xs : List α} {i : Nat} {x : α} (h : xs[i]? = some x) : (xs.map f)[i]? = some (f x) := by rw [List.getElem?_map, h]; rfl
end Sw
set_option Elab.async false
set_option linter.all false
set_option maxRecDepth 100000
namespace Sw
open PySem L2 XH Hm
/-! ### the law on turns and arcs: what its own defs promise -/
end Sw
set_option Elab.async false
set_option linter.all false
set_option maxRecDepth 100000
namespace L2
open PySem PySem.Spec PyProof.Rows XH Sw Hm
end L2
namespace Sw
open PySem L2 XH Hm
end Sw
set_option Elab.async false
set_option linter.all false
set_option maxRecDepth 100000
namespace L2
open PySem PySem.Spec PyProof.Rows XH Sw Hm
section
variable {X : Cx} {pins : List (Addr × Obj)} {σ : St} {H : Hp} {s : Shared}
end
end L2
set_option Elab.async false
set_option linter.all false
set_option maxRecDepth 100000
namespace L2
open PySem PySem.Spec PyProof.Rows XH Sw Hm
end L2
namespace Sw
open PySem L2 XH Hm
end Sw
set_option Elab.async false
set_option linter.all false
set_option maxRecDepth 100000
namespace L2
open PySem PySem.Spec PyProof.Rows XH Sw Hm
end L2
namespace Sw
open PySem L2 XH Hm
end Sw
set_option Elab.async false
set_option linter.all false
set_option maxRecDepth 100000
namespace Wo
open PySem Hm So
/-! ### how far a name is -/
/-! ### round by round -/
end Wo
set_option Elab.async false
set_option linter.all false
set_option maxRecDepth 100000
namespace L2
open PySem PySem.Spec PyProof.Rows XH Hm Wo
theorem paired_back {α β : Type} {F : α → β → Prop} : ∀ {l : List α} {m : List β}, Paired F l m → ∀ (i : Nat) {b : β}, m[i]? = some b → ∃ a, l[i]? = some a ∧ F a b
  | _, _, .nil, i, b, h => nomatch h
  | _, _, .cons r t, 0, b, h => by cases h; exact ⟨_, rfl, r⟩
  | _, _, .cons r t, i + 1, b, h => paired_back t i (by simpa using h)
theorem kv_keys {κ : Type} : ∀ {kvs : List (κ × V)} {vs : List (κ × Value)}, KV kvs vs → kvs.map (·.1) = vs.map (·.1)
  | _, _, .nil => rfl
  | _, _, .cons r t => by rw [List.map_cons, List.map_cons, r.1, kv_keys t]
end L2
namespace Sw
open PySem L2 XH Hm Wo So PyProof.Rows
/-! ### far: a dict from names to numbers -/
/-! ### ratios along a chain -/
/-! ### for the law itself -/
end Sw
set_option Elab.async false
set_option linter.all false
set_option maxRecDepth 100000
namespace L2
open PySem PySem.Spec PyProof.Rows XH Sw
theorem call_lenJ {X : Cx} : CallR X (.builtin "len") (fun xs H Q => ∃ (a : Addr) (ys : List V), xs = [.ref a] ∧ H a = some (.lst ys) ∧ Q (.int (ys.length : Nat)) H) := by
  intro pins s σ H xs us Q I r h
  obtain ⟨a, ys, rfl, e, q⟩ := h
  exact call_len_seq pins s σ H _ us Q I r ⟨a, ys, rfl, .inl (SqL.of e), q⟩
end L2
namespace Sw
open PySem L2 XH PyProof.Rows
/-! ### names that are unlike -/
theorem lett_ix {i : Int} (h0 : 0 ≤ i) (h : i < 26) : atI lettT.cps.toList i = some (97 + i.toNat) := by
  have key : ∀ n : Nat, n < 26 → lettT.cps.toList[n]? = some (97 + n) := by decide
  have := key i.toNat (by omega)
  have e := atI_nat this
  rwa [Int.toNat_of_nonneg h0] at e
def sgn (c st : Int) (k : Nat) : Nat := 97 + ((c + (0 + (k : Int)) * st).fmod 26).toNat
def NmF (md : Bool) (pre suf : List Nat) (s : Nat) (z : Str) : Prop := if md = true then ∃ x, z.cps.toList = x ++ [s] else z.cps.toList = pre ++ s :: suf
def StepOk (st : Int) : Prop := st = 1 ∨ st = 3 ∨ st = 5 ∨ st = 7 ∨ st = 9 ∨ st = 11 ∨ st = 15 ∨ st = 17
theorem sgn_inj {c st : Int} (hs : StepOk st) {k k' : Nat} (h : k < 14) (h' : k' < 14) (e : sgn c st k = sgn c st k') : k = k' := by
  unfold sgn at e
  rw [Int.fmod_eq_emod_of_nonneg _ (by decide), Int.fmod_eq_emod_of_nonneg _ (by decide)] at e
  rcases hs with rfl | rfl | rfl | rfl | rfl | rfl | rfl | rfl <;> omega
theorem names_nd {zs : List Str} {c st : Int} (hs : StepOk st) {md : Bool} {pre suf : List Nat} (l : zs.length ≤ 14) (h : ∀ k z, zs[k]? = some z → NmF md pre suf (sgn c st k) z) : zs.Nodup := by
  unfold List.Nodup
  rw [List.pairwise_iff_getElem]
  intro i j hi hj ij e
  have h1 := h i _ (List.getElem?_eq_getElem hi)
  have h2 := h j _ (List.getElem?_eq_getElem hj)
  rw [e] at h1
  have : sgn c st i = sgn c st j := by
    unfold NmF at h1 h2
    cases md with
    | true =>
      rw [if_pos rfl] at h1 h2
      obtain ⟨x, h1⟩ := h1
      obtain ⟨y, h2⟩ := h2
      rw [h1] at h2
      have := (List.append_inj' h2 rfl).2
      injection this
    | false =>
      rw [if_neg (by decide)] at h1 h2
      rw [h1] at h2
      have := List.append_cancel_left h2
      injection this
  have := sgn_inj hs (by omega) (by omega) this
  omega
def spNames14 : Sp := fun vs H Q _ => ∃ n m : Int, vs = [.int n, .int m] ∧ m = 14 ∧ ∀ (l : Addr) (H' : Hp) (zs : List Str), Same H H' → H' l = some (.lst (zs.map V.str)) → zs.length = 14 → zs.Nodup → Q (.ref l) H'
theorem cps_app (x y : Str) : (x ++ y).cps.toList = x.cps.toList ++ y.cps.toList := by
  show (x.cps ++ y.cps).toList = _
  simp
/-! ### amounts, and dicts of them -/
structure AmOk (p q : Int) : Prop where
  nn : 0 ≤ p
  low : Low p q
  bp : Bd 150 p
  bq : Bd 150 q
def spDivQ : Sp := fun vs H Q _ => ∃ a b : Int, vs = [.int a, .int b] ∧ 0 < b ∧ Q (.int (gcdI a b)) H
def spAmount : Sp := fun vs H Q _ => ∃ c : Int, vs = [.int c] ∧ ∀ p q : Int, 0 < p → AmOk p q → Pair H Q p q
theorem AmOk.fr {K : PySem.W.Frag} {H : Hp} {t : Addr} {p q : Int} (h : AmOk p q) (e : H t = some (.tup [.int p, .int q])) {n : Nat} (hn : 150 ≤ n := by decide) : FrIn K n H t p q := ⟨SqT.of e, h.low.pos, h.bp.mono hn, h.bq.mono hn⟩
theorem AmOk.zero : AmOk 0 1 := ⟨by decide, ⟨by decide, rfl⟩, Bd.zero.mono (by decide), Bd.one.mono (by decide)⟩
abbrev AmF := Str → Option (Int × Int)
/-- a dict from names to amounts -/
structure DA (H : Hp) (d : Addr) (kvs : List (Key × V)) (g : AmF) : Prop where
  e : H d = some (.dK kvs)
  few : kvs.length ≤ 100
  no : ∀ x, g x = none → valV kvs (.inr x) = none
  yes : ∀ x p q, g x = some (p, q) → AmOk p q ∧ ∃ t : Addr, valV kvs (.inr x) = some (.ref t) ∧ H t = some (.tup [.int p, .int q])
theorem DA.same {H H' : Hp} {d : Addr} {kvs : List (Key × V)} {g : AmF} (h : DA H d kvs g) (s : Same H H') : DA H' d kvs g :=
  ⟨s _ _ h.e, h.few, h.no, fun x p q e => by obtain ⟨a, t, b, c⟩ := h.yes x p q e; exact ⟨a, t, b, s _ _ c⟩⟩
theorem DA.nil {H : Hp} {d : Addr} (e : H d = some (.dK [])) : DA H d [] (fun _ => none) := ⟨e, by simp, fun _ _ => rfl, fun x p q e => by cases e⟩
/-- a change elsewhere -/
theorem DA.upd {H : Hp} {d b : Addr} {kvs : List (Key × V)} {g : AmF} (h : DA H d kvs g) (bd : b ≠ d) (nt : ∀ xs, H b ≠ some (.tup xs)) (o : HO) : DA (L2.upd H b o) d kvs g :=
  ⟨by rw [upd_ne (fun z => bd z.symm)]; exact h.e, h.few, h.no, fun x p q e => by
    obtain ⟨a, t, hv, c⟩ := h.yes x p q e
    exact ⟨a, t, hv, by rw [upd_ne (fun z => nt _ (by rw [← z]; exact c))]; exact c⟩⟩
def putF (g : AmF) (x : Str) (p q : Int) : AmF := fun y => if y = x then some (p, q) else g y
theorem DA.put {H : Hp} {d t : Addr} {kvs : List (Key × V)} {g : AmF} {x : Str} {p q : Int} (h : DA H d kvs g) (ok : AmOk p q) (et : H t = some (.tup [.int p, .int q])) (f : kvs.length ≤ 99) : DA (L2.upd H d (.dK (putK kvs (.inr x) (.ref t)))) d (putK kvs (.inr x) (.ref t)) (putF g x p q) := by
  have td : t ≠ d := fun z => by rw [z, h.e] at et; cases et
  have lk : (putK kvs (.inr x) (V.ref t)).length ≤ 100 := by
    unfold putK
    split
    · rw [List.length_map]; omega
    · rw [List.length_append]; simp; omega
  have vp := fun y : Str => valV_put kvs (.inr x : Key) (.inr y) (.ref t)
  refine ⟨upd_same, lk, fun y hy => ?_, fun y p' q' hy => ?_⟩
  · unfold putF at hy
    by_cases c : y = x
    · rw [if_pos c] at hy; cases hy
    · rw [if_neg c] at hy
      rw [vp, if_neg (fun z => c (by injection z)), h.no y hy]
  · unfold putF at hy
    by_cases c : y = x
    · rw [if_pos c] at hy
      cases hy
      exact ⟨ok, t, by rw [vp, if_pos (by rw [c])], by rw [upd_ne td]; exact et⟩
    · rw [if_neg c] at hy
      obtain ⟨a, t', hv, c'⟩ := h.yes y p' q' hy
      refine ⟨a, t', by rw [vp, if_neg (fun z => c (by injection z))]; exact hv, ?_⟩
      rw [upd_ne (fun z => by rw [z, h.e] at c'; cases c')]
      exact c'
/-- a dict of the same things is alike -/
theorem DA.copy {H H' : Hp} {d d' : Addr} {kvs : List (Key × V)} {g : AmF} (h : DA H d kvs g) (s : Same H H') (e : H' d' = some (.dK kvs)) : DA H' d' kvs g := ⟨e, h.few, h.no, (h.same s).yes⟩
/-! ### needs -/
structure Nd5 where
  t : Addr
  s : Str
  a : Addr
  p : Int
  q : Int
structure NdA (H : Hp) (n : Nd5) : Prop where
  e : H n.t = some (.tup [.str n.s, .ref n.a])
  ea : H n.a = some (.tup [.int n.p, .int n.q])
  ok : AmOk n.p n.q
  pos : 0 < n.p
theorem NdA.same {H H' : Hp} {n : Nd5} (h : NdA H n) (g : Same H H') : NdA H' n := ⟨g _ _ h.e, g _ _ h.ea, h.ok, h.pos⟩
structure NeA (H : Hp) (l : Addr) (nds : List Nd5) : Prop where
  e : H l = some (.lst (nds.map fun n => V.ref n.t))
  few : nds.length ≤ 12
  each : ∀ n ∈ nds, NdA H n
theorem NeA.same {H H' : Hp} {l : Addr} {nds : List Nd5} (h : NeA H l nds) (g : Same H H') : NeA H' l nds := ⟨g _ _ h.e, h.few, fun n hn => (h.each n hn).same g⟩
def haveF (gh : AmF) (s : Str) : Int × Int := (gh s).getD (0, 1)
def lessF (gh : AmF) (n : Nd5) : Bool := decide ((haveF gh n.s).1 * n.q < n.p * (haveF gh n.s).2)
def lackN (gs gh : AmF) (n : Nd5) : Bool := (gs n.s).isNone && lessF gh n
def lackF (gs gh : AmF) (nds : List Nd5) : Option Str := (nds.find? (lackN gs gh)).map (·.s)
def stV : Option Str → V
  | none => .non
  | some s => .str s
/-- what is told of one need -/
structure RwOk (gs gh : AmF) (n : Nd5) (k l m : Int) : Prop where
  low : Low l m
  bl : Bd 4300 l
  bm : Bd 4300 m
  no : lessF gh n = false → k = 0 ∧ l * ((haveF gh n.s).2 * n.q) = ((haveF gh n.s).1 * n.q - n.p * (haveF gh n.s).2) * m
  yes : lessF gh n = true → ∃ p2 q2, gs n.s = some (p2, q2) ∧ PackOk n.p n.q p2 q2 (haveF gh n.s).1 (haveF gh n.s).2 k l m
structure RwA (H : Hp) (gs gh : AmF) (t : Addr) (n : Nd5) : Prop where
  ex : ∃ (tl : Addr) (k l m : Int), H t = some (.tup [.str n.s, .int k, .ref tl]) ∧ H tl = some (.tup [.int l, .int m]) ∧ RwOk gs gh n k l m
theorem RwA.tups {H H' : Hp} {gs gh : AmF} {t : Addr} {n : Nd5} (h : RwA H gs gh t n) (g : ∀ a xs, H a = some (.tup xs) → H' a = some (.tup xs)) : RwA H' gs gh t n := by
  obtain ⟨tl, k, l, m, a, b, c⟩ := h.ex
  exact ⟨tl, k, l, m, g _ _ a, g _ _ b, c⟩
theorem RwA.same {H H' : Hp} {gs gh : AmF} {t : Addr} {n : Nd5} (h : RwA H gs gh t n) (g : Same H H') : RwA H' gs gh t n := h.tups fun a xs e => g _ _ e
theorem lack_snoc {gs gh : AmF} : ∀ {nds : List Nd5} {k : Nat} {n : Nd5}, nds[k]? = some n → (∀ m ∈ nds.take k, lackN gs gh m = false) → lackN gs gh n = true → lackF gs gh nds = some n.s
  | [], k, n, h, _, _ => by simp at h
  | x :: r, 0, n, h, _, hn => by
    cases h
    unfold lackF
    rw [List.find?_cons, hn]
    rfl
  | x :: r, k + 1, n, h, hb, hn => by
    have hx := hb x (by simp)
    have ih := lack_snoc (gs := gs) (gh := gh) (nds := r) (k := k) (n := n) (by simpa using h) (fun m hm => hb m (by simp [hm])) hn
    unfold lackF at ih ⊢
    rw [List.find?_cons, hx]
    exact ih
theorem lack_none {gs gh : AmF} {nds : List Nd5} (h : ∀ m ∈ nds, lackN gs gh m = false) : lackF gs gh nds = none := by
  unfold lackF
  rw [Option.map_eq_none_iff, List.find?_eq_none]
  intro m hm
  rw [h m hm]
  decide
/-- what there is of a good, looked up -/
theorem DA.have {H : Hp} {dh tz : Addr} {kh : List (Key × V)} {gh : AmF} (D : DA H dh kh gh) (s : Str) (ez : H tz = some (.tup [.int 0, .int 1])) : ∃ th, (valV kh (.inr s)).getD (.ref tz) = .ref th ∧ H th = some (.tup [.int (haveF gh s).1, .int (haveF gh s).2]) ∧ AmOk (haveF gh s).1 (haveF gh s).2 := by
  unfold haveF
  cases hg : gh s with
  | none =>
    rw [D.no s hg]
    exact ⟨tz, rfl, ez, AmOk.zero⟩
  | some pq =>
    obtain ⟨p, q⟩ := pq
    obtain ⟨ok, t, hv, et⟩ := D.yes s p q hg
    rw [hv]
    exact ⟨t, rfl, et, ok⟩
def RwsA (H : Hp) (gs gh : AmF) (l : Addr) (nds : List Nd5) : Prop := ∃ ts : List Addr, H l = some (.lst (ts.map V.ref)) ∧ Ref2 (RwA H gs gh) ts nds
def SzOk (gs : AmF) : Prop := ∀ x p q, gs x = some (p, q) → 0 < p
section
variable (K : PySem.W.Frag) (cP : Addr)
def spPackOf : Sp := fun vs H Q E => ∃ (n : Nd5) (ds th : Addr) (ks : List (Key × V)) (gs gh : AmF), vs = [.ref n.t, .ref ds, .ref th] ∧ NdA H n ∧ DA H ds ks gs ∧ SzOk gs ∧ AmOk (haveF gh n.s).1 (haveF gh n.s).2 ∧ H th = some (.tup [.int (haveF gh n.s).1, .int (haveF gh n.s).2]) ∧
  (lackN gs gh n = false → ∀ (t tl : Addr) (k l m : Int) (H' : Hp), Same H H' → H' t = some (.tup [.int k, .ref tl]) → H' tl = some (.tup [.int l, .int m]) → RwOk gs gh n k l m → Q (.ref t) H') ∧
  (lackN gs gh n = true → ∀ (d : Addr) (H' : Hp), Same H H' → H' d = some (.xd [("good", .str n.s)]) → E (.ref cP) (some d) H')
def spBought : Sp := fun vs H Q E => ∃ (l ds : Addr) (hv : V) (nds : List Nd5) (ks kh : List (Key × V)) (gs gh : AmF), vs = [.ref l, .ref ds, hv] ∧ NeA H l nds ∧ DA H ds ks gs ∧ SzOk gs ∧ ((hv = .non ∧ gh = fun _ => none) ∨ ∃ dh, hv = .ref dh ∧ DA H dh kh gh) ∧
  (lackF gs gh nds = none → ∀ (t : Addr) (H' : Hp), Same H H' → H t = none → RwsA H' gs gh t nds → Q (.ref t) H') ∧
  (∀ s, lackF gs gh nds = some s → ∀ (d : Addr) (H' : Hp), Same H H' → H' d = some (.xd [("good", .str s)]) → E (.ref cP) (some d) H')
def spOver : Sp := fun vs H Q _ => ∃ (k : Int) (t2 t0 t1 : Addr) (p q p2 q2 a0 b0 : Int), vs = [.int k, .ref t2, .ref t0, .ref t1] ∧ Bd 2300 k ∧ FrIn K 700 H t2 p2 q2 ∧ FrIn K 700 H t0 a0 b0 ∧ FrIn K 700 H t1 p q ∧ ∀ r s : Int, Fr r s ((k * p2 * b0 + a0 * q2) * q - p * q2 * b0) (q2 * b0 * q) → Pair H Q r s
def spRow45 : Sp := fun vs H Q _ => ∃ (t : Addr) (n : Nd5) (ds dh : Addr) (ks kh : List (Key × V)) (gs gh : AmF), vs = [.ref t, .ref n.t, .ref ds, .ref dh] ∧ NdA H n ∧ DA H ds ks gs ∧ SzOk gs ∧ DA H dh kh gh ∧ RwA H gs gh t n ∧ ∀ H', Same H H' → Q (.bl true) H'
def spLacking : Sp := fun vs H Q _ => ∃ (l ds dh : Addr) (nds : List Nd5) (ks kh : List (Key × V)) (gs gh : AmF), vs = [.ref l, .ref ds, .ref dh] ∧ NeA H l nds ∧ DA H ds ks gs ∧ DA H dh kh gh ∧ ∀ H', Same H H' → Q (stV (lackF gs gh nds)) H'
def spRefused45 : Sp := fun vs H Q _ => ∃ (a d : Addr) (s : Str), vs = [.ref a, .str s] ∧ (∃ n, H a = some (excB n a (.ref cP) (some d))) ∧ H d = some (.xd [("good", .str s)]) ∧ ∀ H', Same H H' → Q (.bl true) H'
def spAsked : Sp := fun vs H Q _ => ∃ (l ds dh : Addr) (b : Bool) (nds : List Nd5) (ks kh : List (Key × V)) (gs gh : AmF), vs = [.ref l, .ref ds, .ref dh, .bl b, stV (lackF gs gh nds)] ∧ NeA H l nds ∧ DA H ds ks gs ∧ SzOk gs ∧ DA H dh kh gh ∧ (b = true → gh = fun _ => none) ∧
  (lackF gs gh nds = none → ∀ (t : Addr) (H' : Hp), Same H H' → H t = none → RwsA H' gs gh t nds → Q (.ref t) H') ∧
  (∀ s, lackF gs gh nds = some s → ∀ (t : Addr) (H' : Hp), Same H H' → H' t = some (.tup [.str "refused", .bl true]) → Q (.ref t) H')
def spRight45 : Sp := fun vs H Q _ => ∃ (l ds dh : Addr) (b : Bool) (nds : List Nd5) (ks kh : List (Key × V)) (gs gh : AmF), vs = [.ref l, .ref ds, .ref dh, .bl b] ∧ NeA H l nds ∧ DA H ds ks gs ∧ SzOk gs ∧ DA H dh kh gh ∧ (b = true → gh = fun _ => none) ∧ ∀ H', Same H H' → Q (.bl true) H'
end
/-! ### arithmetic -/
theorem fr_neg {r s a b : Int} (f : Fr r s a b) (b0 : 0 < b) (a0 : a < 0) : r < 0 := by
  have h := f.same
  have s0 := f.pos
  apply Classical.byContradiction
  intro c
  have c : 0 ≤ r := by omega
  have h1 : 0 ≤ r * b := Int.mul_nonneg c (Int.le_of_lt b0)
  have h2 : a * s < 0 := Int.mul_neg_of_neg_of_pos a0 s0
  omega
theorem fr_nn {r s a b : Int} (h : r * b = a * s) (b0 : 0 < b) (s0 : 0 < s) (a0 : 0 ≤ a) : 0 ≤ r := by
  apply Classical.byContradiction
  intro c
  have h1 : r * b < 0 := Int.mul_neg_of_neg_of_pos (by omega) b0
  have h2 : 0 ≤ a * s := Int.mul_nonneg a0 (Int.le_of_lt s0)
  omega
/-- of two of which each is the same, in lowest terms -/
theorem same_low {l m r s a b : Int} (hl : Low l m) (f : Fr r s a b) (b0 : 0 < b) (e : l * b = a * m) : l = r ∧ m = s := by
  refine low_unique hl f.to ?_
  have h := f.same
  refine cancel (k := b) ?_ (by omega)
  rw [show l * s * b = l * b * s by rw [Int.mul_assoc, Int.mul_comm s b, ← Int.mul_assoc], e, show r * m * b = r * b * m by rw [Int.mul_assoc, Int.mul_comm m b, ← Int.mul_assoc], h, Int.mul_assoc, Int.mul_assoc, Int.mul_comm m s]
theorem over_eq (k p q p2 q2 a0 b0 : Int) : (k * p2 * b0 + a0 * q2) * q - p * q2 * b0 = k * (p2 * q * b0) - (p * b0 - a0 * q) * q2 := by
  have h1 : (k * p2 * b0 + a0 * q2) * q = k * (p2 * q * b0) + a0 * q * q2 := by
    rw [Int.add_mul]
    congr 1
    · simp only [Int.mul_assoc, Int.mul_comm, Int.mul_left_comm]
    · simp only [Int.mul_assoc, Int.mul_comm, Int.mul_left_comm]
  have h2 : p * q2 * b0 = p * b0 * q2 := Int.mul_right_comm p q2 b0
  rw [h1, h2, Int.sub_mul]
  omega
theorem bot_eq (q q2 b0 : Int) : q2 * b0 * q = q * q2 * b0 := by simp only [Int.mul_assoc, Int.mul_comm, Int.mul_left_comm]
theorem over_less (k p q p2 q2 a0 b0 : Int) : ((k - 1) * p2 * b0 + a0 * q2) * q - p * q2 * b0 = k * (p2 * q * b0) - (p * b0 - a0 * q) * q2 - p2 * q * b0 := by
  rw [over_eq, Int.sub_mul, Int.one_mul]
  omega
theorem RwOk.nn {gs gh : AmF} {n : Nd5} {k l m : Int} (h : RwOk gs gh n k l m) : 0 ≤ k := by
  cases hl : lessF gh n with
  | false => rw [(h.no hl).1]; exact Int.le_refl _
  | true =>
    obtain ⟨p2, q2, _, ok⟩ := h.yes hl
    exact ok.nn
theorem pack_one {p q p2 q2 a0 b0 k l m : Int} (h : PackOk p q p2 q2 a0 b0 k l m) (q20 : 0 < q2) (c : a0 * q < p * b0) : 1 ≤ k := by
  apply Classical.byContradiction
  intro hk
  have k0 : k = 0 := by have := h.nn; omega
  have lo := h.lo
  rw [k0, Int.zero_mul] at lo
  have := Int.mul_pos (show 0 < p * b0 - a0 * q by omega) q20
  omega
end Sw
set_option Elab.async false
set_option linter.all false
set_option maxRecDepth 100000
namespace L2
open PySem PySem.Spec PyProof.Rows XH Sw
open PySem.SeqAt PySem.AutoSeq1 PySem.MeetsSeq PySem.MeetsSeq2 PySem.MeetsSeq3
section
variable {prog : Program} {w : World}
abbrev Alike (prog : Program) (w : World) (A : Around) (s : Shared) (x y : Value) : Prop := ∀ (E : Value → Shared → Prop) (Q : Bool → Shared → Prop), Q true s → wpAny (model prog w) A (eqBool x y) Q E s
abbrev Goes (prog : Program) (w : World) (A : Around) (R : Result → Shared → Prop) (t : Sem Fin) (s : Shared) : Prop :=
  wpAny (model prog w) A.in1 t (fun fin s' => match fin with | .done f => R (.ok f) s' | .again c' => c'.quiet = true ∧ codeAny (model prog w) A c' R s') (fun e s' => R (.error e) s') s
/-- the loop of list != list, all things alike by pairs -/
theorem ne_same (l b : Addr) (xs ys : Array Value) (n m : Nat) (d1 d2 : Option Addr) (c1 c2 : Array (Option Value)) (sz : xs.size = ys.size) (A : Around) (R : Result → Shared → Prop) (s : Shared)
    (e1 : s.heap.get? l = some { cls := .type "list", dict := d1, data := .seq xs n, slots := c1 }) (e2 : s.heap.get? b = some { cls := .type "list", dict := d2, data := .seq ys m, slots := c2 })
    (al : ∀ j (h1 : j < xs.size) (h2 : j < ys.size), Alike prog w A.in1 s xs[j] ys[j]) (r : R (.ok (.ret (.bool false))) s) (k : Nat) :
    ∀ i : Nat, xs.size - i = k → Goes prog w A R (Builtin.«list.__eq__.loop» ⟨[.ref l, .ref b, rawInt i, rawInt 3], []⟩) s := by
  induction k with
  | zero =>
    intro i hk
    obtain ⟨hp, g, d, tk, os⟩ := s
    have z1 : xs[((i : Nat) : Int).toNat]? = none := by simp; omega
    have z2 : ys[((i : Nat) : Int).toNat]? = none := by simp; omega
    unfold Goes
    wp_walk using wpAny_loadPart' e1, wpAny_loadPart' e2
    rw [z1, z2]
    wp_walk using wpAny_loadPart' e1, wpAny_loadPart' e2
    show R (.ok (.ret (.bool (xs.size != ys.size)))) _
    rw [sz]
    simpa using r
  | succ k ih =>
    intro i hk
    obtain ⟨hp, g, d, tk, os⟩ := s
    have i1 : i < xs.size := by omega
    have i2 : i < ys.size := by omega
    have z1 : xs[((i : Nat) : Int).toNat]? = some xs[i] := by simp [i1]
    have z2 : ys[((i : Nat) : Int).toNat]? = some ys[i] := by simp [i2]
    have z3 : ((i : Int) + 1) = ((i + 1 : Nat) : Int) := by push_cast; rfl
    unfold Goes
    wp_walk using wpAny_loadPart' e1, wpAny_loadPart' e2
    rw [z1, z2]
    refine wpAny_bind (al i i1 i2 _ _ ?_)
    wp_walk
    rw [z3]
    refine ⟨plainId_quiet plain_eq_loop _, codeAny_builtin entry_eq_loop ?_⟩
    rw [Around.under_plainId plain_eq_loop _]
    exact ih (i + 1) (by omega)
theorem list_same {A : Around} {E : Value → Shared → Prop} {Q : Value → Shared → Prop} {s : Shared} {l b : Addr} {xs ys : Array Value} (h1 : s.heap.IsList l xs) (h2 : s.heap.IsList b ys) (sz : xs.size = ys.size) (hu : A.units < cLine)
    (al : ∀ j (h1 : j < xs.size) (h2 : j < ys.size), Alike prog w A.in1 s xs[j] ys[j]) (q : Q (.bool false) s) : wpAny (model prog w) A (richCompare .NotEq (.ref l) (.ref b)) Q E s := by
  obtain ⟨⟨k1, d1, a1, c1⟩, e1, t1, n, u1⟩ := id h1
  obtain ⟨⟨k2, d2, a2, c2⟩, e2, t2, m, u2⟩ := id h2
  simp only at t1 u1 t2 u2
  subst t1 u1 t2 u2
  refine wpAny_richCompare_same_room ⟨_, e1, rfl⟩ ⟨_, e2, rfl⟩ F.slot_list_ne ?_ hu
  refine wpAny_call (codeAny_call_builtin F.slot_list_ne.plain F.entry_list_ne (F.slot_list_ne.check _ _ _ _ _ _ _ _ ⟨_, e1, rfl⟩ (F.args_list_ne_2 _ _) ?_))
  have key : Goes prog w A (wants (fun v s' => v ≠ .notImplemented ∧ Q v s') E) (Builtin.«list.__ne__» ⟨[.ref l, .ref b], []⟩) s := by
    have lo := ne_same (prog := prog) (w := w) l b xs ys n m d1 d2 c1 c2 sz A (wants (fun v s' => v ≠ .notImplemented ∧ Q v s') E) s e1 e2 al ⟨(fun x => nomatch x), q⟩ _ 0 rfl
    obtain ⟨hp, g, d, tk, os⟩ := s
    have f3 := AutoSeq1.sub_list_list
    have ne : ¬ (xs.size != ys.size) = true := by simp [sz]
    unfold Goes
    wp_walk using wpAny_loadPart' e1, wpAny_loadPart' e2
    refine ⟨plainId_quiet plain_eq_loop _, codeAny_builtin entry_eq_loop ?_⟩
    rw [Around.under_plainId plain_eq_loop _]
    exact lo
  exact key
/-- != of two lists of three: two lists of the same refs, and twice two dicts of the same pairs -/
theorem op_neLDD {X : Cx} (hu : X.A.units + 4 < cLine) : OpR X (compareOp .NotEq) (fun x y H Q => ∃ (a b l1 l2 d1 d2 f1 f2 : Addr) (rs : List Addr) (k1 k2 : List (Key × V)), x = .ref a ∧ y = .ref b ∧ H a = some (.lst [.ref l1, .ref d1, .ref f1]) ∧ H b = some (.lst [.ref l2, .ref d2, .ref f2]) ∧ H l1 = some (.lst (rs.map V.ref)) ∧ H l2 = some (.lst (rs.map V.ref)) ∧
    H d1 = some (.dK k1) ∧ H d2 = some (.dK k1) ∧ H f1 = some (.dK k2) ∧ H f2 = some (.dK k2) ∧ (∀ p ∈ k1 ++ k2, ∃ r, p.2 = .ref r) ∧ Q (.bl false) H) := by
  intro pins s σ H x y v u Q I rx ry h
  obtain ⟨a, b, l1, l2, d1, d2, f1, f2, rs, k1, k2, rfl, rfl, ea, eb, e1, e2, g1, g2, g3, g4, rf, q⟩ := h
  cases rx
  cases ry
  obtain ⟨ia, va, pa, _⟩ := I.list (SqL.of ea)
  obtain ⟨ib, vb, pb, _⟩ := I.list (SqL.of eb)
  have dd : ∀ {c d : Addr} {kk : List (Key × V)}, H c = some (.dK kk) → H d = some (.dK kk) → (∀ p ∈ kk, ∃ r, p.2 = .ref r) → ∀ (E : Value → Shared → Prop) (Q : Value → Shared → Prop), Q (.bool true) s → wpAny (model X.prog X.w) X.A.in1 (compareOp .Eq (.ref c) (.ref d)) Q E s := fun {c d kk} ec ed rk E Q q => by
    obtain ⟨z1, s1, w1, j1, o1⟩ := dk_of I.hok ec
    obtain ⟨z2, s2, w2, j2, o2⟩ := dk_of I.hok ed
    have nd : (kk.map (·.1)).Nodup := by
      rw [kv_keys j1]
      obtain ⟨_, _, _, _, _, _, _, _, n⟩ := o1
      exact n
    refine dict_eq s1 s2 o1 o2 (by show X.A.units + 1 < cLine; omega) (by rw [← j1.length, ← j2.length]) (fun i k v hv => ?_) q
    obtain ⟨⟨k', v'⟩, hk, rfl, rv⟩ := paired_back j1 i hv
    have va : valV kk k' = some v' := by
      obtain ⟨w', hw⟩ := Sw.mem_val (List.mem_of_getElem? hk)
      obtain ⟨j, hj⟩ := List.mem_iff_getElem?.mp (Sw.val_mem hw)
      have h1 : (kk.map (·.1))[i]? = some k' := by rw [List.getElem?_map, hk]; rfl
      have h2 : (kk.map (·.1))[j]? = some k' := by rw [List.getElem?_map, hj]; rfl
      have := (List.getElem?_inj (List.getElem?_eq_some_iff.mp h1).1 nd).mp (h1.trans h2.symm)
      subst this
      rw [hk] at hj
      cases hj
      exact hw
    have ro := j2.val k'
    rw [va] at ro
    obtain ⟨u', hu', ru⟩ := RelO.some_of ro
    obtain ⟨r, er⟩ := rk _ (List.mem_of_getElem? hk)
    have er : v' = .ref r := er
    subst er
    cases rv
    cases ru
    exact ⟨_, hu', Sw.leq_refs fun ne => absurd rfl ne⟩
  have al : ∀ (c d : Addr), (c ≠ d → ∀ (E : Value → Shared → Prop) (Q : Value → Shared → Prop), Q (.bool true) s → wpAny (model X.prog X.w) X.A.in1 (compareOp .Eq (.ref c) (.ref d)) Q E s) → Alike X.prog X.w X.A.in1 s (.ref c) (.ref d) := fun c d h => Sw.leq_refs h
  obtain ⟨v1, v2, v3, rfl, r1, r2, r3⟩ := vals3 va
  obtain ⟨u1, u2, u3, rfl, q1, q2, q3⟩ := vals3 vb
  cases r1
  cases r2
  cases r3
  cases q1
  cases q2
  cases q3
  refine list_same (xs := #[.ref l1, .ref d1, .ref f1]) (ys := #[.ref l2, .ref d2, .ref f2]) pa.isList pb.isList rfl (by omega) (fun j h1 h2 => ?_) ⟨.bl false, H, I, rfl, q⟩
  match j, h1 with
  | 0, _ =>
    obtain ⟨i1, w1, p1, _⟩ := I.list (SqL.of e1)
    obtain ⟨i2, w2, p2, _⟩ := I.list (SqL.of e2)
    have m1 := refs_of w1
    have m2 := refs_of w2
    subst m1
    subst m2
    have key : SeqAt.EqAt X.A.in1 s (.ref l1) (.ref l2) true := by
      by_cases ne : l1 = l2
      · subst ne
        exact SeqAt.EqAt.same _
      · refine SeqAt.EqAt.of_refs ne ?_
        have k := SeqAt.RcAt.lists (A := X.A.in1) (e := fun _ => true) p1.isList p2.isList rfl (by show X.A.units + 1 < cLine; omega) fun j h1 h2 => SeqAt.EqAt.same _
        have al1 : ∀ m, ((List.range m).all fun _ => true) = true := fun m => by simp
        rw [al1] at k
        exact k
    exact fun E Q q => key X.prog X.w E Q q
  | 1, _ => exact al d1 d2 fun _ E Q q => dd g1 g2 (fun p hp => rf p (List.mem_append_left _ hp)) E Q q
  | 2, _ => exact al f1 f2 fun _ E Q q => dd g3 g4 (fun p hp => rf p (List.mem_append_right _ hp)) E Q q
end
end L2
namespace Sw
open PySem L2 XH PyProof.Rows
theorem perm_lift {α β : Type} {g : α → β} {bs cs : List β} (h : bs.Perm cs) : ∀ l : List α, cs = l.map g → ∃ l' : List α, l'.Perm l ∧ bs = l'.map g := by
  induction h with
  | nil =>
    intro l e
    cases l with
    | nil => exact ⟨[], List.Perm.refl _, rfl⟩
    | cons _ _ => cases e
  | cons x _ ih =>
    intro l e
    cases l with
    | nil => cases e
    | cons a r =>
      rw [List.map_cons] at e
      injection e with e1 e2
      obtain ⟨l', p, e'⟩ := ih r e2
      exact ⟨a :: l', p.cons a, by rw [List.map_cons, e1, e']⟩
  | swap x y m =>
    intro l e
    cases l with
    | nil => cases e
    | cons a r =>
      cases r with
      | nil => rw [List.map_cons] at e; injection e with _ e; cases e
      | cons b r =>
        rw [List.map_cons, List.map_cons] at e
        injection e with e1 e
        injection e with e2 e3
        exact ⟨b :: a :: r, List.Perm.swap _ _ _, by rw [List.map_cons, List.map_cons, e1, e2, e3]⟩
  | trans _ _ ih1 ih2 =>
    intro l e
    obtain ⟨l1, p1, e1⟩ := ih2 l e
    obtain ⟨l2, p2, e2⟩ := ih1 l1 e1
    exact ⟨l2, p2.trans p1, e2⟩
theorem putK_lenU {kvs : List (Key × V)} {k : Key} {v : V} : (putK kvs k v).length ≤ kvs.length + 1 := by
  unfold putK
  split
  · rw [List.length_map]; omega
  · rw [List.length_append]; simp
theorem putK_ref {kvs : List (Key × V)} {k : Key} {t : Addr} (h : ∀ p ∈ kvs, ∃ r, p.2 = V.ref r) : ∀ p ∈ putK kvs k (.ref t), ∃ r, p.2 = V.ref r := fun p hp => by
  unfold putK at hp
  split at hp
  · obtain ⟨x, hx, e⟩ := List.mem_map.mp hp
    by_cases c : x.1 = k
    · rw [if_pos c] at e; exact ⟨t, by rw [← e]⟩
    · rw [if_neg c] at e; rw [← e]; exact h x hx
  · rcases List.mem_append.mp hp with z | z
    · exact h p z
    · rw [List.mem_singleton.mp z]; exact ⟨t, rfl⟩
theorem NdA.tups {H H' : Hp} {n : Nd5} (h : NdA H n) (g : ∀ a xs, H a = some (.tup xs) → H' a = some (.tup xs)) : NdA H' n := ⟨g _ _ h.e, g _ _ h.ea, h.ok, h.pos⟩
theorem tup_keep {H : Hp} {b : Addr} {o : HO} (nt : ∀ xs, H b ≠ some (.tup xs)) : ∀ a xs, H a = some (.tup xs) → upd H b o a = some (.tup xs) := fun a xs e => by
  rw [upd_ne (fun z => nt xs (by rw [← z]; exact e))]
  exact e
/-- what the law draws: needs, sizes, the shelf -/
structure LwS (H : Hp) (ln dz dh : Addr) (nds : List Nd5) (ks kh : List (Key × V)) (gs gh : AmF) : Prop where
  e : H ln = some (.lst (nds.map fun n => V.ref n.t))
  each : ∀ n ∈ nds, NdA H n
  D : DA H dz ks gs
  Dh : DA H dh kh gh
  sz : SzOk gs
  ne : dz ≠ dh
  rf : ∀ p ∈ ks ++ kh, ∃ r, p.2 = V.ref r
section
variable {H H' : Hp} {ln dz dh : Addr} {nds : List Nd5} {ks kh : List (Key × V)} {gs gh : AmF}
theorem LwS.same (h : LwS H ln dz dh nds ks kh gs gh) (g : Same H H') : LwS H' ln dz dh nds ks kh gs gh := ⟨g _ _ h.e, fun n hn => (h.each n hn).same g, h.D.same g, h.Dh.same g, h.sz, h.ne, h.rf⟩
theorem LwS.need (h : LwS H ln dz dh nds ks kh gs gh) {n : Nd5} (hn : NdA H n) : LwS (upd H ln (.lst ((nds.map fun n => V.ref n.t) ++ [.ref n.t]))) ln dz dh (nds ++ [n]) ks kh gs gh := by
  have nt : ∀ xs, H ln ≠ some (.tup xs) := fun xs z => by rw [h.e] at z; cases z
  have k1 : ln ≠ dz := fun z => by have := h.D.e; rw [← z, h.e] at this; cases this
  have k2 : ln ≠ dh := fun z => by have := h.Dh.e; rw [← z, h.e] at this; cases this
  refine ⟨by rw [upd_same, List.map_append]; rfl, fun m hm => ?_, h.D.upd k1 nt _, h.Dh.upd k2 nt _, h.sz, h.ne, h.rf⟩
  rcases List.mem_append.mp hm with z | z
  · exact (h.each m z).tups (tup_keep nt)
  · rw [List.mem_singleton.mp z]; exact hn.tups (tup_keep nt)
theorem LwS.size (h : LwS H ln dz dh nds ks kh gs gh) {t : Addr} {x : Str} {p q : Int} (ok : AmOk p q) (p0 : 0 < p) (et : H t = some (.tup [.int p, .int q])) (f : ks.length ≤ 99) : LwS (upd H dz (.dK (putK ks (.inr x) (.ref t)))) ln dz dh nds (putK ks (.inr x) (.ref t)) kh (putF gs x p q) gh := by
  have nt : ∀ xs, H dz ≠ some (.tup xs) := fun xs z => by rw [h.D.e] at z; cases z
  refine ⟨by rw [upd_ne (fun z => by have := h.D.e; rw [← z, h.e] at this; cases this)]; exact h.e, fun m hm => (h.each m hm).tups (tup_keep nt), h.D.put ok et f, h.Dh.upd h.ne nt _, fun y p' q' hy => ?_, h.ne, fun y hy => ?_⟩
  · unfold putF at hy
    split at hy
    · cases hy; exact p0
    · exact h.sz y p' q' hy
  · rcases List.mem_append.mp hy with z | z
    · exact putK_ref (fun p hp => h.rf p (List.mem_append_left _ hp)) y z
    · exact h.rf y (List.mem_append_right _ z)
theorem LwS.shelf (h : LwS H ln dz dh nds ks kh gs gh) {t : Addr} {x : Str} {p q : Int} (ok : AmOk p q) (et : H t = some (.tup [.int p, .int q])) (f : kh.length ≤ 99) : LwS (upd H dh (.dK (putK kh (.inr x) (.ref t)))) ln dz dh nds ks (putK kh (.inr x) (.ref t)) gs (putF gh x p q) := by
  have nt : ∀ xs, H dh ≠ some (.tup xs) := fun xs z => by rw [h.Dh.e] at z; cases z
  refine ⟨by rw [upd_ne (fun z => by have := h.Dh.e; rw [← z, h.e] at this; cases this)]; exact h.e, fun m hm => (h.each m hm).tups (tup_keep nt), h.D.upd (fun z => h.ne z.symm) nt _, h.Dh.put ok et f, h.sz, h.ne, fun y hy => ?_⟩
  rcases List.mem_append.mp hy with z | z
  · exact h.rf y (List.mem_append_left _ z)
  · exact putK_ref (fun p hp => h.rf p (List.mem_append_right _ hp)) y z
end
theorem am_small {p q : Int} (h : 0 ≤ p) (hq : 0 < q) (g : gcdI p q = 1) (p9 : p < 1000) (q9 : q < 1000) : AmOk p q := ⟨h, ⟨hq, g⟩, by unfold Bd; omega, by unfold Bd; omega⟩
theorem upd_twice {H : Hp} {a : Addr} {o u : HO} : upd (upd H a o) a u = upd H a u := by
  funext b
  by_cases e : b = a
  · rw [e, upd_same, upd_same]
  · rw [upd_ne e, upd_ne e, upd_ne e]
def nameF (H : Hp) (a : Addr) : Str := match H a with
  | some (.tup (.str s :: _)) => s
  | _ => ""
theorem nameF_at {H : Hp} {a r : Addr} {s : Str} (e : H a = some (.tup [.str s, .ref r])) : nameF H a = s := by
  unfold nameF
  rw [e]
end Sw
set_option Elab.async false
set_option linter.all false
set_option maxRecDepth 100000
namespace Lk45
open PySem L2 Sw XH PyProof.Rows Hm Wo
def top (i : Nat) : Stmt := PySem.Challenge.pw_stovework_k45_bought.main.body.getD i (.Pass ⟨0, 0, 0, 0⟩)
def clsAt (s : Stmt) (i : Nat) : Stmt := match s with | .ClassDef _ _ _ body _ _ _ _ _ _ _ => body.getD i (.Pass ⟨0, 0, 0, 0⟩) | _ => s
abbrev sis_whole : Stmt := top 19
abbrev sdivisor : Stmt := top 20
abbrev sfraction : Stmt := top 22
abbrev splus : Stmt := top 23
abbrev sminus : Stmt := top 24
abbrev sproduct : Stmt := top 25
abbrev squotient : Stmt := top 26
abbrev sis_less : Stmt := top 27
abbrev sround_up : Stmt := top 28
abbrev spacks_for : Stmt := top 30
abbrev spacks_of_need : Stmt := top 33
abbrev sbought_of : Stmt := top 32
abbrev s_law_cell_at : Stmt := top 35
abbrev s_law_names : Stmt := top 36
abbrev s_law_divisor_of : Stmt := top 37
abbrev s_law_lowest : Stmt := top 38
abbrev s_law_amount : Stmt := top 39
abbrev s_law_under : Stmt := top 40
abbrev s_law_over : Stmt := top 41
abbrev s_law_whole : Stmt := top 42
abbrev s_law_row : Stmt := top 43
abbrev s_law_lacking : Stmt := top 44
abbrev s_law_refused : Stmt := top 45
abbrev s_law_asked : Stmt := top 46
abbrev s_law_right : Stmt := top 47
abbrev slaw : Stmt := top 48
abbrev s_NoPack : Stmt := clsAt (top 12) 0
structure Bn (K : PySem.W.Frag) (mg : Str → Option Value) (c_EmptyHeap c_InRing c_NoAmount c_NoDish c_NoName c_NoNet c_NoNumber c_NoPack c_NoPlan c_NoRow c_NoStand c_NoStandIn c_NoStep c_StoveError c_TooFew c_TooMany c_Twice : Addr) : Prop where
  b_abs : mg "abs" = none
  b_bool : mg "bool" = none
  b_dict : mg "dict" = none
  b_int : mg "int" = none
  b_isinstance : mg "isinstance" = none
  b_len : mg "len" = none
  b_list : mg "list" = none
  b_max : mg "max" = none
  b_range : mg "range" = none
  b_sorted : mg "sorted" = none
  b_str : mg "str" = none
  b_tuple : mg "tuple" = none
  m_EmptyHeap : mg "EmptyHeap" = some (.ref c_EmptyHeap)
  m_InRing : mg "InRing" = some (.ref c_InRing)
  m_NoAmount : mg "NoAmount" = some (.ref c_NoAmount)
  m_NoDish : mg "NoDish" = some (.ref c_NoDish)
  m_NoName : mg "NoName" = some (.ref c_NoName)
  m_NoNet : mg "NoNet" = some (.ref c_NoNet)
  m_NoNumber : mg "NoNumber" = some (.ref c_NoNumber)
  m_NoPack : mg "NoPack" = some (.ref c_NoPack)
  m_NoPlan : mg "NoPlan" = some (.ref c_NoPlan)
  m_NoRow : mg "NoRow" = some (.ref c_NoRow)
  m_NoStand : mg "NoStand" = some (.ref c_NoStand)
  m_NoStandIn : mg "NoStandIn" = some (.ref c_NoStandIn)
  m_NoStep : mg "NoStep" = some (.ref c_NoStep)
  m_StoveError : mg "StoveError" = some (.ref c_StoveError)
  m_TooFew : mg "TooFew" = some (.ref c_TooFew)
  m_TooMany : mg "TooMany" = some (.ref c_TooMany)
  m_Twice : mg "Twice" = some (.ref c_Twice)
  x_NoNumber : PySem.W.excIn K c_NoNumber bmV "ValueError.__new__" = true
  i_NoNumber : XI K c_NoNumber
  t_NoPack : XT K c_NoPack
  s_NoPack_NoPack : PySem.W.subIn K (.ref c_NoPack) (.ref c_NoPack) = some true
  k_NoPack_StoveError : PySem.W.kitOne K (.ref c_NoPack) (.ref c_StoveError) = some true
  a_NoPack : XA K c_NoPack c_StoveError
  n_NoPack : PySem.W.findIn K (.ref c_NoPack) "good" = some none
  i_NoPack : XI K c_NoPack
  ka_NoPack_1 : PySem.W.kitAny K (.ref c_NoPack) [.ref c_EmptyHeap, .ref c_InRing, .ref c_NoAmount, .ref c_NoDish, .ref c_NoName, .ref c_NoNet, .ref c_NoNumber, .ref c_NoPlan, .ref c_NoRow, .ref c_NoStand] = some false
  ka_NoPack_2 : PySem.W.kitAny K (.ref c_NoPack) [.ref c_NoStandIn, .ref c_NoStep, .ref c_TooFew, .ref c_TooMany, .ref c_Twice] = some false
section
variable {P : Program} {w : World} {K : PySem.W.Frag} {mg : Str → Option Value} {base : Heap} {f : Addr} {fd : FuncData} {c_EmptyHeap c_InRing c_NoAmount c_NoDish c_NoName c_NoNet c_NoNumber c_NoPack c_NoPlan c_NoRow c_NoStand c_NoStandIn c_NoStep c_StoveError c_TooFew c_TooMany c_Twice : Addr}
theorem sc_NoPack : FnScope ["self", "good"] ["self", "good"] (defScope s_NoPack) := ⟨rfl, rfl, rfl, by decide +kernel, rfl, by decide +kernel, by decide +kernel⟩
theorem ok_NoPack {dV : Value} (F : FunD K "__init__" "NoPack.__init__" s_NoPack dV f fd) (B : Bn K mg c_EmptyHeap c_InRing c_NoAmount c_NoDish c_NoName c_NoNet c_NoNumber c_NoPack c_NoPlan c_NoRow c_NoStand c_NoStandIn c_NoStep c_StoveError c_TooFew c_TooMany c_Twice) : FnOk P w K mg base CX0 1 f fd ["self", "good"] (spInit c_NoPack "good") := by
  have sc := sc_NoPack
  refine F.ok sc (fun vs H Q E h => ?_) (fun cdv A outer s H vs Q E hr h => ?_)
  · obtain ⟨a, y, n, rfl, _⟩ := h
    rfl
  obtain ⟨a, y, n, rfl, e, q⟩ := h
  exact ⟨_, (pss_one (ps_fldX (K := K) rfl (pv 0) (pv 1) rfl)), y, rfl, _, rfl, a, c_NoPack, c_StoveError, n, rfl, e, B.a_NoPack, B.n_NoPack, q⟩
theorem scis_whole : FnScope ["thing"] ["thing"] (defScope sis_whole) := ⟨rfl, rfl, rfl, by decide +kernel, rfl, by decide +kernel, by decide +kernel⟩
set_option maxHeartbeats 4000000 in
theorem okis_whole {dV : Value} (F : FunD K "is_whole" "is_whole" sis_whole dV f fd) (B : Bn K mg c_EmptyHeap c_InRing c_NoAmount c_NoDish c_NoName c_NoNet c_NoNumber c_NoPack c_NoPlan c_NoRow c_NoStand c_NoStandIn c_NoStep c_StoveError c_TooFew c_TooMany c_Twice)  : FnOk P w K mg base CX0 1 f fd ["thing"] spWhole := by
  have sc := scis_whole
  refine F.ok sc (fun vs H Q E h => ?_) (fun cdv A outer s H vs Q E hr h => ?_)
  · obtain ⟨v, rfl, _⟩ := h
    rfl
  obtain ⟨v, rfl, q⟩ := h
  refine ⟨_, (pss_one (ps_ret (pe_and (pe_callB call_isi rfl B.b_isinstance boot_isinstance (pa_cons (pv 0) (pa_cons (pe_bltn (v := .ty "int") rfl B.b_int boot_int rfl) pa_nil))) (pe_one (pe_not (pe_callB call_isi rfl B.b_isinstance boot_isinstance (pa_cons (pv 0) (pa_cons (pe_bltn (v := .ty "bool") rfl B.b_bool boot_bool rfl) pa_nil)))))))), ?_⟩
  refine ⟨_, rfl, _, _, _, rfl, .ii v, _, rfl, iteT ⟨_, rfl, _, _, _, rfl, .ib v, _, rfl, q⟩⟩

theorem scdivisor : FnScope ["one", "other", "greater", "lesser", "rest"] ["one", "other"] (defScope sdivisor) := ⟨rfl, rfl, rfl, by decide +kernel, rfl, by decide +kernel, by decide +kernel⟩
set_option maxHeartbeats 4000000 in
theorem okdivisor {dV : Value} (F : FunD K "divisor" "divisor" sdivisor dV f fd) (B : Bn K mg c_EmptyHeap c_InRing c_NoAmount c_NoDish c_NoName c_NoNet c_NoNumber c_NoPack c_NoPlan c_NoRow c_NoStand c_NoStandIn c_NoStep c_StoveError c_TooFew c_TooMany c_Twice)  : FnOk P w K mg base CX0 1 f fd ["one", "other"] spDiv := by
  have sc := scdivisor
  refine F.ok sc (fun vs H Q E h => ?_) (fun cdv A outer s H vs Q E hr h => ?_)
  · obtain ⟨a, b, rfl, _⟩ := h
    rfl
  obtain ⟨a, b, rfl, q⟩ := h
  refine ⟨_, (pss_cons (ps_set (i := 2) sc.nd rfl (Or.inl rfl) (pe_callB call_abs rfl B.b_abs boot_abs (pa_cons (pv 0) pa_nil))) (pss_cons (ps_set (i := 3) sc.nd rfl (Or.inl rfl) (pe_callB call_abs rfl B.b_abs boot_abs (pa_cons (pv 1) pa_nil))) (pss_cons (ps_while PassesOwn.never (pt_cmpR op_ne (pv 3) pe_int (nomark _)) (pss_cons (ps_set (i := 4) sc.nd rfl (Or.inl rfl) (pe_op op_modN (pv 2) (pv 3))) (pss_cons (ps_set (i := 2) sc.nd rfl (Or.inl rfl) (pv 3)) (pss_one (ps_set (i := 3) sc.nd rfl (Or.inl rfl) (pv 4)))))) (pss_one (ps_ret (pv 2)))))), ?_⟩
  refine ⟨_, rfl, _, rfl, _, rfl, _, rfl, ?_⟩
  refine while_by (fun σ H' => H' = H ∧ ∃ (g l : Int) (r : Option V), σ = [some (.int a), some (.int b), some (.int g), some (.int l), r] ∧ 0 ≤ g ∧ 0 ≤ l ∧ gcdI g l = gcdI a b)
    (fun (σ : L2.St) (_ : Hp) => match σ[3]? with | some (some (V.int l)) => l.toNat | _ => 0) ⟨rfl, _, _, _, rfl, absI_nn a, absI_nn b, gcdI_abs a b⟩ ?_ (fun σ H Q Q' m ⟨v, e, s, k, hk, h2⟩ => ⟨v, e, s, k, hk, m _ _ h2⟩)
  rintro σ H' ⟨rfl, g, l, r, rfl, g0, l0, inv⟩
  refine ⟨_, rfl, rfl, _, rfl, n2I (fun c => ?_) (fun c => ?_)⟩
  · have lp : 0 < l := by omega
    refine ⟨_, rfl, _, rfl, _, _, rfl, rfl, c, _, rfl, _, rfl, ⟨rfl, l, g.fmod l, _, rfl, l0, Int.fmod_nonneg_of_pos g lp, ?_⟩, ?_⟩
    · rw [gcdI_fmod lp]; exact inv
    · have h1 := Int.fmod_lt_of_pos g lp
      have h2 := Int.fmod_nonneg_of_pos g lp
      show (g.fmod l).toNat < l.toNat
      omega
  · subst c
    rw [gcdI_zero g0] at inv
    rw [← inv] at q
    exact ⟨_, rfl, q⟩

theorem scfraction : FnScope ["top", "bottom", "common"] ["top", "bottom"] (defScope sfraction) := ⟨rfl, rfl, rfl, by decide +kernel, rfl, by decide +kernel, by decide +kernel⟩
set_option maxHeartbeats 4000000 in
theorem okfraction {dV : Value} (F : FunD K "fraction" "fraction" sfraction dV f fd) (B : Bn K mg c_EmptyHeap c_InRing c_NoAmount c_NoDish c_NoName c_NoNet c_NoNumber c_NoPack c_NoPlan c_NoRow c_NoStand c_NoStandIn c_NoStep c_StoveError c_TooFew c_TooMany c_Twice) (Dis_whole : Dx P w K mg base CX0 1 "is_whole" ["thing"] [] spWhole) (Ddivisor : Dx P w K mg base CX0 1 "divisor" ["one", "other"] [] spDiv) : FnOk P w K mg base (CX1 P w) 2 f fd ["top", "bottom"] (spFrZ c_NoNumber) := by
  have sc := scfraction
  refine F.okX sc (fun vs H Q E h => ?_) (fun cdv A outer s H vs Q E hr h => ?_)
  · obtain ⟨a, b, rfl, _⟩ := h
    rfl
  obtain ⟨a, b, rfl, hb, q, qe⟩ := h
  refine ⟨_, (pss_cons (ps_if (PW.pt (pw_or (pt_not (pt_val (pcall0 Dis_whole hr (by decide) rfl (pa_cons (pv 0) pa_nil)))) (pw_or1 (pt_not (pt_val (pcall0 Dis_whole hr (by decide) rfl (pa_cons (pv 1) pa_nil))))))) (pss_one (ps_raise B.x_NoNumber rfl B.m_NoNumber rfl passX (pa_cons pe_str pa_nil))) pss_nil) (pss_cons (ps_if (pt_cmpR op_eq (pv 1) pe_int (nomark _)) (pss_one (ps_raise B.x_NoNumber rfl B.m_NoNumber rfl passX (pa_cons pe_str pa_nil))) pss_nil) (pss_cons (ps_set (i := 2) sc.nd rfl (Or.inl rfl) (pcall0 Ddivisor hr (by decide) rfl (pa_cons (pv 0) (pa_cons (pv 1) pa_nil)))) (pss_cons (ps_if (pt_cmpR op_lt (pv 1) pe_int (nomark _)) (pss_one (ps_set (i := 2) sc.nd rfl (Or.inl rfl) (pe_un un_neg (pv 2)))) pss_nil) (pss_one (ps_ret (pe_tup (pa_cons (pe_op op_fdivB (pv 0) (pv 2)) (pa_cons (pe_op op_fdivB (pv 1) (pv 2)) pa_nil))))))))), ?_⟩
  refine ⟨_, rfl, _, rfl, true, rfl, iteF ⟨_, rfl, _, rfl, true, rfl, iteF ?_⟩⟩
  refine ⟨_, rfl, rfl, _, rfl, d2I (fun z => ⟨by show 1 ≤ sizeLine; decide, qe z⟩) (fun b0 => ?_)⟩
  have c0 := frC_ne (a := a) b0
  have cb := frC_bd (a := a) b0 hb
  have f := fr_of (a := a) b0
  have q := q b0
  refine ⟨_, rfl, _, rfl, _, _, rfl, ?_⟩
  refine ⟨_, rfl, _, _, rfl, rfl, _, rfl, d2 (fun c => ?_) (fun c => ?_)⟩
  · have e : frC a b = -gcdI a b := if_pos c
    rw [e] at c0 cb f
    exact ⟨_, rfl, _, rfl, _, rfl, _, rfl, _, _, rfl, rfl, ⟨c0, cb.div c0⟩, _, rfl, _, rfl, _, _, rfl, rfl, ⟨c0, cb.div c0⟩, (by show 2 ≤ sizeLine; decide), fun t ht => q _ _ f t _ (same_new ht _) upd_same⟩
  · have e : frC a b = gcdI a b := if_neg c
    rw [e] at c0 cb f
    exact ⟨_, rfl, _, rfl, _, _, rfl, rfl, ⟨c0, cb.div c0⟩, _, rfl, _, rfl, _, _, rfl, rfl, ⟨c0, cb.div c0⟩, (by show 2 ≤ sizeLine; decide), fun t ht => q _ _ f t _ (same_new ht _) upd_same⟩

theorem scplus : FnScope ["one", "other"] ["one", "other"] (defScope splus) := ⟨rfl, rfl, rfl, by decide +kernel, rfl, by decide +kernel, by decide +kernel⟩
set_option maxHeartbeats 4000000 in
theorem okplus {dV : Value} (F : FunD K "plus" "plus" splus dV f fd) (B : Bn K mg c_EmptyHeap c_InRing c_NoAmount c_NoDish c_NoName c_NoNet c_NoNumber c_NoPack c_NoPlan c_NoRow c_NoStand c_NoStandIn c_NoStep c_StoveError c_TooFew c_TooMany c_Twice) (Dfraction : Dx P w K mg base CX0 2 "fraction" ["top", "bottom"] [.int 1] spFr) : FnOk P w K mg base CX0 3 f fd ["one", "other"] (spPlus K) := by
  have sc := scplus
  refine F.ok sc (fun vs H Q E h => ?_) (fun cdv A outer s H vs Q E hr h => ?_)
  · obtain ⟨t, t2, p, q, p2, q2, rfl, _⟩ := h
    rfl
  obtain ⟨t, t', p, q, p', q', rfl, h1, h2, qq⟩ := h
  refine ⟨_, (pss_one (ps_ret (pcall0 Dfraction hr (by decide) rfl (pa_cons (pe_op op_add (pe_op op_mulB (pe_ix ix_tup (pv 0) pe_int (fun _ _ => rfl)) (pe_ix ix_tup (pv 1) pe_int (fun _ _ => rfl))) (pe_op op_mulB (pe_ix ix_tup (pv 1) pe_int (fun _ _ => rfl)) (pe_ix ix_tup (pv 0) pe_int (fun _ _ => rfl)))) (pa_cons (pe_op op_mulB (pe_ix ix_tup (pv 0) pe_int (fun _ _ => rfl)) (pe_ix ix_tup (pv 1) pe_int (fun _ _ => rfl))) pa_nil))))), ?_⟩
  exact ⟨_, rfl, _, _, _, _, rfl, rfl, h1.at_, rfl, _, rfl, _, _, _, _, rfl, rfl, h2.at_, rfl, _, _, rfl, rfl, h1.bp.ok h2.bq, _, rfl, _, _, _, _, rfl, rfl, h2.at_, rfl, _, rfl, _, _, _, _, rfl, rfl, h1.at_, rfl, _, _, rfl, rfl, h2.bp.ok h1.bq, _, _, rfl, rfl, _, rfl, _, _, _, _, rfl, rfl, h1.at_, rfl, _, rfl, _, _, _, _, rfl, rfl, h2.at_, rfl, _, _, rfl, rfl, h1.bq.ok h2.bq, _, _, rfl, mul_ne h1.pos h2.pos, (h1.bq.mul h2.bq).mono (by decide), qq⟩

theorem scminus : FnScope ["one", "other"] ["one", "other"] (defScope sminus) := ⟨rfl, rfl, rfl, by decide +kernel, rfl, by decide +kernel, by decide +kernel⟩
set_option maxHeartbeats 4000000 in
theorem okminus {dV : Value} (F : FunD K "minus" "minus" sminus dV f fd) (B : Bn K mg c_EmptyHeap c_InRing c_NoAmount c_NoDish c_NoName c_NoNet c_NoNumber c_NoPack c_NoPlan c_NoRow c_NoStand c_NoStandIn c_NoStep c_StoveError c_TooFew c_TooMany c_Twice) (Dfraction : Dx P w K mg base CX0 2 "fraction" ["top", "bottom"] [.int 1] spFr) : FnOk P w K mg base CX0 3 f fd ["one", "other"] (spMinus K) := by
  have sc := scminus
  refine F.ok sc (fun vs H Q E h => ?_) (fun cdv A outer s H vs Q E hr h => ?_)
  · obtain ⟨t, t2, p, q, p2, q2, rfl, _⟩ := h
    rfl
  obtain ⟨t, t', p, q, p', q', rfl, h1, h2, qq⟩ := h
  refine ⟨_, (pss_one (ps_ret (pcall0 Dfraction hr (by decide) rfl (pa_cons (pe_op op_sub (pe_op op_mulB (pe_ix ix_tup (pv 0) pe_int (fun _ _ => rfl)) (pe_ix ix_tup (pv 1) pe_int (fun _ _ => rfl))) (pe_op op_mulB (pe_ix ix_tup (pv 1) pe_int (fun _ _ => rfl)) (pe_ix ix_tup (pv 0) pe_int (fun _ _ => rfl)))) (pa_cons (pe_op op_mulB (pe_ix ix_tup (pv 0) pe_int (fun _ _ => rfl)) (pe_ix ix_tup (pv 1) pe_int (fun _ _ => rfl))) pa_nil))))), ?_⟩
  exact ⟨_, rfl, _, _, _, _, rfl, rfl, h1.at_, rfl, _, rfl, _, _, _, _, rfl, rfl, h2.at_, rfl, _, _, rfl, rfl, h1.bp.ok h2.bq, _, rfl, _, _, _, _, rfl, rfl, h2.at_, rfl, _, rfl, _, _, _, _, rfl, rfl, h1.at_, rfl, _, _, rfl, rfl, h2.bp.ok h1.bq, _, _, rfl, rfl, _, rfl, _, _, _, _, rfl, rfl, h1.at_, rfl, _, rfl, _, _, _, _, rfl, rfl, h2.at_, rfl, _, _, rfl, rfl, h1.bq.ok h2.bq, _, _, rfl, mul_ne h1.pos h2.pos, (h1.bq.mul h2.bq).mono (by decide), qq⟩

theorem scproduct : FnScope ["one", "other"] ["one", "other"] (defScope sproduct) := ⟨rfl, rfl, rfl, by decide +kernel, rfl, by decide +kernel, by decide +kernel⟩
set_option maxHeartbeats 4000000 in
theorem okproduct {dV : Value} (F : FunD K "product" "product" sproduct dV f fd) (B : Bn K mg c_EmptyHeap c_InRing c_NoAmount c_NoDish c_NoName c_NoNet c_NoNumber c_NoPack c_NoPlan c_NoRow c_NoStand c_NoStandIn c_NoStep c_StoveError c_TooFew c_TooMany c_Twice) (Dfraction : Dx P w K mg base CX0 2 "fraction" ["top", "bottom"] [.int 1] spFr) : FnOk P w K mg base CX0 3 f fd ["one", "other"] (spProd K) := by
  have sc := scproduct
  refine F.ok sc (fun vs H Q E h => ?_) (fun cdv A outer s H vs Q E hr h => ?_)
  · obtain ⟨t, t2, p, q, p2, q2, rfl, _⟩ := h
    rfl
  obtain ⟨t, t', p, q, p', q', rfl, h1, h2, qq⟩ := h
  refine ⟨_, (pss_one (ps_ret (pcall0 Dfraction hr (by decide) rfl (pa_cons (pe_op op_mulB (pe_ix ix_tup (pv 0) pe_int (fun _ _ => rfl)) (pe_ix ix_tup (pv 1) pe_int (fun _ _ => rfl))) (pa_cons (pe_op op_mulB (pe_ix ix_tup (pv 0) pe_int (fun _ _ => rfl)) (pe_ix ix_tup (pv 1) pe_int (fun _ _ => rfl))) pa_nil))))), ?_⟩
  exact ⟨_, rfl, _, _, _, _, rfl, rfl, h1.at_, rfl, _, rfl, _, _, _, _, rfl, rfl, h2.at_, rfl, _, _, rfl, rfl, h1.bp.ok h2.bp, _, rfl, _, _, _, _, rfl, rfl, h1.at_, rfl, _, rfl, _, _, _, _, rfl, rfl, h2.at_, rfl, _, _, rfl, rfl, h1.bq.ok h2.bq, _, _, rfl, mul_ne h1.pos h2.pos, (h1.bq.mul h2.bq).mono (by decide), qq⟩

theorem scquotient : FnScope ["one", "other"] ["one", "other"] (defScope squotient) := ⟨rfl, rfl, rfl, by decide +kernel, rfl, by decide +kernel, by decide +kernel⟩
set_option maxHeartbeats 4000000 in
theorem okquotient {dV : Value} (F : FunD K "quotient" "quotient" squotient dV f fd) (B : Bn K mg c_EmptyHeap c_InRing c_NoAmount c_NoDish c_NoName c_NoNet c_NoNumber c_NoPack c_NoPlan c_NoRow c_NoStand c_NoStandIn c_NoStep c_StoveError c_TooFew c_TooMany c_Twice) (Xfraction : Dx P w K mg base (CX1 P w) 2 "fraction" ["top", "bottom"] [.int 1] (spFrZ c_NoNumber)) : FnOk P w K mg base (CX1 P w) 3 f fd ["one", "other"] (spQuotX K c_NoNumber) := by
  have sc := scquotient
  refine F.okX sc (fun vs H Q E h => ?_) (fun cdv A outer s H vs Q E hr h => ?_)
  · obtain ⟨t, t2, p, q, p2, q2, rfl, _⟩ := h
    rfl
  obtain ⟨t, t', p, q, p', q', rfl, h1, h2, qq, qe⟩ := h
  refine ⟨_, (pss_one (ps_ret (pcall1 Xfraction hr (by decide) rfl passX (pa_cons (pe_op op_mulB (pe_ix ix_tup (pv 0) pe_int (fun _ _ => rfl)) (pe_ix ix_tup (pv 1) pe_int (fun _ _ => rfl))) (pa_cons (pe_op op_mulB (pe_ix ix_tup (pv 0) pe_int (fun _ _ => rfl)) (pe_ix ix_tup (pv 1) pe_int (fun _ _ => rfl))) pa_nil))))), ?_⟩
  have q0 := h1.pos
  exact ⟨_, rfl, _, _, _, _, rfl, rfl, h1.at_, rfl, _, rfl, _, _, _, _, rfl, rfl, h2.at_, rfl, _, _, rfl, rfl, h1.bp.ok h2.bq, _, rfl, _, _, _, _, rfl, rfl, h1.at_, rfl, _, rfl, _, _, _, _, rfl, rfl, h2.at_, rfl, _, _, rfl, rfl, h1.bq.ok h2.bp, _, _, rfl, (h1.bq.mul h2.bp).mono (by decide), fun n => qq (fun z => n (by rw [z, Int.mul_zero])), fun z => qe ((Int.mul_eq_zero.mp z).resolve_left (by omega))⟩

theorem scis_less : FnScope ["one", "other"] ["one", "other"] (defScope sis_less) := ⟨rfl, rfl, rfl, by decide +kernel, rfl, by decide +kernel, by decide +kernel⟩
set_option maxHeartbeats 4000000 in
theorem okis_less {dV : Value} (F : FunD K "is_less" "is_less" sis_less dV f fd) (B : Bn K mg c_EmptyHeap c_InRing c_NoAmount c_NoDish c_NoName c_NoNet c_NoNumber c_NoPack c_NoPlan c_NoRow c_NoStand c_NoStandIn c_NoStep c_StoveError c_TooFew c_TooMany c_Twice)  : FnOk P w K mg base CX0 1 f fd ["one", "other"] (spLess K) := by
  have sc := scis_less
  refine F.ok sc (fun vs H Q E h => ?_) (fun cdv A outer s H vs Q E hr h => ?_)
  · obtain ⟨t, t2, p, q, p2, q2, rfl, _⟩ := h
    rfl
  obtain ⟨t, t', p, q, p', q', rfl, h1, h2, qq⟩ := h
  refine ⟨_, (pss_one (ps_ret (pe_cmpR op_lt (pe_op op_mulB (pe_ix ix_tup (pv 0) pe_int (fun _ _ => rfl)) (pe_ix ix_tup (pv 1) pe_int (fun _ _ => rfl))) (pe_op op_mulB (pe_ix ix_tup (pv 1) pe_int (fun _ _ => rfl)) (pe_ix ix_tup (pv 0) pe_int (fun _ _ => rfl))) (nomark _)))), ?_⟩
  exact ⟨_, rfl, _, _, _, _, rfl, rfl, h1.at_, rfl, _, rfl, _, _, _, _, rfl, rfl, h2.at_, rfl, _, _, rfl, rfl, h1.bp.ok h2.bq, _, rfl, _, _, _, _, rfl, rfl, h2.at_, rfl, _, rfl, _, _, _, _, rfl, rfl, h1.at_, rfl, _, _, rfl, rfl, h2.bp.ok h1.bq, _, _, rfl, rfl, qq⟩

theorem scround_up : FnScope ["one"] ["one"] (defScope sround_up) := ⟨rfl, rfl, rfl, by decide +kernel, rfl, by decide +kernel, by decide +kernel⟩
set_option maxHeartbeats 4000000 in
theorem okround_up {dV : Value} (F : FunD K "round_up" "round_up" sround_up dV f fd) (B : Bn K mg c_EmptyHeap c_InRing c_NoAmount c_NoDish c_NoName c_NoNet c_NoNumber c_NoPack c_NoPlan c_NoRow c_NoStand c_NoStandIn c_NoStep c_StoveError c_TooFew c_TooMany c_Twice)  : FnOk P w K mg base CX0 1 f fd ["one"] (spUp K) := by
  have sc := scround_up
  refine F.ok sc (fun vs H Q E h => ?_) (fun cdv A outer s H vs Q E hr h => ?_)
  · obtain ⟨t, p, q, rfl, _⟩ := h
    rfl
  obtain ⟨t, p, q, rfl, h1, qq⟩ := h
  refine ⟨_, (pss_one (ps_ret (pe_un un_neg (pe_op op_fdivB (pe_un un_neg (pe_ix ix_tup (pv 0) pe_int (fun _ _ => rfl))) (pe_ix ix_tup (pv 0) pe_int (fun _ _ => rfl)))))), ?_⟩
  have q0 : q ≠ 0 := by have := h1.pos; omega
  exact ⟨_, rfl, _, _, _, _, rfl, rfl, h1.at_, rfl, _, rfl, _, rfl, _, _, _, _, rfl, rfl, h1.at_, rfl, _, _, rfl, rfl, ⟨q0, h1.bq.div q0⟩, _, rfl, qq⟩

theorem scpacks_for : FnScope ["need", "size", "have", "there", "missing", "count", "bought"] ["need", "size", "have"] (defScope spacks_for) := ⟨rfl, rfl, rfl, by decide +kernel, rfl, by decide +kernel, by decide +kernel⟩
set_option maxHeartbeats 4000000 in
theorem okpacks_for {dV : Value} (F : FunD K "packs_for" "packs_for" spacks_for dV f fd) (B : Bn K mg c_EmptyHeap c_InRing c_NoAmount c_NoDish c_NoName c_NoNet c_NoNumber c_NoPack c_NoPlan c_NoRow c_NoStand c_NoStandIn c_NoStep c_StoveError c_TooFew c_TooMany c_Twice) (Dfraction : Dx P w K mg base CX0 2 "fraction" ["top", "bottom"] [.int 1] spFr) (Dplus : Dx P w K mg base CX0 3 "plus" ["one", "other"] [] (spPlus K)) (Dminus : Dx P w K mg base CX0 3 "minus" ["one", "other"] [] (spMinus K)) (Dproduct : Dx P w K mg base CX0 3 "product" ["one", "other"] [] (spProd K)) (Dquotient : Dx P w K mg base CX0 3 "quotient" ["one", "other"] [] (spQuot K)) (Dround_up : Dx P w K mg base CX0 1 "round_up" ["one"] [] (spUp K)) : FnOk P w K mg base (CX1 P w) 4 f fd ["need", "size", "have"] (spPackX K c_NoNumber) := by
  have sc := scpacks_for
  refine F.okX sc (fun vs H Q E h => ?_) (fun cdv A outer s H vs Q E hr h => ?_)
  · obtain ⟨t, t2, hv, p, q, p2, q2, a0, b0, rfl, _⟩ := h
    rfl
  obtain ⟨t1, t2, hv, p, q, p2, q2, a0, b0, rfl, h1, h2, h3, qq, qe⟩ := h
  refine ⟨_, (pss_cons (ps_if (pt_cmpR op_le (pe_ix ix_tup (pv 1) pe_int (fun _ _ => rfl)) pe_int (nomark _)) (pss_one (ps_raise B.x_NoNumber rfl B.m_NoNumber rfl passX (pa_cons pe_str pa_nil))) pss_nil) (pss_cons (ps_set (i := 3) sc.nd rfl (Or.inl rfl) (pe_ifExp (pt_cmpR op_isN (pv 2) pe_non (nomark _)) (pcall0d Dfraction hr (by decide) rfl (pa_cons pe_int pa_nil)) (pv 2))) (pss_cons (ps_set (i := 4) sc.nd rfl (Or.inl rfl) (pcall0 Dminus hr (by decide) rfl (pa_cons (pv 0) (pa_cons (pv 3) pa_nil)))) (pss_cons (ps_set (i := 5) sc.nd rfl (Or.inl rfl) (pe_callB (call_max2 rfl) rfl B.b_max boot_max (pa_cons pe_int (pa_cons (pcall0 Dround_up hr (by decide) rfl (pa_cons (pcall0 Dquotient hr (by decide) rfl (pa_cons (pv 4) (pa_cons (pv 1) pa_nil))) pa_nil)) pa_nil)))) (pss_cons (ps_set (i := 6) sc.nd rfl (Or.inl rfl) (pcall0 Dproduct hr (by decide) rfl (pa_cons (pcall0d Dfraction hr (by decide) rfl (pa_cons (pv 5) pa_nil)) (pa_cons (pv 1) pa_nil)))) (pss_one (ps_ret (pe_tup (pa_cons (pv 5) (pa_cons (pcall0 Dminus hr (by decide) rfl (pa_cons (pcall0 Dplus hr (by decide) rfl (pa_cons (pv 3) (pa_cons (pv 6) pa_nil))) (pa_cons (pv 0) pa_nil))) pa_nil)))))))))), ?_⟩
  refine ⟨_, rfl, _, _, _, _, rfl, rfl, h2.at_, rfl, _, _, rfl, rfl, _, rfl, d2 (fun z => ⟨by show 1 ≤ sizeLine; decide, qe z⟩) (fun z => ?_)⟩
  have z2 : 0 < p2 := by omega
  have qq := qq z2
  try dsimp only [gName, tNext]
  refine cut (fun σ H' => ∃ t3, σ = [some (.ref t1), some (.ref t2), some hv, some (.ref t3), none, none, none] ∧ Same H H' ∧ FrIn K 700 H' t3 a0 b0) (fun N hN => ?_) ?_
  · rcases h3 with ⟨rfl, rfl, rfl⟩ | ⟨t3, rfl, h3⟩
    · refine ⟨_, rfl, rfl, _, rfl, dT rfl ?_⟩
      refine ⟨0, 1, rfl, by decide, Bd.one.mono (by decide), fun p' q' f t H' g e => hN _ _ ⟨t, rfl, g, ?_⟩⟩
      obtain ⟨rfl, rfl⟩ := fr_zero f
      exact ⟨SqT.of e, by decide, Bd.zero.mono (by decide), Bd.one.mono (by decide)⟩
    · exact ⟨_, rfl, rfl, _, rfl, dF (fun z => nomatch z) ⟨_, rfl, hN _ _ ⟨t3, rfl, .refl H, h3⟩⟩⟩
  rintro σ H1 ⟨t3, rfl, g1, F3⟩
  have F1 := h1.same g1
  have F2 := h2.same g1
  refine ⟨_, rfl, _, rfl, t1, t3, p, q, a0, b0, rfl, F1.mono (by decide), F3.mono (by decide), fun m1 m2 f1 tm H2 g2 e2 => ?_⟩
  have Fm : FrIn K 1401 H2 tm m1 m2 := .of f1 ((F1.bp.mul F3.bq).sub (F3.bp.mul F1.bq)) ((F1.bq.mul F3.bq).mono (by decide)) e2
  have F1 := F1.same g2
  have F2 := F2.same g2
  have F3 := F3.same g2
  refine ⟨_, rfl, _, rfl, tm, t2, m1, m2, p2, q2, rfl, Fm.mono (by decide), F2.mono (by decide), by omega, fun r s f2 tq H3 g3 e3 => ?_⟩
  have Fq : FrIn K 2101 H3 tq r s := .of f2 ((Fm.bp.mul F2.bq).mono (by decide)) ((Fm.bq.mul F2.bp).mono (by decide)) e3
  have F1 := F1.same g3
  have F2 := F2.same g3
  have F3 := F3.same g3
  refine ⟨tq, r, s, rfl, Fq.mono (by decide), _, _, rfl, ?_⟩
  have cb : Bd 2101 (if -((-r).fdiv s) > 0 then -((-r).fdiv s) else 0) := by
    split
    · exact (fdiv_bd Fq.bp.neg).neg
    · exact Bd.zero.mono (by decide)
  refine ⟨_, rfl, _, 1, rfl, by decide, Bd.one.mono (by decide), fun n1 d1 f3 tf H4 g4 e4 => ?_⟩
  obtain ⟨rfl, rfl⟩ := fr_whole f3
  have Ff : FrIn K 2101 H4 tf _ 1 := ⟨SqT.of e4, by decide, cb, Bd.one.mono (by decide)⟩
  have F1 := F1.same g4
  have F2 := F2.same g4
  have F3 := F3.same g4
  refine ⟨_, rfl, tf, t2, _, 1, p2, q2, rfl, Ff.mono (by decide), F2.mono (by decide), fun u v f4 tb H5 g5 e5 => ?_⟩
  have Fb : FrIn K 2801 H5 tb u v := .of f4 (Ff.bp.mul F2.bp) (Ff.bq.mul F2.bq) e5
  have F1 := F1.same g5
  have F3 := F3.same g5
  refine ⟨_, rfl, _, rfl, _, rfl, t3, tb, a0, b0, u, v, rfl, F3.mono (by decide), Fb.mono (by decide), fun g h f5 tg H6 g6 e6 => ?_⟩
  have Fg : FrIn K 3502 H6 tg g h := .of f5 ((F3.bp.mul Fb.bq).add ((Fb.bp.mul F3.bq).mono (by decide))) ((F3.bq.mul Fb.bq).mono (by decide)) e6
  have F1 := F1.same g6
  refine ⟨_, rfl, tg, t1, g, h, p, q, rfl, Fg.mono (by decide), F1.mono (by decide), fun l m f6 tl H7 g7 e7 => ?_⟩
  have Fl : FrIn K 4203 H7 tl l m := .of f6 ((Fg.bp.mul F1.bq).sub ((F1.bp.mul Fg.bq).mono (by decide))) ((Fg.bq.mul F1.bq).mono (by decide)) e7
  refine ⟨by show 2 ≤ sizeLine; decide, fun tt ht => ?_⟩
  have ok := pack_ok h1.pos z2 F3.pos f1.same Fm.pos f2.same Fq.pos Fb.pos Fg.pos f4.same f5.same f6.same f6.to (Fq.bp.mono (by decide)) (Fl.bp.mono (by decide)) (Fl.bq.mono (by decide))
  refine qq _ l m ok tl tt _ ((((((g1.trans g2).trans g3).trans g4).trans g5).trans g6).trans (g7.trans (same_new ht _))) ?_ upd_same
  rw [upd_ne (ne_of_none e7 ht)]
  exact e7

theorem scpacks_of_need : FnScope ["need", "sizes", "have"] ["need", "sizes", "have"] (defScope spacks_of_need) := ⟨rfl, rfl, rfl, by decide +kernel, rfl, by decide +kernel, by decide +kernel⟩
set_option maxHeartbeats 4000000 in
theorem okpacks_of_need {dV : Value} (F : FunD K "packs_of_need" "packs_of_need" spacks_of_need dV f fd) (B : Bn K mg c_EmptyHeap c_InRing c_NoAmount c_NoDish c_NoName c_NoNet c_NoNumber c_NoPack c_NoPlan c_NoRow c_NoStand c_NoStandIn c_NoStep c_StoveError c_TooFew c_TooMany c_Twice) (Dminus : Dx P w K mg base CX0 3 "minus" ["one", "other"] [] (spMinus K)) (Dis_less : Dx P w K mg base CX0 1 "is_less" ["one", "other"] [] (spLess K)) (Dpacks_for : Dx P w K mg base CX0 4 "packs_for" ["need", "size", "have"] [.non] (spPack K)) (I_NoPack : DxI P w K mg base 1 c_NoPack ["self", "good"] (spInit c_NoPack "good")) : FnOk P w K mg base (CX1 P w) 5 f fd ["need", "sizes", "have"] (spPackOf c_NoPack) := by
  have sc := scpacks_of_need
  refine F.okX sc (fun vs H Q E h => ?_) (fun cdv A outer s H vs Q E hr h => ?_)
  · obtain ⟨n, ds, th, ks, gs, gh, rfl, _⟩ := h
    rfl
  obtain ⟨n, ds, th, ks, gs, gh, rfl, nd, D, sz, am, eth, qn, qe⟩ := h
  refine ⟨_, (pss_cons (ps_if (pt_not (pt_val (pcall0 Dis_less hr (by decide) rfl (pa_cons (pv 2) (pa_cons (pe_ix ix_tup (pv 0) pe_int (fun _ _ => rfl)) pa_nil))))) (pss_one (ps_ret (pe_tup (pa_cons pe_int (pa_cons (pcall0 Dminus hr (by decide) rfl (pa_cons (pv 2) (pa_cons (pe_ix ix_tup (pv 0) pe_int (fun _ _ => rfl)) pa_nil))) pa_nil))))) pss_nil) (pss_cons (ps_if (pt_cmp (pc_dnotin (hu_of hr) (pe_ix ix_tup (pv 0) pe_int (fun _ _ => rfl)) (pv 1)) (by with_unfolding_all rfl)) (pss_one (praiseI I_NoPack hr (by decide) rfl B.m_NoPack rfl passX (pa_cons (pe_ix ix_tup (pv 0) pe_int (fun _ _ => rfl)) pa_nil))) pss_nil) (pss_one (ps_ret (pcall0 Dpacks_for hr (by decide) rfl (pa_cons (pe_ix ix_tup (pv 0) pe_int (fun _ _ => rfl)) (pa_cons (pe_dget (hu_of hr) (pv 1) (pe_ix ix_tup (pv 0) pe_int (fun _ _ => rfl)) (fun _ _ => rfl)) (pa_cons (pv 2) pa_nil)))))))), ?_⟩
  have lF : decide ((haveF gh n.s).1 * n.q < n.p * (haveF gh n.s).2) = lessF gh n := rfl
  have lN : lackN gs gh n = ((gs n.s).isNone && lessF gh n) := rfl
  have F0 : FrIn K 150 H th (haveF gh n.s).1 (haveF gh n.s).2 := am.fr eth
  have F1 : FrIn K 150 H n.a n.p n.q := nd.ok.fr nd.ea
  refine ⟨_, rfl, _, rfl, n.t, _, _, _, rfl, rfl, SqT.of nd.e, rfl, th, n.a, (haveF gh n.s).1, (haveF gh n.s).2, n.p, n.q, rfl, F0.mono (by decide), F1.mono (by decide), _, rfl, ?_⟩
  rw [lF]
  cases hl : lessF gh n with
  | false =>
    rw [hl, Bool.and_false] at lN
    refine iteT ⟨_, rfl, _, rfl, n.t, _, _, _, rfl, rfl, SqT.of nd.e, rfl, th, n.a, (haveF gh n.s).1, (haveF gh n.s).2, n.p, n.q, rfl, F0.mono (by decide), F1.mono (by decide), fun r s f tl H1 g1 e1 => ⟨(by show 2 ≤ sizeLine; decide), fun t nt => ?_⟩⟩
    have g2 := same_new nt (.tup [.int 0, .ref tl])
    have b1 : Bd 301 ((haveF gh n.s).1 * n.q - n.p * (haveF gh n.s).2) := (F0.bp.mul F1.bq).sub (F1.bp.mul F0.bq)
    have b2 : Bd 300 ((haveF gh n.s).2 * n.q) := F0.bq.mul F1.bq
    exact qn lN t tl 0 r s _ (g1.trans g2) upd_same (g2 _ _ e1) ⟨f.to, (b1.of_le f.bt).mono (by decide), (b2.of_le f.bb).mono (by decide), fun _ => ⟨rfl, f.same⟩, fun z => by rw [hl] at z; cases z⟩
  | true =>
    rw [hl, Bool.and_true] at lN
    refine iteF ⟨_, rfl, n.t, _, _, _, rfl, rfl, SqT.of nd.e, rfl, _, rfl, ds, _, rfl, DGet.k (k := .inr n.s) D.e, _, rfl, ?_⟩
    cases hg : gs n.s with
    | none =>
      rw [hg] at lN
      rw [D.no _ hg]
      refine iteT ⟨_, rfl, n.t, _, _, _, rfl, rfl, SqT.of nd.e, rfl, (by show 1 ≤ sizeLine; decide), fun xa na => init_of na fun d H2 g ea ed ne gd edd => ⟨rfl, d, ea, ?_⟩⟩
      exact qe lN d _ gd edd
    | some pq =>
      obtain ⟨p2, q2⟩ := pq
      rw [hg] at lN
      obtain ⟨ok2, t2, hv, et2⟩ := D.yes _ _ _ hg
      rw [hv]
      have F2 : FrIn K 150 H t2 p2 q2 := ok2.fr et2
      refine iteF ⟨_, rfl, n.t, _, _, _, rfl, rfl, SqT.of nd.e, rfl, _, rfl, _, rfl, n.t, _, _, _, rfl, rfl, SqT.of nd.e, rfl, ds, .ref t2, rfl, (by rw [← hv]; exact DGet.k (k := .inr n.s) D.e), _, rfl, n.a, t2, .ref th, n.p, n.q, p2, q2, (haveF gh n.s).1, (haveF gh n.s).2, rfl, F1.mono (by decide), F2.mono (by decide), .inr ⟨th, rfl, F0.mono (by decide)⟩, sz _ _ _ hg, fun k l m ok tl tt H' g etl ett => ?_⟩
      exact qn lN tt tl k l m H' g ett etl ⟨ok.low, ok.bl, ok.bm, (fun z => by rw [hl] at z; cases z), fun _ => ⟨p2, q2, hg, ok⟩⟩

theorem scbought_of : FnScope ["needed", "sizes", "shelf", "there", "bought", "need", "have", "packs"] ["needed", "sizes", "shelf"] (defScope sbought_of) := ⟨rfl, rfl, rfl, by decide +kernel, rfl, by decide +kernel, by decide +kernel⟩
set_option maxHeartbeats 4000000 in
theorem okbought_of {dV : Value} (F : FunD K "bought_of" "bought_of" sbought_of dV f fd) (B : Bn K mg c_EmptyHeap c_InRing c_NoAmount c_NoDish c_NoName c_NoNet c_NoNumber c_NoPack c_NoPlan c_NoRow c_NoStand c_NoStandIn c_NoStep c_StoveError c_TooFew c_TooMany c_Twice) (Xfraction : Dx P w K mg base (CX1 P w) 2 "fraction" ["top", "bottom"] [.int 1] (spFrZ c_NoNumber)) (Xpacks_of_need : Dx P w K mg base (CX1 P w) 5 "packs_of_need" ["need", "sizes", "have"] [] (spPackOf c_NoPack)) : FnOk P w K mg base (CX1 P w) 6 f fd ["needed", "sizes", "shelf"] (spBought c_NoPack) := by
  have sc := scbought_of
  refine F.okX sc (fun vs H Q E h => ?_) (fun cdv A outer s H vs Q E hr h => ?_)
  · obtain ⟨l, ds, hv, nds, ks, kh, gs, gh, rfl, _⟩ := h
    rfl
  obtain ⟨l, ds, hv, nds, ks, kh0, gs, gh, rfl, ne, D, sz, hh, qn, qe⟩ := h
  refine ⟨_, (pss_cons (ps_set (i := 3) sc.nd rfl (Or.inl rfl) (pe_ifExp (pt_cmpR op_isN (pv 2) pe_non (nomark _)) pe_dnewK (pv 2))) (pss_cons (ps_set (i := 4) sc.nd rfl (Or.inl rfl) (pe_lst pa_nil)) (pss_cons (ps_for (own_XS rfl rfl) rfl (pi_list (pv 0)) (pg_name (i := 5) sc.nd rfl (Or.inl rfl)) (pss_cons (ps_set (i := 6) sc.nd rfl (Or.inl rfl) (pe_dget2 (hu_of hr) (pv 3) (pe_ix ix_tup (pv 5) pe_int (fun _ _ => rfl)) (pcall1d Xfraction hr (by decide) rfl passX (pa_cons pe_int pa_nil)) ⟨rfl, rfl, rfl, rfl⟩)) (pss_cons (ps_set (i := 7) sc.nd rfl (Or.inl rfl) (pcall1 Xpacks_of_need hr (by decide) rfl passX (pa_cons (pv 5) (pa_cons (pv 1) (pa_cons (pv 6) pa_nil))))) (pss_one (ps_expr (pe_bm PySem.F.plainAttrs_list PySem.F.slot_list_append PySem.F.type_list_append mt_append (pv 4) (pa_cons (pe_tup (pa_cons (pe_ix ix_tup (pv 5) pe_int (fun _ _ => rfl)) (pa_cons (pe_ix ix_tup (pv 7) pe_int (fun _ _ => rfl)) (pa_cons (pe_ix ix_tup (pv 7) pe_int (fun _ _ => rfl)) pa_nil)))) pa_nil))))))) (pss_one (ps_ret (pv 4)))))), ?_⟩
  have sl : sizeLine = 16777216 := sizeLine_eq
  try dsimp only [gName, tNext]
  refine cut (fun σ H' => ∃ (dh : Addr) (kh : List (Key × V)), σ = [some (.ref l), some (.ref ds), some hv, some (.ref dh), none, none, none, none] ∧ Same H H' ∧ DA H' dh kh gh) (fun N hN => ?_) ?_
  · rcases hh with ⟨rfl, rfl⟩ | ⟨dh, rfl, Dh⟩
    · exact ⟨_, rfl, rfl, _, rfl, dT rfl fun d nd => hN _ _ ⟨d, [], rfl, same_new nd _, DA.nil upd_same⟩⟩
    · exact ⟨_, rfl, rfl, _, rfl, dF nofun ⟨_, rfl, hN _ _ ⟨dh, kh0, rfl, .refl _, Dh⟩⟩⟩
  rintro σ H1 ⟨dh, kh, rfl, g1, Dh⟩
  refine ⟨(by show 0 ≤ sizeLine; decide), fun lb nlb => ?_⟩
  have g2 := same_new nlb (.lst [])
  have k2 := g1.trans g2
  refine ⟨_, rfl, l, rfl, ⟨_, SqL.of (k2 _ _ ne.e)⟩, for_list (xs := nds.map fun n => V.ref n.t) (fun k σ H' => ∃ (o5 o6 o7 : Option V) (ts : List Addr), σ = [some (.ref l), some (.ref ds), some hv, some (.ref dh), some (.ref lb), o5, o6, o7] ∧ Same H1 H' ∧ H' lb = some (.lst (ts.map V.ref)) ∧ Ref2 (RwA H' gs gh) ts (nds.take k) ∧ ∀ m ∈ nds.take k, lackN gs gh m = false) ⟨none, none, none, [], rfl, g2, upd_same, Ref2.nil, fun m hm => by simp at hm⟩ (fun k σ H' _ h => by obtain ⟨_, _, _, _, _, g, _⟩ := h; exact SqL.of (g _ _ (g1 _ _ ne.e))) ?_ ?_⟩
  · rintro k y σ H3 hy ⟨o5, o6, o7, ts, rfl, g3, eb, rt, nl⟩
    rw [List.getElem?_map] at hy
    obtain ⟨n, hn, rfl⟩ := Option.map_eq_some_iff.mp hy
    have k3 := g1.trans g3
    have nd := (ne.each n (List.mem_of_getElem? hn)).same k3
    have Dh3 := Dh.same g3
    refine ⟨_, rfl, dh, rfl, .inl ⟨_, .inl Dh3.e⟩, _, rfl, n.t, _, _, _, rfl, rfl, SqT.of nd.e, rfl, 0, 1, rfl, Bd.one.mono (by decide), fun _ p' q' f tz H4 g4 e4 => ?_, fun z => absurd z (by decide)⟩
    obtain ⟨rfl, rfl⟩ := fr_zero f
    obtain ⟨th, hv', eth, am⟩ := (Dh3.same g4).have n.s e4
    refine ⟨_, DGet.k (k := .inr n.s) (g4 _ _ Dh3.e), ?_⟩
    rw [hv']
    have k4 := k3.trans g4
    have lts : ts.length ≤ 12 := by rw [rt.1, List.length_take]; have := ne.few; omega
    refine ⟨_, rfl, _, rfl, _, rfl, n, ds, th, ks, gs, gh, rfl, nd.same g4, D.same k4, sz, am, eth, fun lk t tl c lf m H5 g5 et etl ok => ?_, fun lk d H5 g5 ed => qe n.s (lack_snoc hn nl lk) d H5 (k4.trans g5) ed⟩
    have k5 := g4.trans g5
    refine ⟨_, rfl, .inl ⟨rfl, _, SqL.of (k5 _ _ eb)⟩, _, rfl, n.t, _, _, _, rfl, rfl, SqT.of (g5 _ _ (g4 _ _ nd.e)), rfl, _, rfl, t, _, _, _, rfl, rfl, SqT.of et, rfl, _, rfl, t, _, _, _, rfl, rfl, SqT.of et, rfl, (by show 3 ≤ sizeLine; decide), fun tr ntr => ?_⟩
    have g6 := same_new ntr (.tup [.str n.s, .int c, .ref tl])
    have k6 := k5.trans g6
    refine ⟨lb, _, _, rfl, rfl, k6 _ _ eb, by rw [List.length_map]; omega, _, _, _, ts ++ [tr], rfl, sUpd (g3.trans k6) nlb _, by rw [upd_same, List.map_append]; rfl, ?_, ?_⟩
    · have tu : ∀ a xs, upd (upd H5 tr (.tup [.str n.s, .int c, .ref tl])) a xs = upd (upd H5 tr (.tup [.str n.s, .int c, .ref tl])) a xs := fun _ _ => rfl
      have kp : ∀ a xs, upd H5 tr (.tup [.str n.s, .int c, .ref tl]) a = some (.tup xs) → upd (upd H5 tr (.tup [.str n.s, .int c, .ref tl])) lb (.lst (ts.map V.ref ++ [.ref tr])) a = some (.tup xs) := fun a xs e => by
        rw [upd_ne (fun z => by rw [z, k6 _ _ eb] at e; cases e)]
        exact e
      rw [take_snoc hn]
      exact (rt.imp fun a x q => (q.same k6).tups kp).snoc ((⟨tl, c, lf, m, upd_same, g6 _ _ etl, ok⟩ : RwA (upd H5 tr (.tup [.str n.s, .int c, .ref tl])) gs gh tr n).tups kp)
    · intro m hm
      rw [take_snoc hn] at hm
      rcases List.mem_append.mp hm with z | z
      · exact nl m z
      · rw [List.mem_singleton.mp z]; exact lk
  · rintro σ H3 ⟨o5, o6, o7, ts, rfl, g3, eb, rt, nl⟩
    rw [List.length_map, List.take_length] at rt nl
    exact ⟨_, rfl, qn (lack_none nl) lb _ (g1.trans g3) (g1.free nlb) ⟨ts, eb, rt⟩⟩

theorem sc_law_cell_at : FnScope ["_law_script", "_law_k"] ["_law_script", "_law_k"] (defScope s_law_cell_at) := ⟨rfl, rfl, rfl, by decide +kernel, rfl, by decide +kernel, by decide +kernel⟩
set_option maxHeartbeats 4000000 in
theorem ok_law_cell_at {dV : Value} (F : FunD K "_law_cell_at" "_law_cell_at" s_law_cell_at dV f fd) (B : Bn K mg c_EmptyHeap c_InRing c_NoAmount c_NoDish c_NoName c_NoNet c_NoNumber c_NoPack c_NoPlan c_NoRow c_NoStand c_NoStandIn c_NoStep c_StoveError c_TooFew c_TooMany c_Twice)  : FnOk P w K mg base CX0 1 f fd ["_law_script", "_law_k"] (spCell K) := by
  have sc := sc_law_cell_at
  refine F.ok sc (fun vs H Q E h => ?_) (fun cdv A outer s H vs Q E hr h => ?_)
  · obtain ⟨a, ns, k, rfl, _⟩ := h
    rfl
  obtain ⟨a, ns, k, rfl, hS, h0, q⟩ := h
  refine ⟨_, (pss_cons (ps_if (pt_cmpR op_lt (pv 1) (pe_callB call_len_seq rfl B.b_len boot_len (pa_cons (pv 0) pa_nil)) (nomark _)) (pss_one (ps_ret (pe_ix ix_list (pv 0) (pv 1) (fun _ _ => rfl)))) pss_nil) (pss_one (ps_ret pe_int))), ?_⟩
  refine ⟨_, rfl, _, rfl, a, _, rfl, .inl hS, _, _, rfl, rfl, _, rfl, d2 (fun c => ?_) (fun c => ?_)⟩
  · obtain ⟨v, hv⟩ := cell_ok h0 c
    exact ⟨_, rfl, _, rfl, a, _, _, _, rfl, rfl, hS, hv, q v⟩
  · exact q 0

theorem sc_law_names : FnScope ["_law_number", "_law_many", "_law_cell", "_law_letters", "_law_base", "_law_k", "_law_at", "_law_size", "_law_step", "_law_core", "_law_names_here", "_law_sign"] ["_law_number", "_law_many"] (defScope s_law_names) := ⟨rfl, rfl, rfl, by decide +kernel, rfl, by decide +kernel, by decide +kernel⟩
set_option maxHeartbeats 4000000 in
theorem ok_law_names {dV : Value} (F : FunD K "_law_names" "_law_names" s_law_names dV f fd) (B : Bn K mg c_EmptyHeap c_InRing c_NoAmount c_NoDish c_NoName c_NoNet c_NoNumber c_NoPack c_NoPlan c_NoRow c_NoStand c_NoStandIn c_NoStep c_StoveError c_TooFew c_TooMany c_Twice)  : FnOk P w K mg base CX0 1 f fd ["_law_number", "_law_many"] spNames14 := by
  have sc := sc_law_names
  refine F.ok sc (fun vs H Q E h => ?_) (fun cdv A outer s H vs Q E hr h => ?_)
  · obtain ⟨n, m, rfl, _⟩ := h
    rfl
  obtain ⟨nb, many, rfl, m14, q⟩ := h
  have m0 : 0 ≤ many := by omega
  have m1 : many ≤ 90 := by omega
  refine ⟨_, (pss_cons (ps_set (i := 2) sc.nd rfl (Or.inl rfl) (pe_op op_modN (pv 0) pe_int)) (pss_cons (ps_set (i := 3) sc.nd rfl (Or.inl rfl) pe_str) (pss_cons (ps_set (i := 4) sc.nd rfl (Or.inl rfl) pe_str) (pss_cons (ps_for PassesOwn.never rfl (pi_range1 rfl B.b_range (pa_cons pe_int pa_nil)) (pg_name (i := 5) sc.nd rfl (Or.inl rfl)) (pss_one (ps_set (i := 4) sc.nd rfl (Or.inl rfl) (pe_op op_add_str (pv 4) (pe_ix ix_str (pv 3) (pe_op op_modN (pe_op op_modN (pe_op op_mulB (pe_op op_add (pv 2) pe_int) (pe_op op_add (pe_op op_add (pe_op op_mulB (pv 5) (pv 5)) (pe_op op_mulB pe_int (pv 5))) pe_int)) pe_int) pe_int) (fun _ _ => rfl)))))) (pss_cons (ps_set (i := 6) sc.nd rfl (Or.inl rfl) (pe_op op_modN (pe_op op_fdivB (pv 2) pe_int) pe_int)) (pss_cons (ps_set (i := 7) sc.nd rfl (Or.inl rfl) (pe_op op_modN (pe_op op_fdivB (pv 2) pe_int) pe_int)) (pss_cons (ps_set (i := 8) sc.nd rfl (Or.inl rfl) (pe_ix ix_list (pe_lst (pa_cons pe_int (pa_cons pe_int (pa_cons pe_int (pa_cons pe_int (pa_cons pe_int (pa_cons pe_int (pa_cons pe_int (pa_cons pe_int pa_nil))))))))) (pe_op op_modN (pe_op op_fdivB (pv 2) pe_int) pe_int) (fun _ _ => rfl))) (pss_cons (ps_set (i := 9) sc.nd rfl (Or.inl rfl) (pe_slice sl_str (pv 4) po_none (po_some (pv 7)))) (pss_cons (ps_set (i := 10) sc.nd rfl (Or.inl rfl) (pe_lst pa_nil)) (pss_cons (ps_for PassesOwn.never rfl (pi_range1 rfl B.b_range (pa_cons (pv 1) pa_nil)) (pg_name (i := 5) sc.nd rfl (Or.inl rfl)) (pss_cons (ps_set (i := 11) sc.nd rfl (Or.inl rfl) (pe_ix ix_str (pv 3) (pe_op op_modN (pe_op op_add (pe_op op_fdivB (pv 2) pe_int) (pe_op op_mulB (pv 5) (pv 8))) pe_int) (fun _ _ => rfl))) (pss_one (ps_if (pt_cmpR op_gt (pv 1) pe_int (nomark _)) (pss_one (ps_expr (pe_bm PySem.F.plainAttrs_list PySem.F.slot_list_append PySem.F.type_list_append mt_append (pv 10) (pa_cons (pe_op op_add_str (pe_op op_add_str (pe_op op_add_str (pe_slice sl_str (pv 9) po_none (po_some (pv 6))) (pe_ix ix_str (pv 3) (pe_op op_fdivB (pv 5) pe_int) (fun _ _ => rfl))) (pv 11)) (pe_slice sl_str (pv 9) (po_some (pv 6)) po_none)) pa_nil)))) (pss_one (ps_if (PW.pt (pw_and (pt_cmpR op_eq (pe_op op_modN (pv 2) pe_int) pe_int (nomark _)) (pw_and1 (pt_cmpR op_le (pv 1) pe_int (nomark _))))) (pss_one (ps_expr (pe_bm PySem.F.plainAttrs_list PySem.F.slot_list_append PySem.F.type_list_append mt_append (pv 10) (pa_cons (pe_slice sl_str (pv 4) po_none (po_some (pe_op op_add (pv 5) pe_int))) pa_nil)))) (pss_one (ps_if (pt_cmpR op_eq (pe_op op_modN (pv 2) pe_int) pe_int (nomark _)) (pss_one (ps_expr (pe_bm PySem.F.plainAttrs_list PySem.F.slot_list_append PySem.F.type_list_append mt_append (pv 10) (pa_cons (pe_op op_add_str (pe_slice sl_str (pv 4) po_none (po_some (pe_op op_modN (pv 5) pe_int))) (pv 11)) pa_nil)))) (pss_one (ps_expr (pe_bm PySem.F.plainAttrs_list PySem.F.slot_list_append PySem.F.type_list_append mt_append (pv 10) (pa_cons (pe_op op_add_str (pe_op op_add_str (pe_slice sl_str (pv 9) po_none (po_some (pv 6))) (pv 11)) (pe_slice sl_str (pv 9) (po_some (pv 6)) po_none)) pa_nil)))))))))))) (pss_one (ps_ret (pv 10))))))))))))), ?_⟩
  refine ⟨_, rfl, _, _, rfl, rfl, (by show (1000003 : Int) ≠ 0; decide), ?_⟩
  have c0 := Int.fmod_nonneg_of_pos nb (show (0 : Int) < 1000003 by decide)
  have c1 := Int.fmod_lt_of_pos nb (show (0 : Int) < 1000003 by decide)
  have s9 : (9000 : Nat) ≤ sizeLine := by decide
  have one : ∀ c : Nat, (⟨#[c]⟩ : Str).length = 1 := fun _ => rfl
  have sm : ∀ (x : Int), 0 ≤ x → x < 2 ^ 30 → Bd 30 x := fun x h0 h1 => by unfold Bd; omega
  have bd3 : Bd 30 (3 : Int) := by unfold Bd; decide
  try dsimp only [gName, tNext]
  refine cut (fun σ H' => H = H' ∧ ∃ c : Int, 0 ≤ c ∧ c < 1000003 ∧ σ = [some (.int nb), some (.int many), some (.int c), some (.str lettT), none, none, none, none, none, none, none, none]) (fun N hN => hN _ _ ⟨rfl, _, c0, c1, rfl⟩) ?_
  clear c0 c1
  rintro σ _ ⟨rfl, c, c0, c1, rfl⟩
  refine cut (fun σ H' => H = H' ∧ σ = [some (.int nb), some (.int many), some (.int c), some (.str lettT), some (.str ""), none, none, none, none, none, none, none]) (fun N hN => hN _ _ ⟨rfl, rfl⟩) ?_
  rintro σ _ ⟨rfl, rfl⟩
  refine cut (fun σ H' => H = H' ∧ ∃ (b : Str) (o5 : Option V), σ = [some (.int nb), some (.int many), some (.int c), some (.str lettT), some (.str b), o5, none, none, none, none, none, none] ∧ b.length ≤ 12) (fun N hN => ?_) ?_
  · refine ⟨_, rfl, (by decide), (by decide), for_range (fun i σ H' => H = H' ∧ ∃ (b : Str) (o5 : Option V), σ = [some (.int nb), some (.int many), some (.int c), some (.str lettT), some (.str b), o5, none, none, none, none, none, none] ∧ b.length = i) ⟨rfl, _, none, rfl, rfl⟩ (fun i σ H' hi hP => ?_) (fun σ H' hP => ?_)⟩
    · obtain ⟨rfl, b, o5, rfl, hb⟩ := hP
      have hi' : i < 12 := hi
      have bk : Bd 30 (0 + (i : Int)) := sm _ (by omega) (by omega)
      have b1 : Bd 60 ((0 + (i : Int)) * (0 + (i : Int))) := bk.mul bk
      have b2 : Bd 60 (3 * (0 + (i : Int))) := bd3.mul bk
      have b3 : Bd 62 ((0 + (i : Int)) * (0 + (i : Int)) + 3 * (0 + (i : Int)) + 7) := (b1.add b2).add ((show Bd 61 (7 : Int) by unfold Bd; decide))
      have i0 := Int.fmod_nonneg_of_pos (((c + 1) * ((0 + (i : Int)) * (0 + (i : Int)) + 3 * (0 + (i : Int)) + 7)).fmod 1013) (show (0 : Int) < 26 by decide)
      have i1 := Int.fmod_lt_of_pos (((c + 1) * ((0 + (i : Int)) * (0 + (i : Int)) + 3 * (0 + (i : Int)) + 7)).fmod 1013) (show (0 : Int) < 26 by decide)
      obtain ⟨ch, hch⟩ := lett_at i0 i1
      refine ⟨_, rfl, _, rfl, _, rfl, _, _, rfl, rfl, _, rfl, _, rfl, _, _, rfl, rfl, bk.ok bk, _, rfl, _, _, rfl, rfl, bd3.ok bk, _, _, rfl, rfl, _, _, rfl, rfl, _, _, rfl, rfl, (sm (c + 1) (by omega) (by omega)).ok b3, _, _, rfl, rfl, (by show (1013 : Int) ≠ 0; decide), _, _, rfl, rfl, (by show (26 : Int) ≠ 0; decide), lettT, _, ch, rfl, rfl, (by decide), hch, _, _, rfl, rfl, ?_, ?_⟩
      · rw [one]; omega
      · exact ⟨rfl, _, _, rfl, by rw [Str.length_append, one, hb]⟩
    · obtain ⟨rfl, b, o5, rfl, hb⟩ := hP
      exact hN _ _ ⟨rfl, b, o5, rfl, by rw [hb]; exact Nat.le_refl _⟩
  rintro σ _ ⟨rfl, b, o5, rfl, hb⟩
  have hz : b.length ≤ sizeLine := by omega
  have a0 := Int.fmod_nonneg_of_pos (c.fdiv 3) (show (0 : Int) < 11 by decide)
  have z0 := Int.fmod_nonneg_of_pos (c.fdiv 40) (show (0 : Int) < 11 by decide)
  have t0 := Int.fmod_nonneg_of_pos (c.fdiv 500) (show (0 : Int) < 8 by decide)
  have t1 := Int.fmod_lt_of_pos (c.fdiv 500) (show (0 : Int) < 8 by decide)
  refine ⟨_, rfl, _, _, rfl, rfl, ⟨by show (3 : Int) ≠ 0; decide, PyProof.noPylong_small (by decide)⟩, _, _, rfl, rfl, (by show (11 : Int) ≠ 0; decide), ?_⟩
  refine ⟨_, rfl, _, _, rfl, rfl, ⟨by show (40 : Int) ≠ 0; decide, PyProof.noPylong_small (by decide)⟩, _, _, rfl, rfl, (by show (11 : Int) ≠ 0; decide), ?_⟩
  refine ⟨(by show 8 ≤ sizeLine; decide), fun ls ns => ?_⟩
  have g1 := same_new ns (.lst [.int 1, .int 3, .int 5, .int 7, .int 9, .int 11, .int 15, .int 17])
  obtain ⟨v, hv, ev⟩ := atI_in (xs := [V.int 1, V.int 3, V.int 5, V.int 7, V.int 9, V.int 11, V.int 15, V.int 17]) t0 (by show (c.fdiv 500).fmod 8 < ((8 : Nat) : Int); exact t1)
  obtain ⟨st, rfl, st0, st1, sto⟩ : ∃ y : Int, v = .int y ∧ 0 ≤ y ∧ y < 20 ∧ StepOk y := by
    simp at hv
    rcases hv with rfl | rfl | rfl | rfl | rfl | rfl | rfl | rfl
    all_goals exact ⟨_, rfl, by decide, by decide, by unfold StepOk; decide⟩
  refine ⟨_, rfl, _, _, rfl, rfl, ⟨by show (500 : Int) ≠ 0; decide, PyProof.noPylong_small (by decide)⟩, _, _, rfl, rfl, (by show (8 : Int) ≠ 0; decide), ls, _, _, _, rfl, rfl, SqL.of upd_same, ev, ?_⟩
  refine ⟨_, rfl, _, rfl, _, rfl, b, rfl, hz, ?_⟩
  have hc : (cutS b none (some ((c.fdiv 40).fmod 11))).length ≤ 12 := Nat.le_trans (cutS_length _ _ _) hb
  refine ⟨(by show 0 ≤ sizeLine; decide), fun lp np => ?_⟩
  generalize cutS b none (some ((c.fdiv 40).fmod 11)) = core at *
  have cz : core.length ≤ sizeLine := by omega
  have g2 := g1.trans (same_new np (.lst []))
  have cl : ∀ lo hi, (cutS core lo hi).length ≤ 12 := fun lo hi => Nat.le_trans (cutS_length _ _ _) hc
  have bl : ∀ lo hi, (cutS b lo hi).length ≤ 12 := fun lo hi => Nat.le_trans (cutS_length _ _ _) hb
  try dsimp only [gName, tNext]
  refine cut (fun σ H' => Same H H' ∧ ∃ (zs : List Str) (o5 o11 : Option V), σ = [some (.int nb), some (.int many), some (.int c), some (.str lettT), some (.str b), o5, some (.int ((c.fdiv 3).fmod 11)), some (.int ((c.fdiv 40).fmod 11)), some (.int st), some (.str core), some (.ref lp), o11] ∧ (zs.length : Int) = many ∧ H' lp = some (.lst (zs.map V.str)) ∧ ∀ k z, zs[k]? = some z → NmF (decide (c.fmod 3 = 2)) (cutS core none (some ((c.fdiv 3).fmod 11))).cps.toList (cutS core (some ((c.fdiv 3).fmod 11)) none).cps.toList (sgn (c.fdiv 7) st k) z) (fun N hN => ?_) ?_
  · refine ⟨_, rfl, _, rfl, (by omega), (by omega), for_range (fun i σ H' => Same H H' ∧ ∃ (zs : List Str) (o5 o11 : Option V), σ = [some (.int nb), some (.int many), some (.int c), some (.str lettT), some (.str b), o5, some (.int ((c.fdiv 3).fmod 11)), some (.int ((c.fdiv 40).fmod 11)), some (.int st), some (.str core), some (.ref lp), o11] ∧ zs.length = i ∧ H' lp = some (.lst (zs.map V.str)) ∧ ∀ k z, zs[k]? = some z → NmF (decide (c.fmod 3 = 2)) (cutS core none (some ((c.fdiv 3).fmod 11))).cps.toList (cutS core (some ((c.fdiv 3).fmod 11)) none).cps.toList (sgn (c.fdiv 7) st k) z) ⟨g2, [], o5, none, rfl, rfl, upd_same, fun k z h => by simp at h⟩ (fun i σ H' hi hP => ?_) (fun σ H' hP => ?_)⟩
    · obtain ⟨g, zs, o5, o11, rfl, hl, e, nz⟩ := hP
      have hi' : (i : Int) < many := by have : i < many.toNat := hi; omega
      have i0 := Int.fmod_nonneg_of_pos (c.fdiv 7 + (0 + (i : Int)) * st) (show (0 : Int) < 26 by decide)
      have i1 := Int.fmod_lt_of_pos (c.fdiv 7 + (0 + (i : Int)) * st) (show (0 : Int) < 26 by decide)
      have hch := lett_ix i0 i1
      have hch' : 97 + ((c.fdiv 7 + (0 + (i : Int)) * st).fmod 26).toNat = sgn (c.fdiv 7) st i := rfl
      rw [hch'] at hch
      have k0 : 0 ≤ (0 + (i : Int)).fdiv 26 := by rw [Int.fdiv_eq_ediv_of_nonneg _ (by decide)]; omega
      have k1 : (0 + (i : Int)).fdiv 26 < 26 := by rw [Int.fdiv_eq_ediv_of_nonneg _ (by decide)]; omega
      obtain ⟨ch2, hch2⟩ := lett_at k0 k1
      have app : ∀ (z : Str), Same H (upd H' lp (.lst (zs.map V.str ++ [.str z]))) ∧ upd H' lp (.lst (zs.map V.str ++ [.str z])) lp = some (.lst ((zs ++ [z]).map V.str)) := fun z => ⟨sUpd g (g1.free np) _, by rw [upd_same, List.map_append]; rfl⟩
      have lnp : (zs.map V.str).length < sizeLine := by rw [List.length_map, hl]; omega
      refine ⟨_, rfl, _, rfl, _, _, rfl, rfl, ⟨by show (7 : Int) ≠ 0; decide, PyProof.noPylong_small (by decide)⟩, _, rfl, _, rfl, _, _, rfl, rfl, (sm _ (by omega) (by omega)).ok (sm st (by omega) (by omega)), _, _, rfl, rfl, _, _, rfl, rfl, (by show (26 : Int) ≠ 0; decide), lettT, _, sgn (c.fdiv 7) st i, rfl, rfl, (by decide), hch, ?_⟩
      have sn : ∀ z, NmF (decide (c.fmod 3 = 2)) (cutS core none (some ((c.fdiv 3).fmod 11))).cps.toList (cutS core (some ((c.fdiv 3).fmod 11)) none).cps.toList (sgn (c.fdiv 7) st i) z → ∀ k y, (zs ++ [z])[k]? = some y → NmF (decide (c.fmod 3 = 2)) (cutS core none (some ((c.fdiv 3).fmod 11))).cps.toList (cutS core (some ((c.fdiv 3).fmod 11)) none).cps.toList (sgn (c.fdiv 7) st k) y := fun z hz' k y hy => by
        by_cases ck : k < zs.length
        · rw [List.getElem?_append_left ck] at hy
          exact nz k y hy
        · rw [List.getElem?_append_right (by omega)] at hy
          have : k - zs.length = 0 := by
            cases hk : k - zs.length with
            | zero => rfl
            | succ n => rw [hk] at hy; simp at hy
          rw [this] at hy
          cases hy
          have : k = i := by omega
          rw [this]
          exact hz'
      refine ⟨_, rfl, _, _, rfl, rfl, _, rfl, d2 (fun z26 => absurd z26 (by omega)) (fun _ => ?_)⟩
      refine ⟨_, rfl, _, _, rfl, rfl, (by show (3 : Int) ≠ 0; decide), rfl, _, rfl, d2I (fun _ => ⟨_, rfl, _, _, rfl, rfl, _, rfl, d2 (fun z12 => absurd z12 (by omega)) (fun _ => ?_)⟩) (fun _ => ?_)⟩
      · refine ⟨_, rfl, _, _, rfl, rfl, (by show (3 : Int) ≠ 0; decide), rfl, _, rfl, d2I (fun c2 => ?_) (fun c2 => ?_)⟩
        · refine ⟨_, rfl, .inl ⟨rfl, _, SqL.of e⟩, _, rfl, _, rfl, _, _, rfl, rfl, (by show (11 : Int) ≠ 0; decide), _, rfl, b, rfl, hz, _, rfl, _, _, rfl, rfl, ?_, lp, _, _, rfl, rfl, e, lnp, (app _).1, _, _, _, rfl, by rw [List.length_append, hl]; rfl, (app _).2, sn _ ?_⟩
          · (simp only [Str.length_append, one]; have l3 := bl none (some ((0 + (i : Int)).fmod 11)); omega)
          · unfold NmF
            rw [if_pos (decide_eq_true c2)]
            exact ⟨_, cps_app _ _⟩
        · refine ⟨_, rfl, .inl ⟨rfl, _, SqL.of e⟩, _, rfl, _, rfl, _, rfl, core, rfl, cz, _, rfl, _, _, rfl, rfl, ?_, _, rfl, _, rfl, _, rfl, core, rfl, cz, _, _, rfl, rfl, ?_, lp, _, _, rfl, rfl, e, lnp, (app _).1, _, _, _, rfl, by rw [List.length_append, hl]; rfl, (app _).2, sn _ ?_⟩
          · (simp only [Str.length_append, one]; have l1 := cl none (some ((c.fdiv 3).fmod 11)); have l2 := cl (some ((c.fdiv 3).fmod 11)) none; omega)
          · (simp only [Str.length_append, one]; have l1 := cl none (some ((c.fdiv 3).fmod 11)); have l2 := cl (some ((c.fdiv 3).fmod 11)) none; omega)
          · unfold NmF
            rw [if_neg (by rw [decide_eq_false c2]; decide), cps_app, cps_app, List.append_assoc]
            rfl
      · refine ⟨_, rfl, _, _, rfl, rfl, (by show (3 : Int) ≠ 0; decide), rfl, _, rfl, d2I (fun c2 => ?_) (fun c2 => ?_)⟩
        · refine ⟨_, rfl, .inl ⟨rfl, _, SqL.of e⟩, _, rfl, _, rfl, _, _, rfl, rfl, (by show (11 : Int) ≠ 0; decide), _, rfl, b, rfl, hz, _, rfl, _, _, rfl, rfl, ?_, lp, _, _, rfl, rfl, e, lnp, (app _).1, _, _, _, rfl, by rw [List.length_append, hl]; rfl, (app _).2, sn _ ?_⟩
          · (simp only [Str.length_append, one]; have l3 := bl none (some ((0 + (i : Int)).fmod 11)); omega)
          · unfold NmF
            rw [if_pos (decide_eq_true c2)]
            exact ⟨_, cps_app _ _⟩
        · refine ⟨_, rfl, .inl ⟨rfl, _, SqL.of e⟩, _, rfl, _, rfl, _, rfl, core, rfl, cz, _, rfl, _, _, rfl, rfl, ?_, _, rfl, _, rfl, _, rfl, core, rfl, cz, _, _, rfl, rfl, ?_, lp, _, _, rfl, rfl, e, lnp, (app _).1, _, _, _, rfl, by rw [List.length_append, hl]; rfl, (app _).2, sn _ ?_⟩
          · (simp only [Str.length_append, one]; have l1 := cl none (some ((c.fdiv 3).fmod 11)); have l2 := cl (some ((c.fdiv 3).fmod 11)) none; omega)
          · (simp only [Str.length_append, one]; have l1 := cl none (some ((c.fdiv 3).fmod 11)); have l2 := cl (some ((c.fdiv 3).fmod 11)) none; omega)
          · unfold NmF
            rw [if_neg (by rw [decide_eq_false c2]; decide), cps_app, cps_app, List.append_assoc]
            rfl
    · obtain ⟨g, zs, o5, o11, rfl, hl, e, nz⟩ := hP
      exact hN _ _ ⟨g, zs, o5, o11, rfl, by omega, e, nz⟩
  rintro σ H1 ⟨g, zs, o5', o11, rfl, hl, e, nz⟩
  exact ⟨_, rfl, q lp H1 zs g e (by omega) (names_nd sto (by omega) nz)⟩

theorem sc_law_divisor_of : FnScope ["_law_one", "_law_other"] ["_law_one", "_law_other"] (defScope s_law_divisor_of) := ⟨rfl, rfl, rfl, by decide +kernel, rfl, by decide +kernel, by decide +kernel⟩
set_option maxHeartbeats 4000000 in
theorem ok_law_divisor_of {dV : Value} (F : FunD K "_law_divisor_of" "_law_divisor_of" s_law_divisor_of dV f fd) (B : Bn K mg c_EmptyHeap c_InRing c_NoAmount c_NoDish c_NoName c_NoNet c_NoNumber c_NoPack c_NoPlan c_NoRow c_NoStand c_NoStandIn c_NoStep c_StoveError c_TooFew c_TooMany c_Twice)  : FnOk P w K mg base CX0 1 f fd ["_law_one", "_law_other"] spDivQ := by
  have sc := sc_law_divisor_of
  refine F.ok sc (fun vs H Q E h => ?_) (fun cdv A outer s H vs Q E hr h => ?_)
  · obtain ⟨a, b, rfl, _⟩ := h
    rfl
  obtain ⟨a, b, rfl, b0, q⟩ := h
  refine ⟨_, (pss_cons (ps_while PassesOwn.never (pt_cmpR op_ne (pv 1) pe_int (nomark _)) (pss_one (ps_par (i := 0) (j := 1) rfl sc.nd rfl rfl (by decide) rfl rfl (pa_cons (pv 1) (pa_cons (pe_op op_modN (pv 0) (pv 1)) pa_nil)) rfl))) (pss_one (ps_ret (pe_callB call_abs rfl B.b_abs boot_abs (pa_cons (pv 0) pa_nil))))), ?_⟩
  refine while_by (fun σ H' => H = H' ∧ ∃ (g l : Int), σ = [some (.int g), some (.int l)] ∧ (l = 0 → 0 ≤ g) ∧ 0 ≤ l ∧ gcdI g l = gcdI a b)
    (fun (σ : L2.St) (_ : Hp) => match σ[1]? with | some (some (V.int l)) => l.toNat | _ => 0) ⟨rfl, _, _, rfl, fun z => by omega, by omega, rfl⟩ ?_ (fun σ H Q Q' m ⟨v, e, s, k, hk, h2⟩ => ⟨v, e, s, k, hk, m _ _ h2⟩)
  rintro σ H' ⟨rfl, g, l, rfl, g0, l0, inv⟩
  refine ⟨_, rfl, rfl, _, rfl, n2I (fun c => ?_) (fun c => ?_)⟩
  · have lp : 0 < l := by omega
    refine ⟨_, rfl, _, rfl, _, rfl, _, _, rfl, rfl, c, _, _, rfl, ⟨rfl, l, g.fmod l, rfl, fun _ => l0, Int.fmod_nonneg_of_pos g lp, ?_⟩, ?_⟩
    · rw [gcdI_fmod lp]; exact inv
    · have h1 := Int.fmod_lt_of_pos g lp
      have h2 := Int.fmod_nonneg_of_pos g lp
      show (g.fmod l).toNat < l.toNat
      omega
  · have g1 := g0 c
    subst c
    rw [gcdI_zero g1] at inv
    rw [← inv] at q
    refine ⟨_, rfl, _, rfl, ?_⟩
    rw [if_neg (show ¬ g < 0 by omega)]
    exact q

theorem sc_law_lowest : FnScope ["_law_top", "_law_bottom", "_law_by"] ["_law_top", "_law_bottom"] (defScope s_law_lowest) := ⟨rfl, rfl, rfl, by decide +kernel, rfl, by decide +kernel, by decide +kernel⟩
set_option maxHeartbeats 4000000 in
theorem ok_law_lowest {dV : Value} (F : FunD K "_law_lowest" "_law_lowest" s_law_lowest dV f fd) (B : Bn K mg c_EmptyHeap c_InRing c_NoAmount c_NoDish c_NoName c_NoNet c_NoNumber c_NoPack c_NoPlan c_NoRow c_NoStand c_NoStandIn c_NoStep c_StoveError c_TooFew c_TooMany c_Twice) (D_law_divisor_of : Dx P w K mg base CX0 1 "_law_divisor_of" ["_law_one", "_law_other"] [] spDivQ) : FnOk P w K mg base CX0 2 f fd ["_law_top", "_law_bottom"] spLow := by
  have sc := sc_law_lowest
  refine F.ok sc (fun vs H Q E h => ?_) (fun cdv A outer s H vs Q E hr h => ?_)
  · obtain ⟨a, b, rfl, _⟩ := h
    rfl
  obtain ⟨a, b, rfl, b0, hb, q⟩ := h
  refine ⟨_, (pss_cons (ps_set (i := 2) sc.nd rfl (Or.inl rfl) (pcall0 D_law_divisor_of hr (by decide) rfl (pa_cons (pv 0) (pa_cons (pv 1) pa_nil)))) (pss_one (ps_ret (pe_tup (pa_cons (pe_op op_fdivB (pv 0) (pv 2)) (pa_cons (pe_op op_fdivB (pv 1) (pv 2)) pa_nil)))))), ?_⟩
  have c0 := frC_ne (a := a) (show b ≠ 0 by omega)
  have cb := frC_bd (a := a) (show b ≠ 0 by omega) hb
  have f := fr_of (a := a) (show b ≠ 0 by omega)
  rw [frC_pos b0] at c0 cb f
  exact ⟨_, rfl, _, rfl, _, _, rfl, b0, _, rfl, _, rfl, _, _, rfl, rfl, ⟨c0, cb.div c0⟩, _, rfl, _, rfl, _, _, rfl, rfl, ⟨c0, cb.div c0⟩, (by show 2 ≤ sizeLine; decide), fun t ht => q _ _ f t _ (same_new ht _) upd_same⟩

theorem sc_law_amount : FnScope ["_law_cell", "_law_number"] ["_law_cell"] (defScope s_law_amount) := ⟨rfl, rfl, rfl, by decide +kernel, rfl, by decide +kernel, by decide +kernel⟩
set_option maxHeartbeats 4000000 in
theorem ok_law_amount {dV : Value} (F : FunD K "_law_amount" "_law_amount" s_law_amount dV f fd) (B : Bn K mg c_EmptyHeap c_InRing c_NoAmount c_NoDish c_NoName c_NoNet c_NoNumber c_NoPack c_NoPlan c_NoRow c_NoStand c_NoStandIn c_NoStep c_StoveError c_TooFew c_TooMany c_Twice) (D_law_lowest : Dx P w K mg base CX0 2 "_law_lowest" ["_law_top", "_law_bottom"] [] spLow) : FnOk P w K mg base CX0 3 f fd ["_law_cell"] spAmount := by
  have sc := sc_law_amount
  refine F.ok sc (fun vs H Q E h => ?_) (fun cdv A outer s H vs Q E hr h => ?_)
  · obtain ⟨c, rfl, _⟩ := h
    rfl
  obtain ⟨c, rfl, q⟩ := h
  refine ⟨_, (pss_cons (ps_set (i := 1) sc.nd rfl (Or.inl rfl) (pe_op op_modN (pe_op op_mulB (pe_op op_modN (pv 0) pe_int) pe_int) pe_int)) (pss_cons (ps_if (pt_cmpR op_eq (pe_op op_modN (pv 0) pe_int) pe_int (nomark _)) (pss_one (ps_ret (pcall0 D_law_lowest hr (by decide) rfl (pa_cons (pe_op op_add (pe_op op_powB pe_int pe_int) (pv 1)) (pa_cons (pe_op op_add (pe_op op_powB pe_int pe_int) (pe_op op_mulB (pv 1) pe_int)) pa_nil))))) pss_nil) (pss_one (ps_ret (pcall0 D_law_lowest hr (by decide) rfl (pa_cons (pe_op op_add pe_int (pv 1)) (pa_cons (pe_op op_add pe_int (pe_op op_modN (pe_op op_mulB (pv 1) pe_int) pe_int)) pa_nil))))))), ?_⟩
  refine ⟨_, rfl, _, _, rfl, rfl, (by show (1000003 : Int) ≠ 0; decide), _, _, rfl, rfl, IntMulOk.of_right (by decide), _, _, rfl, rfl, (by show (999983 : Int) ≠ 0; decide), ?_⟩
  have n0 := Int.fmod_nonneg_of_pos (c.fmod 1000003 * 48271) (show (0 : Int) < 999983 by decide)
  have n1 := Int.fmod_lt_of_pos (c.fmod 1000003 * 48271) (show (0 : Int) < 999983 by decide)
  have m0 := Int.fmod_nonneg_of_pos ((c.fmod 1000003 * 48271).fmod 999983 * 31) (show (0 : Int) < 997 by decide)
  have m1 := Int.fmod_lt_of_pos ((c.fmod 1000003 * 48271).fmod 999983 * 31) (show (0 : Int) < 997 by decide)
  dsimp only
  generalize (c.fmod 1000003 * 48271).fmod 999983 = n at n0 n1 m0 m1 ⊢
  have fin : ∀ a b p' q' : Int, 0 < a → 0 < b → a < 2 ^ 140 → b < 2 ^ 140 → Fr p' q' a b → Pair H Q p' q' := fun a b p' q' a0 b0 a1 b1 f => by
    refine q p' q' (top_pos f.same b0 f.pos a0) ⟨Int.le_of_lt (top_pos f.same b0 f.pos a0), f.to, ?_, ?_⟩
    · have := f.bt; unfold Bd; omega
    · have := f.bb; unfold Bd; omega
  refine ⟨_, rfl, _, _, rfl, rfl, (by show (11 : Int) ≠ 0; decide), rfl, _, rfl, d2 (fun _ => ?_) (fun _ => ?_)⟩
  · refine ⟨_, _, rfl, rfl, ⟨by decide, by decide⟩, _, rfl, _, _, rfl, rfl, _, _, rfl, rfl, ⟨by decide, by decide⟩, _, rfl, _, _, rfl, rfl, IntMulOk.of_right (by decide), _, _, rfl, rfl, _, _, rfl, ?_, ?_, fun p' q' f => fin _ _ p' q' ?_ ?_ ?_ ?_ f⟩
    · show (0 : Int) < 10 ^ 29 + n * 7919; omega
    · show Bd 8500 (10 ^ 29 + n * 7919); unfold Bd; omega
    · show (0 : Int) < 10 ^ 29 + n; omega
    · show (0 : Int) < 10 ^ 29 + n * 7919; omega
    · show (10 : Int) ^ 29 + n < 2 ^ 140; omega
    · show (10 : Int) ^ 29 + n * 7919 < 2 ^ 140; omega
  · refine ⟨_, rfl, _, _, rfl, rfl, _, rfl, _, _, rfl, rfl, IntMulOk.of_right (by decide), _, _, rfl, rfl, (by show (997 : Int) ≠ 0; decide), _, _, rfl, rfl, _, _, rfl, by omega, by unfold Bd; omega, fun p' q' f => fin _ _ p' q' (by omega) (by omega) (by omega) (by omega) f⟩

theorem sc_law_under : FnScope ["_law_one", "_law_other"] ["_law_one", "_law_other"] (defScope s_law_under) := ⟨rfl, rfl, rfl, by decide +kernel, rfl, by decide +kernel, by decide +kernel⟩
set_option maxHeartbeats 4000000 in
theorem ok_law_under {dV : Value} (F : FunD K "_law_under" "_law_under" s_law_under dV f fd) (B : Bn K mg c_EmptyHeap c_InRing c_NoAmount c_NoDish c_NoName c_NoNet c_NoNumber c_NoPack c_NoPlan c_NoRow c_NoStand c_NoStandIn c_NoStep c_StoveError c_TooFew c_TooMany c_Twice)  : FnOk P w K mg base CX0 1 f fd ["_law_one", "_law_other"] (spLess K) := by
  have sc := sc_law_under
  refine F.ok sc (fun vs H Q E h => ?_) (fun cdv A outer s H vs Q E hr h => ?_)
  · obtain ⟨t, t2, p, q, p2, q2, rfl, _⟩ := h
    rfl
  obtain ⟨t, t', p, q, p', q', rfl, h1, h2, qq⟩ := h
  refine ⟨_, (pss_one (ps_ret (pe_cmpR op_lt (pe_op op_mulB (pe_ix ix_tup (pv 0) pe_int (fun _ _ => rfl)) (pe_ix ix_tup (pv 1) pe_int (fun _ _ => rfl))) (pe_op op_mulB (pe_ix ix_tup (pv 1) pe_int (fun _ _ => rfl)) (pe_ix ix_tup (pv 0) pe_int (fun _ _ => rfl))) (nomark _)))), ?_⟩
  exact ⟨_, rfl, _, _, _, _, rfl, rfl, h1.at_, rfl, _, rfl, _, _, _, _, rfl, rfl, h2.at_, rfl, _, _, rfl, rfl, h1.bp.ok h2.bq, _, rfl, _, _, _, _, rfl, rfl, h2.at_, rfl, _, rfl, _, _, _, _, rfl, rfl, h1.at_, rfl, _, _, rfl, rfl, h2.bp.ok h1.bq, _, _, rfl, rfl, qq⟩

theorem sc_law_over : FnScope ["_law_count", "_law_size", "_law_have", "_law_need", "_law_there", "_law_top"] ["_law_count", "_law_size", "_law_have", "_law_need"] (defScope s_law_over) := ⟨rfl, rfl, rfl, by decide +kernel, rfl, by decide +kernel, by decide +kernel⟩
set_option maxHeartbeats 4000000 in
theorem ok_law_over {dV : Value} (F : FunD K "_law_over" "_law_over" s_law_over dV f fd) (B : Bn K mg c_EmptyHeap c_InRing c_NoAmount c_NoDish c_NoName c_NoNet c_NoNumber c_NoPack c_NoPlan c_NoRow c_NoStand c_NoStandIn c_NoStep c_StoveError c_TooFew c_TooMany c_Twice) (D_law_lowest : Dx P w K mg base CX0 2 "_law_lowest" ["_law_top", "_law_bottom"] [] spLow) : FnOk P w K mg base CX0 3 f fd ["_law_count", "_law_size", "_law_have", "_law_need"] (spOver K) := by
  have sc := sc_law_over
  refine F.ok sc (fun vs H Q E h => ?_) (fun cdv A outer s H vs Q E hr h => ?_)
  · obtain ⟨k, t2, t0, t1, p, q, p2, q2, a0, b0, rfl, _⟩ := h
    rfl
  obtain ⟨k, t2, t0, t1, p, q, p2, q2, a0, b0, rfl, hk, F2, F0, F1, qq⟩ := h
  refine ⟨_, (pss_cons (ps_set (i := 4) sc.nd rfl (Or.inl rfl) (pe_op op_add (pe_op op_mulB (pe_op op_mulB (pv 0) (pe_ix ix_tup (pv 1) pe_int (fun _ _ => rfl))) (pe_ix ix_tup (pv 2) pe_int (fun _ _ => rfl))) (pe_op op_mulB (pe_ix ix_tup (pv 2) pe_int (fun _ _ => rfl)) (pe_ix ix_tup (pv 1) pe_int (fun _ _ => rfl))))) (pss_cons (ps_set (i := 5) sc.nd rfl (Or.inl rfl) (pe_op op_sub (pe_op op_mulB (pv 4) (pe_ix ix_tup (pv 3) pe_int (fun _ _ => rfl))) (pe_op op_mulB (pe_op op_mulB (pe_ix ix_tup (pv 3) pe_int (fun _ _ => rfl)) (pe_ix ix_tup (pv 1) pe_int (fun _ _ => rfl))) (pe_ix ix_tup (pv 2) pe_int (fun _ _ => rfl))))) (pss_one (ps_ret (pcall0 D_law_lowest hr (by decide) rfl (pa_cons (pv 5) (pa_cons (pe_op op_mulB (pe_op op_mulB (pe_ix ix_tup (pv 1) pe_int (fun _ _ => rfl)) (pe_ix ix_tup (pv 2) pe_int (fun _ _ => rfl))) (pe_ix ix_tup (pv 3) pe_int (fun _ _ => rfl))) pa_nil))))))), ?_⟩
  have x1 : Bd 3000 (k * p2) := (hk.mul F2.bp).mono (by decide)
  have x2 : Bd 3700 (k * p2 * b0) := (x1.mul F0.bq).mono (by decide)
  have x3 : Bd 1400 (a0 * q2) := (F0.bp.mul F2.bq).mono (by decide)
  have x4 : Bd 3701 (k * p2 * b0 + a0 * q2) := x2.add (x3.mono (by decide))
  have x5 : Bd 4401 ((k * p2 * b0 + a0 * q2) * q) := (x4.mul F1.bq).mono (by decide)
  have x6 : Bd 1400 (p * q2) := (F1.bp.mul F2.bq).mono (by decide)
  have x8 : Bd 1400 (q2 * b0) := (F2.bq.mul F0.bq).mono (by decide)
  have x9 : Bd 2100 (q2 * b0 * q) := (x8.mul F1.bq).mono (by decide)
  refine ⟨_, rfl, _, rfl, _, _, _, _, rfl, rfl, F2.at_, rfl, _, _, rfl, rfl, hk.ok F2.bp, _, rfl, _, _, _, _, rfl, rfl, F0.at_, rfl, _, _, rfl, rfl, x1.ok F0.bq, _, rfl, _, _, _, _, rfl, rfl, F0.at_, rfl, _, rfl, _, _, _, _, rfl, rfl, F2.at_, rfl, _, _, rfl, rfl, F0.bp.ok F2.bq, _, _, rfl, rfl, ?_⟩
  refine ⟨_, rfl, _, rfl, _, _, _, _, rfl, rfl, F1.at_, rfl, _, _, rfl, rfl, x4.ok F1.bq, _, rfl, _, _, _, _, rfl, rfl, F1.at_, rfl, _, rfl, _, _, _, _, rfl, rfl, F2.at_, rfl, _, _, rfl, rfl, F1.bp.ok F2.bq, _, rfl, _, _, _, _, rfl, rfl, F0.at_, rfl, _, _, rfl, rfl, x6.ok F0.bq, _, _, rfl, rfl, ?_⟩
  exact ⟨_, rfl, _, rfl, _, _, _, _, rfl, rfl, F2.at_, rfl, _, rfl, _, _, _, _, rfl, rfl, F0.at_, rfl, _, _, rfl, rfl, F2.bq.ok F0.bq, _, rfl, _, _, _, _, rfl, rfl, F1.at_, rfl, _, _, rfl, rfl, x8.ok F1.bq, _, _, rfl, Int.mul_pos (Int.mul_pos F2.pos F0.pos) F1.pos, x9.mono (by decide), fun r s f => qq r s f⟩

theorem sc_law_whole : FnScope ["_law_found"] ["_law_found"] (defScope s_law_whole) := ⟨rfl, rfl, rfl, by decide +kernel, rfl, by decide +kernel, by decide +kernel⟩
set_option maxHeartbeats 4000000 in
theorem ok_law_whole {dV : Value} (F : FunD K "_law_whole" "_law_whole" s_law_whole dV f fd) (B : Bn K mg c_EmptyHeap c_InRing c_NoAmount c_NoDish c_NoName c_NoNet c_NoNumber c_NoPack c_NoPlan c_NoRow c_NoStand c_NoStandIn c_NoStep c_StoveError c_TooFew c_TooMany c_Twice)  : FnOk P w K mg base CX0 1 f fd ["_law_found"] spWhole := by
  have sc := sc_law_whole
  refine F.ok sc (fun vs H Q E h => ?_) (fun cdv A outer s H vs Q E hr h => ?_)
  · obtain ⟨v, rfl, _⟩ := h
    rfl
  obtain ⟨v, rfl, q⟩ := h
  refine ⟨_, (pss_one (ps_ret (pe_and (pe_callB call_isi rfl B.b_isinstance boot_isinstance (pa_cons (pv 0) (pa_cons (pe_bltn (v := .ty "int") rfl B.b_int boot_int rfl) pa_nil))) (pe_one (pe_not (pe_callB call_isi rfl B.b_isinstance boot_isinstance (pa_cons (pv 0) (pa_cons (pe_bltn (v := .ty "bool") rfl B.b_bool boot_bool rfl) pa_nil)))))))), ?_⟩
  refine ⟨_, rfl, _, _, _, rfl, .ii v, _, rfl, iteT ⟨_, rfl, _, _, _, rfl, .ib v, _, rfl, q⟩⟩

theorem sc_law_row : FnScope ["_law_row_here", "_law_need", "_law_sizes", "_law_shelf", "_law_left", "_law_have", "_law_size"] ["_law_row_here", "_law_need", "_law_sizes", "_law_shelf"] (defScope s_law_row) := ⟨rfl, rfl, rfl, by decide +kernel, rfl, by decide +kernel, by decide +kernel⟩
set_option maxHeartbeats 4000000 in
theorem ok_law_row {dV : Value} (F : FunD K "_law_row" "_law_row" s_law_row dV f fd) (B : Bn K mg c_EmptyHeap c_InRing c_NoAmount c_NoDish c_NoName c_NoNet c_NoNumber c_NoPack c_NoPlan c_NoRow c_NoStand c_NoStandIn c_NoStep c_StoveError c_TooFew c_TooMany c_Twice) (D_law_under : Dx P w K mg base CX0 1 "_law_under" ["_law_one", "_law_other"] [] (spLess K)) (D_law_over : Dx P w K mg base CX0 3 "_law_over" ["_law_count", "_law_size", "_law_have", "_law_need"] [] (spOver K)) (D_law_whole : Dx P w K mg base CX0 1 "_law_whole" ["_law_found"] [] spWhole) : FnOk P w K mg base CX0 4 f fd ["_law_row_here", "_law_need", "_law_sizes", "_law_shelf"] spRow45 := by
  have sc := sc_law_row
  refine F.ok sc (fun vs H Q E h => ?_) (fun cdv A outer s H vs Q E hr h => ?_)
  · obtain ⟨t, n, ds, dh, ks, kh, gs, gh, rfl, _⟩ := h
    rfl
  obtain ⟨t, n, ds, dh, ks, kh, gs, gh, rfl, nd, D, sz, Dh, ⟨⟨tl, k, l, m, et, etl, ok⟩⟩, q⟩ := h
  refine ⟨_, (pss_cons (ps_if (PW.pt (pw_or (pt_not (pt_val (pe_callB (call_isiT (K := K) rfl) rfl B.b_isinstance boot_isinstance (pa_cons (pv 0) (pa_cons (pe_bltn (v := .ty "tuple") rfl B.b_tuple boot_tuple rfl) pa_nil))))) (pw_or (pt_cmpR op_ne (pe_callB call_len_seq rfl B.b_len boot_len (pa_cons (pv 0) pa_nil)) pe_int (nomark _)) (pw_or (pt_not (pt_val (pcall0 D_law_whole hr (by decide) rfl (pa_cons (pe_ix ix_tup (pv 0) pe_int (fun _ _ => rfl)) pa_nil)))) (pw_or1 (pt_cmpR op_lt (pe_ix ix_tup (pv 0) pe_int (fun _ _ => rfl)) pe_int (nomark _))))))) (pss_one (ps_ret pe_bl)) pss_nil) (pss_cons (ps_if (PW.pt (pw_or (pt_not (pt_val (pe_callB (call_isiT (K := K) rfl) rfl B.b_isinstance boot_isinstance (pa_cons (pe_ix ix_tup (pv 0) pe_int (fun _ _ => rfl)) (pa_cons (pe_bltn (v := .ty "str") rfl B.b_str boot_str rfl) pa_nil))))) (pw_or1 (pt_cmpR op_ne (pe_ix ix_tup (pv 0) pe_int (fun _ _ => rfl)) (pe_ix ix_tup (pv 1) pe_int (fun _ _ => rfl)) (nomark _))))) (pss_one (ps_ret pe_bl)) pss_nil) (pss_cons (ps_set (i := 4) sc.nd rfl (Or.inl rfl) (pe_ix ix_tup (pv 0) pe_int (fun _ _ => rfl))) (pss_cons (ps_if (PW.pt (pw_or (pt_not (pt_val (pe_callB (call_isiT (K := K) rfl) rfl B.b_isinstance boot_isinstance (pa_cons (pv 4) (pa_cons (pe_bltn (v := .ty "tuple") rfl B.b_tuple boot_tuple rfl) pa_nil))))) (pw_or (pt_cmpR op_ne (pe_callB call_len_seq rfl B.b_len boot_len (pa_cons (pv 4) pa_nil)) pe_int (nomark _)) (pw_or (pt_not (pt_val (pcall0 D_law_whole hr (by decide) rfl (pa_cons (pe_ix ix_tup (pv 4) pe_int (fun _ _ => rfl)) pa_nil)))) (pw_or1 (pt_not (pt_val (pcall0 D_law_whole hr (by decide) rfl (pa_cons (pe_ix ix_tup (pv 4) pe_int (fun _ _ => rfl)) pa_nil))))))))) (pss_one (ps_ret pe_bl)) pss_nil) (pss_cons (ps_set (i := 5) sc.nd rfl (Or.inl rfl) (pe_dget2 (hu_of hr) (pv 3) (pe_ix ix_tup (pv 1) pe_int (fun _ _ => rfl)) (pe_tup (pa_cons pe_int (pa_cons pe_int pa_nil))) ⟨rfl, rfl, rfl, rfl⟩)) (pss_cons (ps_if (pt_not (pt_val (pcall0 D_law_under hr (by decide) rfl (pa_cons (pv 5) (pa_cons (pe_ix ix_tup (pv 1) pe_int (fun _ _ => rfl)) pa_nil))))) (pss_one (ps_ret (pe_and (pe_cmpR op_eq (pe_ix ix_tup (pv 0) pe_int (fun _ _ => rfl)) pe_int (nomark _)) (pe_one (pe_cmpR (op_eqT hr.units0) (pv 4) (pcall0 D_law_over hr (by decide) rfl (pa_cons pe_int (pa_cons (pe_tup (pa_cons pe_int (pa_cons pe_int pa_nil))) (pa_cons (pv 5) (pa_cons (pe_ix ix_tup (pv 1) pe_int (fun _ _ => rfl)) pa_nil))))) (nomark _)))))) pss_nil) (pss_cons (ps_set (i := 6) sc.nd rfl (Or.inl rfl) (pe_dget (hu_of hr) (pv 2) (pe_ix ix_tup (pv 1) pe_int (fun _ _ => rfl)) (fun _ _ => rfl))) (pss_cons (ps_if (PW.pt (pw_or (pt_cmpR (op_ne2T hr.units0) (pv 4) (pcall0 D_law_over hr (by decide) rfl (pa_cons (pe_ix ix_tup (pv 0) pe_int (fun _ _ => rfl)) (pa_cons (pv 6) (pa_cons (pv 5) (pa_cons (pe_ix ix_tup (pv 1) pe_int (fun _ _ => rfl)) pa_nil))))) (nomark _)) (pw_or (pt_cmpR op_lt (pe_ix ix_tup (pv 4) pe_int (fun _ _ => rfl)) pe_int (nomark _)) (pw_or1 (pt_cmpR op_lt (pe_ix ix_tup (pv 0) pe_int (fun _ _ => rfl)) pe_int (nomark _)))))) (pss_one (ps_ret pe_bl)) pss_nil) (pss_one (ps_ret (pe_cmpR op_lt (pe_ix ix_tup (pcall0 D_law_over hr (by decide) rfl (pa_cons (pe_op op_sub (pe_ix ix_tup (pv 0) pe_int (fun _ _ => rfl)) pe_int) (pa_cons (pv 6) (pa_cons (pv 5) (pa_cons (pe_ix ix_tup (pv 1) pe_int (fun _ _ => rfl)) pa_nil))))) pe_int (fun _ _ => rfl)) pe_int (nomark _)))))))))))), ?_⟩
  have nn := ok.nn
  refine ⟨_, rfl, _, _, _, true, rfl, .tup et, rfl, _, rfl, iteF ⟨_, rfl, t, _, rfl, .inr (SqT.of et), rfl, _, rfl, nF rfl ⟨_, rfl, t, _, _, _, rfl, rfl, SqT.of et, rfl, k, rfl, _, rfl, iteF ⟨_, rfl, t, _, _, _, rfl, rfl, SqT.of et, rfl, _, _, rfl, rfl, _, rfl, dF (by omega) ?_⟩⟩⟩⟩
  refine ⟨_, rfl, t, _, _, _, rfl, rfl, SqT.of et, rfl, _, _, _, true, rfl, .str _, rfl, _, rfl, iteF ⟨_, rfl, t, _, _, _, rfl, rfl, SqT.of et, rfl, _, rfl, n.t, _, _, _, rfl, rfl, SqT.of nd.e, rfl, rfl, _, rfl, nF rfl ?_⟩⟩
  refine ⟨_, rfl, t, _, _, _, rfl, rfl, SqT.of et, rfl, ?_⟩
  refine ⟨_, rfl, _, _, _, true, rfl, .tup etl, rfl, _, rfl, iteF ⟨_, rfl, tl, _, rfl, .inr (SqT.of etl), rfl, _, rfl, nF rfl ⟨_, rfl, tl, _, _, _, rfl, rfl, SqT.of etl, rfl, l, rfl, _, rfl, iteF ⟨_, rfl, tl, _, _, _, rfl, rfl, SqT.of etl, rfl, m, rfl, _, rfl, iteF ?_⟩⟩⟩⟩
  refine ⟨_, rfl, dh, rfl, .inl ⟨_, .inl Dh.e⟩, _, rfl, n.t, _, _, _, rfl, rfl, SqT.of nd.e, rfl, (by show 2 ≤ sizeLine; decide), fun tz ntz => ?_⟩
  have g1 := same_new ntz (.tup [.int 0, .int 1])
  obtain ⟨th, hv', eth, am⟩ := (Dh.same g1).have n.s upd_same
  refine ⟨_, DGet.k (k := .inr n.s) (g1 _ _ Dh.e), ?_⟩
  rw [hv']
  generalize upd H tz (.tup [.int 0, .int 1]) = H1 at g1 eth ⊢
  have nd1 := nd.same g1
  have et1 := g1 _ _ et
  have etl1 := g1 _ _ etl
  have F0 : FrIn K 150 H1 th (haveF gh n.s).1 (haveF gh n.s).2 := am.fr eth
  have F1 : FrIn K 150 H1 n.a n.p n.q := nd1.ok.fr nd1.ea
  have lF : decide ((haveF gh n.s).1 * n.q < n.p * (haveF gh n.s).2) = lessF gh n := rfl
  refine ⟨_, rfl, _, rfl, n.t, _, _, _, rfl, rfl, SqT.of nd1.e, rfl, th, n.a, (haveF gh n.s).1, (haveF gh n.s).2, n.p, n.q, rfl, F0.mono (by decide), F1.mono (by decide), _, rfl, ?_⟩
  rw [lF]
  cases hl : lessF gh n with
  | false =>
    obtain ⟨k0, sm⟩ := ok.no hl
    refine iteT ⟨_, rfl, t, _, _, _, rfl, rfl, SqT.of et1, rfl, rfl, _, rfl, dT (by rw [k0]) ⟨_, rfl, (by show 2 ≤ sizeLine; decide), fun t1 nt1 => ?_⟩⟩
    have g2 := same_new nt1 (.tup [.int 1, .int 1])
    have nd2 := nd1.same g2
    have Fz : FrIn K 150 (upd H1 t1 (.tup [.int 1, .int 1])) t1 1 1 := ⟨SqT.of upd_same, by decide, Bd.one.mono (by decide), Bd.one.mono (by decide)⟩
    refine ⟨_, rfl, _, rfl, n.t, _, _, _, rfl, rfl, SqT.of nd2.e, rfl, 0, t1, th, n.a, n.p, n.q, 1, 1, (haveF gh n.s).1, (haveF gh n.s).2, rfl, Bd.zero.mono (by decide), Fz.mono (by decide), (F0.same g2).mono (by decide), (F1.same g2).mono (by decide), fun r s f to H3 g3 e3 => ?_⟩
    rw [show (0 * 1 * (haveF gh n.s).2 + (haveF gh n.s).1 * 1) * n.q - n.p * 1 * (haveF gh n.s).2 = (haveF gh n.s).1 * n.q - n.p * (haveF gh n.s).2 by rw [Int.zero_mul, Int.zero_mul, Int.zero_add, Int.mul_one, Int.mul_one], Int.one_mul] at f
    obtain ⟨rfl, rfl⟩ := same_low ok.low f (Int.mul_pos F0.pos F1.pos) sm
    exact ⟨tl, to, _, rfl, rfl, SqT.of (g3 _ _ (g2 _ _ etl1)), SqT.of e3, (fun z hz => by simp only [List.mem_cons, List.not_mem_nil, or_false] at hz; rcases hz with rfl | rfl <;> trivial), q _ ((g1.trans g2).trans g3)⟩
  | true =>
    obtain ⟨p2, q2, hg, pk⟩ := ok.yes hl
    obtain ⟨ok2, t2, hv2, et2⟩ := (D.same g1).yes _ _ _ hg
    have F2 : FrIn K 150 H1 t2 p2 q2 := ok2.fr et2
    have c : (haveF gh n.s).1 * n.q < n.p * (haveF gh n.s).2 := of_decide_eq_true hl
    have k1 := pack_one pk F2.pos c
    have bk : Bd 2300 k := pk.bn.mono (by decide)
    have bk1 : Bd 2300 (k - 1) := (pk.bn.sub (Bd.one.mono (by decide))).mono (by decide)
    have bt0 : 0 < q2 * (haveF gh n.s).2 * n.q := Int.mul_pos (Int.mul_pos F2.pos F0.pos) F1.pos
    refine iteF ⟨_, rfl, _, rfl, n.t, _, _, _, rfl, rfl, SqT.of nd1.e, rfl, ds, .ref t2, rfl, (by rw [← hv2]; exact DGet.k (k := .inr n.s) (g1 _ _ D.e)), ?_⟩
    refine ⟨_, rfl, _, rfl, t, _, _, _, rfl, rfl, SqT.of et1, rfl, _, rfl, _, rfl, _, rfl, n.t, _, _, _, rfl, rfl, SqT.of nd1.e, rfl, k, t2, th, n.a, n.p, n.q, p2, q2, (haveF gh n.s).1, (haveF gh n.s).2, rfl, bk, F2.mono (by decide), F0.mono (by decide), F1.mono (by decide), fun r s f to H3 g3 e3 => ?_⟩
    rw [over_eq] at f
    have sm : l * (q2 * (haveF gh n.s).2 * n.q) = (k * (p2 * n.q * (haveF gh n.s).2) - (n.p * (haveF gh n.s).2 - (haveF gh n.s).1 * n.q) * q2) * m := by rw [bot_eq]; exact pk.same
    have l0 : 0 ≤ l := fr_nn sm bt0 ok.low.pos pk.lo
    obtain ⟨rfl, rfl⟩ := same_low ok.low f bt0 sm
    have etl3 := g3 _ _ etl1
    have et3 := g3 _ _ et1
    refine ⟨tl, to, _, _, rfl, rfl, SqT.of etl3, SqT.of e3, _, rfl, iteF ⟨_, rfl, tl, _, _, _, rfl, rfl, SqT.of etl3, rfl, _, _, rfl, rfl, _, rfl, dF (by omega) ⟨_, rfl, t, _, _, _, rfl, rfl, SqT.of et3, rfl, _, _, rfl, rfl, _, rfl, dF (by omega) ?_⟩⟩⟩
    refine ⟨_, rfl, t, _, _, _, rfl, rfl, SqT.of et3, rfl, _, _, rfl, rfl, _, rfl, _, rfl, _, rfl, n.t, _, _, _, rfl, rfl, SqT.of (g3 _ _ nd1.e), rfl, k - 1, t2, th, n.a, n.p, n.q, p2, q2, (haveF gh n.s).1, (haveF gh n.s).2, rfl, bk1, (F2.same g3).mono (by decide), (F0.same g3).mono (by decide), (F1.same g3).mono (by decide), fun r s f to H4 g4 e4 => ?_⟩
    rw [over_less] at f
    have r0 := fr_neg f bt0 (by have := pk.hi (by omega); omega)
    refine ⟨to, _, _, _, rfl, rfl, SqT.of e4, rfl, _, _, rfl, rfl, ?_⟩
    show Q (.bl (decide (r < 0))) H4
    rw [decide_eq_true r0]
    exact q _ ((g1.trans g3).trans g4)

theorem sc_law_lacking : FnScope ["_law_needed", "_law_sizes", "_law_shelf", "_law_name", "_law_amount_here"] ["_law_needed", "_law_sizes", "_law_shelf"] (defScope s_law_lacking) := ⟨rfl, rfl, rfl, by decide +kernel, rfl, by decide +kernel, by decide +kernel⟩
set_option maxHeartbeats 4000000 in
theorem ok_law_lacking {dV : Value} (F : FunD K "_law_lacking" "_law_lacking" s_law_lacking dV f fd) (B : Bn K mg c_EmptyHeap c_InRing c_NoAmount c_NoDish c_NoName c_NoNet c_NoNumber c_NoPack c_NoPlan c_NoRow c_NoStand c_NoStandIn c_NoStep c_StoveError c_TooFew c_TooMany c_Twice) (D_law_under : Dx P w K mg base CX0 1 "_law_under" ["_law_one", "_law_other"] [] (spLess K)) : FnOk P w K mg base CX0 2 f fd ["_law_needed", "_law_sizes", "_law_shelf"] spLacking := by
  have sc := sc_law_lacking
  refine F.ok sc (fun vs H Q E h => ?_) (fun cdv A outer s H vs Q E hr h => ?_)
  · obtain ⟨l, ds, dh, nds, ks, kh, gs, gh, rfl, _⟩ := h
    rfl
  obtain ⟨l, ds, dh, nds, ks, kh, gs, gh, rfl, ne, D, Dh, q⟩ := h
  refine ⟨_, (pss_cons (ps_for PassesOwn.never rfl (pi_list (pv 0)) (pg_tup rfl (pgs_cons (pg_name (i := 3) sc.nd rfl (Or.inl rfl)) (pgs_cons (pg_name (i := 4) sc.nd rfl (Or.inl rfl)) pgs_nil))) (pss_one (ps_if (PW.pt (pw_and (pt_cmp (pc_dnotin (hu_of hr) (pv 3) (pv 1)) (by with_unfolding_all rfl)) (pw_and1 (pt_val (pcall0 D_law_under hr (by decide) rfl (pa_cons (pe_dget2 (hu_of hr) (pv 2) (pv 3) (pe_tup (pa_cons pe_int (pa_cons pe_int pa_nil))) ⟨rfl, rfl, rfl, rfl⟩) (pa_cons (pv 4) pa_nil))))))) (pss_one (ps_ret (pv 3))) pss_nil))) (pss_one (ps_ret pe_non))), ?_⟩
  refine ⟨_, rfl, l, rfl, ⟨_, SqL.of ne.e⟩, for_list (xs := nds.map fun n => V.ref n.t) (fun k σ H' => (∃ o3 o4 : Option V, σ = [some (.ref l), some (.ref ds), some (.ref dh), o3, o4]) ∧ Same H H' ∧ ∀ m ∈ nds.take k, lackN gs gh m = false) ⟨⟨none, none, rfl⟩, .refl _, fun m hm => by simp at hm⟩ (fun k σ H' _ h => SqL.of (h.2.1 _ _ ne.e)) ?_ ?_⟩
  · rintro k y σ H1 hy ⟨⟨o3, o4, rfl⟩, g1, nl⟩
    rw [List.getElem?_map] at hy
    obtain ⟨n, hn, rfl⟩ := Option.map_eq_some_iff.mp hy
    have nd := (ne.each n (List.mem_of_getElem? hn)).same g1
    have D1 := D.same g1
    have Dh1 := Dh.same g1
    have go : ∀ H', Same H1 H' → lackN gs gh n = false → (∃ o3 o4 : Option V, [some (.ref l), some (.ref ds), some (.ref dh), some (.str n.s), some (.ref n.a)] = [some (.ref l), some (.ref ds), some (.ref dh), o3, o4]) ∧ Same H H' ∧ ∀ m ∈ nds.take (k + 1), lackN gs gh m = false := fun H' g hl => ⟨⟨_, _, rfl⟩, g1.trans g, fun m hm => by
      rw [take_snoc hn] at hm
      rcases List.mem_append.mp hm with z | z
      · exact nl m z
      · rw [List.mem_singleton.mp z]; exact hl⟩
    have lN : lackN gs gh n = ((gs n.s).isNone && lessF gh n) := rfl
    refine ⟨n.t, _, rfl, SqT.of nd.e, rfl, _, _, rfl, _, _, rfl, rfl, ?_⟩
    refine ⟨_, rfl, _, rfl, ds, _, rfl, DGet.k (k := .inr n.s) D1.e, _, rfl, ?_⟩
    cases hg : gs n.s with
    | some pq =>
      obtain ⟨p2, q2⟩ := pq
      obtain ⟨ok2, t2, hv, et2⟩ := D1.yes _ _ _ hg
      rw [hv]
      exact iteF (go _ (.refl _) (by rw [lN, hg]; rfl))
    | none =>
      rw [D1.no _ hg]
      refine iteT ⟨_, rfl, dh, rfl, .inl ⟨_, .inl Dh1.e⟩, _, rfl, (by show 2 ≤ sizeLine; decide), fun tz ntz => ?_⟩
      have g2 := same_new ntz (.tup [.int 0, .int 1])
      obtain ⟨th, hv', eth, am⟩ := (Dh1.same g2).have n.s upd_same
      refine ⟨_, DGet.k (k := .inr n.s) (g2 _ _ Dh1.e), ?_⟩
      rw [hv']
      have nd2 := nd.same g2
      refine ⟨_, rfl, th, n.a, (haveF gh n.s).1, (haveF gh n.s).2, n.p, n.q, rfl, am.fr eth, nd2.ok.fr nd2.ea, _, rfl, ?_⟩
      have lF : decide ((haveF gh n.s).1 * n.q < n.p * (haveF gh n.s).2) = lessF gh n := rfl
      rw [lF]
      cases hl : lessF gh n with
      | false => exact iteF (go _ g2 (by rw [lN, hl, Bool.and_false]))
      | true =>
        have := q _ (g1.trans g2)
        rw [lack_snoc hn nl (by rw [lN, hg, hl]; rfl)] at this
        exact iteT ⟨_, rfl, this⟩
  · rintro σ H1 ⟨⟨o3, o4, rfl⟩, g1, nl⟩
    rw [List.length_map, List.take_length] at nl
    have := q _ g1
    rw [lack_none nl] at this
    exact this

theorem sc_law_refused : FnScope ["_law_e", "_law_good"] ["_law_e", "_law_good"] (defScope s_law_refused) := ⟨rfl, rfl, rfl, by decide +kernel, rfl, by decide +kernel, by decide +kernel⟩
set_option maxHeartbeats 4000000 in
theorem ok_law_refused {dV : Value} {hd : Option Value} (F : FunD K "_law_refused" "_law_refused" s_law_refused dV f fd) (B : Bn K mg c_EmptyHeap c_InRing c_NoAmount c_NoDish c_NoName c_NoNet c_NoNumber c_NoPack c_NoPlan c_NoRow c_NoStand c_NoStandIn c_NoStep c_StoveError c_TooFew c_TooMany c_Twice)  : FnH hd P w K mg base 1 f fd ["_law_e", "_law_good"] (spRefused45 c_NoPack) := by
  have sc := sc_law_refused
  refine F.okH sc (fun vs H Q E h => ?_) (fun cdv A outer s H vs Q E hr h => ?_)
  · obtain ⟨a, d, s, rfl, _⟩ := h
    rfl
  obtain ⟨a, d, s, rfl, ⟨n, e⟩, ed, q⟩ := h
  refine ⟨_, (pss_cons (ps_if (pt_val (pe_callB (call_isiXt (K := K) rfl) rfl B.b_isinstance boot_isinstance (pa_cons (pv 0) (pa_cons (pe_tup (pa_cons (pe_glob (v := V.ref c_EmptyHeap) rfl B.m_EmptyHeap rfl) (pa_cons (pe_glob (v := V.ref c_InRing) rfl B.m_InRing rfl) (pa_cons (pe_glob (v := V.ref c_NoAmount) rfl B.m_NoAmount rfl) (pa_cons (pe_glob (v := V.ref c_NoDish) rfl B.m_NoDish rfl) (pa_cons (pe_glob (v := V.ref c_NoName) rfl B.m_NoName rfl) (pa_cons (pe_glob (v := V.ref c_NoNet) rfl B.m_NoNet rfl) (pa_cons (pe_glob (v := V.ref c_NoNumber) rfl B.m_NoNumber rfl) (pa_cons (pe_glob (v := V.ref c_NoPlan) rfl B.m_NoPlan rfl) (pa_cons (pe_glob (v := V.ref c_NoRow) rfl B.m_NoRow rfl) (pa_cons (pe_glob (v := V.ref c_NoStand) rfl B.m_NoStand rfl) pa_nil))))))))))) pa_nil)))) (pss_one (ps_ret pe_bl)) pss_nil) (pss_cons (ps_if (PW.pt (pw_or (pt_val (pe_callB (call_isiXt (K := K) rfl) rfl B.b_isinstance boot_isinstance (pa_cons (pv 0) (pa_cons (pe_tup (pa_cons (pe_glob (v := V.ref c_NoStandIn) rfl B.m_NoStandIn rfl) (pa_cons (pe_glob (v := V.ref c_NoStep) rfl B.m_NoStep rfl) (pa_cons (pe_glob (v := V.ref c_TooFew) rfl B.m_TooFew rfl) (pa_cons (pe_glob (v := V.ref c_TooMany) rfl B.m_TooMany rfl) (pa_cons (pe_glob (v := V.ref c_Twice) rfl B.m_Twice rfl) pa_nil)))))) pa_nil)))) (pw_or1 (pt_not (pt_val (pe_callB (call_isiX (K := K) rfl) rfl B.b_isinstance boot_isinstance (pa_cons (pv 0) (pa_cons (pe_glob (v := V.ref c_StoveError) rfl B.m_StoveError rfl) pa_nil)))))))) (pss_one (ps_ret pe_bl)) pss_nil) (pss_one (ps_ret (pe_and (pe_callB (call_isiT (K := K) rfl) rfl B.b_isinstance boot_isinstance (pa_cons (pe_fldX (K := K) rfl (pv 0) rfl) (pa_cons (pe_bltn (v := .ty "str") rfl B.b_str boot_str rfl) pa_nil))) (pe_one (pe_cmpR op_eq (pe_fldX (K := K) rfl (pv 0) rfl) (pv 1) (nomark _)))))))), ?_⟩
  refine ⟨_, rfl, (by show 10 ≤ sizeLine; decide), fun t1 n1 => ?_⟩
  have g1 := same_new n1 (.tup [.ref c_EmptyHeap, .ref c_InRing, .ref c_NoAmount, .ref c_NoDish, .ref c_NoName, .ref c_NoNet, .ref c_NoNumber, .ref c_NoPlan, .ref c_NoRow, .ref c_NoStand])
  refine ⟨a, _, some d, t1, [c_EmptyHeap, c_InRing, c_NoAmount, c_NoDish, c_NoName, c_NoNet, c_NoNumber, c_NoPlan, c_NoRow, c_NoStand], false, rfl, ⟨n, g1 _ _ e⟩, ⟨_, g1 _ _ ed⟩, B.i_NoPack, upd_same, B.ka_NoPack_1, _, rfl, iteF ?_⟩
  refine ⟨_, rfl, (by show 5 ≤ sizeLine; decide), fun t2 n2 => ?_⟩
  have g2 := g1.trans (same_new n2 (.tup [.ref c_NoStandIn, .ref c_NoStep, .ref c_TooFew, .ref c_TooMany, .ref c_Twice]))
  refine ⟨a, _, some d, t2, [c_NoStandIn, c_NoStep, c_TooFew, c_TooMany, c_Twice], false, rfl, ⟨n, g2 _ _ e⟩, ⟨_, g2 _ _ ed⟩, B.i_NoPack, upd_same, B.ka_NoPack_2, _, rfl, iteF ?_⟩
  refine ⟨_, rfl, a, _, some d, _, true, rfl, ⟨n, g2 _ _ e⟩, ⟨_, g2 _ _ ed⟩, B.i_NoPack, .own B.k_NoPack_StoveError, true, rfl, iteF ?_⟩
  refine ⟨_, rfl, a, _, d, _, _, _, rfl, g2 _ _ e, g2 _ _ ed, ⟨B.i_NoPack.gg, B.a_NoPack.dct, B.n_NoPack⟩, rfl, ?_⟩
  refine ⟨_, _, _, true, rfl, .str _, rfl, _, rfl, iteT ?_⟩
  refine ⟨_, rfl, a, _, d, _, _, _, rfl, g2 _ _ e, g2 _ _ ed, ⟨B.i_NoPack.gg, B.a_NoPack.dct, B.n_NoPack⟩, rfl, ?_⟩
  refine ⟨_, rfl, rfl, ?_⟩
  show Q (.bl (decide (V.str s = V.str s))) _
  rw [decide_eq_true rfl]
  exact q _ g2

theorem sc_law_asked : FnScope ["_law_needed", "_law_sizes", "_law_shelf", "_law_left_out", "_law_none", "_law_found", "_law_e"] ["_law_needed", "_law_sizes", "_law_shelf", "_law_left_out", "_law_none"] (defScope s_law_asked) := ⟨rfl, rfl, rfl, by decide +kernel, rfl, by decide +kernel, by decide +kernel⟩
set_option maxHeartbeats 4000000 in
theorem ok_law_asked {dV : Value} (F : FunD K "_law_asked" "_law_asked" s_law_asked dV f fd) (B : Bn K mg c_EmptyHeap c_InRing c_NoAmount c_NoDish c_NoName c_NoNet c_NoNumber c_NoPack c_NoPlan c_NoRow c_NoStand c_NoStandIn c_NoStep c_StoveError c_TooFew c_TooMany c_Twice) (Xbought_of : Dx P w K mg base (CX1 P w) 6 "bought_of" ["needed", "sizes", "shelf"] [.non] (spBought c_NoPack)) (H_law_refused : ∀ hd, DxH hd P w K mg base 1 "_law_refused" ["_law_e", "_law_good"] (spRefused45 c_NoPack)) : FnOk P w K mg base CX0 7 f fd ["_law_needed", "_law_sizes", "_law_shelf", "_law_left_out", "_law_none"] spAsked := by
  have sc := sc_law_asked
  refine F.ok sc (fun vs H Q E h => ?_) (fun cdv A outer s H vs Q E hr h => ?_)
  · obtain ⟨l, ds, dh, b, nds, ks, kh, gs, gh, rfl, _⟩ := h
    rfl
  obtain ⟨l, ds, dh, b, nds, ks, kh, gs, gh, rfl, ne, D, sz, Dh, hb, qn, qs⟩ := h
  refine ⟨_, (pss_cons (ps_try rfl rfl (fun pins E => (pss_one (ps_if (PW.pt (pw_and (pt_val (pv 3)) (pw_and1 (pt_cmpR op_eq (pe_op op_modN (pe_callB call_lenJ rfl B.b_len boot_len (pa_cons (pv 0) pa_nil)) pe_int) pe_int (nomark _))))) (pss_one (ps_set (i := 5) sc.nd rfl (Or.inl rfl) (pcall1d Xbought_of hr (by decide) rfl passX (pa_cons (pv 0) (pa_cons (pv 1) pa_nil))))) (pss_one (ps_if (pt_val (pv 3)) (pss_one (ps_set (i := 5) sc.nd rfl (Or.inl rfl) (pcall1 Xbought_of hr (by decide) rfl passX (pa_cons (pv 0) (pa_cons (pv 1) (pa_cons pe_non pa_nil)))))) (pss_one (ps_set (i := 5) sc.nd rfl (Or.inl rfl) (pcall1 Xbought_of hr (by decide) rfl passX (pa_cons (pv 0) (pa_cons (pv 1) (pa_cons (pv 2) pa_nil))))))))))) (ph_asA B.t_NoPack rfl B.m_NoPack sc.nd (i := 6) rfl rfl (fun pins a => (pss_one (ps_ret (pe_tup (pa_cons pe_str (pa_cons (pcallH (j := 6) (H_law_refused (some (.ref a))) (hr.suite _) (by decide) rfl (pa_cons (pv 6) (pa_cons (pv 4) pa_nil))) pa_nil)))))) ph_nil)) (pss_one (ps_ret (pv 5)))), ?_⟩
  have out : ∀ s, lackF gs gh nds = some s → ∀ (d : Addr) (H' : Hp), Same H H' → H' d = some (.xd [("good", .str s)]) → ∀ a, H' a = none → ∃ (x y : V), x = .ref a ∧ y = stV (lackF gs gh nds) ∧ True := fun s hs d H' g ed a na => ⟨_, _, rfl, rfl, trivial⟩
  clear out
  refine ⟨_, rfl, b, rfl, ?_⟩
  cases b with
  | false =>
    refine iteF ⟨_, rfl, false, rfl, iteF ⟨_, rfl, _, rfl, _, rfl, l, ds, .ref dh, nds, ks, kh, gs, gh, rfl, ne, D, sz, .inr ⟨dh, rfl, Dh⟩, fun lk t H' g nt rw => ⟨_, rfl, qn lk t H' g nt rw⟩, fun s hs d H' g ed a na => ⟨c_NoPack, true, rfl, B.s_NoPack_NoPack, iteT ?_⟩⟩⟩
    have ga := same_new na (excO a (.ref c_NoPack) (some d))
    exact ⟨_, rfl, _, rfl, a, d, s, (by rw [hs]; rfl), ⟨_, upd_same⟩, ga _ _ ed, fun H2 g2 => ⟨(by show 2 ≤ sizeLine; decide), fun t nt => qs s hs t _ (((g.trans ga).trans g2).trans (same_new nt _)) upd_same⟩⟩
  | true =>
    have gn := hb rfl
    refine iteT ⟨_, rfl, l, _, rfl, ne.e, _, _, rfl, rfl, (by show (2 : Int) ≠ 0; decide), rfl, _, rfl, d2 (fun _ => ?_) (fun _ => ⟨_, rfl, true, rfl, iteT ?_⟩)⟩
    · refine ⟨_, rfl, _, rfl, l, ds, .non, nds, ks, kh, gs, gh, rfl, ne, D, sz, .inl ⟨rfl, gn⟩, fun lk t H' g nt rw => ⟨_, rfl, qn lk t H' g nt rw⟩, fun s hs d H' g ed a na => ⟨c_NoPack, true, rfl, B.s_NoPack_NoPack, iteT ?_⟩⟩
      have ga := same_new na (excO a (.ref c_NoPack) (some d))
      exact ⟨_, rfl, _, rfl, a, d, s, (by rw [hs]; rfl), ⟨_, upd_same⟩, ga _ _ ed, fun H2 g2 => ⟨(by show 2 ≤ sizeLine; decide), fun t nt => qs s hs t _ (((g.trans ga).trans g2).trans (same_new nt _)) upd_same⟩⟩
    · refine ⟨_, rfl, _, rfl, l, ds, .non, nds, ks, kh, gs, gh, rfl, ne, D, sz, .inl ⟨rfl, gn⟩, fun lk t H' g nt rw => ⟨_, rfl, qn lk t H' g nt rw⟩, fun s hs d H' g ed a na => ⟨c_NoPack, true, rfl, B.s_NoPack_NoPack, iteT ?_⟩⟩
      have ga := same_new na (excO a (.ref c_NoPack) (some d))
      exact ⟨_, rfl, _, rfl, a, d, s, (by rw [hs]; rfl), ⟨_, upd_same⟩, ga _ _ ed, fun H2 g2 => ⟨(by show 2 ≤ sizeLine; decide), fun t nt => qs s hs t _ (((g.trans ga).trans g2).trans (same_new nt _)) upd_same⟩⟩

theorem sc_law_right : FnScope ["_law_needed", "_law_sizes", "_law_shelf", "_law_left_out", "_law_none", "_law_found", "_law_k"] ["_law_needed", "_law_sizes", "_law_shelf", "_law_left_out"] (defScope s_law_right) := ⟨rfl, rfl, rfl, by decide +kernel, rfl, by decide +kernel, by decide +kernel⟩
set_option maxHeartbeats 4000000 in
theorem ok_law_right {dV : Value} (F : FunD K "_law_right" "_law_right" s_law_right dV f fd) (B : Bn K mg c_EmptyHeap c_InRing c_NoAmount c_NoDish c_NoName c_NoNet c_NoNumber c_NoPack c_NoPlan c_NoRow c_NoStand c_NoStandIn c_NoStep c_StoveError c_TooFew c_TooMany c_Twice) (D_law_row : Dx P w K mg base CX0 4 "_law_row" ["_law_row_here", "_law_need", "_law_sizes", "_law_shelf"] [] spRow45) (D_law_lacking : Dx P w K mg base CX0 2 "_law_lacking" ["_law_needed", "_law_sizes", "_law_shelf"] [] spLacking) (D_law_asked : Dx P w K mg base CX0 7 "_law_asked" ["_law_needed", "_law_sizes", "_law_shelf", "_law_left_out", "_law_none"] [] spAsked) : FnOk P w K mg base CX0 8 f fd ["_law_needed", "_law_sizes", "_law_shelf", "_law_left_out"] spRight45 := by
  have sc := sc_law_right
  refine F.ok sc (fun vs H Q E h => ?_) (fun cdv A outer s H vs Q E hr h => ?_)
  · obtain ⟨l, ds, dh, b, nds, ks, kh, gs, gh, rfl, _⟩ := h
    rfl
  obtain ⟨l, ds, dh, b, nds, ks, kh, gs, gh, rfl, ne, D, sz, Dh, hb, q⟩ := h
  refine ⟨_, (pss_cons (ps_set (i := 4) sc.nd rfl (Or.inl rfl) (pcall0 D_law_lacking hr (by decide) rfl (pa_cons (pv 0) (pa_cons (pv 1) (pa_cons (pv 2) pa_nil))))) (pss_cons (ps_set (i := 5) sc.nd rfl (Or.inl rfl) (pcall0 D_law_asked hr (by decide) rfl (pa_cons (pv 0) (pa_cons (pv 1) (pa_cons (pv 2) (pa_cons (pv 3) (pa_cons (pv 4) pa_nil))))))) (pss_cons (ps_if (pt_cmpR op_notN (pv 4) pe_non (nomark _)) (pss_one (ps_ret (pe_cmpR (op_eqT hr.units0) (pv 5) (pe_tup (pa_cons pe_str (pa_cons pe_bl pa_nil))) (nomark _)))) pss_nil) (pss_cons (ps_if (PW.pt (pw_or (pt_not (pt_val (pe_callB (call_isiT (K := K) rfl) rfl B.b_isinstance boot_isinstance (pa_cons (pv 5) (pa_cons (pe_bltn (v := .ty "list") rfl B.b_list boot_list rfl) pa_nil))))) (pw_or1 (pt_cmpR op_ne (pe_callB call_len_seq rfl B.b_len boot_len (pa_cons (pv 5) pa_nil)) (pe_callB call_len_seq rfl B.b_len boot_len (pa_cons (pv 0) pa_nil)) (nomark _))))) (pss_one (ps_ret pe_bl)) pss_nil) (pss_cons (ps_for PassesOwn.never rfl (pi_range1 rfl B.b_range (pa_cons (pe_callB call_len_seq rfl B.b_len boot_len (pa_cons (pv 5) pa_nil)) pa_nil)) (pg_name (i := 6) sc.nd rfl (Or.inl rfl)) (pss_one (ps_if (pt_not (pt_val (pcall0 D_law_row hr (by decide) rfl (pa_cons (pe_ix ix_list (pv 5) (pv 6) (fun _ _ => rfl)) (pa_cons (pe_ix ix_list (pv 0) (pv 6) (fun _ _ => rfl)) (pa_cons (pv 1) (pa_cons (pv 2) pa_nil))))))) (pss_one (ps_ret pe_bl)) pss_nil))) (pss_cons (ps_expr (pe_bm PySem.F.plainAttrs_list PySem.F.slot_list_append PySem.F.type_list_append mt_append (pv 5) (pa_cons pe_non pa_nil))) (pss_one (ps_ret pe_bl)))))))), ?_⟩
  have sl : sizeLine = 16777216 := sizeLine_eq
  refine ⟨_, rfl, _, rfl, _, rfl, l, ds, dh, nds, ks, kh, gs, gh, rfl, ne, D, Dh, fun H1 g1 => ?_⟩
  refine ⟨_, rfl, _, rfl, _, rfl, _, rfl, _, rfl, l, ds, dh, b, nds, ks, kh, gs, gh, rfl, ne.same g1, D.same g1, sz, Dh.same g1, hb, fun lk t H2 g2 nt rw => ?_, fun s hs t H2 g2 et => ?_⟩
  · rw [lk]
    have k2 := g1.trans g2
    obtain ⟨ts, et, rt⟩ := rw
    have lts : ts.length ≤ 12 := by rw [rt.1]; exact ne.few
    refine ⟨_, rfl, rfl, _, rfl, nF rfl ?_⟩
    refine ⟨_, rfl, _, _, _, true, rfl, .lst et, rfl, _, rfl, iteF ⟨_, rfl, t, _, rfl, .inl (SqL.of et), _, rfl, l, _, rfl, .inl (SqL.of (k2 _ _ ne.e)), rfl, _, rfl, nF (by rw [List.length_map, List.length_map, rt.1]) ?_⟩⟩
    refine ⟨_, rfl, t, _, rfl, .inl (SqL.of et), _, rfl, by omega, by rw [List.length_map]; omega, for_range (fun k σ H' => (∃ o6 : Option V, σ = [some (.ref l), some (.ref ds), some (.ref dh), some (.bl b), some .non, some (.ref t), o6]) ∧ Same H2 H') ⟨⟨none, rfl⟩, .refl _⟩ ?_ ?_⟩
    · rintro k σ H3 hk ⟨⟨o6, rfl⟩, g3⟩
      rw [Int.toNat_natCast, List.length_map] at hk
      have hn := List.getElem?_eq_getElem (show k < nds.length by rw [← rt.1]; exact hk)
      obtain ⟨a, ha, ra⟩ := rt.get hn
      generalize nds[k]'_ = n at hn ra
      have k3 := k2.trans g3
      refine ⟨_, rfl, _, rfl, t, _, _, _, rfl, rfl, SqL.of (g3 _ _ et), (at_zero (map_at ha)), _, rfl, _, rfl, l, _, _, _, rfl, rfl, SqL.of (k3 _ _ ne.e), (at_zero (map_at hn)), _, rfl, _, rfl, a, n, ds, dh, ks, kh, gs, gh, rfl, (ne.each n (List.mem_of_getElem? hn)).same k3, D.same k3, sz, Dh.same k3, ra.same g3, fun H4 g4 => ⟨_, rfl, iteF ⟨⟨_, rfl⟩, g3.trans g4⟩⟩⟩
    · rintro σ H3 ⟨⟨o6, rfl⟩, g3⟩
      refine ⟨_, rfl, .inl ⟨rfl, _, SqL.of (g3 _ _ et)⟩, t, _, _, rfl, rfl, g3 _ _ et, by rw [List.length_map]; omega, q _ (sUpd ((g1.trans g2).trans g3) (g1.free nt) _)⟩
  · rw [hs]
    refine ⟨_, rfl, rfl, _, rfl, nT nofun ⟨_, rfl, (by show 2 ≤ sizeLine; decide), fun t2 nt2 => ?_⟩⟩
    have g3 := same_new nt2 (.tup [.str "refused", .bl true])
    exact ⟨t, t2, _, rfl, rfl, SqT.of (g3 _ _ et), SqT.of upd_same, (fun z hz => by simp only [List.mem_cons, List.not_mem_nil, or_false] at hz; rcases hz with rfl | rfl <;> trivial), q _ ((g1.trans g2).trans g3)⟩

theorem sclaw : FnScope ["_law_script", "_law_head", "_law_names_here", "_law_needed", "_law_sizes", "_law_shelf", "_law_k", "_law_cell", "_law_more", "_law_left_out", "_law_handed", "_law_none"] ["_law_script"] (defScope slaw) := ⟨rfl, rfl, rfl, by decide +kernel, rfl, by decide +kernel, by decide +kernel⟩
set_option maxHeartbeats 4000000 in
theorem oklaw {dV : Value} (F : FunD K "law" "law" slaw dV f fd) (B : Bn K mg c_EmptyHeap c_InRing c_NoAmount c_NoDish c_NoName c_NoNet c_NoNumber c_NoPack c_NoPlan c_NoRow c_NoStand c_NoStandIn c_NoStep c_StoveError c_TooFew c_TooMany c_Twice) (D_law_cell_at : Dx P w K mg base CX0 1 "_law_cell_at" ["_law_script", "_law_k"] [] (spCell K)) (D_law_names : Dx P w K mg base CX0 1 "_law_names" ["_law_number", "_law_many"] [] spNames14) (D_law_amount : Dx P w K mg base CX0 3 "_law_amount" ["_law_cell"] [] spAmount) (D_law_lacking : Dx P w K mg base CX0 2 "_law_lacking" ["_law_needed", "_law_sizes", "_law_shelf"] [] spLacking) (D_law_right : Dx P w K mg base CX0 8 "_law_right" ["_law_needed", "_law_sizes", "_law_shelf", "_law_left_out"] [] spRight45) : FnOk P w K mg base CX0 9 f fd ["_law_script"] (spLaw K) := by
  have sc := sclaw
  refine F.ok sc (fun vs H Q E h => ?_) (fun cdv A outer s H vs Q E hr h => ?_)
  · obtain ⟨a, ns, rfl, _⟩ := h
    rfl
  obtain ⟨a, ns, rfl, hS, n63, q⟩ := h
  refine ⟨_, (pss_cons (ps_set (i := 1) sc.nd rfl (Or.inl rfl) (pcall0 D_law_cell_at hr (by decide) rfl (pa_cons (pv 0) (pa_cons pe_int pa_nil)))) (pss_cons (ps_set (i := 2) sc.nd rfl (Or.inl rfl) (pcall0 D_law_names hr (by decide) rfl (pa_cons (pcall0 D_law_cell_at hr (by decide) rfl (pa_cons (pv 0) (pa_cons pe_int pa_nil))) (pa_cons pe_int pa_nil)))) (pss_cons (ps_set (i := 3) sc.nd rfl (Or.inl rfl) (pe_lst pa_nil)) (pss_cons (ps_set (i := 4) sc.nd rfl (Or.inl rfl) (pe_disp (pps_cons (pe_ix ix_list (pv 2) pe_int (fun _ _ => rfl)) (pe_tup (pa_cons pe_int (pa_cons pe_int pa_nil))) (pps_cons (pe_ix ix_list (pv 2) pe_int (fun _ _ => rfl)) (pe_tup (pa_cons pe_int (pa_cons pe_int pa_nil))) pps_nil)) rfl rfl (by simp) (by decide))) (pss_cons (ps_set (i := 5) sc.nd rfl (Or.inl rfl) pe_dnewK) (pss_cons (ps_for PassesOwn.never rfl (pi_range1 rfl B.b_range (pa_cons (pe_op op_modN (pv 1) pe_int) pa_nil)) (pg_name (i := 6) sc.nd rfl (Or.inl rfl)) (pss_cons (ps_set (i := 7) sc.nd rfl (Or.inl rfl) (pe_op op_modN (pcall0 D_law_cell_at hr (by decide) rfl (pa_cons (pv 0) (pa_cons (pe_op op_add pe_int (pe_op op_mulB pe_int (pv 6))) pa_nil))) (pe_op op_powB pe_int pe_int))) (pss_cons (ps_set (i := 8) sc.nd rfl (Or.inl rfl) (pe_op op_modN (pcall0 D_law_cell_at hr (by decide) rfl (pa_cons (pv 0) (pa_cons (pe_op op_add pe_int (pe_op op_mulB pe_int (pv 6))) pa_nil))) (pe_op op_powB pe_int pe_int))) (pss_cons (ps_expr (pe_bm PySem.F.plainAttrs_list PySem.F.slot_list_append PySem.F.type_list_append mt_append (pv 3) (pa_cons (pe_tup (pa_cons (pe_ix ix_list (pv 2) (pv 6) (fun _ _ => rfl)) (pa_cons (pcall0 D_law_amount hr (by decide) rfl (pa_cons (pv 7) pa_nil)) pa_nil))) pa_nil))) (pss_cons (ps_if (pt_cmpR op_ne (pe_op op_modN (pv 8) pe_int) pe_int (nomark _)) (pss_one (ps_dput (hu_of hr) (pv 4) (pe_ix ix_list (pv 2) (pv 6) (fun _ _ => rfl)) (pcall0 D_law_amount hr (by decide) rfl (pa_cons (pe_op op_fdivB (pv 8) pe_int) pa_nil)) rfl)) pss_nil) (pss_cons (ps_if (pt_cmpR op_eq (pe_op op_modN (pe_op op_fdivB (pv 8) pe_int) pe_int) pe_int (nomark _)) (pss_one (ps_dput (hu_of hr) (pv 5) (pe_ix ix_list (pv 2) (pv 6) (fun _ _ => rfl)) (pcall0 D_law_amount hr (by decide) rfl (pa_cons (pv 7) pa_nil)) rfl)) pss_nil) (pss_one (ps_if (pt_cmpR op_eq (pe_op op_modN (pe_op op_fdivB (pv 8) pe_int) pe_int) pe_int (nomark _)) (pss_one (ps_dput (hu_of hr) (pv 5) (pe_ix ix_list (pv 2) (pv 6) (fun _ _ => rfl)) (pe_ix ix_list (pe_lst (pa_cons (pcall0 D_law_amount hr (by decide) rfl (pa_cons (pe_op op_fdivB (pv 8) pe_int) pa_nil)) (pa_cons (pe_tup (pa_cons pe_int (pa_cons pe_int pa_nil))) pa_nil))) (pe_op op_modN (pe_op op_fdivB (pv 8) pe_int) pe_int) (fun _ _ => rfl)) rfl)) pss_nil)))))))) (pss_cons (ps_set (i := 3) sc.nd rfl (Or.inl rfl) (pe_callB call_sortTwo rfl B.b_sorted PyProof.Rows.Boot.«sorted» (pa_cons (pv 3) pa_nil))) (pss_cons (ps_set (i := 9) sc.nd rfl (Or.inl rfl) (pe_cmpR op_eq (pe_op op_modN (pe_op op_fdivB (pv 1) pe_int) pe_int) pe_int (nomark _))) (pss_cons (ps_if (pt_val (pv 9)) (pss_one (ps_set (i := 5) sc.nd rfl (Or.inl rfl) pe_dnewK)) (pss_one (ps_if (pt_cmpR op_eq (pe_op op_modN (pe_op op_fdivB (pv 1) pe_int) pe_int) pe_int (nomark _)) (pss_one (ps_dput (hu_of hr) (pv 5) (pe_ix ix_list (pv 2) pe_int (fun _ _ => rfl)) (pe_tup (pa_cons pe_int (pa_cons pe_int pa_nil))) rfl)) pss_nil))) (pss_cons (ps_set (i := 10) sc.nd rfl (Or.inl rfl) (pe_lst (pa_cons (pe_callTy call_list_of rfl B.b_list boot_list (pa_cons (pv 3) pa_nil)) (pa_cons (pe_callTy call_dictD rfl B.b_dict boot_dict1 (pa_cons (pv 4) pa_nil)) (pa_cons (pe_callTy call_dictD rfl B.b_dict boot_dict1 (pa_cons (pv 5) pa_nil)) pa_nil))))) (pss_cons (ps_if (PW.pt (pw_or (pt_not (pt_val (pcall0 D_law_right hr (by decide) rfl (pa_cons (pe_ix ix_list (pv 10) pe_int (fun _ _ => rfl)) (pa_cons (pe_ix ix_list (pv 10) pe_int (fun _ _ => rfl)) (pa_cons (pe_ix ix_list (pv 10) pe_int (fun _ _ => rfl)) (pa_cons (pv 9) pa_nil))))))) (pw_or1 (pt_cmpR (op_neLDD (Nat.lt_trans (Nat.add_lt_add_left (by decide : 4 < 64) _) hr.units)) (pv 10) (pe_lst (pa_cons (pv 3) (pa_cons (pv 4) (pa_cons (pv 5) pa_nil)))) (nomark _))))) (pss_one (ps_ret pe_bl)) pss_nil) (pss_cons (ps_set (i := 11) sc.nd rfl (Or.inl rfl) (pcall0 D_law_lacking hr (by decide) rfl (pa_cons (pv 3) (pa_cons (pv 4) (pa_cons (pv 5) pa_nil))))) (pss_cons (ps_if (pt_cmpR op_notN (pv 11) pe_non (nomark _)) (pss_one (ps_dput (hu_of hr) (pe_ix ix_list (pv 10) pe_int (fun _ _ => rfl)) (pv 11) (pe_tup (pa_cons pe_int (pa_cons pe_int pa_nil))) rfl)) pss_nil) (pss_one (ps_ret (pcall0 D_law_right hr (by decide) rfl (pa_cons (pe_ix ix_list (pv 10) pe_int (fun _ _ => rfl)) (pa_cons (pe_ix ix_list (pv 10) pe_int (fun _ _ => rfl)) (pa_cons (pe_ix ix_list (pv 10) pe_int (fun _ _ => rfl)) (pa_cons (pv 9) pa_nil)))))))))))))))))))), ?_⟩
  have sl : sizeLine = 16777216 := sizeLine_eq
  refine ⟨_, rfl, a, ns, 0, rfl, hS, (by decide), fun hd => ?_⟩
  refine ⟨_, rfl, a, ns, 1, rfl, hS, (by decide), fun c1 => ⟨c1, 14, rfl, rfl, fun ln H1 zs g1 eln l14 zn => ?_⟩⟩
  have hS1 := g1.seq hS
  refine ⟨(by show 0 ≤ sizeLine; decide), fun lnd nlnd => ?_⟩
  have e1 := same_new nlnd (.lst [])
  have h12 := List.getElem?_eq_getElem (show 12 < zs.length by omega)
  have h13 := List.getElem?_eq_getElem (show 13 < zs.length by omega)
  have a12 : atI (zs.map V.str) 12 = some (.str zs[12]) := atI_nat (j := 12) (by rw [List.getElem?_map, h12]; rfl)
  have a13 : atI (zs.map V.str) 13 = some (.str zs[13]) := atI_nat (j := 13) (by rw [List.getElem?_map, h13]; rfl)
  refine fun dz ndz => ?_
  have e2 := same_new ndz (.dK [])
  have k2 := e1.trans e2
  refine ⟨_, rfl, ln, _, _, _, rfl, rfl, SqL.of (k2 _ _ eln), a12, (by show 2 ≤ sizeLine; decide), fun t3 nt3 => ?_⟩
  have e3 := same_new nt3 (.tup [.int 3, .int 2])
  have k3 := k2.trans e3
  refine ⟨_, rfl, ln, _, _, _, rfl, rfl, SqL.of (k3 _ _ eln), a13, (by show 2 ≤ sizeLine; decide), fun t1 nt1 => ?_⟩
  have e4 := same_new nt1 (.tup [.int 1, .int 1])
  have k4 := k3.trans e4
  have ez : upd (upd (upd (upd H1 lnd (.lst [])) dz (.dK [])) t3 (.tup [.int 3, .int 2])) t1 (.tup [.int 1, .int 1]) dz = some (.dK []) := e4 _ _ (e3 _ _ upd_same)
  have et3 := e4 _ _ (show upd (upd (upd H1 lnd (.lst [])) dz (.dK [])) t3 (.tup [.int 3, .int 2]) t3 = some (.tup [.int 3, .int 2]) from upd_same)
  have et1 : upd (upd (upd (upd H1 lnd (.lst [])) dz (.dK [])) t3 (.tup [.int 3, .int 2])) t1 (.tup [.int 1, .int 1]) t1 = some (.tup [.int 1, .int 1]) := upd_same
  have en0 : upd (upd (upd (upd H1 lnd (.lst [])) dz (.dK [])) t3 (.tup [.int 3, .int 2])) t1 (.tup [.int 1, .int 1]) lnd = some (.lst []) := e4 _ _ (e3 _ _ (e2 _ _ upd_same))
  generalize upd (upd (upd (upd H1 lnd (.lst [])) dz (.dK [])) t3 (.tup [.int 3, .int 2])) t1 (.tup [.int 1, .int 1]) = H2 at k4 ez et3 et1 en0 ⊢
  refine ⟨ez, [(.inr zs[12], .ref t3), (.inr zs[13], .ref t1)], rfl, (by show 2 ≤ 15; decide), ?_⟩
  have D1 := (DA.nil ez).put (x := zs[12]) (am_small (p := 3) (q := 2) (by decide) (by decide) rfl (by decide) (by decide)) et3 (by decide)
  have D2 := D1.put (t := t1) (x := zs[13]) (am_small (p := 1) (q := 1) (by decide) (by decide) rfl (by decide) (by decide)) (by rw [upd_ne (fun z => by rw [z, ez] at et1; cases et1)]; exact et1) (Nat.le_trans putK_lenU (by decide))
  rw [upd_twice] at D2
  have mk : mergeK [] [((.inr zs[12] : Key), V.ref t3), (.inr zs[13], .ref t1)] = putK (putK [] (.inr zs[12]) (.ref t3)) (.inr zs[13]) (.ref t1) := rfl
  rw [mk]
  have lk : (putK (putK [] (.inr zs[12] : Key) (V.ref t3)) (.inr zs[13]) (.ref t1)).length ≤ 2 := Nat.le_trans putK_lenU (Nat.succ_le_succ putK_lenU)
  have rk : ∀ p ∈ putK (putK [] (.inr zs[12] : Key) (V.ref t3)) (.inr zs[13]) (.ref t1), ∃ r, p.2 = V.ref r := putK_ref (putK_ref fun p hp => by cases hp)
  have sz0 : SzOk (Sw.putF (Sw.putF (fun _ => none) zs[12] 3 2) zs[13] 1 1) := fun y p' q' hy => by
    unfold Sw.putF at hy
    split at hy
    · cases hy; decide
    · split at hy
      · cases hy; decide
      · cases hy
  have en1 : upd H2 dz (.dK (putK (putK [] (.inr zs[12]) (.ref t3)) (.inr zs[13]) (.ref t1))) lnd = some (.lst []) := by
    rw [upd_ne (fun z => by rw [z, ez] at en0; cases en0)]
    exact en0
  have k5 := sUpd k4 (e1.free ndz) (.dK (putK (putK [] (.inr zs[12]) (.ref t3)) (.inr zs[13]) (.ref t1)))
  generalize putK (putK [] (.inr zs[12] : Key) (V.ref t3)) (.inr zs[13]) (.ref t1) = kz at D2 lk rk en1 k5 ⊢
  generalize Sw.putF (Sw.putF (fun _ => none) zs[12] 3 2) zs[13] 1 1 = gz at D2 sz0
  generalize upd H2 dz (.dK kz) = H3 at D2 en1 k5 ⊢
  refine fun dh ndh => ?_
  have e6 := same_new ndh (.dK [])
  have W0 : LwS (upd H3 dh (.dK [])) lnd dz dh [] kz [] gz (fun _ => none) := ⟨e6 _ _ en1, fun n hn => (by cases hn), D2.same e6, DA.nil upd_same, sz0, fun z => (by have := D2.e; rw [z, ndh] at this; cases this), fun p hp => rk p (by simpa using hp)⟩
  have k6 := k5.trans e6
  have nl1 : H1 lnd = none := nlnd
  have nz1 : H1 dz = none := e1.free ndz
  have nh1 : H1 dh = none := k5.free ndh
  generalize upd H3 dh (.dK []) = H4 at W0 k6 ⊢
  clear e1 e2 e3 e4 e6 k2 k3 k4 k5 D1 D2 ez et3 et1 en0 en1 rk sz0 mk h12 a12
  try dsimp only [gName, tNext]
  refine cut (fun σ H' => ∃ (o6 o7 o8 : Option V) (nds : List Nd5) (ks kh : List (Key × V)) (gs gh : AmF), σ = [some (.ref a), some (.int hd), some (.ref ln), some (.ref lnd), some (.ref dz), some (.ref dh), o6, o7, o8, none, none, none] ∧ Same H1 H' ∧ LwS H' lnd dz dh nds ks kh gs gh ∧ nds.length ≤ 12 ∧ (nds.map (·.s)).Nodup ∧ ks.length ≤ 50 ∧ kh.length ≤ 50) (fun N hN => ?_) ?_
  · have m13 := Int.fmod_nonneg_of_pos hd (show (0 : Int) < 13 by decide)
    have m13' := Int.fmod_lt_of_pos hd (show (0 : Int) < 13 by decide)
    refine ⟨_, rfl, _, _, rfl, rfl, (by show (13 : Int) ≠ 0; decide), _, rfl, by omega, by omega, for_range (fun i σ H' => ∃ (o6 o7 o8 : Option V) (nds : List Nd5) (ks kh : List (Key × V)) (gs gh : AmF), σ = [some (.ref a), some (.int hd), some (.ref ln), some (.ref lnd), some (.ref dz), some (.ref dh), o6, o7, o8, none, none, none] ∧ Same H1 H' ∧ LwS H' lnd dz dh nds ks kh gs gh ∧ nds.map (·.s) = zs.take i ∧ ks.length ≤ 2 + 3 * i ∧ kh.length ≤ 2 + 3 * i) ⟨none, none, none, [], kz, [], gz, _, rfl, k6, W0, rfl, by omega, by simp⟩ ?_ ?_⟩
    · rintro i σ H5 hi ⟨o6, o7, o8, nds, ks, kh, gs, gh, rfl, g5, W, en, lks, lkh⟩
      have i12 : i < 13 := by omega
      have hz := List.getElem?_eq_getElem (show i < zs.length by omega)
      generalize zs[i]'_ = z at hz
      have hS5 := g5.seq hS1
      have lnn : nds.length = i := by
        have := congrArg List.length en
        rw [List.length_map, List.length_take] at this
        omega
      refine ⟨_, rfl, _, rfl, _, _, rfl, rfl, IntMulOk.of_left (by decide), _, _, rfl, rfl, a, ns, _, rfl, hS5, (by omega), fun c2 => ⟨_, _, rfl, rfl, ⟨by decide, by decide⟩, _, _, rfl, rfl, (by show (10 ^ 12 : Int) ≠ 0; decide), ?_⟩⟩
      refine ⟨_, rfl, _, rfl, _, _, rfl, rfl, IntMulOk.of_left (by decide), _, _, rfl, rfl, a, ns, _, rfl, hS5, (by omega), fun c3 => ⟨_, _, rfl, rfl, ⟨by decide, by decide⟩, _, _, rfl, rfl, (by show (10 ^ 12 : Int) ≠ 0; decide), ?_⟩⟩
      dsimp only
      generalize c2.fmod _ = ce
      generalize c3.fmod _ = mo
      try dsimp only [gName, tNext]
      refine cut (fun σ H' => ∃ (nds : List Nd5) (ks kh : List (Key × V)) (gs gh : AmF), σ = [some (.ref a), some (.int hd), some (.ref ln), some (.ref lnd), some (.ref dz), some (.ref dh), some (.int (0 + (i : Int))), some (.int ce), some (.int mo), none, none, none] ∧ Same H1 H' ∧ LwS H' lnd dz dh nds ks kh gs gh ∧ nds.map (·.s) = zs.take (i + 1) ∧ ks.length ≤ 2 + 3 * i ∧ kh.length ≤ 2 + 3 * i) (fun N2 hN2 => ?_) ?_
      · refine ⟨_, rfl, .inl ⟨rfl, _, SqL.of W.e⟩, _, rfl, _, rfl, ln, _, _, _, rfl, rfl, SqL.of (g5 _ _ eln), (by rw [Int.zero_add]; exact atI_nat (by rw [List.getElem?_map, hz]; rfl)), _, rfl, ce, rfl, fun p q' p0 am ta H6 g6 e6 => ⟨(by show 2 ≤ sizeLine; decide), fun tn ntn => ?_⟩⟩
        have g7 := same_new ntn (.tup [.str z, .ref ta])
        have W7 := (W.same g6).same g7
        refine ⟨lnd, _, _, rfl, rfl, W7.e, by rw [List.length_map]; omega, hN2 _ _ ⟨nds ++ [⟨tn, z, ta, p, q'⟩], ks, kh, gs, gh, rfl, sUpd ((g5.trans g6).trans g7) nl1 _, W7.need (n := ⟨tn, z, ta, p, q'⟩) ⟨upd_same, g7 _ _ e6, am, p0⟩, ?_, lks, lkh⟩⟩
        rw [List.map_append, en, take_snoc hz]
        rfl
      clear W en lks lkh g5 hS5 lnn
      rintro σ H5 ⟨nds, ks, kh, gs, gh, rfl, g5, W, en, lks, lkh⟩
      try dsimp only [gName, tNext]
      refine cut (fun σ H' => ∃ (nds : List Nd5) (ks kh : List (Key × V)) (gs gh : AmF), σ = [some (.ref a), some (.int hd), some (.ref ln), some (.ref lnd), some (.ref dz), some (.ref dh), some (.int (0 + (i : Int))), some (.int ce), some (.int mo), none, none, none] ∧ Same H1 H' ∧ LwS H' lnd dz dh nds ks kh gs gh ∧ nds.map (·.s) = zs.take (i + 1) ∧ ks.length ≤ 3 + 3 * i ∧ kh.length ≤ 3 + 3 * i) (fun N2 hN2 => ?_) ?_
      · refine ⟨_, rfl, _, _, rfl, rfl, (by show (7 : Int) ≠ 0; decide), rfl, _, rfl, n2I (fun _ => ?_) (fun _ => hN2 _ _ ⟨nds, ks, kh, gs, gh, rfl, g5, W, en, by omega, by omega⟩)⟩
        refine ⟨_, rfl, _, _, rfl, rfl, ⟨by decide, PyProof.noPylong_small (by decide)⟩, _, rfl, fun p q' p0 am ta H6 g6 e6 => ⟨_, rfl, _, rfl, _, rfl, ln, _, _, _, rfl, rfl, SqL.of ((g5.trans g6) _ _ eln), (by rw [Int.zero_add]; exact atI_nat (by rw [List.getElem?_map, hz]; rfl)), dz, _, rfl, DPut.k (k := .inr z) (g6 _ _ W.D.e) (by omega), ?_⟩⟩
        exact hN2 _ _ ⟨nds, _, kh, _, gh, rfl, sUpd (g5.trans g6) nz1 _, (W.same g6).size am p0 e6 (by omega), en, Nat.le_trans putK_lenU (by omega), by omega⟩
      clear W en lks lkh g5
      rintro σ H5 ⟨nds, ks, kh, gs, gh, rfl, g5, W, en, lks, lkh⟩
      try dsimp only [gName, tNext]
      refine cut (fun σ H' => ∃ (nds : List Nd5) (ks kh : List (Key × V)) (gs gh : AmF), σ = [some (.ref a), some (.int hd), some (.ref ln), some (.ref lnd), some (.ref dz), some (.ref dh), some (.int (0 + (i : Int))), some (.int ce), some (.int mo), none, none, none] ∧ Same H1 H' ∧ LwS H' lnd dz dh nds ks kh gs gh ∧ nds.map (·.s) = zs.take (i + 1) ∧ ks.length ≤ 4 + 3 * i ∧ kh.length ≤ 4 + 3 * i) (fun N2 hN2 => ?_) ?_
      · refine ⟨_, rfl, _, _, rfl, rfl, ⟨by decide, PyProof.noPylong_small (by decide)⟩, _, _, rfl, rfl, (by show (4 : Int) ≠ 0; decide), rfl, _, rfl, d2 (fun _ => ?_) (fun _ => hN2 _ _ ⟨nds, ks, kh, gs, gh, rfl, g5, W, en, by omega, by omega⟩)⟩
        refine ⟨_, rfl, ce, rfl, fun p q' p0 am ta H6 g6 e6 => ⟨_, rfl, _, rfl, _, rfl, ln, _, _, _, rfl, rfl, SqL.of ((g5.trans g6) _ _ eln), (by rw [Int.zero_add]; exact atI_nat (by rw [List.getElem?_map, hz]; rfl)), dh, _, rfl, DPut.k (k := .inr z) (g6 _ _ W.Dh.e) (by omega), ?_⟩⟩
        exact hN2 _ _ ⟨nds, ks, _, gs, _, rfl, sUpd (g5.trans g6) nh1 _, (W.same g6).shelf am e6 (by omega), en, by omega, Nat.le_trans putK_lenU (by omega)⟩
      clear W en lks lkh g5
      rintro σ H5 ⟨nds, ks, kh, gs, gh, rfl, g5, W, en, lks, lkh⟩
      refine ⟨_, rfl, _, _, rfl, rfl, ⟨by decide, PyProof.noPylong_small (by decide)⟩, _, _, rfl, rfl, (by show (4 : Int) ≠ 0; decide), rfl, _, rfl, d2 (fun _ => ?_) (fun _ => ⟨_, _, _, nds, ks, kh, gs, gh, rfl, g5, W, en, by omega, by omega⟩)⟩
      refine ⟨_, rfl, _, _, rfl, rfl, ⟨by decide, PyProof.noPylong_small (by decide)⟩, _, rfl, fun p q' p0 am ta H6 g6 e6 => ⟨(by show 2 ≤ sizeLine; decide), fun tz ntz => ⟨(by show 2 ≤ sizeLine; decide), fun l2 nl2 => ?_⟩⟩⟩
      have g7 := same_new ntz (.tup [.int 0, .int 1])
      have g8 := same_new nl2 (.lst [.ref ta, .ref tz])
      have k8 := (g6.trans g7).trans g8
      have w0 := Int.fmod_nonneg_of_pos (mo.fdiv 20) (show (0 : Int) < 2 by decide)
      have w1 := Int.fmod_lt_of_pos (mo.fdiv 20) (show (0 : Int) < 2 by decide)
      have pick : ∃ (tt : Addr) (p2 q2 : Int), atI [V.ref ta, V.ref tz] ((mo.fdiv 20).fmod 2) = some (.ref tt) ∧ AmOk p2 q2 ∧ upd (upd H6 tz (.tup [.int 0, .int 1])) l2 (.lst [.ref ta, .ref tz]) tt = some (.tup [.int p2, .int q2]) := by
        rcases (by omega : (mo.fdiv 20).fmod 2 = 0 ∨ (mo.fdiv 20).fmod 2 = 1) with e | e
        · rw [e]; exact ⟨ta, p, q', rfl, am, g8 _ _ (g7 _ _ e6)⟩
        · rw [e]; exact ⟨tz, 0, 1, rfl, AmOk.zero, g8 _ _ upd_same⟩
      obtain ⟨tt, p2, q2, att, am2, ett⟩ := pick
      refine ⟨_, rfl, _, _, rfl, rfl, ⟨by decide, PyProof.noPylong_small (by decide)⟩, _, _, rfl, rfl, (by show (2 : Int) ≠ 0; decide), l2, _, _, _, rfl, rfl, SqL.of upd_same, att, _, rfl, _, rfl, _, rfl, ln, _, _, _, rfl, rfl, SqL.of ((g5.trans k8) _ _ eln), (by rw [Int.zero_add]; exact atI_nat (by rw [List.getElem?_map, hz]; rfl)), dh, _, rfl, DPut.k (k := .inr z) (k8 _ _ W.Dh.e) (by omega), ?_⟩
      exact ⟨_, _, _, nds, ks, _, gs, _, rfl, sUpd (g5.trans k8) nh1 _, (W.same k8).shelf am2 ett (by omega), en, by omega, Nat.le_trans putK_lenU (by omega)⟩
    · rintro σ H5 ⟨o6, o7, o8, nds, ks, kh, gs, gh, rfl, g5, W, en, lks, lkh⟩
      have ln12 : nds.length ≤ 12 := by
        have := congrArg List.length en
        rw [List.length_map, List.length_take] at this
        omega
      exact hN _ _ ⟨_, _, _, nds, ks, kh, gs, gh, rfl, g5, W, ln12, by rw [en]; exact zn.sublist (List.take_sublist _ _), by omega, by omega⟩
  clear W0 k6 lk
  rintro σ H5 ⟨o6, o7, o8, nds, ks, kh, gs, gh, rfl, g5, W, l12, nd, lks, lkh⟩
  have fA : ∀ n ∈ nds, nameF H5 n.t = n.s := fun n hn => nameF_at (W.each n hn).e
  refine ⟨_, rfl, lnd, nds.map (·.t), nameF H5, rfl, by rw [W.e, List.map_map]; rfl, (fun b hb => ?_), ?_, by rw [List.length_map]; omega, fun ly bs nly pm _ => ?_⟩
  · obtain ⟨n, hn, rfl⟩ := List.mem_map.mp hb
    exact ⟨n.a, by rw [fA n hn]; exact (W.each n hn).e⟩
  · rw [List.map_map]
    have : nds.map (nameF H5 ∘ fun n => n.t) = nds.map (·.s) := List.map_congr_left fun n hn => fA n hn
    rw [this]
    exact nd
  obtain ⟨nd2, pm2, rfl⟩ := perm_lift pm nds rfl
  have g6 := same_new nly (.lst ((nd2.map (·.t)).map V.ref))
  have ne6 : NeA (upd H5 ly (.lst ((nd2.map (·.t)).map V.ref))) ly nd2 := ⟨by rw [upd_same, List.map_map]; rfl, by rw [pm2.length_eq]; exact l12, fun n hn => (W.each n (pm2.mem_iff.mp hn)).same g6⟩
  have D6 := W.D.same g6
  have Dh6 := W.Dh.same g6
  have k6 := g5.trans g6
  have rf := W.rf
  have sz := W.sz
  have dne := W.ne
  generalize upd H5 ly (.lst ((nd2.map (·.t)).map V.ref)) = H6 at ne6 D6 Dh6 k6 ⊢
  clear W g5 g6 fA nd pm pm2 l12 nly
  refine ⟨_, rfl, _, _, rfl, rfl, ⟨by decide, PyProof.noPylong_small (by decide)⟩, _, _, rfl, rfl, (by show (3 : Int) ≠ 0; decide), rfl, ?_⟩
  generalize decide (V.int ((hd.fdiv 13).fmod 3) = V.int 1) = b
  try dsimp only [gName, tNext]
  refine cut (fun σ H' => ∃ (dh : Addr) (kh : List (Key × V)) (gh : AmF), σ = [some (.ref a), some (.int hd), some (.ref ln), some (.ref ly), some (.ref dz), some (.ref dh), o6, o7, o8, some (.bl b), none, none] ∧ Same H1 H' ∧ NeA H' ly nd2 ∧ DA H' dz ks gs ∧ DA H' dh kh gh ∧ (b = true → gh = fun _ => none) ∧ ∀ p ∈ ks ++ kh, ∃ r, p.2 = V.ref r) (fun N hN => ?_) ?_
  · refine ⟨_, rfl, b, rfl, ?_⟩
    cases b with
    | true =>
      refine iteT fun d nd => ?_
      have g7 := same_new nd (.dK [])
      exact hN _ _ ⟨d, [], _, rfl, k6.trans g7, ne6.same g7, D6.same g7, DA.nil upd_same, fun _ => rfl, fun p hp => rf p (List.mem_append_left _ (by simpa using hp))⟩
    | false =>
      refine iteF ⟨_, rfl, _, _, rfl, rfl, ⟨by decide, PyProof.noPylong_small (by decide)⟩, _, _, rfl, rfl, (by show (2 : Int) ≠ 0; decide), rfl, _, rfl, d2 (fun _ => ?_) (fun _ => hN _ _ ⟨dh, kh, gh, rfl, k6, ne6, D6, Dh6, fun z => (nomatch z), rf⟩)⟩
      refine ⟨(by show 2 ≤ sizeLine; decide), fun t5 nt5 => ?_⟩
      have g7 := same_new nt5 (.tup [.int 5, .int 4])
      have Dh7 := Dh6.same g7
      have D7 := D6.same g7
      have ne7 := ne6.same g7
      have nt : ∀ xs, upd H6 t5 (.tup [.int 5, .int 4]) dh ≠ some (.tup xs) := fun xs z => by rw [Dh7.e] at z; cases z
      refine ⟨_, rfl, _, rfl, ln, _, _, _, rfl, rfl, SqL.of ((k6.trans g7) _ _ eln), a13, dh, _, rfl, DPut.k (k := .inr zs[13]) Dh7.e (by omega), ?_⟩
      refine hN _ _ ⟨dh, _, _, rfl, sUpd (k6.trans g7) nh1 _, ⟨?_, ne7.few, fun n hn => (ne7.each n hn).tups (tup_keep nt)⟩, D7.upd (fun z => dne z.symm) nt _, Dh7.put (am_small (p := 5) (q := 4) (by decide) (by decide) rfl (by decide) (by decide)) upd_same (by omega), fun z => (nomatch z), fun p hp => ?_⟩
      · rw [upd_ne (fun z => by have := ne7.e; rw [z, Dh7.e] at this; cases this)]
        exact ne7.e
      · rcases List.mem_append.mp hp with z | z
        · exact rf p (List.mem_append_left _ z)
        · exact putK_ref (fun p hp => rf p (List.mem_append_right _ hp)) p z
  clear ne6 D6 Dh6 k6 rf nh1 dne lkh
  rintro σ H6 ⟨dh, kh, gh, rfl, k6, ne6, D6, Dh6, hb, rf⟩
  refine ⟨_, rfl, ly, _, rfl, .inl (SqL.of ne6.e), fun l1 nl1 => ?_⟩
  have g1' := same_new nl1 (.lst (nd2.map fun n => V.ref n.t))
  refine ⟨_, rfl, dz, _, rfl, g1' _ _ D6.e, fun d1 nd1 => ?_⟩
  have g2' := same_new nd1 (.dK ks)
  refine ⟨_, rfl, dh, _, rfl, g2' _ _ (g1' _ _ Dh6.e), fun d2' nd2' => ?_⟩
  have g3' := same_new nd2' (.dK kh)
  refine ⟨(by show 3 ≤ sizeLine; decide), fun lh nlh => ?_⟩
  have g4' := same_new nlh (.lst [.ref l1, .ref d1, .ref d2'])
  have gg := ((g1'.trans g2').trans g3').trans g4'
  have el1 := (g2'.trans (g3'.trans g4')) _ _ (upd_same (H := H6) (a := l1) (o := .lst (nd2.map fun n => V.ref n.t)))
  have ed1 := (g3'.trans g4') _ _ (upd_same (H := upd H6 l1 (.lst (nd2.map fun n => V.ref n.t))) (a := d1) (o := .dK ks))
  have ed2 := g4' _ _ (upd_same (H := upd (upd H6 l1 (.lst (nd2.map fun n => V.ref n.t))) d1 (.dK ks)) (a := d2') (o := .dK kh))
  have elh : upd (upd (upd (upd H6 l1 (.lst (nd2.map fun n => V.ref n.t))) d1 (.dK ks)) d2' (.dK kh)) lh (.lst [.ref l1, .ref d1, .ref d2']) lh = some (.lst [.ref l1, .ref d1, .ref d2']) := upd_same
  have d12 : d1 ≠ d2' := fun z => by
    subst z
    rw [upd_same] at nd2'
    cases nd2'
  generalize upd (upd (upd (upd H6 l1 (.lst (nd2.map fun n => V.ref n.t))) d1 (.dK ks)) d2' (.dK kh)) lh (.lst [.ref l1, .ref d1, .ref d2']) = H7 at gg el1 ed1 ed2 elh ⊢
  clear g1' g2' g3' g4' nl1 nd1 nd2' nlh
  have neL : NeA H7 l1 nd2 := ⟨el1, ne6.few, fun n hn => (ne6.each n hn).same gg⟩
  have DL : DA H7 d1 ks gs := D6.copy gg ed1
  have DhL : DA H7 d2' kh gh := Dh6.copy gg ed2
  have x0 : atI [V.ref l1, V.ref d1, V.ref d2'] 0 = some (.ref l1) := rfl
  have x1 : atI [V.ref l1, V.ref d1, V.ref d2'] 1 = some (.ref d1) := rfl
  have x2 : atI [V.ref l1, V.ref d1, V.ref d2'] 2 = some (.ref d2') := rfl
  try dsimp only [gName, tNext]
  refine cut (fun σ H' => σ = [some (.ref a), some (.int hd), some (.ref ln), some (.ref ly), some (.ref dz), some (.ref dh), o6, o7, o8, some (.bl b), some (.ref lh), none] ∧ Same H7 H') (fun N hN => ?_) ?_
  · refine ⟨_, rfl, lh, _, _, _, rfl, rfl, SqL.of elh, x0, _, rfl, lh, _, _, _, rfl, rfl, SqL.of elh, x1, _, rfl, lh, _, _, _, rfl, rfl, SqL.of elh, x2, _, rfl, l1, d1, d2', b, nd2, ks, kh, gs, gh, rfl, neL, DL, sz, DhL, hb, fun H8 g8 => ⟨_, rfl, iteF ⟨_, rfl, _, rfl, _, rfl, _, rfl, (by show 3 ≤ sizeLine; decide), fun l3 nl3 => ?_⟩⟩⟩
    have g9 := same_new nl3 (.lst [.ref ly, .ref dz, .ref dh])
    have k9 := g8.trans g9
    have m9 := gg.trans k9
    exact ⟨lh, l3, l1, ly, d1, dz, d2', dh, nd2.map (·.t), ks, kh, rfl, rfl, k9 _ _ elh, upd_same, by rw [k9 _ _ el1, List.map_map]; rfl, by rw [m9 _ _ ne6.e, List.map_map]; rfl, k9 _ _ ed1, m9 _ _ D6.e, k9 _ _ ed2, m9 _ _ Dh6.e, rf, _, rfl, iteF (hN _ _ ⟨rfl, k9⟩)⟩
  rintro σ H8 ⟨rfl, g8⟩
  have m8 := gg.trans g8
  refine ⟨_, rfl, _, rfl, _, rfl, ly, dz, dh, nd2, ks, kh, gs, gh, rfl, ne6.same m8, D6.same m8, Dh6.same m8, fun H9 g9 => ?_⟩
  have k9 := g8.trans g9
  try dsimp only [gName, tNext]
  refine cut (fun σ H' => ∃ (o11 : Option V) (ks : List (Key × V)) (gs : AmF), σ = [some (.ref a), some (.int hd), some (.ref ln), some (.ref ly), some (.ref dz), some (.ref dh), o6, o7, o8, some (.bl b), some (.ref lh), o11] ∧ H' lh = some (.lst [.ref l1, .ref d1, .ref d2']) ∧ NeA H' l1 nd2 ∧ DA H' d1 ks gs ∧ SzOk gs ∧ DA H' d2' kh gh) (fun N hN => ?_) ?_
  · cases hl : lackF gs gh nd2 with
    | none => exact ⟨_, rfl, rfl, _, rfl, nF rfl (hN _ _ ⟨_, ks, gs, rfl, k9 _ _ elh, neL.same k9, DL.same k9, sz, DhL.same k9⟩)⟩
    | some s2 =>
      refine ⟨_, rfl, rfl, _, rfl, nT nofun ⟨(by show 2 ≤ sizeLine; decide), fun t2 nt2 => ?_⟩⟩
      have g10 := same_new nt2 (.tup [.int 2, .int 7])
      have k10 := k9.trans g10
      have D10 := DL.same k10
      have ne10 := neL.same k10
      have nt : ∀ xs, upd H9 t2 (.tup [.int 2, .int 7]) d1 ≠ some (.tup xs) := fun xs z => by rw [D10.e] at z; cases z
      refine ⟨_, rfl, lh, _, _, _, rfl, rfl, SqL.of (k10 _ _ elh), x1, _, rfl, d1, _, rfl, DPut.k (k := .inr s2) D10.e (by omega), ?_⟩
      refine hN _ _ ⟨_, _, _, rfl, ?_, ⟨?_, ne10.few, fun n hn => (ne10.each n hn).tups (tup_keep nt)⟩, D10.put (am_small (p := 2) (q := 7) (by decide) (by decide) rfl (by decide) (by decide)) upd_same (by omega), fun y p' q' hy => ?_, (DhL.same k10).upd d12 nt _⟩
      · rw [upd_ne (fun z => by have := k10 _ _ elh; rw [z, D10.e] at this; cases this)]
        exact k10 _ _ elh
      · rw [upd_ne (fun z => by have := ne10.e; rw [z, D10.e] at this; cases this)]
        exact ne10.e
      · unfold Sw.putF at hy
        split at hy
        · cases hy; decide
        · exact sz y p' q' hy
  rintro σ H10 ⟨o11, ks2, gs2, rfl, elh2, neL2, DL2, sz2, DhL2⟩
  exact ⟨_, rfl, lh, _, _, _, rfl, rfl, SqL.of elh2, x0, _, rfl, lh, _, _, _, rfl, rfl, SqL.of elh2, x1, _, rfl, lh, _, _, _, rfl, rfl, SqL.of elh2, x2, _, rfl, l1, d1, d2', b, nd2, ks2, kh, gs2, gh, rfl, neL2, DL2, sz2, DhL2, hb, fun H11 g11 => q _⟩

end
set_option maxHeartbeats 4000000 in
theorem all_mk {l : PySem.W.OpenLaw} {w : World} {K : PySem.W.Frag} {h : Heap} {mg : Str → Option Value} {fa fis_whole fdivisor ffraction fplus fminus fproduct fquotient fis_less fround_up fpacks_for fpacks_of_need fbought_of f_law_cell_at f_law_names f_law_divisor_of f_law_lowest f_law_amount f_law_under f_law_over f_law_whole f_law_row f_law_lacking f_law_refused f_law_asked f_law_right flaw c_EmptyHeap c_InRing c_NoAmount c_NoDish c_NoName c_NoNet c_NoNumber c_NoPack c_NoPlan c_NoRow c_NoStand c_NoStandIn c_NoStep c_StoveError c_TooFew c_TooMany c_Twice f_NoPack : Addr} (X : K.In h) (G : h.Ns mainGlobals mg) (hfa : mg "law" = some (.ref fa))
    {od_NoPack an_NoPack : Option Addr} {sl_NoPack : Array (Option Value)} {oc_NoPack kV_NoPack dc_NoPack pm_NoPack cd_NoPack ct_NoPack : Value}
    {odis_whole anis_whole : Option Addr} {slis_whole : Array (Option Value)} {ocis_whole kVis_whole dcis_whole pmis_whole cdis_whole ctis_whole : Value}
    {oddivisor andivisor : Option Addr} {sldivisor : Array (Option Value)} {ocdivisor kVdivisor dcdivisor pmdivisor cddivisor ctdivisor : Value}
    {odfraction anfraction : Option Addr} {slfraction : Array (Option Value)} {ocfraction kVfraction dcfraction pmfraction cdfraction ctfraction : Value}
    {odplus anplus : Option Addr} {slplus : Array (Option Value)} {ocplus kVplus dcplus pmplus cdplus ctplus : Value}
    {odminus anminus : Option Addr} {slminus : Array (Option Value)} {ocminus kVminus dcminus pmminus cdminus ctminus : Value}
    {odproduct anproduct : Option Addr} {slproduct : Array (Option Value)} {ocproduct kVproduct dcproduct pmproduct cdproduct ctproduct : Value}
    {odquotient anquotient : Option Addr} {slquotient : Array (Option Value)} {ocquotient kVquotient dcquotient pmquotient cdquotient ctquotient : Value}
    {odis_less anis_less : Option Addr} {slis_less : Array (Option Value)} {ocis_less kVis_less dcis_less pmis_less cdis_less ctis_less : Value}
    {odround_up anround_up : Option Addr} {slround_up : Array (Option Value)} {ocround_up kVround_up dcround_up pmround_up cdround_up ctround_up : Value}
    {odpacks_for anpacks_for : Option Addr} {slpacks_for : Array (Option Value)} {ocpacks_for kVpacks_for dcpacks_for pmpacks_for cdpacks_for ctpacks_for : Value}
    {odpacks_of_need anpacks_of_need : Option Addr} {slpacks_of_need : Array (Option Value)} {ocpacks_of_need kVpacks_of_need dcpacks_of_need pmpacks_of_need cdpacks_of_need ctpacks_of_need : Value}
    {odbought_of anbought_of : Option Addr} {slbought_of : Array (Option Value)} {ocbought_of kVbought_of dcbought_of pmbought_of cdbought_of ctbought_of : Value}
    {od_law_cell_at an_law_cell_at : Option Addr} {sl_law_cell_at : Array (Option Value)} {oc_law_cell_at kV_law_cell_at dc_law_cell_at pm_law_cell_at cd_law_cell_at ct_law_cell_at : Value}
    {od_law_names an_law_names : Option Addr} {sl_law_names : Array (Option Value)} {oc_law_names kV_law_names dc_law_names pm_law_names cd_law_names ct_law_names : Value}
    {od_law_divisor_of an_law_divisor_of : Option Addr} {sl_law_divisor_of : Array (Option Value)} {oc_law_divisor_of kV_law_divisor_of dc_law_divisor_of pm_law_divisor_of cd_law_divisor_of ct_law_divisor_of : Value}
    {od_law_lowest an_law_lowest : Option Addr} {sl_law_lowest : Array (Option Value)} {oc_law_lowest kV_law_lowest dc_law_lowest pm_law_lowest cd_law_lowest ct_law_lowest : Value}
    {od_law_amount an_law_amount : Option Addr} {sl_law_amount : Array (Option Value)} {oc_law_amount kV_law_amount dc_law_amount pm_law_amount cd_law_amount ct_law_amount : Value}
    {od_law_under an_law_under : Option Addr} {sl_law_under : Array (Option Value)} {oc_law_under kV_law_under dc_law_under pm_law_under cd_law_under ct_law_under : Value}
    {od_law_over an_law_over : Option Addr} {sl_law_over : Array (Option Value)} {oc_law_over kV_law_over dc_law_over pm_law_over cd_law_over ct_law_over : Value}
    {od_law_whole an_law_whole : Option Addr} {sl_law_whole : Array (Option Value)} {oc_law_whole kV_law_whole dc_law_whole pm_law_whole cd_law_whole ct_law_whole : Value}
    {od_law_row an_law_row : Option Addr} {sl_law_row : Array (Option Value)} {oc_law_row kV_law_row dc_law_row pm_law_row cd_law_row ct_law_row : Value}
    {od_law_lacking an_law_lacking : Option Addr} {sl_law_lacking : Array (Option Value)} {oc_law_lacking kV_law_lacking dc_law_lacking pm_law_lacking cd_law_lacking ct_law_lacking : Value}
    {od_law_refused an_law_refused : Option Addr} {sl_law_refused : Array (Option Value)} {oc_law_refused kV_law_refused dc_law_refused pm_law_refused cd_law_refused ct_law_refused : Value}
    {od_law_asked an_law_asked : Option Addr} {sl_law_asked : Array (Option Value)} {oc_law_asked kV_law_asked dc_law_asked pm_law_asked cd_law_asked ct_law_asked : Value}
    {od_law_right an_law_right : Option Addr} {sl_law_right : Array (Option Value)} {oc_law_right kV_law_right dc_law_right pm_law_right cd_law_right ct_law_right : Value}
    {odlaw anlaw : Option Addr} {sllaw : Array (Option Value)} {oclaw kVlaw dclaw pmlaw cdlaw ctlaw : Value}
    {Tfraction : Addr} {Tofraction : Value} {Tdfraction : Option Addr} {Tnfraction : Nat} {Tsfraction : Array (Option Value)} {Ttfraction : Tok}
    {Tpacks_for : Addr} {Topacks_for : Value} {Tdpacks_for : Option Addr} {Tnpacks_for : Nat} {Tspacks_for : Array (Option Value)}
    {Tbought_of : Addr} {Tobought_of : Value} {Tdbought_of : Option Addr} {Tnbought_of : Nat} {Tsbought_of : Array (Option Value)}
    (ais_whole : PySem.W.nsIn K mainGlobals "is_whole" = some (some (.ref fis_whole)))
    (lis_whole : K.lookup fis_whole = some ⟨ocis_whole, odis_whole, .func (PySem.W.fnOf "is_whole" "is_whole" (defArgs sis_whole) (defBody sis_whole) (defScope sis_whole) .none kVis_whole dcis_whole pmis_whole anis_whole cdis_whole ctis_whole), slis_whole⟩) (cis_whole : PySem.W.codeIn K cdis_whole "is_whole" = true) (kis_whole : PySem.W.keepIn K (.ref fis_whole) = true)
    (adivisor : PySem.W.nsIn K mainGlobals "divisor" = some (some (.ref fdivisor)))
    (ldivisor : K.lookup fdivisor = some ⟨ocdivisor, oddivisor, .func (PySem.W.fnOf "divisor" "divisor" (defArgs sdivisor) (defBody sdivisor) (defScope sdivisor) .none kVdivisor dcdivisor pmdivisor andivisor cddivisor ctdivisor), sldivisor⟩) (cdivisor : PySem.W.codeIn K cddivisor "divisor" = true) (kdivisor : PySem.W.keepIn K (.ref fdivisor) = true)
    (afraction : PySem.W.nsIn K mainGlobals "fraction" = some (some (.ref ffraction)))
    (lfraction : K.lookup ffraction = some ⟨ocfraction, odfraction, .func (PySem.W.fnOf "fraction" "fraction" (defArgs sfraction) (defBody sfraction) (defScope sfraction) (.ref Tfraction) kVfraction dcfraction pmfraction anfraction cdfraction ctfraction), slfraction⟩) (cfraction : PySem.W.codeIn K cdfraction "fraction" = true) (kfraction : PySem.W.keepIn K (.ref ffraction) = true)
    (aplus : PySem.W.nsIn K mainGlobals "plus" = some (some (.ref fplus)))
    (lplus : K.lookup fplus = some ⟨ocplus, odplus, .func (PySem.W.fnOf "plus" "plus" (defArgs splus) (defBody splus) (defScope splus) .none kVplus dcplus pmplus anplus cdplus ctplus), slplus⟩) (cplus : PySem.W.codeIn K cdplus "plus" = true) (kplus : PySem.W.keepIn K (.ref fplus) = true)
    (aminus : PySem.W.nsIn K mainGlobals "minus" = some (some (.ref fminus)))
    (lminus : K.lookup fminus = some ⟨ocminus, odminus, .func (PySem.W.fnOf "minus" "minus" (defArgs sminus) (defBody sminus) (defScope sminus) .none kVminus dcminus pmminus anminus cdminus ctminus), slminus⟩) (cminus : PySem.W.codeIn K cdminus "minus" = true) (kminus : PySem.W.keepIn K (.ref fminus) = true)
    (aproduct : PySem.W.nsIn K mainGlobals "product" = some (some (.ref fproduct)))
    (lproduct : K.lookup fproduct = some ⟨ocproduct, odproduct, .func (PySem.W.fnOf "product" "product" (defArgs sproduct) (defBody sproduct) (defScope sproduct) .none kVproduct dcproduct pmproduct anproduct cdproduct ctproduct), slproduct⟩) (cproduct : PySem.W.codeIn K cdproduct "product" = true) (kproduct : PySem.W.keepIn K (.ref fproduct) = true)
    (aquotient : PySem.W.nsIn K mainGlobals "quotient" = some (some (.ref fquotient)))
    (lquotient : K.lookup fquotient = some ⟨ocquotient, odquotient, .func (PySem.W.fnOf "quotient" "quotient" (defArgs squotient) (defBody squotient) (defScope squotient) .none kVquotient dcquotient pmquotient anquotient cdquotient ctquotient), slquotient⟩) (cquotient : PySem.W.codeIn K cdquotient "quotient" = true) (kquotient : PySem.W.keepIn K (.ref fquotient) = true)
    (ais_less : PySem.W.nsIn K mainGlobals "is_less" = some (some (.ref fis_less)))
    (lis_less : K.lookup fis_less = some ⟨ocis_less, odis_less, .func (PySem.W.fnOf "is_less" "is_less" (defArgs sis_less) (defBody sis_less) (defScope sis_less) .none kVis_less dcis_less pmis_less anis_less cdis_less ctis_less), slis_less⟩) (cis_less : PySem.W.codeIn K cdis_less "is_less" = true) (kis_less : PySem.W.keepIn K (.ref fis_less) = true)
    (around_up : PySem.W.nsIn K mainGlobals "round_up" = some (some (.ref fround_up)))
    (lround_up : K.lookup fround_up = some ⟨ocround_up, odround_up, .func (PySem.W.fnOf "round_up" "round_up" (defArgs sround_up) (defBody sround_up) (defScope sround_up) .none kVround_up dcround_up pmround_up anround_up cdround_up ctround_up), slround_up⟩) (cround_up : PySem.W.codeIn K cdround_up "round_up" = true) (kround_up : PySem.W.keepIn K (.ref fround_up) = true)
    (apacks_for : PySem.W.nsIn K mainGlobals "packs_for" = some (some (.ref fpacks_for)))
    (lpacks_for : K.lookup fpacks_for = some ⟨ocpacks_for, odpacks_for, .func (PySem.W.fnOf "packs_for" "packs_for" (defArgs spacks_for) (defBody spacks_for) (defScope spacks_for) (.ref Tpacks_for) kVpacks_for dcpacks_for pmpacks_for anpacks_for cdpacks_for ctpacks_for), slpacks_for⟩) (cpacks_for : PySem.W.codeIn K cdpacks_for "packs_for" = true) (kpacks_for : PySem.W.keepIn K (.ref fpacks_for) = true)
    (apacks_of_need : PySem.W.nsIn K mainGlobals "packs_of_need" = some (some (.ref fpacks_of_need)))
    (lpacks_of_need : K.lookup fpacks_of_need = some ⟨ocpacks_of_need, odpacks_of_need, .func (PySem.W.fnOf "packs_of_need" "packs_of_need" (defArgs spacks_of_need) (defBody spacks_of_need) (defScope spacks_of_need) .none kVpacks_of_need dcpacks_of_need pmpacks_of_need anpacks_of_need cdpacks_of_need ctpacks_of_need), slpacks_of_need⟩) (cpacks_of_need : PySem.W.codeIn K cdpacks_of_need "packs_of_need" = true) (kpacks_of_need : PySem.W.keepIn K (.ref fpacks_of_need) = true)
    (abought_of : PySem.W.nsIn K mainGlobals "bought_of" = some (some (.ref fbought_of)))
    (lbought_of : K.lookup fbought_of = some ⟨ocbought_of, odbought_of, .func (PySem.W.fnOf "bought_of" "bought_of" (defArgs sbought_of) (defBody sbought_of) (defScope sbought_of) (.ref Tbought_of) kVbought_of dcbought_of pmbought_of anbought_of cdbought_of ctbought_of), slbought_of⟩) (cbought_of : PySem.W.codeIn K cdbought_of "bought_of" = true) (kbought_of : PySem.W.keepIn K (.ref fbought_of) = true)
    (a_law_cell_at : PySem.W.nsIn K mainGlobals "_law_cell_at" = some (some (.ref f_law_cell_at)))
    (l_law_cell_at : K.lookup f_law_cell_at = some ⟨oc_law_cell_at, od_law_cell_at, .func (PySem.W.fnOf "_law_cell_at" "_law_cell_at" (defArgs s_law_cell_at) (defBody s_law_cell_at) (defScope s_law_cell_at) .none kV_law_cell_at dc_law_cell_at pm_law_cell_at an_law_cell_at cd_law_cell_at ct_law_cell_at), sl_law_cell_at⟩) (c_law_cell_at : PySem.W.codeIn K cd_law_cell_at "_law_cell_at" = true) (k_law_cell_at : PySem.W.keepIn K (.ref f_law_cell_at) = true)
    (a_law_names : PySem.W.nsIn K mainGlobals "_law_names" = some (some (.ref f_law_names)))
    (l_law_names : K.lookup f_law_names = some ⟨oc_law_names, od_law_names, .func (PySem.W.fnOf "_law_names" "_law_names" (defArgs s_law_names) (defBody s_law_names) (defScope s_law_names) .none kV_law_names dc_law_names pm_law_names an_law_names cd_law_names ct_law_names), sl_law_names⟩) (c_law_names : PySem.W.codeIn K cd_law_names "_law_names" = true) (k_law_names : PySem.W.keepIn K (.ref f_law_names) = true)
    (a_law_divisor_of : PySem.W.nsIn K mainGlobals "_law_divisor_of" = some (some (.ref f_law_divisor_of)))
    (l_law_divisor_of : K.lookup f_law_divisor_of = some ⟨oc_law_divisor_of, od_law_divisor_of, .func (PySem.W.fnOf "_law_divisor_of" "_law_divisor_of" (defArgs s_law_divisor_of) (defBody s_law_divisor_of) (defScope s_law_divisor_of) .none kV_law_divisor_of dc_law_divisor_of pm_law_divisor_of an_law_divisor_of cd_law_divisor_of ct_law_divisor_of), sl_law_divisor_of⟩) (c_law_divisor_of : PySem.W.codeIn K cd_law_divisor_of "_law_divisor_of" = true) (k_law_divisor_of : PySem.W.keepIn K (.ref f_law_divisor_of) = true)
    (a_law_lowest : PySem.W.nsIn K mainGlobals "_law_lowest" = some (some (.ref f_law_lowest)))
    (l_law_lowest : K.lookup f_law_lowest = some ⟨oc_law_lowest, od_law_lowest, .func (PySem.W.fnOf "_law_lowest" "_law_lowest" (defArgs s_law_lowest) (defBody s_law_lowest) (defScope s_law_lowest) .none kV_law_lowest dc_law_lowest pm_law_lowest an_law_lowest cd_law_lowest ct_law_lowest), sl_law_lowest⟩) (c_law_lowest : PySem.W.codeIn K cd_law_lowest "_law_lowest" = true) (k_law_lowest : PySem.W.keepIn K (.ref f_law_lowest) = true)
    (a_law_amount : PySem.W.nsIn K mainGlobals "_law_amount" = some (some (.ref f_law_amount)))
    (l_law_amount : K.lookup f_law_amount = some ⟨oc_law_amount, od_law_amount, .func (PySem.W.fnOf "_law_amount" "_law_amount" (defArgs s_law_amount) (defBody s_law_amount) (defScope s_law_amount) .none kV_law_amount dc_law_amount pm_law_amount an_law_amount cd_law_amount ct_law_amount), sl_law_amount⟩) (c_law_amount : PySem.W.codeIn K cd_law_amount "_law_amount" = true) (k_law_amount : PySem.W.keepIn K (.ref f_law_amount) = true)
    (a_law_under : PySem.W.nsIn K mainGlobals "_law_under" = some (some (.ref f_law_under)))
    (l_law_under : K.lookup f_law_under = some ⟨oc_law_under, od_law_under, .func (PySem.W.fnOf "_law_under" "_law_under" (defArgs s_law_under) (defBody s_law_under) (defScope s_law_under) .none kV_law_under dc_law_under pm_law_under an_law_under cd_law_under ct_law_under), sl_law_under⟩) (c_law_under : PySem.W.codeIn K cd_law_under "_law_under" = true) (k_law_under : PySem.W.keepIn K (.ref f_law_under) = true)
    (a_law_over : PySem.W.nsIn K mainGlobals "_law_over" = some (some (.ref f_law_over)))
    (l_law_over : K.lookup f_law_over = some ⟨oc_law_over, od_law_over, .func (PySem.W.fnOf "_law_over" "_law_over" (defArgs s_law_over) (defBody s_law_over) (defScope s_law_over) .none kV_law_over dc_law_over pm_law_over an_law_over cd_law_over ct_law_over), sl_law_over⟩) (c_law_over : PySem.W.codeIn K cd_law_over "_law_over" = true) (k_law_over : PySem.W.keepIn K (.ref f_law_over) = true)
    (a_law_whole : PySem.W.nsIn K mainGlobals "_law_whole" = some (some (.ref f_law_whole)))
    (l_law_whole : K.lookup f_law_whole = some ⟨oc_law_whole, od_law_whole, .func (PySem.W.fnOf "_law_whole" "_law_whole" (defArgs s_law_whole) (defBody s_law_whole) (defScope s_law_whole) .none kV_law_whole dc_law_whole pm_law_whole an_law_whole cd_law_whole ct_law_whole), sl_law_whole⟩) (c_law_whole : PySem.W.codeIn K cd_law_whole "_law_whole" = true) (k_law_whole : PySem.W.keepIn K (.ref f_law_whole) = true)
    (a_law_row : PySem.W.nsIn K mainGlobals "_law_row" = some (some (.ref f_law_row)))
    (l_law_row : K.lookup f_law_row = some ⟨oc_law_row, od_law_row, .func (PySem.W.fnOf "_law_row" "_law_row" (defArgs s_law_row) (defBody s_law_row) (defScope s_law_row) .none kV_law_row dc_law_row pm_law_row an_law_row cd_law_row ct_law_row), sl_law_row⟩) (c_law_row : PySem.W.codeIn K cd_law_row "_law_row" = true) (k_law_row : PySem.W.keepIn K (.ref f_law_row) = true)
    (a_law_lacking : PySem.W.nsIn K mainGlobals "_law_lacking" = some (some (.ref f_law_lacking)))
    (l_law_lacking : K.lookup f_law_lacking = some ⟨oc_law_lacking, od_law_lacking, .func (PySem.W.fnOf "_law_lacking" "_law_lacking" (defArgs s_law_lacking) (defBody s_law_lacking) (defScope s_law_lacking) .none kV_law_lacking dc_law_lacking pm_law_lacking an_law_lacking cd_law_lacking ct_law_lacking), sl_law_lacking⟩) (c_law_lacking : PySem.W.codeIn K cd_law_lacking "_law_lacking" = true) (k_law_lacking : PySem.W.keepIn K (.ref f_law_lacking) = true)
    (a_law_refused : PySem.W.nsIn K mainGlobals "_law_refused" = some (some (.ref f_law_refused)))
    (l_law_refused : K.lookup f_law_refused = some ⟨oc_law_refused, od_law_refused, .func (PySem.W.fnOf "_law_refused" "_law_refused" (defArgs s_law_refused) (defBody s_law_refused) (defScope s_law_refused) .none kV_law_refused dc_law_refused pm_law_refused an_law_refused cd_law_refused ct_law_refused), sl_law_refused⟩) (c_law_refused : PySem.W.codeIn K cd_law_refused "_law_refused" = true) (k_law_refused : PySem.W.keepIn K (.ref f_law_refused) = true)
    (a_law_asked : PySem.W.nsIn K mainGlobals "_law_asked" = some (some (.ref f_law_asked)))
    (l_law_asked : K.lookup f_law_asked = some ⟨oc_law_asked, od_law_asked, .func (PySem.W.fnOf "_law_asked" "_law_asked" (defArgs s_law_asked) (defBody s_law_asked) (defScope s_law_asked) .none kV_law_asked dc_law_asked pm_law_asked an_law_asked cd_law_asked ct_law_asked), sl_law_asked⟩) (c_law_asked : PySem.W.codeIn K cd_law_asked "_law_asked" = true) (k_law_asked : PySem.W.keepIn K (.ref f_law_asked) = true)
    (a_law_right : PySem.W.nsIn K mainGlobals "_law_right" = some (some (.ref f_law_right)))
    (l_law_right : K.lookup f_law_right = some ⟨oc_law_right, od_law_right, .func (PySem.W.fnOf "_law_right" "_law_right" (defArgs s_law_right) (defBody s_law_right) (defScope s_law_right) .none kV_law_right dc_law_right pm_law_right an_law_right cd_law_right ct_law_right), sl_law_right⟩) (c_law_right : PySem.W.codeIn K cd_law_right "_law_right" = true) (k_law_right : PySem.W.keepIn K (.ref f_law_right) = true)
    (alaw : PySem.W.nsIn K mainGlobals "law" = some (some (.ref flaw)))
    (llaw : K.lookup flaw = some ⟨oclaw, odlaw, .func (PySem.W.fnOf "law" "law" (defArgs slaw) (defBody slaw) (defScope slaw) .none kVlaw dclaw pmlaw anlaw cdlaw ctlaw), sllaw⟩) (claw : PySem.W.codeIn K cdlaw "law" = true) (klaw : PySem.W.keepIn K (.ref flaw) = true)
    (zb_abs : PySem.W.nsIn K mainGlobals "abs" = some none)
    (zb_bool : PySem.W.nsIn K mainGlobals "bool" = some none)
    (zb_dict : PySem.W.nsIn K mainGlobals "dict" = some none)
    (zb_int : PySem.W.nsIn K mainGlobals "int" = some none)
    (zb_isinstance : PySem.W.nsIn K mainGlobals "isinstance" = some none)
    (zb_len : PySem.W.nsIn K mainGlobals "len" = some none)
    (zb_list : PySem.W.nsIn K mainGlobals "list" = some none)
    (zb_max : PySem.W.nsIn K mainGlobals "max" = some none)
    (zb_range : PySem.W.nsIn K mainGlobals "range" = some none)
    (zb_sorted : PySem.W.nsIn K mainGlobals "sorted" = some none)
    (zb_str : PySem.W.nsIn K mainGlobals "str" = some none)
    (zb_tuple : PySem.W.nsIn K mainGlobals "tuple" = some none)
    (zm_EmptyHeap : PySem.W.nsIn K mainGlobals "EmptyHeap" = some (some (.ref c_EmptyHeap)))
    (zm_InRing : PySem.W.nsIn K mainGlobals "InRing" = some (some (.ref c_InRing)))
    (zm_NoAmount : PySem.W.nsIn K mainGlobals "NoAmount" = some (some (.ref c_NoAmount)))
    (zm_NoDish : PySem.W.nsIn K mainGlobals "NoDish" = some (some (.ref c_NoDish)))
    (zm_NoName : PySem.W.nsIn K mainGlobals "NoName" = some (some (.ref c_NoName)))
    (zm_NoNet : PySem.W.nsIn K mainGlobals "NoNet" = some (some (.ref c_NoNet)))
    (zm_NoNumber : PySem.W.nsIn K mainGlobals "NoNumber" = some (some (.ref c_NoNumber)))
    (zm_NoPack : PySem.W.nsIn K mainGlobals "NoPack" = some (some (.ref c_NoPack)))
    (zm_NoPlan : PySem.W.nsIn K mainGlobals "NoPlan" = some (some (.ref c_NoPlan)))
    (zm_NoRow : PySem.W.nsIn K mainGlobals "NoRow" = some (some (.ref c_NoRow)))
    (zm_NoStand : PySem.W.nsIn K mainGlobals "NoStand" = some (some (.ref c_NoStand)))
    (zm_NoStandIn : PySem.W.nsIn K mainGlobals "NoStandIn" = some (some (.ref c_NoStandIn)))
    (zm_NoStep : PySem.W.nsIn K mainGlobals "NoStep" = some (some (.ref c_NoStep)))
    (zm_StoveError : PySem.W.nsIn K mainGlobals "StoveError" = some (some (.ref c_StoveError)))
    (zm_TooFew : PySem.W.nsIn K mainGlobals "TooFew" = some (some (.ref c_TooFew)))
    (zm_TooMany : PySem.W.nsIn K mainGlobals "TooMany" = some (some (.ref c_TooMany)))
    (zm_Twice : PySem.W.nsIn K mainGlobals "Twice" = some (some (.ref c_Twice)))
    (dfraction : K.lookup Tfraction = some ⟨Tofraction, Tdfraction, .seq #[.int 1 Ttfraction] Tnfraction, Tsfraction⟩)
    (dpacks_for : K.lookup Tpacks_for = some ⟨Topacks_for, Tdpacks_for, .seq #[.none] Tnpacks_for, Tspacks_for⟩)
    (dbought_of : K.lookup Tbought_of = some ⟨Tobought_of, Tdbought_of, .seq #[.none] Tnbought_of, Tsbought_of⟩)
    (zx_NoNumber : PySem.W.excIn K c_NoNumber bmV "ValueError.__new__" = true)
    (zi_NoNumber : XI K c_NoNumber)
    (zt_NoPack : XT K c_NoPack)
    (zs_NoPack_NoPack : PySem.W.subIn K (.ref c_NoPack) (.ref c_NoPack) = some true)
    (zk_NoPack_StoveError : PySem.W.kitOne K (.ref c_NoPack) (.ref c_StoveError) = some true)
    (za_NoPack : XA K c_NoPack c_StoveError)
    (zn_NoPack : PySem.W.findIn K (.ref c_NoPack) "good" = some none)
    (zi_NoPack : XI K c_NoPack)
    (zka_NoPack_1 : PySem.W.kitAny K (.ref c_NoPack) [.ref c_EmptyHeap, .ref c_InRing, .ref c_NoAmount, .ref c_NoDish, .ref c_NoName, .ref c_NoNet, .ref c_NoNumber, .ref c_NoPlan, .ref c_NoRow, .ref c_NoStand] = some false)
    (zka_NoPack_2 : PySem.W.kitAny K (.ref c_NoPack) [.ref c_NoStandIn, .ref c_NoStep, .ref c_TooFew, .ref c_TooMany, .ref c_Twice] = some false)
    (ci_NoPack : XCi K c_NoPack f_NoPack)
    (l_NoPack : K.lookup f_NoPack = some ⟨oc_NoPack, od_NoPack, .func (PySem.W.fnOf "__init__" "NoPack.__init__" (defArgs s_NoPack) (defBody s_NoPack) (defScope s_NoPack) .none kV_NoPack dc_NoPack pm_NoPack an_NoPack cd_NoPack ct_NoPack), sl_NoPack⟩) (cc_NoPack : PySem.W.codeIn K cd_NoPack "NoPack.__init__" = true) (k_NoPack : PySem.W.keepIn K (.ref f_NoPack) = true)
    : ∃ fd : FuncData, (∀ (s : Shared) (v : Value), BindsTo s fd ⟨[v], []⟩ [("_law_script", v)]) ∧ ∀ base : Heap, K.In base → base.Ns mainGlobals mg → FnOk l.prog w K mg base CX0 9 fa fd ["_law_script"] (spLaw K) := by
  have e := hfa.symm.trans (PySem.W.mg_of X G alaw)
  cases e
  have B : Bn K mg c_EmptyHeap c_InRing c_NoAmount c_NoDish c_NoName c_NoNet c_NoNumber c_NoPack c_NoPlan c_NoRow c_NoStand c_NoStandIn c_NoStep c_StoveError c_TooFew c_TooMany c_Twice := ⟨PySem.W.mg_none_of X G zb_abs, PySem.W.mg_none_of X G zb_bool, PySem.W.mg_none_of X G zb_dict, PySem.W.mg_none_of X G zb_int, PySem.W.mg_none_of X G zb_isinstance, PySem.W.mg_none_of X G zb_len, PySem.W.mg_none_of X G zb_list, PySem.W.mg_none_of X G zb_max, PySem.W.mg_none_of X G zb_range, PySem.W.mg_none_of X G zb_sorted, PySem.W.mg_none_of X G zb_str, PySem.W.mg_none_of X G zb_tuple, PySem.W.mg_of X G zm_EmptyHeap, PySem.W.mg_of X G zm_InRing, PySem.W.mg_of X G zm_NoAmount, PySem.W.mg_of X G zm_NoDish, PySem.W.mg_of X G zm_NoName, PySem.W.mg_of X G zm_NoNet, PySem.W.mg_of X G zm_NoNumber, PySem.W.mg_of X G zm_NoPack, PySem.W.mg_of X G zm_NoPlan, PySem.W.mg_of X G zm_NoRow, PySem.W.mg_of X G zm_NoStand, PySem.W.mg_of X G zm_NoStandIn, PySem.W.mg_of X G zm_NoStep, PySem.W.mg_of X G zm_StoveError, PySem.W.mg_of X G zm_TooFew, PySem.W.mg_of X G zm_TooMany, PySem.W.mg_of X G zm_Twice, zx_NoNumber, zi_NoNumber, zt_NoPack, zs_NoPack_NoPack, zk_NoPack_StoveError, za_NoPack, zn_NoPack, zi_NoPack, zka_NoPack_1, zka_NoPack_2⟩
  have Fis_whole := funD_mk (st := sis_whole) lis_whole cis_whole kis_whole
  have Fdivisor := funD_mk (st := sdivisor) ldivisor cdivisor kdivisor
  have Ffraction := funD_mk (st := sfraction) lfraction cfraction kfraction
  have Fplus := funD_mk (st := splus) lplus cplus kplus
  have Fminus := funD_mk (st := sminus) lminus cminus kminus
  have Fproduct := funD_mk (st := sproduct) lproduct cproduct kproduct
  have Fquotient := funD_mk (st := squotient) lquotient cquotient kquotient
  have Fis_less := funD_mk (st := sis_less) lis_less cis_less kis_less
  have Fround_up := funD_mk (st := sround_up) lround_up cround_up kround_up
  have Fpacks_for := funD_mk (st := spacks_for) lpacks_for cpacks_for kpacks_for
  have Fpacks_of_need := funD_mk (st := spacks_of_need) lpacks_of_need cpacks_of_need kpacks_of_need
  have Fbought_of := funD_mk (st := sbought_of) lbought_of cbought_of kbought_of
  have F_law_cell_at := funD_mk (st := s_law_cell_at) l_law_cell_at c_law_cell_at k_law_cell_at
  have F_law_names := funD_mk (st := s_law_names) l_law_names c_law_names k_law_names
  have F_law_divisor_of := funD_mk (st := s_law_divisor_of) l_law_divisor_of c_law_divisor_of k_law_divisor_of
  have F_law_lowest := funD_mk (st := s_law_lowest) l_law_lowest c_law_lowest k_law_lowest
  have F_law_amount := funD_mk (st := s_law_amount) l_law_amount c_law_amount k_law_amount
  have F_law_under := funD_mk (st := s_law_under) l_law_under c_law_under k_law_under
  have F_law_over := funD_mk (st := s_law_over) l_law_over c_law_over k_law_over
  have F_law_whole := funD_mk (st := s_law_whole) l_law_whole c_law_whole k_law_whole
  have F_law_row := funD_mk (st := s_law_row) l_law_row c_law_row k_law_row
  have F_law_lacking := funD_mk (st := s_law_lacking) l_law_lacking c_law_lacking k_law_lacking
  have F_law_refused := funD_mk (st := s_law_refused) l_law_refused c_law_refused k_law_refused
  have F_law_asked := funD_mk (st := s_law_asked) l_law_asked c_law_asked k_law_asked
  have F_law_right := funD_mk (st := s_law_right) l_law_right c_law_right k_law_right
  have Flaw := funD_mk (st := slaw) llaw claw klaw
  have F_NoPack := funD_mk (st := s_NoPack) l_NoPack cc_NoPack k_NoPack
  refine ⟨PySem.W.fnOf "law" "law" (defArgs slaw) (defBody slaw) (defScope slaw) .none kVlaw dclaw pmlaw anlaw cdlaw ctlaw, ?bind, fun base _ _ => ?ok⟩
  case bind => exact fun s v => .of_eq rfl
  case ok =>
    have I_NoPack : DxI l.prog w K mg base 1 c_NoPack ["self", "good"] (spInit c_NoPack "good") := ⟨f_NoPack, _, ok_NoPack F_NoPack B, ci_NoPack, F_NoPack.binds0 (ps := ["self", "good"]) fun _ _ _ _ _ _ us hl => match us, hl with | [_, _], _ => rfl⟩
    have bis_whole := Fis_whole.binds0 (ps := ["thing"]) fun _ _ _ _ _ _ us hl => match us, hl with | [_], _ => rfl
    have Dis_whole : Dx l.prog w K mg base CX0 1 "is_whole" ["thing"] [] spWhole := ⟨fis_whole, _, okis_whole Fis_whole B , PySem.W.mg_of X G ais_whole, kis_whole, bis_whole, ⟨[], bis_whole, .nil⟩⟩
    have bdivisor := Fdivisor.binds0 (ps := ["one", "other"]) fun _ _ _ _ _ _ us hl => match us, hl with | [_, _], _ => rfl
    have Ddivisor : Dx l.prog w K mg base CX0 1 "divisor" ["one", "other"] [] spDiv := ⟨fdivisor, _, okdivisor Fdivisor B , PySem.W.mg_of X G adivisor, kdivisor, bdivisor, ⟨[], bdivisor, .nil⟩⟩
    have Xfraction : Dx l.prog w K mg base (CX1 l.prog w) 2 "fraction" ["top", "bottom"] [.int 1] (spFrZ c_NoNumber) := ⟨ffraction, _, okfraction Ffraction B Dis_whole Ddivisor, PySem.W.mg_of X G afraction, kfraction, Ffraction.binds (ps := ["top", "bottom"]) (ds := []) dfraction rfl fun _ _ _ _ _ _ us hl => match us, hl with | [_, _], _ => ⟨_, rfl, rfl⟩, ⟨[.int 1 Ttfraction], Ffraction.binds (ps := ["top", "bottom"]) (ds := [.int 1 Ttfraction]) dfraction rfl fun _ _ _ _ _ _ us hl => match us, hl with | [_], _ => ⟨_, rfl, rfl⟩ | [], h => absurd h (by simp) | _ :: _ :: _, h => absurd h (by simp), .cons ⟨_, rfl⟩ .nil⟩⟩
    have Dfraction : Dx l.prog w K mg base CX0 2 "fraction" ["top", "bottom"] [.int 1] spFr := Xfraction.calm frZ_of
    have bplus := Fplus.binds0 (ps := ["one", "other"]) fun _ _ _ _ _ _ us hl => match us, hl with | [_, _], _ => rfl
    have Dplus : Dx l.prog w K mg base CX0 3 "plus" ["one", "other"] [] (spPlus K) := ⟨fplus, _, okplus Fplus B Dfraction, PySem.W.mg_of X G aplus, kplus, bplus, ⟨[], bplus, .nil⟩⟩
    have bminus := Fminus.binds0 (ps := ["one", "other"]) fun _ _ _ _ _ _ us hl => match us, hl with | [_, _], _ => rfl
    have Dminus : Dx l.prog w K mg base CX0 3 "minus" ["one", "other"] [] (spMinus K) := ⟨fminus, _, okminus Fminus B Dfraction, PySem.W.mg_of X G aminus, kminus, bminus, ⟨[], bminus, .nil⟩⟩
    have bproduct := Fproduct.binds0 (ps := ["one", "other"]) fun _ _ _ _ _ _ us hl => match us, hl with | [_, _], _ => rfl
    have Dproduct : Dx l.prog w K mg base CX0 3 "product" ["one", "other"] [] (spProd K) := ⟨fproduct, _, okproduct Fproduct B Dfraction, PySem.W.mg_of X G aproduct, kproduct, bproduct, ⟨[], bproduct, .nil⟩⟩
    have bquotient := Fquotient.binds0 (ps := ["one", "other"]) fun _ _ _ _ _ _ us hl => match us, hl with | [_, _], _ => rfl
    have Xquotient : Dx l.prog w K mg base (CX1 l.prog w) 3 "quotient" ["one", "other"] [] (spQuotX K c_NoNumber) := ⟨fquotient, _, okquotient Fquotient B Xfraction, PySem.W.mg_of X G aquotient, kquotient, bquotient, ⟨[], bquotient, .nil⟩⟩
    have Dquotient : Dx l.prog w K mg base CX0 3 "quotient" ["one", "other"] [] (spQuot K) := Xquotient.calm quotX_of
    have bis_less := Fis_less.binds0 (ps := ["one", "other"]) fun _ _ _ _ _ _ us hl => match us, hl with | [_, _], _ => rfl
    have Dis_less : Dx l.prog w K mg base CX0 1 "is_less" ["one", "other"] [] (spLess K) := ⟨fis_less, _, okis_less Fis_less B , PySem.W.mg_of X G ais_less, kis_less, bis_less, ⟨[], bis_less, .nil⟩⟩
    have bround_up := Fround_up.binds0 (ps := ["one"]) fun _ _ _ _ _ _ us hl => match us, hl with | [_], _ => rfl
    have Dround_up : Dx l.prog w K mg base CX0 1 "round_up" ["one"] [] (spUp K) := ⟨fround_up, _, okround_up Fround_up B , PySem.W.mg_of X G around_up, kround_up, bround_up, ⟨[], bround_up, .nil⟩⟩
    have Xpacks_for : Dx l.prog w K mg base (CX1 l.prog w) 4 "packs_for" ["need", "size", "have"] [.non] (spPackX K c_NoNumber) := ⟨fpacks_for, _, okpacks_for Fpacks_for B Dfraction Dplus Dminus Dproduct Dquotient Dround_up, PySem.W.mg_of X G apacks_for, kpacks_for, Fpacks_for.binds (ps := ["need", "size", "have"]) (ds := []) dpacks_for rfl fun _ _ _ _ _ _ us hl => match us, hl with | [_, _, _], _ => ⟨_, rfl, rfl⟩, ⟨[.none], Fpacks_for.binds (ps := ["need", "size", "have"]) (ds := [.none]) dpacks_for rfl fun _ _ _ _ _ _ us hl => match us, hl with | [_, _], _ => ⟨_, rfl, rfl⟩ | [], h => absurd h (by simp) | [_], h => absurd h (by simp) | _ :: _ :: _ :: _, h => absurd h (by simp), .cons rfl .nil⟩⟩
    have Dpacks_for : Dx l.prog w K mg base CX0 4 "packs_for" ["need", "size", "have"] [.non] (spPack K) := Xpacks_for.calm packX_of
    have bpacks_of_need := Fpacks_of_need.binds0 (ps := ["need", "sizes", "have"]) fun _ _ _ _ _ _ us hl => match us, hl with | [_, _, _], _ => rfl
    have Xpacks_of_need : Dx l.prog w K mg base (CX1 l.prog w) 5 "packs_of_need" ["need", "sizes", "have"] [] (spPackOf c_NoPack) := ⟨fpacks_of_need, _, okpacks_of_need Fpacks_of_need B Dminus Dis_less Dpacks_for I_NoPack, PySem.W.mg_of X G apacks_of_need, kpacks_of_need, bpacks_of_need, ⟨[], bpacks_of_need, .nil⟩⟩
    have Dpacks_of_need : Dx l.prog w K mg base CX0 5 "packs_of_need" ["need", "sizes", "have"] [] spNoL := Xpacks_of_need.calm (fun _ _ _ _ h => h.elim)
    have Xbought_of : Dx l.prog w K mg base (CX1 l.prog w) 6 "bought_of" ["needed", "sizes", "shelf"] [.non] (spBought c_NoPack) := ⟨fbought_of, _, okbought_of Fbought_of B Xfraction Xpacks_of_need, PySem.W.mg_of X G abought_of, kbought_of, Fbought_of.binds (ps := ["needed", "sizes", "shelf"]) (ds := []) dbought_of rfl fun _ _ _ _ _ _ us hl => match us, hl with | [_, _, _], _ => ⟨_, rfl, rfl⟩, ⟨[.none], Fbought_of.binds (ps := ["needed", "sizes", "shelf"]) (ds := [.none]) dbought_of rfl fun _ _ _ _ _ _ us hl => match us, hl with | [_, _], _ => ⟨_, rfl, rfl⟩ | [], h => absurd h (by simp) | [_], h => absurd h (by simp) | _ :: _ :: _ :: _, h => absurd h (by simp), .cons rfl .nil⟩⟩
    have Dbought_of : Dx l.prog w K mg base CX0 6 "bought_of" ["needed", "sizes", "shelf"] [.non] spNoL := Xbought_of.calm (fun _ _ _ _ h => h.elim)
    have b_law_cell_at := F_law_cell_at.binds0 (ps := ["_law_script", "_law_k"]) fun _ _ _ _ _ _ us hl => match us, hl with | [_, _], _ => rfl
    have D_law_cell_at : Dx l.prog w K mg base CX0 1 "_law_cell_at" ["_law_script", "_law_k"] [] (spCell K) := ⟨f_law_cell_at, _, ok_law_cell_at F_law_cell_at B , PySem.W.mg_of X G a_law_cell_at, k_law_cell_at, b_law_cell_at, ⟨[], b_law_cell_at, .nil⟩⟩
    have b_law_names := F_law_names.binds0 (ps := ["_law_number", "_law_many"]) fun _ _ _ _ _ _ us hl => match us, hl with | [_, _], _ => rfl
    have D_law_names : Dx l.prog w K mg base CX0 1 "_law_names" ["_law_number", "_law_many"] [] spNames14 := ⟨f_law_names, _, ok_law_names F_law_names B , PySem.W.mg_of X G a_law_names, k_law_names, b_law_names, ⟨[], b_law_names, .nil⟩⟩
    have b_law_divisor_of := F_law_divisor_of.binds0 (ps := ["_law_one", "_law_other"]) fun _ _ _ _ _ _ us hl => match us, hl with | [_, _], _ => rfl
    have D_law_divisor_of : Dx l.prog w K mg base CX0 1 "_law_divisor_of" ["_law_one", "_law_other"] [] spDivQ := ⟨f_law_divisor_of, _, ok_law_divisor_of F_law_divisor_of B , PySem.W.mg_of X G a_law_divisor_of, k_law_divisor_of, b_law_divisor_of, ⟨[], b_law_divisor_of, .nil⟩⟩
    have b_law_lowest := F_law_lowest.binds0 (ps := ["_law_top", "_law_bottom"]) fun _ _ _ _ _ _ us hl => match us, hl with | [_, _], _ => rfl
    have D_law_lowest : Dx l.prog w K mg base CX0 2 "_law_lowest" ["_law_top", "_law_bottom"] [] spLow := ⟨f_law_lowest, _, ok_law_lowest F_law_lowest B D_law_divisor_of, PySem.W.mg_of X G a_law_lowest, k_law_lowest, b_law_lowest, ⟨[], b_law_lowest, .nil⟩⟩
    have b_law_amount := F_law_amount.binds0 (ps := ["_law_cell"]) fun _ _ _ _ _ _ us hl => match us, hl with | [_], _ => rfl
    have D_law_amount : Dx l.prog w K mg base CX0 3 "_law_amount" ["_law_cell"] [] spAmount := ⟨f_law_amount, _, ok_law_amount F_law_amount B D_law_lowest, PySem.W.mg_of X G a_law_amount, k_law_amount, b_law_amount, ⟨[], b_law_amount, .nil⟩⟩
    have b_law_under := F_law_under.binds0 (ps := ["_law_one", "_law_other"]) fun _ _ _ _ _ _ us hl => match us, hl with | [_, _], _ => rfl
    have D_law_under : Dx l.prog w K mg base CX0 1 "_law_under" ["_law_one", "_law_other"] [] (spLess K) := ⟨f_law_under, _, ok_law_under F_law_under B , PySem.W.mg_of X G a_law_under, k_law_under, b_law_under, ⟨[], b_law_under, .nil⟩⟩
    have b_law_over := F_law_over.binds0 (ps := ["_law_count", "_law_size", "_law_have", "_law_need"]) fun _ _ _ _ _ _ us hl => match us, hl with | [_, _, _, _], _ => rfl
    have D_law_over : Dx l.prog w K mg base CX0 3 "_law_over" ["_law_count", "_law_size", "_law_have", "_law_need"] [] (spOver K) := ⟨f_law_over, _, ok_law_over F_law_over B D_law_lowest, PySem.W.mg_of X G a_law_over, k_law_over, b_law_over, ⟨[], b_law_over, .nil⟩⟩
    have b_law_whole := F_law_whole.binds0 (ps := ["_law_found"]) fun _ _ _ _ _ _ us hl => match us, hl with | [_], _ => rfl
    have D_law_whole : Dx l.prog w K mg base CX0 1 "_law_whole" ["_law_found"] [] spWhole := ⟨f_law_whole, _, ok_law_whole F_law_whole B , PySem.W.mg_of X G a_law_whole, k_law_whole, b_law_whole, ⟨[], b_law_whole, .nil⟩⟩
    have b_law_row := F_law_row.binds0 (ps := ["_law_row_here", "_law_need", "_law_sizes", "_law_shelf"]) fun _ _ _ _ _ _ us hl => match us, hl with | [_, _, _, _], _ => rfl
    have D_law_row : Dx l.prog w K mg base CX0 4 "_law_row" ["_law_row_here", "_law_need", "_law_sizes", "_law_shelf"] [] spRow45 := ⟨f_law_row, _, ok_law_row F_law_row B D_law_under D_law_over D_law_whole, PySem.W.mg_of X G a_law_row, k_law_row, b_law_row, ⟨[], b_law_row, .nil⟩⟩
    have b_law_lacking := F_law_lacking.binds0 (ps := ["_law_needed", "_law_sizes", "_law_shelf"]) fun _ _ _ _ _ _ us hl => match us, hl with | [_, _, _], _ => rfl
    have D_law_lacking : Dx l.prog w K mg base CX0 2 "_law_lacking" ["_law_needed", "_law_sizes", "_law_shelf"] [] spLacking := ⟨f_law_lacking, _, ok_law_lacking F_law_lacking B D_law_under, PySem.W.mg_of X G a_law_lacking, k_law_lacking, b_law_lacking, ⟨[], b_law_lacking, .nil⟩⟩
    have b_law_refused := F_law_refused.binds0 (ps := ["_law_e", "_law_good"]) fun _ _ _ _ _ _ us hl => match us, hl with | [_, _], _ => rfl
    have H_law_refused : ∀ hd, DxH hd l.prog w K mg base 1 "_law_refused" ["_law_e", "_law_good"] (spRefused45 c_NoPack) := fun hd => ⟨f_law_refused, _, ok_law_refused F_law_refused B , PySem.W.mg_of X G a_law_refused, k_law_refused, b_law_refused⟩
    have D_law_refused : Dx l.prog w K mg base CX0 1 "_law_refused" ["_law_e", "_law_good"] [] (spRefused45 c_NoPack) := (H_law_refused none).calm
    have b_law_asked := F_law_asked.binds0 (ps := ["_law_needed", "_law_sizes", "_law_shelf", "_law_left_out", "_law_none"]) fun _ _ _ _ _ _ us hl => match us, hl with | [_, _, _, _, _], _ => rfl
    have D_law_asked : Dx l.prog w K mg base CX0 7 "_law_asked" ["_law_needed", "_law_sizes", "_law_shelf", "_law_left_out", "_law_none"] [] spAsked := ⟨f_law_asked, _, ok_law_asked F_law_asked B Xbought_of H_law_refused, PySem.W.mg_of X G a_law_asked, k_law_asked, b_law_asked, ⟨[], b_law_asked, .nil⟩⟩
    have b_law_right := F_law_right.binds0 (ps := ["_law_needed", "_law_sizes", "_law_shelf", "_law_left_out"]) fun _ _ _ _ _ _ us hl => match us, hl with | [_, _, _, _], _ => rfl
    have D_law_right : Dx l.prog w K mg base CX0 8 "_law_right" ["_law_needed", "_law_sizes", "_law_shelf", "_law_left_out"] [] spRight45 := ⟨f_law_right, _, ok_law_right F_law_right B D_law_row D_law_lacking D_law_asked, PySem.W.mg_of X G a_law_right, k_law_right, b_law_right, ⟨[], b_law_right, .nil⟩⟩
    exact oklaw Flaw B D_law_cell_at D_law_names D_law_amount D_law_lacking D_law_right
theorem walk {l : PySem.W.OpenLaw} {q : Program} {loose : List Str} {XP : (Str → Option Value) → Heap → Prop} {YP : World → Heap → Prop} {d : DefRec} {K : Params → PySem.W.Frag} (hn : l.most = some 63) (hdf : d.params.defaults = [])
    (hY : ∀ (w : World) (h : Heap), YP w h → (K w.params).In h)
    (F : ∀ (w : World) (mg : Str → Option Value) (fa : Addr) (h : Heap), (K w.params).In h → h.Ns mainGlobals mg → mg d.name = some (.ref fa) →
      ∃ fd : FuncData, (∀ (s : Shared) (u : Value), BindsTo s fd ⟨[u], []⟩ [("_law_script", u)]) ∧ ∀ base : Heap, (K w.params).In base → base.Ns mainGlobals mg → FnOk l.prog w (K w.params) mg base CX0 9 fa fd ["_law_script"] (spLaw (K w.params))) :
    PySem.W.WalkO q loose XP YP l.row.toRowW d [] (fun f vs => PySem.call f vs) :=
  L2.walk_of (n := 63) (k := 9) (x := "_law_script") (CX := fun _ => CX0) (sp := fun w => spLaw (K w.params)) hn (by decide) hdf ⟨rfl, by decide, by decide⟩ hY F (fun _ _ a ns hl _ hS => ⟨a, ns, rfl, hS, hl, fun _ => rfl⟩) fun _ _ _ _ _ z => z
end Lk45
open PySem PySem.W PyProof.Rows
set_option maxRecDepth 100000 in
set_option maxHeartbeats 0 in
theorem PySem.Challenge.cw_stovework_k45_bought_holds : PySem.Challenge.rw_stovework_k45_bought.Holds := by
  refine Lk45.hd ?_
  k_fill
  refine Lk45.walk (l := PySem.Challenge.rw_stovework_k45_bought) rfl rfl (fun w h Y => PySem.W.kIn_of Y) ?F
  case F =>
    intro w mg fa h KX G hmg
    refine' Lk45.all_mk KX G hmg ?h0 ?h1 ?h2 ?h3 ?h4 ?h5 ?h6 ?h7 ?h8 ?h9 ?h10 ?h11 ?h12 ?h13 ?h14 ?h15 ?h16 ?h17 ?h18 ?h19 ?h20 ?h21 ?h22 ?h23 ?h24 ?h25 ?h26 ?h27 ?h28 ?h29 ?h30 ?h31 ?h32 ?h33 ?h34 ?h35 ?h36 ?h37 ?h38 ?h39 ?h40 ?h41 ?h42 ?h43 ?h44 ?h45 ?h46 ?h47 ?h48 ?h49 ?h50 ?h51 ?h52 ?h53 ?h54 ?h55 ?h56 ?h57 ?h58 ?h59 ?h60 ?h61 ?h62 ?h63 ?h64 ?h65 ?h66 ?h67 ?h68 ?h69 ?h70 ?h71 ?h72 ?h73 ?h74 ?h75 ?h76 ?h77 ?h78 ?h79 ?h80 ?h81 ?h82 ?h83 ?h84 ?h85 ?h86 ?h87 ?h88 ?h89 ?h90 ?h91 ?h92 ?h93 ?h94 ?h95 ?h96 ?h97 ?h98 ?h99 ?h100 ?h101 ?h102 ?h103 ?h104 ?h105 ?h106 ?h107 ?h108 ?h109 ?h110 ?h111 ?h112 ?h113 ?h114 ?h115 ?h116 ?h117 ?h118 ?h119 ?h120 ?h121 ?h122 ?h123 ?h124 ?h125 ?h126 ?h127 ?h128 ?h129 ?h130 ?h131 ?h132 ?h133 ?h134 ?h135 ?h136 ?h137 ?h138 ?h139 ?h140 ?h141 ?h142 ?h143 ?h144 ?h145 ?h146 ?h147 ?h148 ?h149
    (case h0 => k_is)
    (case h1 => k_is)
    (case h2 => k_is)
    (case h3 => k_is)
    (case h4 => k_is)
    (case h5 => k_is)
    (case h6 => k_is)
    (case h7 => k_is)
    (case h8 => k_is)
    (case h9 => k_is)
    (case h10 => k_is)
    (case h11 => k_is)
    (case h12 => k_is)
    (case h13 => k_is)
    (case h14 => k_is)
    (case h15 => k_is)
    (case h16 => k_is)
    (case h17 => k_is)
    (case h18 => k_is)
    (case h19 => k_is)
    (case h20 => k_is)
    (case h21 => k_is)
    (case h22 => k_is)
    (case h23 => k_is)
    (case h24 => k_is)
    (case h25 => k_is)
    (case h26 => k_is)
    (case h27 => k_is)
    (case h28 => k_is)
    (case h29 => k_is)
    (case h30 => k_is)
    (case h31 => k_is)
    (case h32 => k_is)
    (case h33 => k_is)
    (case h34 => k_is)
    (case h35 => k_is)
    (case h36 => k_is)
    (case h37 => k_is)
    (case h38 => k_is)
    (case h39 => k_is)
    (case h40 => k_is)
    (case h41 => k_is)
    (case h42 => k_is)
    (case h43 => k_is)
    (case h44 => k_is)
    (case h45 => k_is)
    (case h46 => k_is)
    (case h47 => k_is)
    (case h48 => k_is)
    (case h49 => k_is)
    (case h50 => k_is)
    (case h51 => k_is)
    (case h52 => k_is)
    (case h53 => k_is)
    (case h54 => k_is)
    (case h55 => k_is)
    (case h56 => k_is)
    (case h57 => k_is)
    (case h58 => k_is)
    (case h59 => k_is)
    (case h60 => k_is)
    (case h61 => k_is)
    (case h62 => k_is)
    (case h63 => k_is)
    (case h64 => k_is)
    (case h65 => k_is)
    (case h66 => k_is)
    (case h67 => k_is)
    (case h68 => k_is)
    (case h69 => k_is)
    (case h70 => k_is)
    (case h71 => k_is)
    (case h72 => k_is)
    (case h73 => k_is)
    (case h74 => k_is)
    (case h75 => k_is)
    (case h76 => k_is)
    (case h77 => k_is)
    (case h78 => k_is)
    (case h79 => k_is)
    (case h80 => k_is)
    (case h81 => k_is)
    (case h82 => k_is)
    (case h83 => k_is)
    (case h84 => k_is)
    (case h85 => k_is)
    (case h86 => k_is)
    (case h87 => k_is)
    (case h88 => k_is)
    (case h89 => k_is)
    (case h90 => k_is)
    (case h91 => k_is)
    (case h92 => k_is)
    (case h93 => k_is)
    (case h94 => k_is)
    (case h95 => k_is)
    (case h96 => k_is)
    (case h97 => k_is)
    (case h98 => k_is)
    (case h99 => k_is)
    (case h100 => k_is)
    (case h101 => k_is)
    (case h102 => k_is)
    (case h103 => k_is)
    (case h104 => k_is)
    (case h105 => k_is)
    (case h106 => k_is)
    (case h107 => k_is)
    (case h108 => k_is)
    (case h109 => k_is)
    (case h110 => k_is)
    (case h111 => k_is)
    (case h112 => k_is)
    (case h113 => k_is)
    (case h114 => k_is)
    (case h115 => k_is)
    (case h116 => k_is)
    (case h117 => k_is)
    (case h118 => k_is)
    (case h119 => k_is)
    (case h120 => k_is)
    (case h121 => k_is)
    (case h122 => k_is)
    (case h123 => k_is)
    (case h124 => k_is)
    (case h125 => k_is)
    (case h126 => k_is)
    (case h127 => k_is)
    (case h128 => k_is)
    (case h129 => k_is)
    (case h130 => k_is)
    (case h131 => k_is)
    (case h132 => k_is)
    (case h133 => k_is)
    (case h134 => k_is)
    (case h135 => k_is)
    (case h136 => kernel_rfl)
    (case h137 => exact ⟨⟨by k_is, by k_is, by k_is⟩, by kernel_rfl, by k_is, by k_is, by k_is, by k_is⟩)
    (case h138 => exact ⟨by k_is, by kernel_rfl, by k_is⟩)
    (case h139 => k_is)
    (case h140 => kernel_rfl)
    (case h141 => exact ⟨by k_is, by kernel_rfl, by kernel_rfl, by k_is⟩)
    (case h142 => k_is)
    (case h143 => exact ⟨⟨by k_is, by k_is, by k_is⟩, by kernel_rfl, by k_is, by k_is, by k_is, by k_is⟩)
    (case h144 => kernel_rfl)
    (case h145 => kernel_rfl)
    (case h146 => exact ⟨⟨_, _, _, _, _, _, _, _, _, _, _, _, _, _, _, _, by k_is, by kernel_rfl, by k_is, by kernel_rfl⟩, by k_is, by k_is⟩)
    (case h147 => k_is)
    (case h148 => k_is)
    (case h149 => k_is)
