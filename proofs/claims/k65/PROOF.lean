import PyProof.Rows.All
import Wide.All
import OpenK.AllK
import Wide.FinOn
import Lean
import PyProof.EqAt
import PyProof.EqKinds
import PyProof.TupleCall
import PyProof.NeKinds
import PyProof.StationsW
import PyProof.RulesAs
import PyProof.ExcArgsOwn
import PyProof.CompFree
import PyProof.ExcInit
import PyProof.ConsumeWalk
import PyProof.Rows.SeqGen
import PyProof.StrWalks
import PyProof.SliceStr2
import PyProof.MeetsStr
import KE.KIntText
import PyProof.Rows.FStr
import PyProof.StrCalls6
import PyProof.StrBlockL
import PyProof.ToksMono
import PyProof.WalkInts
import PyProof.Rows.MinMaxN
import PyProof.StrLawsReplace
import PyProof.StrLawsTight
import PyProof.Rows.StrLawsPart
import PyProof.DictWalks
import KE.KEqDict
import KE.KDictLaws
import KE.KRevIter
import PyProof.ListCopy
import PyProof.CollectIter
import PyProof.Rows.SetFrom
import PyProof.Rows.SortShellK
import PyProof.Rows.SortStr
import PyProof.Rows.SortWalk
import KE.KDictSum
import KE.KSortTup
import PyProof.TupleOfSeq
import PyProof.Rows.SortRuns
import PyProof.FactsAll.tuple_2
import PyProof.WalksEnum
import PyProof.EnumMake
import PyProof.EnumFor
import PyProof.ZipIter
import KE.KDictOf
import PyProof.DictItems
import PyProof.FactsAll.dict_itemiterator_1
import PyProof.Rows.StrMul
import KE.KDictList
import PyProof.Rows.SumAny
import PySem.Challenge.RW_stovework_k65_cases
/-! The run of a law's top over a tree in the heap's place, at once: then the heap that it stands for is what the head asks. Own work. -/
namespace Ht
open PySem PySem.W PyProof.Rows
/-- steps till the top is through -/
noncomputable def runT (ok : Thread → Bool) (st : SharedT → Thread → Option (SharedT × Thread)) (n : Nat) : SharedT → Thread → Option SharedT :=
  Nat.rec (motive := fun _ => SharedT → Thread → Option SharedT) (fun _ _ => none) (fun _ ih s t =>
    Bool.rec (motive := fun _ => Option SharedT)
      (Bool.rec (motive := fun _ => Option SharedT) none (Option.rec (motive := fun _ => Option SharedT) none (fun r => Prod.rec (motive := fun _ => Option SharedT) (fun s' t' => ih s' t') r) (st s t)) (ok t))
      (some s) (through t)) n
theorem runT_of {tb : String → Option Builtin} {p : Program} {w : World} {m : Nat} {ann : Option Value} : ∀ {n : Nat} {s s' : SharedT} {t : Thread}, runT (stepOk m ann) (stepT (denote tb) p w) n s t = some s' → topRun tb p w m ann n s.abs t = some s'.abs
  | 0, _, _, _, h => by cases h
  | n + 1, s, s', t, h => by
    unfold topRun
    have h' : Bool.rec (motive := fun _ => Option SharedT)
      (Bool.rec (motive := fun _ => Option SharedT) none (Option.rec (motive := fun _ => Option SharedT) none (fun r => Prod.rec (motive := fun _ => Option SharedT) (fun s' t' => runT (stepOk m ann) (stepT (denote tb) p w) n s' t') r) (stepT (denote tb) p w s t)) (stepOk m ann t))
      (some s) (through t) = some s' := h
    cases ht : through t with
    | true => rw [ht] at h'; cases h'; rfl
    | false =>
      rw [ht] at h'
      cases hk : stepOk m ann t with
      | false => rw [hk] at h'; cases h'
      | true =>
        rw [hk] at h'
        cases hs : stepT (denote tb) p w s t with
        | none => rw [hs] at h'; cases h'
        | some r =>
          obtain ⟨s₂, t₂⟩ := r
          rw [hs] at h'
          dsimp only
          rw [stepT_spec hs]
          exact runT_of h'
/-- a tree of a list's things -/
noncomputable def grow (l : List Obj) : Nat → BT → Option BT :=
  List.rec (motive := fun _ => Nat → BT → Option BT) (fun _ t => some t) (fun o _ ih n t =>
    Bool.rec (motive := fun _ => Option BT) none (ih (n + 1) (t.ins n o)) ((t.ins n o).get n).isSome) l
theorem grow_of {life : Life} : ∀ {l : List Obj} {n : Nat} {t t' : BT}, grow l n t = some t' → absHeap t' (n + l.length) life = ⟨(absHeap t n life).objs ++ l.toArray, life⟩
  | [], n, t, t', h => by
    cases h
    simp [absHeap]
  | o :: l, n, t, t', h => by
    have h' : Bool.rec (motive := fun _ => Option BT) none (grow l (n + 1) (t.ins n o)) ((t.ins n o).get n).isSome = some t' := h
    cases e : ((t.ins n o).get n).isSome with
    | false => rw [e] at h'; cases h'
    | true =>
      rw [e] at h'
      have z := grow_of (life := life) h'
      rw [absHeap_ins e] at z
      rw [show n + (o :: l).length = n + 1 + l.length by rw [List.length_cons]; omega, z]
      simp [Heap.push]
noncomputable def treeOf (s : Shared) : Option SharedT :=
  Option.rec (motive := fun _ => Option SharedT) none (fun t => some ⟨t, s.heap.objs.size, s.heap.life, s.gens, s.drawn, s.toks, s.os⟩) (grow s.heap.objs.toList 0 .nil)
theorem treeOf_abs {s : Shared} {s' : SharedT} (h : treeOf s = some s') : s'.abs = s := by
  have h' : Option.rec (motive := fun _ => Option SharedT) none (fun t => some ⟨t, s.heap.objs.size, s.heap.life, s.gens, s.drawn, s.toks, s.os⟩) (grow s.heap.objs.toList 0 .nil) = some s' := h
  cases e : grow s.heap.objs.toList 0 .nil with
  | none => rw [e] at h'; cases h'
  | some t =>
    rw [e] at h'
    cases h'
    have z := grow_of (life := s.heap.life) e
    obtain ⟨⟨objs, life⟩, gens, drawn, toks, os⟩ := s
    simp only [SharedT.abs]
    have z' : absHeap t objs.size life = ⟨objs, life⟩ := by
      simpa [absHeap, BT.list] using z
    rw [z']
/-- the top's run from what the opening left -/
noncomputable def endsT (ok : Nat → Option Value → Thread → Bool) (st : SharedT → Thread → Option (SharedT × Thread)) (p : Program) (N : Nat) (s₀ : Shared) : Option Shared :=
  Bool.rec (motive := fun _ => Option Shared) none
    ((treeOf s₀).bind fun t₀ => (runT (ok s₀.heap.objs.size (s₀.heap.nsMap mainGlobals "__annotations__")) st N t₀ (topStub p)).bind fun t₁ =>
      (fun s₁ => Bool.rec (motive := fun _ => Option Shared) none (some s₁) (staticsOk (importedModules p.main.body) s₀.heap s₁.heap && namesBound p s₁.heap && gensDone s₁ && laidKept s₀.heap s₁.heap)) t₁.abs)
    (s₀.heap.isNs mainGlobals && s₀.gens.size == 0)
theorem endsT_of {tb : String → Option Builtin} {p : Program} {w : World} {N : Nat} {s₀ s : Shared} (h : endsT stepOk (stepT (denote tb) p w) p N s₀ = some s) : topFrom tb p w N s₀ = some s := by
  unfold endsT at h
  unfold topFrom
  cases e : s₀.heap.isNs mainGlobals && s₀.gens.size == 0 with
  | false => rw [e] at h; cases h
  | true =>
    rw [e] at h
    obtain ⟨t₀, e0, h⟩ := Option.bind_eq_some_iff.mp h
    obtain ⟨t₁, e1, h⟩ := Option.bind_eq_some_iff.mp h
    have r := runT_of e1
    rw [treeOf_abs e0] at r
    dsimp only
    rw [r]
    dsimp only at h
    show (match staticsOk (importedModules p.main.body) s₀.heap t₁.abs.heap && namesBound p t₁.abs.heap && gensDone t₁.abs && laidKept s₀.heap t₁.abs.heap with | true => some t₁.abs | false => none) = some s
    cases q : staticsOk (importedModules p.main.body) s₀.heap t₁.abs.heap && namesBound p t₁.abs.heap && gensDone t₁.abs && laidKept s₀.heap t₁.abs.heap with
    | false => rw [q] at h; cases h
    | true => rw [q] at h; exact h
/-- the head's run, told by the tree -/
theorem left_of {p q : Program} {loose : List Str} {Xt : Shared → Bool} {α : Type} {Yf : Shared → α} {Ya : World → α} {N : Nat} {g0 : Bool}
    (h : ∀ w : World, ((importEnds treeTable (opening p) w N (start (opening p)).1 (start (opening p)).2).bind fun s => (fenceModules? p s).bind fun s₀ => endsT stepOk (stepT (denote treeTable) p w) p N s₀).map (fun s => (openSeen q loose (importedModules p.main.body) Xt g0 s, Yf s)) = some (openGood q loose, Ya w)) : LeftO p q loose Xt Yf Ya N g0 := fun w => by
  obtain ⟨s, e, e'⟩ := Option.map_eq_some_iff.mp (h w)
  obtain ⟨s1, a1, e⟩ := Option.bind_eq_some_iff.mp e
  obtain ⟨s0, a0, e⟩ := Option.bind_eq_some_iff.mp e
  have z : openEnds treeTable p w N = some s := by
    unfold openEnds fencedOpening
    rw [a1]
    show (fenceModules? p s1).bind _ = _
    rw [a0]
    exact endsT_of e
  rw [z]
  exact congrArg some e'
end Ht
set_option Elab.async false
set_option linter.all false
set_option maxRecDepth 100000
namespace Lk65
open PySem PySem.W PyProof.Rows
def qv : Program := { PySem.Challenge.pw_stovework_k65_cases with main := { PySem.Challenge.pw_stovework_k65_cases.main with body := ([1, 2, 3, 5, 6, 7, 9, 10, 11, 12, 13, 14, 15, 16, 17, 18, 19, 20, 21, 22, 23, 25, 26, 27, 28, 30, 31, 32, 33, 34, 35, 36, 37, 38, 39, 40, 41, 42, 43, 44, 45, 46, 47, 48, 49, 50, 51, 52] : List Nat).filterMap fun i => PySem.Challenge.pw_stovework_k65_cases.main.body[i]? } }
def lo : List Str := []
/-- what the head asks of the text, but the run of its top -/
theorem head {α : Type} {Yf : Shared → α} {Ya : World → α} {YP : World → Heap → Prop} {d : DefRec} {kwd : List (Str × Expr)} (left : LeftO PySem.Challenge.pw_stovework_k65_cases qv lo (fun s => xlAt qv [] s && recOk [] s) Yf Ya 3780)
    (hY : ∀ w s, Yf s = Ya w → YP w s.heap) (hYk : ∀ w h h', YP w h → (∀ b o, h.get? b = some o → h'.get? b = some o) → YP w h') (hd : defOf qv PySem.Challenge.rw_stovework_k65_cases.row.name = some (d, kwd))
    (hp : PySem.Challenge.rw_stovework_k65_cases.row.prog.theDef PySem.Challenge.rw_stovework_k65_cases.row.name = some (d.params, d.body, d.scope)) (hk : kwWritten? d.params.kwonlyargs d.params.kw_defaults = some kwd)
    (said : PySem.Challenge.rw_stovework_k65_cases.row.wellSaid = true) (hw : PySem.Challenge.rw_stovework_k65_cases.row.toRowW.promised) (call : WalkO qv lo (XL qv []) YP PySem.Challenge.rw_stovework_k65_cases.row.toRowW d kwd fun f vs => PySem.call f vs) : PySem.Challenge.rw_stovework_k65_cases.row.Holds :=
  holds_open left hY hYk (fun s e => xl_of s (Bool.and_eq_true_iff.mp e).1) XL.keeps hd hp hk (fun s e => recFacts_of (Bool.and_eq_true_iff.mp e).2) rfl said (by decide +kernel) ⟨rfl, rfl, rfl, rfl, rfl, by decide +kernel⟩ hw call
end Lk65
local macro_rules | `(tactic| o_head $H) => `(tactic| (refine Lk65.head (Yf := PySem.W.Hook.obs $H) (Ya := PySem.W.Hook.val $H) (YP := PySem.W.Hook.says $H) ?hl (PySem.W.Hook.of $H) (PySem.W.Hook.keeps $H) (by rfl) (by rfl) (by rfl) (by assumption) ?hw ?hc; (case hl => (refine Ht.left_of ?_; intro w; rw [PySem.W.Fast.te10274390034422433532, PySem.W.Fast.te14289696077712309145, PySem.W.Fast.te4187177175401517315, PySem.W.Fast.te6613529449190102663, PySem.W.Fast.te10156331382660048174, PySem.W.Fast.te11892475500146522536, PySem.W.Fast.te14364793385576792824]; kernel_rfl))))
set_option maxHeartbeats 0 in
open_top Lk65.hd for PySem.Challenge.rw_stovework_k65_cases
set_option Elab.async false
set_option linter.all false
set_option maxRecDepth 100000
/-! THE HAND LAYER, for ints, bools, texts, own classes, LISTS and tuples (index, slices, in, append, pop ..), calls, loops. Paste it whole ahead of your own text; what your proof does not reach may be deleted. -/
namespace L2
open PySem PySem.Spec PyProof.Rows

/-- a key: an int or a str -/
abbrev Key := Sum Int Str
def keyIs : Key → Value → Bool
  | .inl k, v => Value.isInt k v
  | .inr x, v => Value.isStrOf x v
def keyH (w : World) : Key → Int
  | .inl k => hashInt k
  | .inr x => hashStr w x
theorem keyIs_shape : ∀ {k : Key} {v : Value}, keyIs k v = true → (∃ i t, k = Sum.inl i ∧ v = Value.int i t) ∨ (∃ x t, k = Sum.inr x ∧ v = Value.str x t)
  | .inl i, v, h => by
    obtain ⟨t, e⟩ := Value.isInt_shape (k := i) (v := v) h
    exact .inl ⟨i, t, rfl, e⟩
  | .inr x, v, h => by
    obtain ⟨t, e⟩ := Value.isStrOf_shape (x := x) (v := v) h
    exact .inr ⟨x, t, rfl, e⟩
theorem keyIs_int (i : Int) (t : Tok) : keyIs (.inl i) (.int i t) = true := by simp [keyIs, Value.isInt]
theorem keyIs_str (x : Str) (t : Tok) : keyIs (.inr x) (.str x t) = true := by simp [keyIs, Value.isStrOf]
theorem key_ll (a b : Int) : decide ((Sum.inl a : Key) = Sum.inl b) = (a == b) := by
  by_cases e : a = b
  · subst e; simp
  · have h : ¬ (Sum.inl a : Key) = Sum.inl b := fun q => e (Sum.inl.inj q)
    rw [decide_eq_false h]
    exact (beq_eq_false_iff_ne.mpr e).symm
theorem key_rr (a b : Str) : decide ((Sum.inr a : Key) = Sum.inr b) = decide (a = b) := by
  by_cases e : a = b
  · subst e; simp
  · have h : ¬ (Sum.inr a : Key) = Sum.inr b := fun q => e (Sum.inr.inj q)
    rw [decide_eq_false h, decide_eq_false e]
theorem key_lr (a : Int) (b : Str) : decide ((Sum.inl a : Key) = Sum.inr b) = false := decide_eq_false (fun q => nomatch q)
theorem key_rl (a : Str) (b : Int) : decide ((Sum.inr a : Key) = Sum.inl b) = false := decide_eq_false (fun q => nomatch q)

def mixKind (prog : Program) (w : World) : PySem.KeyKind prog w Key where
  is := keyIs
  hash := keyH w
  inj := fun v a b ha hb => by
    rcases keyIs_shape ha with ⟨i, t, rfl, rfl⟩ | ⟨x, t, rfl, rfl⟩
    · rcases keyIs_shape hb with ⟨j, u, rfl, e⟩ | ⟨y, u, rfl, e⟩
      · injection e with e1 _; rw [e1]
      · exact nomatch e
    · rcases keyIs_shape hb with ⟨j, u, rfl, e⟩ | ⟨y, u, rfl, e⟩
      · exact nomatch e
      · injection e with e1 _; rw [e1]
  byValue := fun k v h => by
    rcases keyIs_shape h with ⟨i, t, rfl, rfl⟩ | ⟨x, t, rfl, rfl⟩ <;> rfl
  pyHash := fun hv h => by
    rcases keyIs_shape hv with ⟨i, t, rfl, rfl⟩ | ⟨x, t, rfl, rfl⟩
    · exact wpAny_pyHash_int h
    · exact wpAny_pyHash_str h
  eqBool := fun hu hv h => by
    rcases keyIs_shape hu with ⟨i, t, rfl, rfl⟩ | ⟨x, t, rfl, rfl⟩
    · rcases keyIs_shape hv with ⟨j, u, rfl, rfl⟩ | ⟨y, u, rfl, rfl⟩
      · rw [key_ll] at h; exact wpAny_eqBool_int h
      · rw [key_lr] at h; exact SeqAt.EqAt.int_str i t y u _ _ _ _ h
    · rcases keyIs_shape hv with ⟨j, u, rfl, rfl⟩ | ⟨y, u, rfl, rfl⟩
      · rw [key_rl] at h; exact SeqAt.EqAt.str_int x t j u _ _ _ _ h
      · rw [key_rr] at h; exact wpAny_eqBool_str h
  «strs» := fun k x t v h => by
    rcases keyIs_shape h with ⟨i, u, rfl, e⟩ | ⟨y, u, rfl, e⟩
    · exact nomatch e
    · injection e with e1 _
      subst e1
      cases v <;> rfl

theorem mixKind_int (prog : Program) (w : World) (i : Int) (t : Tok) : (mixKind prog w).is (.inl i) (.int i t) = true := keyIs_int i t
theorem mixKind_str (prog : Program) (w : World) (x : Str) (t : Tok) : (mixKind prog w).is (.inr x) (.str x t) = true := keyIs_str x t
end L2

namespace L2
open PySem PySem.Spec PyProof.Rows

/-- a value, without the heap -/
inductive V where
  | non | bl (b : Bool) | int (i : Int) | str (x : Str) | byt (b : Array UInt8) | flt (b : UInt64) | ref (a : Addr) | ty (n : String)
  deriving DecidableEq

def RelV : V → Value → Prop
  | .non, u => u = Value.none
  | .bl b, u => u = Value.bool b
  | .int i, u => ∃ t, u = Value.int i t
  | .str x, u => ∃ t, u = Value.str x t
  | .byt b, u => ∃ t, u = Value.bytes b t
  | .flt b, u => ∃ t, u = Value.float b t
  | .ref a, u => u = Value.ref a
  | .ty n, u => u = Value.type n

abbrev Vals : List V → List Value → Prop := Paired RelV
theorem Vals.length {xs : List V} {us : List Value} (r : Vals xs us) : xs.length = us.length := Paired.length r
theorem Vals.get : ∀ {xs : List V} {us : List Value} {i : Nat} {x : V}, Vals xs us → xs[i]? = some x → ∃ u, us[i]? = some u ∧ RelV x u
  | _, _, _, _, .nil, e => by simp at e
  | _, _, 0, _, .cons r _, e => by simp at e; subst e; exact ⟨_, rfl, r⟩
  | _, _, i + 1, x, .cons _ t, e => by
    obtain ⟨u, h1, h2⟩ := Vals.get (i := i) (x := x) t (by simpa using e)
    exact ⟨u, by simpa using h1, h2⟩
theorem Vals.set {x : V} {u : Value} (r : RelV x u) : ∀ {xs : List V} {us : List Value} (i : Nat), Vals xs us → Vals (xs.set i x) (us.set i u)
  | _, _, _, .nil => .nil
  | _, _, 0, .cons _ t => .cons r t
  | _, _, i + 1, .cons q t => .cons q (Vals.set r i t)
theorem Vals.append : ∀ {xs ys : List V} {us ws : List Value}, Vals xs us → Vals ys ws → Vals (xs ++ ys) (us ++ ws)
  | _, _, _, _, .nil, s => s
  | _, _, _, _, .cons r t, s => .cons r (Vals.append t s)
theorem Vals.take : ∀ {xs : List V} {us : List Value} (n : Nat), Vals xs us → Vals (xs.take n) (us.take n)
  | _, _, 0, _ => .nil
  | _, _, _ + 1, .nil => .nil
  | _, _, n + 1, .cons r t => .cons r (Vals.take n t)
theorem Vals.drop : ∀ {xs : List V} {us : List Value} (n : Nat), Vals xs us → Vals (xs.drop n) (us.drop n)
  | _, _, 0, r => r
  | _, _, _ + 1, .nil => .nil
  | _, _, n + 1, .cons _ t => Vals.drop n t
def RelO : Option V → Option Value → Prop
  | some v, some u => RelV v u
  | none, none => True
  | _, _ => False
def KV {κ : Type} : List (κ × V) → List (κ × Value) → Prop := Paired fun (p : κ × V) (q : κ × Value) => p.1 = q.1 ∧ RelV p.2 q.2

/-- a key of a dict (00_mix): an int or a text -/
def kV : Key → V
  | .inl i => .int i
  | .inr x => .str x

/-- what stands at a tracked address -/
inductive HO where
  /-- a list -/
  | lst (xs : List V)
  /-- a tuple (never changes) -/
  | tup (xs : List V)
  /-- a dict whose keys are ints and texts; one whose keys are tuples of ints and texts (the empty one is both) -/
  | dK (kvs : List (Key × V)) | dT (kvs : List (List Key × V))
  /-- a set of ints: its members, its size -/
  | set (S : Int → Bool) (n : Nat)
  /-- an instance of the class at C, its dict at dx, its attributes -/
  | ins (C dx : Addr) (fs : List (Str × V))
  /-- the dict of the instance at x -/
  | own (x : Addr)
  /-- the dict of an exception -/
  | xd (fs : List (Str × V))
  /-- a bound method, f of x -/
  | met (f x : Addr)
  /-- a range object lo, lo + 1, .. below hi -/
  | rng (lo hi : Int)
  /-- a thing that is known to the object (the script; a dict while a loop walks it): read, never written while it is so -/
  | frz (o : Obj) (u : HO)
  /-- a code object's table -/
  | tbl (ps : Array Value)
  /-- any other thing, by what is true of its one object (a def of one's own: SetO a S n := HO.ext fun h => ..) -/
  | ext (φ : Heap → Prop)

abbrev Hp := Addr → Option HO
def upd (H : Hp) (a : Addr) (o : HO) : Hp := fun b => if b = a then some o else H b
theorem upd_same {H : Hp} {a : Addr} {o : HO} : upd H a o a = some o := by unfold upd; rw [if_pos rfl]
theorem upd_ne {H : Hp} {a b : Addr} {o : HO} (h : b ≠ a) : upd H a o b = H b := by unfold upd; rw [if_neg h]
/-- two objects of different content stand apart -/
theorem ne_of {H : Hp} {a b : Addr} {o u : HO} (h : H a = some o) (h' : H b = some u) (d : o ≠ u) : a ≠ b := by
  intro e; subst e; rw [h] at h'; exact d (Option.some.inj h')
theorem ne_of_none {H : Hp} {a b : Addr} {o : HO} (h : H a = some o) (h' : H b = none) : a ≠ b := by
  intro e; subst e; rw [h] at h'; cases h'

section
variable (P : Program) (w : World)
def ObjOk (H : Hp) (h : Heap) (a : Addr) : HO → Prop
  | .lst xs => xs.length ≤ sizeLine ∧ ∃ (its : List Value) (n : Nat), Vals xs its ∧ h.get? a = some { cls := .type "list", data := .seq its.toArray n }
  | .tup xs => xs.length ≤ sizeLine ∧ ∃ its : List Value, Vals xs its ∧ IsTup h a its.toArray
  | .dK kvs => kvs.length ≤ sizeLine ∧ (a == sysModules) = false ∧ ∃ vs, KV kvs vs ∧ h.DictOf (mixKind P w) a vs
  | .dT kvs => kvs.length ≤ sizeLine ∧ (a == sysModules) = false ∧ ∃ xs : List (List Key × Addr × Value),
      Paired (fun (p : List Key × V) (q : List Key × Addr × Value) => p.1 = q.1 ∧ H q.2.1 = some (.tup (p.1.map kV)) ∧ RelV p.2 q.2.2) kvs xs ∧
      ∃ o es ep, h.get? a = some o ∧ o.ExactDict ∧ o.data = .dict es ep ∧ es.toList = xs.map (entryOfKey (tupleKind (mixKind P w))) ∧ (xs.map (·.1)).Nodup
  | .set S n => h.SetOf (intKind P w) a S n
  | .ins C dx fs => H dx = some (.own a) ∧ fs.length ≤ 1000 ∧ dx ≠ a ∧ h.get? a = some (PySem.W.instObj C dx) ∧
      ∃ mA, h.Ns1 dx mA ∧ (∀ f, RelO (fs.lookup f) (mA f)) ∧ PySem.Within mA (fs.map (·.1))
  | .own _ => ∃ o, h.get? a = some o
  | .xd fs => ∃ mA, h.Ns1 a mA ∧ ∀ f, RelO (fs.lookup f) (mA f)
  | .rng lo hi => ∃ t u v, h.get? a = some { cls := .type "range", data := .fields #[.int lo t, .int hi u, .int 1 v] }
  | .frz o u => h.get? a = some o ∧ ObjOk H h a u
  | .tbl ps => h.get? a = some { cls := .none, data := .fields ps }
  | .met f x => h.get? a = some (PySem.W.methodObj (.ref f) (.ref x))
  | .ext φ => φ h ∧ (∃ o, h.get? a = some o) ∧ ∀ h1 h2 : Heap, φ h1 → (∀ o, h1.get? a = some o → h2.get? a = some o) → φ h2
/-- the abstract heap is held -/
def HOk (H : Hp) (h : Heap) : Prop := ∀ a o, H a = some o → ObjOk P w H h a o
end

section
variable {P : Program} {w : World} {H H' : Hp} {h h' : Heap} {a : Addr} {o : HO}
theorem ObjOk.lt (x : ObjOk P w H h a o) : a < h.objs.size := by
  cases o with
  | lst xs => obtain ⟨_, _, _, _, e⟩ := x; exact Heap.lt_size e
  | tup xs => obtain ⟨_, _, _, p⟩ := x; exact p.lt
  | dK kvs => obtain ⟨_, _, _, _, o, _, _, e, _⟩ := x; exact Heap.lt_size e
  | dT kvs => obtain ⟨_, _, _, _, o, _, _, e, _⟩ := x; exact Heap.lt_size e
  | set S n => obtain ⟨o, _, _, _, e, _⟩ := x; exact Heap.lt_size e
  | ins C dx fs => obtain ⟨_, _, _, e, _⟩ := x; exact Heap.lt_size e
  | own y => obtain ⟨_, e⟩ := x; exact Heap.lt_size e
  | xd fs => obtain ⟨_, ⟨_, _, _, e, _⟩, _⟩ := x; exact Heap.lt_size e
  | rng lo hi => obtain ⟨_, _, _, e⟩ := x; exact Heap.lt_size e
  | frz ob u => obtain ⟨e, _⟩ := x; exact Heap.lt_size e
  | tbl ps => exact Heap.lt_size (show h.get? a = some _ from x)
  | met f y => exact Heap.lt_size (show h.get? a = some _ from x)
  | ext φ => obtain ⟨_, ⟨_, e⟩, _⟩ := x; exact Heap.lt_size e
theorem Paired.mapP {α β : Type} {F G : α → β → Prop} : ∀ {l₁ : List α} {l₂ : List β}, Paired F l₁ l₂ → (∀ a b, F a b → G a b) → Paired G l₁ l₂
  | _, _, .nil, _ => .nil
  | _, _, .cons r t, f => .cons (f _ _ r) (Paired.mapP t f)
/-- what an object's description leans on: its own object, its own dict, the tuples -/
theorem ObjOk.stay (x : ObjOk P w H h a o) (k : ∀ b u, (b = a ∨ H b = some (.own a)) → h.get? b = some u → h'.get? b = some u)
    (ho : ∀ b, H b = some (.own a) → H' b = some (.own a)) (ht : ∀ b xs, H b = some (.tup xs) → H' b = some (.tup xs)) : ObjOk P w H' h' a o := by
  induction o with
  | lst xs => obtain ⟨z, its, n, r, e⟩ := x; exact ⟨z, its, n, r, k _ _ (.inl rfl) e⟩
  | tup xs => obtain ⟨z, its, r, ob, e, c⟩ := x; exact ⟨z, its, r, ob, k _ _ (.inl rfl) e, c⟩
  | dK kvs => obtain ⟨z, y, vs, r, ob, es, ep, e, c⟩ := x; exact ⟨z, y, vs, r, ob, es, ep, k _ _ (.inl rfl) e, c⟩
  | dT kvs =>
    obtain ⟨z, y, xs, r, ob, es, ep, e, c⟩ := x
    exact ⟨z, y, xs, Paired.mapP r fun p q z => ⟨z.1, ht _ _ z.2.1, z.2.2⟩, ob, es, ep, k _ _ (.inl rfl) e, c⟩
  | set S n => obtain ⟨ob, es, ep, t, e, c⟩ := x; exact ⟨ob, es, ep, t, k _ _ (.inl rfl) e, c⟩
  | ins C dx fs =>
    obtain ⟨d, z, ne, e, mA, ⟨od, es, ep, e2, c⟩, r⟩ := x
    exact ⟨ho _ d, z, ne, k _ _ (.inl rfl) e, mA, ⟨od, es, ep, k _ _ (.inr d) e2, c⟩, r⟩
  | own y => obtain ⟨ob, e⟩ := x; exact ⟨ob, k _ _ (.inl rfl) e⟩
  | xd fs => obtain ⟨mA, ⟨od, es, ep, e, c⟩, r⟩ := x; exact ⟨mA, ⟨od, es, ep, k _ _ (.inl rfl) e, c⟩, r⟩
  | rng lo hi => obtain ⟨t, u, v, e⟩ := x; exact ⟨t, u, v, k _ _ (.inl rfl) e⟩
  | frz ob u ih => obtain ⟨e, q⟩ := x; exact ⟨k _ _ (.inl rfl) e, ih q⟩
  | tbl ps =>
    have e : h.get? a = some { cls := .none, data := .fields ps } := x
    show h'.get? a = some { cls := .none, data := .fields ps }
    exact k a _ (.inl rfl) e
  | met f y =>
    have e : h.get? a = some (PySem.W.methodObj (.ref f) (.ref y)) := x
    show h'.get? a = some (PySem.W.methodObj (.ref f) (.ref y))
    exact k a _ (.inl rfl) e
  | ext φ => obtain ⟨p, ⟨o, e⟩, st⟩ := x; exact ⟨st _ _ p fun o q => k _ _ (.inl rfl) q, ⟨o, k _ _ (.inl rfl) e⟩, st⟩
theorem HOk.lt (x : HOk P w H h) (e : H a = some o) : a < h.objs.size := (x a o e).lt
theorem HOk.fresh (x : HOk P w H h) (e : h.objs.size ≤ a) : H a = none := by
  cases q : H a with
  | none => rfl
  | some u => exact absurd (Nat.lt_of_lt_of_le (x.lt q) e) (Nat.lt_irrefl _)
/-- every object of the heap is kept -/
theorem HOk.kept (x : HOk P w H h) (k : ∀ b u, h.get? b = some u → h'.get? b = some u) : HOk P w H h' := fun a o e =>
  (x a o e).stay (fun b u _ q => k b u q) (fun _ q => q) fun _ _ q => q
/-- a new object is laid and tracked -/
theorem HOk.laid (x : HOk P w H h) (k : ∀ b u, h.get? b = some u → h'.get? b = some u) (hp : h.objs.size ≤ a) (new : ObjOk P w (upd H a o) h' a o) : HOk P w (upd H a o) h' := fun b u e => by
  have hn := x.fresh hp
  by_cases hb : b = a
  · subst hb; rw [upd_same] at e; cases e; exact new
  · rw [upd_ne hb] at e
    exact (x b u e).stay (fun c v _ q => k c v q) (fun c q => by rw [upd_ne (ne_of_none q hn)]; exact q) fun c xs q => by rw [upd_ne (ne_of_none q hn)]; exact q
end

/-- what may be read as u: it is u, or a known u -/
def Rd (H : Hp) (a : Addr) (u : HO) : Prop := H a = some u ∨ ∃ o, H a = some (.frz o u)
theorem Rd.ok {P : Program} {w : World} {H : Hp} {h : Heap} {a : Addr} {u : HO} (r : Rd H a u) (x : HOk P w H h) : ObjOk P w H h a u := by
  rcases r with r | ⟨o, r⟩
  · exact x a u r
  · obtain ⟨_, q⟩ := x a _ r
    exact q
/-- what may be written -/
def Mut : Option HO → Prop
  | some (.lst _) => True
  | some (.dK _) => True
  | some (.dT _) => True
  | some (.set _ _) => True
  | some (.ins _ _ _) => True
  | some (.ext _) => True
  | _ => False
section
variable {P : Program} {w : World} {H : Hp} {h h' : Heap} {x e : Addr} {o' : HO}
/-- the object at e is changed: x itself, or the dict of the instance x -/
theorem HOk.write (ok : HOk P w H h) (mu : Mut (H x)) (he : e = x ∨ H e = some (.own x)) (k : ∀ b u, b ≠ e → h.get? b = some u → h'.get? b = some u) (heo : ∃ u, h'.get? e = some u)
    (new : ObjOk P w (upd H x o') h' x o') : HOk P w (upd H x o') h' := fun b u q => by
  have nown : ∀ c y, H c = some (.own y) → c ≠ x := fun c y r z => by subst z; rw [r] at mu; exact mu
  have ntup : ∀ c xs, H c = some (.tup xs) → c ≠ x := fun c xs r z => by subst z; rw [r] at mu; exact mu
  by_cases hb : b = x
  · subst hb; rw [upd_same] at q; cases q; exact new
  · rw [upd_ne hb] at q
    by_cases hbe : b = e
    · have q' : H b = some (.own x) := by
        rcases he with z | z
        · exact absurd (hbe.trans z) hb
        · rw [hbe]; exact z
      rw [q] at q'; cases q'
      obtain ⟨v, hv⟩ := heo
      exact ⟨v, by rw [hbe]; exact hv⟩
    · refine (ok b u q).stay (fun c v hc r => k c v ?_ r) (fun c r => by rw [upd_ne (nown c b r)]; exact r) fun c xs r => by rw [upd_ne (ntup c xs r)]; exact r
      rcases hc with rfl | hc
      · exact hbe
      · rintro rfl
        rcases he with z | z
        · exact nown c b hc z
        · rw [hc] at z; cases z; exact hb rfl
end

/-! ### kept unless tracked; of the frames at fs (the callers') the slots may change (an exception that passes writes there); of the records at ex (iterators) nothing is said -/
structure Un (fs ex : List Addr) (H H' : Hp) (h h' : Heap) : Prop where
  keep : ∀ b o, h.get? b = some o → H b = none → b ∉ fs → b ∉ ex → h'.get? b = some o
  slot : ∀ b o, h.get? b = some o → H b = none → b ∈ fs → b ∉ ex → ∃ sl, h'.get? b = some { o with slots := sl }
  free : ∀ b o, h.get? b = some o → H b = none → b ∉ ex → H' b = none
  there : ∀ b o, h.get? b = some o → b ∉ ex → ∃ o', h'.get? b = some o'
  tups : ∀ b xs, H b = some (.tup xs) → H' b = some (.tup xs)
  frzs : ∀ b o u, H b = some (.frz o u) → H' b = some (.frz o u)
  tbls : ∀ b ps, H b = some (.tbl ps) → ∃ more, H' b = some (.tbl (ps ++ more))
section
variable {fs fs' ex ex' : List Addr} {H H1 H2 : Hp} {h h1 h2 h' : Heap} {a x e : Addr} {o : HO}
theorem Un.any (u : Un fs ex H H1 h h1) {b : Addr} {ob : Obj} (q : h.get? b = some ob) (n : H b = none) (hx : b ∉ ex) : ∃ sl, h1.get? b = some { ob with slots := sl } := by
  by_cases hb : b ∈ fs
  · exact u.slot b ob q n hb hx
  · exact ⟨ob.slots, u.keep b ob q n hb hx⟩
theorem Un.kept (k : ∀ b u, h.get? b = some u → h'.get? b = some u) : Un fs ex H H h h' :=
  ⟨fun b ob q _ _ _ => k b ob q, fun b ob q _ _ _ => ⟨ob.slots, k b ob q⟩, fun _ _ _ n _ => n, fun b ob q _ => ⟨ob, k b ob q⟩, fun _ _ q => q, fun _ _ _ q => q, fun _ ps q => ⟨#[], by rw [q]; simp⟩⟩
theorem Un.refl : Un fs ex H H h h := Un.kept fun _ _ q => q
theorem Un.laid (k : ∀ b u, h.get? b = some u → h'.get? b = some u) (hp : h.objs.size ≤ a) (hn : H a = none) : Un fs ex H (upd H a o) h h' where
  keep := fun b u q _ _ _ => k b u q
  slot := fun b u q _ _ _ => ⟨u.slots, k b u q⟩
  free := fun b u q n _ => by rw [upd_ne (Nat.ne_of_lt (Nat.lt_of_lt_of_le (Heap.lt_size q) hp))]; exact n
  there := fun b u q _ => ⟨u, k b u q⟩
  tups := fun b xs q => by rw [upd_ne (ne_of_none q hn)]; exact q
  frzs := fun b u xs q => by rw [upd_ne (ne_of_none q hn)]; exact q
  tbls := fun b ps q => ⟨#[], by rw [upd_ne (ne_of_none q hn), q]; simp⟩
theorem Un.write (mu : Mut (H x)) (he : e = x ∨ H e = some (.own x)) (k : ∀ b u, b ≠ e → h.get? b = some u → h'.get? b = some u) (heo : ∃ u, h'.get? e = some u) : Un fs ex H (upd H x o) h h' := by
  have hx : ∀ b, H b = none → b ≠ x := fun b n z => by subst z; rw [n] at mu; exact mu
  have hb : ∀ b, H b = none → b ≠ e := fun b n z => by
    subst z
    rcases he with r | r
    · exact hx b n r
    · rw [n] at r; cases r
  have hm : ∀ b u, H b = some u → ¬ Mut (some u) → b ≠ x := fun b u q nm z => by subst z; rw [q] at mu; exact nm mu
  refine ⟨fun b u q n _ _ => k b u (hb b n) q, fun b u q n _ _ => ⟨u.slots, k b u (hb b n) q⟩, fun b u q n _ => by rw [upd_ne (hx b n)]; exact n, fun b u q _ => ?_,
    fun b xs q => by rw [upd_ne (hm b _ q fun z => z)]; exact q, fun b u xs q => by rw [upd_ne (hm b _ q fun z => z)]; exact q, fun b ps q => ⟨#[], by rw [upd_ne (hm b _ q fun z => z), q]; simp⟩⟩
  by_cases hbe : b = e
  · subst hbe; exact heo
  · exact ⟨u, k b u hbe q⟩
end

/-! ### the heap without what is tracked -/
def trk (h : Heap) (H : Hp) : List Addr := (List.range h.objs.size).filter fun a => (H a).isSome
def hidT (h : Heap) (H : Hp) : Heap := PySem.W.hideAll h (trk h H)
theorem hidT_size (h : Heap) (H : Hp) : (hidT h H).objs.size = h.objs.size := PySem.W.hideAll_size _ _
theorem hidT_get {h : Heap} {H : Hp} {b : Addr} {o : Obj} (e : h.get? b = some o) (n : H b = none) : (hidT h H).get? b = some o :=
  PySem.W.hideAll_get _ e fun hm => by
    have q : (H b).isSome = true := (List.mem_filter.mp hm).2
    rw [n] at q; simp at q
theorem of_hidT {h : Heap} {H : Hp} {b : Addr} {o : Obj} (e : (hidT h H).get? b = some o) : h.get? b = some o ∧ H b = none := by
  have e' : h.get? b = some o := PySem.W.of_hideAll (trk h H) e
  refine ⟨e', ?_⟩
  cases q : H b with
  | none => rfl
  | some x =>
    have hm : b ∈ trk h H := List.mem_filter.mpr ⟨List.mem_range.mpr (Heap.lt_size e'), by simp [q]⟩
    have z : (hidT h H).get? b = none := PySem.W.hideAll_none (trk h H) hm
    rw [z] at e; cases e

/-! ### OpenK's ledger, filled with every new object but one -/
end L2

namespace L2
open PySem PySem.Spec PyProof.Rows

/-- the module's facts, over the base: the heap at the law's entry without what is tracked there -/
structure Mod (K : PySem.W.Frag) (mg : Str → Option Value) (base : Heap) : Prop where
  kin : K.In base
  glob : base.Ns mainGlobals mg
  blt : ∃ mb, base.Ns builtinsNs mb ∧ ∀ x : Str, x ≠ "__name__" → mb x = bootBuiltins x
  nolimit : base.NoLimit

/-- the context: a def's body (or a comprehension's block) running. base: fixed through the whole law; s₀, H₀: the entry; outer: the frames whose slots others may change (a def's callers); stack: all frames that run;
   ex: iterators that were made ahead of the entry and are walked here (a comprehension's); fn: the names whose cells were made at the entry (a def: all; a comprehension's block: its own); calm: not within an except suite; pn: pins that every state bears; xe: what is wanted of an exception that leaves the code -/
structure Cx where
  prog : Program
  w : World
  K : PySem.W.Frag
  mg : Str → Option Value
  base : Heap
  A : Around
  N : List Str
  s₀ : Shared
  H₀ : Hp
  env : Env
  outer : List Env
  stack : List Env
  ex : List Addr
  fn : Str → Bool
  calm : Bool
  pn : List (Addr × Obj)
  xe : Value → Shared → Prop
/-- the callers' frames -/
def frs (l : List Env) : List Addr := l.filterMap (·.frame)
abbrev Cx.fs (X : Cx) : List Addr := frs X.outer

def Vis (sc : Scope) (x : Str) : Prop := sc.names.lookup x = some .local ∨ sc.names.lookup x = some .cell ∨ sc.names.lookup x = some .free
def Loc (sc : Scope) (x : Str) : Prop := sc.names.lookup x = some .local ∨ sc.names.lookup x = some .cell
def Look (env : Env) (h : Heap) (m : Str → Option Value) (x : Str) (u : Value) : Prop :=
  (env.kindOf x = some .local ∧ m x = some u) ∨ ((env.kindOf x = some .cell ∨ env.kindOf x = some .free) ∧ ∃ c, env.cells.lookup x = some c ∧ h.IsCell c (some u))

structure Cx.Ok (X : Cx) : Prop where
  mod : Mod X.K X.mg X.base
  kind : X.env.scope.kind = .function
  glob : X.env.globals = mainGlobals
  blt : X.env.builtins = builtinsNs
  above : X.s₀.heap.objs.size ≤ X.env.locals
  inj : ∀ x y c, X.env.cells.lookup x = some c → X.env.cells.lookup y = some c → x = y
  has : ∀ x, (X.env.kindOf x = some .cell ∨ X.env.kindOf x = some .free) → ∃ c, X.env.cells.lookup x = some c
  cab : ∀ x c, X.fn x = true → X.env.cells.lookup x = some c → X.s₀.heap.objs.size ≤ c
  hd : X.calm = true → X.A.handled = none
  frames : X.A.frames = some X.stack
  stk : X.stack = X.outer ∨ (X.stack = X.env :: X.outer ∧ X.env.frame = some X.env.locals)
  exf : ∀ b ∈ X.ex, b ≠ X.env.locals ∧ ∀ x c, X.env.cells.lookup x = some c → c ≠ b
  bs : ∀ b o, X.base.get? b = some o → X.s₀.heap.get? b = some o ∧ X.H₀ b = none
  bsz : X.base.objs.size ≤ X.s₀.heap.objs.size
  noex : ∀ b o, X.base.get? b = some o → b ∉ X.ex
  exfs : ∀ b ∈ X.ex, b ∉ X.fs
  funs : X.s₀.heap.FunFrames X.base X.outer
  frf : ∀ b ∈ X.fs, X.H₀ b = none

structure Inv (X : Cx) (pins : List (Addr × Obj)) (σ : List (Option V)) (H : Hp) (s : Shared) : Prop where
  ok : X.Ok
  os : s.os = X.s₀.os
  bare : AllBare s.gens
  base : Un X.fs X.ex X.H₀ H X.s₀.heap s.heap
  loc : ∃ m, s.heap.Ns X.env.locals m ∧ ∀ (i : Nat) (x : Str) (v : V), X.N[i]? = some x → σ[i]? = some (some v) → Vis X.env.scope x → ∃ u, RelV v u ∧ Look X.env s.heap m x u
  cell : ∀ x c, X.env.cells.lookup x = some c → ∃ v, s.heap.IsCell c v
  free : H X.env.locals = none
  freeC : ∀ x c, X.env.cells.lookup x = some c → H c = none
  pin : ∀ p ∈ X.pn ++ pins, s.heap.get? p.1 = some p.2 ∧ H p.1 = none ∧ p.1 ≠ X.env.locals ∧ p.1 ∉ X.fs ∧ ∀ v, p.2.data ≠ .cell v
  hok : HOk X.prog X.w H s.heap
  len : σ.length = X.N.length

section
variable {X : Cx} {pins : List (Addr × Obj)} {σ : List (Option V)} {H H' : Hp} {s : Shared} {h' : Heap}

theorem Cx.Ok.nofr (ok : X.Ok) {b : Addr} {o : Obj} (e : X.base.get? b = some o) : b ∉ X.fs := fun hb => by
  have := (ok.funs.mem hb).1
  rw [e] at this; cases this
theorem Inv.bs (I : Inv X pins σ H s) : ∀ b o, X.base.get? b = some o → s.heap.get? b = some o ∧ H b = none := fun b o e =>
  ⟨I.base.keep b o (I.ok.bs b o e).1 (I.ok.bs b o e).2 (I.ok.nofr e) (I.ok.noex b o e), I.base.free b o (I.ok.bs b o e).1 (I.ok.bs b o e).2 (I.ok.noex b o e)⟩
theorem Inv.bk (I : Inv X pins σ H s) : ∀ b o, X.base.get? b = some o → s.heap.get? b = some o := fun b o e => (I.bs b o e).1
theorem Inv.mod (I : Inv X pins σ H s) : Mod X.K X.mg X.base := I.ok.mod
theorem Inv.kIn (I : Inv X pins σ H s) : X.K.In s.heap := I.ok.mod.kin.keeps I.bk
theorem Inv.lt (I : Inv X pins σ H s) : X.env.locals < s.heap.objs.size := let ⟨_, hn, _⟩ := I.loc; hn.lt
theorem Inv.sz (I : Inv X pins σ H s) : X.s₀.heap.objs.size ≤ s.heap.objs.size := Nat.le_trans I.ok.above (Nat.le_of_lt I.lt)
theorem Inv.nofs (I : Inv X pins σ H s) {a : Addr} (h : s.heap.objs.size ≤ a) : a ∉ X.fs := fun hb => by
  obtain ⟨_, o, ho, _⟩ := I.ok.funs.mem hb
  exact absurd (Nat.lt_of_lt_of_le (Heap.lt_size ho) (Nat.le_trans I.sz h)) (Nat.lt_irrefl _)
theorem Inv.cne (I : Inv X pins σ H s) : ∀ x c, X.env.cells.lookup x = some c → c ≠ X.env.locals := fun x c e z => by
  obtain ⟨v, o, ho, hd⟩ := I.cell x c e
  obtain ⟨m, ⟨o', es, ep, ho', hd', _⟩, _⟩ := I.loc
  rw [z, ho'] at ho; cases ho; rw [hd'] at hd; cases hd
theorem Inv.funs (I : Inv X pins σ H s) : s.heap.FunFrames X.base X.outer := by
  have all : ∀ (l : List Env), (∀ b ∈ frs l, b ∈ X.fs) → X.s₀.heap.FunFrames X.base l → s.heap.FunFrames X.base l := by
    intro l
    induction l with
    | nil => intro _ _; trivial
    | cons env r ih =>
      intro hs hl
      obtain ⟨hk, ⟨L, o, hf, hn, ho, hd⟩, hr⟩ := hl
      have hL : L ∈ X.fs := hs L (by unfold frs; rw [List.filterMap_cons, hf]; exact List.mem_cons_self)
      obtain ⟨sl, e⟩ := I.base.slot L o ho (I.ok.frf L hL) hL fun z => I.ok.exfs L z hL
      exact ⟨hk, ⟨L, _, hf, hn, e, hd⟩, ih (fun b hb => hs b (by unfold frs; rw [List.filterMap_cons, hf]; exact List.mem_cons_of_mem _ hb)) hr⟩
  exact all X.outer (fun _ hb => hb) I.ok.funs

/-- the frames that run, for a call -/
theorem Inv.stack (I : Inv X pins σ H s) : s.heap.FunFrames X.base X.stack := by
  rcases I.ok.stk with e | ⟨e, hf⟩
  · rw [e]; exact I.funs
  · rw [e]
    obtain ⟨m, hn, _⟩ := I.loc
    refine .cons (by rw [I.ok.kind]; decide) hf hn ?_ I.funs
    exact Heap.get?_none_of_le (Nat.le_trans I.ok.bsz I.ok.above)
theorem Inv.stkSub (I : Inv X pins σ H s) : ∀ b ∈ frs X.stack, b ∈ X.env.locals :: X.fs := fun b hb => by
  rcases I.ok.stk with e | ⟨e, hf⟩
  · rw [e] at hb; exact List.mem_cons_of_mem _ hb
  · rw [e] at hb
    unfold frs at hb
    rw [List.filterMap_cons, hf] at hb
    exact hb
theorem Inv.stkFree (I : Inv X pins σ H s) : ∀ b ∈ frs X.stack, H b = none := fun b hb => by
  rcases List.mem_cons.mp (I.stkSub b hb) with e | hb
  · rw [e]; exact I.free
  · obtain ⟨_, o, ho, _⟩ := I.ok.funs.mem hb
    exact I.base.free b o ho (I.ok.frf b hb) fun z => I.ok.exfs b z hb

/-- THE STEP: the untracked objects but the frame and the records at ch are kept (the callers' frames up to slots), the frame's map is kept, the new abstract heap is held -/
theorem Inv.step {g' : Array GenState} {t' : Nat} {d' : Drawn} {ch : List Addr} (I : Inv X pins σ H s)
    (hch : ∀ b ∈ ch, (b ∈ X.ex ∨ X.s₀.heap.objs.size ≤ b) ∧ b ≠ X.env.locals ∧ (∀ x c, X.env.cells.lookup x = some c → c ≠ b) ∧ ∀ p ∈ X.pn ++ pins, p.1 ≠ b)
    (keep : ∀ b o, b ≠ X.env.locals → b ∉ X.fs → b ∉ ch → s.heap.get? b = some o → H b = none → h'.get? b = some o)
    (slot : ∀ b o, b ≠ X.env.locals → b ∈ X.fs → b ∉ ch → s.heap.get? b = some o → H b = none → ∃ sl, h'.get? b = some { o with slots := sl }) (free : ∀ b o, b ∉ ch → s.heap.get? b = some o → H b = none → H' b = none)
    (there : ∀ b o, b ∉ ch → s.heap.get? b = some o → ∃ o', h'.get? b = some o')
    (tups : ∀ b xs, H b = some (.tup xs) → H' b = some (.tup xs)) (frzs : ∀ b o u, H b = some (.frz o u) → H' b = some (.frz o u)) (tbls : ∀ b ps, H b = some (.tbl ps) → ∃ more, H' b = some (.tbl (ps ++ more)))
    (ns : ∀ m, s.heap.Ns X.env.locals m → h'.Ns X.env.locals m) (hok : HOk X.prog X.w H' h') (hg : AllBare g') :
    Inv X pins σ H' { s with heap := h', gens := g', drawn := d', toks := t' } := by
  have neL : ∀ b o, X.s₀.heap.get? b = some o → b ≠ X.env.locals := fun b o e => Nat.ne_of_lt (Nat.lt_of_lt_of_le (Heap.lt_size e) I.ok.above)
  have neC : ∀ b o, X.s₀.heap.get? b = some o → b ∉ X.ex → b ∉ ch := fun b o e hx hb => by
    rcases (hch b hb).1 with z | z
    · exact hx z
    · exact absurd (Nat.lt_of_lt_of_le (Heap.lt_size e) z) (Nat.lt_irrefl _)
  have cellK : ∀ x c, X.env.cells.lookup x = some c → ∀ v, s.heap.IsCell c v → h'.IsCell c v := fun x c e v ⟨o, ho, hd⟩ => by
    have nch : c ∉ ch := fun z => (hch c z).2.2.1 x c e rfl
    by_cases hc : c ∈ X.fs
    · obtain ⟨sl, q⟩ := slot c o (I.cne x c e) hc nch ho (I.freeC x c e)
      exact ⟨_, q, hd⟩
    · exact ⟨o, keep c o (I.cne x c e) hc nch ho (I.freeC x c e), hd⟩
  refine ⟨I.ok, I.os, hg, ⟨fun b o e n hb hx => ?_, fun b o e n hb hx => ?_, fun b o e n hx => ?_, fun b o e hx => ?_, fun b xs e => tups b xs (I.base.tups b xs e), fun b o xs e => frzs b o xs (I.base.frzs b o xs e), fun b ps e => ?_⟩, ?_, fun x c e => ?_, ?_, fun x c e => ?_, fun p hp => ?_, hok, I.len⟩
  · exact keep b o (neL b o e) hb (neC b o e hx) (I.base.keep b o e n hb hx) (I.base.free b o e n hx)
  · obtain ⟨sl, e1⟩ := I.base.slot b o e n hb hx
    obtain ⟨sl', e2⟩ := slot b _ (neL b o e) hb (neC b o e hx) e1 (I.base.free b o e n hx)
    exact ⟨sl', e2⟩
  · obtain ⟨o', e1⟩ := I.base.there b o e hx
    exact free b o' (neC b o e hx) e1 (I.base.free b o e n hx)
  · obtain ⟨o', e1⟩ := I.base.there b o e hx
    exact there b o' (neC b o e hx) e1
  · obtain ⟨m1, e1⟩ := I.base.tbls b ps e
    obtain ⟨m2, e2⟩ := tbls b _ e1
    exact ⟨m1 ++ m2, by rw [e2, Array.append_assoc]⟩
  · obtain ⟨m, hn, hl⟩ := I.loc
    refine ⟨m, ns m hn, fun i x v e1 e2 e3 => ?_⟩
    obtain ⟨u, r, l⟩ := hl i x v e1 e2 e3
    refine ⟨u, r, ?_⟩
    rcases l with l | ⟨k, c, e, z⟩
    · exact .inl l
    · exact .inr ⟨k, c, e, cellK x c e _ z⟩
  · obtain ⟨v, z⟩ := I.cell x c e
    exact ⟨v, cellK x c e v z⟩
  · obtain ⟨m, ⟨o, _, _, ho, _⟩, _⟩ := I.loc
    exact free _ o (fun z => (hch _ z).2.1 rfl) ho I.free
  · obtain ⟨v, o, ho, hd⟩ := I.cell x c e
    exact free c o (fun z => (hch c z).2.2.1 x c e rfl) ho (I.freeC x c e)
  · obtain ⟨e, n, ne, nf, d⟩ := I.pin p hp
    have nch : p.1 ∉ ch := fun z => (hch p.1 z).2.2.2 p hp rfl
    exact ⟨keep p.1 p.2 ne nf nch e n, free p.1 p.2 nch e n, ne, nf, d⟩
/-- .. where the frame's own object is kept too -/
theorem Inv.un {t' : Nat} (I : Inv X pins σ H s) (u : Un X.fs [] H H' s.heap h') (hok : HOk X.prog X.w H' h') : Inv X pins σ H' { s with heap := h', toks := t' } := by
  obtain ⟨m, ⟨o, es, ep, ho, r⟩, _⟩ := id I.loc
  obtain ⟨sl, hL⟩ := u.any ho I.free (by simp)
  exact I.step (g' := s.gens) (d' := s.drawn) (ch := []) (fun _ z => nomatch z) (fun b o _ hb _ e n => u.keep b o e n hb (by simp)) (fun b o _ hb _ e n => u.slot b o e n hb (by simp)) (fun b o _ e n => u.free b o e n (by simp)) (fun b o _ e => u.there b o e (by simp)) u.tups u.frzs u.tbls (fun m' hm => by
    obtain ⟨o', es', ep', ho', r'⟩ := hm
    rw [ho] at ho'; cases ho'
    exact ⟨_, es', ep', hL, r'⟩) hok I.bare
/-- behind a call (or a comprehension's block): the slots of this frame may have changed too, the records at ch may have turned -/
theorem Inv.call {g' : Array GenState} {t' : Nat} {d' : Drawn} {ch : List Addr} (I : Inv X pins σ H s) (u : Un (frs X.stack) ch H H' s.heap h') (hok : HOk X.prog X.w H' h') (hg : AllBare g')
    (hch : ∀ b ∈ ch, (b ∈ X.ex ∨ X.s₀.heap.objs.size ≤ b) ∧ b ≠ X.env.locals ∧ (∀ x c, X.env.cells.lookup x = some c → c ≠ b) ∧ ∀ p ∈ X.pn ++ pins, p.1 ≠ b) :
    Inv X pins σ H' { s with heap := h', gens := g', drawn := d', toks := t' } := by
  obtain ⟨m, ⟨o, es, ep, ho, r⟩, _⟩ := id I.loc
  obtain ⟨sl, hL⟩ := u.any ho I.free fun z => (hch _ z).2.1 rfl
  exact I.step (ch := ch) hch (fun b o hL hb hc e n => u.keep b o e n (fun z => (List.mem_cons.mp (I.stkSub b z)).elim hL hb) hc) (fun b o _ _ hc e n => u.any e n hc) (fun b o hc e n => u.free b o e n hc) (fun b o hc e => u.there b o e hc) u.tups u.frzs u.tbls (fun m' hm => by
    obtain ⟨o', es', ep', ho', r'⟩ := hm
    rw [ho] at ho'; cases ho'
    exact ⟨_, es', ep', hL, r'⟩) hok hg
/-- an untracked record of ours (an iterator) has turned -/
theorem Inv.turned {t' : Nat} {it : Addr} (I : Inv X pins σ H s) (k : ∀ b o, b ≠ it → s.heap.get? b = some o → h'.get? b = some o) (hn : H it = none) (hL : it ≠ X.env.locals)
    (h1 : it ∈ X.ex ∨ X.s₀.heap.objs.size ≤ it) (h2 : ∀ x c, X.env.cells.lookup x = some c → c ≠ it) (h3 : ∀ p ∈ X.pn ++ pins, p.1 ≠ it) : Inv X pins σ H { s with heap := h', toks := t' } := by
  have nit : ∀ b u, H b = some u → b ≠ it := fun b u e z => by rw [z, hn] at e; cases e
  refine I.step (g' := s.gens) (d' := s.drawn) (ch := [it]) (fun b hb => ?_) (fun b o _ _ hc e _ => k b o (fun z => hc (by simp [z])) e) (fun b o _ _ hc e _ => ⟨o.slots, k b o (fun z => hc (by simp [z])) e⟩) (fun _ _ _ _ n => n)
    (fun b o hc e => ⟨o, k b o (fun z => hc (by simp [z])) e⟩) (fun _ _ e => e) (fun _ _ _ e => e) (fun b ps e => ⟨#[], by rw [e]; simp⟩) (fun m hm => ?_) (fun b u e => ?_) I.bare
  · have e : b = it := by simpa using hb
    subst e
    exact ⟨h1, hL, h2, h3⟩
  · obtain ⟨o, es, ep, ho, r⟩ := hm
    exact ⟨o, es, ep, k _ o (Ne.symm hL) ho, r⟩
  · refine (I.hok b u e).stay (fun c v hc q => k c v ?_ q) (fun _ q => q) fun _ _ q => q
    rcases hc with z | z
    · rw [z]; exact nit b u e
    · exact nit c _ z
theorem Inv.tok (I : Inv X pins σ H s) (t : Nat) : Inv X pins σ H { s with toks := t } := I.un (h' := s.heap) (t' := t) Un.refl I.hok
/-- all objects kept -/
theorem Inv.kept {t' : Nat} (I : Inv X pins σ H s) (k : ∀ b u, s.heap.get? b = some u → h'.get? b = some u) : Inv X pins σ H { s with heap := h', toks := t' } := I.un (Un.kept k) (I.hok.kept k)
/-- a new object laid and tracked -/
theorem Inv.laid {a : Addr} {o : HO} {t' : Nat} (I : Inv X pins σ H s) (k : ∀ b u, s.heap.get? b = some u → h'.get? b = some u) (hp : s.heap.objs.size ≤ a) (new : ObjOk X.prog X.w (upd H a o) h' a o) :
    Inv X pins σ (upd H a o) { s with heap := h', toks := t' } := I.un (Un.laid k hp (I.hok.fresh hp)) (I.hok.laid k hp new)
/-- an object written -/
theorem Inv.write {x e : Addr} {o : HO} {t' : Nat} (I : Inv X pins σ H s) (mu : Mut (H x)) (he : e = x ∨ H e = some (.own x)) (k : ∀ b u, b ≠ e → s.heap.get? b = some u → h'.get? b = some u) (heo : ∃ u, h'.get? e = some u)
    (new : ObjOk X.prog X.w (upd H x o) h' x o) : Inv X pins σ (upd H x o) { s with heap := h', toks := t' } := I.un (Un.write mu he k heo) (I.hok.write mu he k heo new)
theorem Inv.pins_of {pins' : List (Addr × Obj)} (I : Inv X pins σ H s) (h : ∀ p ∈ pins', s.heap.get? p.1 = some p.2 ∧ H p.1 = none ∧ p.1 ≠ X.env.locals ∧ p.1 ∉ X.fs ∧ ∀ v, p.2.data ≠ .cell v) : Inv X pins' σ H s :=
  ⟨I.ok, I.os, I.bare, I.base, I.loc, I.cell, I.free, I.freeC, fun p hp => (List.mem_append.mp hp).elim (fun z => I.pin p (List.mem_append_left _ z)) (h p), I.hok, I.len⟩

theorem nodup_ix {N : List Str} (hN : N.Nodup) {i j : Nat} {x : Str} (a : N[i]? = some x) (b : N[j]? = some x) : i = j := by
  obtain ⟨h1, e1⟩ := List.getElem?_eq_some_iff.mp a
  obtain ⟨h2, e2⟩ := List.getElem?_eq_some_iff.mp b
  exact (List.getElem_inj hN).mp (e1.trans e2.symm)

/-- a name is stored; what changed -/
theorem store_ok2 {M : Model} {A : Around} {E : Value → Shared → Prop} {i : Nat} {x : Str} {v : V} {u : Value} {Q : Unit → Shared → Prop} (I : Inv X pins σ H s) (hN : X.N.Nodup) (hi : X.N[i]? = some x) (hx : Loc X.env.scope x) (r : RelV v u)
    (h : ∀ s', Inv X pins (σ.set i (some v)) H s' → (∃ a, Heap.SameBut a s.heap s'.heap ∧ (a = X.env.locals ∨ X.env.cells.lookup x = some a)) → Q () s') (hf : X.fn x = true ∨ X.env.scope.names.lookup x = some .local := by first | exact .inl rfl | exact .inr rfl | assumption) : wpAny M A (storeName X.env x u) Q E s := by
  obtain ⟨m, hn, hl⟩ := id I.loc
  have hcls : (X.env.scope.kind == .class || (X.env.scope.kind == .module && X.env.locals != X.env.globals)) = false := by rw [I.ok.kind]; rfl
  have hiσ : i < σ.length := by rw [I.len]; exact (List.getElem?_eq_some_iff.mp hi).1
  have cne := I.cne
  have tracked : ∀ {a : Addr} {h' : Heap}, (∃ o, s.heap.get? a = some o ∧ H a = none) → Heap.SameBut a s.heap h' → HOk X.prog X.w H h' := fun {a h'} ha hs b ob e => by
    obtain ⟨_, _, hfree⟩ := ha
    refine (I.hok b ob e).stay (fun c w' hc q => (hs.2 c ?_).trans q) (fun _ q => q) fun _ _ q => q
    rintro rfl
    rcases hc with rfl | hc
    · rw [hfree] at e; cases e
    · rw [hfree] at hc; cases hc
  rcases hx with hk | hk
  · refine wpAny_storeName_local hk hn (fun h' hn' hs => ?_) hcls
    obtain ⟨oL, _, _, hoL, _⟩ := id hn
    refine h _ ⟨I.ok, I.os, I.bare, ⟨fun b o e n hb hx => ?_, fun b o e n hb hx => ?_, I.base.free, fun b o e hx => ?_, I.base.tups, I.base.frzs, I.base.tbls⟩, ⟨_, hn', fun j y v' e1 e2 e3 => ?_⟩, fun y c e => ?_, I.free, I.freeC, fun p hp => ?_, tracked ⟨oL, hoL, I.free⟩ hs, by simpa using I.len⟩ ⟨_, hs, .inl rfl⟩
    · exact (hs.2 b (Nat.ne_of_lt (Nat.lt_of_lt_of_le (Heap.lt_size e) I.ok.above))).trans (I.base.keep b o e n hb hx)
    · obtain ⟨sl, e1⟩ := I.base.slot b o e n hb hx
      exact ⟨sl, (hs.2 b (Nat.ne_of_lt (Nat.lt_of_lt_of_le (Heap.lt_size e) I.ok.above))).trans e1⟩
    · obtain ⟨o', e1⟩ := I.base.there b o e hx
      exact ⟨o', (hs.2 b (Nat.ne_of_lt (Nat.lt_of_lt_of_le (Heap.lt_size e) I.ok.above))).trans e1⟩
    · by_cases hj : j = i
      · subst hj
        rw [hi] at e1; cases e1
        rw [List.getElem?_set_self hiσ] at e2
        cases e2
        exact ⟨u, r, .inl ⟨hk, by simp⟩⟩
      · rw [List.getElem?_set_ne (Ne.symm hj)] at e2
        obtain ⟨u', r', q⟩ := hl j y v' e1 e2 e3
        refine ⟨u', r', ?_⟩
        rcases q with ⟨k, e⟩ | ⟨k, c, e, z⟩
        · refine .inl ⟨k, ?_⟩
          have : y ≠ x := fun e => hj (nodup_ix hN e1 (e ▸ hi))
          simp [this, e]
        · exact .inr ⟨k, c, e, z.sameBut hs (cne y c e)⟩
    · obtain ⟨w', z⟩ := I.cell y c e
      exact ⟨w', z.sameBut hs (cne y c e)⟩
    · obtain ⟨e, n, ne, nf, d⟩ := I.pin p hp
      exact ⟨(hs.2 p.1 ne).trans e, n, ne, nf, d⟩
  · have hfn : X.fn x = true := by
      rcases hf with z | z
      · exact z
      · rw [z] at hk; cases hk
    obtain ⟨c, hc⟩ := I.ok.has x (.inl hk)
    obtain ⟨w', z⟩ := I.cell x c hc
    refine wpAny_storeName_cell I.ok.kind hk hc z (fun h' hc' hs => ?_)
    obtain ⟨oc, hoc, hocd⟩ := id z
    refine h { s with heap := h' } ⟨I.ok, I.os, I.bare, ⟨fun b o e n hb hx => ?_, fun b o e n hb hx => ?_, I.base.free, fun b o e hx => ?_, I.base.tups, I.base.frzs, I.base.tbls⟩, ⟨m, hn.sameBut hs (Ne.symm (cne x c hc)), fun j y v' e1 e2 e3 => ?_⟩, fun y c' e => ?_, I.free, I.freeC, fun p hp => ?_, tracked ⟨oc, hoc, I.freeC x c hc⟩ hs, by simpa using I.len⟩ ⟨c, hs, .inr hc⟩
    · exact (hs.2 b (Nat.ne_of_lt (Nat.lt_of_lt_of_le (Heap.lt_size e) (I.ok.cab x c hfn hc)))).trans (I.base.keep b o e n hb hx)
    · obtain ⟨sl, e1⟩ := I.base.slot b o e n hb hx
      exact ⟨sl, (hs.2 b (Nat.ne_of_lt (Nat.lt_of_lt_of_le (Heap.lt_size e) (I.ok.cab x c hfn hc)))).trans e1⟩
    · obtain ⟨o', e1⟩ := I.base.there b o e hx
      exact ⟨o', (hs.2 b (Nat.ne_of_lt (Nat.lt_of_lt_of_le (Heap.lt_size e) (I.ok.cab x c hfn hc)))).trans e1⟩
    · by_cases hj : j = i
      · subst hj
        rw [hi] at e1; cases e1
        rw [List.getElem?_set_self hiσ] at e2
        cases e2
        exact ⟨u, r, .inr ⟨.inl hk, c, hc, hc'⟩⟩
      · rw [List.getElem?_set_ne (Ne.symm hj)] at e2
        obtain ⟨u', r', q⟩ := hl j y v' e1 e2 e3
        refine ⟨u', r', ?_⟩
        rcases q with q | ⟨k, c', e, z'⟩
        · exact .inl q
        · refine .inr ⟨k, c', e, z'.sameBut hs ?_⟩
          rintro rfl
          exact hj (nodup_ix hN e1 (I.ok.inj _ _ _ e hc ▸ hi))
    · by_cases hcc : c' = c
      · subst hcc; exact ⟨_, hc'⟩
      · obtain ⟨w2, z2⟩ := I.cell y c' e
        exact ⟨w2, z2.sameBut hs hcc⟩
    · obtain ⟨e, n, ne, nf, d⟩ := I.pin p hp
      refine ⟨(hs.2 p.1 ?_).trans e, n, ne, nf, d⟩
      intro q
      rw [q, hoc] at e
      have q' : oc = p.2 := Option.some.inj e
      exact d w' (by rw [← q']; exact hocd)
theorem store_ok {M : Model} {A : Around} {E : Value → Shared → Prop} {i : Nat} {x : Str} {v : V} {u : Value} {Q : Unit → Shared → Prop} (I : Inv X pins σ H s) (hN : X.N.Nodup) (hi : X.N[i]? = some x) (hx : Loc X.env.scope x) (r : RelV v u)
    (h : ∀ s', Inv X pins (σ.set i (some v)) H s' → Q () s') (hf : X.fn x = true ∨ X.env.scope.names.lookup x = some .local := by first | exact .inl rfl | exact .inr rfl | assumption) : wpAny M A (storeName X.env x u) Q E s :=
  store_ok2 I hN hi hx r (fun s' I' _ => h s' I') hf
/-- behind a call or a block, the state as it is -/
theorem Inv.call' {s' : Shared} {ch : List Addr} (I : Inv X pins σ H s) (ho : s'.os = s.os) (u : Un (frs X.stack) ch H H' s.heap s'.heap) (hok : HOk X.prog X.w H' s'.heap) (hg : AllBare s'.gens)
    (hch : ∀ b ∈ ch, (b ∈ X.ex ∨ X.s₀.heap.objs.size ≤ b) ∧ b ≠ X.env.locals ∧ (∀ x c, X.env.cells.lookup x = some c → c ≠ b) ∧ ∀ p ∈ X.pn ++ pins, p.1 ≠ b) : Inv X pins σ H' s' := by
  obtain ⟨h', g', d', t', o'⟩ := s'
  have e : o' = s.os := ho
  subst e
  exact I.call (g' := g') (t' := t') (d' := d') u hok hg hch
end

/-! ### the judgements -/
/-- an exception: its class, its own dict's address (where it has one), the abstract heap behind it -/
abbrev XK := Value → Option Addr → Hp → Prop
abbrev St := List (Option V)
abbrev VK := V → Hp → Prop
/-- an expression's reading; a test's; an argument list's -/
abbrev TE := St → Hp → VK → Prop
abbrev TT := St → Hp → (Bool → Hp → Prop) → Prop
abbrev TA := St → Hp → (List V → Hp → Prop) → Prop
/-- what is wanted behind a statement -/
structure Ends where
  nx : St → Hp → Prop
  rt : VK
  bk : St → Hp → Prop := fun _ _ => False
  ct : St → Hp → Prop := fun _ _ => False
abbrev TS := Ends → St → Hp → Prop

def EP (X : Cx) (pins : List (Addr × Obj)) (σ : St) (Q : VK) (u : Value) (s' : Shared) : Prop := ∃ v H', Inv X pins σ H' s' ∧ RelV v u ∧ Q v H'
def TP (X : Cx) (pins : List (Addr × Obj)) (σ : St) (Q : Bool → Hp → Prop) (b : Bool) (s' : Shared) : Prop := ∃ H', Inv X pins σ H' s' ∧ Q b H'
def AP (X : Cx) (pins : List (Addr × Obj)) (σ : St) (Q : List V → Hp → Prop) (us : List Value) (s' : Shared) : Prop := ∃ vs H', Inv X pins σ H' s' ∧ Vals vs us ∧ Q vs H'
def SP (X : Cx) (pins : List (Addr × Obj)) (D : Ends) (f : Flow) (s' : Shared) : Prop :=
  match f with
  | .next => ∃ σ' H', Inv X pins σ' H' s' ∧ D.nx σ' H'
  | .brk => ∃ σ' H', Inv X pins σ' H' s' ∧ D.bk σ' H'
  | .cont => ∃ σ' H', Inv X pins σ' H' s' ∧ D.ct σ' H'
  | .ret u => ∃ v σ' H', Inv X pins σ' H' s' ∧ RelV v u ∧ D.rt v H'

def PE (X : Cx) (e : Expr) (t : TE) : Prop :=
  ∀ (pins : List (Addr × Obj)) (s : Shared) (σ : St) (H : Hp) (Q : VK), Inv X pins σ H s → t σ H Q → wpAny (model X.prog X.w) X.A (eval e X.env) (EP X pins σ Q) X.xe s
def PT (X : Cx) (e : Expr) (t : TT) : Prop :=
  ∀ (pins : List (Addr × Obj)) (s : Shared) (σ : St) (H : Hp) (Q : Bool → Hp → Prop), Inv X pins σ H s → t σ H Q → wpAny (model X.prog X.w) X.A (isTrue e X.env (eval e X.env)) (TP X pins σ Q) X.xe s
/-- a test whatever its 'whole' is (and, or) -/
def PW (X : Cx) (e : Expr) (t : TT) : Prop :=
  ∀ (whole : Sem Value) (pins : List (Addr × Obj)) (s : Shared) (σ : St) (H : Hp) (Q : Bool → Hp → Prop), Inv X pins σ H s → t σ H Q → wpAny (model X.prog X.w) X.A (isTrue e X.env whole) (TP X pins σ Q) X.xe s
theorem PW.pt {X : Cx} {e : Expr} {t : TT} (h : PW X e t) : PT X e t := h _
/-- an argument list (no star), from the left -/
def PA (X : Cx) (es : List Expr) (t : TA) : Prop :=
  ∀ (pos : Pos) (pins : List (Addr × Obj)) (s : Shared) (σ : St) (H : Hp) (Q : List V → Hp → Prop), Inv X pins σ H s → t σ H Q → wpAny (model X.prog X.w) X.A (spliced (backTo pos (starEach es X.env))) (AP X pins σ Q) X.xe s
def PS (X : Cx) (st : Stmt) (t : TS) : Prop :=
  ∀ (pins : List (Addr × Obj)) (s : Shared) (σ : St) (H : Hp) (D : Ends), Inv X pins σ H s → t D σ H → wpAny (model X.prog X.w) X.A (exec st X.env) (SP X pins D) X.xe s
def PSs (X : Cx) (st : List Stmt) (t : TS) : Prop :=
  ∀ (pins : List (Addr × Obj)) (s : Shared) (σ : St) (H : Hp) (D : Ends), Inv X pins σ H s → t D σ H → wpAny (model X.prog X.w) X.A (execs st X.env) (SP X pins D) X.xe s
/-- weaken the end -/
theorem thn {α : Type} {t : Sem α} {Q Q' : α → Shared → Prop} {M : Model} {A : Around} {E : Value → Shared → Prop} {s : Shared} (h : wpAny M A t Q E s) (hQ : ∀ a s, Q a s → Q' a s) : wpAny M A t Q' E s := wpAny_mono h hQ fun _ _ x => x
end L2

namespace L2
open PySem PySem.Spec PyProof.Rows
section
variable {X : Cx}

/-! ### names and constants -/
def tVar (i : Nat) : TE := fun σ H Q => ∃ v, σ[i]? = some (some v) ∧ Q v H
def tC (v : V) : TE := fun _ H Q => Q v H
theorem pe_var {i : Nat} {x : Str} {pos : Pos} (hN : X.N[i]? = some x) (hv : Vis X.env.scope x) (hd : (x == ("__debug__" : Str)) = false := by decide) (hcd : (x == ("__classdict__" : Str)) = false := by decide) : PE X (.Name x pos) (tVar i) := by
  intro pins s σ H Q I h
  obtain ⟨v, e, h⟩ := h
  obtain ⟨m, hn, hl⟩ := I.loc
  obtain ⟨u, r, l⟩ := hl i x v hN e hv
  have fin : EP X pins σ Q u s := ⟨v, H, I, r, h⟩
  rcases l with ⟨hk, hm⟩ | ⟨hk, c, hc, hcell⟩
  · exact wpAny_Name (wpAny_loadName_local I.ok.kind hk hn hm fin) hd
  · rcases hk with hk | hk
    · exact wpAny_Name (wpAny_loadName_cell I.ok.kind hk hc hcell fin) hd
    · exact wpAny_Name (wpAny_loadName_free I.ok.kind hk hc hcell fin hcd) hd
theorem pe_int {i j pos} : PE X (.Constant (.int i) j pos) (tC (.int i)) := fun _ _ _ H _ I h => wpAny_Constant_int ⟨.int i, H, I.tok _, ⟨_, rfl⟩, h⟩
theorem pe_bl {b j pos} : PE X (.Constant (.bool b) j pos) (tC (.bl b)) := fun _ _ _ H _ I h => Constant_bool ⟨.bl b, H, I, rfl, h⟩
theorem pe_non {j pos} : PE X (.Constant .none j pos) (tC .non) := fun _ _ _ H _ I h => Constant_none ⟨.non, H, I, rfl, h⟩
theorem pe_str {x j pos} : PE X (.Constant (.str x) j pos) (tC (.str x)) := fun _ _ _ H _ I h => Calls.Constant_str ⟨.str x, H, I.tok _, ⟨_, rfl⟩, h⟩

/-- a global name of the def -/
def Gl (X : Cx) (x : Str) : Prop := X.env.kindOf x = some .globalImplicit
theorem ld_glob {E : Value → Shared → Prop} {pins : List (Addr × Obj)} {s : Shared} {σ : St} {H : Hp} {x : Str} {u : Value} {pos : Pos} {Q : Value → Shared → Prop} (I : Inv X pins σ H s) (hg : Gl X x) (hm : X.mg x = some u) (h : Q u s)
    (hd : (x == ("__debug__" : Str)) = false := by decide) : wpAny (model X.prog X.w) X.A (eval (.Name x pos) X.env) Q E s :=
  Calls.Name_function_global I.ok.kind hg (Calls.loadGlobal_global (by rw [I.ok.glob]; exact I.mod.glob.keeps I.bk) hm h) hd
theorem ld_blt {E : Value → Shared → Prop} {pins : List (Addr × Obj)} {s : Shared} {σ : St} {H : Hp} {x : Str} {u : Value} {pos : Pos} {Q : Value → Shared → Prop} (I : Inv X pins σ H s) (hg : Gl X x) (hm : X.mg x = none) (hv : bootBuiltins x = some u) (h : Q u s)
    (hn : x ≠ "__name__" := by decide) (hd : (x == ("__debug__" : Str)) = false := by decide) : wpAny (model X.prog X.w) X.A (eval (.Name x pos) X.env) Q E s := by
  obtain ⟨mb, h1, h2⟩ := I.mod.blt
  exact Calls.Name_function_global I.ok.kind hg (Calls.loadGlobal_builtin (by rw [I.ok.glob]; exact I.mod.glob.keeps I.bk) hm (by rw [I.ok.blt]; exact h1.keeps I.bk) ((h2 x hn).trans hv) h) hd
/-- a module's constant, a class, a function, as a value -/
theorem pe_glob {x : Str} {v : V} {u : Value} {pos : Pos} (hg : Gl X x) (hm : X.mg x = some u) (r : RelV v u) (hd : (x == ("__debug__" : Str)) = false := by decide) : PE X (.Name x pos) (tC v) :=
  fun _ _ _ H _ I h => ld_glob I hg hm ⟨v, H, I, r, h⟩ hd
theorem pe_bltn {x : Str} {v : V} {u : Value} {pos : Pos} (hg : Gl X x) (hm : X.mg x = none) (hv : bootBuiltins x = some u) (r : RelV v u) (hn : x ≠ "__name__" := by decide) (hd : (x == ("__debug__" : Str)) = false := by decide) : PE X (.Name x pos) (tC v) :=
  fun _ _ _ H _ I h => ld_blt I hg hm hv ⟨v, H, I, r, h⟩ hn hd

/-! ### arithmetic -/
variable {a b : Expr} {ta tb : TE} {pos : Pos}
/-! ### comparisons -/
def PC (X : Cx) (op : CmpOp) (a b : Expr) (t : TE) : Prop :=
  ∀ (pins : List (Addr × Obj)) (s : Shared) (σ : St) (H : Hp) (Q : VK), Inv X pins σ H s → t σ H Q →
    wpAny (model X.prog X.w) X.A (eval a X.env) (fun v s₁ => wpAny (model X.prog X.w) X.A (eval b X.env) (fun u s₂ => wpAny (model X.prog X.w) X.A (compareOp op v u) (EP X pins σ Q) X.xe s₂) X.xe s₁) X.xe s
/-- a comparison as a value, as a test -/
def tB (t : TE) : TT := fun σ H Q => t σ H fun x H1 => ∃ c, x = .bl c ∧ Q c H1
theorem pt_cmp {op : CmpOp} {t : TE} (h : PC X op a b t) (h1 : behindInMarks op b = false := by first | exact nobehind _ (by decide) (by decide) | rfl) : PT X (.Compare a [op] [b] pos) (tB t) := by
  intro pins s σ H Q I hw
  refine wpAny_isTrue_Compare1 (thn (h pins s σ H _ I hw) fun v s1 h1 => thn h1 fun u s2 h2 => thn h2 fun c s3 ⟨x, H1, I1, r1, q1⟩ => ?_) h1
  obtain ⟨d, rfl, q⟩ := q1
  cases r1
  exact wpAny_truthy_bool ⟨H1, I1, q⟩
/-- an expression whose value is a bool, as a test -/
theorem pt_val {e : Expr} {t : TE} (h : PE X e t) (he : ∀ whole, isTrue e X.env whole = (do let v ← whole; standAt e.pos; holding [v] (truthy v)) := by intro _; rfl) : PT X e (tB t) := by
  intro pins s σ H Q I hw
  refine isTrue_plain (thn (h pins s σ H _ I hw) fun v s1 ⟨x, H1, I1, r1, q1⟩ => ?_) (he _)
  obtain ⟨d, rfl, q⟩ := q1
  cases r1
  exact wpAny_truthy_bool ⟨H1, I1, q⟩

/-! ### and, or, not -/
variable {tA tB' : TT} {rest : List Expr}
def tAnd (t u : TT) : TT := fun σ H Q => t σ H fun c H1 => if c = true then u σ H1 Q else Q false H1
def tOr (t u : TT) : TT := fun σ H Q => t σ H fun c H1 => if c = true then Q true H1 else u σ H1 Q
def tNot (t : TT) : TT := fun σ H Q => t σ H fun c H1 => Q (!c) H1
theorem pw_and1 (ha : PT X a tA) : PW X (.BoolOp .And [a] pos) tA := by
  intro wh pins s σ H Q I h
  refine isTrue_and (thn (ha pins s σ H Q I h) fun c s1 e => ?_)
  cases c with
  | true => exact isTrue_and_nil e
  | false => exact e
theorem pw_or1 (ha : PT X a tA) : PW X (.BoolOp .Or [a] pos) tA := by
  intro wh pins s σ H Q I h
  refine isTrue_or (thn (ha pins s σ H Q I h) fun c s1 e => ?_)
  cases c with
  | false => exact isTrue_or_nil e
  | true => exact e
theorem pw_and (ha : PT X a tA) (hb : PW X (.BoolOp .And (b :: rest) pos) tB') : PW X (.BoolOp .And (a :: b :: rest) pos) (tAnd tA tB') := by
  intro wh pins s σ H Q I h
  refine isTrue_and (thn (ha pins s σ H _ I h) fun c s1 ⟨H1, I1, q1⟩ => ?_)
  cases c with
  | true => exact hb wh pins s1 σ H1 Q I1 q1
  | false => exact ⟨H1, I1, q1⟩
theorem pw_or (ha : PT X a tA) (hb : PW X (.BoolOp .Or (b :: rest) pos) tB') : PW X (.BoolOp .Or (a :: b :: rest) pos) (tOr tA tB') := by
  intro wh pins s σ H Q I h
  refine isTrue_or (thn (ha pins s σ H _ I h) fun c s1 ⟨H1, I1, q1⟩ => ?_)
  cases c with
  | true => exact ⟨H1, I1, q1⟩
  | false => exact hb wh pins s1 σ H1 Q I1 q1
theorem pt_not (ha : PT X a tA) : PT X (.UnaryOp .Not a pos) (tNot tA) := by
  intro pins s σ H Q I h
  exact isTrue_not (ha pins s σ H (fun c H1 => Q (!c) H1) I h)
/-- .. as values (bools) -/
def tAndV (ta tb : TE) : TE := fun σ H Q => ta σ H fun x H1 => ∃ c, x = .bl c ∧ if c = true then tb σ H1 Q else Q (.bl false) H1
def tNotV (ta : TE) : TE := fun σ H Q => ta σ H fun x H1 => ∃ c, x = .bl c ∧ Q (.bl (!c)) H1
theorem pe_one {op} {t : TE} (h : PE X a t) : PE X (.BoolOp op [a] pos) t := fun pins s σ H Q I hw => BoolOp_one (h pins s σ H Q I hw)
theorem pe_and (ha : PE X a ta) (hb : PE X (.BoolOp .And (b :: rest) pos) tb) : PE X (.BoolOp .And (a :: b :: rest) pos) (tAndV ta tb) := by
  intro pins s σ H Q I h
  refine BoolOp_and (thn (ha pins s σ H _ I h) fun v s1 ⟨x, H1, I1, r1, q1⟩ => ?_)
  obtain ⟨c, rfl, q1⟩ := q1
  cases r1
  refine wpAny_truthy_bool ?_
  cases c with
  | true => exact hb pins s1 σ H1 Q I1 q1
  | false => exact ⟨.bl false, H1, I1, rfl, q1⟩
theorem pe_not (ha : PE X a ta) : PE X (.UnaryOp .Not a pos) (tNotV ta) := by
  intro pins s σ H Q I h
  refine UnaryOp_ (thn (ha pins s σ H _ I h) fun v s1 ⟨x, H1, I1, r1, q1⟩ => ?_)
  obtain ⟨c, rfl, q1⟩ := q1
  cases r1
  exact not_of (wpAny_truthy_bool ⟨.bl (!c), H1, I1, rfl, q1⟩)
/-- a if t else b -/
def tIf (t : TT) (ta tb : TE) : TE := fun σ H Q => t σ H fun c H1 => if c = true then ta σ H1 Q else tb σ H1 Q
theorem pe_ifExp {c : Expr} (hc : PT X c tA) (ha : PE X a ta) (hb : PE X b tb) : PE X (.IfExp c a b pos) (tIf tA ta tb) := by
  intro pins s σ H Q I h
  refine wpAny_IfExp (thn (hc pins s σ H _ I h) fun d s1 ⟨H1, I1, q1⟩ => ?_)
  cases d with
  | true => exact ha pins s1 σ H1 Q I1 q1
  | false => exact hb pins s1 σ H1 Q I1 q1
end
end L2

namespace L2
open PySem PySem.Spec PyProof.Rows

/-! ### a list, a tuple that is read: tracked, frozen, or an object of the module -/
def SqL (K : PySem.W.Frag) (H : Hp) (a : Addr) (xs : List V) : Prop :=
  Rd H a (.lst xs) ∨
    ∃ (o : Obj) (its : Array Value) (n : Nat), K.lookup a = some o ∧ o.cls = .type "list" ∧ o.dict = none ∧ o.data = .seq its n ∧ its.size ≤ sizeLine ∧ Vals xs its.toList
def SqT (K : PySem.W.Frag) (H : Hp) (a : Addr) (xs : List V) : Prop :=
  Rd H a (.tup xs) ∨
    ∃ (o : Obj) (its : Array Value) (n : Nat), K.lookup a = some o ∧ o.cls = .type "tuple" ∧ o.data = .seq its n ∧ its.size ≤ sizeLine ∧ Vals xs its.toList
def absV : Value → Option V
  | .none => some .non
  | .bool b => some (.bl b)
  | .int i _ => some (.int i)
  | .str x _ => some (.str x)
  | .bytes b _ => some (.byt b)
  | .float b _ => some (.flt b)
  | .ref a => some (.ref a)
  | .type n => some (.ty n)
  | _ => none
theorem RelV.abs {x : V} {u : Value} (r : RelV x u) : absV u = some x := by
  cases x with
  | non => cases r; rfl
  | bl _ => cases r; rfl
  | int _ => obtain ⟨t, rfl⟩ := r; rfl
  | str _ => obtain ⟨t, rfl⟩ := r; rfl
  | byt _ => obtain ⟨t, rfl⟩ := r; rfl
  | flt _ => obtain ⟨t, rfl⟩ := r; rfl
  | ref _ => cases r; rfl
  | ty _ => cases r; rfl
theorem RelV.inj {x y : V} {u : Value} (r : RelV x u) (q : RelV y u) : x = y := Option.some.inj (r.abs.symm.trans q.abs)
theorem Vals.inj : ∀ {xs ys : List V} {us : List Value}, Vals xs us → Vals ys us → xs = ys
  | _, _, _, .nil, .nil => rfl
  | _, _, _, .cons r t, .cons r' t' => by rw [r.inj r', Vals.inj t t']
section
variable {X : Cx} {pins : List (Addr × Obj)} {σ : St} {H : Hp} {s : Shared} {a : Addr} {xs ys : List V}
theorem SqL.of {K : PySem.W.Frag} (h : H a = some (.lst xs)) : SqL K H a xs := .inl (.inl h)
theorem SqT.of {K : PySem.W.Frag} (h : H a = some (.tup xs)) : SqT K H a xs := .inl (.inl h)
theorem Inv.list (I : Inv X pins σ H s) (h : SqL X.K H a xs) : ∃ its : List Value, Vals xs its ∧ PlainL s.heap a its.toArray ∧ xs.length ≤ sizeLine := by
  rcases h with h | ⟨o, its, n, hk, hc, hd, hs, hz, r⟩
  · obtain ⟨z, its, n, r, e⟩ := h.ok I.hok
    exact ⟨its, r, ⟨_, n, e, rfl, rfl, rfl⟩, z⟩
  · refine ⟨its.toList, r, ⟨o, n, I.kIn a o hk, hc, hd, by simpa using hs⟩, ?_⟩
    have e := r.length
    simp only [Array.length_toList] at e
    omega
theorem Inv.tuple (I : Inv X pins σ H s) (h : SqT X.K H a xs) : ∃ its : List Value, Vals xs its ∧ IsTup s.heap a its.toArray ∧ xs.length ≤ sizeLine := by
  rcases h with h | ⟨o, its, n, hk, hc, hs, hz, r⟩
  · obtain ⟨z, its, r, p⟩ := h.ok I.hok
    exact ⟨its, r, p, z⟩
  · refine ⟨its.toList, r, ⟨o, I.kIn a o hk, hc, n, by simpa using hs⟩, ?_⟩
    have e := r.length
    simp only [Array.length_toList] at e
    omega
theorem Inv.list_inj (I : Inv X pins σ H s) (h : SqL X.K H a xs) (h' : SqL X.K H a ys) : xs = ys := by
  obtain ⟨its, r, ⟨o, n, e, _, _, d⟩, _⟩ := I.list h
  obtain ⟨its', r', ⟨o', n', e', _, _, d'⟩, _⟩ := I.list h'
  rw [e] at e'; cases e'
  rw [d] at d'
  injection d' with d1 _
  have : its = its' := by simpa using congrArg Array.toList d1
  subst this
  exact r.inj r'
theorem Inv.tuple_inj (I : Inv X pins σ H s) (h : SqT X.K H a xs) (h' : SqT X.K H a ys) : xs = ys := by
  obtain ⟨its, r, ⟨o, e, _, n, d⟩, _⟩ := I.tuple h
  obtain ⟨its', r', ⟨o', e', _, n', d'⟩, _⟩ := I.tuple h'
  rw [e] at e'; cases e'
  rw [d] at d'
  injection d' with d1 _
  have : its = its' := by simpa using congrArg Array.toList d1
  subst this
  exact r.inj r'
end

/-! ### another wish about exceptions -/
abbrev Cx.wish (X : Cx) (E : Value → Shared → Prop) : Cx := { X with xe := E }
/-- no exception leaves -/
abbrev Cx.nox (X : Cx) : Cx := X.wish fun _ _ => False
theorem Cx.Ok.wish {X : Cx} (ok : X.Ok) (E : Value → Shared → Prop) : (X.wish E).Ok :=
  ⟨ok.mod, ok.kind, ok.glob, ok.blt, ok.above, ok.inj, ok.has, ok.cab, ok.hd, ok.frames, ok.stk, ok.exf, ok.bs, ok.bsz, ok.noex, ok.exfs, ok.funs, ok.frf⟩
theorem Cx.Ok.unwish {X : Cx} {E : Value → Shared → Prop} (ok : (X.wish E).Ok) : X.Ok :=
  ⟨ok.mod, ok.kind, ok.glob, ok.blt, ok.above, ok.inj, ok.has, ok.cab, ok.hd, ok.frames, ok.stk, ok.exf, ok.bs, ok.bsz, ok.noex, ok.exfs, ok.funs, ok.frf⟩
section
variable {X : Cx} {pins : List (Addr × Obj)} {σ : St} {H : Hp} {s : Shared} {E : Value → Shared → Prop}
theorem Inv.wish (I : Inv X pins σ H s) (E : Value → Shared → Prop) : Inv (X.wish E) pins σ H s := ⟨I.ok.wish E, I.os, I.bare, I.base, I.loc, I.cell, I.free, I.freeC, I.pin, I.hok, I.len⟩
theorem Inv.unwish (I : Inv (X.wish E) pins σ H s) : Inv X pins σ H s := ⟨I.ok.unwish, I.os, I.bare, I.base, I.loc, I.cell, I.free, I.freeC, I.pin, I.hok, I.len⟩
theorem SP.unwish {D : Ends} {f : Flow} {s' : Shared} (h : SP (X.wish E) pins D f s') : SP X pins D f s' := by
  cases f with
  | next => obtain ⟨σ', H', I, q⟩ := h; exact ⟨σ', H', I.unwish, q⟩
  | brk => obtain ⟨σ', H', I, q⟩ := h; exact ⟨σ', H', I.unwish, q⟩
  | cont => obtain ⟨σ', H', I, q⟩ := h; exact ⟨σ', H', I.unwish, q⟩
  | ret u => obtain ⟨v, σ', H', I, r, q⟩ := h; exact ⟨v, σ', H', I.unwish, r, q⟩
theorem PSs.nox {st : List Stmt} {t : TS} (h : PSs X.nox st t) : PSs X st t := fun pins s σ H D I hw =>
  wpAny_mono (h pins s σ H D (I.wish _) hw) (fun _ _ q => q.unwish) fun _ _ z => False.elim z
end

/-! ### blocks and small statements -/
section
variable {X : Cx} {st : Stmt} {rest : List Stmt} {t u : TS} {e : Expr} {te : TE} {pos : Pos}
def tNext : TS := fun D σ H => D.nx σ H
def tSeq (t u : TS) : TS := fun D σ H => t { D with nx := u D } σ H
theorem pss_nil : PSs X [] tNext := fun _ _ σ H _ I h => wpAny_execs_nil ⟨σ, H, I, h⟩
theorem pss_cons (h1 : PS X st t) (h2 : PSs X rest u) : PSs X (st :: rest) (tSeq t u) := by
  intro pins s σ H D I h
  refine wpAny_execs_cons (thn (h1 pins s σ H { D with nx := u D } I h) fun f s1 q => ?_)
  cases f with
  | next =>
    obtain ⟨σ', H', I', q⟩ := q
    exact h2 pins s1 σ' H' D I' q
  | ret v => exact q
  | brk => exact q
  | cont => exact q
theorem pss_one (h1 : PS X st t) : PSs X [st] t := by
  intro pins s σ H D I h
  refine wpAny_execs_cons (thn (h1 pins s σ H D I h) fun f s1 q => ?_)
  cases f with
  | next => exact wpAny_execs_nil q
  | ret v => exact q
  | brk => exact q
  | cont => exact q
/-- in a def's body nothing is shown -/
theorem Inv.quiet {pins : List (Addr × Obj)} {σ : St} {H : Hp} {s : Shared} (I : Inv X pins σ H s) : interactive X.env = false := by simp [interactive, I.ok.kind]
/-- an expression whose value is dropped -/
def tDrop (te : TE) : TS := fun D σ H => te σ H fun _ H1 => D.nx σ H1
theorem ps_expr (he : PE X e te) (hs : swapsWith e none pos.line X.env = pure false := by rfl) : PS X (.Expr e pos) (tDrop te) := by
  intro pins s σ H D I h
  exact wpAny_Expr_any (thn (he pins s σ H _ I h) fun v s1 ⟨x, H1, I1, r1, q1⟩ => ⟨σ, H1, I1, q1⟩) I.quiet hs
def tRet (te : TE) : TS := fun D σ H => te σ H D.rt
theorem ps_ret (he : PE X e te) : PS X (.Return (some e) pos) (tRet te) := by
  intro pins s σ H D I h
  exact wpAny_Return_some (thn (he pins s σ H _ I h) fun v s1 ⟨x, H1, I1, r1, q1⟩ => ⟨x, σ, H1, I1, r1, q1⟩)
def tIfS (c : TT) (t u : TS) : TS := fun D σ H => c σ H fun b H1 => if b = true then t D σ H1 else u D σ H1
theorem ps_if {c : Expr} {a b : List Stmt} {tc : TT} (hc : PT X c tc) (ha : PSs X a t) (hb : PSs X b u) : PS X (.If c a b pos) (tIfS tc t u) := by
  intro pins s σ H D I h
  refine wpAny_If (thn (hc pins s σ H _ I h) fun d s1 ⟨H1, I1, q1⟩ => ?_)
  cases d with
  | true => exact ha pins s1 σ H1 D I1 q1
  | false => exact hb pins s1 σ H1 D I1 q1
/-- code that the proof never comes to -/
def tNever : TS := fun _ _ _ => False
theorem ps_never : PS X st tNever := fun _ _ _ _ _ _ h => h.elim
end

/-! ### targets -/
abbrev TG := V → St → Hp → (St → Hp → Prop) → Prop
abbrev TGs := List V → St → Hp → (St → Hp → Prop) → Prop
def PG (X : Cx) (target : Expr) (t : TG) : Prop :=
  ∀ (pins : List (Addr × Obj)) (s : Shared) (σ : St) (H : Hp) (v : V) (u : Value) (Q : St → Hp → Prop), Inv X pins σ H s → RelV v u → t v σ H Q →
    wpAny (model X.prog X.w) X.A (assign target X.env u) (fun _ s' => ∃ σ' H', Inv X pins σ' H' s' ∧ Q σ' H') X.xe s
/-- several targets, one after another -/
def PGs (X : Cx) (ts : List Expr) (t : TGs) : Prop :=
  ∀ (pins : List (Addr × Obj)) (s : Shared) (σ : St) (H : Hp) (vs : List V) (us : List Value) (Q : St → Hp → Prop), Inv X pins σ H s → Vals vs us → t vs σ H Q →
    wpAny (model X.prog X.w) X.A (assignInOrder ((assignEach ts X.env).map (·.2)) us) (fun _ s' => ∃ σ' H', Inv X pins σ' H' s' ∧ Q σ' H') X.xe s
/-- o[i] = v, by values -/
abbrev TSet := V → V → V → Hp → (Hp → Prop) → Prop
def PSet (X : Cx) (t : TSet) : Prop :=
  ∀ (pins : List (Addr × Obj)) (s : Shared) (σ : St) (H : Hp) (o i v : V) (ov iv u : Value) (Q : Hp → Prop), Inv X pins σ H s → RelV o ov → RelV i iv → RelV v u → t o i v H Q →
    wpAny (model X.prog X.w) X.A (setItem ov iv u) (fun _ s' => ∃ H', Inv X pins σ H' s' ∧ Q H') X.xe s
section
variable {X : Cx} {pos : Pos}
def gName (i : Nat) : TG := fun v σ H Q => Q (σ.set i (some v)) H
theorem pg_name {i : Nat} {x : Str} (hN : X.N.Nodup) (hi : X.N[i]? = some x) (hx : Loc X.env.scope x) (hf : X.fn x = true ∨ X.env.scope.names.lookup x = some .local := by first | exact .inl rfl | exact .inr rfl | assumption) : PG X (.Name x pos) (gName i) := by
  intro pins s σ H v u Q I r h
  exact wpAny_assign_Name (store_ok I hN hi hx r (fun s' I' => ⟨_, H, I', h⟩) hf)
def gNil : TGs := fun vs σ H Q => vs = [] ∧ Q σ H
def gCons (t : TG) (u : TGs) : TGs := fun vs σ H Q => ∃ v r, vs = v :: r ∧ t v σ H fun σ' H' => u r σ' H' Q
theorem pgs_nil : PGs X [] gNil := by
  intro pins s σ H vs us Q I r h
  obtain ⟨e, h⟩ := h
  subst e
  cases r
  exact assignInOrder_nil ⟨σ, H, I, h⟩
theorem pgs_cons {e : Expr} {es : List Expr} {t : TG} {u : TGs} (h1 : PG X e t) (h2 : PGs X es u)
    (hs : (assignEach (e :: es) X.env).map (·.2) = assign e X.env :: (assignEach es X.env).map (·.2) := by rfl) : PGs X (e :: es) (gCons t u) := by
  intro pins s σ H vs us Q I r h
  obtain ⟨v, vr, e1, h⟩ := h
  subst e1
  cases r with
  | cons r rr =>
    rw [hs]
    refine assignInOrder_cons (thn (h1 pins s σ H _ _ _ I r h) fun _ s1 ⟨σ1, H1, I1, q1⟩ => ?_)
    exact h2 pins s1 σ1 H1 _ _ Q I1 rr q1
/-- (a, b, ..) = a tuple of that length -/
def gTup (K : PySem.W.Frag) (n : Nat) (t : TGs) : TG := fun v σ H Q => ∃ a xs, v = .ref a ∧ SqT K H a xs ∧ xs.length = n ∧ t xs σ H Q
theorem pg_tup {es : List Expr} {k : Nat} {t : TGs} {n : Nat} (hc : X.calm = true) (h : PGs X es t)
    (hn : (assignEach es X.env).length = n := by rfl) (hst : (assignEach es X.env).findIdx? (·.1) = none := by rfl) : PG X (.Tuple es k pos) (gTup X.K n t) := by
  intro pins s σ H v u Q I r hw
  obtain ⟨a, xs, e1, hq, hl, hw⟩ := hw
  subst e1
  cases r
  obtain ⟨its, rv, ht, hz⟩ := I.tuple hq
  refine assign_Tuple_tuple (I.ok.hd hc) ht (by simp [hn, ← hl, rv.length]) hst fun h' hx => ?_
  have I1 : Inv X pins σ H { s with heap := h' } := I.kept (t' := s.toks) fun b o e => hx b o (Nat.ne_of_lt (Heap.lt_size e)) e
  exact h pins _ σ H xs _ Q I1 (by simpa using rv) hw
/-- o[i] = .. -/
def gSub (to ti : TE) (t : TSet) : TG := fun v σ H Q => to σ H fun o H1 => ti σ H1 fun i H2 => t o i v H2 fun H3 => Q σ H3
theorem pg_sub {o i : Expr} {to ti : TE} {t : TSet} (ho : PE X o to) (hi : PE X i ti) (hs : PSet X t)
    (ha : ∀ v, assign (.Subscript o i pos) X.env v = (do
      let ov ← holding [v] (eval o X.env)
      let iv ← holding [v, ov] (eval i X.env)
      standAt pos
      holding [v, ov, iv] (setItem ov iv v)
      release [v, ov, iv] []) := by intro _; rfl) : PG X (.Subscript o i pos) (gSub to ti t) := by
  intro pins s σ H v u Q I r h
  rw [ha]
  refine wpAny_bind (wpAny_holding (thn (ho pins s σ H _ I h) fun ov s1 ⟨x, H1, I1, r1, q1⟩ => ?_))
  refine wpAny_bind (wpAny_holding (thn (hi pins s1 σ H1 _ I1 q1) fun iv s2 ⟨y, H2, I2, r2, q2⟩ => ?_))
  refine wpAny_bind (wpAny_standAt (wpAny_bind (wpAny_holding (thn (hs pins s2 σ H2 x y v ov iv u _ I2 r1 r2 r q2) fun _ s3 ⟨H3, I3, q3⟩ => ?_))))
  exact wpAny_release ⟨σ, H3, I3, q3⟩
/-- target = value -/
def tAsg (te : TE) (g : TG) : TS := fun D σ H => te σ H fun x H1 => g x σ H1 D.nx
theorem ps_asg {tg e : Expr} {te : TE} {g : TG} (he : PE X e te) (hg : PG X tg g) (hs : swapsWithSole [tg] e pos.line X.env = pure false := by rfl) (hw : swappedStores [tg] e X.env = pure none := by rfl)
    (h1 : (assignEach [tg] X.env).map (·.2) = [assign tg X.env] := by rfl) : PS X (.Assign [tg] e pos) (tAsg te g) := by
  intro pins s σ H D I h
  refine wpAny_Assign_stores (thn (he pins s σ H _ I h) fun v s1 ⟨x, H1, I1, r1, q1⟩ => ?_) hs hw
  rw [h1]
  exact thn (hg pins s1 σ H1 x v _ I1 r1 q1) fun _ s2 q => q
/-- name = value -/
theorem ps_set {i : Nat} {x : Str} {e : Expr} {te : TE} {pos' : Pos} (hN : X.N.Nodup) (hi : X.N[i]? = some x) (hx : Loc X.env.scope x) (he : PE X e te) (hs : swapsWith e (some (.Name x pos')) pos.line X.env = pure false := by rfl) (hf : X.fn x = true ∨ X.env.scope.names.lookup x = some .local := by first | exact .inl rfl | exact .inr rfl | assumption) :
    PS X (.Assign [.Name x pos'] e pos) (tAsg te (gName i)) := by
  intro pins s σ H D I h
  refine wpAny_Assign_Name (thn (he pins s σ H _ I h) fun v s1 ⟨y, H1, I1, r1, q1⟩ => ?_) hs
  exact store_ok I1 hN hi hx r1 (fun s2 I2 => ⟨_, H1, I2, q1⟩) hf
end

/-! ### while -/
section
variable {X : Cx} {pos : Pos}
end

/-! ### what a loop or a comprehension walks -/
/-- at turn i: it yields x (the heap may grow), or it stops -/
structure It where
  go : Nat → Hp → Prop
  yld : Nat → Hp → V → Hp → Prop
  stop : Nat → Hp → Prop
/-- the iterator's own objects may turn: they are not the frame's, not pinned, younger than the entry (or a comprehension's own) -/
def FpOk (X : Cx) (pins : List (Addr × Obj)) (H : Hp) (b : Addr) : Prop :=
  H b = none ∧ b ≠ X.env.locals ∧ b ∉ X.fs ∧ (b ∈ X.ex ∨ X.s₀.heap.objs.size ≤ b) ∧ (∀ x c, X.env.cells.lookup x = some c → c ≠ b) ∧ ∀ p ∈ X.pn ++ pins, p.1 ≠ b
theorem Inv.fpOk {X : Cx} {pins : List (Addr × Obj)} {σ : St} {H H' : Hp} {s : Shared} {b : Addr} (I : Inv X pins σ H s) (hb : s.heap.objs.size ≤ b) (hn : H' b = none) : FpOk X pins H' b := by
  refine ⟨hn, Nat.ne_of_gt (Nat.lt_of_lt_of_le I.lt hb), I.nofs hb, .inr (Nat.le_trans I.sz hb), fun x c e z => ?_, fun p hp z => ?_⟩
  · obtain ⟨v, q⟩ := I.cell x c e
    exact absurd (Nat.lt_of_lt_of_le q.lt (by rw [z]; exact hb)) (Nat.lt_irrefl _)
  · exact absurd (Nat.lt_of_lt_of_le (Heap.lt_size (I.pin p hp).1) (by rw [z]; exact hb)) (Nat.lt_irrefl _)
structure Turn (P : Program) (w : World) (K : PySem.W.Frag) (tg : Expr) (J : It) (fp : List Addr) (it : Addr) (tn : Nat → Heap → Prop) : Prop where
  mem : it ∈ fp
  obj : ∀ i h, tn i h → ∀ b ∈ fp, ∃ o, h.get? b = some o ∧ ∀ v, o.data ≠ .cell v
  keep : ∀ i h h', tn i h → (∀ b ∈ fp, ∀ o, h.get? b = some o → h'.get? b = some o) → tn i h'
  item : ∀ (X : Cx), X.prog = P → X.w = w → X.K = K → X.calm = true → ∀ (i : Nat) (pins : List (Addr × Obj)) (s : Shared) (σ : St) (H : Hp) (E : Value → Shared → Prop), Inv X pins σ H s → (∀ b ∈ fp, FpOk X pins H b) → tn i s.heap → J.go i H →
    wpAny (model P w) X.A (pyNext (.ref it)) (fun r s1 => ∃ u, r = some u ∧
      wpAny (model P w) X.A (letOwnedTupleGo tg (.ref it) u) (fun _ s2 => ∃ x H', Inv X pins σ H' s2 ∧ RelV x u ∧ J.yld i H x H' ∧ tn (i + 1) s2.heap ∧ ∀ b ∈ fp, H' b = none) E s1) E s
  done : ∀ (X : Cx), X.prog = P → X.w = w → X.K = K → X.calm = true → ∀ (i : Nat) (pins : List (Addr × Obj)) (s : Shared) (σ : St) (H : Hp) (E : Value → Shared → Prop), Inv X pins σ H s → (∀ b ∈ fp, FpOk X pins H b) → tn i s.heap → J.stop i H →
    wpAny (model P w) X.A (pyNext (.ref it)) (fun r s1 => r = none ∧ Inv X pins σ H s1) E s
  self : ∀ (A : Around) (i : Nat) (s : Shared) (Q : Value → Shared → Prop) (E : Value → Shared → Prop), tn i s.heap → Q (.ref it) s → wpAny (model P w) A (pyIter (.ref it)) Q E s
abbrev TI := St → Hp → (It → Hp → Prop) → Prop
/-- an iterator has come -/
def PIE (X : Cx) (pins : List (Addr × Obj)) (σ : St) (tg : Expr) (R : It → Hp → Prop) (itv : Value) (s2 : Shared) : Prop :=
  ∃ (it : Addr) (fp : List Addr) (tn : Nat → Heap → Prop) (J : It) (H' : Hp), itv = .ref it ∧ Inv X pins σ H' s2 ∧ Turn X.prog X.w X.K tg J fp it tn ∧ tn 0 s2.heap ∧ (∀ b ∈ fp, FpOk X pins H' b) ∧ R J H'
def PI (X : Cx) (tg iter : Expr) (wi : TI) : Prop :=
  ∀ (pins : List (Addr × Obj)) (s : Shared) (σ : St) (H : Hp) (R : It → Hp → Prop), Inv X pins σ H s → wi σ H R →
    wpAny (model X.prog X.w) X.A (eval iter X.env) (fun v s1 => wpAny (model X.prog X.w) X.A (pyIter v) (PIE X pins σ tg R) X.xe s1) X.xe s

/-- the step ahead of the store is nothing for an iterator that keeps no tuple -/
theorem go_of {M : Model} {A : Around} {E : Value → Shared → Prop} {s : Shared} {tg : Expr} {it : Addr} {u : Value} {o : Obj} {n : String} {vs : Array Value} {Q : Unit → Shared → Prop} (ho : s.heap.get? it = some o) (hc : o.cls = .type n) (hd : o.data = .fields vs)
    (hn : ["enumerate", "zip", "dict_itemiterator", "dict_reverseitemiterator", "odict_iterator", "itertools.zip_longest", "itertools.pairwise"].contains n = false) (hQ : Q () s) : wpAny M A (letOwnedTupleGo tg (.ref it) u) Q E s := by
  unfold letOwnedTupleGo
  cases tg <;> first
    | exact wpAny_pure hQ
    | (cases u <;> first
        | exact wpAny_pure hQ
        | (refine wpAny_bind (wpAny_load ho ?_)
           rw [hc, hd]
           show wpAny M A (if (["enumerate", "zip", "dict_itemiterator", "dict_reverseitemiterator", "odict_iterator", "itertools.zip_longest", "itertools.pairwise"].contains n && vs[0]? == some (rawInt _)) = true then _ else _) Q E s
           rw [if_neg (by intro h; rw [hn, Bool.false_and] at h; cases h)]
           exact wpAny_pure hQ))

/-- the list at a, as it stands at each turn (a loop may append to it) -/
def Itl (K : PySem.W.Frag) (a : Addr) : It :=
  ⟨fun i H => ∃ xs x, SqL K H a xs ∧ xs[i]? = some x, fun i H x H' => H' = H ∧ ∀ xs, SqL K H a xs → xs[i]? = some x, fun i H => ∃ xs, SqL K H a xs ∧ xs.length ≤ i⟩
def Itt (K : PySem.W.Frag) (a : Addr) : It :=
  ⟨fun i H => ∃ xs x, SqT K H a xs ∧ xs[i]? = some x, fun i H x H' => H' = H ∧ ∀ xs, SqT K H a xs → xs[i]? = some x, fun i H => ∃ xs, SqT K H a xs ∧ xs.length ≤ i⟩
/-- lo, lo + 1, .. (n of them) -/
def Itr (lo : Int) (n : Nat) : It := ⟨fun i _ => i < n, fun i H x H' => H' = H ∧ x = .int (lo + i), fun i _ => n ≤ i⟩
theorem turn_list {P : Program} {w : World} {K : PySem.W.Frag} {tg : Expr} (a it : Addr) : Turn P w K tg (Itl K a) [it] it (fun i h => h.IsListIter it a i) where
  mem := by simp
  obj := fun i h st b hb => by
    have e : b = it := by simpa using hb
    subst e
    obtain ⟨o, e, c, d⟩ := st
    exact ⟨o, e, fun v z => by rw [d] at z; cases z⟩
  keep := fun i h h' st k => st.at fun o e => k it (by simp) o e
  item := by
    intro X hP hw hK hc i pins s σ H E I hf st hg
    subst hP hw hK
    obtain ⟨xs, x, hq, hx⟩ := hg
    obtain ⟨its, rv, p, hz⟩ := I.list hq
    obtain ⟨u, hu, ru⟩ := rv.get hx
    obtain ⟨f0, f1, f2, f3, f4, f5⟩ := hf it (by simp)
    refine wpAny_pyNext_list_item st p.isList (x := u) (by simpa using hu) fun h' st' sb => ?_
    have I1 : Inv X pins σ H { s with heap := h' } := I.turned (t' := s.toks) (fun b o hb e => (sb.2 b hb).trans e) f0 f1 f3 f4 f5
    obtain ⟨o, e, c, d⟩ := id st'
    exact ⟨u, rfl, go_of (s := { s with heap := h' }) e c d (by decide) ⟨x, H, I1, ru, ⟨rfl, fun ys hy => by rw [I.list_inj hy hq]; exact hx⟩, st', fun b hb => (hf b hb).1⟩⟩
  done := by
    intro X hP hw hK hc i pins s σ H E I hf st hg
    subst hP hw hK
    obtain ⟨xs, hq, hx⟩ := hg
    obtain ⟨its, rv, p, hz⟩ := I.list hq
    obtain ⟨f0, f1, f2, f3, f4, f5⟩ := hf it (by simp)
    have hl := rv.length
    exact wpAny_pyNext_list_end (I.ok.hd hc) st p.isList (by simp; omega) fun h' eb => ⟨rfl, I.turned (t' := s.toks) (fun b o hb e => eb b o hb e) f0 f1 f3 f4 f5⟩
  self := fun _ _ _ _ _ st h => wpAny_pyIter_listiter st h
theorem turn_tuple {P : Program} {w : World} {K : PySem.W.Frag} {tg : Expr} (a it : Addr) : Turn P w K tg (Itt K a) [it] it (fun i h => h.IsTupleIter it a i) where
  mem := by simp
  obj := fun i h st b hb => by
    have e : b = it := by simpa using hb
    subst e
    obtain ⟨o, e, c, d⟩ := st
    exact ⟨o, e, fun v z => by rw [d] at z; cases z⟩
  keep := fun i h h' st k => st.at fun o e => k it (by simp) o e
  item := by
    intro X hP hw hK hc i pins s σ H E I hf st hg
    subst hP hw hK
    obtain ⟨xs, x, hq, hx⟩ := hg
    obtain ⟨its, rv, p, hz⟩ := I.tuple hq
    obtain ⟨u, hu, ru⟩ := rv.get hx
    obtain ⟨f0, f1, f2, f3, f4, f5⟩ := hf it (by simp)
    refine wpAny_pyNext_tuple_item st (show s.heap.IsTuple a its.toArray from p) (x := u) (by simpa using hu) fun h' st' sb => ?_
    have I1 : Inv X pins σ H { s with heap := h' } := I.turned (t' := s.toks) (fun b o hb e => (sb.2 b hb).trans e) f0 f1 f3 f4 f5
    obtain ⟨o, e, c, d⟩ := id st'
    exact ⟨u, rfl, go_of (s := { s with heap := h' }) e c d (by decide) ⟨x, H, I1, ru, ⟨rfl, fun ys hy => by rw [I.tuple_inj hy hq]; exact hx⟩, st', fun b hb => (hf b hb).1⟩⟩
  done := by
    intro X hP hw hK hc i pins s σ H E I hf st hg
    subst hP hw hK
    obtain ⟨xs, hq, hx⟩ := hg
    obtain ⟨its, rv, p, hz⟩ := I.tuple hq
    obtain ⟨f0, f1, f2, f3, f4, f5⟩ := hf it (by simp)
    have hl := rv.length
    exact wpAny_pyNext_tuple_end (I.ok.hd hc) st (show s.heap.IsTuple a its.toArray from p) (by simp; omega) fun h' eb => ⟨rfl, I.turned (t' := s.toks) (fun b o hb e => eb b o hb e) f0 f1 f3 f4 f5⟩
  self := fun _ _ _ _ _ st h => wpAny_pyIter_tupleiter st h
theorem turn_range {P : Program} {w : World} {K : PySem.W.Frag} {tg : Expr} (it : Addr) (lo : Int) (n : Nat) : Turn P w K tg (Itr lo n) [it] it (fun i h => IsRangeIter h it (lo + (i : Nat) * 1) ((n : Int) - (i : Nat)) 1) where
  mem := by simp
  obj := fun i h st b hb => by
    have e : b = it := by simpa using hb
    subst e
    exact ⟨_, st, fun v z => by
      have z' : Data.fields _ = Data.cell v := z
      cases z'⟩
  keep := fun i h h' st k => k it (by simp) _ st
  item := by
    intro X hP hw hK hc i pins s σ H E I hf st hg
    subst hP hw hK
    obtain ⟨f0, f1, f2, f3, f4, f5⟩ := hf it (by simp)
    have W := Walks.range (prog := X.prog) (w := X.w) (I.ok.hd hc) it lo 1 n
    refine W.item i s _ _ hg st fun v h' tk hv st' kk => ?_
    obtain ⟨t, rfl⟩ := hv
    have I1 : Inv X pins σ H { s with heap := h', toks := tk } := I.turned (fun b o hb e => kk b o (by simpa using hb) e) f0 f1 f3 f4 f5
    refine ⟨_, rfl, go_of (s := { s with heap := h', toks := tk }) (n := "range_iterator") st' rfl rfl (by decide) ⟨.int (lo + i), H, I1, ⟨t, ?_⟩, ⟨rfl, rfl⟩, st', fun b hb => (hf b hb).1⟩⟩
    rw [Int.mul_one]
  done := by
    intro X hP hw hK hc i pins s σ H E I hf st hg
    subst hP hw hK
    obtain ⟨f0, f1, f2, f3, f4, f5⟩ := hf it (by simp)
    exact wpAny_pyNext_range_end (I.ok.hd hc) st (by have : n ≤ i := hg; omega) fun h' eb => ⟨rfl, I.turned (t' := s.toks) (fun b o hb e => eb b o hb e) f0 f1 f3 f4 f5⟩
  self := fun _ _ _ _ _ st h => wpAny_pyIter_rangeiter st h
end L2

namespace L2
open PySem PySem.Spec PyProof.Rows
section
variable {X : Cx} {tg : Expr}
def iList (K : PySem.W.Frag) (tl : TE) : TI := fun σ H R => tl σ H fun x H1 => ∃ a, x = .ref a ∧ (∃ xs, SqL K H1 a xs) ∧ R (Itl K a) H1
def iTup (K : PySem.W.Frag) (tl : TE) : TI := fun σ H R => tl σ H fun x H1 => ∃ a, x = .ref a ∧ (∃ xs, SqT K H1 a xs) ∧ R (Itt K a) H1
theorem pi_list {l : Expr} {tl : TE} (hl : PE X l tl) : PI X tg l (iList X.K tl) := by
  intro pins s σ H R I h
  refine thn (hl pins s σ H _ I h) fun v s1 ⟨x, H1, I1, r1, q1⟩ => ?_
  obtain ⟨a, e, ⟨xs, hq⟩, q⟩ := q1
  subst e
  cases r1
  obtain ⟨its, rv, p, hz⟩ := I1.list hq
  refine wpAny_pyIter_list p.isList ?_
  refine ⟨s1.heap.objs.size, [s1.heap.objs.size], _, _, H1, rfl, I1.kept (t' := s1.toks) fun b o e => Heap.get?_push_of_some _ e, turn_list a _, ⟨_, Heap.get?_push_size _ rfl, rfl, rfl⟩, fun b hb => ?_, q⟩
  have e : b = s1.heap.objs.size := by simpa using hb
  subst e
  exact I1.fpOk (Nat.le_refl _) (I1.hok.fresh (Nat.le_refl _))
theorem pi_tup {l : Expr} {tl : TE} (hl : PE X l tl) : PI X tg l (iTup X.K tl) := by
  intro pins s σ H R I h
  refine thn (hl pins s σ H _ I h) fun v s1 ⟨x, H1, I1, r1, q1⟩ => ?_
  obtain ⟨a, e, ⟨xs, hq⟩, q⟩ := q1
  subst e
  cases r1
  obtain ⟨its, rv, p, hz⟩ := I1.tuple hq
  refine wpAny_pyIter_tuple (show s1.heap.IsTuple a its.toArray from p) ?_
  refine ⟨s1.heap.objs.size, [s1.heap.objs.size], _, _, H1, rfl, I1.kept (t' := s1.toks) fun b o e => Heap.get?_push_of_some _ e, turn_tuple a _, ⟨_, Heap.get?_push_size _ rfl, rfl, rfl⟩, fun b hb => ?_, q⟩
  have e : b = s1.heap.objs.size := by simpa using hb
  subst e
  exact I1.fpOk (Nat.le_refl _) (I1.hok.fresh (Nat.le_refl _))
/-- a range object just made, walked -/
theorem range_it {pins : List (Addr × Obj)} {σ : St} {H : Hp} {s : Shared} {R : It → Hp → Prop} {E : Value → Shared → Prop} {lo hi : Int} {t u v : Tok} {tk : Nat} (I : Inv X pins σ H s) (h1 : -(2 ^ 62) ≤ lo) (h2 : lo < 2 ^ 62) (h3 : -(2 ^ 62) ≤ hi) (h4 : hi < 2 ^ 62)
    (q : R (Itr lo (hi - lo).toNat) H) : wpAny (model X.prog X.w) X.A (pyIter (.ref s.heap.objs.size)) (PIE X pins σ tg R) E { s with heap := s.heap.push { cls := .type "range", data := .fields #[.int lo t, .int hi u, .int 1 v] }, toks := tk } := by
  refine wpAny_pyIter_range (IsRange.new ..) (small_one h1 h2 h3 h4) ?_
  have I1 : Inv X pins σ H { s with heap := s.heap.push { cls := .type "range", data := .fields #[.int lo t, .int hi u, .int 1 v] }, toks := tk } := I.kept fun b o e => Heap.get?_push_of_some _ e
  refine ⟨(s.heap.push { cls := .type "range", data := .fields #[.int lo t, .int hi u, .int 1 v] }).objs.size, [(s.heap.push { cls := .type "range", data := .fields #[.int lo t, .int hi u, .int 1 v] }).objs.size], _, _, H, rfl,
    I1.kept (t' := tk) fun b o e => Heap.get?_push_of_some _ e, turn_range _ lo (hi - lo).toNat, ?_, fun b hb => ?_, q⟩
  · have e1 : lo + ((0 : Nat) : Int) * 1 = lo := by simp
    have e2 : (((hi - lo).toNat : Nat) : Int) - ((0 : Nat) : Int) = Builtin.Range.rangeSize lo hi 1 := by rw [rangeSize_one]; split <;> omega
    show IsRangeIter _ _ (lo + ((0 : Nat) : Int) * 1) ((((hi - lo).toNat : Nat) : Int) - ((0 : Nat) : Int)) 1
    rw [e1, e2]
    exact Heap.get?_push_size _ rfl
  · have e : b = (s.heap.push { cls := .type "range", data := .fields #[.int lo t, .int hi u, .int 1 v] }).objs.size := by simpa using hb
    subst e
    exact I1.fpOk (Nat.le_refl _) (I1.hok.fresh (Nat.le_refl _))
def iRng1 (ta : TA) : TI := fun σ H R => ta σ H fun vs H1 => ∃ j : Int, vs = [.int j] ∧ -(2 ^ 62) ≤ j ∧ j < 2 ^ 62 ∧ R (Itr 0 j.toNat) H1
theorem pi_range1 {a : Expr} {ta : TA} {p pos : Pos} (hg : Gl X "range") (hm : X.mg "range" = none) (ha : PA X [a] ta) (hs : starEach [a] X.env = [(false, eval a X.env)] := by rfl) : PI X tg (.Call (.Name "range" p) [a] [] pos) (iRng1 ta) := by
  intro pins s σ H R I h
  refine Call_ (ld_blt I hg hm boot_range (PyProof.Rows.callWith_type1 (thn (ha pos pins s σ H _ I h) fun us s1 ⟨vs, H1, I1, r1, q1⟩ => ?_) hs rfl))
  obtain ⟨j, e, q1, q2, q⟩ := q1
  subst e
  cases r1 with
  | cons r rr =>
    cases rr
    obtain ⟨t, rfl⟩ := r
    exact call_range_1 (range_it I1 (by omega) (by omega) q1 q2 (by simpa using q))
/-! ### for -/
/-- W: the invariant by the turn and a measure; N: what the body is to reach -/
def tFor (wi : TI) (g : TG) (tb : TS) : TS := fun D σ H => wi σ H fun J H1 => ∃ W : Nat → Nat → St → Hp → Prop, (∃ m, W 0 m σ H1) ∧ ∀ i m σ H, W i m σ H →
  (J.stop i H ∧ D.nx σ H) ∨ (J.go i H ∧ ∃ N : St → Hp → Prop, (∀ σ' H', N σ' H' → ∃ m', m' < m ∧ W (i + 1) m' σ' H') ∧ ∀ x H', J.yld i H x H' → g x σ H' fun σ2 H2 => tb { D with nx := N, ct := N, bk := D.nx } σ2 H2)
/-- the records at fp as they stand -/
def pinsAt (fp : List Addr) (h : Heap) : List (Addr × Obj) := fp.filterMap fun b => (h.get? b).map fun o => (b, o)
theorem mem_pinsAt {fp : List Addr} {h : Heap} {b : Addr} {o : Obj} (hb : b ∈ fp) (e : h.get? b = some o) : (b, o) ∈ pinsAt fp h := List.mem_filterMap.mpr ⟨b, hb, by rw [e]; rfl⟩
theorem of_pinsAt {fp : List Addr} {h : Heap} {p : Addr × Obj} (hp : p ∈ pinsAt fp h) : p.1 ∈ fp ∧ h.get? p.1 = some p.2 := by
  obtain ⟨b, hb, e⟩ := List.mem_filterMap.mp hp
  cases q : h.get? b with
  | none => rw [q] at e; cases e
  | some o =>
    rw [q] at e
    have e' : (b, o) = p := Option.some.inj e
    subst e'
    exact ⟨hb, q⟩
theorem Inv.pinned {pins : List (Addr × Obj)} {σ : St} {H : Hp} {s : Shared} {fp : List Addr} (I : Inv X pins σ H s) (hf : ∀ b ∈ fp, FpOk X pins H b) (ho : ∀ b ∈ fp, ∃ o, s.heap.get? b = some o ∧ ∀ v, o.data ≠ .cell v) : Inv X (pins ++ pinsAt fp s.heap) σ H s :=
  I.pins_of fun p hp => (List.mem_append.mp hp).elim (fun z => I.pin p (List.mem_append_right _ z)) fun z => by
    obtain ⟨hb, e⟩ := of_pinsAt z
    obtain ⟨f0, f1, f2, _⟩ := hf p.1 hb
    obtain ⟨o, e', d⟩ := ho p.1 hb
    rw [e] at e'; cases e'
    exact ⟨e, f0, f1, f2, d⟩
theorem Inv.unpinned {pins pl : List (Addr × Obj)} {σ : St} {H : Hp} {s : Shared} (I : Inv X (pins ++ pl) σ H s) : Inv X pins σ H s := I.pins_of fun p hp => I.pin p (List.mem_append_right _ (List.mem_append_left _ hp))
theorem ps_for {iter : Expr} {body : List Stmt} {wi : TI} {g : TG} {tb : TS} {pos : Pos} (hp : PassesOwn (model X.prog X.w) X.A X.env X.xe) (hc : X.calm = true) (hi : PI X tg iter wi) (hg : PG X tg g) (hb : PSs X body tb)
    (hs : ∀ x, foldedSetIterable iter X.env x = pure x := by intro _; rfl) : PS X (.For tg iter body [] pos) (tFor wi g tb) := by
  intro pins s σ H D I h
  refine wpAny_For (thn (hi pins s σ H _ I h) fun v s1 h1 => thn h1 fun itv s2 h2 => ?_) hs
  obtain ⟨it, fp, tn, J, H2, e, I2, T, st2, f2, W, ⟨m0, w0⟩, turn⟩ := h2
  subst e
  -- what stays true of the iterator's objects through the loop
  have stat : ∀ {H' : Hp}, (∀ b ∈ fp, H' b = none) → ∀ b ∈ fp, FpOk X pins H' b := fun hn b hb => ⟨hn b hb, (f2 b hb).2⟩
  refine codeAny_forLoop_any (fun n s' => ∃ i σ' H', Inv X pins σ' H' s' ∧ tn i s'.heap ∧ (∀ b ∈ fp, H' b = none) ∧ W i n σ' H') ?_ m0 ⟨0, σ, H2, I2, st2, fun b hb => (f2 b hb).1, w0⟩
  rintro n s3 ⟨i, σ3, H3, I3, st3, fr3, w3⟩
  rcases turn i n σ3 H3 w3 with ⟨stop, qn⟩ | ⟨go, N, hN, step⟩
  · refine wpAny_passesOwn hp (thn (T.done X rfl rfl rfl hc i pins s3 σ3 H3 X.xe I3 (stat fr3) st3 stop) fun r s4 ⟨hr, I4⟩ => ?_)
    subst hr
    exact wpAny_execs_nil ⟨σ3, H3, I4, qn⟩
  · refine wpAny_passesOwn hp (thn (T.item X rfl rfl rfl hc i pins s3 σ3 H3 X.xe I3 (stat fr3) st3 go) fun r s4 ⟨u, hr, h4⟩ => ?_)
    subst hr
    refine wpAny_passesOwn hp (thn h4 fun _ s5 ⟨x, H5, I5, r5, y5, st5, fr5⟩ => ?_)
    have I5' := I5.pinned (stat fr5) (T.obj _ _ st5)
    refine wpAny_passesOwn hp (thn (hg _ s5 σ3 H5 x u _ I5' r5 (step x H5 y5)) fun _ s6 ⟨σ6, H6, I6, q6⟩ => ?_)
    refine wpAny_passesOwn hp (thn (hb _ s6 σ6 H6 _ I6 q6) fun f s7 q7 => ?_)
    have again : ∀ {σ7 : St} {H7 : Hp}, Inv X (pins ++ pinsAt fp s5.heap) σ7 H7 s7 → N σ7 H7 → ∃ m, m < n ∧ ∃ i σ' H', Inv X pins σ' H' s7 ∧ tn i s7.heap ∧ (∀ b ∈ fp, H' b = none) ∧ W i m σ' H' := fun {σ7 H7} I7 n7 => by
      obtain ⟨m', hm, w7⟩ := hN σ7 H7 n7
      refine ⟨m', hm, i + 1, σ7, H7, I7.unpinned, T.keep _ _ _ st5 fun b hb o e => (I7.pin (b, o) (List.mem_append_right _ (List.mem_append_right _ (mem_pinsAt hb e)))).1, fun b hb => ?_, w7⟩
      obtain ⟨o, e, d⟩ := T.obj _ _ st5 b hb
      exact (I7.pin (b, o) (List.mem_append_right _ (List.mem_append_right _ (mem_pinsAt hb e)))).2.1
    cases f with
    | next => obtain ⟨σ7, H7, I7, n7⟩ := q7; exact again I7 n7
    | cont => obtain ⟨σ7, H7, I7, n7⟩ := q7; exact again I7 n7
    | brk => obtain ⟨σ7, H7, I7, q7⟩ := q7; exact ⟨σ7, H7, I7.unpinned, q7⟩
    | ret v => obtain ⟨x7, σ7, H7, I7, r7, q7⟩ := q7; exact ⟨x7, σ7, H7, I7.unpinned, r7, q7⟩
end

/-! ### the forms one uses -/
/-- over a list that the body leaves as it is -/
theorem for_list {K : PySem.W.Frag} {a : Addr} {xs : List V} {g : TG} {tb : TS} {D : Ends} {σ : St} {H : Hp} (Pv : Nat → St → Hp → Prop) (h0 : Pv 0 σ H) (hl : ∀ i σ H, i ≤ xs.length → Pv i σ H → SqL K H a xs)
    (hs : ∀ i x σ H, xs[i]? = some x → Pv i σ H → g x σ H fun σ2 H2 => tb { D with nx := Pv (i + 1), ct := Pv (i + 1), bk := D.nx } σ2 H2) (hd : ∀ σ H, Pv xs.length σ H → D.nx σ H) :
    ∃ W : Nat → Nat → St → Hp → Prop, (∃ m, W 0 m σ H) ∧ ∀ i m σ H, W i m σ H →
      ((Itl K a).stop i H ∧ D.nx σ H) ∨ ((Itl K a).go i H ∧ ∃ N : St → Hp → Prop, (∀ σ' H', N σ' H' → ∃ m', m' < m ∧ W (i + 1) m' σ' H') ∧ ∀ x H', (Itl K a).yld i H x H' → g x σ H' fun σ2 H2 => tb { D with nx := N, ct := N, bk := D.nx } σ2 H2) := by
  refine ⟨fun i m σ H => m = xs.length - i ∧ i ≤ xs.length ∧ Pv i σ H, ⟨xs.length, by simp, Nat.zero_le _, h0⟩, ?_⟩
  rintro i m σ H ⟨rfl, hi, p⟩
  have q := hl i σ H hi p
  by_cases hlt : i < xs.length
  · refine .inr ⟨⟨xs, xs[i], q, by simp [hlt]⟩, Pv (i + 1), fun σ' H' p' => ⟨xs.length - (i + 1), by omega, rfl, hlt, p'⟩, fun x H' y => ?_⟩
    obtain ⟨e, y⟩ := y
    subst e
    exact hs i x σ _ (y xs q) p
  · have e : i = xs.length := by omega
    subst e
    exact .inl ⟨⟨xs, q, Nat.le_refl _⟩, hd σ H p⟩
theorem for_range {lo : Int} {n : Nat} {g : TG} {tb : TS} {D : Ends} {σ : St} {H : Hp} (Pv : Nat → St → Hp → Prop) (h0 : Pv 0 σ H)
    (hs : ∀ i σ H, i < n → Pv i σ H → g (.int (lo + i)) σ H fun σ2 H2 => tb { D with nx := Pv (i + 1), ct := Pv (i + 1), bk := D.nx } σ2 H2) (hd : ∀ σ H, Pv n σ H → D.nx σ H) :
    ∃ W : Nat → Nat → St → Hp → Prop, (∃ m, W 0 m σ H) ∧ ∀ i m σ H, W i m σ H →
      ((Itr lo n).stop i H ∧ D.nx σ H) ∨ ((Itr lo n).go i H ∧ ∃ N : St → Hp → Prop, (∀ σ' H', N σ' H' → ∃ m', m' < m ∧ W (i + 1) m' σ' H') ∧ ∀ x H', (Itr lo n).yld i H x H' → g x σ H' fun σ2 H2 => tb { D with nx := N, ct := N, bk := D.nx } σ2 H2) := by
  refine ⟨fun i m σ H => m = n - i ∧ i ≤ n ∧ Pv i σ H, ⟨n, by simp, Nat.zero_le _, h0⟩, ?_⟩
  rintro i m σ H ⟨rfl, hi, p⟩
  by_cases hlt : i < n
  · refine .inr ⟨hlt, Pv (i + 1), fun σ' H' p' => ⟨n - (i + 1), by omega, rfl, hlt, p'⟩, fun x H' y => ?_⟩
    obtain ⟨e, y⟩ := y
    subst e y
    exact hs i σ _ hlt p
  · have e : i = n := by omega
    subst e
    exact .inl ⟨Nat.le_refl _, hd σ H p⟩
end L2

namespace L2
open PySem PySem.Spec PyProof.Rows

abbrev R2 := V → V → Hp → VK → Prop
/-- a two-place operation on values: f is binaryOp op, inplaceOp op or compareOp op -/
def OpR (X : Cx) (f : Value → Value → Sem Value) (r : R2) : Prop :=
  ∀ (pins : List (Addr × Obj)) (s : Shared) (σ : St) (H : Hp) (x y : V) (v u : Value) (Q : VK), Inv X pins σ H s → RelV x v → RelV y u → r x y H Q →
    wpAny (model X.prog X.w) X.A (f v u) (EP X pins σ Q) X.xe s
/-- a one-place operation -/
def UnR (X : Cx) (f : Value → Sem Value) (r : V → Hp → VK → Prop) : Prop :=
  ∀ (pins : List (Addr × Obj)) (s : Shared) (σ : St) (H : Hp) (x : V) (v : Value) (Q : VK), Inv X pins σ H s → RelV x v → r x H Q →
    wpAny (model X.prog X.w) X.A (f v) (EP X pins σ Q) X.xe s
/-- a call of a value that is known (a builtin, a type) with values -/
def CallR (X : Cx) (f : Value) (r : List V → Hp → VK → Prop) : Prop :=
  ∀ (pins : List (Addr × Obj)) (s : Shared) (σ : St) (H : Hp) (xs : List V) (us : List Value) (Q : VK), Inv X pins σ H s → Vals xs us → r xs H Q →
    wpAny (model X.prog X.w) X.A (call f us) (EP X pins σ Q) X.xe s
def tOp (r : R2) (ta tb : TE) : TE := fun σ H Q => ta σ H fun x H1 => tb σ H1 fun y H2 => r x y H2 Q
def tUn (r : V → Hp → VK → Prop) (ta : TE) : TE := fun σ H Q => ta σ H fun x H1 => r x H1 Q
/-- ints in, under C, and a value out -/
def rI (C : Int → Int → Prop) (g : Int → Int → V) : R2 := fun x y H Q => ∃ i j, x = .int i ∧ y = .int j ∧ C i j ∧ Q (g i j) H
def rI0 (g : Int → Int → V) : R2 := fun x y H Q => ∃ i j, x = .int i ∧ y = .int j ∧ Q (g i j) H
def rU (g : Int → V) : V → Hp → VK → Prop := fun x H Q => ∃ i, x = .int i ∧ Q (g i) H

section
variable {X : Cx} {a b c : Expr} {ta tb tc : TE} {pos : Pos}

theorem binT (ha : PE X a ta) (hb : PE X b tb) {pins : List (Addr × Obj)} {s : Shared} {σ : St} {H : Hp} {R : V → V → Hp → Prop} (I : Inv X pins σ H s)
    (h : ta σ H fun x H1 => tb σ H1 fun y H2 => R x y H2) {Q : Value → Shared → Prop} {f : Value → Value → Sem Value}
    (hf : ∀ v u s2 x y H2, Inv X pins σ H2 s2 → RelV x v → RelV y u → R x y H2 → wpAny (model X.prog X.w) X.A (f v u) Q X.xe s2) :
    wpAny (model X.prog X.w) X.A (eval a X.env) (fun v s₁ => wpAny (model X.prog X.w) X.A (eval b X.env) (fun u s₂ => wpAny (model X.prog X.w) X.A (f v u) Q X.xe s₂) X.xe s₁) X.xe s := by
  refine thn (ha pins s σ H _ I h) fun v s1 ⟨x, H1, I1, r1, q1⟩ => ?_
  refine thn (hb pins s1 σ H1 _ I1 q1) fun u s2 ⟨y, H2, I2, r2, q2⟩ => ?_
  exact hf v u s2 x y H2 I2 r1 r2 q2

theorem pe_op {op : Operator} {r : R2} (ho : OpR X (binaryOp op) r) (ha : PE X a ta) (hb : PE X b tb) : PE X (.BinOp a op b pos) (tOp r ta tb) := by
  intro pins s σ H Q I h
  exact wpAny_BinOp (binT ha hb I h fun v u s2 x y H2 I2 rx ry q => ho pins s2 σ H2 x y v u Q I2 rx ry q)
theorem pe_un {op : UnaryOp} {r : V → Hp → VK → Prop} (ho : UnR X (unaryOp op) r) (ha : PE X a ta) : PE X (.UnaryOp op a pos) (tUn r ta) := by
  intro pins s σ H Q I h
  exact UnaryOp_ (thn (ha pins s σ H _ I h) fun v s1 ⟨x, H1, I1, r1, q1⟩ => ho pins s1 σ H1 x v Q I1 r1 q1)
/-! ### ints -/
theorem opI {f : Value → Value → Sem Value} {C : Int → Int → Prop} {g : Int → Int → Int}
    (rule : ∀ (i j : Int) (t u : Tok) (s : Shared) (Q : Value → Shared → Prop) (E : Value → Shared → Prop), C i j → Q (.int (g i j) s.toks) { s with toks := s.toks + 1 } → wpAny (model X.prog X.w) X.A (f (.int i t) (.int j u)) Q E s) :
    OpR X f (rI C fun i j => .int (g i j)) := by
  intro pins s σ H x y v u Q I rx ry h
  obtain ⟨i, j, rfl, rfl, hc, q⟩ := h
  obtain ⟨t, rfl⟩ := rx
  obtain ⟨t', rfl⟩ := ry
  exact rule i j t t' s _ _ hc ⟨.int (g i j), H, I.tok _, ⟨_, rfl⟩, q⟩
theorem opI0 {f : Value → Value → Sem Value} {g : Int → Int → Int}
    (rule : ∀ (i j : Int) (t u : Tok) (s : Shared) (Q : Value → Shared → Prop) (E : Value → Shared → Prop), Q (.int (g i j) s.toks) { s with toks := s.toks + 1 } → wpAny (model X.prog X.w) X.A (f (.int i t) (.int j u)) Q E s) :
    OpR X f (rI0 fun i j => .int (g i j)) := by
  intro pins s σ H x y v u Q I rx ry h
  obtain ⟨i, j, rfl, rfl, q⟩ := h
  obtain ⟨t, rfl⟩ := rx
  obtain ⟨t', rfl⟩ := ry
  exact rule i j t t' s _ _ ⟨.int (g i j), H, I.tok _, ⟨_, rfl⟩, q⟩
theorem opB0 {f : Value → Value → Sem Value} {g : Int → Int → Bool}
    (rule : ∀ (i j : Int) (t u : Tok) (s : Shared) (Q : Value → Shared → Prop) (E : Value → Shared → Prop), Q (.bool (g i j)) s → wpAny (model X.prog X.w) X.A (f (.int i t) (.int j u)) Q E s) :
    OpR X f (rI0 fun i j => .bl (g i j)) := by
  intro pins s σ H x y v u Q I rx ry h
  obtain ⟨i, j, rfl, rfl, q⟩ := h
  obtain ⟨t, rfl⟩ := rx
  obtain ⟨t', rfl⟩ := ry
  exact rule i j t t' s _ _ ⟨.bl (g i j), H, I, rfl, q⟩

theorem op_add : OpR X (binaryOp .Add) (rI0 fun i j => .int (i + j)) := opI0 fun _ _ _ _ _ _ _ q => add_int q
theorem op_sub : OpR X (binaryOp .Sub) (rI0 fun i j => .int (i - j)) := opI0 fun _ _ _ _ _ _ _ q => sub_int q
theorem op_modN : OpR X (binaryOp .Mod) (rI (fun _ j => j ≠ 0) fun i j => .int (i.fmod j)) := opI fun _ _ _ _ _ _ _ hc q => mod_int' hc q
theorem unI {f : Value → Sem Value} {g : Int → Int}
    (rule : ∀ (i : Int) (t : Tok) (s : Shared) (Q : Value → Shared → Prop) (E : Value → Shared → Prop), Q (.int (g i) s.toks) { s with toks := s.toks + 1 } → wpAny (model X.prog X.w) X.A (f (.int i t)) Q E s) :
    UnR X f (rU fun i => .int (g i)) := by
  intro pins s σ H x v Q I rx h
  obtain ⟨i, rfl, q⟩ := h
  obtain ⟨t, rfl⟩ := rx
  exact rule i t s _ _ ⟨.int (g i), H, I.tok _, ⟨_, rfl⟩, q⟩
theorem un_neg : UnR X (unaryOp .USub) (rU fun i => .int (-i)) := unI fun _ _ _ _ _ q => neg_int q
/-! ### bools among ints: n += (a < b) -/
end

/-! ### comparisons -/
/-- the scalars that == tells apart as data does -/
def scal : V → V → Bool
  | .non, .non => true | .non, .int _ => true | .int _, .non => true | .non, .bl _ => true | .bl _, .non => true | .non, .str _ => true | .str _, .non => true
  | .int _, .int _ => true | .bl _, .bl _ => true | .str _, .str _ => true | .byt _, .byt _ => true
  | .int _, .str _ => true | .str _, .int _ => true | .bl _, .str _ => true | .str _, .bl _ => true
  | _, _ => false
def rEq : R2 := fun x y H Q => scal x y = true ∧ Q (.bl (decide (x = y))) H
def rNe : R2 := fun x y H Q => scal x y = true ∧ Q (.bl (!decide (x = y))) H

theorem dec_int {i j : Int} : decide (V.int i = V.int j) = (i == j) := by
  rw [Bool.eq_iff_iff]
  simp
theorem dec_bl {i j : Bool} : decide (V.bl i = V.bl j) = (i == j) := by
  rw [Bool.eq_iff_iff]
  simp
theorem dec_str {i j : Str} : decide (V.str i = V.str j) = (i == j) := by
  rw [Bool.eq_iff_iff]
  simp
theorem dec_byt {i j : Array UInt8} : decide (V.byt i = V.byt j) = (i.toList == j.toList) := by
  rw [Bool.eq_iff_iff]
  cases i
  cases j
  simp

section
variable {X : Cx} {a b c : Expr} {ta tb tc : TE} {pos : Pos}
theorem fin_bl {pins : List (Addr × Obj)} {σ : St} {H : Hp} {s : Shared} {Q : VK} {k k' : Bool} (I : Inv X pins σ H s) (q : Q (.bl k) H) (e : k = k') : EP X pins σ Q (.bool k') s := by
  subst e
  exact ⟨.bl k, H, I, rfl, q⟩
theorem op_eq : OpR X (compareOp .Eq) rEq := by
  intro pins s σ H x y v u Q I rx ry h
  obtain ⟨hs, q⟩ := h
  cases x with
  | non =>
    cases rx
    cases y with
    | non => cases ry; exact PySem.EqNone.eq_none_none (fin_bl I q (by simp))
    | bl j => cases ry; exact PySem.EqNone.eq_none_bool (fin_bl I q (by simp))
    | int j => obtain ⟨t', rfl⟩ := ry; exact PySem.EqNone.eq_none_int (fin_bl I q (by simp))
    | str j => obtain ⟨t', rfl⟩ := ry; exact PySem.EqNone.eq_none_str (fin_bl I q (by simp))
    | _ => exact absurd (show false = true from hs) Bool.false_ne_true
  | bl i =>
    cases rx
    cases y with
    | non => cases ry; exact PySem.EqNone.eq_bool_none (fin_bl I q (by simp))
    | bl j => cases ry; exact eq_bool (fin_bl I q dec_bl)
    | str j => obtain ⟨t', rfl⟩ := ry; exact PySem.EqMixed.eq_bool_str (fin_bl I q (by simp))
    | _ => exact absurd (show false = true from hs) Bool.false_ne_true
  | int i =>
    obtain ⟨t, rfl⟩ := rx
    cases y with
    | non => cases ry; exact PySem.EqNone.eq_int_none (fin_bl I q (by simp))
    | int j => obtain ⟨t', rfl⟩ := ry; exact eq_int (fin_bl I q dec_int)
    | str j => obtain ⟨t', rfl⟩ := ry; exact PySem.EqMixed.eq_int_str (fin_bl I q (by simp))
    | _ => exact absurd (show false = true from hs) Bool.false_ne_true
  | str i =>
    obtain ⟨t, rfl⟩ := rx
    cases y with
    | non => cases ry; exact PySem.EqNone.eq_str_none (fin_bl I q (by simp))
    | bl j => cases ry; exact PySem.EqMixed.eq_str_bool (fin_bl I q (by simp))
    | int j => obtain ⟨t', rfl⟩ := ry; exact PySem.EqMixed.eq_str_int (fin_bl I q (by simp))
    | str j => obtain ⟨t', rfl⟩ := ry; exact eq_str (fin_bl I q dec_str)
    | _ => exact absurd (show false = true from hs) Bool.false_ne_true
  | byt i =>
    obtain ⟨t, rfl⟩ := rx
    cases y with
    | byt j => obtain ⟨t', rfl⟩ := ry; exact PySem.W.eq_bytes (fin_bl I q dec_byt)
    | _ => exact absurd (show false = true from hs) Bool.false_ne_true
  | _ => cases y <;> exact absurd (show false = true from hs) Bool.false_ne_true
theorem op_ne : OpR X (compareOp .NotEq) rNe := by
  intro pins s σ H x y v u Q I rx ry h
  obtain ⟨hs, q⟩ := h
  cases x with
  | non =>
    cases rx
    cases y with
    | non => cases ry; exact PySem.EqNone.ne_none_none (fin_bl I q (by simp))
    | bl j => cases ry; exact PySem.EqNone.ne_none_bool (fin_bl I q (by simp))
    | int j => obtain ⟨t', rfl⟩ := ry; exact PySem.EqNone.ne_none_int (fin_bl I q (by simp))
    | str j => obtain ⟨t', rfl⟩ := ry; exact PySem.EqNone.ne_none_str (fin_bl I q (by simp))
    | _ => exact absurd (show false = true from hs) Bool.false_ne_true
  | bl i =>
    cases rx
    cases y with
    | non => cases ry; exact PySem.EqNone.ne_bool_none (fin_bl I q (by simp))
    | bl j => cases ry; exact ne_bool (fin_bl I q (congrArg not dec_bl))
    | str j => obtain ⟨t', rfl⟩ := ry; exact PySem.EqMixed.ne_bool_str (fin_bl I q (by simp))
    | _ => exact absurd (show false = true from hs) Bool.false_ne_true
  | int i =>
    obtain ⟨t, rfl⟩ := rx
    cases y with
    | non => cases ry; exact PySem.EqNone.ne_int_none (fin_bl I q (by simp))
    | int j => obtain ⟨t', rfl⟩ := ry; exact ne_int (fin_bl I q (congrArg not dec_int))
    | str j => obtain ⟨t', rfl⟩ := ry; exact PySem.EqMixed.ne_int_str (fin_bl I q (by simp))
    | _ => exact absurd (show false = true from hs) Bool.false_ne_true
  | str i =>
    obtain ⟨t, rfl⟩ := rx
    cases y with
    | non => cases ry; exact PySem.EqNone.ne_str_none (fin_bl I q (by simp))
    | bl j => cases ry; exact PySem.EqMixed.ne_str_bool (fin_bl I q (by simp))
    | int j => obtain ⟨t', rfl⟩ := ry; exact PySem.EqMixed.ne_str_int (fin_bl I q (by simp))
    | str j => obtain ⟨t', rfl⟩ := ry; exact ne_str (fin_bl I q (congrArg not dec_str))
    | _ => exact absurd (show false = true from hs) Bool.false_ne_true
  | byt i =>
    obtain ⟨t, rfl⟩ := rx
    cases y with
    | byt j => obtain ⟨t', rfl⟩ := ry; exact PySem.W.ne_bytes (fin_bl I q (congrArg not dec_byt))
    | _ => exact absurd (show false = true from hs) Bool.false_ne_true
  | _ => cases y <;> exact absurd (show false = true from hs) Bool.false_ne_true

theorem op_lt : OpR X (compareOp .Lt) (rI0 fun i j => .bl (decide (i < j))) := opB0 fun _ _ _ _ _ _ _ q => lt_int q
theorem op_le : OpR X (compareOp .LtE) (rI0 fun i j => .bl (decide (i ≤ j))) := opB0 fun _ _ _ _ _ _ _ q => le_int q
theorem op_gt : OpR X (compareOp .Gt) (rI0 fun i j => .bl (decide (j < i))) := opB0 fun _ _ _ _ _ _ _ q => gt_int q
/-- is None, is not None: the right side a value none -/
theorem op_isN : OpR X (compareOp .Is) (fun x y H Q => y = .non ∧ Q (.bl (decide (x = .non))) H) := by
  intro pins s σ H x y v u Q I rx ry h
  obtain ⟨rfl, q⟩ := h
  cases ry
  refine is_none_gen (fin_bl I q ?_)
  cases x <;> first
    | (cases rx; rfl)
    | (obtain ⟨t, rfl⟩ := rx; rfl)
theorem op_notN : OpR X (compareOp .IsNot) (fun x y H Q => y = .non ∧ Q (.bl (!decide (x = .non))) H) := by
  intro pins s σ H x y v u Q I rx ry h
  obtain ⟨rfl, q⟩ := h
  cases ry
  refine isnot_none_gen (fin_bl I q ?_)
  cases x <;> first
    | (cases rx; rfl)
    | (obtain ⟨t, rfl⟩ := rx; rfl)

theorem nomark (b : Expr) {op : CmpOp} (h : op ≠ .In := by decide) (h2 : op ≠ .NotIn := by decide) : behindInMarks op b = false := by
  have e1 : (op == CmpOp.In) = false := by cases op <;> first | rfl | exact absurd rfl h
  have e2 : (op == CmpOp.NotIn) = false := by cases op <;> first | rfl | exact absurd rfl h2
  cases b <;> simp [behindInMarks, e1, e2]
/-- a comparison as a value; hm: nomark b, or (for in, not in) by with_unfolding_all rfl -/
theorem pe_cmpR {op : CmpOp} {r : R2} (ho : OpR X (compareOp op) r) (ha : PE X a ta) (hb : PE X b tb) (hm : behindInMarks op b = false) : PE X (.Compare a [op] [b] pos) (tOp r ta tb) := by
  intro pins s σ H Q I h
  exact wpAny_Compare1 (binT ha hb I h fun v u s2 x y H2 I2 rx ry q => ho pins s2 σ H2 x y v u Q I2 rx ry q) hm
/-- a reading of a value as a test -/
def tTest (t : TE) : TT := fun σ H Q => t σ H fun x H' => ∃ k, x = .bl k ∧ Q k H'
theorem pt_cmpR {op : CmpOp} {r : R2} (ho : OpR X (compareOp op) r) (ha : PE X a ta) (hb : PE X b tb) (hm : behindInMarks op b = false) : PT X (.Compare a [op] [b] pos) (tTest (tOp r ta tb)) := by
  intro pins s σ H Q I h
  refine wpAny_isTrue_Compare1 (thn (ha pins s σ H _ I h) fun v s1 ⟨x, H1, I1, r1, q1⟩ => thn (hb pins s1 σ H1 _ I1 q1) fun u s2 ⟨y, H2, I2, r2, q2⟩ =>
    thn (ho pins s2 σ H2 x y v u _ I2 r1 r2 q2) fun c s3 ⟨z, H3, I3, r3, k, e, q3⟩ => ?_) hm
  subst e
  cases r3
  exact wpAny_truthy_bool ⟨H3, I3, q3⟩
/-- a op1 b op2 c -/
def tChain (r r' : R2) (ta tb tc : TE) : TE := fun σ H Q => ta σ H fun x H1 => tb σ H1 fun y H2 => r x y H2 fun z H3 => ∃ k, z = .bl k ∧
  (if k = true then tc σ H3 fun w' H4 => r' y w' H4 Q else Q (.bl false) H3)
theorem pt_chain {op op' : CmpOp} {r r' : R2} (ho : OpR X (compareOp op) r) (ho' : OpR X (compareOp op') r') (ha : PE X a ta) (hb : PE X b tb) (hc : PE X c tc)
    (hm : lastMarks [op, op'] [b, c] = false := by with_unfolding_all rfl) : PT X (.Compare a [op, op'] [b, c] pos) (tTest (tChain r r' ta tb tc)) := by
  intro pins s σ H Q I h
  refine isTrue_chain (thn (ha pins s σ H _ I h) fun v s1 ⟨x, H1, I1, r1, q1⟩ => test_link (thn (hb pins s1 σ H1 _ I1 q1) fun u s2 ⟨y, H2, I2, r2, q2⟩ =>
    thn (ho pins s2 σ H2 x y v u _ I2 r1 r2 q2) fun d s3 ⟨z, H3, I3, r3, k, e, q3⟩ => ?_)) hm
  subst e
  cases r3
  refine wpAny_truthy_bool ?_
  cases k with
  | false =>
    obtain ⟨k', e', q'⟩ := q3
    cases e'
    exact ite_ff ⟨H3, I3, q'⟩
  | true =>
    refine ite_tt (test_last (thn (hc pins s3 σ H3 _ I3 q3) fun w' s4 ⟨z', H4, I4, r4, q4⟩ => thn (ho' pins s4 σ H4 y z' u w' _ I4 r2 r4 q4) fun d' s5 ⟨z2, H5, I5, r5, k2, e2, q5⟩ => ?_))
    subst e2
    cases r5
    exact wpAny_truthy_bool ⟨H5, I5, q5⟩

/-! ### truth -/
theorem line63 : (sizeLine : Nat) < 2 ^ 63 := by rw [sizeLine_eq]; decide
/-! ### strs and bytes -/
theorem op_add_str : OpR X (binaryOp .Add) (fun x y H Q => ∃ i j, x = .str i ∧ y = .str j ∧ i.length + j.length ≤ sizeLine ∧ Q (.str (i ++ j)) H) := by
  intro pins s σ H x y v u Q I rx ry h
  obtain ⟨i, j, rfl, rfl, hz, q⟩ := h
  obtain ⟨t, rfl⟩ := rx
  obtain ⟨t', rfl⟩ := ry
  exact add_str (fun t' tk => ⟨.str (i ++ j), H, I.tok _, ⟨_, rfl⟩, q⟩) hz
/-! ### scalar builtins, by CallR -/
theorem vals1 {x : V} {us : List Value} (r : Vals [x] us) : ∃ u, us = [u] ∧ RelV x u := by
  cases r with
  | cons r1 r2 => cases r2; exact ⟨_, rfl, r1⟩
theorem vals2 {x y : V} {us : List Value} (r : Vals [x, y] us) : ∃ u w', us = [u, w'] ∧ RelV x u ∧ RelV y w' := by
  cases r with
  | cons r1 r2 =>
    cases r2 with
    | cons r3 r4 => cases r4; exact ⟨_, _, rfl, r1, r3⟩
theorem call_abs : CallR X (.builtin "abs") (fun xs H Q => ∃ i, xs = [.int i] ∧ Q (.int (if i < 0 then -i else i)) H) := by
  intro pins s σ H xs us Q I r h
  obtain ⟨i, rfl, q⟩ := h
  obtain ⟨u, rfl, t, rfl⟩ := vals1 r
  exact call_abs_int fun u tk => ⟨.int (if i < 0 then -i else i), H, I.tok _, ⟨_, rfl⟩, q⟩
theorem call_max2 (hc : X.calm = true) : CallR X (.builtin "max") (fun xs H Q => ∃ i j, xs = [.int i, .int j] ∧ Q (.int (if j > i then j else i)) H) := by
  intro pins s σ H xs us Q I r h
  obtain ⟨i, j, rfl, q⟩ := h
  obtain ⟨u, w', rfl, ⟨t, rfl⟩, ⟨t', rfl⟩⟩ := vals2 r
  refine max_two_ints (I.ok.hd hc) fun h' tk k => ⟨_, H, I.kept k, ?_, q⟩
  by_cases hj : j > i
  · rw [if_pos hj, if_pos hj]; exact ⟨_, rfl⟩
  · rw [if_neg hj, if_neg hj]; exact ⟨_, rfl⟩
theorem call_min2 (hc : X.calm = true) : CallR X (.builtin "min") (fun xs H Q => ∃ i j, xs = [.int i, .int j] ∧ Q (.int (if j < i then j else i)) H) := by
  intro pins s σ H xs us Q I r h
  obtain ⟨i, j, rfl, q⟩ := h
  obtain ⟨u, w', rfl, ⟨t, rfl⟩, ⟨t', rfl⟩⟩ := vals2 r
  refine min_two_ints (I.ok.hd hc) fun h' tk k => ⟨_, H, I.kept k, ?_, q⟩
  by_cases hj : j < i
  · rw [if_pos hj, if_pos hj]; exact ⟨_, rfl⟩
  · rw [if_neg hj, if_neg hj]; exact ⟨_, rfl⟩
end
end L2

namespace L2
open PySem PySem.Spec PyProof.Rows

/-! ### an instance, its attributes a map -/
structure ObjM (h : Heap) (x dx C : Addr) (mA : Str → Option Value) : Prop where
  obj : h.get? x = some (PySem.W.instObj C dx)
  ns : h.Ns1 dx mA
  ne : dx ≠ x

theorem lookIn_ns {h : Heap} {dx : Addr} {mA : Str → Option Value} (n : h.Ns1 dx mA) : ∃ od, h.get? dx = some od ∧ ∀ name, PySem.W.lookIn name od = some (mA name) := by
  obtain ⟨o, es, ep, ho, hd, hk, _, hm⟩ := n
  refine ⟨o, ho, fun name => ?_⟩
  have e := hm name
  unfold nsFind findBy at e
  rw [← Array.find?_toList] at e
  unfold PySem.W.lookIn
  rw [hd]
  dsimp only
  split
  · rename_i y q
    rw [q] at e
    exact congrArg some e
  · rename_i q
    rw [q] at e
    have a : es.toList.any (·.refKey) = false := by
      rw [List.any_eq_false]
      intro y hy
      obtain ⟨z, t, hkey⟩ := hk y (Array.mem_toList_iff.mp hy)
      simp [DictEntry.refKey, hkey]
    have a' : ¬ es.toList.any (·.refKey) = true := by rw [a]; exact Bool.false_ne_true
    rw [if_neg a']
    exact congrArg some e

theorem ObjM.look {h : Heap} {x dx C : Addr} {mA : Str → Option Value} (I : ObjM h x dx C mA) : ∃ od, PySem.W.InstAt h x (PySem.W.instObj C dx) C (some od) ∧ ∀ name, PySem.W.lookIn name od = some (mA name) :=
  let ⟨od, ho, hl⟩ := lookIn_ns I.ns
  ⟨od, ⟨I.obj, rfl, rfl, ho⟩, hl⟩

section
variable {prog : Program} {w : World} {A : Around} {E : Value → Shared → Prop} {s : Shared} {K : PySem.W.Frag} {x dx C f : Addr} {mA : Str → Option Value} {name : Str} {v : Value}

theorem get_map {expr : Bool} {Q : Value → Shared → Prop} (X : K.In s.heap) (I : ObjM s.heap x dx C mA) (hg : PySem.W.plainGet K C name = true) (hh : PySem.W.hasDictIn K C = true)
    (ha : PySem.W.findIn K (.ref C) name = some none) (hv : mA name = some v) (hv' : PySem.W.handedIn v = true) (h : Q v { s with toks := s.toks + 1 }) :
    wpAny (model prog w) A (getAttr (.ref x) name expr) Q E s := by
  obtain ⟨od, J, hl⟩ := I.look
  exact PySem.W.get_value X J (PySem.W.plainGet_of hg).1 (PySem.W.findObj_own hh ha rfl (by rw [hl, hv])) hv' h

theorem set_map {ns : List Str} {Q : Unit → Shared → Prop} (X : K.In s.heap) (I : ObjM s.heap x dx C mA)
    (hs : PySem.W.findIn K (.ref C) "__setattr__" = some (some (.builtin "object.__setattr__"))) (hp : PySem.W.plainOver K C = true) (ht : PySem.W.takerIn K C name = some none) (hh : PySem.W.hasDictIn K C = true)
    (hw : PySem.Within mA ns) (hsz : ns.length ≤ sizeLine)
    (h : ∀ h', ObjM h' x dx C (fun y => if y = name then some v else mA y) → Heap.SameBut dx s.heap h' → Q () { s with heap := h', toks := s.toks + 2 }) :
    wpAny (model prog w) A (setAttr (.ref x) name v) Q E s := by
  obtain ⟨od, J, hl⟩ := I.look
  refine PySem.W.set_plain X J hs (PySem.W.osa_open (s := { s with toks := s.toks + 1 }) (r := none) X J hp ht fun b => ?_)
  obtain ⟨cd, hc, hd'⟩ := PySem.W.any_some hh
  have hx : s.heap.get? x = some ⟨.ref C, some dx, .plain, #[]⟩ := I.obj
  refine wpAny_bind (wpAny_pure (wpAny_bind (wpAny_bind (wpAny_loadPart hx (wpAny_bind (PySem.W.Looks.here (s := { s with toks := s.toks + 1 }) (PySem.W.looks_clsIn X hc) ?_))))))
  rw [hd']
  refine wpAny_pure (a := some dx) (wpAny_bind (wpAny_pure (wpAny_bind ?_)))
  refine wpAny_nsSet1 (s := { s with toks := s.toks + 1 }) I.ns fun h' hn2 hs2 => ?_
  obtain ⟨oD, esD, epD, hoD, hdD, hcD⟩ := hn2.count (PySem.Within.cons name v hw)
  refine wpAny_bind (wpAny_lookBehind hoD (by rw [hdD]; exact pastItsLine_dict (Nat.le_trans hcD (by rw [List.length_cons]; omega))) ?_)
  exact wpAny_pure (h _ ⟨(hs2.2 _ (Ne.symm I.ne)).trans I.obj, hn2, I.ne⟩ hs2)

/-- C(..): the dict at the heap's end, the instance behind it; then its __init__ -/
theorem make_map {R : Result → Shared → Prop} {vs : List Value} {kw : List (Str × Value)} (X : K.In s.heap) (hm : PySem.W.makesIn K C = true)
    (hi : PySem.W.findIn K (.ref C) "__init__" = some (some (.ref f))) (hf : PySem.W.typeIn K (.ref f) = some (.type "function"))
    (h : codeAny (model prog w) (A.under (.builtin "type.__call__" ⟨.ref C :: vs, kw⟩)) (.call (.ref f) ⟨.ref (s.heap.objs.size + 1) :: vs, kw⟩) (PySem.W.InitBack (s.heap.objs.size + 1) R)
      { s with heap := (s.heap.push PySem.W.emptyDict).push (PySem.W.instObj C s.heap.objs.size) }) :
    codeAny (model prog w) A (.call (.ref C) ⟨vs, kw⟩) R s := by
  obtain ⟨hh, g, d, t, os⟩ := s
  exact PySem.W.make_core (PySem.W.makes_of X hm) (PySem.W.looks_findIn X hi) (fun self => PySem.W.bind_fn X self hf) (.inl rfl) h
end

/-! ### the attributes as a list of pairs -/
def putF (f : Str) (v : V) : List (Str × V) → List (Str × V)
  | [] => [(f, v)]
  | (g, x) :: r => if g = f then (g, v) :: r else (g, x) :: putF f v r
theorem lookup_putF (f g : Str) (v : V) : ∀ fs : List (Str × V), (putF f v fs).lookup g = if g = f then some v else fs.lookup g
  | [] => by
    show List.lookup g [(f, v)] = _
    by_cases h : g = f
    · have hb : (g == f) = true := beq_iff_eq.mpr h
      simp only [List.lookup, hb, if_pos h]
    · have hb : (g == f) = false := beq_eq_false_iff_ne.mpr h
      simp only [List.lookup, hb, if_neg h]
  | (k, x) :: r => by
    have ih := lookup_putF f g v r
    rw [show putF f v ((k, x) :: r) = (if k = f then (k, v) :: r else (k, x) :: putF f v r) from rfl]
    by_cases hk : k = f
    · rw [if_pos hk]
      by_cases h : g = k
      · have hb : (g == k) = true := beq_iff_eq.mpr h
        simp only [List.lookup, hb, if_pos (h.trans hk)]
      · have hb : (g == k) = false := beq_eq_false_iff_ne.mpr h
        simp only [List.lookup, hb, if_neg (fun e : g = f => h (e.trans hk.symm))]
    · rw [if_neg hk]
      by_cases h : g = k
      · have hb : (g == k) = true := beq_iff_eq.mpr h
        simp only [List.lookup, hb, if_neg (fun e : g = f => hk (h.symm.trans e))]
      · have hb : (g == k) = false := beq_eq_false_iff_ne.mpr h
        simp only [List.lookup, hb]
        exact ih
theorem keys_putF (f : Str) (v : V) : ∀ fs : List (Str × V), f ∈ (putF f v fs).map (·.1) ∧ ∀ g, g ∈ fs.map (·.1) → g ∈ (putF f v fs).map (·.1)
  | [] => ⟨by simp [putF], fun g h => by simp at h⟩
  | (k, x) :: r => by
    obtain ⟨i1, i2⟩ := keys_putF f v r
    rw [show putF f v ((k, x) :: r) = (if k = f then (k, v) :: r else (k, x) :: putF f v r) from rfl]
    by_cases hk : k = f
    · rw [if_pos hk]
      subst hk
      exact ⟨by simp, fun g h => by simpa using h⟩
    · rw [if_neg hk]
      refine ⟨?_, fun g h => ?_⟩
      · rw [List.map_cons]
        exact List.mem_cons_of_mem _ i1
      · rw [List.map_cons] at h ⊢
        rcases List.mem_cons.mp h with e | e
        · exact List.mem_cons.mpr (.inl e)
        · exact List.mem_cons_of_mem _ (i2 g e)
theorem length_putF (f : Str) (v : V) : ∀ fs : List (Str × V), (putF f v fs).length ≤ fs.length + 1
  | [] => by simp [putF]
  | (k, x) :: r => by
    have ih := length_putF f v r
    rw [show putF f v ((k, x) :: r) = (if k = f then (k, v) :: r else (k, x) :: putF f v r) from rfl]
    by_cases hk : k = f
    · rw [if_pos hk, List.length_cons, List.length_cons]; omega
    · rw [if_neg hk, List.length_cons, List.length_cons]; omega

theorem RelO.some_of {v : V} {o : Option Value} (r : RelO (some v) o) : ∃ u, o = some u ∧ RelV v u := by
  cases o with
  | none => exact (show False from r).elim
  | some u => exact ⟨u, rfl, r⟩
theorem handed_of {v : V} {u : Value} (r : RelV v u) : PySem.W.handedIn u = true := by
  cases v with
  | non => cases (show u = Value.none from r); rfl
  | bl b => cases (show u = Value.bool b from r); rfl
  | int i => obtain ⟨t, e⟩ := (show ∃ t, u = Value.int i t from r); cases e; rfl
  | str x => obtain ⟨t, e⟩ := (show ∃ t, u = Value.str x t from r); cases e; rfl
  | byt b => obtain ⟨t, e⟩ := (show ∃ t, u = Value.bytes b t from r); cases e; rfl
  | flt b => obtain ⟨t, e⟩ := (show ∃ t, u = Value.float b t from r); cases e; rfl
  | ref a => cases (show u = Value.ref a from r); rfl
  | ty n => cases (show u = Value.type n from r); rfl

section
variable {P : Program} {w : World} {H H' : Hp} {h h' : Heap} {a C dx : Addr} {fs fs' : List (Str × V)}
theorem ins_get (hok : HOk P w H h) (e : H a = some (.ins C dx fs)) : ∃ mA, ObjM h a dx C mA ∧ (∀ f, RelO (fs.lookup f) (mA f)) ∧ PySem.Within mA (fs.map (·.1)) ∧ fs.length ≤ 1000 ∧ H dx = some (.own a) := by
  obtain ⟨d, z, ne, ob, mA, n, r, q⟩ := (show ObjOk P w H h a (.ins C dx fs) from hok a _ e)
  exact ⟨mA, ⟨ob, n, ne⟩, r, q, z, d⟩
end

/-! ### what of the text a class must have -/
structure Cls (K : PySem.W.Frag) (C : Addr) : Prop where
  pg : PySem.W.plainGet K C Str.empty = true
  hd : PySem.W.hasDictIn K C = true
  po : PySem.W.plainOver K C = true
  sa : PySem.W.findIn K (.ref C) "__setattr__" = some (some (.builtin "object.__setattr__"))
theorem Cls.get {K : PySem.W.Frag} {C : Addr} (c : Cls K C) (f : Str) : PySem.W.plainGet K C f = true := c.pg
/-- no class of it has the name -/
def NoAttr (K : PySem.W.Frag) (C : Addr) (f : Str) : Prop := PySem.W.findIn K (.ref C) f = some none
theorem NoAttr.taker {K : PySem.W.Frag} {C : Addr} {f : Str} (n : NoAttr K C f) : PySem.W.takerIn K C f = some none := by
  unfold PySem.W.takerIn
  rw [show PySem.W.findIn K (.ref C) f = some none from n]
  rfl
section
variable {X : Cx} {pins : List (Addr × Obj)} {σ : St} {H : Hp} {s : Shared} {a C dx : Addr} {fs : List (Str × V)} {f : Str} {v : V} {A : Around} {E : Value → Shared → Prop}

theorem getattr_ok {b : Bool} {Q : Value → Shared → Prop} (I : Inv X pins σ H s) (e : H a = some (.ins C dx fs)) (c : Cls X.K C) (n : NoAttr X.K C f) (l : fs.lookup f = some v)
    (h : ∀ u s', Inv X pins σ H s' → RelV v u → Q u s') : wpAny (model X.prog X.w) A (getAttr (.ref a) f b) Q E s := by
  obtain ⟨mA, O, r, _, _, _⟩ := ins_get I.hok e
  obtain ⟨u, hu, ru⟩ := RelO.some_of (v := v) (o := mA f) (by rw [← l]; exact r f)
  exact get_map I.kIn O (c.get f) c.hd n hu (handed_of ru) (h u _ (I.tok _) ru)

theorem setattr_ok {y : V} {u : Value} {Q : Unit → Shared → Prop} (I : Inv X pins σ H s) (e : H a = some (.ins C dx fs)) (c : Cls X.K C) (n : NoAttr X.K C f) (hl : fs.length < 1000) (ry : RelV y u)
    (h : ∀ s', Inv X pins σ (upd H a (.ins C dx (putF f y fs))) s' → Q () s') : wpAny (model X.prog X.w) A (setAttr (.ref a) f u) Q E s := by
  obtain ⟨mA, O, r, wi, _, ho⟩ := ins_get I.hok e
  have hz : (fs.map (·.1)).length ≤ sizeLine := by rw [List.length_map, sizeLine_eq]; omega
  refine set_map I.kIn O c.sa c.po n.taker c.hd wi hz fun h' O' sb => h _ ?_
  have hd : ∃ o, h'.get? dx = some o := let ⟨o, _, _, e', _⟩ := O'.ns; ⟨o, e'⟩
  refine I.write (x := a) (e := dx) (by rw [e]; exact True.intro) (.inr ho) (fun b q hb z => (sb.2 b hb).trans z) hd ?_
  refine ⟨by rw [upd_ne O.ne]; exact ho, ?_, O.ne, O'.obj, _, O'.ns, fun g => ?_, fun g hg => ?_⟩
  · have := length_putF f y fs; omega
  · show RelO ((putF f y fs).lookup g) (if g = f then some u else mA g)
    rw [lookup_putF]
    by_cases q : g = f
    · rw [if_pos q, if_pos q]; exact ry
    · rw [if_neg q, if_neg q]; exact r g
  · by_cases q : g = f
    · rw [q]; exact (keys_putF f y fs).1
    · refine (keys_putF f y fs).2 g (wi g fun z => hg ?_)
      show (if g = f then some u else mA g) = none
      rw [if_neg q]; exact z

/-- a new instance, tracked, without attributes -/
theorem Inv.made (I : Inv X pins σ H s) : Inv X pins σ (upd (upd H s.heap.objs.size (.own (s.heap.objs.size + 1))) (s.heap.objs.size + 1) (.ins C s.heap.objs.size []))
    { s with heap := (s.heap.push PySem.W.emptyDict).push (PySem.W.instObj C s.heap.objs.size) } := by
  have e1 : (s.heap.push PySem.W.emptyDict).get? s.heap.objs.size = some PySem.W.emptyDict := Heap.get?_push_size s.heap rfl
  have e2 : ((s.heap.push PySem.W.emptyDict).push (PySem.W.instObj C s.heap.objs.size)).get? (s.heap.objs.size + 1) = some (PySem.W.instObj C s.heap.objs.size) := by
    have := Heap.get?_push_size (s.heap.push PySem.W.emptyDict) (o := PySem.W.instObj C s.heap.objs.size) rfl
    rwa [Heap.size_push] at this
  have e3 : (s.heap.push PySem.W.emptyDict).Ns s.heap.objs.size (fun _ => none) := ⟨PySem.W.emptyDict, #[], _, e1, rfl, (fun e he => absurd he (by simp)), fun _ => rfl⟩
  have I1 := I.laid (a := s.heap.objs.size) (o := .own (s.heap.objs.size + 1)) (h' := s.heap.push PySem.W.emptyDict) (t' := s.toks) (fun b u q => Heap.get?_push_of_some _ q) (Nat.le_refl _) ⟨_, e1⟩
  refine I1.laid (a := s.heap.objs.size + 1) (o := .ins C s.heap.objs.size []) (t' := s.toks) (fun b u q => Heap.get?_push_of_some _ q) (Nat.le_of_eq (Heap.size_push _ _)) ?_
  have ne : s.heap.objs.size ≠ s.heap.objs.size + 1 := Nat.ne_of_lt (Nat.lt_succ_self _)
  refine ⟨by rw [upd_ne ne, upd_same], Nat.zero_le _, ne, e2, fun _ => none, (Heap.Ns1.of_empty e3).at fun o q => Heap.get?_push_of_some _ q, fun _ => True.intro, fun y hy => absurd rfl hy⟩

/-- e.f where nothing but the object is asked: through attributeBase (super) and the last hold -/
theorem attr_of {prog : Program} {w : World} {env : Env} {e : Expr} {f : Str} {pos : Pos} {s : Shared} {Q : Value → Shared → Prop} (hb : attributeBase e f env (eval e env) = eval e env)
    (h : wpAny (model prog w) A (eval e env) (fun o s₁ => wpAny (model prog w) A (getAttr o f true) Q E s₁) E s) : wpAny (model prog w) A (eval (.Attribute e f pos) env) Q E s :=
  Attribute_any_ h (by rw [arm_eval_Attribute, hb])
end

/-! ### readings and rules -/
/-- e.f, an attribute of the instance -/
def tFld (K : PySem.W.Frag) (ta : TE) (f : Str) : TE := fun σ H Q => ta σ H fun x H1 => ∃ a C dx fs v, x = .ref a ∧ H1 a = some (.ins C dx fs) ∧ Cls K C ∧ NoAttr K C f ∧ fs.lookup f = some v ∧ Q v H1
/-- e.f = value -/
def sFld (K : PySem.W.Frag) (ta tv : TE) (f : Str) : TS := fun D σ H => tv σ H fun y H1 => ta σ H1 fun x H2 => ∃ a C dx fs, x = .ref a ∧ H2 a = some (.ins C dx fs) ∧ Cls K C ∧ NoAttr K C f ∧ fs.length < 1000 ∧
  D.nx σ (upd H2 a (.ins C dx (putF f y fs)))
section
variable {X : Cx} {o e value : Expr} {f : Str} {pos pos' tpos : Pos} {ta tv : TE}
theorem pe_fld (he : PE X e ta) (hb : attributeBase e f X.env (eval e X.env) = eval e X.env) : PE X (.Attribute e f pos) (tFld X.K ta f) := by
  intro pins s σ H Q I h
  refine attr_of hb (thn (he pins s σ H _ I h) fun u s1 ⟨x, H1, I1, rx, a, C, dx, fs, v, ex, ea, c, n, l, q⟩ => ?_)
  subst ex
  obtain rfl : u = Value.ref a := rx
  exact getattr_ok I1 ea c n l fun u' s2 I2 ru => ⟨v, H1, I2, ru, q⟩
theorem ps_fld (ha : PE X o ta) (hv : PE X value tv) (hs : swapsWith value (some (.Attribute o f pos')) pos.line X.env = pure false) : PS X (.Assign [.Attribute o f pos'] value pos) (sFld X.K ta tv f) := by
  intro pins s σ H D I h
  refine plainObj_wpAny_Assign_Attribute (thn (hv pins s σ H _ I h) fun u s1 ⟨y, H1, I1, ry, q⟩ => thn (ha pins s1 σ H1 _ I1 q) fun ov s2 ⟨x, H2, I2, rx, a, C, dx, fs, ex, ea, c, n, l, q2⟩ => ?_) hs
  subst ex
  obtain rfl : ov = Value.ref a := rx
  exact setattr_ok I2 ea c n l ry fun s3 I3 => ⟨σ, _, I3, q2⟩
end

/-! ### isinstance -/
section
variable {X : Cx} {pins : List (Addr × Obj)} {σ : St} {H : Hp} {s : Shared} {A : Around} {E : Value → Shared → Prop} {Q : Value → Shared → Prop} {c : Value} {b : Bool}
/-- the type of a value, as the fragment's deciders take it; for an instance its class -/
inductive TyOf (K : PySem.W.Frag) (H : Hp) : V → Value → Prop where
  | non : TyOf K H .non (.type "NoneType")
  | bl (x : Bool) : TyOf K H (.bl x) (.type "bool")
  | int (i : Int) : TyOf K H (.int i) (.type "int")
  | str (x : Str) : TyOf K H (.str x) (.type "str")
  | flt (x : UInt64) : TyOf K H (.flt x) (.type "float")
  | lst {a : Addr} {xs : List V} (e : H a = some (.lst xs)) : TyOf K H (.ref a) (.type "list")
  | frz {a : Addr} {o : Obj} {xs : List V} (e : H a = some (.frz o (.lst xs))) : TyOf K H (.ref a) (.type "list")
  | tup {a : Addr} {xs : List V} (e : H a = some (.tup xs)) : TyOf K H (.ref a) (.type "tuple")
  | dK {a : Addr} {kvs : List (Key × V)} (e : H a = some (.dK kvs)) : TyOf K H (.ref a) (.type "dict")
  | dT {a : Addr} {kvs : List (List Key × V)} (e : H a = some (.dT kvs)) : TyOf K H (.ref a) (.type "dict")
  | ins {a C dx : Addr} {fs : List (Str × V)} (e : H a = some (.ins C dx fs)) (cl : Cls K C) (ha : PySem.W.findIn K (.ref C) "__class__" = some (some (.builtin "object.__class__")))
      (hn : PySem.W.specialIn K (.builtin "object.__class__") "__get__" = some (some (.builtin "getset_descriptor.__get__"))) (htk : PySem.W.takesIn K (.builtin "object.__class__") = some true)
      (hm : PySem.W.mroIn K C (.type "object") = some true) : TyOf K H (.ref a) (.ref C)
/-- isinstance(x, c) for one class c, a built-in or an own one: kitOne's answer -/
theorem isinst_ok {x : V} {u t : Value} (I : Inv X pins σ H s) (rx : RelV x u) (ty : TyOf X.K H x t) (e : PySem.W.kitOne X.K t c = some b) (h : ∀ tk, Q (.bool b) { s with toks := tk }) :
    wpAny (model X.prog X.w) A (call (.builtin "isinstance") [u, c]) Q E s := by
  cases ty with
  | non => cases (show u = Value.none from rx); exact PySem.W.kia_one PySem.W.kitx_none I.kIn True.intro e (fun z => nomatch z) h
  | bl y => cases (show u = Value.bool y from rx); exact PySem.W.kia_one PySem.W.kitx_bool I.kIn True.intro e (fun z => nomatch z) h
  | int i => obtain ⟨t, q⟩ := (show ∃ t, u = Value.int i t from rx); cases q; exact PySem.W.kia_one PySem.W.kitx_int I.kIn True.intro e (fun z => nomatch z) h
  | str y => obtain ⟨t, q⟩ := (show ∃ t, u = Value.str y t from rx); cases q; exact PySem.W.kia_one PySem.W.kitx_str I.kIn True.intro e (fun z => nomatch z) h
  | flt y => obtain ⟨t, q⟩ := (show ∃ t, u = Value.float y t from rx); cases q; exact PySem.W.kia_one PySem.W.kitx_float I.kIn True.intro e (fun z => nomatch z) h
  | @lst a xs ea =>
    cases (show u = Value.ref a from rx)
    obtain ⟨_, _, n, _, h1⟩ := (show ObjOk X.prog X.w H s.heap a (.lst xs) from I.hok a _ ea)
    exact PySem.W.kia_one PySem.W.kitx_list I.kIn ⟨_, h1, rfl⟩ e (fun z => nomatch z) h
  | @frz a ob xs ea =>
    cases (show u = Value.ref a from rx)
    obtain ⟨_, _, _, n, _, h1⟩ := (show ObjOk X.prog X.w H s.heap a (.frz ob (.lst xs)) from I.hok a _ ea)
    exact PySem.W.kia_one PySem.W.kitx_list I.kIn ⟨_, h1, rfl⟩ e (fun z => nomatch z) h
  | @tup a xs ea =>
    cases (show u = Value.ref a from rx)
    obtain ⟨_, _, _, p⟩ := (show ObjOk X.prog X.w H s.heap a (.tup xs) from I.hok a _ ea)
    obtain ⟨o, h1, h2, _⟩ := p
    exact PySem.W.kia_one PySem.W.kitx_tuple I.kIn ⟨o, h1, h2⟩ e (fun z => nomatch z) h
  | @dK a kvs ea =>
    cases (show u = Value.ref a from rx)
    obtain ⟨_, _, vs, _, p⟩ := (show ObjOk X.prog X.w H s.heap a (.dK kvs) from I.hok a _ ea)
    obtain ⟨o, es, ep, h1, h2, _⟩ := p
    exact PySem.W.kia_one PySem.W.kitx_dict I.kIn ⟨o, h1, h2.1⟩ e (fun z => nomatch z) h
  | @dT a kvs ea =>
    cases (show u = Value.ref a from rx)
    obtain ⟨_, _, xs, _, o, es, ep, h1, h2, _⟩ := (show ObjOk X.prog X.w H s.heap a (.dT kvs) from I.hok a _ ea)
    exact PySem.W.kia_one PySem.W.kitx_dict I.kIn ⟨o, h1, h2.1⟩ e (fun z => nomatch z) h
  | @ins a C dx fs ea cl ha hn htk hm =>
    cases (show u = Value.ref a from rx)
    obtain ⟨mA, O, _⟩ := ins_get I.hok ea
    obtain ⟨od, J, _⟩ := O.look
    exact PySem.W.kia_one (PySem.W.kitx_own (cl.get _) cl.hd ha hn htk hm) I.kIn J e (fun z => nomatch z) h
end
end L2

namespace L2
open PySem PySem.Spec PyProof.Rows

/-! ### room -/
structure Room (k : Nat) (A : Around) : Prop where
  hd : A.handled = none
  dp : A.depth + 3 * k + 5 < recursionLimit
  un : A.units + 16 * k + 200 < cLine
theorem Room.mono {j k : Nat} {A : Around} (r : Room k A) (h : j ≤ k) : Room j A := ⟨r.hd, by have := r.dp; omega, by have := r.un; omega⟩
theorem Room.deeper {k : Nat} {A : Around} (r : Room (k + 1) A) (env : Env) : Room k (A.deeper env) :=
  ⟨r.hd, by have := r.dp; show A.depth + 1 + 3 * k + 5 < _; omega, by have := r.un; show A.units + 3 + 16 * k + 200 < _; omega⟩
theorem make_depth {A : Around} {C : Addr} {us : List Value} {kw : List (Str × Value)} : (A.under (.builtin "type.__call__" ⟨.ref C :: us, kw⟩)).depth = A.depth + 1 := by
  first | rfl | simp [Around.under, Code.weight, Code.isCreation, Code.isGuard, Code.isCaller, Code.frames, Code.isFrame, guardIds]
theorem make_units {A : Around} {C : Addr} {us : List Value} {kw : List (Str × Value)} : (A.under (.builtin "type.__call__" ⟨.ref C :: us, kw⟩)).units = A.units + 1 := by
  first | rfl | simp [Around.under, Code.cUnits, Code.frames, Code.isFrame]
theorem Room.make {k : Nat} {A : Around} (r : Room (k + 1) A) (C : Addr) (us : List Value) (kw : List (Str × Value)) : Room k (A.under (.builtin "type.__call__" ⟨.ref C :: us, kw⟩)) :=
  ⟨r.hd, by have := r.dp; rw [make_depth]; omega, by have := r.un; rw [make_units]; omega⟩
theorem Room.depth {k : Nat} {A : Around} (r : Room k A) : A.depth < recursionLimit := by have := r.dp; omega
theorem Room.units {k : Nat} {A : Around} (r : Room k A) : A.units + 64 < cLine := by have := r.un; omega
theorem Room.units0 {k : Nat} {A : Around} (r : Room k A) : A.units < cLine := by have := r.un; omega

/-! ### argument lists and displays -/
def tNil : TA := fun _ H Q => Q [] H
def tCons (ta : TE) (tr : TA) : TA := fun σ H Q => ta σ H fun x H1 => tr σ H1 fun xs H2 => Q (x :: xs) H2
section
variable {X : Cx} {e : Expr} {es : List Expr} {te : TE} {t : TA} {pos : Pos}
theorem pa_nil : PA X [] tNil := fun _ _ _ _ H Q I h => Calls.spliced_nil ⟨[], H, I, .nil, h⟩
theorem pa_cons (ha : PE X e te) (hr : PA X es t) (hs : starEach (e :: es) X.env = (false, eval e X.env) :: starEach es X.env := by rfl) : PA X (e :: es) (tCons te t) := by
  intro pos pins s σ H Q I h
  rw [hs]
  show wpAny _ _ (spliced ((false, eval e X.env) :: backTo pos (starEach es X.env))) _ _ s
  refine Calls.spliced_cons (thn (ha pins s σ H _ I h) fun u s1 ⟨x, H1, I1, r1, q1⟩ => ?_)
  exact thn (hr pos pins s1 σ H1 _ I1 q1) fun us s2 ⟨xs, H2, I2, r2, q2⟩ => ⟨x :: xs, H2, I2, .cons r1 r2, q2⟩

/-- a tuple, a list of written items -/
def tTup (t : TA) : TE := fun σ H Q => t σ H fun xs H1 => xs.length ≤ sizeLine ∧ ∀ p, H1 p = none → Q (.ref p) (upd H1 p (.tup xs))
def tLst (t : TA) : TE := fun σ H Q => t σ H fun xs H1 => xs.length ≤ sizeLine ∧ ∀ p, H1 p = none → Q (.ref p) (upd H1 p (.lst xs))
theorem pe_tup {x1} (h : PA X es t) : PE X (.Tuple es x1 pos) (tTup t) := by
  intro pins s σ H Q I hq
  refine wpAny_Tuple_spliced (thn (h pos pins s σ H _ I hq) fun us s1 ⟨xs, H1, I1, r, z, q⟩ => ⟨by rw [← r.length]; exact z, ?_⟩)
  have hf : H1 s1.heap.objs.size = none := I1.hok.fresh (Nat.le_refl _)
  refine ⟨.ref s1.heap.objs.size, upd H1 s1.heap.objs.size (.tup xs), I1.laid (t' := s1.toks) (fun b u e => Heap.get?_push_of_some _ e) (Nat.le_refl _) ?_, rfl, q _ hf⟩
  exact ⟨z, us, r, ⟨_, Heap.get?_push_size _ rfl, rfl, _, rfl⟩⟩
theorem pe_lst (h : PA X es t) : PE X (.List es pos) (tLst t) := by
  intro pins s σ H Q I hq
  refine wpAny_List_spliced (thn (h pos pins s σ H _ I hq) fun us s1 ⟨xs, H1, I1, r, z, q⟩ => ⟨by rw [← r.length]; exact z, ?_⟩)
  have hf : H1 s1.heap.objs.size = none := I1.hok.fresh (Nat.le_refl _)
  refine ⟨.ref s1.heap.objs.size, upd H1 s1.heap.objs.size (.lst xs), I1.laid (t' := s1.toks) (fun b u e => Heap.get?_push_of_some _ e) (Nat.le_refl _) ?_, rfl, q _ hf⟩
  exact ⟨z, us, 0, r, Heap.get?_push_size _ rfl⟩
end

/-! ### what a def promises -/
/-- a def's promise: the bound arguments in the parameters' order, the heap, the wanted end, the wanted exception -/
abbrev Sp := List V → Hp → VK → XK → Prop
/-- how an exception lies behind a call (file 08 gives it): the callers' frames, abstract heap and state ahead of the call, the wish, the exception, the state -/
abbrev CXT := List Env → Hp → Shared → XK → Value → Shared → Prop

/-- the state at a call -/
structure Env0 (P : Program) (w : World) (K : PySem.W.Frag) (mg : Str → Option Value) (base : Heap) (A : Around) (outer : List Env) (s : Shared) (H : Hp) : Prop where
  frames : A.frames = some outer
  mod : Mod K mg base
  bs : ∀ b o, base.get? b = some o → s.heap.get? b = some o ∧ H b = none
  bsz : base.objs.size ≤ s.heap.objs.size
  funs : s.heap.FunFrames base outer
  frf : ∀ b ∈ frs outer, H b = none
  hok : HOk P w H s.heap
  bare : AllBare s.gens
/-- a call's end -/
def CE (outer : List Env) (P : Program) (w : World) (H : Hp) (s : Shared) (Q : VK) (u : Value) (s' : Shared) : Prop :=
  ∃ v H', s'.os = s.os ∧ AllBare s'.gens ∧ Un (frs outer) [] H H' s.heap s'.heap ∧ HOk P w H' s'.heap ∧ RelV v u ∧ Q v H'
def CR (CX : CXT) (outer : List Env) (P : Program) (w : World) (H : Hp) (s : Shared) (Q : VK) (E : XK) (r : Result) (s' : Shared) : Prop :=
  match r with
  | .ok (.ret u) => CE outer P w H s Q u s'
  | .ok _ => False
  | .error e => CX outer H s E e s'
structure FnOk (P : Program) (w : World) (K : PySem.W.Frag) (mg : Str → Option Value) (base : Heap) (CX : CXT) (k : Nat) (f : Addr) (fd : FuncData) (ps : List Str) (sp : Sp) : Prop where
  len : ∀ vs H Q E, sp vs H Q E → vs.length = ps.length
  run : ∀ (A : Around) (outer : List Env) (s : Shared) (H : Hp) (args : Args) (us : List Value) (vs : List V) (Q : VK) (E : XK), Room k A → Env0 P w K mg base A outer s H → BindsTo s fd args (ps.zip us) → Vals vs us → sp vs H Q E →
    codeAny (model P w) A (.call (.ref f) args) (CR CX outer P w H s Q E) s
theorem Env0.make {P : Program} {w : World} {K : PySem.W.Frag} {mg : Str → Option Value} {base : Heap} {A : Around} {outer : List Env} {s : Shared} {H : Hp} (e : Env0 P w K mg base A outer s H) (C : Addr) (us : List Value) (kw : List (Str × Value)) :
    Env0 P w K mg base (A.under (.builtin "type.__call__" ⟨.ref C :: us, kw⟩)) outer s H := ⟨by first | exact e.frames | (simpa [Around.under, Code.envs, Code.isFrame, pushEnvs] using e.frames), e.mod, e.bs, e.bsz, e.funs, e.frf, e.hok, e.bare⟩
section
variable {X : Cx} {pins : List (Addr × Obj)} {σ : St} {H : Hp} {s s' : Shared}
/-- from a body: what a callee wants -/
theorem Inv.env0 (I : Inv X pins σ H s) : Env0 X.prog X.w X.K X.mg X.base X.A X.stack s H :=
  ⟨I.ok.frames, I.ok.mod, I.bs, Nat.le_trans I.ok.bsz I.sz, I.stack, I.stkFree, I.hok, I.bare⟩
/-- behind a call -/
theorem Inv.after {Q : VK} {u : Value} (I : Inv X pins σ H s) (h : CE X.stack X.prog X.w H s Q u s') : EP X pins σ Q u s' := by
  obtain ⟨v, H', os, bare, un, hok, r, q⟩ := h
  obtain ⟨hh, g, d, t, os'⟩ := s'
  obtain rfl : os' = s.os := os
  exact ⟨v, H', I.call (h' := hh) (g' := g) (d' := d) (t' := t) (ch := []) un hok bare (fun b z => absurd z (by simp)), r, q⟩
end

/-! ### calls -/
/-- f(..): the written arguments, then the defaults dvs; E: what is wanted of an exception -/
def tCall (sp : Sp) (dvs : List V) (E : XK) (t : TA) : TE := fun σ H Q => t σ H fun vs H1 => sp (vs ++ dvs) H1 Q E
/-- C(..): a new instance and its dict, then __init__ -/
def tMake (C : Addr) (sp : Sp) (dvs : List V) (E : XK) (t : TA) : TE := fun σ H Q => t σ H fun vs H1 => ∀ x dx, H1 x = none → H1 dx = none → dx ≠ x →
  sp (.ref x :: (vs ++ dvs)) (upd (upd H1 dx (.own x)) x (.ins C dx [])) (fun v H2 => v = .non ∧ Q (.ref x) H2) E

/-- how the parameters are bound: us the positional arguments, kw the keywords' values by name, ds the defaults that fill up -/
def Binds (K : PySem.W.Frag) (fd : FuncData) (ps : List Str) (ds : List Value) : Prop :=
  ∀ (s : Shared) (us : List Value), K.In s.heap → (us ++ ds).length = ps.length → BindsTo s fd ⟨us, []⟩ (ps.zip (us ++ ds))
/-- every parameter is given -/
theorem Binds.all {K : PySem.W.Frag} {fd : FuncData} {ps : List Str} (h : ∀ us : List Value, us.length = ps.length → bindArgs fd ⟨us, []⟩ = pure (ps.zip us)) : Binds K fd ps [] := fun s us _ hl => by
  rw [List.append_nil] at hl ⊢
  exact .of_eq (h us hl)

/-- an exception of a callee reaches what this body wants of exceptions -/
def Passes (CX : CXT) (X : Cx) (E : XK) : Prop := ∀ (pins : List (Addr × Obj)) (σ : St) (H : Hp) (s : Shared) (e : Value) (s' : Shared), Inv X pins σ H s → CX X.stack H s E e s' → X.xe e s'

section
variable {X : Cx} {CX : CXT} {k : Nat} {f C : Addr} {fd : FuncData} {ps : List Str} {sp : Sp} {dvs : List V} {ds : List Value} {E : XK} {x m : Str} {p pos apos : Pos} {e o : Expr} {es : List Expr} {ta : TE} {t : TA}

/-- the callee runs -/
theorem run_fn {pins : List (Addr × Obj)} {σ : St} {H : Hp} {s : Shared} {Q : VK} {us : List Value} {vs : List V} (F : FnOk X.prog X.w X.K X.mg X.base CX k f fd ps sp) (hr : Room k X.A) (hb : Binds X.K fd ps ds) (hd : Vals dvs ds) (hx : Passes CX X E)
    (I : Inv X pins σ H s) (r : Vals vs us) (h : sp (vs ++ dvs) H Q E) : wpAny (model X.prog X.w) X.A (call (.ref f) us) (EP X pins σ Q) X.xe s := by
  have r2 : Vals (vs ++ dvs) (us ++ ds) := r.append hd
  have hl : (us ++ ds).length = ps.length := by rw [← r2.length]; exact F.len _ _ _ _ h
  refine wpAny_call (codeAny_mono (F.run X.A X.stack s H ⟨us, []⟩ (us ++ ds) (vs ++ dvs) Q E hr I.env0 (hb s us I.kIn hl) r2 h) fun r s' hq => ?_)
  cases r with
  | error e => exact hx pins σ H s e s' I hq
  | ok fl =>
    cases fl with
    | ret u => exact I.after hq
    | next => exact False.elim hq
    | brk => exact False.elim hq
    | cont => exact False.elim hq

theorem pe_call (F : FnOk X.prog X.w X.K X.mg X.base CX k f fd ps sp) (hr : Room k X.A) (hg : Gl X x) (hm : X.mg x = some (.ref f)) (hk : PySem.W.keepIn X.K (.ref f) = true) (hb : Binds X.K fd ps ds) (hd : Vals dvs ds) (hx : Passes CX X E)
    (ha : PA X (e :: es) t) (hdb : (x == ("__debug__" : Str)) = false := by decide) (he : starEach (e :: es) X.env = (false, eval e X.env) :: starEach es X.env := by rfl) (hpl : (backTo pos (starEach es X.env)).any (·.1) = false := by rfl) :
    PE X (.Call (.Name x p) (e :: es) [] pos) (tCall sp dvs E t) := by
  intro pins s σ H Q I h
  refine wpAny_Call_Name_kw (ld_glob I hg hm ?_ hdb)
  refine PySem.W.callWith_K (h₀ := X.base) I.ok.mod.kin hk (thn (ha pos pins s σ H _ I h) fun us s1 ⟨vs, H1, I1, r, q⟩ => ⟨I1.kIn, ?_⟩) he hpl
  exact run_fn F hr hb hd hx I1 r q
/-- what a class must have to be made -/
structure Mk (K : PySem.W.Frag) (C f : Addr) : Prop where
  makes : PySem.W.makesIn K C = true
  init : PySem.W.findIn K (.ref C) "__init__" = some (some (.ref f))
  fn : PySem.W.isFn K (.ref f) = true
  kp : PySem.W.keepIn K (.ref C) = true

theorem run_make {pins : List (Addr × Obj)} {σ : St} {H : Hp} {s : Shared} {Q : VK} {us : List Value} {vs : List V} (M : Mk X.K C f) (F : FnOk X.prog X.w X.K X.mg X.base CX k f fd ps sp) (hr : Room (k + 1) X.A) (hb : Binds X.K fd ps ds) (hd : Vals dvs ds)
    (hx : Passes CX X E) (I : Inv X pins σ H s) (r : Vals vs us)
    (h : ∀ x dx, H x = none → H dx = none → dx ≠ x → sp (.ref x :: (vs ++ dvs)) (upd (upd H dx (.own x)) x (.ins C dx [])) (fun v H2 => v = .non ∧ Q (.ref x) H2) E) :
    wpAny (model X.prog X.w) X.A (call (.ref C) us) (EP X pins σ Q) X.xe s := by
  have hq := h (s.heap.objs.size + 1) s.heap.objs.size (I.hok.fresh (Nat.le_succ _)) (I.hok.fresh (Nat.le_refl _)) (Nat.ne_of_lt (Nat.lt_succ_self _))
  have I2 := Inv.made (C := C) I
  have r2 : Vals (V.ref (s.heap.objs.size + 1) :: (vs ++ dvs)) (Value.ref (s.heap.objs.size + 1) :: (us ++ ds)) := .cons rfl (r.append hd)
  have hl : (Value.ref (s.heap.objs.size + 1) :: us ++ ds).length = ps.length := by
    have e := r2.length
    rw [F.len _ _ _ _ hq] at e
    exact e.symm
  refine wpAny_call (make_map (f := f) I.kIn M.makes M.init (beq_iff_eq.mp M.fn) (codeAny_mono (F.run _ X.stack _ _ ⟨Value.ref (s.heap.objs.size + 1) :: us, []⟩ (Value.ref (s.heap.objs.size + 1) :: (us ++ ds)) _ _ E (hr.make C us [])
    (I2.env0.make C us []) (hb _ (Value.ref (s.heap.objs.size + 1) :: us) I2.kIn hl) r2 hq) fun r s' hq' => ?_))
  cases r with
  | error e => exact hx pins σ _ _ e s' I2 hq'
  | ok fl =>
    cases fl with
    | ret u =>
      obtain ⟨v, H', I3, rv, ev, q3⟩ := I2.after hq'
      subst ev
      exact ⟨rv, ⟨V.ref (s.heap.objs.size + 1), H', I3, rfl, q3⟩⟩
    | next => exact False.elim hq'
    | brk => exact False.elim hq'
    | cont => exact False.elim hq'
theorem pe_make (M : Mk X.K C f) (F : FnOk X.prog X.w X.K X.mg X.base CX k f fd ps sp) (hr : Room (k + 1) X.A) (hg : Gl X x) (hm : X.mg x = some (.ref C)) (hb : Binds X.K fd ps ds) (hd : Vals dvs ds) (hx : Passes CX X E)
    (ha : PA X (e :: es) t) (hdb : (x == ("__debug__" : Str)) = false := by decide) (he : starEach (e :: es) X.env = (false, eval e X.env) :: starEach es X.env := by rfl) (hpl : (backTo pos (starEach es X.env)).any (·.1) = false := by rfl) :
    PE X (.Call (.Name x p) (e :: es) [] pos) (tMake C sp dvs E t) := by
  intro pins s σ H Q I h
  refine wpAny_Call_Name_kw (ld_glob I hg hm ?_ hdb)
  refine PySem.W.callWith_K (h₀ := X.base) I.ok.mod.kin M.kp (thn (ha pos pins s σ H _ I h) fun us s1 ⟨vs, H1, I1, r, q⟩ => ⟨I1.kIn, ?_⟩) he hpl
  exact run_make M F hr hb hd hx I1 r q
end

/-! ### keywords -/
section
variable {X : Cx} {CX : CXT} {k : Nat} {f C : Addr} {fd : FuncData} {ps ks : List Str} {sp : Sp} {E : XK} {x m : Str} {p pos apos kpos : Pos} {e o : Expr} {es : List Expr} {kws : List Keyword} {te ta : TE} {t tk : TA} {nm : Option Str}
variable {g : List Value → List Value → List Value} {gV : List V → List V → List V}
end

/-! ### a def's body keeps its promise -/
/-- names: the parameters first -/
structure FnScope (N P : List Str) (sc : Scope) : Prop where
  kind : sc.kind = .function
  co : sc.isCoroutine = false
  gen : sc.isGenerator = false
  nd : N.Nodup
  pre : N.take P.length = P
  par : ∀ x ∈ P, sc.names.lookup x = some .local ∨ sc.names.lookup x = some .cell
  nofree : ∀ y ∈ sc.names, y.2 ≠ .free

theorem bindL_out {kindOf : Str → Option NameKind} {x : Str} : ∀ {binds : List (Str × Value)} {m : Str → Option Value}, (∀ v, (x, v) ∉ binds) → bindL kindOf binds m x = m x
  | [], _, _ => rfl
  | (n, v) :: r, m, h => by
    unfold bindL
    rw [bindL_out fun w hw => h w (List.mem_cons_of_mem _ hw)]
    split
    · have : x ≠ n := by rintro rfl; exact h v List.mem_cons_self
      simp [this]
    · rfl
theorem bindC_out {kindOf : Str → Option NameKind} {x : Str} : ∀ {binds : List (Str × Value)} {m : Str → Option Value}, (∀ v, (x, v) ∉ binds) → bindC kindOf binds m x = m x
  | [], _, _ => rfl
  | (n, v) :: r, m, h => by
    unfold bindC
    rw [bindC_out fun w hw => h w (List.mem_cons_of_mem _ hw)]
    split
    · rfl
    · have : x ≠ n := by rintro rfl; exact h v List.mem_cons_self
      simp [this]
theorem bindL_get {kindOf : Str → Option NameKind} {x : Str} {v : Value} : ∀ {P : List Str} {vs : List Value} {i : Nat} {m : Str → Option Value}, P.Nodup → P[i]? = some x → vs[i]? = some v → kindOf x = some .local →
    bindL kindOf (P.zip vs) m x = some v
  | [], _, _, _, _, h, _, _ => by simp at h
  | _ :: _, [], _, _, _, _, h, _ => by simp at h
  | p :: P, w :: vs, 0, m, nd, h1, h2, hk => by
    simp at h1 h2; subst h1; subst h2
    show bindL kindOf ((p, w) :: P.zip vs) m p = _
    unfold bindL
    rw [bindL_out fun v hv => (List.nodup_cons.mp nd).1 (List.of_mem_zip hv).1, if_pos hk]
    simp
  | p :: P, w :: vs, i + 1, m, nd, h1, h2, hk => by
    show bindL kindOf ((p, w) :: P.zip vs) m x = _
    unfold bindL
    exact bindL_get (i := i) (List.nodup_cons.mp nd).2 (by simpa using h1) (by simpa using h2) hk
theorem bindC_get {kindOf : Str → Option NameKind} {x : Str} {v : Value} : ∀ {P : List Str} {vs : List Value} {i : Nat} {m : Str → Option Value}, P.Nodup → P[i]? = some x → vs[i]? = some v → kindOf x ≠ some .local →
    bindC kindOf (P.zip vs) m x = some v
  | [], _, _, _, _, h, _, _ => by simp at h
  | _ :: _, [], _, _, _, _, h, _ => by simp at h
  | p :: P, w :: vs, 0, m, nd, h1, h2, hk => by
    simp at h1 h2; subst h1; subst h2
    show bindC kindOf ((p, w) :: P.zip vs) m p = _
    unfold bindC
    rw [bindC_out fun v hv => (List.nodup_cons.mp nd).1 (List.of_mem_zip hv).1, if_neg hk]
    simp
  | p :: P, w :: vs, i + 1, m, nd, h1, h2, hk => by
    show bindC kindOf ((p, w) :: P.zip vs) m x = _
    unfold bindC
    exact bindC_get (i := i) (List.nodup_cons.mp nd).2 (by simpa using h1) (by simpa using h2) hk

/-- the names' values at the entry -/
def start (N : List Str) (vs : List V) : St := vs.map some ++ List.replicate (N.length - vs.length) none

/-- the context of a def's body, at its entry; an exception leaves the frame, then lies as CX says -/
def cxOf (CX : CXT) (P : Program) (w : World) (K : PySem.W.Frag) (mg : Str → Option Value) (base : Heap) (N : List Str) (qual : Str) (scope : Scope) (f : Addr) (cd : Value) (A : Around) (outer : List Env) (s : Shared) (H : Hp) (E : XK) : Cx where
  prog := P
  w := w
  K := K
  mg := mg
  base := base
  A := A.deeper (envOfC qual scope s.heap.objs.size f cd)
  N := N
  s₀ := s
  H₀ := H
  env := envOfC qual scope s.heap.objs.size f cd
  outer := outer
  stack := envOfC qual scope s.heap.objs.size f cd :: outer
  ex := []
  calm := true
  fn := fun _ => true
  pn := []
  xe := fun e s' => wpAny (model P w) (A.deeper (envOfC qual scope s.heap.objs.size f cd)) (leaving (envOfC qual scope s.heap.objs.size f cd) e) (fun _ s'' => CX outer H s E e s'') (fun e' s'' => CX outer H s E e' s'') s'

theorem cell_has {sc : Scope} {n : Nat} {x : Str} (h : sc.names.lookup x = some .cell) : ∃ c, (cellsFrom n sc.names []).lookup x = some c := by
  have q := PySem.W.cellsFrom_some sc.names n [] (.inl h)
  exact Option.isSome_iff_exists.mp q

theorem inv_start {CX : CXT} {P : Program} {w : World} {K : PySem.W.Frag} {mg : Str → Option Value} {base : Heap} {N ps : List Str} {qual : Str} {scope : Scope} {f : Addr} {cd : Value} {A : Around} {outer : List Env} {s s1 : Shared} {H : Hp} {E : XK} {us : List Value} {vs : List V}
    (S : FnScope N ps scope) (hd : A.handled = none) (e0 : Env0 P w K mg base A outer s H) (hl : vs.length = ps.length) (r : Vals vs us)
    (x : InCallC s s.heap.objs.size (bindL (envOfC qual scope s.heap.objs.size f cd).kindOf (ps.zip us) fun _ => none) (cellsFrom (s.heap.objs.size + 1) scope.names []) (bindC (envOfC qual scope s.heap.objs.size f cd).kindOf (ps.zip us) fun _ => none) s1) :
    Inv (cxOf CX P w K mg base N qual scope f cd A outer s H E) [] (start N vs) H s1 := by
  have hpl : ps.length ≤ N.length := by have := congrArg List.length S.pre; rw [List.length_take] at this; omega
  obtain ⟨h1, tk, rfl, hk⟩ := x.done
  have noA : ∀ b : Addr, b ∉ (cxOf CX P w K mg base N qual scope f cd A outer s H E).ex := fun b z => absurd (show b ∈ ([] : List Addr) from z) (by simp)
  refine ⟨⟨e0.mod, S.kind, rfl, rfl, Nat.le_refl _, fun y z c h1 h2 => ?_, fun y hy => ?_, fun y c _ h => ?_, fun _ => hd, Around.frames_deeper e0.frames, .inr ⟨rfl, rfl⟩, fun b z => absurd z (noA b), e0.bs, e0.bsz, fun b _ _ => noA b, fun b z => absurd z (noA b), e0.funs, e0.frf⟩,
    rfl, e0.bare, Un.kept hk, ⟨_, x.toInCall.ns, fun i y v h1 h2 h3 => ?_⟩, fun y c h => ⟨_, x.cell y c h⟩, e0.hok.fresh (Nat.le_refl _), fun y c h => ?_, fun p hp => absurd (show p ∈ ([] : List (Addr × Obj)) from hp) (by simp), e0.hok.kept hk, ?_⟩
  · exact name_of_addr x.apart (PySem.mem_of_lookup h1) (PySem.mem_of_lookup h2)
  · have hy : scope.names.lookup y = some .cell ∨ scope.names.lookup y = some .free := hy
    rcases hy with hy | hy
    · exact cell_has hy
    · exact absurd rfl (S.nofree _ (PySem.mem_of_lookup hy))
  · exact Nat.le_of_lt (x.above y c (PySem.mem_of_lookup h))
  · have hi : i < vs.length := by
      unfold start at h2
      by_cases hi : i < vs.length
      · exact hi
      · rw [List.getElem?_append_right (by simpa using hi)] at h2
        rw [List.getElem?_replicate] at h2
        split at h2 <;> cases h2
    have ha : vs[i]? = some v := by
      unfold start at h2
      rw [List.getElem?_append_left (by simpa using hi), List.getElem?_map] at h2
      cases e : vs[i]? with
      | none => rw [e] at h2; cases h2
      | some a => rw [e] at h2; cases h2; rfl
    obtain ⟨u, hu, rv⟩ := r.get ha
    have hp : ps[i]? = some y := by
      rw [← S.pre, List.getElem?_take_of_lt (by omega)]; exact h1
    have ndP : ps.Nodup := by rw [← S.pre]; exact S.nd.sublist (List.take_sublist _ _)
    refine ⟨u, rv, ?_⟩
    rcases S.par y (List.mem_of_getElem? hp) with k | k
    · exact .inl ⟨k, bindL_get ndP hp hu k⟩
    · obtain ⟨c, e⟩ := cell_has (n := s.heap.objs.size + 1) k
      refine .inr ⟨.inl k, c, e, ?_⟩
      have q := x.cell y c e
      rw [bindC_get ndP hp hu (by show scope.names.lookup y ≠ _; rw [k]; decide)] at q
      exact q
  · exact e0.hok.fresh (Nat.le_of_lt (x.above y c (PySem.mem_of_lookup h)))
  · unfold start
    show _ = N.length
    rw [List.length_append, List.length_map, List.length_replicate]
    omega

/-- THE RULE: a def (or a method) of the text, by its body. The body's reading t is chosen for each entry; it is run at the parameters' values -/
theorem fn_of {CX : CXT} {P : Program} {w : World} {K : PySem.W.Frag} {mg : Str → Option Value} {base : Heap} {k : Nat} {f : Addr} {name qual : Str} {params : Arguments} {body : List Stmt} {scope : Scope} {dV kV doc pm cdv ct oc : Value} {an od : Option Addr}
    {osl : Array (Option Value)} {N ps : List Str} {sp : Sp} (lk : K.lookup f = some ⟨oc, od, .func (PySem.W.fnOf name qual params body scope dV kV doc pm an cdv ct), osl⟩) (hcd : PySem.W.codeIn K cdv qual = true) (S : FnScope N ps scope)
    (len : ∀ vs H Q E, sp vs H Q E → vs.length = ps.length)
    (hbody : ∀ (A : Around) (outer : List Env) (s : Shared) (H : Hp) (vs : List V) (Q : VK) (E : XK), Room k (A.deeper (envOfC qual scope s.heap.objs.size f cdv)) → sp vs H Q E →
      ∃ t, PSs (cxOf CX P w K mg base N qual scope f cdv A outer s H E) body t ∧ t { nx := fun _ H' => Q .non H', rt := Q } (start N vs) H) :
    FnOk P w K mg base CX (k + 1) f (PySem.W.fnOf name qual params body scope dV kV doc pm an cdv ct) ps sp := by
  refine ⟨len, fun A outer s H args us vs Q E hr e0 hb r hsp => ?_⟩
  have hl := len _ _ _ _ hsp
  have KX : K.In s.heap := e0.mod.kin.keeps fun b o e => (e0.bs b o e).1
  have lim : s.heap.NoLimit := e0.mod.nolimit.keeps fun b o e => (e0.bs b o e).1
  have hkind : ∀ y ∈ ps.zip us, scope.names.lookup y.1 = some .local ∨ (scope.names.lookup y.1 = some .cell ∧ ((cellsFrom (s.heap.objs.size + 1) scope.names []).lookup y.1).isSome = true) := fun ⟨n, v⟩ hy => by
    rcases S.par n (List.of_mem_zip hy).1 with q | q
    · exact .inl q
    · exact .inr ⟨q, PySem.W.cellsFrom_some _ _ _ (.inl q)⟩
  refine codeAny_call_function hr.depth (KX _ _ lk) rfl S.co S.gen rfl (PySem.W.codeRec_of KX hcd) (hb _ _ _ _ ?_)
  refine wpAny_newFunctionEnv_cells S.kind hkind fun env he s1 x => ?_
  subst he
  refine ⟨lim.keeps x.toInCall.keep, codeAny_func ?_⟩
  obtain ⟨t, ht, hq⟩ := hbody A outer s H vs Q E (hr.deeper _) hsp
  have I : Inv (cxOf CX P w K mg base N qual scope f cdv A outer s H E) [] (start N vs) H s1 := inv_start S hr.hd e0 hl r x
  refine wpAny_mono (ht [] s1 (start N vs) H _ I hq) (fun fl s' hs => ?_) fun e s' hs => hs
  have fin : ∀ {σ' : St} {H' : Hp} {v : V} {u : Value}, Inv (cxOf CX P w K mg base N qual scope f cdv A outer s H E) [] σ' H' s' → RelV v u → Q v H' → CE outer P w H s Q u s' :=
    fun {σ' H' v u} J rv q => ⟨v, H', J.os, J.bare, J.base, J.hok, rv, q⟩
  cases fl with
  | ret u =>
    obtain ⟨v, σ', H', J, rv, q⟩ := hs
    exact fin J rv q
  | next =>
    obtain ⟨σ', H', J, q⟩ := hs
    exact fin (v := V.non) (u := Value.none) J rfl q
  | brk =>
    obtain ⟨_, _, _, q⟩ := hs
    exact False.elim q
  | cont =>
    obtain ⟨_, _, _, q⟩ := hs
    exact False.elim q
end L2

namespace L2
open PySem PySem.Spec PyProof.Rows
section
variable {X : Cx} {x : Str} {p pos : Pos} {e : Expr} {es : List Expr} {t : TA} {id T : String} {r : List V → Hp → VK → Prop}

def tCB (r : List V → Hp → VK → Prop) (t : TA) : TE := fun σ H Q => t σ H fun vs H1 => r vs H1 Q
/-- f(e, ..), f a built-in function -/
theorem pe_callB (hc : CallR X (.builtin id) r) (hg : Gl X x) (hm : X.mg x = none) (hv : bootBuiltins x = some (.builtin id)) (ha : PA X (e :: es) t) (hn : x ≠ "__name__" := by decide) (hdb : (x == ("__debug__" : Str)) = false := by decide)
    (he : starEach (e :: es) X.env = (false, eval e X.env) :: starEach es X.env := by rfl) (hpl : (backTo pos (starEach es X.env)).any (·.1) = false := by rfl) : PE X (.Call (.Name x p) (e :: es) [] pos) (tCB r t) := by
  intro pins s σ H Q I h
  refine wpAny_Call_Name_kw (ld_blt I hg hm hv ?_ hn hdb)
  exact PyProof.Rows.callWith_builtin1 (thn (ha pos pins s σ H _ I h) fun us s1 ⟨vs, H1, I1, r1, q1⟩ => hc pins s1 σ H1 vs us Q I1 r1 q1) he hpl
/-- T(e, ..), T a built-in type -/
theorem pe_callTy (hc : CallR X (.type T) r) (hg : Gl X x) (hm : X.mg x = none) (hv : bootBuiltins x = some (.type T)) (ha : PA X (e :: es) t) (hn : x ≠ "__name__" := by decide) (hdb : (x == ("__debug__" : Str)) = false := by decide)
    (he : starEach (e :: es) X.env = (false, eval e X.env) :: starEach es X.env := by rfl) (hpl : (backTo pos (starEach es X.env)).any (·.1) = false := by rfl) : PE X (.Call (.Name x p) (e :: es) [] pos) (tCB r t) := by
  intro pins s σ H Q I h
  refine wpAny_Call_Name_kw (ld_blt I hg hm hv ?_ hn hdb)
  exact PyProof.Rows.callWith_type1 (thn (ha pos pins s σ H _ I h) fun us s1 ⟨vs, H1, I1, r1, q1⟩ => hc pins s1 σ H1 vs us Q I1 r1 q1) he hpl
end
end L2

namespace HT
open PySem PyProof.Rows

section
open PySem.SeqAt
open PySem.AutoSeq1 (wpAny_loadPart')
open PySem.MeetsSeq PySem.MeetsSeq2 PySem.MeetsSeq3

end

section
variable {prog : Program} {w : World} {A : Around} {E : Value → Shared → Prop} {s : Shared}

/-! ### t[a:b], not the whole -/
/-- a slice's bound as a place among n (d where it is left out) -/
def sIx (n d : Nat) : Option Int → Nat
  | none => d
  | some v => if v < 0 then (v + (n : Int)).toNat else min v.toNat n
end
end HT

namespace L2
open PySem PySem.Spec PyProof.Rows

/-! ### the parts of a slice -/
abbrev TO := St → Hp → (Option Int → Hp → Prop) → Prop
/-- a slice's part (left out, or an int) -/
def PO (X : Cx) (e : Option Expr) (t : TO) : Prop :=
  ∀ (pins : List (Addr × Obj)) (s : Shared) (σ : St) (H : Hp) (Q : Option Int → Hp → Prop), Inv X pins σ H s → t σ H Q →
    wpAny (model X.prog X.w) X.A (evalPart e X.env) (fun u s' => ∃ o H', Inv X pins σ H' s' ∧ IsPart u o ∧ Q o H') X.xe s
def tNoPart : TO := fun _ H Q => Q none H
def tPart (t : TE) : TO := fun σ H Q => t σ H fun x H1 => ∃ i, x = .int i ∧ Q (some i) H1

section
variable {X : Cx} {e : Expr} {te : TE} {lo hi : Option Expr} {tl th : TO} {pos p2 : Pos}

theorem po_none : PO X none tNoPart := by
  intro pins s σ H Q I h
  rw [evalPart_none]
  exact wpAny_pure ⟨none, H, I, .none, h⟩
theorem po_some (h : PE X e te) : PO X (some e) (tPart te) := by
  intro pins s σ H Q I hw
  rw [evalPart_some]
  refine thn (h pins s σ H _ I hw) fun u s1 ⟨x, H1, I1, r1, q1⟩ => ?_
  obtain ⟨i, rfl, q⟩ := q1
  obtain ⟨t, rfl⟩ := r1
  exact ⟨some i, H1, I1, .int i t, q⟩

/-- what a slice of a value is, by values: the slice object stands at sl -/
def SlR (X : Cx) (r : V → Option Int → Option Int → Hp → VK → Prop) : Prop :=
  ∀ (pins : List (Addr × Obj)) (s : Shared) (σ : St) (H : Hp) (x : V) (v vl vu : Value) (lo hi : Option Int) (sl : Addr) (Q : VK), Inv X pins σ H s → RelV x v → s.heap.IsSliceOf sl vl vu .none → IsPart vl lo → IsPart vu hi → r x lo hi H Q →
    ∃ T id, typeLookup (.type T) "__getitem__" = pure (some (.builtin id)) ∧ s.TypeIs v T ∧ wpAny (model X.prog X.w) X.A (getItem v (.ref sl)) (EP X pins σ Q) X.xe s
def tSl (r : V → Option Int → Option Int → Hp → VK → Prop) (te : TE) (tl th : TO) : TE := fun σ H Q => te σ H fun x H1 => tl σ H1 fun l H2 => th σ H2 fun u H3 => r x l u H3 Q
/-- a[lo:hi], any a -/
theorem pe_slice {r : V → Option Int → Option Int → Hp → VK → Prop} (hr : SlR X r) (he : PE X e te) (hl : PO X lo tl) (hu : PO X hi th) : PE X (.Subscript e (.Slice lo hi none p2) pos) (tSl r te tl th) := by
  intro pins s σ H Q I h
  refine Subscript_ (thn (he pins s σ H _ I h) fun v s1 ⟨x, H1, I1, r1, q1⟩ => ?_)
  refine wpAny_Slice (thn (hl pins s1 σ H1 _ I1 q1) fun vl s2 ⟨l, H2, I2, pl, q2⟩ => thn (hu pins s2 σ H2 _ I2 q2) fun vu s3 ⟨u, H3, I3, pu, q3⟩ => ?_)
  rw [evalPart_none]
  refine wpAny_pure ?_
  have I4 : Inv X pins σ H3 { s3 with heap := s3.heap.push { cls := .type "slice", data := .fields #[vl, vu, .none] } } := I3.kept (t' := s3.toks) fun b ob q => Heap.get?_push_of_some _ q
  obtain ⟨T, id, hT, ht, hg⟩ := hr pins { s3 with heap := s3.heap.push { cls := .type "slice", data := .fields #[vl, vu, .none] } } σ H3 x v vl vu l u s3.heap.objs.size Q I4 r1 (Heap.IsSliceOf.new ..) pl pu q3
  show wpAny (model X.prog X.w) X.A (subscriptTail e (.Slice lo hi none p2) v (.ref s3.heap.objs.size)) (EP X pins σ Q) X.xe { s3 with heap := s3.heap.push { cls := .type "slice", data := .fields #[vl, vu, .none] } }
  exact tail_any (ops := [.ref s3.heap.objs.size, v]) ht hT hg (by with_unfolding_all rfl)

/-- the items of xs[lo:hi] -/
def cutV (xs : List V) (lo hi : Option Int) : List V := (xs.drop (HT.sIx xs.length 0 lo)).take (HT.sIx xs.length xs.length hi - HT.sIx xs.length 0 lo)
theorem cutV_length (xs : List V) (lo hi : Option Int) : (cutV xs lo hi).length ≤ xs.length := by
  unfold cutV
  rw [List.length_take, List.length_drop]
  omega
/-! ### t < u, t + u -/
end
end L2

namespace L2
open PySem PySem.Spec PyProof.Rows

/-! ### places -/
/-- the place that an index of any sign means -/
def ixN (n : Nat) (i : Int) : Option Nat := if 0 ≤ i then (if i < n then some i.toNat else none) else if -(n : Int) ≤ i then some (i + n).toNat else none
def atI {α : Type} (xs : List α) (i : Int) : Option α := (ixN xs.length i).bind fun j => xs[j]?
theorem ixN_seq {n : Nat} {i : Int} {j : Nat} (h : ixN n i = some j) : seqIndex? i n = some j ∧ j < n ∧ -(n : Int) ≤ i ∧ i < n := by
  unfold ixN at h
  by_cases h0 : 0 ≤ i
  · rw [if_pos h0] at h
    by_cases h1 : i < n
    · rw [if_pos h1] at h
      have e : i.toNat = j := Option.some.inj h
      exact ⟨by rw [seqIndex_of h0 h1, e], by omega, by omega, h1⟩
    · rw [if_neg h1] at h; cases h
  · rw [if_neg h0] at h
    by_cases h1 : -(n : Int) ≤ i
    · rw [if_pos h1] at h
      have e : (i + n).toNat = j := Option.some.inj h
      exact ⟨by rw [seqIndex_neg (by omega) h1, e], by omega, h1, by omega⟩
    · rw [if_neg h1] at h; cases h
theorem atI_get {α : Type} {xs : List α} {i : Int} {v : α} (h : atI xs i = some v) : ∃ j, seqIndex? i xs.length = some j ∧ xs[j]? = some v ∧ j < xs.length ∧ -(xs.length : Int) ≤ i ∧ i < xs.length := by
  unfold atI at h
  cases e : ixN xs.length i with
  | none => rw [e] at h; cases h
  | some j =>
    rw [e] at h
    obtain ⟨h1, h2, h3, h4⟩ := ixN_seq e
    exact ⟨j, h1, h, h2, h3, h4⟩
theorem atI_nat {α : Type} {xs : List α} {j : Nat} {v : α} (h : xs[j]? = some v) : atI xs (j : Int) = some v := by
  have hj : j < xs.length := (List.getElem?_eq_some_iff.mp h).1
  have e : ixN xs.length (j : Int) = some j := by
    unfold ixN
    rw [if_pos (by omega), if_pos (by omega)]; simp
  unfold atI; rw [e]; exact h
/-! ### what may be subscripted -/
/-- what stands as an index of a plain subscript -/
def PlainIx (b : Expr) : Prop := ∀ o i, subscripted b false o i = operate [o, i] (getItem o i)
/-- a subscript by values -/
def IxR (X : Cx) (r : R2) : Prop :=
  ∀ (value slice : Expr) (pins : List (Addr × Obj)) (s : Shared) (σ : St) (H : Hp) (x y : V) (v u : Value) (Q : VK), Inv X pins σ H s → RelV x v → RelV y u → r x y H Q →
    subscripted slice false v u = operate [v, u] (getItem v u) → wpAny (model X.prog X.w) X.A (subscriptTail value slice v u) (EP X pins σ Q) X.xe s
/-- a call of a builtin's method by values: the receiver, the arguments -/
def MtR (X : Cx) (id : String) (r : V → List V → Hp → VK → Prop) : Prop :=
  ∀ (pins : List (Addr × Obj)) (s : Shared) (σ : St) (H : Hp) (x : V) (xs : List V) (v : Value) (us : List Value) (Q : VK), Inv X pins σ H s → RelV x v → Vals xs us → r x xs H Q →
    wpAny (model X.prog X.w) X.A (call (.builtin id) (v :: us)) (EP X pins σ Q) X.xe s
section
variable {X : Cx} {a b : Expr} {ta tb : TE} {pos : Pos}
/-- a[b] -/
theorem pe_ix {r : R2} (hr : IxR X r) (ha : PE X a ta) (hb : PE X b tb) (hs : PlainIx b) : PE X (.Subscript a b pos) (tOp r ta tb) := by
  intro pins s σ H Q I h
  exact Subscript_ (binT ha hb I h fun v u s2 x y H2 I2 rx ry q => hr a b pins s2 σ H2 x y v u Q I2 rx ry q (hs _ _))

def rIxL (K : PySem.W.Frag) : R2 := fun x y H Q => ∃ p xs i v, x = .ref p ∧ y = .int i ∧ SqL K H p xs ∧ atI xs i = some v ∧ Q v H
def rIxT (K : PySem.W.Frag) : R2 := fun x y H Q => ∃ p xs i v, x = .ref p ∧ y = .int i ∧ SqT K H p xs ∧ atI xs i = some v ∧ Q v H
def rIxS : R2 := fun x y H Q => ∃ z i c, x = .str z ∧ y = .int i ∧ z.length ≤ sizeLine ∧ atI z.cps.toList i = some c ∧ Q (.str ⟨#[c]⟩) H
theorem ix_list : IxR X (rIxL X.K) := by
  intro value slice pins s σ H x y v u Q I rx ry h hs
  obtain ⟨p, xs, i, z, rfl, rfl, hq, he, q⟩ := h
  cases rx
  obtain ⟨t, rfl⟩ := ry
  obtain ⟨its, r, pl, hz⟩ := I.list hq
  obtain ⟨j, h1, h2, h3, h4, h5⟩ := atI_get he
  obtain ⟨w, ew, rw'⟩ := r.get h2
  have hl := r.length
  have hn := line63
  have fin : EP X pins σ Q w s := ⟨z, H, I, rw', q⟩
  by_cases h0 : 0 ≤ i
  · have hj : i.toNat = j := by
      rw [seqIndex_of h0 h5] at h1
      exact Option.some.inj h1
    exact item_listR pl.isList h0 (by omega) (by rw [hj]; simpa using ew) fin hs
  · have hj : (i + (its.toArray.size : Int)).toNat = j := by
      rw [seqIndex_neg (by omega) h4] at h1
      rw [List.size_toArray, ← hl]
      exact Option.some.inj h1
    exact subscriptTail_builtinR (x := w) pl.isList.typeIs slot_list_getitem.lookup
      (wpAny_getItem_list_neg (Q := fun r s' => r = w ∧ EP X pins σ Q r s') pl.isList (by omega) (by rw [List.size_toArray] <;> omega) (by omega) (by rw [hj]; simpa using ew) ⟨rfl, fin⟩) hs
theorem ix_tup : IxR X (rIxT X.K) := by
  intro value slice pins s σ H x y v u Q I rx ry h hs
  obtain ⟨p, xs, i, z, rfl, rfl, hq, he, q⟩ := h
  cases rx
  obtain ⟨t, rfl⟩ := ry
  obtain ⟨its, r, pl, hz⟩ := I.tuple hq
  obtain ⟨j, h1, h2, h3, h4, h5⟩ := atI_get he
  obtain ⟨w, ew, rw'⟩ := r.get h2
  have hl := r.length
  have hn := line63
  have fin : EP X pins σ Q w s := ⟨z, H, I, rw', q⟩
  exact subscriptTail_builtinR (x := w) pl.typeIs slot_tuple_getitem.lookup
    (getItem_tuple (j := j) (Q := fun r s' => r = w ∧ EP X pins σ Q r s') pl (by omega) (by omega) (by rw [List.size_toArray, ← hl]; exact h1) (by simpa using ew) ⟨rfl, fin⟩) hs
theorem ix_str : IxR X rIxS := by
  intro value slice pins s σ H x y v u Q I rx ry h hs
  obtain ⟨z, i, c, rfl, rfl, hz, he, q⟩ := h
  obtain ⟨t, rfl⟩ := rx
  obtain ⟨t', rfl⟩ := ry
  obtain ⟨j, h1, h2, h3, h4, h5⟩ := atI_get he
  have hl : z.cps.toList.length = z.length := by simp [Str.length]
  rw [hl] at h1 h4 h5
  have hn := line63
  exact tail_any (typeIs_str s z t) slot_str_getitem.lookup (getItem_str (c := c) (by
    have e1 : decide (i < -(2 ^ 63 : Int)) = false := decide_eq_false (by omega)
    have e2 : decide (i ≥ 2 ^ 63) = false := decide_eq_false (by omega)
    rw [e1, e2, Bool.or_false]) (by rw [h1]; simpa using h2) ⟨.str ⟨#[c]⟩, H, I.tok _, ⟨_, rfl⟩, q⟩) hs
/-! ### xs[i] = v, any sign -/
/-- the list's object behind a store -/
theorem mapSeq_set (its : List Value) (n j : Nat) (u : Value) : Obj.mapSeq (·.setIfInBounds j u) { cls := .type "list", data := .seq its.toArray n } = { cls := .type "list", data := .seq (its.set j u).toArray n } := by
  simp [Obj.mapSeq]
theorem Inv.lst {pins : List (Addr × Obj)} {σ : St} {H : Hp} {s : Shared} {p : Addr} {xs : List V} (I : Inv X pins σ H s) (h : H p = some (.lst xs)) :
    ∃ (its : List Value) (n : Nat), Vals xs its ∧ s.heap.get? p = some { cls := .type "list", data := .seq its.toArray n } ∧ xs.length ≤ sizeLine := by
  obtain ⟨z, its, n, r, e⟩ := I.hok p _ h
  exact ⟨its, n, r, e, z⟩
/-- the list at p is written by an update of its object -/
theorem Inv.lstUpd {pins : List (Addr × Obj)} {σ : St} {H : Hp} {s : Shared} {p : Addr} {xs ys : List V} {its its' : List Value} {n n' : Nat} {f : Obj → Obj} (I : Inv X pins σ H s) (h : H p = some (.lst xs))
    (ho : s.heap.get? p = some { cls := .type "list", data := .seq its.toArray n }) (hf : f { cls := .type "list", data := .seq its.toArray n } = { cls := .type "list", data := .seq its'.toArray n' }) (r : Vals ys its') (hz : ys.length ≤ sizeLine) (t : Nat) :
    Inv X pins σ (upd H p (.lst ys)) { s with heap := s.heap.update p f, toks := t } := by
  have e : (s.heap.update p f).get? p = some { cls := .type "list", data := .seq its'.toArray n' } := by
    rw [Heap.get?_update_self f ho (by rw [hf] <;> rfl), hf]
  refine I.write (x := p) (e := p) (by rw [h]; trivial) (.inl rfl) (fun b u hb q => (Heap.get?_update_other _ _ (Ne.symm hb)).trans q) ⟨_, e⟩ ?_
  exact ⟨hz, its', n', r, e⟩
def rSetL : V → V → V → Hp → (Hp → Prop) → Prop := fun o i v H Q => ∃ p xs k j, o = .ref p ∧ i = .int k ∧ H p = some (.lst xs) ∧ ixN xs.length k = some j ∧ Q (upd H p (.lst (xs.set j v)))
theorem set_list : PSet X rSetL := by
  intro pins s σ H o i v ov iv u Q I ro ri rv h
  obtain ⟨p, xs, k, j, rfl, rfl, hp, hj, q⟩ := h
  cases ro
  obtain ⟨t, rfl⟩ := ri
  obtain ⟨its, n, r, ho, hz⟩ := I.lst hp
  obtain ⟨h1, h2, h3, h4⟩ := ixN_seq hj
  have hl := r.length
  have hn := line63
  have I' : Inv X pins σ (upd H p (.lst (xs.set j v))) { s with heap := s.heap.update p (Obj.mapSeq (·.setIfInBounds j u)) } :=
    I.lstUpd hp ho (mapSeq_set its n j u) (r.set rv j) (by rw [List.length_set]; exact hz) s.toks
  by_cases h0 : 0 ≤ k
  · have hk : k.toNat = j := by
      rw [seqIndex_of h0 h4] at h1
      exact Option.some.inj h1
    exact PySem.W.ki_setAt ho h0 (by omega) (by rw [List.size_toArray, ← hl]; exact h4) (by rw [hk]; exact ⟨_, I', q⟩)
  · have hk : (k + (its.toArray.size : Int)).toNat = j := by
      rw [seqIndex_neg (by omega) h3] at h1
      rw [List.size_toArray, ← hl]
      exact Option.some.inj h1
    exact PySem.W.ki_setBack ho (by omega) (by rw [List.size_toArray, ← hl]; exact h3) (by omega) (by rw [hk]; exact ⟨_, I', q⟩)

/-! ### slices -/
theorem slice_bounds (lo hi : Option Int) (n : Nat) : (sliceBounds lo hi none n).1 = ((HT.sIx n 0 lo : Nat) : Int) ∧ (sliceBounds lo hi none n).2.1 = ((HT.sIx n n hi : Nat) : Int) ∧ (sliceBounds lo hi none n).2.2 = 1 := by
  refine ⟨?_, ?_, rfl⟩
  · cases lo with
    | none => simp [sliceBounds, HT.sIx]
    | some i =>
      simp only [sliceBounds, HT.sIx, Option.getD_none, show (1 : Int) > 0 by decide, if_true]
      by_cases h : i < 0
      · simp only [h, if_true] <;> omega
      · simp only [h, if_false] <;> omega
  · cases hi with
    | none => simp [sliceBounds, HT.sIx]
    | some i =>
      simp only [sliceBounds, HT.sIx, Option.getD_none, show (1 : Int) > 0 by decide, if_true]
      by_cases h : i < 0
      · simp only [h, if_true] <;> omega
      · simp only [h, if_false] <;> omega
theorem slicePick_cut (its : List Value) (lo hi : Option Int) : slicePick its.toArray lo hi none = ((its.drop (HT.sIx its.length 0 lo)).take (HT.sIx its.length its.length hi - HT.sIx its.length 0 lo)).toArray := by
  obtain ⟨h1, h2, h3⟩ := slice_bounds lo hi its.toArray.size
  unfold slicePick
  rw [h1, h2, h3]
  simp only [sliceRange_one, pick_run, List.size_toArray] <;> rfl
/-- xs[lo:hi] of a list: a new list -/
def rSlL (K : PySem.W.Frag) : V → Option Int → Option Int → Hp → VK → Prop := fun x lo hi H Q => ∃ a xs, x = .ref a ∧ SqL K H a xs ∧ ∀ p, H p = none → Q (.ref p) (upd H p (.lst (cutV xs lo hi)))
theorem sl_list : SlR X (rSlL X.K) := by
  intro pins s σ H x v vl vu lo hi sl Q I rx hs pl pu h
  obtain ⟨a, xs, rfl, hx, q⟩ := h
  cases rx
  obtain ⟨its, r, ht, hz⟩ := I.list hx
  have hlen := r.length
  refine ⟨"list", _, slot_list_getitem.lookup, ht.isList.typeIs, ?_⟩
  refine wpAny_getItem_list_slice ht.isList hs pl pu .none (by simp) ?_ (by rw [List.size_toArray] <;> omega)
  rw [slicePick_cut, ← hlen]
  refine ⟨.ref s.heap.objs.size, _, I.laid (t' := s.toks) (o := .lst (cutV xs lo hi)) (fun b ob q => Heap.get?_push_of_some _ q) (Nat.le_refl _) ?_, rfl, q _ (I.hok.fresh (Nat.le_refl _))⟩
  exact ⟨Nat.le_trans (cutV_length xs lo hi) hz, _, 0, (r.drop (HT.sIx xs.length 0 lo)).take (HT.sIx xs.length xs.length hi - HT.sIx xs.length 0 lo), Heap.get?_push_size _ rfl⟩

/-! ### in, not in: flat items -/
theorem op_notIn_str : OpR X (compareOp .NotIn) (fun x y H Q => ∃ i j, x = .str i ∧ y = .str j ∧ Q (.bl (!(!(Builtin.Str.occurrences j i 0 j.length 1).isEmpty))) H) := by
  intro pins s σ H x y v u Q I rx ry h
  obtain ⟨i, j, rfl, rfl, q⟩ := h
  obtain ⟨t, rfl⟩ := rx
  obtain ⟨t', rfl⟩ := ry
  exact notIn_str ⟨.bl _, H, I, rfl, q⟩

/-! ### len, list(x), tuple(x) of any list or tuple that is read -/
theorem call_len_seq : CallR X (.builtin "len") (fun xs H Q => ∃ p ys, xs = [.ref p] ∧ (SqL X.K H p ys ∨ SqT X.K H p ys) ∧ Q (.int ys.length) H) := by
  intro pins s σ H xs us Q I r h
  obtain ⟨p, ys, rfl, hq, q⟩ := h
  obtain ⟨u, rfl, rx⟩ := vals1 r
  cases rx
  have hn := line63
  rcases hq with hq | hq
  · obtain ⟨its, r', pl, hz⟩ := I.list hq
    have hlen := r'.length
    exact Calls.call_len_list pl.isList (by simp only [List.size_toArray] <;> omega) ⟨.int ys.length, H, I.tok _, ⟨s.toks + 1, by rw [List.size_toArray, hlen]⟩, q⟩
  · obtain ⟨its, r', pl, hz⟩ := I.tuple hq
    have hlen := r'.length
    exact len_tuple pl (by simp only [List.size_toArray] <;> omega) ⟨.int ys.length, H, I.tok _, ⟨s.toks + 1, by rw [List.size_toArray, hlen]⟩, q⟩
theorem call_len_str : CallR X (.builtin "len") (fun xs H Q => ∃ z, xs = [.str z] ∧ z.length ≤ sizeLine ∧ Q (.int z.length) H) := by
  intro pins s σ H xs us Q I r h
  obtain ⟨z, rfl, hz, q⟩ := h
  obtain ⟨u, rfl, t, rfl⟩ := vals1 r
  have hn := line63
  exact len_str (by omega) ⟨.int z.length, H, I.tok _, ⟨_, rfl⟩, q⟩
theorem call_list_of : CallR X (.type "list") (fun xs H Q => ∃ p ys, xs = [.ref p] ∧ (SqL X.K H p ys ∨ SqT X.K H p ys) ∧ ∀ l, H l = none → Q (.ref l) (upd H l (.lst ys))) := by
  intro pins s σ H xs us Q I r h
  obtain ⟨p, ys, rfl, hq, q⟩ := h
  obtain ⟨u, rfl, rx⟩ := vals1 r
  cases rx
  have fin : ∀ (its : List Value), Vals ys its → ys.length ≤ sizeLine → ∀ (h' : Heap) (c' : Nat), (∀ b o', s.heap.get? b = some o' → h'.get? b = some o') →
      h'.get? s.heap.objs.size = some { cls := .type "list", dict := none, data := .seq its.toArray c', slots := #[] } → EP X pins σ Q (.ref s.heap.objs.size) { s with heap := h' } := fun its r' hz h' c' kp e =>
    ⟨.ref s.heap.objs.size, _, I.laid (t' := s.toks) kp (Nat.le_refl _) (show ObjOk X.prog X.w _ h' _ (.lst ys) from ⟨hz, its, c', r', e⟩), rfl, q _ (I.hok.fresh (Nat.le_refl _))⟩
  rcases hq with hq | hq
  · obtain ⟨its, r', pl, hz⟩ := I.list hq
    have hlen := r'.length
    obtain ⟨o, ho, hc, n, hd⟩ := pl.isList
    exact call_list_seq p (.inl rfl) ho hc hd (fun h' c' kp e => fin its r' hz h' c' kp e) (by simp only [List.size_toArray] <;> omega)
  · obtain ⟨its, r', pl, hz⟩ := I.tuple hq
    have hlen := r'.length
    obtain ⟨o, ho, hc, n, hd⟩ := pl
    exact call_list_seq p (.inr rfl) ho hc hd (fun h' c' kp e => fin its r' hz h' c' kp e) (by simp only [List.size_toArray] <;> omega)
/-! ### the call of a builtin's method: o.m(..) -/
/-- the value is of that builtin type -/
def tyV (K : PySem.W.Frag) (T : String) (x : V) (H : Hp) : Prop := match x with
  | .str _ => T = "str"
  | .int _ => T = "int"
  | .ref p => (T = "list" ∧ ∃ xs, SqL K H p xs) ∨ (T = "tuple" ∧ ∃ o, K.lookup p = some o ∧ o.cls = .type "tuple" ∧ o.dict = none) ∨
      (T = "dict" ∧ ((∃ kvs, H p = some (.dK kvs)) ∨ ∃ kvs, H p = some (.dT kvs))) ∨ (T = "set" ∧ ∃ S n, H p = some (.set S n))
  | _ => False
theorem tyV_is {pins : List (Addr × Obj)} {σ : St} {H : Hp} {s : Shared} {T : String} {x : V} {v : Value} (I : Inv X pins σ H s) (r : RelV x v) (ty : tyV X.K T x H) :
    s.TypeIs v T ∧ ∀ a, v = .ref a → ∃ ob, s.heap.get? a = some ob ∧ ob.dict = none := by
  cases x with
  | str z =>
    obtain ⟨t, rfl⟩ := r
    cases (show T = "str" from ty)
    exact ⟨typeIs_str s z t, fun _ e => nomatch e⟩
  | int i =>
    obtain ⟨t, rfl⟩ := r
    cases (show T = "int" from ty)
    exact ⟨typeIs_int s i t, fun _ e => nomatch e⟩
  | ref p =>
    cases r
    rcases ty with ⟨rfl, xs, hq⟩ | ⟨rfl, o, hk, hc, hd⟩ | ⟨rfl, hk⟩ | ⟨rfl, S, n, hk⟩
    · obtain ⟨its, _, pl, _⟩ := I.list hq
      refine ⟨pl.isList.typeIs, fun a e => ?_⟩
      cases e
      obtain ⟨o, n, e, c, hd, _⟩ := pl
      exact ⟨o, e, hd⟩
    · refine ⟨⟨o, I.kIn p o hk, hc⟩, fun a e => ?_⟩
      cases e
      exact ⟨o, I.kIn _ o hk, hd⟩
    · have z : ∃ o, s.heap.get? p = some o ∧ o.ExactDict := by
        rcases hk with ⟨kvs, hk⟩ | ⟨kvs, hk⟩
        · obtain ⟨_, _, _, _, o, _, _, e, ex, _⟩ := I.hok p _ hk
          exact ⟨o, e, ex⟩
        · obtain ⟨_, _, _, _, o, _, _, e, ex, _⟩ := I.hok p _ hk
          exact ⟨o, e, ex⟩
      obtain ⟨o, e, ex⟩ := z
      refine ⟨⟨o, e, ex.1⟩, fun a e2 => ?_⟩
      cases e2
      exact ⟨o, e, ex.2.1⟩
    · obtain ⟨o, _, _, _, e, ex, _⟩ := I.hok p _ hk
      refine ⟨⟨o, e, ex.1⟩, fun a e2 => ?_⟩
      cases e2
      exact ⟨o, e, ex.2.1⟩
  | _ => exact False.elim ty
def tBM0 (K : PySem.W.Frag) (T : String) (r : V → List V → Hp → VK → Prop) (to : TE) : TE := fun σ H Q => to σ H fun x H1 => tyV K T x H1 ∧ r x [] H1 Q
def tBM (K : PySem.W.Frag) (T : String) (r : V → List V → Hp → VK → Prop) (to : TE) (t : TA) : TE := fun σ H Q => to σ H fun x H1 => tyV K T x H1 ∧ t σ H1 fun xs H2 => r x xs H2 Q
variable {o e : Expr} {es : List Expr} {to : TE} {t : TA} {name : Str} {apos cpos : Pos} {T id : String} {r : V → List V → Hp → VK → Prop}
theorem pe_bm0 (pa : PlainAttrs T) (slot : Slot T name id) (hty : typeOf (.builtin id) = pure (.type "method_descriptor")) (hm : MtR X id r) (ho : PE X o to)
    (hbase : attributeBase o name X.env (eval o X.env) = eval o X.env := by rfl) (hline : (apos.endLine == cpos.line) = true := by rfl) : PE X (.Call (.Attribute o name apos) [] [] cpos) (tBM0 X.K T r to) := by
  intro pins s σ H Q I h
  refine wpAny_Call_method0_late hbase hline (thn (ho pins s σ H _ I h) fun v s1 ⟨x, H1, I1, r1, ty, q1⟩ => ?_)
  obtain ⟨h1, h2⟩ := tyV_is I1 r1 ty
  exact ⟨T, id, pa, slot, hty, h1, h2, Calls.callWith_builtin rfl (PySem.evalArgs_none (hm pins s1 σ H1 x [] v [] Q I1 r1 .nil q1))⟩
theorem pe_bm (pa : PlainAttrs T) (slot : Slot T name id) (hty : typeOf (.builtin id) = pure (.type "method_descriptor")) (hm : MtR X id r) (ho : PE X o to) (ha : PA X (e :: es) t)
    (hbase : attributeBase o name X.env (eval o X.env) = eval o X.env := by rfl)
    (hfew : ((backTo cpos (starEach (e :: es) X.env)).all (fun x => !x.1) && (backToKw cpos (keywordEach [] X.env)).all (fun x => x.1.isSome)
      && decide ((e :: es).length + ([] : List Keyword).length + (if ([] : List Keyword).isEmpty then 0 else 1) < 30)) = true := by rfl)
    (hline : (apos.endLine == cpos.line) = true := by rfl) (hs : starEach (e :: es) X.env = (false, eval e X.env) :: starEach es X.env := by rfl) (hplain : (backTo cpos (starEach es X.env)).any (·.1) = false := by rfl) :
    PE X (.Call (.Attribute o name apos) (e :: es) [] cpos) (tBM X.K T r to t) := by
  intro pins s σ H Q I h
  refine wpAny_Call_method_late hbase hfew hline rfl (thn (ho pins s σ H _ I h) fun v s1 ⟨x, H1, I1, r1, ty, q1⟩ => ?_)
  obtain ⟨h1, h2⟩ := tyV_is I1 r1 ty
  refine ⟨T, id, pa, slot, hty, h1, h2, ?_⟩
  have hA := ha cpos pins s1 σ H1 _ I1 q1
  rw [hs] at hA ⊢
  refine Calls.callWith_builtin (by show (false || (backTo cpos (starEach es X.env)).any (·.1)) = false; rw [hplain] <;> rfl) (Calls.evalArgs_plain ?_)
  exact thn hA fun us s2 ⟨vs, H2, I2, r2, q2⟩ => hm pins s2 σ H2 x vs v us Q I2 r1 r2 q2
/- xs.append(e), list.index on a module's tuple .. are MtR facts of 06m -/
end
end L2

namespace L2
open PySem PySem.Spec PyProof.Rows

def MtM (X : Cx) (id : String) (r : V → List V → Hp → VK → Prop) : Prop :=
  ∀ (pins : List (Addr × Obj)) (s : Shared) (σ : St) (H : Hp) (x : V) (xs : List V) (v : Value) (us : List Value) (Q : VK), Inv X pins σ H s → RelV x v → Vals xs us → r x xs H Q →
    wpAny (model X.prog X.w) X.A (call (.builtin id) (v :: us)) (EP X pins σ Q) X.xe s

/-! ### lists of values -/
theorem Vals.one : ∀ {x : V} {us : List Value}, Vals [x] us → ∃ u, us = [u] ∧ RelV x u
  | _, _, .cons r .nil => ⟨_, rfl, r⟩
theorem Vals.zero : ∀ {us : List Value}, Vals [] us → us = []
  | _, .nil => rfl
section
variable {X : Cx} {pins : List (Addr × Obj)} {σ : St} {H : Hp} {s : Shared} {l b : Addr} {xs ys zs : List V}

/-! ### the two steps: a tracked list is rewritten, a new list is laid -/
theorem Inv.lset {its its' : List Value} {n : Nat} {f : Array Value → Array Value} {t' : Nat} (I : Inv X pins σ H s) (hH : H l = some (.lst xs))
    (e : s.heap.get? l = some { cls := .type "list", data := .seq its.toArray n }) (hf : f its.toArray = its'.toArray) (hv : Vals ys its') (hz : ys.length ≤ sizeLine) :
    Inv X pins σ (upd H l (.lst ys)) { s with heap := s.heap.update l (Obj.mapSeq f), toks := t' } := by
  have q := PySem.IsL.update e f
  rw [hf] at q
  refine I.write (x := l) (e := l) (by rw [hH]; exact trivial) (.inl rfl) (fun b' u hb hu => (Heap.get?_update_other s.heap (Obj.mapSeq f) (Ne.symm hb)).trans hu) ⟨_, q⟩ ?_
  exact ⟨hz, its', _, hv, q⟩
theorem Inv.lnew {its : List Value} {t' : Nat} (I : Inv X pins σ H s) (hv : Vals ys its) (hz : ys.length ≤ sizeLine) :
    Inv X pins σ (upd H s.heap.objs.size (.lst ys)) { s with heap := s.heap.push { cls := .type "list", data := .seq its.toArray }, toks := t' } :=
  I.laid (fun _ _ q => Heap.get?_push_of_some _ q) (Nat.le_refl _) ⟨hz, its, 0, hv, Heap.get?_push_size _ rfl⟩
theorem Inv.fresh (I : Inv X pins σ H s) : H s.heap.objs.size = none := I.hok.fresh (Nat.le_refl _)
theorem Inv.lstM (I : Inv X pins σ H s) (hH : H l = some (.lst xs)) : xs.length ≤ sizeLine ∧ ∃ (its : List Value) (n : Nat), Vals xs its ∧ xs.length = its.length ∧ s.heap.get? l = some { cls := .type "list", data := .seq its.toArray n } := by
  obtain ⟨z, its, n, r, e⟩ := I.hok l _ hH
  exact ⟨z, its, n, r, r.length, e⟩

end

section
variable {X : Cx}

/-! ### methods -/
def rAppend : V → List V → Hp → VK → Prop := fun x vs H Q => ∃ l xs y, x = .ref l ∧ vs = [y] ∧ H l = some (.lst xs) ∧ xs.length < sizeLine ∧ Q .non (upd H l (.lst (xs ++ [y])))
theorem mt_append : MtM X "list.append" rAppend := by
  intro pins s σ H x vs v us Q I rx rv h
  obtain ⟨l, xs, y, rfl, rfl, hH, hz, q⟩ := h
  cases rx
  obtain ⟨u, rfl, ru⟩ := rv.one
  obtain ⟨z, its, n, r, hl, e⟩ := I.lstM hH
  refine call_meets F.slot_list_append ⟨_, e, rfl⟩ F.entry_list_append (F.args_list_append_2 _ _) (PySem.list_append l its.toArray n u (by rw [List.size_toArray]; omega)) ⟨e, ?_⟩
  refine ⟨.non, _, I.lset (its' := its ++ [u]) hH e (by simp) (r.append (.cons ru .nil)) ?_, rfl, q⟩
  rw [List.length_append, List.length_singleton]
  omega

/-! ### list + list, list += list, list * int -/
def rCat : R2 := fun x y H Q => ∃ l b xs zs, x = .ref l ∧ y = .ref b ∧ H l = some (.lst xs) ∧ H b = some (.lst zs) ∧ xs.length + zs.length ≤ sizeLine ∧ ∀ p, H p = none → Q (.ref p) (upd H p (.lst (xs ++ zs)))
theorem op_cat : OpR X (binaryOp .Add) rCat := by
  intro pins s σ H x y v u Q I rx ry h
  obtain ⟨l, b, xs, zs, rfl, rfl, hH, hB, hz, q⟩ := h
  cases rx
  cases ry
  obtain ⟨z, its, n, r, hl, e⟩ := I.lstM hH
  obtain ⟨z2, its2, n2, r2, hl2, e2⟩ := I.lstM hB
  refine PySem.P.add_list e e2 ?_ (by rw [List.size_toArray, List.size_toArray]; omega)
  have ea : its.toArray ++ its2.toArray = (its ++ its2).toArray := by simp
  rw [ea]
  exact ⟨.ref _, _, I.lnew (t' := s.toks) (r.append r2) (by rw [List.length_append]; omega), rfl, q _ I.fresh⟩
/-! ### del xs[i] -/
end

/-! ### xs[a:b] = ys -/
section
variable {prog : Program} {w : World} {A : Around} {E : Value → Shared → Prop} {s : Shared}
end

section
variable {X : Cx}
end
end L2

namespace L2
open PySem PySem.Spec PyProof.Rows

/-! ### lists of pairs as tables -/
section
variable {κ : Type} [DecidableEq κ]
def valV (kvs : List (κ × V)) (k : κ) : Option V := (kvs.find? fun kv => decide (kv.1 = k)).map (·.2)
/-- in its place, or at the end -/
def putK (kvs : List (κ × V)) (k : κ) (v : V) : List (κ × V) :=
  if (kvs.any fun kv => decide (kv.1 = k)) = true then kvs.map (fun kv => if kv.1 = k then (kv.1, v) else kv) else kvs ++ [(k, v)]
theorem valV_pos {p : κ × V} {r : List (κ × V)} {k : κ} (e : p.1 = k) : valV (p :: r) k = some p.2 := by simp [valV, List.find?_cons, e]
theorem valV_neg {p : κ × V} {r : List (κ × V)} {k : κ} (e : ¬ p.1 = k) : valV (p :: r) k = valV r k := by simp [valV, List.find?_cons, e]
theorem valV_any (k : κ) : ∀ kvs : List (κ × V), (kvs.any fun kv => decide (kv.1 = k)) = (valV kvs k).isSome
  | [] => rfl
  | p :: r => by
    rw [List.any_cons]
    by_cases e : p.1 = k
    · simp only [valV_pos e, decide_eq_true e, Bool.true_or, Option.isSome_some]
    · rw [valV_neg e, decide_eq_false e, Bool.false_or]; exact valV_any k r
theorem length_putK (kvs : List (κ × V)) (k : κ) (v : V) : (putK kvs k v).length ≤ kvs.length + 1 := by
  unfold putK
  split
  · rw [List.length_map]; omega
  · rw [List.length_append, List.length_cons, List.length_nil]; omega
theorem RelO.isSome_eq {o : Option V} {u : Option Value} (r : RelO o u) : o.isSome = u.isSome := by
  cases o with
  | none => cases u with
    | none => rfl
    | some _ => exact (show False from r).elim
  | some _ => cases u with
    | none => exact (show False from r).elim
    | some _ => rfl
/-- raw tables of the same keys -/
theorem KV.val {kvs : List (κ × V)} {vs : List (κ × Value)} (r : KV kvs vs) (k : κ) : RelO (valV kvs k) (valueAt vs k) := by
  unfold KV at r
  induction r with
  | nil => exact True.intro
  | @cons p q ps qs h t ih =>
    obtain ⟨h1, h2⟩ := h
    by_cases e : p.1 = k
    · have e' : q.1 = k := h1.symm.trans e
      have b : valueAt (q :: qs) k = some q.2 := by simp [valueAt, List.find?_cons, e']
      rw [valV_pos e, b]; exact h2
    · have e' : ¬ q.1 = k := fun z => e (h1.trans z)
      have b : valueAt (q :: qs) k = valueAt qs k := by simp [valueAt, List.find?_cons, e']
      rw [valV_neg e, b]; exact ih
theorem KV.any {kvs : List (κ × V)} {vs : List (κ × Value)} (r : KV kvs vs) (k : κ) : (kvs.any fun kv => decide (kv.1 = k)) = vs.any fun kv => decide (kv.1 = k) := by
  unfold KV at r
  induction r with
  | nil => rfl
  | cons h t ih => rw [List.any_cons, List.any_cons, ih, h.1]
theorem KV.repl {kvs : List (κ × V)} {vs : List (κ × Value)} (r : KV kvs vs) (k : κ) {y : V} {u : Value} (ry : RelV y u) :
    KV (kvs.map fun kv => if kv.1 = k then (kv.1, y) else kv) (vs.map fun kv => if kv.1 = k then (kv.1, u) else kv) := by
  unfold KV at r ⊢
  induction r with
  | nil => exact .nil
  | @cons p q ps qs h t ih =>
    rw [List.map_cons, List.map_cons]
    refine .cons ?_ ih
    obtain ⟨h1, h2⟩ := h
    by_cases e : p.1 = k
    · rw [if_pos e, if_pos (h1.symm.trans e)]; exact ⟨h1, ry⟩
    · rw [if_neg e, if_neg (fun z => e (h1.trans z))]; exact ⟨h1, h2⟩
theorem KV.put {kvs : List (κ × V)} {vs : List (κ × Value)} (r : KV kvs vs) (k : κ) {y : V} {u : Value} (ry : RelV y u) : KV (putK kvs k y) (stored vs k u) := by
  unfold putK stored
  rw [r.any k]
  by_cases e : (vs.any fun kv => decide (kv.1 = k)) = true
  · rw [if_pos e, if_pos e]; exact r.repl k ry
  · rw [if_neg e, if_neg e]; exact Paired.snoc r ⟨rfl, ry⟩
theorem KV.length {kvs : List (κ × V)} {vs : List (κ × Value)} (r : KV kvs vs) : kvs.length = vs.length := Paired.length r
end


/-! ### a tracked dict, its keys ints and texts or tuples of these -/
theorem kV_is {P : Program} {w : World} {k : Key} {u : Value} (r : RelV (kV k) u) : (mixKind P w).is k u = true := by
  cases k with
  | inl i => obtain ⟨t, e⟩ := (show ∃ t, u = Value.int i t from r); subst e; exact mixKind_int P w i t
  | inr x => obtain ⟨t, e⟩ := (show ∃ t, u = Value.str x t from r); subst e; exact mixKind_str P w x t
theorem items_are {P : Program} {w : World} : ∀ {ks : List Key} {us : List Value}, Vals (ks.map kV) us → ItemsAre (mixKind P w) ks us
  | [], _, r => by rw [List.map_nil] at r; cases r; exact .nil
  | k :: ks, _, r => by
    rw [List.map_cons] at r
    cases r with
    | cons h t => exact .cons (kV_is h) (items_are t)

/-- raw entries of a dict with tuple keys -/
abbrev KT (H : Hp) : List (List Key × V) → List (List Key × Addr × Value) → Prop := Paired fun p q => p.1 = q.1 ∧ H q.2.1 = some (.tup (p.1.map kV)) ∧ RelV p.2 q.2.2
theorem KT.val {H : Hp} {kvs : List (List Key × V)} {xs : List (List Key × Addr × Value)} (r : KT H kvs xs) (k : List Key) : RelO (valV kvs k) ((atKey xs k).map (·.2)) := by
  induction r with
  | nil => exact True.intro
  | @cons p q ps qs h t ih =>
    obtain ⟨h1, _, h2⟩ := h
    by_cases e : p.1 = k
    · have e' : q.1 = k := h1.symm.trans e
      have b : atKey (q :: qs) k = some q.2 := by simp [atKey, List.find?_cons, e']
      rw [valV_pos e, b]; exact h2
    · have e' : ¬ q.1 = k := fun z => e (h1.trans z)
      have b : atKey (q :: qs) k = atKey qs k := by simp [atKey, List.find?_cons, e']
      rw [valV_neg e, b]; exact ih
theorem KT.repl {H : Hp} {kvs : List (List Key × V)} {xs : List (List Key × Addr × Value)} (r : KT H kvs xs) (k : List Key) {y : V} {u : Value} (ry : RelV y u) :
    KT H (kvs.map fun kv => if kv.1 = k then (kv.1, y) else kv) (xs.map (putAt k u)) := by
  induction r with
  | nil => exact .nil
  | @cons p q ps qs h t ih =>
    rw [List.map_cons, List.map_cons]
    refine .cons ?_ ih
    obtain ⟨h1, h2, h3⟩ := h
    unfold putAt
    by_cases e : p.1 = k
    · rw [if_pos e, if_pos (h1.symm.trans e)]; exact ⟨h1, h2, ry⟩
    · rw [if_neg e, if_neg (fun z => e (h1.trans z))]; exact ⟨h1, h2, h3⟩
theorem KT.put {H : Hp} {kvs : List (List Key × V)} {xs : List (List Key × Addr × Value)} (r : KT H kvs xs) (k : List Key) {b : Addr} {y : V} {u : Value} (hb : H b = some (.tup (k.map kV))) (ry : RelV y u) :
    KT H (putK kvs k y) (storedH xs k b u) := by
  have e : (kvs.any fun kv => decide (kv.1 = k)) = (atKey xs k).isSome := by
    rw [valV_any, (r.val k).isSome_eq, Option.isSome_map]
  unfold putK storedH
  rw [e]
  by_cases q : (atKey xs k).isSome = true
  · rw [if_pos q, if_pos q]; exact r.repl k ry
  · rw [if_neg q, if_neg q]; exact Paired.snoc r ⟨rfl, hb, ry⟩
theorem KT.keeps {H H' : Hp} {kvs : List (List Key × V)} {xs : List (List Key × Addr × Value)} (r : KT H kvs xs) (ht : ∀ b ys, H b = some (.tup ys) → H' b = some (.tup ys)) : KT H' kvs xs :=
  Paired.mapP r fun _ _ z => ⟨z.1, ht _ _ z.2.1, z.2.2⟩

section
variable {P : Program} {w : World} {H : Hp} {h : Heap} {a : Addr}
theorem rd_of {u : HO} (ok : HOk P w H h) (e : Rd H a u) : ObjOk P w H h a u := e.ok ok
theorem dk_rd {kvs : List (Key × V)} (ok : HOk P w H h) (e : Rd H a (.dK kvs)) : kvs.length ≤ sizeLine ∧ (a == sysModules) = false ∧ ∃ vs, KV kvs vs ∧ h.DictOf (mixKind P w) a vs :=
  show ObjOk P w H h a (.dK kvs) from rd_of ok e
theorem dk_of {kvs : List (Key × V)} (ok : HOk P w H h) (e : H a = some (.dK kvs)) : kvs.length ≤ sizeLine ∧ (a == sysModules) = false ∧ ∃ vs, KV kvs vs ∧ h.DictOf (mixKind P w) a vs := dk_rd ok (.inl e)
/-- a tracked tuple of ints and texts is a key -/
theorem key_of {ks : List Key} (ok : HOk P w H h) (e : H a = some (.tup (ks.map kV))) : (tupleKind (mixKind P w)).is h ks a := by
  obtain ⟨_, its, r, o, h1, h2, n, h3⟩ := (show ObjOk P w H h a (.tup (ks.map kV)) from ok a _ e)
  exact ⟨o, its.toArray, n, h1, h2, h3, by simpa using items_are r⟩
theorem dt_rd {kvs : List (List Key × V)} (ok : HOk P w H h) (e : Rd H a (.dT kvs)) : kvs.length ≤ sizeLine ∧ (a == sysModules) = false ∧
    ∃ xs, KT H kvs xs ∧ h.DictOfH (tupleKind (mixKind P w)) a xs := by
  obtain ⟨z, y, xs, r, o, es, ep, h1, h2, h3, h4, h5⟩ := (show ObjOk P w H h a (.dT kvs) from rd_of ok e)
  refine ⟨z, y, xs, r, o, es, ep, h1, h2, h3, h4, fun x hx => ?_, h5⟩
  have all : ∀ {l : List (List Key × V)} {m : List (List Key × Addr × Value)}, KT H l m → ∀ x ∈ m, (tupleKind (mixKind P w)).is h x.1 x.2.1 := by
    intro l m q
    induction q with
    | nil => intro x hx; exact nomatch hx
    | @cons p q ps qs hq t ih =>
      intro x hx
      rcases List.mem_cons.mp hx with e | hx
      · subst e
        exact key_of ok (by rw [← hq.1]; exact hq.2.1)
      · exact ih x hx
  exact all r x hx
theorem dt_of {kvs : List (List Key × V)} (ok : HOk P w H h) (e : H a = some (.dT kvs)) : kvs.length ≤ sizeLine ∧ (a == sysModules) = false ∧
    ∃ xs, KT H kvs xs ∧ h.DictOfH (tupleKind (mixKind P w)) a xs := dt_rd ok (.inl e)
end

/-- what the dict at a holds at the key y -/
def DGet (H : Hp) (a : Addr) (y : V) (r : Option V) : Prop :=
  (∃ kvs k, Rd H a (.dK kvs) ∧ y = kV k ∧ r = valV kvs k) ∨ ∃ kvs k b, Rd H a (.dT kvs) ∧ y = .ref b ∧ H b = some (.tup (k.map kV)) ∧ r = valV kvs k
/-- the heap behind a[y] = v -/
def DPut (H : Hp) (a : Addr) (y v : V) (H' : Hp) : Prop :=
  (∃ kvs k, H a = some (.dK kvs) ∧ y = kV k ∧ kvs.length < sizeLine ∧ H' = upd H a (.dK (putK kvs k v))) ∨
  ∃ kvs k b, H a = some (.dT kvs) ∧ y = .ref b ∧ H b = some (.tup (k.map kV)) ∧ kvs.length < sizeLine ∧ H' = upd H a (.dT (putK kvs k v))
theorem DPut.k {H : Hp} {a : Addr} {kvs : List (Key × V)} {k : Key} {v : V} (e : H a = some (.dK kvs)) (hl : kvs.length < sizeLine) : DPut H a (kV k) v (upd H a (.dK (putK kvs k v))) := .inl ⟨kvs, k, e, rfl, hl, rfl⟩
section
variable {X : Cx} {pins : List (Addr × Obj)} {σ : St} {H : Hp} {s : Shared} {a : Addr} {y v : V} {u r : Value} {o : Option V} {A : Around} {E : Value → Shared → Prop}

theorem Inv.big (I : Inv X pins σ H s) : sysModules < s.heap.objs.size := by
  have h : mainGlobals < s.heap.objs.size := (I.mod.glob.keeps I.bk).lt
  exact Nat.lt_trans (by decide) h

/-- d[y], there -/
theorem d_getItem {Q : Value → Shared → Prop} (hu : A.units + 1 < cLine) (I : Inv X pins σ H s) (g : DGet H a y (some v)) (ry : RelV y u) (h : ∀ w' s', Inv X pins σ H s' → RelV v w' → Q w' s') :
    wpAny (model X.prog X.w) A (getItem (.ref a) u) Q E s := by
  rcases g with ⟨kvs, k, e, ey, l⟩ | ⟨kvs, k, b, e, ey, eb, l⟩
  · subst ey
    obtain ⟨z, hd, vs, rel, dd⟩ := dk_rd I.hok e
    obtain ⟨w', hw, rw'⟩ := RelO.some_of (v := v) (o := valueAt vs k) (by rw [l]; exact rel.val k)
    exact wpAny_getItem_of (kV_is ry) dd.mapOf hw (h w' _ (I.tok _) rw')
  · subst ey
    cases (show u = Value.ref b from ry)
    obtain ⟨z, hd, xs, rel, dd⟩ := dt_rd I.hok e
    obtain ⟨w', hw, rw'⟩ := RelO.some_of (v := v) (o := (atKey xs k).map (·.2)) (by rw [l]; exact rel.val k)
    obtain ⟨p, hp, hp2⟩ := Option.map_eq_some_iff.mp hw
    refine wpAny_getItem_heap (tupleKind_room_in1 hu) (key_of I.hok eb) dd hp ?_
    rw [hp2]
    exact h w' _ (I.tok _) rw'
theorem d_notIn {Q : Value → Shared → Prop} (hu : A.units + 1 < cLine) (I : Inv X pins σ H s) (g : DGet H a y o) (ry : RelV y u) (h : ∀ s', Inv X pins σ H s' → Q (.bool (!o.isSome)) s') :
    wpAny (model X.prog X.w) A (compareOp .NotIn u (.ref a)) Q E s := by
  rcases g with ⟨kvs, k, e, ey, l⟩ | ⟨kvs, k, b, e, ey, eb, l⟩
  · subst ey
    obtain ⟨z, hd, vs, rel, dd⟩ := dk_rd I.hok e
    refine wpAny_notIn_of (kV_is ry) hd dd.mapOf ?_
    rw [← (rel.val k).isSome_eq, ← l]
    exact h _ (I.tok _)
  · subst ey
    cases (show u = Value.ref b from ry)
    obtain ⟨z, hd, xs, rel, dd⟩ := dt_rd I.hok e
    refine wpAny_notIn_heap (tupleKind_room_in1 hu) (key_of I.hok eb) hd dd ?_
    have q := (rel.val k).isSome_eq
    rw [Option.isSome_map] at q
    rw [← q, ← l]
    exact h _ (I.tok _)
/-- a dict's object is replaced -/
theorem d_write {h' : Heap} {t' : Nat} {ob : HO} (I : Inv X pins σ H s) (mu : Mut (H a)) (hs : Heap.SameBut a s.heap h') (he : ∃ q, h'.get? a = some q) (new : ObjOk X.prog X.w (upd H a ob) h' a ob) :
    Inv X pins σ (upd H a ob) { s with heap := h', toks := t' } :=
  I.write (x := a) (e := a) mu (.inl rfl) (fun b q hb z => (hs.2 b hb).trans z) he new
theorem dk_new {P : Program} {w : World} {H' : Hp} {h' : Heap} {kvs : List (Key × V)} {vs : List (Key × Value)} (z : kvs.length ≤ sizeLine) (hd : (a == sysModules) = false) (rel : KV kvs vs) (dd : h'.DictOf (mixKind P w) a vs) :
    ObjOk P w H' h' a (.dK kvs) := ⟨z, hd, vs, rel, dd⟩
/-- d[y] = v -/
theorem d_setItem {H' : Hp} {Q : Unit → Shared → Prop} (hu : A.units + 1 < cLine) (I : Inv X pins σ H s) (g : DPut H a y v H') (ry : RelV y u) (rv : RelV v r) (h : ∀ s', Inv X pins σ H' s' → Q () s') :
    wpAny (model X.prog X.w) A (setItem (.ref a) u r) Q E s := by
  rcases g with ⟨kvs, k, e, ey, l, eH⟩ | ⟨kvs, k, b, e, ey, eb, l, eH⟩
  · subst ey eH
    obtain ⟨z, hd, vs, rel, dd⟩ := dk_of I.hok e
    have hz : vs.length ≤ sizeLine := by rw [← rel.length]; exact z
    have hl : (putK kvs k v).length ≤ sizeLine := by have := length_putK kvs k v; omega
    refine wpAny_setItem_pairs (hsz := hz) (kV_is ry) dd fun h' dd' hs => h _ ?_
    have he : ∃ q, h'.get? a = some q := let ⟨q, _, _, hq, _⟩ := dd'; ⟨q, hq⟩
    exact d_write I (by rw [e]; exact True.intro) hs he (dk_new hl hd (rel.put k rv) dd')
  · subst ey eH
    cases (show u = Value.ref b from ry)
    obtain ⟨z, hd, xs, rel, dd⟩ := dt_of I.hok e
    have hz : xs.length ≤ sizeLine := by rw [← Paired.length rel]; exact z
    have hl : (putK kvs k v).length ≤ sizeLine := by have := length_putK kvs k v; omega
    refine wpAny_setItem_heap (hsz := hz) (tupleKind_room_in1 hu) (key_of I.hok eb) dd fun h' dd' hs => h _ ?_
    obtain ⟨q, es, ep, hq, h2, h3, h4, _, h5⟩ := dd'
    refine d_write I (by rw [e]; exact True.intro) hs ⟨q, hq⟩ ⟨hl, hd, _, (rel.put k eb rv).keeps fun c ys ec => ?_, q, es, ep, hq, h2, h3, h4, h5⟩
    rw [upd_ne (ne_of ec e (fun z => nomatch z))]
    exact ec
end

section
variable {X : Cx} {pins : List (Addr × Obj)} {σ : St} {H : Hp} {s : Shared} {a : Addr} {kvs : List (Key × V)} {k : Key} {u : Value} {A : Around} {E : Value → Shared → Prop}
/-- len(d) -/
theorem d_len {Q : Value → Shared → Prop} (I : Inv X pins σ H s) (e : Rd H a (.dK kvs)) (h : ∀ t s', Inv X pins σ H s' → Q (.int kvs.length t) s') : wpAny (model X.prog X.w) A (call (.builtin "len") [.ref a]) Q E s := by
  obtain ⟨z, hd, vs, rel, dd⟩ := dk_rd I.hok e
  refine call_len_dict hd dd (by rw [← rel.length]; rw [sizeLine_eq] at z; omega) ?_
  rw [← rel.length]
  exact h _ _ (I.tok _)
end


/-! ### readings and rules -/
/-- the element of a subscription, not a slice -/
def NoSl (i : Expr) : Prop := ∀ ov iv, subscripted i false ov iv = operate [ov, iv] (getItem ov iv)
theorem subD_of {prog : Program} {w : World} {A : Around} {E : Value → Shared → Prop} {s : Shared} {env : Env} {value slice : Expr} {pos : Pos} {T id : String} {Q : Value → Shared → Prop}
    (hl : typeLookup (.type T) "__getitem__" = pure (some (.builtin id))) (hs : NoSl slice)
    (h : wpAny (model prog w) A (eval value env) (fun o s₁ => wpAny (model prog w) A (eval slice env) (fun i s₂ => s₂.TypeIs o T ∧ wpAny (model prog w) A (getItem o i) Q E s₂) E s₁) E s) :
    wpAny (model prog w) A (eval (.Subscript value slice pos) env) Q E s := by
  refine Subscript_ (wpAny_mono h (fun o s₁ h₁ => wpAny_mono h₁ (fun i s₂ h₂ => ?_) fun _ _ x => x) fun _ _ x => x)
  obtain ⟨hT, h₂⟩ := h₂
  unfold subscriptTail
  refine wpAny_bind ?_
  rw [getitemInPython_of_ne hT.not_modules]
  refine wpAny_bind (wpAny_specialOf hT hl ?_)
  have fin : wpAny (model prog w) A (subscripted slice false o i) (fun r s₃ => wpAny (model prog w) A (letTemporaryGo value o r >>= fun _ => pure r) Q E s₃) E s₂ := by
    rw [hs o i]
    exact wpAny_operating (wpAny_mono h₂ (fun r s₃ h₃ => wpAny_bind (wpAny_letTemporaryGo (wpAny_pure h₃))) fun _ _ x => x)
  first
    | exact wpAny_pure (wpAny_bind fin)
    | exact wpAny_bind (wpAny_pure (wpAny_bind fin))
    | exact wpAny_bind fin

theorem dict_typeIs {X : Cx} {pins : List (Addr × Obj)} {σ : St} {H : Hp} {s : Shared} {a : Addr} {y : V} {o : Option V} (I : Inv X pins σ H s) (g : DGet H a y o) : s.TypeIs (.ref a) "dict" := by
  rcases g with ⟨kvs, k, e, _, _⟩ | ⟨kvs, k, b, e, _, _, _⟩
  · obtain ⟨_, _, vs, _, dd⟩ := dk_rd I.hok e
    exact dd.typeIs
  · obtain ⟨_, _, xs, _, dd⟩ := dt_rd I.hok e
    exact dd.typeIs
/-- d[y] -/
def tDGet (td ty : TE) : TE := fun σ H Q => td σ H fun x H1 => ty σ H1 fun y H2 => ∃ a v, x = .ref a ∧ DGet H2 a y (some v) ∧ Q v H2
def tDNotIn (ty td : TE) : TE := fun σ H Q => ty σ H fun y H1 => td σ H1 fun x H2 => ∃ a o, x = .ref a ∧ DGet H2 a y o ∧ Q (.bl (!o.isSome)) H2
/-- d[y] = v -/
def sDPut (td ty tv : TE) : TS := fun D σ H => tv σ H fun v H1 => td σ H1 fun x H2 => ty σ H2 fun y H3 => ∃ a H4, x = .ref a ∧ DPut H3 a y v H4 ∧ D.nx σ H4
section
variable {X : Cx} {o i e value : Expr} {pos pos' tpos : Pos} {td ty tv : TE}
theorem pe_dget (hu : X.A.units + 1 < cLine) (ho : PE X o td) (hi : PE X i ty) (hs : NoSl i) : PE X (.Subscript o i pos) (tDGet td ty) := by
  intro pins s σ H Q I h
  refine subD_of PySem.F.slot_dict_getitem.lookup hs (thn (ho pins s σ H _ I h) fun u s1 ⟨x, H1, I1, rx, q1⟩ => thn (hi pins s1 σ H1 _ I1 q1) fun iv s2 ⟨y, H2, I2, ry, a, v, ex, g, q2⟩ => ?_)
  subst ex
  obtain rfl : u = Value.ref a := rx
  exact ⟨dict_typeIs I2 g, d_getItem hu I2 g ry fun w' s3 I3 rw' => ⟨v, H2, I3, rw', q2⟩⟩
theorem pc_dnotin (hu : X.A.units + 1 < cLine) (hi : PE X i ty) (ho : PE X o td) : PC X .NotIn i o (tDNotIn ty td) := by
  intro pins s σ H Q I h
  refine thn (hi pins s σ H _ I h) fun iv s1 ⟨y, H1, I1, ry, q1⟩ => thn (ho pins s1 σ H1 _ I1 q1) fun u s2 ⟨x, H2, I2, rx, a, ov, ex, g, q2⟩ => ?_
  subst ex
  obtain rfl : u = Value.ref a := rx
  exact d_notIn hu I2 g ry fun s3 I3 => ⟨.bl (!ov.isSome), H2, I3, rfl, q2⟩
theorem ps_dput (hu : X.A.units + 1 < cLine) (ho : PE X o td) (hi : PE X i ty) (hv : PE X value tv) (hs : swapsWith value (some (.Subscript o i pos')) pos.line X.env = pure false) :
    PS X (.Assign [.Subscript o i pos'] value pos) (sDPut td ty tv) := by
  intro pins s σ H D I h
  refine wpAny_Assign_Subscript (thn (hv pins s σ H _ I h) fun r s1 ⟨v, H1, I1, rv, q1⟩ => thn (ho pins s1 σ H1 _ I1 q1) fun u s2 ⟨x, H2, I2, rx, q2⟩ => thn (hi pins s2 σ H2 _ I2 q2) fun iv s3 ⟨y, H3, I3, ry, a, H4, ex, g, q3⟩ => ?_) hs
  subst ex
  obtain rfl : u = Value.ref a := rx
  exact d_setItem hu I3 g ry rv fun s4 I4 => ⟨σ, H4, I4, q3⟩
end


/-! ### displays -/
theorem dk_empty {P : Program} {w : World} {H : Hp} (h : Heap) (hb : sysModules < h.objs.size) : ObjOk P w H (h.push { cls := .type "dict", data := .dict #[] }) h.objs.size (.dK []) :=
  ⟨Nat.zero_le _, beq_eq_false_iff_ne.mpr (Ne.symm (Nat.ne_of_lt hb)), [], .nil, Heap.DictOf.new h⟩
/-- {}, to be a dict of the kind that is wanted -/
def tDNewK : TE := fun _ H Q => ∀ p, H p = none → Q (.ref p) (upd H p (.dK []))
section
variable {X : Cx} {pos : Pos}
theorem pe_dnewK : PE X (.Dict [] [] pos) tDNewK := fun pins s σ H Q I h =>
  wpAny_Dict_empty ⟨.ref s.heap.objs.size, _, I.laid (a := s.heap.objs.size) (o := .dK []) (t' := s.toks) (fun _ _ q => Heap.get?_push_of_some _ q) (Nat.le_refl _) (dk_empty s.heap I.big), rfl, h _ (I.hok.fresh (Nat.le_refl _))⟩
end

/-! ### methods -/
section
variable {X : Cx} {pins : List (Addr × Obj)} {σ : St} {H : Hp} {s : Shared} {a : Addr} {y d : V} {u r : Value} {o : Option V} {A : Around} {E : Value → Shared → Prop}
end

section
variable {X : Cx} {o e f : Expr} {apos cpos : Pos} {td ty tx : TE}
end

/-! ### dict(d): a copy -/
section
variable {X : Cx} {pins : List (Addr × Obj)} {σ : St} {H : Hp} {s : Shared} {a : Addr} {kvs : List (Key × V)} {A : Around} {E : Value → Shared → Prop}
end


section
variable {X : Cx} {pins : List (Addr × Obj)} {σ : St} {H : Hp} {s : Shared} {a : Addr} {y : V} {u : Value} {A : Around} {E : Value → Shared → Prop}
end
end L2

namespace Att
open PySem PySem.W PySem.Calls PyProof.Rows

/-! ### the script -/
theorem ints_of_wellAll {P : Params} {h : Heap} : ∀ (ns : List Int) (vs : List Value), WellAll P h vs (ns.map WData.int) → IntsAre vs ns := by
  intro ns
  induction ns with
  | nil =>
    intro vs w
    rw [List.map_nil] at w
    cases w
    exact .nil
  | cons n ns ih =>
    intro vs w
    rw [List.map_cons] at w
    cases w with
    | cons a b =>
      cases a
      exact .cons _ _ (ih _ b)

theorem script_of {l : OpenLaw} {n : Nat} (hn : l.most = some n) {P : Params} {h : Heap} {args : List WData} {vals : List Value}
    (hpre : l.row.toRowW.claim.pre args = true) (hwl : WellAll P h vals args) :
    ∃ a vs ns, vals = [Value.ref a] ∧ args = [WData.list (ns.map WData.int)] ∧ h.get? a = some { cls := .type "list", data := .seq vs.toArray } ∧ IntsAre vs ns ∧ ns.length ≤ n := by
  have hsh : WShape.hasAll [] args [.list .int] = true := (pre_splitW hpre).1
  have hc : l.pre.holds [] { args := args } = true := (pre_splitW hpre).2
  obtain ⟨d, r, rfl, h1, h2⟩ := hasAllW_cons hsh
  obtain rfl := hasAllW_nil h2
  obtain ⟨xs, rfl, h3⟩ := hasW_list h1
  obtain ⟨ns, rfl⟩ := items_int h3
  have hlen : ns.length ≤ n := by
    unfold OpenLaw.pre at hc
    have h4 : (WTm.not (.lt (.lit (.int (n : Int))) (.len (.arg 0)))).holds [] { args := [.list (ns.map .int)] } = true := by
      have h4 := (holds_andW hc).1
      rw [hn] at h4
      exact h4
    have h5 := condW_of h4 (w_not (w_lt w_lit (w_len_list (w_arg rfl))))
    rw [List.length_map] at h5
    refine Nat.le_of_not_lt fun q => ?_
    have q' : (n : Int) < ((ns.length : Nat) : Int) := by omega
    first
      | (rw [decide_eq_true q'] at h5; exact absurd h5 (by decide))
      | (simp at h5; omega)
  cases hwl with
  | cons w1 w2 =>
    cases w2
    cases w1 with
    | list ho hall => exact ⟨_, _, ns, rfl, rfl, ho, ints_of_wellAll ns _ hall, hlen⟩

theorem post_true (l : OpenLaw) (args : List WData) : l.row.toRowW.claim.post args (.bool true) args = true :=
  postW_of (r := l.row.toRowW) (X := (true == true))
    (show WShape.has [] (.bool true) .bool = true by first | rfl | decide | simp [WShape.has, WShape.arms, WShape.armsAll])
    (show (WTm.eq .res (.lit (.bool true))).value [] { args := args, res := some (.bool true), after := args } = some (.bool (true == true)) from w_eq_bool (w_res rfl) w_lit) rfl

/-! ### the attachment: holds_open's last premise (the goal 'hc' behind k_head) from a wpAny of the law's body -/
/-- the same from a codeAny of the CALL (for a layer whose function contracts speak of calls) -/
theorem attach_call {l : OpenLaw} {n : Nat} {q : Program} {loose : List Str} {XP : (Str → Option Value) → Heap → Prop} {YP : World → Heap → Prop} {d : DefRec}
    (hn : l.most = some n) (hdf : d.params.defaults = [])
    (call : ∀ (w : World) (s₀ s₁ : Shared) (mg mb : Str → Option Value) (fa : Addr) (o : Obj) (pm cd doc : Value) (a : Addr) (vs : List Value) (ns : List Int),
      Ground q loose [] XP w s₀ mg mb s₁.heap → YP w s₁.heap →
      s₁.heap.get? fa = some o → o.data = .func (docDef d.name d.params d.body d.scope pm cd doc) → s₁.heap.CodeRec cd d.name → mg d.name = some (.ref fa) →
      s₁.heap.get? a = some { cls := .type "list", data := .seq vs.toArray } → IntsAre vs ns → ns.length ≤ n → s₁.gens = #[] →
      codeAny (model l.prog w) callerA (.call (.ref fa) ⟨[.ref a], []⟩) (fun r s' => r = .ok (.ret (.bool true)) ∧ OldK s₁.heap s'.heap ∧ s'.os = s₁.os ∧ AllBare s'.gens) s₁) :
    WalkO q loose XP YP l.row.toRowW d [] (fun f vs => PySem.call f vs) := by
  intro w s₀ s₁ mg mb G Y fa o pm cd doc dV kV ho hd hcd hD hmg hg args vals as hpre hlay hrd hwl hlo
  obtain rfl : dV = .none := Dflts.none hD hdf
  obtain rfl : kV = .none := Dflts.noKw hD
  obtain ⟨a, vs, ns, rfl, rfl, hobj, hints, hlen⟩ := script_of hn hpre hwl
  refine enter_call (codeAny_mono (call w s₀ s₁ mg mb fa o pm cd doc a vs ns G Y ho (fd_plain hd) hcd hmg hobj hints hlen hg) fun r s' hq => ?_)
  obtain ⟨rfl, h2, h3, h4⟩ := hq
  exact ⟨.inl ⟨.bool true, .bool true, [], rfl, fun _ => rfl, .bool true, post_true l _, fun _ => ⟨List.Pairwise.nil, fun _ hm => (nomatch hm)⟩⟩, h2, h3, h4⟩

/-! ### rules over ANY heap (no ledger) from facts about the written part K: the library's own take a ledger (News) for what they write -/
section
variable {prog : Program} {w : World} {A : Around} {E : Value → Shared → Prop} {s : Shared} {K : Frag}

/-! the whole heap as the ledger: makes every rule that writes through a ledger a rule over any heap -/
end
end Att

namespace L2
open PySem PySem.Spec PyProof.Rows

theorem vals_ints : ∀ {vs : List Value} {ns : List Int}, IntsAre vs ns → Vals (ns.map V.int) vs
  | _, _, .nil => .nil
  | _, _, .cons n t h => .cons ⟨t, rfl⟩ (vals_ints h)

/-- nothing is tracked but the script, known to the object (or it is an object of the module) -/
def Only (H : Hp) : Prop := ∀ b, H b = none ∨ ∃ o xs, H b = some (.frz o (.lst xs))

/-- THE HEAD: the law's promise, at the heap behind the top. F, the promise of the law's def, may use that base is part of the heap (so K.In base, base.Ns mainGlobals mg stand in Mod) -/
theorem law_call {P : Program} {w : World} {K : PySem.W.Frag} {mg mb : Str → Option Value} {CX : CXT} {k : Nat} {fa a : Addr} {fd : FuncData} {x : Str} {sp : Sp} {s₁ : Shared} {vs : List Value} {ns : List Int}
    (KX : K.In s₁.heap) (hns : s₁.heap.Ns mainGlobals mg) (hb : s₁.heap.Ns builtinsNs mb) (hbb : ∀ x : Str, x ≠ "__name__" → mb x = bootBuiltins x) (hlim : s₁.heap.NoLimit) (hg : s₁.gens = #[])
    (ha : s₁.heap.get? a = some { cls := .type "list", data := .seq vs.toArray }) (hi : IntsAre vs ns) (hl : ns.length ≤ sizeLine) (hr : Room k callerA)
    (F : ∀ base : Heap, K.In base → base.Ns mainGlobals mg → FnOk P w K mg base CX k fa fd [x] sp) (hbind : ∀ (s : Shared) (u : Value), BindsTo s fd ⟨[u], []⟩ [(x, u)])
    (hsp : ∀ H : Hp, Only H → SqL K H a (ns.map V.int) → sp [.ref a] H (fun v _ => v = .bl true) fun _ _ _ => False)
    (hCX : ∀ H e s', CX [] H s₁ (fun _ _ _ => False) e s' → False) :
    codeAny (model P w) callerA (.call (.ref fa) ⟨[.ref a], []⟩) (fun r s' => r = .ok (.ret (.bool true)) ∧ OldK s₁.heap s'.heap ∧ s'.os = s₁.os ∧ AllBare s'.gens) s₁ := by
  have rv := vals_ints hi
  have lenV := hi.length
  -- from an abstract heap in which nothing but the script may be tracked
  have core : ∀ H : Hp, Only H → SqL K H a (ns.map V.int) → HOk P w H s₁.heap → (∀ b, H b ≠ none → b = a) → (H a ≠ none → K.lookup a = none) →
      codeAny (model P w) callerA (.call (.ref fa) ⟨[.ref a], []⟩) (fun r s' => r = .ok (.ret (.bool true)) ∧ OldK s₁.heap s'.heap ∧ s'.os = s₁.os ∧ AllBare s'.gens) s₁ := by
    intro H hO hS hok hA hK
    have base_of : ∀ {b : Addr} {o : Obj}, s₁.heap.get? b = some o → H b = none → (hidT s₁.heap H).get? b = some o := fun e n => hidT_get e n
    have noA : ∀ {b : Addr} {o : Obj} {es : Array DictEntry} {ep : Nat}, s₁.heap.get? b = some o → o.data = .dict es ep → H b = none := fun {b o es ep} e d => by
      cases q : H b with
      | none => rfl
      | some u =>
        have e' : b = a := hA b (by rw [q]; simp)
        subst e'
        rw [ha] at e; cases e
        have d' : Data.seq vs.toArray _ = Data.dict es ep := d
        cases d'
    have nsK : ∀ {b : Addr} {m : Str → Option Value}, s₁.heap.Ns b m → (hidT s₁.heap H).Ns b m := fun {b m} ⟨o, es, ep, e, d, r⟩ => ⟨o, es, ep, base_of e (noA e d), d, r⟩
    have hKb : K.In (hidT s₁.heap H) := fun b o e => base_of (KX b o e) (by
      cases q : H b with
      | none => rfl
      | some u =>
        have e' : b = a := hA b (by rw [q]; simp)
        subst e'
        rw [hK (by rw [q]; simp)] at e; cases e)
    have hM : Mod K mg (hidT s₁.heap H) := ⟨hKb, nsK hns, ⟨mb, nsK hb, hbb⟩, let ⟨mc, h1, h2⟩ := hlim; ⟨mc, nsK h1, h2⟩⟩
    have e0 : Env0 P w K mg (hidT s₁.heap H) callerA [] s₁ H := ⟨rfl, hM, fun b o e => of_hidT e, Nat.le_of_eq (hidT_size _ _), trivial, fun b hb => absurd (show b ∈ ([] : List Addr) from hb) (by simp), hok, .of_eq hg⟩
    refine codeAny_mono ((F _ hKb (nsK hns)).run callerA [] s₁ H ⟨[.ref a], []⟩ [.ref a] [.ref a] _ _ hr e0 (hbind s₁ (.ref a)) (.cons rfl .nil) (hsp H hO hS)) fun r s' h => ?_
    cases r with
    | error e => exact (hCX H e s' h).elim
    | ok fl =>
      cases fl with
      | next => exact False.elim h
      | brk => exact False.elim h
      | cont => exact False.elim h
      | ret u =>
        obtain ⟨v, H', os, bare, un, hok', r', q⟩ := h
        have q' : v = .bl true := q
        subst q'
        obtain rfl : u = Value.bool true := r'
        refine ⟨rfl, OldK.of_keep fun b o e => ?_, os, bare⟩
        cases q : H b with
        | none => exact un.keep b o e q (by intro z; exact absurd (show b ∈ ([] : List Addr) from z) (by simp)) (by simp)
        | some u =>
          rcases hO b with z | ⟨ob, xs, z⟩
          · rw [q] at z; cases z
          · have z2 := un.frzs b ob _ z
            obtain ⟨e1, _⟩ := hok b _ z
            obtain ⟨e2, _⟩ := hok' b _ z2
            rw [e] at e1; cases e1
            exact e2
  cases hk : K.lookup a with
  | some o =>
    -- the script is one of the module's own objects
    have e := KX a o hk
    rw [ha] at e
    cases e
    refine core (fun _ => none) (fun _ => .inl rfl) (.inr ⟨_, vs.toArray, _, hk, rfl, rfl, rfl, by rw [List.size_toArray, lenV]; exact hl, by simpa using rv⟩) (fun b u z => by have z' : (none : Option HO) = some u := z; cases z') (fun b z => absurd rfl z) fun z => absurd rfl z
  | none =>
    refine core (fun b => if b = a then some (.frz { cls := .type "list", data := .seq vs.toArray } (.lst (ns.map V.int))) else none) (fun b => ?_) (.inl (.inr ⟨{ cls := .type "list", data := .seq vs.toArray }, if_pos rfl⟩)) (fun b u z => ?_) (fun b z => ?_) fun _ => hk
    · by_cases hb : b = a
      · exact .inr ⟨_, _, if_pos hb⟩
      · exact .inl (if_neg hb)
    · by_cases hb : b = a
      · have z' := (if_pos hb).symm.trans z
        cases z'
        subst hb
        exact ⟨ha, by rw [List.length_map]; exact hl, vs, _, rv, ha⟩
      · have z' := (if_neg hb).symm.trans z
        cases z'
    · by_cases hb : b = a
      · exact hb
      · exact absurd (if_neg hb) z
end L2

namespace L2
open PySem PySem.Spec PyProof.Rows

/-- the goal that k_head leaves (case hc), from the law's promise. F gives the function object fd (K's own) once, then the promise over every base -/
theorem walk_of {l : PySem.W.OpenLaw} {n k : Nat} {q : Program} {loose : List Str} {XP : (Str → Option Value) → Heap → Prop} {YP : World → Heap → Prop} {d : DefRec} {K : Params → PySem.W.Frag} {CX : World → CXT} {sp : World → Sp} {x : Str}
    (hn : l.most = some n) (hn2 : n ≤ sizeLine) (hdf : d.params.defaults = []) (hr : Room k callerA)
    (hY : ∀ (w : World) (h : Heap), YP w h → (K w.params).In h)
    (F : ∀ (w : World) (mg : Str → Option Value) (fa : Addr) (h : Heap), (K w.params).In h → h.Ns mainGlobals mg → mg d.name = some (.ref fa) →
      ∃ fd : FuncData, (∀ (s : Shared) (u : Value), BindsTo s fd ⟨[u], []⟩ [(x, u)]) ∧
        ∀ base : Heap, (K w.params).In base → base.Ns mainGlobals mg → FnOk l.prog w (K w.params) mg base (CX w) k fa fd [x] (sp w))
    (hsp : ∀ (w : World) (H : Hp) (a : Addr) (ns : List Int), ns.length ≤ n → Only H → SqL (K w.params) H a (ns.map V.int) → sp w [.ref a] H (fun v _ => v = .bl true) fun _ _ _ => False)
    (hCX : ∀ (w : World) (H : Hp) (s : Shared) (e : Value) (s' : Shared), CX w [] H s (fun _ _ _ => False) e s' → False) :
    PySem.W.WalkO q loose XP YP l.row.toRowW d [] (fun f vs => PySem.call f vs) := by
  refine Att.attach_call hn hdf fun w s₀ s₁ mg mb fa o pm cd doc a vs ns G Y ho hd hcd hmg hobj hints hlen hg => ?_
  have KX := hY w _ Y
  obtain ⟨fd, hb, hF⟩ := F w mg fa _ KX G.T.g hmg
  exact law_call KX G.T.g G.T.b G.T.builtins G.T.nolimit hg hobj hints (Nat.le_trans hlen hn2) hr hF hb (fun H hO hS => hsp w H a ns hlen hO hS) fun H e s' => hCX w H s₁ e s'
end L2

/- THE LAST THEOREM (shape; LID, My.* are yours):
   My.Adr: a structure of the addresses that your layer names (classes, functions); My.Txt K t: a structure (Prop) of the equations over K;
   My.txt_mk : {K} {implicit addresses ..} (e1 : nsIn K mainGlobals "law" = some (some (.ref f))) (e2 : K.lookup f = some ⟨oc, od, .func (fnOf "law" "law" params body scope dV kV doc pm an cdv ct), sl⟩) (e3 : codeIn K cdv "law" = true) .. : ∃ t, My.Txt K t

set_option maxRecDepth 100000 in
set_option maxHeartbeats 0 in
theorem PySem.Challenge.cw_LID_holds : PySem.Challenge.rw_LID.Holds := by
  w_on; o_law; k_head; (case hw => w_witness2)
  k_fill
  refine L2.walk_of (l := PySem.Challenge.rw_LID) (n := 63) (k := 40) (x := "script") (CX := fun w => ..) (sp := fun _ => My.sp_law) rfl (by decide) rfl ⟨rfl, by decide, by decide⟩ (fun w h Y => PySem.W.kIn_of Y) ?F ?S ?C
  case F =>
    intro w mg fa h KX G hmg
    have T : ∃ t, My.Txt (L2.KOf KX) t := by
      dsimp only [L2.KOf]                          -- K must stand as «<heap const> w.params» for k_is
      refine' My.txt_mk ?e1 ?e2 ?e3 ..
      (case e1 => PySem.W.k_is)                    -- in the order: a name -> its address -> its object -> its parts
      (case e2 => PySem.W.k_is)
      ..
    obtain ⟨t, T⟩ := T
    have e0 := hmg.symm.trans (PySem.W.mg_of KX G T.law)
    cases e0                                       -- fa is the law's own address
    exact ⟨_, fun s u => .of_eq rfl, fun base kb nb => My.law_fn T kb nb⟩     -- if «.of_eq rfl» comes too early: refine' ⟨_, ?b, fun base kb nb => My.law_fn T kb nb⟩; exact fun s u => .of_eq rfl
  case S => exact fun w H a ns hl hO hS => ..
  case C => exact ..
(the tactic k_is has no namespace: write k_is) -/

/-! SHORT WORDS over the layer: a def of the text, its body, what a loop and a test want. -/
namespace L2
open PySem PySem.Spec PyProof.Rows

/-! ### the text by places -/
def defArgs (s : Stmt) : Arguments := match s with
  | .FunctionDef _ a _ _ _ _ _ _ _ _ => a
  | _ => { posonlyargs := [], args := [], vararg := none, kwonlyargs := [], kw_defaults := [], kwarg := none, defaults := [] }
def defBody (s : Stmt) : List Stmt := match s with
  | .FunctionDef _ _ b _ _ _ _ _ _ _ => b
  | _ => []
def defScope (s : Stmt) : Scope := match s with
  | .FunctionDef _ _ _ _ _ _ sc _ _ _ => sc
  | _ => { kind := .function, names := [], isGenerator := false, isCoroutine := false }

/-! ### no exception leaves a def -/
abbrev CX0 : CXT := fun _ _ _ _ _ _ => False
abbrev E0 : XK := fun _ _ _ => False
theorem pass0 {X : Cx} : Passes CX0 X E0 := fun _ _ _ _ _ _ _ h => h.elim

/-! ### a def (or method) of the text as it stands behind the top -/
section
variable {P : Program} {w : World} {K : PySem.W.Frag} {mg : Str → Option Value} {base : Heap}
end
theorem hu_of {A : Around} {k : Nat} (hr : Room k A) : A.units + 1 < cLine := Nat.lt_of_le_of_lt (Nat.add_le_add_left (by decide : 1 ≤ 64) _) hr.units
/-! ### expressions in short: the name that stands in the i-th slot -/
section
variable {X : Cx}
theorem pv (i : Nat) {x : Str} {pos : Pos} (hN : X.N[i]? = some x := by rfl) (hv : Vis X.env.scope x := by first | exact Or.inl rfl | exact Or.inr (Or.inl rfl) | exact Or.inr (Or.inr rfl)) (hd : (x == ("__debug__" : Str)) = false := by decide)
    (hcd : (x == ("__classdict__" : Str)) = false := by decide) : PE X (.Name x pos) (tVar i) := pe_var hN hv hd hcd
end

/-! ### tests -/
theorem iteF {A B : Prop} (h : B) : if false = true then A else B := by
  rw [if_neg Bool.false_ne_true]
  exact h
theorem iteT {A B : Prop} (h : A) : if true = true then A else B := by
  rw [if_pos rfl]
  exact h
/-! ### heaps -/
/-- all that was tracked is as it was -/
def Same (H H' : Hp) : Prop := ∀ b o, H b = some o → H' b = some o
theorem Same.refl (H : Hp) : Same H H := fun _ _ h => h
theorem Same.trans {H H1 H2 : Hp} (a : Same H H1) (b : Same H1 H2) : Same H H2 := fun c o h => b c o (a c o h)
theorem Same.free {H H' : Hp} (e : Same H H') {l : Addr} (h : H' l = Option.none) : H l = Option.none := by
  cases q : H l with
  | none => rfl
  | some o =>
    rw [e l o q] at h
    cases h
theorem Same.seq {K : PySem.W.Frag} {H H' : Hp} {a : Addr} {xs : List V} (e : Same H H') (h : SqL K H a xs) : SqL K H' a xs := by
  rcases h with (h | ⟨o, h⟩) | h
  · exact .inl (.inl (e _ _ h))
  · exact .inl (.inr ⟨o, e _ _ h⟩)
  · exact .inr h

end L2
set_option Elab.async false
set_option linter.all false
set_option maxRecDepth 100000
namespace L2
open PySem PySem.Spec PyProof.Rows
section
variable {X : Cx} {pins : List (Addr × Obj)} {σ : St} {H : Hp} {s : Shared} {h' : Heap}
/-- records of ours have turned, and a new thing was laid -/
theorem Inv.turnedNew {ch : List Addr} {T : Addr} {o : HO} {t' : Nat} (I : Inv X pins σ H s) (hf : ∀ b ∈ ch, FpOk X pins H b) (k : ∀ b u, b ∉ ch → s.heap.get? b = some u → h'.get? b = some u) (hp : s.heap.objs.size ≤ T) (new : ObjOk X.prog X.w (upd H T o) h' T o) :
    Inv X pins σ (upd H T o) { s with heap := h', toks := t' } := by
  have nT : H T = none := I.hok.fresh hp
  have ne : ∀ b u, H b = some u → b ≠ T := fun b u e z => by rw [z, nT] at e; cases e
  have nch : ∀ b u, H b = some u → b ∉ ch := fun b u e z => by rw [(hf b z).1] at e; cases e
  have up : ∀ b u, H b = some u → upd H T o b = some u := fun b u e => by rw [upd_ne (ne b u e)]; exact e
  refine I.step (g' := s.gens) (d' := s.drawn) (ch := ch) (fun b hb => ?_) (fun b u _ _ hc e _ => k b u hc e) (fun b u _ _ hc e _ => ⟨u.slots, k b u hc e⟩) (fun b u _ e n => ?_)
    (fun b u hc e => ⟨u, k b u hc e⟩) (fun b xs e => up b _ e) (fun b u v e => up b _ e) (fun b ps e => ⟨#[], by rw [up b _ e]; simp⟩) (fun m hm => ?_) (fun b u e => ?_) I.bare
  · obtain ⟨f0, f1, f2, f3, f4, f5⟩ := hf b hb
    exact ⟨f3, f1, f4, f5⟩
  · have : b ≠ T := Nat.ne_of_lt (Nat.lt_of_lt_of_le (Heap.lt_size e) hp)
    rw [upd_ne this]
    exact n
  · obtain ⟨u, es, ep, ho, r⟩ := hm
    exact ⟨u, es, ep, k _ u (fun z => (hf _ z).2.1 rfl) ho, r⟩
  · by_cases c : b = T
    · subst c
      rw [upd_same] at e
      cases e
      exact new
    · rw [upd_ne c] at e
      refine (I.hok b u e).stay (fun c' v hc q => k c' v ?_ q) (fun _ q => up _ _ q) fun _ _ q => up _ _ q
      rcases hc with z | z
      · rw [z]; exact nch b u e
      · exact nch c' _ z
theorem Inv.turnedAll {ch : List Addr} {t' : Nat} (I : Inv X pins σ H s) (hf : ∀ b ∈ ch, FpOk X pins H b) (k : ∀ b u, b ∉ ch → s.heap.get? b = some u → h'.get? b = some u) : Inv X pins σ H { s with heap := h', toks := t' } := by
  have nch : ∀ b u, H b = some u → b ∉ ch := fun b u e z => by rw [(hf b z).1] at e; cases e
  refine I.step (g' := s.gens) (d' := s.drawn) (ch := ch) (fun b hb => ?_) (fun b u _ _ hc e _ => k b u hc e) (fun b u _ _ hc e _ => ⟨u.slots, k b u hc e⟩) (fun b u _ e n => n)
    (fun b u hc e => ⟨u, k b u hc e⟩) (fun b xs e => e) (fun b u v e => e) (fun b ps e => ⟨#[], by rw [e]; simp⟩) (fun m hm => ?_) (fun b u e => ?_) I.bare
  · obtain ⟨f0, f1, f2, f3, f4, f5⟩ := hf b hb
    exact ⟨f3, f1, f4, f5⟩
  · obtain ⟨u, es, ep, ho, r⟩ := hm
    exact ⟨u, es, ep, k _ u (fun z => (hf _ z).2.1 rfl) ho, r⟩
  · refine (I.hok b u e).stay (fun c' v hc q => k c' v ?_ q) (fun _ q => q) fun _ _ q => q
    rcases hc with z | z
    · rw [z]; exact nch b u e
    · exact nch c' _ z
end
end L2
set_option Elab.async false
set_option linter.all false
set_option maxRecDepth 100000
namespace L2
open PySem PySem.Spec PyProof.Rows
/-- two lists walked side by side -/
def Itz (K : PySem.W.Frag) (l1 l2 : Addr) : It :=
  ⟨fun i H => ∃ xs ys x y, SqL K H l1 xs ∧ SqL K H l2 ys ∧ xs[i]? = some x ∧ ys[i]? = some y,
   fun i H v H' => ∃ (T : Addr) (x y : V), v = .ref T ∧ H T = none ∧ (∀ xs, SqL K H l1 xs → xs[i]? = some x) ∧ (∀ ys, SqL K H l2 ys → ys[i]? = some y) ∧ H' = upd H T (.tup [x, y]),
   fun i H => ∃ xs ys, SqL K H l1 xs ∧ SqL K H l2 ys ∧ (xs.length ≤ i ∨ ys.length ≤ i)⟩
structure ZipSt (h : Heap) (z TI TO i1 i2 l1 l2 : Addr) (i : Nat) : Prop where
  zip : IsZip h z TI TO .none
  ti : IsPair h TI (.ref i1) (.ref i2)
  to : ∃ a b, IsPair h TO a b
  it1 : h.IsListIter i1 l1 i
  it2 : h.IsListIter i2 l2 i
theorem list_ne {h : Heap} {l b : Addr} {its : Array Value} {o : Obj} {n : String} (hl : h.IsList l its) (e : h.get? b = some o) (c : o.cls = .type n) (ne : n ≠ "list") : l ≠ b := fun z => by
  obtain ⟨o', e', c', _⟩ := hl
  rw [z, e] at e'
  cases e'
  rw [c] at c'
  injection c' with c'
  exact ne c'
theorem ZipSt.apart {h : Heap} {z TI TO i1 i2 l1 l2 : Addr} {i : Nat} {xs ys : Array Value} (st : ZipSt h z TI TO i1 i2 l1 l2 i) (d : [z, TI, TO, i1, i2].Nodup) (h1 : h.IsList l1 xs) (h2 : h.IsList l2 ys) : ZipApart z TI TO i1 i2 l1 l2 := by
  obtain ⟨a, b, eto⟩ := st.to
  obtain ⟨o1, e1, c1, _⟩ := st.it1
  obtain ⟨o2, e2, c2, _⟩ := st.it2
  simp only [List.nodup_cons, List.mem_cons, List.not_mem_nil, or_false, not_or, List.nodup_nil, and_true] at d
  obtain ⟨⟨d1, d2, d3, d4⟩, ⟨d5, d6, d7⟩, ⟨d8, d9⟩, d10, _⟩ := d
  have lz : ∀ {l : Addr} {its : Array Value}, h.IsList l its → l ≠ z ∧ l ≠ TI ∧ l ≠ TO ∧ l ≠ i1 ∧ l ≠ i2 := fun hl => ⟨list_ne hl st.zip rfl (by decide), list_ne hl st.ti rfl (by decide), list_ne hl eto rfl (by decide), list_ne hl e1 c1 (by decide), list_ne hl e2 c2 (by decide)⟩
  obtain ⟨p1, p2, p3, p4, p5⟩ := lz h1
  obtain ⟨q1, q2, q3, q4, q5⟩ := lz h2
  constructor <;> first | assumption | exact Ne.symm (by assumption)
theorem turn_zip {P : Program} {w : World} {K : PySem.W.Frag} {elts : List Expr} {k : Nat} {pos : Pos} (l1 l2 z TI TO i1 i2 : Addr) (d : [z, TI, TO, i1, i2].Nodup) : Turn P w K (.Tuple elts k pos) (Itz K l1 l2) [z, TI, TO, i1, i2] z (fun i h => ZipSt h z TI TO i1 i2 l1 l2 i) where
  mem := by simp
  obj := fun i h st b hb => by
    obtain ⟨a, b', eto⟩ := st.to
    obtain ⟨o1, e1, c1, d1⟩ := st.it1
    obtain ⟨o2, e2, c2, d2⟩ := st.it2
    simp only [List.mem_cons, List.not_mem_nil, or_false] at hb
    rcases hb with q | q | q | q | q <;> subst q
    · exact ⟨_, st.zip, fun v z => by cases z⟩
    · exact ⟨_, st.ti, fun v z => by cases z⟩
    · exact ⟨_, eto, fun v z => by cases z⟩
    · exact ⟨o1, e1, fun v z => by rw [d1] at z; cases z⟩
    · exact ⟨o2, e2, fun v z => by rw [d2] at z; cases z⟩
  keep := fun i h h' st k => ⟨k _ (by simp) _ st.zip, k _ (by simp) _ st.ti, let ⟨a, b, e⟩ := st.to; ⟨a, b, k _ (by simp) _ e⟩, st.it1.at fun o q => k _ (by simp) o q, st.it2.at fun o q => k _ (by simp) o q⟩
  item := by
    intro X hP hw hK hc i pins s σ H E I hf st hg
    subst hP hw hK
    obtain ⟨xs, ys, x, y, hq1, hq2, hx, hy⟩ := hg
    obtain ⟨is1, rv1, p1, hz1⟩ := I.list hq1
    obtain ⟨is2, rv2, p2, hz2⟩ := I.list hq2
    obtain ⟨u, hu, ru⟩ := rv1.get hx
    obtain ⟨v, hv, rv⟩ := rv2.get hy
    have ap := st.apart d p1.isList p2.isList
    obtain ⟨a, b, eto⟩ := st.to
    refine wpAny_pyNext_zip_item ap st.zip st.ti eto st.it1 st.it2 p1.isList p2.isList (x := u) (y := v) (by simpa using hu) (by simpa using hv) fun h1 ho hto hi1 hi2 hT hsz hk => ?_
    refine ⟨_, rfl, wpAny_letOwnedTupleGo_zip (s := { s with heap := h1 }) ho fun h2 hz2' hs2 => ?_⟩
    have nT : H s.heap.objs.size = none := I.hok.fresh (Nat.le_refl _)
    have lt : ∀ b ∈ [z, TI, TO, i1, i2], b < s.heap.objs.size := fun b hb => by
      obtain ⟨o1, e1, _⟩ := st.it1
      obtain ⟨o2, e2, _⟩ := st.it2
      simp only [List.mem_cons, List.not_mem_nil, or_false] at hb
      rcases hb with q | q | q | q | q <;> subst q
      · exact Heap.lt_size st.zip
      · exact Heap.lt_size st.ti
      · exact Heap.lt_size eto
      · exact Heap.lt_size e1
      · exact Heap.lt_size e2
    have zl := lt z (by simp)
    have hT2 : IsPair h2 s.heap.objs.size u v := (hs2.2 _ (Nat.ne_of_gt zl)).trans hT
    have kp : ∀ b o, b ∉ [z, TI, TO, i1, i2] → s.heap.get? b = some o → h2.get? b = some o := fun b o hb q => by
      simp only [List.mem_cons, List.not_mem_nil, or_false, not_or] at hb
      exact (hs2.2 b hb.1).trans (hk b o hb.1 hb.2.2.1 hb.2.2.2.1 hb.2.2.2.2 q)
    have eti : h1.get? TI = some { cls := .type "tuple", data := .seq #[.ref i1, .ref i2] } := hk TI _ ap.TIz ap.TITO ap.TIi1 ap.TIi2 st.ti
    refine ⟨.ref s.heap.objs.size, upd H s.heap.objs.size (.tup [x, y]), I.turnedNew (t' := s.toks) (ch := [z, TI, TO, i1, i2]) hf kp (Nat.le_refl _) ⟨by show 2 ≤ sizeLine; decide, [u, v], .cons ru (.cons rv .nil), ⟨_, hT2, rfl, 0, rfl⟩⟩, rfl,
      ⟨_, x, y, rfl, nT, fun ys hy' => by rw [I.list_inj hy' hq1]; exact hx, fun ys hy' => by rw [I.list_inj hy' hq2]; exact hy, rfl⟩, ⟨hz2', (hs2.2 _ ap.TIz).trans eti, ⟨u, v, (hs2.2 _ ap.TOz).trans hto⟩, hi1.at fun o q => (hs2.2 _ ap.i1z).trans q, hi2.at fun o q => (hs2.2 _ ap.i2z).trans q⟩, fun b hb => ?_⟩
    rw [upd_ne (Nat.ne_of_lt (lt b hb))]
    exact (hf b hb).1
  done := by
    intro X hP hw hK hc i pins s σ H E I hf st hg
    subst hP hw hK
    obtain ⟨xs, ys, hq1, hq2, hx⟩ := hg
    obtain ⟨is1, rv1, p1, hz1⟩ := I.list hq1
    obtain ⟨is2, rv2, p2, hz2⟩ := I.list hq2
    have ap := st.apart d p1.isList p2.isList
    obtain ⟨a, b, eto⟩ := st.to
    have e1 := rv1.length
    have e2 := rv2.length
    refine wpAny_pyNext_zip_end (I.ok.hd hc) ap st.zip st.ti eto st.it1 st.it2 p1.isList p2.isList (by rcases hx with q | q; exact .inl (by simp; omega); exact .inr (by simp; omega)) fun h' hk => ⟨rfl, I.turnedAll (t' := s.toks) (ch := [z, TI, TO, i1, i2]) hf fun b o hb q => ?_⟩
    simp only [List.mem_cons, List.not_mem_nil, or_false, not_or] at hb
    exact hk b o hb.1 hb.2.2.1 hb.2.2.2.1 hb.2.2.2.2 q
  self := fun _ _ _ _ _ st h => wpAny_pyIter_zip st.zip h
theorem nodup5 (n : Nat) : [n + 4, n + 2, n + 3, n, n + 1].Nodup := by
  simp
def iZip (K : PySem.W.Frag) (ta : TA) : TI := fun σ H R => ta σ H fun vs H1 => ∃ l1 l2 : Addr, vs = [.ref l1, .ref l2] ∧ (∃ xs, SqL K H1 l1 xs) ∧ (∃ ys, SqL K H1 l2 ys) ∧ R (Itz K l1 l2) H1
theorem boot_zip : bootBuiltins "zip" = some (.type "zip") := by kernel_rfl
theorem pi_zip {X : Cx} {a b : Expr} {ta : TA} {elts : List Expr} {k : Nat} {tp p pos : Pos} (hg : Gl X "zip") (hm : X.mg "zip" = none) (ha : PA X [a, b] ta) (hs : starEach [a, b] X.env = [(false, eval a X.env), (false, eval b X.env)] := by rfl) (hs2 : starEach [b] X.env = [(false, eval b X.env)] := by rfl) :
    PI X (.Tuple elts k tp) (.Call (.Name "zip" p) [a, b] [] pos) (iZip X.K ta) := by
  intro pins s σ H R I h
  refine Call_ (ld_blt I hg hm boot_zip (PyProof.Rows.callWith_type1 (thn (ha pos pins s σ H _ I h) fun us s1 ⟨vs, H1, I1, r1, q1⟩ => ?_) (by rw [hs, hs2]) (by rw [hs2]; rfl)))
  obtain ⟨l1, l2, e, ⟨xs, hq1⟩, ⟨ys, hq2⟩, q⟩ := q1
  subst e
  cases r1 with
  | cons r rr =>
    cases rr with
    | cons r' rr =>
      cases rr
      cases r
      cases r'
      obtain ⟨is1, rv1, p1, hz1⟩ := I1.list hq1
      obtain ⟨is2, rv2, p2, hz2⟩ := I1.list hq2
      refine call_zip_2 p1.isList p2.isList fun h' hz hti hto hi1 hi2 hsz hk => ?_
      refine wpAny_pyIter_zip (s := { s1 with heap := h' }) hz ?_
      have I2 : Inv X pins σ H1 { s1 with heap := h' } := I1.kept (t' := s1.toks) hk
      refine ⟨s1.heap.objs.size + 4, [s1.heap.objs.size + 4, s1.heap.objs.size + 2, s1.heap.objs.size + 3, s1.heap.objs.size, s1.heap.objs.size + 1], _, _, H1, rfl, I2, turn_zip l1 l2 _ _ _ _ _ (nodup5 _), ⟨hz, hti, ⟨_, _, hto⟩, hi1, hi2⟩, fun b hb => ?_, q⟩
      have bl : s1.heap.objs.size ≤ b := by
        simp only [List.mem_cons, List.not_mem_nil, or_false] at hb
        rcases hb with q | q | q | q | q <;> rw [q] <;> first | exact Nat.le_refl _ | exact Nat.le_add_right _ _
      exact I1.fpOk bl (I1.hok.fresh bl)
/-- over two lists side by side; the body leaves them as they are -/
theorem for_zip {K : PySem.W.Frag} {l1 l2 : Addr} {xs ys : List V} {g : TG} {tb : TS} {D : Ends} {σ : St} {H : Hp} (Pv : Nat → St → Hp → Prop) (h0 : Pv 0 σ H) (hl : ∀ i σ H, i ≤ min xs.length ys.length → Pv i σ H → SqL K H l1 xs ∧ SqL K H l2 ys)
    (hs : ∀ i x y σ H (T : Addr), xs[i]? = some x → ys[i]? = some y → Pv i σ H → H T = none → g (.ref T) σ (upd H T (.tup [x, y])) fun σ2 H2 => tb { D with nx := Pv (i + 1), ct := Pv (i + 1), bk := D.nx } σ2 H2) (hd : ∀ σ H, Pv (min xs.length ys.length) σ H → D.nx σ H) :
    ∃ W : Nat → Nat → St → Hp → Prop, (∃ m, W 0 m σ H) ∧ ∀ i m σ H, W i m σ H →
      ((Itz K l1 l2).stop i H ∧ D.nx σ H) ∨ ((Itz K l1 l2).go i H ∧ ∃ N : St → Hp → Prop, (∀ σ' H', N σ' H' → ∃ m', m' < m ∧ W (i + 1) m' σ' H') ∧ ∀ x H', (Itz K l1 l2).yld i H x H' → g x σ H' fun σ2 H2 => tb { D with nx := N, ct := N, bk := D.nx } σ2 H2) := by
  refine ⟨fun i m σ H => m = min xs.length ys.length - i ∧ i ≤ min xs.length ys.length ∧ Pv i σ H, ⟨min xs.length ys.length, by simp, Nat.zero_le _, h0⟩, ?_⟩
  rintro i m σ H ⟨rfl, hi, p⟩
  obtain ⟨q1, q2⟩ := hl i σ H hi p
  by_cases hlt : i < min xs.length ys.length
  · refine .inr ⟨⟨xs, ys, xs[i]'(by omega), ys[i]'(by omega), q1, q2, List.getElem?_eq_getElem _, List.getElem?_eq_getElem _⟩, Pv (i + 1), fun σ' H' p' => ⟨min xs.length ys.length - (i + 1), by omega, rfl, by omega, p'⟩, fun x H' y => ?_⟩
    obtain ⟨T, a, b, rfl, nT, ha, hb, rfl⟩ := y
    exact hs i a b σ H T (ha xs q1) (hb ys q2) p nT
  · have e : i = min xs.length ys.length := by omega
    subst e
    exact .inl ⟨⟨xs, ys, q1, q2, by omega⟩, hd σ H p⟩
end L2
set_option Elab.async false
set_option linter.all false
set_option maxRecDepth 100000
namespace L2
open PySem PySem.Spec PyProof.Rows
section
variable {X : Cx}
theorem op_mulB : OpR X (binaryOp .Mult) (rI (fun i j => IntMulOk i j) fun i j => .int (i * j)) := opI fun _ _ _ _ _ _ _ hc q => mul_int q hc
theorem op_fdivB : OpR X (binaryOp .FloorDiv) (rI (fun i j => j ≠ 0 ∧ Builtin.divisionGoesByPylong i j = false) fun i j => .int (i.fdiv j)) := opI fun _ _ _ _ _ _ _ hc q => floordiv_int hc.1 q (.inl hc.2)
theorem op_powB : OpR X (binaryOp .Pow) (rI (fun i j => 0 ≤ j ∧ (Builtin.Int.intBits i : Int) * j ≤ 2 ^ 27) fun i j => .int (i ^ j.toNat)) := opI fun _ _ _ _ _ _ _ hc q => pow_int hc.1 hc.2 q
theorem isi_int_int : CallR X (.builtin "isinstance") (fun xs H Q => ∃ i, xs = [.int i, .ty "int"] ∧ Q (.bl true) H) := by
  intro pins s σ H xs us Q I r h
  obtain ⟨i, rfl, q⟩ := h
  obtain ⟨u, w', rfl, ⟨t, rfl⟩, e2⟩ := vals2 r
  cases e2
  exact PySem.call_isinstance (PySem.isinstance_true (Tx := "int") PySem.F.isi_meta_int PySem.F.isi_self_int) ⟨rfl, ⟨.bl true, H, I, rfl, q⟩⟩
theorem isi_int_bool : CallR X (.builtin "isinstance") (fun xs H Q => ∃ i, xs = [.int i, .ty "bool"] ∧ Q (.bl false) H) := by
  intro pins s σ H xs us Q I r h
  obtain ⟨i, rfl, q⟩ := h
  obtain ⟨u, w', rfl, ⟨t, rfl⟩, e2⟩ := vals2 r
  cases e2
  exact PySem.call_isinstance (PySem.isinstance_false_int (T := "bool") (by decide) PySem.F.isi_meta_bool PySem.F.sub_int_bool) ⟨.bl false, H, I.tok _, rfl, q⟩
theorem isi_bl_bool : CallR X (.builtin "isinstance") (fun xs H Q => ∃ i, xs = [.bl i, .ty "bool"] ∧ Q (.bl true) H) := by
  intro pins s σ H xs us Q I r h
  obtain ⟨i, rfl, q⟩ := h
  obtain ⟨u, w', rfl, e1, e2⟩ := vals2 r
  cases e1
  cases e2
  exact PySem.call_isinstance (PySem.isinstance_true (Tx := "bool") PySem.F.isi_meta_bool PySem.F.isi_self_bool) ⟨rfl, ⟨.bl true, H, I, rfl, q⟩⟩
theorem isi_tup_tup : CallR X (.builtin "isinstance") (fun xs H Q => ∃ a ys, xs = [.ref a, .ty "tuple"] ∧ SqT X.K H a ys ∧ Q (.bl true) H) := by
  intro pins s σ H xs us Q I r h
  obtain ⟨a, ys, rfl, hs, q⟩ := h
  obtain ⟨u, w', rfl, e1, e2⟩ := vals2 r
  cases e1
  cases e2
  obtain ⟨its, _, p1, _⟩ := I.tuple hs
  exact PySem.call_isinstance (PySem.isinstance_true (Tx := "tuple") PySem.F.isi_meta_tuple PySem.F.isi_self_tuple) ⟨p1.typeIs, ⟨.bl true, H, I, rfl, q⟩⟩
end
end L2
set_option Elab.async false
set_option linter.all false
set_option maxRecDepth 100000
namespace Sw
open PySem
/-! ### sizes -/
/-! ### divisors -/
/-! ### fractions -/
end Sw
set_option Elab.async false
set_option linter.all false
set_option maxRecDepth 100000
namespace L2
open PySem
inductive Isi (K : PySem.W.Frag) (H : Hp) : V → String → Bool → Prop where
  | ii (i : Int) : Isi K H (.int i) "int" true
  | ib (i : Int) : Isi K H (.int i) "bool" false
  | bb (b : Bool) : Isi K H (.bl b) "bool" true
  | tt (a : Addr) (ys : List V) (h : SqT K H a ys) : Isi K H (.ref a) "tuple" true
theorem call_isi {X : Cx} : CallR X (.builtin "isinstance") (fun xs H Q => ∃ x T b, xs = [x, .ty T] ∧ Isi X.K H x T b ∧ Q (.bl b) H) := by
  intro pins s σ H xs us Q I r h
  obtain ⟨x, T, b, rfl, i, q⟩ := h
  cases i with
  | ii i => exact isi_int_int pins s σ H _ us Q I r ⟨i, rfl, q⟩
  | ib i => exact isi_int_bool pins s σ H _ us Q I r ⟨i, rfl, q⟩
  | bb i => exact isi_bl_bool pins s σ H _ us Q I r ⟨i, rfl, q⟩
  | tt a ys h => exact isi_tup_tup pins s σ H _ us Q I r ⟨a, ys, rfl, h, q⟩
end L2
namespace Sw
open PySem L2
theorem dT {p A B : Prop} [Decidable p] (h : p) (a : A) : if decide p = true then A else B := by rw [if_pos (decide_eq_true h)]; exact a
theorem dF {p A B : Prop} [Decidable p] (h : ¬ p) (b : B) : if decide p = true then A else B := by rw [if_neg (by simp [h])]; exact b
theorem d2 {p A B : Prop} [Decidable p] (h1 : p → A) (h2 : ¬ p → B) : if decide p = true then A else B := by
  by_cases h : p
  · exact dT h (h1 h)
  · exact dF h (h2 h)
theorem nT {p A B : Prop} [Decidable p] (h : ¬ p) (a : A) : if (!decide p) = true then A else B := by rw [if_pos (by simp [h])]; exact a
theorem nF {p A B : Prop} [Decidable p] (h : p) (b : B) : if (!decide p) = true then A else B := by rw [if_neg (by simp [h])]; exact b
theorem vi {a b : Int} (h : a = b) : V.int a = V.int b := by rw [h]
theorem vj {a b : Int} (h : V.int a = V.int b) : a = b := by cases h; rfl
theorem d2I {a b : Int} {A B : Prop} (h1 : a = b → A) (h2 : a ≠ b → B) : if decide (V.int a = V.int b) = true then A else B := d2 (fun h => h1 (vj h)) fun h => h2 fun e => h (vi e)
theorem n2I {a b : Int} {A B : Prop} (h1 : a ≠ b → A) (h2 : a = b → B) : if (!decide (V.int a = V.int b)) = true then A else B := by
  by_cases h : a = b
  · exact nF (vi h) (h2 h)
  · exact nT (fun e => h (vj e)) (h1 h)
theorem dFI {a b : Int} {A B : Prop} (h : a ≠ b) (x : B) : if decide (V.int a = V.int b) = true then A else B := dF (fun e => h (vj e)) x
theorem nFI {a b : Int} {A B : Prop} (h : a = b) (x : B) : if (!decide (V.int a = V.int b)) = true then A else B := nF (vi h) x
section
variable {X : Cx} {k j : Nat} {x : Str} {ps : List Str} {sp : Sp} {p pos : Pos} {e : Expr} {es : List Expr} {t : TA}
end
/-! ### promises -/
def spCell (K : PySem.W.Frag) : Sp := fun vs H Q _ => ∃ (a : Addr) (ns : List Int) (k : Int), vs = [.ref a, .int k] ∧ SqL K H a (ns.map V.int) ∧ 0 ≤ k ∧ ∀ v : Int, Q (.int v) H
def spWhole : Sp := fun vs H Q _ => ∃ v : Int, vs = [.int v] ∧ Q (.bl true) H
def spLaw (K : PySem.W.Frag) : Sp := fun vs H Q _ => ∃ (a : Addr) (ns : List Int), vs = [.ref a] ∧ SqL K H a (ns.map V.int) ∧ ns.length ≤ 63 ∧ ∀ H', Q (.bl true) H'
theorem cell_ok {ns : List Int} {k : Int} (h0 : 0 ≤ k) (h : k < (((ns.map V.int).length : Nat) : Int)) : ∃ v : Int, atI (ns.map V.int) k = some (.int v) := by
  rw [List.length_map] at h
  have hk : k.toNat < ns.length := by omega
  have ek : k = ((k.toNat : Nat) : Int) := by omega
  have q : atI (ns.map V.int) ((k.toNat : Nat) : Int) = some (.int ns[k.toNat]) := atI_nat (by rw [List.getElem?_map, List.getElem?_eq_getElem hk] <;> rfl)
  rw [← ek] at q
  exact ⟨_, q⟩
end Sw
set_option Elab.async false
set_option linter.all false
set_option maxRecDepth 100000
namespace Sw
open PySem L2
theorem cut {t u : TS} {D : Ends} {σ : L2.St} {H : Hp} (I : L2.St → Hp → Prop) (h1 : ∀ N : L2.St → Hp → Prop, (∀ σ H, I σ H → N σ H) → t { D with nx := N } σ H) (h2 : ∀ σ H, I σ H → u D σ H) : tSeq t u D σ H := h1 _ h2
theorem same_new {H : Hp} {p : Addr} (h : H p = none) (o : HO) : Same H (upd H p o) := fun b u q => by rw [upd_ne (ne_of_none q h)]; exact q
end Sw
set_option Elab.async false
set_option linter.all false
set_option maxRecDepth 100000
namespace Sw
open PySem L2
structure FunD (K : PySem.W.Frag) (x qual : Str) (st : Stmt) (dV : Value) (f : Addr) (fd : FuncData) : Prop where
  ex : ∃ (oc : Value) (od : Option Addr) (kV doc pm : Value) (an : Option Addr) (cdv ct : Value) (osl : Array (Option Value)),
    fd = PySem.W.fnOf x qual (defArgs st) (defBody st) (defScope st) dV kV doc pm an cdv ct ∧ K.lookup f = some ⟨oc, od, .func fd, osl⟩ ∧ PySem.W.codeIn K cdv qual = true
  kp : PySem.W.keepIn K (.ref f) = true
section
variable {P : Program} {w : World} {K : PySem.W.Frag} {mg : Str → Option Value} {base : Heap}
theorem FunD.ok {x qual : Str} {st : Stmt} {dV : Value} {f : Addr} {fd : FuncData} {N ps : List Str} {k : Nat} {sp : Sp} (F : FunD K x qual st dV f fd) (S : FnScope N ps (defScope st)) (len : ∀ vs H Q E, sp vs H Q E → vs.length = ps.length)
    (hbody : ∀ (cdv : Value) (A : Around) (outer : List Env) (s : Shared) (H : Hp) (vs : List V) (Q : VK) (E : XK), Room k (A.deeper (PyProof.Rows.envOfC qual (defScope st) s.heap.objs.size f cdv)) → sp vs H Q E →
      ∃ t, PSs (cxOf CX0 P w K mg base N qual (defScope st) f cdv A outer s H E).nox (defBody st) t ∧ t { nx := fun _ H' => Q .non H', rt := Q } (start N vs) H) : FnOk P w K mg base CX0 (k + 1) f fd ps sp := by
  obtain ⟨oc, od, kV, doc, pm, an, cdv, ct, osl, rfl, lk, hcd⟩ := F.ex
  refine fn_of lk hcd S len fun A outer s H vs Q E hr hsp => ?_
  obtain ⟨t, h, q⟩ := hbody cdv A outer s H vs Q E hr hsp
  exact ⟨t, h.nox, q⟩
theorem FunD.binds {x qual : Str} {st : Stmt} {T : Addr} {f : Addr} {fd : FuncData} {ps : List Str} {o : Obj} {items : Array Value} {n : Nat} {ds : List Value} (F : FunD K x qual st (.ref T) f fd) (ho : K.lookup T = some o) (hs : o.data = .seq items n)
    (h : ∀ (kV doc pm : Value) (an : Option Addr) (cdv ct : Value) (us : List Value), (us ++ ds).length = ps.length → ∃ k : Option (Array Value) → Sem (List (Str × Value)), bindArgs (PySem.W.fnOf x qual (defArgs st) (defBody st) (defScope st) (.ref T) kV doc pm an cdv ct) ⟨us, []⟩ = seqItems? (.ref T) >>= k ∧ k (some items) = pure (ps.zip (us ++ ds))) : Binds K fd ps ds := by
  obtain ⟨oc, od, kV, doc, pm, an, cdv, ct, osl, rfl, lk, hcd⟩ := F.ex
  intro s us KX hl
  obtain ⟨k, h1, h2⟩ := h kV doc pm an cdv ct us hl
  exact PySem.W.binds_K KX rfl ho hs h1 h2
theorem FunD.binds0 {x qual : Str} {st : Stmt} {dV : Value} {f : Addr} {fd : FuncData} {ps : List Str} (F : FunD K x qual st dV f fd)
    (h : ∀ (kV doc pm : Value) (an : Option Addr) (cdv ct : Value) (us : List Value), us.length = ps.length → bindArgs (PySem.W.fnOf x qual (defArgs st) (defBody st) (defScope st) dV kV doc pm an cdv ct) ⟨us, []⟩ = pure (ps.zip us)) : Binds K fd ps [] := by
  obtain ⟨oc, od, kV, doc, pm, an, cdv, ct, osl, rfl, lk, hcd⟩ := F.ex
  exact .all (h kV doc pm an cdv ct)
theorem funD_mk {x qual : Str} {st : Stmt} {f : Addr} {oc dV : Value} {od an : Option Addr} {osl : Array (Option Value)} {kV doc pm cdv ct : Value} (l : K.lookup f = some ⟨oc, od, .func (PySem.W.fnOf x qual (defArgs st) (defBody st) (defScope st) dV kV doc pm an cdv ct), osl⟩)
    (c : PySem.W.codeIn K cdv qual = true) (k : PySem.W.keepIn K (.ref f) = true) : FunD K x qual st dV f (PySem.W.fnOf x qual (defArgs st) (defBody st) (defScope st) dV kV doc pm an cdv ct) := ⟨⟨oc, od, kV, doc, pm, an, cdv, ct, osl, rfl, l, c⟩, k⟩
end
section
variable {X : Cx} {k j : Nat} {x : Str} {ps : List Str} {sp : Sp} {p pos : Pos} {e : Expr} {es : List Expr} {t : TA} {dvs : List V}
end
/-! ### the mathematics of sums -/
end Sw
set_option Elab.async false
set_option linter.all false
set_option maxRecDepth 100000
namespace XH
open PySem
/-! ### what a frame's note and the flight of an exception change -/
section
variable {M : Model} {A : Around} {E : Value → Shared → Prop} {s : Shared}
end
end XH
set_option Elab.async false
set_option linter.all false
set_option maxRecDepth 100000
namespace L2
open PySem PySem.Spec PyProof.Rows XH
/-! ### an exception behind a call, in flight: it and its notes are untracked, and were not there ahead of the call -/
section
variable {P : Program} {w : World} {H H' : Hp} {h h' h0 : Heap} {fs ch : List Addr} {a : Addr} {o : HO}
end
section
variable {P : Program} {w : World} {H H' : Hp} {s s' : Shared} {a L : Addr} {cls v : Value} {dx : Option Addr} {st : XSt} {env : Env} {outer : List Env} {base : Heap} {M : Model} {A : Around} {Z : Value → Shared → Prop} {Q : Unit → Shared → Prop}
end
section
variable {X : Cx} {k : Nat} {f C : Addr} {fd : FuncData} {ps : List Str} {sp : Sp} {dvs : List V} {ds : List Value} {E : St → XK} {x m : Str} {p pos apos : Pos} {e o : Expr} {es : List Expr} {ta : TE} {t : TA}
end
section
variable {P : Program} {w : World} {K : PySem.W.Frag} {mg : Str → Option Value} {base : Heap}
end
/-! ### try -/
/-- an exception that was caught or made, tracked -/
def excB (n : Bool) (a : Addr) (cls : Value) (dx : Option Addr) : HO := .ext fun h => ∃ ox vs, h.get? a = some ox ∧ ox.cls = cls ∧ ox.dict = dx ∧ ox.data = .fields vs ∧ vs[2]? = some .none ∧ (n = true → 1 < vs.size ∧ vs[1]? = some .none)
section
variable {X : Cx} {pins : List (Addr × Obj)} {σ : St} {H H' : Hp} {s s' : Shared}
end
section
variable {X : Cx} {body : List Stmt} {h₀ : ExceptHandler} {hs : List ExceptHandler} {pos : Pos} {th : TH}
end
end L2
set_option Elab.async false
set_option linter.all false
set_option maxRecDepth 100000
namespace L2
open PySem PySem.Spec PyProof.Rows XH
section
variable {prog : Program} {w : World} {A : Around} {E : Value → Shared → Prop} {K : PySem.W.Frag} {h : Heap} {g : Array GenState} {d : Drawn} {t : Nat} {os : OsState} {x C : Addr} {ox : Obj} {od : Option Obj} {name : Str}
end
end L2
set_option Elab.async false
set_option linter.all false
set_option maxRecDepth 100000
namespace L2
open PySem PySem.Spec PyProof.Rows XH
section
variable {prog : Program} {w : World} {A : Around} {E : Value → Shared → Prop} {K : PySem.W.Frag}
end
section
variable {X : Cx} {x n : Str} {np pos : Pos} {b0 : Stmt} {suite : List Stmt} {rest : List ExceptHandler} {i : Nat} {C' : Addr} {t : TS} {th : TH}
end
/-! ### raise -/
section
variable {X : Cx} {x : Str} {np cpos pos : Pos} {e₀ : Expr} {rest : List Expr} {C : Addr} {t : TA} {E : St → XK}
end
/-! ### isinstance of an exception -/
end L2
set_option Elab.async false
set_option linter.all false
set_option maxRecDepth 100000
namespace L2
open PySem PySem.Spec PyProof.Rows XH
/-! ### list comprehensions -/
abbrev Cx.block (X : Cx) (scope : Scope) (cl : List (Str × Addr)) (C : Addr) (N : List Str) (own : Str) (fp : List Addr) (s : Shared) (H : Hp) : Cx :=
  { X with env := compEnvC scope cl C X.env, N := N, s₀ := s, H₀ := H, outer := X.stack, stack := X.stack, ex := fp, fn := fun y => y == own, pn := [], xe := fun _ _ => False }
/-- what a comprehension's scope must have; ys: the names it takes from around, at the slots js there -/
structure CompOk (X : Cx) (scope : Scope) (cl : List (Str × Addr)) (own : Str) (ys : List Str) (js : List Nat) : Prop where
  clos : closureFor scope X.env = pure cl
  nocell : (scope.names.all fun p => !(p.2 == .cell)) = true
  kind : scope.kind = .function
  loc : (scope.names.all fun p => !(p.2 == .local) || scope.names.lookup p.1 == some .local) = true
  ownL : scope.names.lookup own = some .local
  sub : ∀ p ∈ cl, X.env.cells.lookup p.1 = some p.2
  has : ((relabel scope X.env).names.all fun p => !(p.2 == .cell || p.2 == .free) || (cl.lookup p.1).isSome) = true
  noown : cl.lookup own = none
  nd : (own :: ys).Nodup
  at_ : ∀ (i : Nat) (y : Str), ys[i]? = some y → ∃ j : Nat, js[i]? = some j ∧ X.N[j]? = some y ∧ (X.env.scope.names.lookup y = some .cell ∨ X.env.scope.names.lookup y = some .free) ∧ ((relabel scope X.env).names.lookup y = some .cell ∨ (relabel scope X.env).names.lookup y = some .free)
  len : js.length = ys.length
def freesOf (js : List Nat) (σ : St) : St := js.map fun j => (σ[j]?).getD none
def compR (js : List Nat) (te : TE) (σ : St) (Q : VK) : It → Hp → Prop := fun J H1 => ∀ p, H1 p = none → ∃ W : Nat → Nat → List V → Hp → Prop, (∃ m, W 0 m [] (upd H1 p (.lst []))) ∧
  ∀ i m ys H2, W i m ys H2 → H2 p = some (.lst ys) ∧ ((J.stop i H2 ∧ Q (.ref p) H2) ∨ (J.go i H2 ∧ ys.length < sizeLine ∧ ∀ x H3, J.yld i H2 x H3 → te (some x :: freesOf js σ) H3 fun y H4 => H4 p = some (.lst ys) ∧ ∃ m', m' < m ∧ W (i + 1) m' (ys ++ [y]) (upd H4 p (.lst (ys ++ [y])))))
def tComp (wi : TI) (js : List Nat) (te : TE) : TE := fun σ H Q => wi σ H (compR js te σ Q)
theorem lookup_all {α : Type} {f : Str × α → Bool} {x : Str} {a : α} : ∀ {l : List (Str × α)}, l.all f = true → l.lookup x = some a → f (x, a) = true := by
  intro l h e
  exact List.all_eq_true.mp h _ (PySem.mem_of_lookup e)
section
variable {prog : Program} {w : World} {A : Around} {R : Result → Shared → Prop} {s : Shared}
theorem compLoop_own {elt target iter : Expr} {scope : Scope} {pos : Pos} {it acc : Value} {env : Env} (I : Nat → Shared → Prop)
    (turn : ∀ n s, I n s → wpAny (model prog w) A (pyNext it) (fun r s1 => match r with
      | none => R (.ok .next) s1
      | some v => wpAny (model prog w) A (letOwnedTupleGo target it v) (fun _ s2 => wpAny (model prog w) A (assign target env v) (fun _ s3 => wpAny (model prog w) A (eval elt env) (fun x s4 =>
          wpAny (model prog w) A (call (.builtin "list.append") [acc, x]) (fun _ s5 => ∃ m, m < n ∧ I m s5) (fun _ _ => False) s4) (fun _ _ => False) s3) (fun _ _ => False) s2) (fun _ _ => False) s1) (fun _ _ => False) s)
    (n : Nat) (h : I n s) : codeAny (model prog w) A (.compLoop (.ListComp elt [⟨target, iter, [], 0⟩] scope pos) 0 it acc env) R s := by
  apply codeAny_loop rfl I ?_ n h
  intro n s hI
  show wpAny _ _ ((compTurn (.ListComp elt [⟨target, iter, [], 0⟩] scope pos) 0 it acc env).onRaise _) _ _ s
  apply wpAny_noted
  rw [compTurn_list1]
  apply wpAny_bind
  apply wpAny_standAt
  apply wpAny_bind
  refine wpAny_mono (turn n s hI) (fun r s1 h1 => ?_) fun _ _ z => z.elim
  cases r with
  | none => exact wpAny_pure h1
  | some v =>
    apply wpAny_bind
    refine wpAny_mono h1 (fun _ s2 h2 => ?_) fun _ _ z => z.elim
    apply wpAny_bind
    refine wpAny_mono h2 (fun _ s3 h3 => ?_) fun _ _ z => z.elim
    apply wpAny_bind
    apply wpAny_bind
    refine wpAny_mono h3 (fun x s4 h4 => ?_) fun _ _ z => z.elim
    apply wpAny_bind
    refine wpAny_mono h4 (fun _ s5 h5 => ?_) fun _ _ z => z.elim
    exact wpAny_pure (wpAny_pure ⟨rfl, h5⟩)
end
section
variable {X : Cx} {scope : Scope} {cl : List (Str × Addr)} {own : Str} {ys : List Str} {js : List Nat} {fp : List Addr} {pins : List (Addr × Obj)} {σ : St} {H : Hp} {s s4 : Shared}
theorem block_start {h1 : Heap} (ok : CompOk X scope cl own ys js) (I : Inv X pins σ H s) (hf : ∀ b ∈ fp, FpOk X pins H b) (hlt : ∀ b ∈ fp, b < s.heap.objs.size) (hns : h1.Ns s.heap.objs.size (fun _ => none))
    (hk : ∀ b o, s.heap.get? b = some o → h1.get? b = some o) (tk : Nat) :
    Inv (X.block scope cl s.heap.objs.size (own :: ys) own fp s H) [] (none :: freesOf js σ) H { s with heap := h1, toks := tk } := by
  have sub : ∀ y c, cl.lookup y = some c → X.env.cells.lookup y = some c := fun y c e => ok.sub (y, c) (PySem.mem_of_lookup e)
  refine ⟨⟨I.ok.mod, ok.kind, I.ok.glob, I.ok.blt, Nat.le_refl _, fun x y c e1 e2 => I.ok.inj x y c (sub x c e1) (sub y c e2), fun x hx => ?_, fun x c e1 e2 => ?_, I.ok.hd, I.ok.frames, .inl rfl, fun b hb => ⟨Nat.ne_of_lt (hlt b hb), fun x c e => (hf b hb).2.2.2.2.1 x c (sub x c e)⟩,
    I.bs, Nat.le_trans I.ok.bsz I.sz, fun b o e hb => ?_, fun b hb z => ?_, I.stack, I.stkFree⟩, rfl, I.bare, Un.kept hk, ⟨_, hns, fun i y v e1 e2 e3 => ?_⟩, fun y c e => ?_, I.hok.fresh (Nat.le_refl _), fun y c e => I.freeC y c (sub y c e), fun p hp => absurd (show p ∈ ([] : List (Addr × Obj)) from hp) (by simp), I.hok.kept hk, ?_⟩
  · have hx' : (relabel scope X.env).names.lookup x = some .cell ∨ (relabel scope X.env).names.lookup x = some .free := hx
    rcases hx' with z | z
    · have q := lookup_all ok.has z
      simp only [beq_self_eq_true, Bool.true_or, Bool.not_true, Bool.false_or] at q
      exact Option.isSome_iff_exists.mp q
    · have q := lookup_all ok.has z
      simp only [beq_self_eq_true, Bool.or_true, Bool.not_true, Bool.false_or] at q
      exact Option.isSome_iff_exists.mp q
  · have e1' : (x == own) = true := e1
    have e : x = own := beq_iff_eq.mp e1'
    have e2' : cl.lookup x = some c := e2
    rw [e, ok.noown] at e2'
    cases e2'
  · rcases (hf b hb).2.2.2.1 with z | z
    · exact I.ok.noex b o e z
    · exact absurd (Nat.lt_of_lt_of_le (Heap.lt_size (I.ok.bs b o e).1) z) (Nat.lt_irrefl _)
  · rcases List.mem_cons.mp (I.stkSub b z) with q | q
    · exact (hf b hb).2.1 q
    · exact (hf b hb).2.2.1 q
  · cases i with
    | zero => cases e2
    | succ i =>
      have e1' : ys[i]? = some y := e1
      obtain ⟨j, hj, hN, hX, hc⟩ := ok.at_ i y e1'
      have e2' : (freesOf js σ)[i]? = some (some v) := e2
      unfold freesOf at e2'
      rw [List.getElem?_map, hj] at e2'
      have hs : σ[j]? = some (some v) := by
        cases q : σ[j]? with
        | none => rw [Option.map_some, q] at e2'; cases e2'
        | some o => rw [Option.map_some, q] at e2'; exact e2'
      obtain ⟨m, hn, hl⟩ := I.loc
      obtain ⟨u, r, l⟩ := hl j y v hN hs (hX.elim (fun z => .inr (.inl z)) fun z => .inr (.inr z))
      refine ⟨u, r, .inr ⟨hc, ?_⟩⟩
      rcases l with ⟨k, _⟩ | ⟨k, c, hcl, hcell⟩
      · have k' : X.env.scope.names.lookup y = some .local := k
        rcases hX with z | z <;> (rw [z] at k'; cases k')
      · have ex : ∃ c', cl.lookup y = some c' := by
          rcases hc with z | z
          · have q := lookup_all ok.has z
            simp only [beq_self_eq_true, Bool.true_or, Bool.not_true, Bool.false_or] at q
            exact Option.isSome_iff_exists.mp q
          · have q := lookup_all ok.has z
            simp only [beq_self_eq_true, Bool.or_true, Bool.not_true, Bool.false_or] at q
            exact Option.isSome_iff_exists.mp q
        obtain ⟨c', hc'⟩ := ex
        have e := sub y c' hc'
        rw [hcl] at e
        cases e
        obtain ⟨oc, hoc, hd⟩ := hcell
        exact ⟨c, hc', oc, hk _ _ hoc, hd⟩
  · obtain ⟨v, oc, hoc, hd⟩ := I.cell y c (sub y c e)
    exact ⟨v, oc, hk _ _ hoc, hd⟩
  · show (none :: freesOf js σ).length = (own :: ys).length
    simp [freesOf, ok.len]
theorem block_end {H' : Hp} {h' : Heap} {σ' : St} (I : Inv X pins σ H s) (hf : ∀ b ∈ fp, FpOk X pins H b) (J : Inv (X.block scope cl s.heap.objs.size (own :: ys) own fp s H) [] σ' H' s4) (hs : Heap.SameBut s.heap.objs.size s4.heap h') :
    Inv X pins σ H' { s4 with heap := h' } := by
  have low : ∀ b o, s.heap.get? b = some o → b ≠ s.heap.objs.size := fun b o e => Nat.ne_of_lt (Heap.lt_size e)
  have B := J.base
  have u : Un (frs X.stack) fp H H' s.heap h' := {
    keep := fun b o q n hb hx => (hs.2 b (low b o q)).trans (B.keep b o q n hb hx)
    slot := fun b o q n hb hx => by
      obtain ⟨sl, e⟩ := B.slot b o q n hb hx
      exact ⟨sl, (hs.2 b (low b o q)).trans e⟩
    free := B.free
    there := fun b o q hx => by
      obtain ⟨o', e⟩ := B.there b o q hx
      exact ⟨o', (hs.2 b (low b o q)).trans e⟩
    tups := B.tups
    frzs := B.frzs
    tbls := B.tbls }
  have hn : H' s.heap.objs.size = none := J.free
  have hk : HOk X.prog X.w H' h' := fun a o e => (J.hok a o e).stay (fun b v hb q => (hs.2 b (by
    intro z
    rcases hb with z' | z'
    · rw [← z', z, hn] at e; cases e
    · rw [z, hn] at z'; cases z')).trans q) (fun _ q => q) fun _ _ q => q
  exact I.call' (s' := { s4 with heap := h' }) (ch := fp) J.os u hk J.bare fun b hb => ⟨(hf b hb).2.2.2.1, (hf b hb).2.1, (hf b hb).2.2.2.2.1, (hf b hb).2.2.2.2.2⟩
end
section
variable {X : Cx} {scope : Scope} {cl : List (Str × Addr)} {own : Str} {ys : List Str} {js : List Nat} {elt iter : Expr} {px pos : Pos} {wi : TI} {te : TE}
theorem pe_comp (hc : X.calm = true) (ok : CompOk X scope cl own ys js) (hi : PI X (.Name own px) iter wi)
    (he : ∀ (C : Addr) (fp : List Addr) (s : Shared) (H : Hp), PE (X.block scope cl C (own :: ys) own fp s H) elt te)
    (hs : ∀ x, foldedSetIterable iter X.env x = pure x := by intro _; rfl) : PE X (.ListComp elt [⟨.Name own px, iter, [], 0⟩] scope pos) (tComp wi js te) := by
  intro pins s σ H Q I h
  rw [eval_ListComp]
  have ncell : ∀ y ∈ scope.names, y.2 ≠ .cell := fun y hy z => by
    have q := List.all_eq_true.mp ok.nocell y hy
    rw [z] at q
    simp at q
  have nloc : ∀ y ∈ scope.names, y.2 = .local → scope.names.lookup y.1 = some .local := fun y hy z => by
    have q := List.all_eq_true.mp ok.loc y hy
    rw [z] at q
    simpa using q
  refine wpAny_comprehension_free (use := none) rfl hs ok.clos ok.kind nloc (thn (hi pins s σ H _ I h) fun v s1 h1 => thn h1 fun itv s2 h2 => ?_)
  obtain ⟨it, fp, tn, J, H2, rfl, I2, T, st2, f2, q2⟩ := h2
  obtain ⟨W, ⟨m0, w0⟩, turn⟩ := q2 s2.heap.objs.size (I2.hok.fresh (Nat.le_refl _))
  refine wpAny_newObj_type (wpAny_newFunctionEnv ncell (by intro y hy; simp at hy) (fun h1 hns hsb => ?_) ok.kind)
  have I3 := I2.laid (a := s2.heap.objs.size) (o := .lst []) (h' := s2.heap.push { cls := .type "list", dict := none, data := .seq ([] : List Value).toArray }) (t' := s2.toks) (fun b u q => Heap.get?_push_of_some _ q) (Nat.le_refl _)
    ⟨Nat.zero_le _, [], 0, .nil, Heap.get?_push_size _ rfl⟩
  have fpo : ∀ b ∈ fp, b < s2.heap.objs.size := fun b hb => by
    obtain ⟨o, e, _⟩ := T.obj 0 _ st2 b hb
    exact Heap.lt_size e
  have f3 : ∀ b ∈ fp, FpOk X pins (upd H2 s2.heap.objs.size (.lst [])) b := fun b hb => ⟨by rw [upd_ne (Nat.ne_of_lt (fpo b hb))]; exact (f2 b hb).1, (f2 b hb).2⟩
  generalize hs3 : ({ s2 with heap := s2.heap.push { cls := .type "list", dict := none, data := .seq ([] : List Value).toArray }, toks := s2.toks } : Shared) = s3 at I3
  have e3 : s3.heap = s2.heap.push { cls := .type "list", dict := none, data := .seq ([] : List Value).toArray } := by rw [← hs3]
  have lt3 : ∀ b ∈ fp, b < s3.heap.objs.size := fun b hb => by rw [e3, Heap.size_push]; exact Nat.lt_succ_of_lt (fpo b hb)
  dsimp only at hns hsb ⊢
  rw [← e3] at hns hsb
  have hk : ∀ b o, s3.heap.get? b = some o → h1.get? b = some o := fun b o e => hsb.extBut b o (Nat.ne_of_lt (Heap.lt_size e)) (Heap.get?_push_of_some _ e)
  have J0 := block_start (h1 := h1) ok I3 f3 lt3 hns hk (s2.toks + 0)
  have t0 : tn 0 h1 := T.keep 0 _ _ st2 fun b hb o e => hk b o (by rw [e3]; exact Heap.get?_push_of_some _ e)
  have fpB : ∀ {H' : Hp}, (∀ b ∈ fp, H' b = none) → ∀ b ∈ fp, FpOk (X.block scope cl s3.heap.objs.size (own :: ys) own fp s3 (upd H2 s2.heap.objs.size (.lst []))) [] H' b := fun {H'} hn b hb =>
    ⟨hn b hb, Nat.ne_of_lt (lt3 b hb), fun z => (List.mem_cons.mp (I3.stkSub b z)).elim (f3 b hb).2.1 (f3 b hb).2.2.1, .inl hb, fun x c e => (f3 b hb).2.2.2.2.1 x c (ok.sub (x, c) (PySem.mem_of_lookup e)), fun p hp => absurd (show p ∈ ([] : List (Addr × Obj)) from hp) (by simp)⟩
  have loop : codeAny (model X.prog X.w) X.A (.compLoop (.ListComp elt [⟨.Name own px, iter, [], 0⟩] scope pos) 0 (.ref it) (.ref s2.heap.objs.size) (compEnvC scope cl s3.heap.objs.size X.env))
      (compPost (model X.prog X.w) X.A X.xe none (EP X pins σ Q) (.ref s2.heap.objs.size) s3.heap.objs.size) { s3 with heap := h1, toks := s2.toks + 0 } := by
    refine compLoop_own (fun n s' => ∃ i zs o0 H', Inv (X.block scope cl s3.heap.objs.size (own :: ys) own fp s3 (upd H2 s2.heap.objs.size (.lst []))) [] (o0 :: freesOf js σ) H' s' ∧ tn i s'.heap ∧ (∀ b ∈ fp, H' b = none) ∧ W i n zs H') ?_ m0
      ⟨0, [], none, _, J0, t0, fun b hb => (f3 b hb).1, w0⟩
    rintro n s5 ⟨i, zs, o0, H5, I5, t5, n5, w5⟩
    obtain ⟨hD, hw⟩ := turn i n zs H5 w5
    rcases hw with ⟨stop, qn⟩ | ⟨go, hz, step⟩
    · refine thn (T.done (X.block scope cl s3.heap.objs.size (own :: ys) own fp s3 (upd H2 s2.heap.objs.size (.lst []))) rfl rfl rfl hc i [] s5 _ H5 (fun _ _ => False) I5 (fpB n5) t5 stop) fun r s6 ⟨hr, I6⟩ => ?_
      subst hr
      obtain ⟨m, hn, _⟩ := id I6.loc
      exact ⟨m, hn, fun h' hs' => ⟨V.ref s2.heap.objs.size, H5, block_end I3 f3 I6 hs', rfl, qn⟩⟩
    · refine thn (T.item (X.block scope cl s3.heap.objs.size (own :: ys) own fp s3 (upd H2 s2.heap.objs.size (.lst []))) rfl rfl rfl hc i [] s5 _ H5 (fun _ _ => False) I5 (fpB n5) t5 go) fun r s6 ⟨u, hr, h6⟩ => ?_
      subst hr
      refine thn h6 fun _ s7 ⟨x, H7, I7, r7, y7, t7, n7⟩ => ?_
      have I7' := I7.pinned (fpB n7) (T.obj _ _ t7)
      have hst := step x H7 y7
      have own' : (relabel scope X.env).names.lookup own = some .local := lookup_relabel_local ok.ownL
      refine thn (pg_name (X := X.block scope cl s3.heap.objs.size (own :: ys) own fp s3 (upd H2 s2.heap.objs.size (.lst []))) (i := 0) (x := own) (pos := px) ok.nd rfl (.inl own') (.inr own') _ s7 _ H7 x u (fun σ' H' => σ' = some x :: freesOf js σ ∧ H' = H7) I7' r7 ⟨rfl, rfl⟩) fun _ s8 ⟨σ8, H8, I8, e8, eH8⟩ => ?_
      subst e8 eH8
      refine thn (he _ _ _ _ _ s8 _ H8 _ I8 hst) fun yv s9 ⟨y, H9, I9, r9, hD9, m', hm, w9⟩ => ?_
      refine thn (mt_append _ s9 _ H9 (.ref s2.heap.objs.size) [y] (.ref s2.heap.objs.size) [yv] (fun _ H' => H' = upd H9 s2.heap.objs.size (.lst (zs ++ [y]))) I9 rfl (.cons r9 .nil) ⟨_, zs, y, rfl, rfl, hD9, hz, rfl⟩) fun _ s10 ⟨_, H10, I10, _, e10⟩ => ?_
      subst e10
      refine ⟨m', hm, i + 1, zs ++ [y], some x, _, I10.unpinned, T.keep _ _ _ t7 fun b hb o e => (I10.pin (b, o) (List.mem_append_right _ (List.mem_append_right _ (mem_pinsAt hb e)))).1, fun b hb => ?_, w9⟩
      obtain ⟨o, e, d⟩ := T.obj _ _ t7 b hb
      exact (I10.pin (b, o) (List.mem_append_right _ (List.mem_append_right _ (mem_pinsAt hb e)))).2.1
  subst hs3
  exact codeAny_compStart_list loop (T.self _ 0 _ _ _ t0 loop)
end
end L2
set_option Elab.async false
set_option linter.all false
set_option maxRecDepth 100000
namespace L2
open PySem PySem.Spec PyProof.Rows XH PySem.Builtin PySem.Builtin.ObjectAttr
/-! ### an own refusal's __init__: its field -/
section
variable {prog : Program} {w : World} {A : Around} {E : Value → Shared → Prop} {s : Shared} {K : PySem.W.Frag} {x C S : Addr} {ox : Obj} {od : Option Obj} {name : Str} {v : Value}
end
section
variable {X : Cx} {o value : Expr} {f : Str} {pos pos' : Pos} {ta tv : TE}
end
end L2
set_option Elab.async false
set_option linter.all false
set_option maxRecDepth 100000
namespace L2
open PySem PySem.Spec PyProof.Rows XH
section
variable {X : Cx} {o e value : Expr} {f : Str} {pos pos' : Pos} {ta tv : TE}
end
/-! ### a refusal with an __init__ is made -/
section
variable {prog : Program} {w : World} {A : Around} {E : Value → Shared → Prop} {h : Heap} {g : Array GenState} {d : Drawn} {t : Nat} {os : OsState}
variable {nm q : Str} {C N : Addr} {bs bm : List Value} {hdct : Bool} {sn : List Str} {sub : List Value} {ab : Bool} {col : Option Bool} {dd : Option Addr} {k0 k1 k2 k3 k5 : Option Value}
end
section
variable {X : Cx} {x : Str} {p pos : Pos} {e : Expr} {es : List Expr} {C fI : Addr} {t : TA} {k : Nat} {fd : FuncData} {ps : List Str} {sp : Sp}
end
end L2
set_option Elab.async false
set_option linter.all false
set_option maxRecDepth 100000
namespace L2
open PySem PySem.Spec PyProof.Rows XH
section
variable {M : Model} {A : Around} {E : Value → Shared → Prop} {env : Env}
variable {nm q : Str} {C N : Addr} {bs bm : List Value} {hdct : Bool} {sn : List Str} {sub : List Value} {ab : Bool} {col : Option Bool} {dd : Option Addr} {k0 k1 k2 k3 k5 : Option Value} {nw : String}
end
section
variable {X : Cx} {x : Str} {np cpos pos : Pos} {e₀ : Expr} {rest : List Expr} {C fI : Addr} {t : TA} {k : Nat} {fd : FuncData} {ps : List Str} {sp : Sp} {E : St → XK}
end
end L2
set_option Elab.async false
set_option linter.all false
set_option maxRecDepth 100000
namespace L2
open PySem PySem.Spec PyProof.Rows XH
/-! ### within an except suite, and in what is called there -/
theorem entry_unchain : entryFor table "proto.unchain" = some Builtin.«proto.unchain» := entryFor_of_fast (by kernel_rfl)
/-- what is known of the handled exception, if there is one -/
def HdOk (hd : Option Value) (H : Hp) : Prop := ∀ v, hd = some v → ∃ a n cls dx, v = .ref a ∧ H a = some (excB n a cls dx)
theorem HdOk.no {H : Hp} : HdOk none H := fun _ z => nomatch z
section
variable {prog : Program} {w : World} {A : Around} {E : Value → Shared → Prop} {s : Shared}
theorem range_endH {it hx : Addr} {ox : Obj} {vs : Array Value} {x left step : Int} {Q : Option Value → Shared → Prop} (hh : A.handled = some (.ref hx)) (ho : s.heap.get? hx = some ox) (hd : ox.data = .fields vs) (h2 : vs[2]? = some .none)
    (hit : IsRangeIter s.heap it x left step) (hleft : left ≤ 0) (hQ : ∀ h', Heap.ExtBut it s.heap h' → Q none { s with heap := h' }) : wpAny (model prog w) A (pyNext (.ref it)) Q E s := by
  have hT : s.TypeIs (.ref it) "range_iterator" := ⟨_, hit, rfl⟩
  unfold pyNext
  refine wpAny_bind (wpAny_attempt (wpAny_callSpecial?_slot (name := Str.ofString "__next__") hT F.slot_range_iterator_next
    (wpAny_call_entry F.slot_range_iterator_next hT F.entry_range_iterator_next ?_ (F.args_range_iterator_next_1 _))))
  show wpAny _ _ (field (.ref it) 0 >>= _) _ _ s
  refine wpAny_bind (wpAny_field hit rfl (x := rawInt x) rfl ?_)
  show wpAny _ _ (field (.ref it) 1 >>= _) _ _ s
  refine wpAny_bind (wpAny_field hit rfl (x := rawInt left) rfl ?_)
  show wpAny _ _ (field (.ref it) 2 >>= _) _ _ s
  refine wpAny_bind (wpAny_field hit rfl (x := rawInt step) rfl ?_)
  show wpAny _ _ (if left ≤ 0 then _ else _) _ _ s
  rw [if_pos hleft]
  refine wpAny_bind (wpAny_rule ?_)
  refine wpAny_bind ?_
  show wpAny _ _ (newExc (.type "StopIteration") [] >>= _) _ _ _
  refine wpAny_bind ?_
  simp only [newExc, newTuple]
  refine wpAny_bind (wpAny_newObj_type ?_ (by size_fits))
  refine wpAny_bind (m := firstArgMember _ _) (wpAny_of_eq (a := Value.none) (by first | rfl | (simp only [firstArgMember]; rfl)) ?_)
  refine wpAny_newObj_type ?_ (by size_fits)
  simp only [raiseNew]
  refine wpAny_bind (wpAny_handled ?_)
  rw [show A.in1.handled = some (.ref hx) from hh]
  have g0 : s.heap.get? (s.heap.push { cls := .type "tuple", dict := none, data := .seq ([] : List Value).toArray }).objs.size = none := Heap.get?_none_of_le (by rw [Heap.size_push]; omega)
  have ne : hx ≠ (s.heap.push { cls := .type "tuple", dict := none, data := .seq ([] : List Value).toArray }).objs.size := fun z => by
    rw [z, g0] at ho
    cases ho
  dsimp only
  rw [if_pos (bne_iff_ne.mpr fun z => ne (Value.ref.inj z))]
  refine wpAny_bind (wpAny_holding (wpAny_runValue (codeAny_builtin entry_unchain ?_)))
  show wpAny _ _ (field (.ref hx) 2 >>= _) _ _ _
  refine wpAny_bind (wpAny_field (Heap.get?_push_of_some _ (Heap.get?_push_of_some _ ho)) hd h2 ?_)
  rw [if_pos (by rfl)]
  refine wpAny_bind (wpAny_pure (wpAny_pure ?_))
  refine wpAny_bind (m := updateField _ 2 _) (wpAny_setField (Heap.get?_push_size _ rfl) rfl (by show 2 < 6; decide) ?_)
  refine wpAny_throw ?_
  refine wpAny_bind (wpAny_isInstance (T := "StopIteration") (b := true) ⟨_, Heap.get?_update_self _ (Heap.get?_push_size _ rfl) rfl, rfl⟩ isSubtype_stop ?_)
  refine wpAny_pure (hQ _ fun b o hb e => ?_)
  rw [Heap.get?_update_other _ _ (by
    intro z
    rw [z] at g0
    rw [g0] at e
    cases e)]
  exact Heap.get?_push_of_some _ (Heap.get?_push_of_some _ e)
end
/-! ### iterators under a handled exception -/
structure TurnH (hd : Option Value) (P : Program) (w : World) (K : PySem.W.Frag) (tg : Expr) (J : It) (fp : List Addr) (it : Addr) (tn : Nat → Heap → Prop) : Prop where
  mem : it ∈ fp
  obj : ∀ i h, tn i h → ∀ b ∈ fp, ∃ o, h.get? b = some o ∧ ∀ v, o.data ≠ .cell v
  keep : ∀ i h h', tn i h → (∀ b ∈ fp, ∀ o, h.get? b = some o → h'.get? b = some o) → tn i h'
  item : ∀ (X : Cx), X.prog = P → X.w = w → X.K = K → X.A.handled = hd → ∀ (i : Nat) (pins : List (Addr × Obj)) (s : Shared) (σ : St) (H : Hp) (E : Value → Shared → Prop), Inv X pins σ H s → (∀ b ∈ fp, FpOk X pins H b) → tn i s.heap → J.go i H →
    wpAny (model P w) X.A (pyNext (.ref it)) (fun r s1 => ∃ u, r = some u ∧
      wpAny (model P w) X.A (letOwnedTupleGo tg (.ref it) u) (fun _ s2 => ∃ x H', Inv X pins σ H' s2 ∧ RelV x u ∧ J.yld i H x H' ∧ tn (i + 1) s2.heap ∧ ∀ b ∈ fp, H' b = none) E s1) E s
  done : ∀ (X : Cx), X.prog = P → X.w = w → X.K = K → X.A.handled = hd → ∀ (i : Nat) (pins : List (Addr × Obj)) (s : Shared) (σ : St) (H : Hp) (E : Value → Shared → Prop), Inv X pins σ H s → (∀ b ∈ fp, FpOk X pins H b) → tn i s.heap → J.stop i H →
    wpAny (model P w) X.A (pyNext (.ref it)) (fun r s1 => r = none ∧ Inv X pins σ H s1) E s
  self : ∀ (A : Around) (i : Nat) (s : Shared) (Q : Value → Shared → Prop) (E : Value → Shared → Prop), tn i s.heap → Q (.ref it) s → wpAny (model P w) A (pyIter (.ref it)) Q E s
def PIEH (hd : Option Value) (X : Cx) (pins : List (Addr × Obj)) (σ : St) (tg : Expr) (R : It → Hp → Prop) (itv : Value) (s2 : Shared) : Prop :=
  ∃ (it : Addr) (fp : List Addr) (tn : Nat → Heap → Prop) (J : It) (H' : Hp), itv = .ref it ∧ Inv X pins σ H' s2 ∧ TurnH hd X.prog X.w X.K tg J fp it tn ∧ tn 0 s2.heap ∧ (∀ b ∈ fp, FpOk X pins H' b) ∧ R J H'
def PIH (hd : Option Value) (X : Cx) (tg iter : Expr) (wi : TI) : Prop :=
  ∀ (pins : List (Addr × Obj)) (s : Shared) (σ : St) (H : Hp) (R : It → Hp → Prop), Inv X pins σ H s → wi σ H R →
    wpAny (model X.prog X.w) X.A (eval iter X.env) (fun v s1 => wpAny (model X.prog X.w) X.A (pyIter v) (PIEH hd X pins σ tg R) X.xe s1) X.xe s
def ItrH (hd : Option Value) (lo : Int) (n : Nat) : It := ⟨fun i _ => i < n, fun i H x H' => H' = H ∧ x = .int (lo + i), fun i H => n ≤ i ∧ HdOk hd H⟩
theorem turn_rangeH {hd : Option Value} {P : Program} {w : World} {K : PySem.W.Frag} {tg : Expr} (it : Addr) (lo : Int) (n : Nat) : TurnH hd P w K tg (ItrH hd lo n) [it] it (fun i h => IsRangeIter h it (lo + (i : Nat) * 1) ((n : Int) - (i : Nat)) 1) where
  mem := by simp
  obj := fun i h st b hb => by
    have e : b = it := by simpa using hb
    subst e
    exact ⟨_, st, fun v z => by
      have z' : Data.fields _ = Data.cell v := z
      cases z'⟩
  keep := fun i h h' st k => k it (by simp) _ st
  item := by
    intro X hP hw hK hA i pins s σ H E I hf st hg
    subst hP hw hK
    obtain ⟨f0, f1, f2, f3, f4, f5⟩ := hf it (by simp)
    have hg' : i < n := hg
    refine wpAny_pyNext_range_item st (by omega) fun h' st' sb => ?_
    have I1 : Inv X pins σ H { s with heap := h', toks := s.toks + 1 } := I.turned (fun b o hb e => (sb.2 b hb).trans e) f0 f1 f3 f4 f5
    have st2 : IsRangeIter h' it (lo + ((i + 1 : Nat) : Int) * 1) ((n : Int) - ((i + 1 : Nat) : Int)) 1 := by
      have e1 : lo + ((i + 1 : Nat) : Int) * 1 = lo + (i : Int) * 1 + 1 := by push_cast; omega
      have e2 : (n : Int) - ((i + 1 : Nat) : Int) = (n : Int) - (i : Int) - 1 := by push_cast; omega
      rw [e1, e2]
      exact st'
    refine ⟨_, rfl, go_of (s := { s with heap := h', toks := s.toks + 1 }) (n := "range_iterator") st2 rfl rfl (by decide) ⟨.int (lo + i), H, I1, ⟨s.toks, ?_⟩, ⟨rfl, rfl⟩, st2, fun b hb => (hf b hb).1⟩⟩
    rw [Int.mul_one]
  done := by
    intro X hP hw hK hA i pins s σ H E I hf st hg
    subst hP hw hK
    obtain ⟨f0, f1, f2, f3, f4, f5⟩ := hf it (by simp)
    obtain ⟨hl, hk⟩ := hg
    cases hd with
    | none => exact wpAny_pyNext_range_end hA st (by omega) fun h' eb => ⟨rfl, I.turned (t' := s.toks) (fun b o hb e => eb b o hb e) f0 f1 f3 f4 f5⟩
    | some v =>
      obtain ⟨a, m, cls, dx, rfl, e⟩ := hk v rfl
      obtain ⟨⟨ox, vs, h1, h2, h3, h4, h6, h5⟩, _⟩ := (show ObjOk X.prog X.w H s.heap a (excB m a cls dx) from I.hok a _ e)
      exact range_endH hA h1 h4 h6 st (by omega) fun h' eb => ⟨rfl, I.turned (t' := s.toks) (fun b o hb e => eb b o hb e) f0 f1 f3 f4 f5⟩
  self := fun _ _ _ _ _ st h => wpAny_pyIter_rangeiter st h
def iRngH (hd : Option Value) (ta : TA) : TI := fun σ H R => ta σ H fun vs H1 => ∃ j : Int, vs = [.int j] ∧ -(2 ^ 62) ≤ j ∧ j < 2 ^ 62 ∧ R (ItrH hd 0 j.toNat) H1
section
variable {X : Cx} {tg : Expr} {hd : Option Value}
theorem range_itH {pins : List (Addr × Obj)} {σ : St} {H : Hp} {s : Shared} {R : It → Hp → Prop} {E : Value → Shared → Prop} {lo hi : Int} {t u v : Tok} {tk : Nat} (I : Inv X pins σ H s) (h1 : -(2 ^ 62) ≤ lo) (h2 : lo < 2 ^ 62) (h3 : -(2 ^ 62) ≤ hi) (h4 : hi < 2 ^ 62)
    (q : R (ItrH hd lo (hi - lo).toNat) H) : wpAny (model X.prog X.w) X.A (pyIter (.ref s.heap.objs.size)) (PIEH hd X pins σ tg R) E { s with heap := s.heap.push { cls := .type "range", data := .fields #[.int lo t, .int hi u, .int 1 v] }, toks := tk } := by
  refine wpAny_pyIter_range (IsRange.new ..) (small_one h1 h2 h3 h4) ?_
  have I1 : Inv X pins σ H { s with heap := s.heap.push { cls := .type "range", data := .fields #[.int lo t, .int hi u, .int 1 v] }, toks := tk } := I.kept fun b o e => Heap.get?_push_of_some _ e
  refine ⟨(s.heap.push { cls := .type "range", data := .fields #[.int lo t, .int hi u, .int 1 v] }).objs.size, [(s.heap.push { cls := .type "range", data := .fields #[.int lo t, .int hi u, .int 1 v] }).objs.size], _, _, H, rfl,
    I1.kept (t' := tk) fun b o e => Heap.get?_push_of_some _ e, turn_rangeH _ lo (hi - lo).toNat, ?_, fun b hb => ?_, q⟩
  · have e1 : lo + ((0 : Nat) : Int) * 1 = lo := by simp
    have e2 : (((hi - lo).toNat : Nat) : Int) - ((0 : Nat) : Int) = Builtin.Range.rangeSize lo hi 1 := by rw [rangeSize_one]; split <;> omega
    show IsRangeIter _ _ (lo + ((0 : Nat) : Int) * 1) ((((hi - lo).toNat : Nat) : Int) - ((0 : Nat) : Int)) 1
    rw [e1, e2]
    exact Heap.get?_push_size _ rfl
  · have e : b = (s.heap.push { cls := .type "range", data := .fields #[.int lo t, .int hi u, .int 1 v] }).objs.size := by simpa using hb
    subst e
    exact I1.fpOk (Nat.le_refl _) (I1.hok.fresh (Nat.le_refl _))
theorem pi_rangeH {a : Expr} {ta : TA} {p pos : Pos} (hg : Gl X "range") (hm : X.mg "range" = none) (ha : PA X [a] ta) (hs : starEach [a] X.env = [(false, eval a X.env)] := by rfl) : PIH hd X tg (.Call (.Name "range" p) [a] [] pos) (iRngH hd ta) := by
  intro pins s σ H R I h
  refine Call_ (ld_blt I hg hm boot_range (PyProof.Rows.callWith_type1 (thn (ha pos pins s σ H _ I h) fun us s1 ⟨vs, H1, I1, r1, q1⟩ => ?_) hs rfl))
  obtain ⟨j, e, q1, q2, q⟩ := q1
  subst e
  cases r1 with
  | cons r rr =>
    cases rr
    obtain ⟨t, rfl⟩ := r
    exact call_range_1 (range_itH I1 (by omega) (by omega) q1 q2 (by simpa using q))
end
section
variable {X : Cx} {scope : Scope} {cl : List (Str × Addr)} {own : Str} {ys : List Str} {js : List Nat} {elt iter : Expr} {px pos : Pos} {wi : TI} {te : TE} {hd : Option Value}
theorem pe_compH (hA : X.A.handled = hd) (ok : CompOk X scope cl own ys js) (hi : PIH hd X (.Name own px) iter wi)
    (he : ∀ (C : Addr) (fp : List Addr) (s : Shared) (H : Hp), PE (X.block scope cl C (own :: ys) own fp s H) elt te)
    (hs : ∀ x, foldedSetIterable iter X.env x = pure x := by intro _; rfl) : PE X (.ListComp elt [⟨.Name own px, iter, [], 0⟩] scope pos) (tComp wi js te) := by
  intro pins s σ H Q I h
  rw [eval_ListComp]
  have ncell : ∀ y ∈ scope.names, y.2 ≠ .cell := fun y hy z => by
    have q := List.all_eq_true.mp ok.nocell y hy
    rw [z] at q
    simp at q
  have nloc : ∀ y ∈ scope.names, y.2 = .local → scope.names.lookup y.1 = some .local := fun y hy z => by
    have q := List.all_eq_true.mp ok.loc y hy
    rw [z] at q
    simpa using q
  refine wpAny_comprehension_free (use := none) rfl hs ok.clos ok.kind nloc (thn (hi pins s σ H _ I h) fun v s1 h1 => thn h1 fun itv s2 h2 => ?_)
  obtain ⟨it, fp, tn, J, H2, rfl, I2, T, st2, f2, q2⟩ := h2
  obtain ⟨W, ⟨m0, w0⟩, turn⟩ := q2 s2.heap.objs.size (I2.hok.fresh (Nat.le_refl _))
  refine wpAny_newObj_type (wpAny_newFunctionEnv ncell (by intro y hy; simp at hy) (fun h1 hns hsb => ?_) ok.kind)
  have I3 := I2.laid (a := s2.heap.objs.size) (o := .lst []) (h' := s2.heap.push { cls := .type "list", dict := none, data := .seq ([] : List Value).toArray }) (t' := s2.toks) (fun b u q => Heap.get?_push_of_some _ q) (Nat.le_refl _)
    ⟨Nat.zero_le _, [], 0, .nil, Heap.get?_push_size _ rfl⟩
  have fpo : ∀ b ∈ fp, b < s2.heap.objs.size := fun b hb => by
    obtain ⟨o, e, _⟩ := T.obj 0 _ st2 b hb
    exact Heap.lt_size e
  have f3 : ∀ b ∈ fp, FpOk X pins (upd H2 s2.heap.objs.size (.lst [])) b := fun b hb => ⟨by rw [upd_ne (Nat.ne_of_lt (fpo b hb))]; exact (f2 b hb).1, (f2 b hb).2⟩
  generalize hs3 : ({ s2 with heap := s2.heap.push { cls := .type "list", dict := none, data := .seq ([] : List Value).toArray }, toks := s2.toks } : Shared) = s3 at I3
  have e3 : s3.heap = s2.heap.push { cls := .type "list", dict := none, data := .seq ([] : List Value).toArray } := by rw [← hs3]
  have lt3 : ∀ b ∈ fp, b < s3.heap.objs.size := fun b hb => by rw [e3, Heap.size_push]; exact Nat.lt_succ_of_lt (fpo b hb)
  dsimp only at hns hsb ⊢
  rw [← e3] at hns hsb
  have hk : ∀ b o, s3.heap.get? b = some o → h1.get? b = some o := fun b o e => hsb.extBut b o (Nat.ne_of_lt (Heap.lt_size e)) (Heap.get?_push_of_some _ e)
  have J0 := block_start (h1 := h1) ok I3 f3 lt3 hns hk (s2.toks + 0)
  have t0 : tn 0 h1 := T.keep 0 _ _ st2 fun b hb o e => hk b o (by rw [e3]; exact Heap.get?_push_of_some _ e)
  have fpB : ∀ {H' : Hp}, (∀ b ∈ fp, H' b = none) → ∀ b ∈ fp, FpOk (X.block scope cl s3.heap.objs.size (own :: ys) own fp s3 (upd H2 s2.heap.objs.size (.lst []))) [] H' b := fun {H'} hn b hb =>
    ⟨hn b hb, Nat.ne_of_lt (lt3 b hb), fun z => (List.mem_cons.mp (I3.stkSub b z)).elim (f3 b hb).2.1 (f3 b hb).2.2.1, .inl hb, fun x c e => (f3 b hb).2.2.2.2.1 x c (ok.sub (x, c) (PySem.mem_of_lookup e)), fun p hp => absurd (show p ∈ ([] : List (Addr × Obj)) from hp) (by simp)⟩
  have loop : codeAny (model X.prog X.w) X.A (.compLoop (.ListComp elt [⟨.Name own px, iter, [], 0⟩] scope pos) 0 (.ref it) (.ref s2.heap.objs.size) (compEnvC scope cl s3.heap.objs.size X.env))
      (compPost (model X.prog X.w) X.A X.xe none (EP X pins σ Q) (.ref s2.heap.objs.size) s3.heap.objs.size) { s3 with heap := h1, toks := s2.toks + 0 } := by
    refine compLoop_own (fun n s' => ∃ i zs o0 H', Inv (X.block scope cl s3.heap.objs.size (own :: ys) own fp s3 (upd H2 s2.heap.objs.size (.lst []))) [] (o0 :: freesOf js σ) H' s' ∧ tn i s'.heap ∧ (∀ b ∈ fp, H' b = none) ∧ W i n zs H') ?_ m0
      ⟨0, [], none, _, J0, t0, fun b hb => (f3 b hb).1, w0⟩
    rintro n s5 ⟨i, zs, o0, H5, I5, t5, n5, w5⟩
    obtain ⟨hD, hw⟩ := turn i n zs H5 w5
    rcases hw with ⟨stop, qn⟩ | ⟨go, hz, step⟩
    · refine thn (T.done (X.block scope cl s3.heap.objs.size (own :: ys) own fp s3 (upd H2 s2.heap.objs.size (.lst []))) rfl rfl rfl hA i [] s5 _ H5 (fun _ _ => False) I5 (fpB n5) t5 stop) fun r s6 ⟨hr, I6⟩ => ?_
      subst hr
      obtain ⟨m, hn, _⟩ := id I6.loc
      exact ⟨m, hn, fun h' hs' => ⟨V.ref s2.heap.objs.size, H5, block_end I3 f3 I6 hs', rfl, qn⟩⟩
    · refine thn (T.item (X.block scope cl s3.heap.objs.size (own :: ys) own fp s3 (upd H2 s2.heap.objs.size (.lst []))) rfl rfl rfl hA i [] s5 _ H5 (fun _ _ => False) I5 (fpB n5) t5 go) fun r s6 ⟨u, hr, h6⟩ => ?_
      subst hr
      refine thn h6 fun _ s7 ⟨x, H7, I7, r7, y7, t7, n7⟩ => ?_
      have I7' := I7.pinned (fpB n7) (T.obj _ _ t7)
      have hst := step x H7 y7
      have own' : (relabel scope X.env).names.lookup own = some .local := lookup_relabel_local ok.ownL
      refine thn (pg_name (X := X.block scope cl s3.heap.objs.size (own :: ys) own fp s3 (upd H2 s2.heap.objs.size (.lst []))) (i := 0) (x := own) (pos := px) ok.nd rfl (.inl own') (.inr own') _ s7 _ H7 x u (fun σ' H' => σ' = some x :: freesOf js σ ∧ H' = H7) I7' r7 ⟨rfl, rfl⟩) fun _ s8 ⟨σ8, H8, I8, e8, eH8⟩ => ?_
      subst e8 eH8
      refine thn (he _ _ _ _ _ s8 _ H8 _ I8 hst) fun yv s9 ⟨y, H9, I9, r9, hD9, m', hm, w9⟩ => ?_
      refine thn (mt_append _ s9 _ H9 (.ref s2.heap.objs.size) [y] (.ref s2.heap.objs.size) [yv] (fun _ H' => H' = upd H9 s2.heap.objs.size (.lst (zs ++ [y]))) I9 rfl (.cons r9 .nil) ⟨_, zs, y, rfl, rfl, hD9, hz, rfl⟩) fun _ s10 ⟨_, H10, I10, _, e10⟩ => ?_
      subst e10
      refine ⟨m', hm, i + 1, zs ++ [y], some x, _, I10.unpinned, T.keep _ _ _ t7 fun b hb o e => (I10.pin (b, o) (List.mem_append_right _ (List.mem_append_right _ (mem_pinsAt hb e)))).1, fun b hb => ?_, w9⟩
      obtain ⟨o, e, d⟩ := T.obj _ _ t7 b hb
      exact (I10.pin (b, o) (List.mem_append_right _ (List.mem_append_right _ (mem_pinsAt hb e)))).2.1
  subst hs3
  exact codeAny_compStart_list loop (T.self _ 0 _ _ _ t0 loop)
theorem ps_compH {i : Nat} {y : Str} {py spos : Pos} (hN : X.N.Nodup) (hi' : X.N[i]? = some y) (hy : X.env.scope.names.lookup y = some .local) (hA : X.A.handled = hd) (ok : CompOk X scope cl own ys js) (hi : PIH hd X (.Name own px) iter wi)
    (he : ∀ (C : Addr) (fp : List Addr) (s : Shared) (H : Hp), PE (X.block scope cl C (own :: ys) own fp s H) elt te)
    (hsw : swapsWith (.ListComp elt [⟨.Name own px, iter, [], 0⟩] scope pos) (some (.Name y py)) spos.line X.env = pure true := by rfl) (hs : ∀ x, foldedSetIterable iter X.env x = pure x := by intro _; rfl) :
    PS X (.Assign [.Name y py] (.ListComp elt [⟨.Name own px, iter, [], 0⟩] scope pos) spos) (tAsg (tComp wi js te) (gName i)) := by
  intro pins s σ H D I h
  have ncell : ∀ y ∈ scope.names, y.2 ≠ .cell := fun y hy z => by
    have q := List.all_eq_true.mp ok.nocell y hy
    rw [z] at q
    simp at q
  have nloc : ∀ y ∈ scope.names, y.2 = .local → scope.names.lookup y.1 = some .local := fun y hy z => by
    have q := List.all_eq_true.mp ok.loc y hy
    rw [z] at q
    simpa using q
  show wpAny _ _ (exec _ X.env) _ _ _
  rw [exec_Assign_Name_used _ _ _ _ hsw]
  refine wpAny_bind (wpAny_standAt (wpAny_bind ?_))
  show wpAny _ X.A (do let _ ← comprehension (.ListComp elt [⟨.Name own px, iter, [], 0⟩] scope pos) scope X.env _ (newList []) false (eval iter X.env) (some (assign (.Name y py) X.env))) _ _ s
  refine wpAny_bind (wpAny_mono (wpAny_comprehension_free (use := some (assign (.Name y py) X.env)) (Q := fun _ s' => SP X pins D .next s') rfl hs ok.clos ok.kind nloc (thn (hi pins s σ H _ I h) fun v s1 h1 => thn h1 fun itv s2 h2 => ?_)) (fun _ s' hq => wpAny_pure (wpAny_pure hq)) fun _ _ e => e)
  obtain ⟨it, fp, tn, J, H2, rfl, I2, T, st2, f2, q2⟩ := h2
  obtain ⟨W, ⟨m0, w0⟩, turn⟩ := q2 s2.heap.objs.size (I2.hok.fresh (Nat.le_refl _))
  refine wpAny_newObj_type (wpAny_newFunctionEnv ncell (by intro y hy; simp at hy) (fun h1 hns hsb => ?_) ok.kind)
  have I3 := I2.laid (a := s2.heap.objs.size) (o := .lst []) (h' := s2.heap.push { cls := .type "list", dict := none, data := .seq ([] : List Value).toArray }) (t' := s2.toks) (fun b u q => Heap.get?_push_of_some _ q) (Nat.le_refl _)
    ⟨Nat.zero_le _, [], 0, .nil, Heap.get?_push_size _ rfl⟩
  have fpo : ∀ b ∈ fp, b < s2.heap.objs.size := fun b hb => by
    obtain ⟨o, e, _⟩ := T.obj 0 _ st2 b hb
    exact Heap.lt_size e
  have f3 : ∀ b ∈ fp, FpOk X pins (upd H2 s2.heap.objs.size (.lst [])) b := fun b hb => ⟨by rw [upd_ne (Nat.ne_of_lt (fpo b hb))]; exact (f2 b hb).1, (f2 b hb).2⟩
  generalize hs3 : ({ s2 with heap := s2.heap.push { cls := .type "list", dict := none, data := .seq ([] : List Value).toArray }, toks := s2.toks } : Shared) = s3 at I3
  have e3 : s3.heap = s2.heap.push { cls := .type "list", dict := none, data := .seq ([] : List Value).toArray } := by rw [← hs3]
  have lt3 : ∀ b ∈ fp, b < s3.heap.objs.size := fun b hb => by rw [e3, Heap.size_push]; exact Nat.lt_succ_of_lt (fpo b hb)
  dsimp only at hns hsb ⊢
  rw [← e3] at hns hsb
  have hk : ∀ b o, s3.heap.get? b = some o → h1.get? b = some o := fun b o e => hsb.extBut b o (Nat.ne_of_lt (Heap.lt_size e)) (Heap.get?_push_of_some _ e)
  have J0 := block_start (h1 := h1) ok I3 f3 lt3 hns hk (s2.toks + 0)
  have t0 : tn 0 h1 := T.keep 0 _ _ st2 fun b hb o e => hk b o (by rw [e3]; exact Heap.get?_push_of_some _ e)
  have fpB : ∀ {H' : Hp}, (∀ b ∈ fp, H' b = none) → ∀ b ∈ fp, FpOk (X.block scope cl s3.heap.objs.size (own :: ys) own fp s3 (upd H2 s2.heap.objs.size (.lst []))) [] H' b := fun {H'} hn b hb =>
    ⟨hn b hb, Nat.ne_of_lt (lt3 b hb), fun z => (List.mem_cons.mp (I3.stkSub b z)).elim (f3 b hb).2.1 (f3 b hb).2.2.1, .inl hb, fun x c e => (f3 b hb).2.2.2.2.1 x c (ok.sub (x, c) (PySem.mem_of_lookup e)), fun p hp => absurd (show p ∈ ([] : List (Addr × Obj)) from hp) (by simp)⟩
  have loop : codeAny (model X.prog X.w) X.A (.compLoop (.ListComp elt [⟨.Name own px, iter, [], 0⟩] scope pos) 0 (.ref it) (.ref s2.heap.objs.size) (compEnvC scope cl s3.heap.objs.size X.env))
      (compPost (model X.prog X.w) X.A X.xe (some (assign (.Name y py) X.env)) (fun _ s' => SP X pins D .next s') (.ref s2.heap.objs.size) s3.heap.objs.size) { s3 with heap := h1, toks := s2.toks + 0 } := by
    refine compLoop_own (fun n s' => ∃ i zs o0 H', Inv (X.block scope cl s3.heap.objs.size (own :: ys) own fp s3 (upd H2 s2.heap.objs.size (.lst []))) [] (o0 :: freesOf js σ) H' s' ∧ tn i s'.heap ∧ (∀ b ∈ fp, H' b = none) ∧ W i n zs H') ?_ m0
      ⟨0, [], none, _, J0, t0, fun b hb => (f3 b hb).1, w0⟩
    rintro n s5 ⟨i, zs, o0, H5, I5, t5, n5, w5⟩
    obtain ⟨hD, hw⟩ := turn i n zs H5 w5
    rcases hw with ⟨stop, qn⟩ | ⟨go, hz, step⟩
    · refine thn (T.done (X.block scope cl s3.heap.objs.size (own :: ys) own fp s3 (upd H2 s2.heap.objs.size (.lst []))) rfl rfl rfl hA i [] s5 _ H5 (fun _ _ => False) I5 (fpB n5) t5 stop) fun r s6 ⟨hr, I6⟩ => ?_
      subst hr
      obtain ⟨m, hn, _⟩ := id I6.loc
      have J : Inv X pins σ H5 s6 := block_end (h' := s6.heap) I3 f3 I6 (Heap.SameBut.refl _ _)
      have fC := I3.fpOk (Nat.le_refl _) (show H5 s3.heap.objs.size = none from I6.free)
      obtain ⟨k0, k1, k2, k3, k4, k5⟩ := fC
      show wpAny _ X.A (assign (.Name y py) X.env (.ref s2.heap.objs.size)) _ _ _
      refine wpAny_assign_Name (store_ok2 (v := .ref s2.heap.objs.size) J hN hi' (.inl hy) rfl (fun s7 I7 hsb => ?_) (.inr hy))
      obtain ⟨a', sb, ha⟩ := hsb
      have ne : s3.heap.objs.size ≠ a' := by
        rcases ha with z | z
        · rw [z]; exact k1
        · exact fun w => k4 _ _ z w.symm
      exact ⟨m, hn.sameBut sb ne, fun h' hs' => ⟨_, H5, I7.turned (t' := s7.toks) (fun b o hb e => (hs'.2 b hb).trans e) k0 k1 k3 k4 k5, qn⟩⟩
    · refine thn (T.item (X.block scope cl s3.heap.objs.size (own :: ys) own fp s3 (upd H2 s2.heap.objs.size (.lst []))) rfl rfl rfl hA i [] s5 _ H5 (fun _ _ => False) I5 (fpB n5) t5 go) fun r s6 ⟨u, hr, h6⟩ => ?_
      subst hr
      refine thn h6 fun _ s7 ⟨x, H7, I7, r7, y7, t7, n7⟩ => ?_
      have I7' := I7.pinned (fpB n7) (T.obj _ _ t7)
      have hst := step x H7 y7
      have own' : (relabel scope X.env).names.lookup own = some .local := lookup_relabel_local ok.ownL
      refine thn (pg_name (X := X.block scope cl s3.heap.objs.size (own :: ys) own fp s3 (upd H2 s2.heap.objs.size (.lst []))) (i := 0) (x := own) (pos := px) ok.nd rfl (.inl own') (.inr own') _ s7 _ H7 x u (fun σ' H' => σ' = some x :: freesOf js σ ∧ H' = H7) I7' r7 ⟨rfl, rfl⟩) fun _ s8 ⟨σ8, H8, I8, e8, eH8⟩ => ?_
      subst e8 eH8
      refine thn (he _ _ _ _ _ s8 _ H8 _ I8 hst) fun yv s9 ⟨y, H9, I9, r9, hD9, m', hm, w9⟩ => ?_
      refine thn (mt_append _ s9 _ H9 (.ref s2.heap.objs.size) [y] (.ref s2.heap.objs.size) [yv] (fun _ H' => H' = upd H9 s2.heap.objs.size (.lst (zs ++ [y]))) I9 rfl (.cons r9 .nil) ⟨_, zs, y, rfl, rfl, hD9, hz, rfl⟩) fun _ s10 ⟨_, H10, I10, _, e10⟩ => ?_
      subst e10
      refine ⟨m', hm, i + 1, zs ++ [y], some x, _, I10.unpinned, T.keep _ _ _ t7 fun b hb o e => (I10.pin (b, o) (List.mem_append_right _ (List.mem_append_right _ (mem_pinsAt hb e)))).1, fun b hb => ?_, w9⟩
      obtain ⟨o, e, d⟩ := T.obj _ _ t7 b hb
      exact (I10.pin (b, o) (List.mem_append_right _ (List.mem_append_right _ (mem_pinsAt hb e)))).2.1
  subst hs3
  exact codeAny_compStart_list loop (T.self _ 0 _ _ _ t0 loop)
end
/-! ### an except suite whose reading knows the exception -/
section
variable {X : Cx} {x n : Str} {np pos : Pos} {b0 : Stmt} {suite : List Stmt} {rest : List ExceptHandler} {i : Nat} {C' : Addr} {tA : Addr → TS} {th : TH}
end
/-! ### calls, whatever is handled -/
section
variable {P : Program} {w : World} {K : PySem.W.Frag} {mg : Str → Option Value} {base : Heap} {hd : Option Value}
end
section
variable {X : Cx} {k : Nat} {f : Addr} {fd : FuncData} {ps : List Str} {sp : Sp} {dvs : List V} {ds : List Value} {x : Str} {p pos : Pos} {e : Expr} {es : List Expr} {t : TA} {hd : Option Value}
end
end L2
set_option Elab.async false
set_option linter.all false
set_option maxRecDepth 100000
namespace Sw
open PySem L2 XH
/-- a def as its callers see it -/
structure Dx (P : Program) (w : World) (K : PySem.W.Frag) (mg : Str → Option Value) (base : Heap) (CX : CXT) (k : Nat) (x : Str) (ps : List Str) (dvs : List V) (sp : Sp) where
  f : Addr
  fd : FuncData
  ok : FnOk P w K mg base CX k f fd ps sp
  m : mg x = some (.ref f)
  q : PySem.W.keepIn K (.ref f) = true
  b : Binds K fd ps []
  bd : ∃ ds, Binds K fd ps ds ∧ Vals dvs ds
section
variable {X : Cx} {k j : Nat} {x : Str} {ps : List Str} {sp : Sp} {p pos : Pos} {e : Expr} {es : List Expr} {t : TA} {dvs : List V} {E : St → XK}
theorem pcall0 (D : Dx X.prog X.w X.K X.mg X.base CX0 k x ps dvs sp) (hr : Room j X.A) (hk : k ≤ j) (hg : Gl X x) (ha : PA X (e :: es) t) (hdb : (x == ("__debug__" : Str)) = false := by decide)
    (he : starEach (e :: es) X.env = (false, eval e X.env) :: starEach es X.env := by rfl) (hpl : (backTo pos (starEach es X.env)).any (·.1) = false := by rfl) :
    PE X (.Call (.Name x p) (e :: es) [] pos) (tCall sp [] E0 t) :=
  pe_call D.ok (hr.mono hk) hg D.m D.q D.b .nil pass0 ha hdb he hpl
end
end Sw
set_option Elab.async false
set_option linter.all false
set_option maxRecDepth 100000
namespace Sw
open PySem L2 XH
end Sw
set_option Elab.async false
set_option linter.all false
set_option maxRecDepth 100000
namespace L2
open PySem PySem.Spec PyProof.Rows XH
theorem call_isiT {X : Cx} {K : PySem.W.Frag} (hK : X.K = K) : CallR X (.builtin "isinstance") (fun xs H Q => ∃ x t T b, xs = [x, .ty T] ∧ TyOf K H x t ∧ PySem.W.kitOne K t (.type T) = some b ∧ Q (.bl b) H) := by
  subst hK
  intro pins s σ H xs us Q I r h
  obtain ⟨x, t, T, b, rfl, ty, e, q⟩ := h
  obtain ⟨u, w', rfl, e1, e2⟩ := vals2 r
  cases e2
  exact isinst_ok I e1 ty e fun tk => ⟨.bl b, H, I.tok tk, rfl, q⟩
end L2
namespace Sw
open PySem L2 XH
/-! ### whatever is handed in: is it a whole number, is it a fraction -/
section
variable {K : PySem.W.Frag} {H : Hp}
end
end Sw
set_option Elab.async false
set_option linter.all false
set_option maxRecDepth 100000
namespace L2
open PySem PySem.Spec PyProof.Rows XH
/-- a truth, a number, a text -/
def Smp : V → Prop
  | .bl _ => True
  | .int _ => True
  | .str _ => True
  | .non => True
  | _ => False
theorem eqat_smp {A : Around} {s : Shared} {v : V} {u w : Value} (h : Smp v) (r1 : RelV v u) (r2 : RelV v w) : SeqAt.EqAt A s u w true := by
  cases v with
  | bl b =>
    cases r1
    cases r2
    have z := SeqAt.EqAt.bool_bool (A := A) (s := s) b b
    rw [beq_self_eq_true] at z
    exact z
  | int i =>
    obtain ⟨t, rfl⟩ := r1
    obtain ⟨t', rfl⟩ := r2
    have z := SeqAt.EqAt.int_int (A := A) (s := s) i t i t'
    rw [beq_self_eq_true] at z
    exact z
  | str i =>
    obtain ⟨t, rfl⟩ := r1
    obtain ⟨t', rfl⟩ := r2
    have z := SeqAt.EqAt.str_str (A := A) (s := s) i t i t'
    rw [beq_self_eq_true] at z
    exact z
  | non =>
    cases r1
    cases r2
    exact SeqAt.EqAt.same _
  | _ => exact absurd h (fun z => z)
end L2
set_option Elab.async false
set_option linter.all false
set_option maxRecDepth 100000
namespace L2
open PySem PySem.Spec PyProof.Rows XH
/-! ### a text, walked sign by sign -/
def Its (x : Str) : It := ⟨fun i _ => i < x.cps.size, fun i H v H' => H' = H ∧ ∃ c, x.cps[i]? = some c ∧ v = .str ⟨#[c]⟩, fun i _ => i = x.cps.size⟩
theorem turn_str {P : Program} {w : World} {K : PySem.W.Frag} {tg : Expr} {ty : String} (hty : ty = "str_ascii_iterator" ∨ ty = "str_iterator") (it : Addr) (x : Str) (t : Tok) : Turn P w K tg (Its x) [it] it (fun i h => h.IsStrIter it ty x t i) where
  mem := by simp
  obj := fun i h st b hb => by
    have e : b = it := by simpa using hb
    subst e
    obtain ⟨o, e, c, d⟩ := st
    exact ⟨o, e, fun v z => by rw [d] at z; cases z⟩
  keep := fun i h h' st k => by
    obtain ⟨o, e, c, d⟩ := st
    exact ⟨o, k it (by simp) o e, c, d⟩
  item := by
    intro X hP hw hK hc i pins s σ H E I hf st hg
    subst hP hw hK
    obtain ⟨f0, f1, f2, f3, f4, f5⟩ := hf it (by simp)
    have W : Walks X.prog X.w X.A it [it] [it] x.cps.size (SignAt x) (fun i h => h.IsStrIter it ty x t i) := by
      rcases hty with rfl | rfl
      · exact Walks.strAscii (I.ok.hd hc) it x t
      · exact Walks.strWide (I.ok.hd hc) it x t
    refine W.item i s _ _ hg st fun v h' tk hv st' kk => ?_
    obtain ⟨c, u, hc', rfl⟩ := hv
    have I1 : Inv X pins σ H { s with heap := h', toks := tk } := I.turned (fun b o hb e => kk b o (by simpa using hb) e) f0 f1 f3 f4 f5
    obtain ⟨o, e, c1, d1⟩ := id st'
    refine ⟨_, rfl, go_of (s := { s with heap := h', toks := tk }) (n := ty) e c1 d1 (by rcases hty with rfl | rfl <;> decide) ⟨.str ⟨#[c]⟩, H, I1, ⟨u, rfl⟩, ⟨rfl, c, hc', rfl⟩, st', fun b hb => (hf b hb).1⟩⟩
  done := by
    intro X hP hw hK hc i pins s σ H E I hf st hg
    subst hP hw hK
    obtain ⟨f0, f1, f2, f3, f4, f5⟩ := hf it (by simp)
    have W : Walks X.prog X.w X.A it [it] [it] x.cps.size (SignAt x) (fun i h => h.IsStrIter it ty x t i) := by
      rcases hty with rfl | rfl
      · exact Walks.strAscii (I.ok.hd hc) it x t
      · exact Walks.strWide (I.ok.hd hc) it x t
    have hg' : i = x.cps.size := hg
    subst hg'
    exact W.done s _ _ st fun h' tk kk => ⟨rfl, I.turned (fun b o hb e => kk b o (by simpa using hb) e) f0 f1 f3 f4 f5⟩
  self := fun _ _ _ _ _ st h => by
    rcases hty with rfl | rfl
    · exact wpAny_pyIter_striter_ascii st h
    · exact wpAny_pyIter_striter_wide st h
def iStr (tl : TE) : TI := fun σ H R => tl σ H fun x H1 => ∃ z, x = .str z ∧ R (Its z) H1
section
variable {X : Cx} {tg : Expr}
theorem pi_str {l : Expr} {tl : TE} (hl : PE X l tl) : PI X tg l (iStr tl) := by
  intro pins s σ H R I h
  refine thn (hl pins s σ H _ I h) fun v s1 ⟨x, H1, I1, r1, q1⟩ => ?_
  obtain ⟨z, rfl, q⟩ := q1
  obtain ⟨t, rfl⟩ := r1
  have fin : ∀ {ty : String} {o : Obj}, (ty = "str_ascii_iterator" ∨ ty = "str_iterator") → (s1.heap.push o).IsStrIter s1.heap.objs.size ty z t 0 → PIE X pins σ tg R (.ref s1.heap.objs.size) { s1 with heap := s1.heap.push o } := fun {ty o} hty st => by
    refine ⟨s1.heap.objs.size, [s1.heap.objs.size], _, _, H1, rfl, I1.kept (t' := s1.toks) fun b o e => Heap.get?_push_of_some _ e, turn_str hty _ z t, st, fun b hb => ?_, q⟩
    have e : b = s1.heap.objs.size := by simpa using hb
    subst e
    exact I1.fpOk (Nat.le_refl _) (I1.hok.fresh (Nat.le_refl _))
  cases ha : z.cps.all (· < 128)
  · exact wpAny_pyIter_wide ha (fin (.inr rfl) ⟨_, Heap.get?_push_size _ rfl, rfl, rfl⟩)
  · exact wpAny_pyIter_ascii ha (fin (.inl rfl) ⟨_, Heap.get?_push_size _ rfl, rfl, rfl⟩)
end
/-- for, over a text -/
theorem for_str {z : Str} {g : TG} {tb : TS} {D : Ends} {σ : St} {H : Hp} (Pv : Nat → St → Hp → Prop) (h0 : Pv 0 σ H)
    (hs : ∀ i c σ H, z.cps[i]? = some c → Pv i σ H → g (.str ⟨#[c]⟩) σ H fun σ2 H2 => tb { D with nx := Pv (i + 1), ct := Pv (i + 1), bk := D.nx } σ2 H2) (hd : ∀ σ H, Pv z.cps.size σ H → D.nx σ H) :
    ∃ W : Nat → Nat → St → Hp → Prop, (∃ m, W 0 m σ H) ∧ ∀ i m σ H, W i m σ H →
      ((Its z).stop i H ∧ D.nx σ H) ∨ ((Its z).go i H ∧ ∃ N : St → Hp → Prop, (∀ σ' H', N σ' H' → ∃ m', m' < m ∧ W (i + 1) m' σ' H') ∧ ∀ x H', (Its z).yld i H x H' → g x σ H' fun σ2 H2 => tb { D with nx := N, ct := N, bk := D.nx } σ2 H2) := by
  refine ⟨fun i m σ H => m = z.cps.size - i ∧ i ≤ z.cps.size ∧ Pv i σ H, ⟨z.cps.size, by simp, Nat.zero_le _, h0⟩, ?_⟩
  rintro i m σ H ⟨rfl, hi, p⟩
  by_cases hlt : i < z.cps.size
  · refine .inr ⟨hlt, Pv (i + 1), fun σ' H' p' => ⟨z.cps.size - (i + 1), by omega, rfl, hlt, p'⟩, fun x H' y => ?_⟩
    obtain ⟨e, c, hc, rfl⟩ := y
    subst e
    exact hs i c σ _ hc p
  · have e : i = z.cps.size := by omega
    subst e
    exact .inl ⟨rfl, hd σ H p⟩
/-! ### x[lo:hi] of a text -/
def cutS (x : Str) (lo hi : Option Int) : Str := ⟨((x.cps.toList.drop (HT.sIx x.length 0 lo)).take (HT.sIx x.length x.length hi - HT.sIx x.length 0 lo)).toArray⟩
theorem sIdx (lo hi : Option Int) (n : Nat) : Builtin.Str.strSliceIndices lo hi 1 n = (List.range (HT.sIx n n hi - HT.sIx n 0 lo)).map (HT.sIx n 0 lo + ·) := by
  have h1 : (match lo with | none => (0 : Int) | some i => max 0 (min (if i < 0 then i + (n : Int) else i) n)) = ((HT.sIx n 0 lo : Nat) : Int) := by
    cases lo with
    | none => simp [HT.sIx]
    | some i =>
      simp only [HT.sIx]
      by_cases h : i < 0
      · simp only [h, if_true] <;> omega
      · simp only [h, if_false] <;> omega
  have h2 : (match hi with | none => (n : Int) | some i => max 0 (min (if i < 0 then i + (n : Int) else i) n)) = ((HT.sIx n n hi : Nat) : Int) := by
    cases hi with
    | none => simp [HT.sIx]
    | some i =>
      simp only [HT.sIx]
      by_cases h : i < 0
      · simp only [h, if_true] <;> omega
      · simp only [h, if_false] <;> omega
  rw [← sliceRange_one, ← h1, ← h2]
  cases lo <;> cases hi <;> rfl
theorem cutS_picked (x : Str) (l u : Option (Int × Tok)) : (⟨((slicePicked x l u none).filterMap (x.cps[·]?)).toArray⟩ : Str) = cutS x (l.map (·.1)) (u.map (·.1)) := by
  show (⟨((Builtin.Str.strSliceIndices (l.map (·.1)) (u.map (·.1)) 1 x.length).filterMap (x.cps[·]?)).toArray⟩ : Str) = _
  rw [sIdx, pick_run]
  rfl
theorem cutS_length (x : Str) (lo hi : Option Int) : (cutS x lo hi).length ≤ x.length := by
  show ((x.cps.toList.drop _).take _).toArray.size ≤ x.cps.size
  rw [List.size_toArray, List.length_take, List.length_drop]
  simp only [Array.length_toList]
  omega
theorem cutS_whole (x : Str) (l u : Option (Int × Tok)) (h : (slicePicked x l u none).length = x.length) : cutS x (l.map (·.1)) (u.map (·.1)) = x := by
  have h' : (Builtin.Str.strSliceIndices (l.map (·.1)) (u.map (·.1)) 1 x.length).length = x.length := h
  rw [sIdx, List.length_map, List.length_range] at h'
  have hs : HT.sIx x.length x.length (u.map (·.1)) ≤ x.length ∨ x.length < HT.sIx x.length x.length (u.map (·.1)) := by omega
  have hu : HT.sIx x.length x.length (u.map (·.1)) ≤ x.length := by
    cases u with
    | none => exact Nat.le_refl _
    | some p =>
      show (if p.1 < 0 then (p.1 + (x.length : Int)).toNat else min p.1.toNat x.length) ≤ x.length
      by_cases hp : p.1 < 0
      · rw [if_pos hp]; omega
      · rw [if_neg hp]; omega
  unfold cutS
  by_cases hx : x.length = 0
  · have e : x.cps.toList = [] := by
      have : x.cps.toList.length = 0 := by rw [Array.length_toList]; exact hx
      exact List.eq_nil_of_length_eq_zero this
    rw [e, List.drop_nil, List.take_nil]
    obtain ⟨c⟩ := x
    have e' : c = #[] := Array.toList_inj.mp (by simpa using e)
    rw [e']
  · have h0 : HT.sIx x.length 0 (l.map (·.1)) = 0 := by omega
    rw [h0, List.drop_zero, List.take_of_length_le (by rw [Array.length_toList]; show x.length ≤ _; omega)]
theorem part_of {v : Value} {o : Option Int} (p : IsPart v o) : ∃ l : Option (Int × Tok), partValue l = v ∧ l.map (·.1) = o := by
  cases p with
  | none => exact ⟨none, rfl, rfl⟩
  | int i t => exact ⟨some (i, t), rfl, rfl⟩
theorem sl_str {X : Cx} : SlR X (fun x lo hi H Q => ∃ z, x = .str z ∧ z.length ≤ sizeLine ∧ Q (.str (cutS z lo hi)) H) := by
  intro pins s σ H x v vl vu lo hi sl Q I rx hs pl pu h
  obtain ⟨z, rfl, hz, q⟩ := h
  obtain ⟨t, rfl⟩ := rx
  obtain ⟨l, rfl, rfl⟩ := part_of pl
  obtain ⟨u, rfl, rfl⟩ := part_of pu
  refine ⟨"str", _, slot_str_getitem.lookup, typeIs_str s z t, ?_⟩
  refine wpAny_getItem_str_slice (l := l) (u := u) (st := none) hs rfl ?_
  unfold sliceMade
  by_cases hw : (slicePicked z l u none).length = z.length
  · rw [if_pos (by simp [hw])]
    refine ⟨.str (cutS z (l.map (·.1)) (u.map (·.1))), H, I, ⟨t, by rw [cutS_whole z l u hw]⟩, q⟩
  · rw [if_neg (by simp [hw])]
    rw [cutS_picked]
    exact ⟨Nat.le_trans (cutS_length _ _ _) hz, .str (cutS z (l.map (·.1)) (u.map (·.1))), H, I.tok _, ⟨_, rfl⟩, q⟩
/-! ### methods of texts -/
end L2
set_option Elab.async false
set_option linter.all false
set_option maxRecDepth 100000
namespace Sw
open PySem L2 XH PyProof.Rows
/-! ### defs that are called from a handler too, and refusals' __init__ -/
section
variable {X : Cx} {k j : Nat} {x : Str} {ps : List Str} {sp : Sp} {p np pos cpos : Pos} {e : Expr} {es : List Expr} {t : TA} {hd : Option Value} {C : Addr} {E : L2.St → XK}
end
theorem hdSame {hd : Option Value} {H H' : Hp} (h : HdOk hd H) (g : Same H H') : HdOk hd H' := fun v e => by
  obtain ⟨a, n, cls, dx, e1, e2⟩ := h v e
  exact ⟨a, n, cls, dx, e1, g _ _ e2⟩
theorem sUpd {H H' : Hp} {p : Addr} (g : Same H H') (h : H p = none) (o : HO) : Same H (upd H' p o) := fun b u q => by
  rw [upd_ne (ne_of_none q h)]
  exact g b u q
def CompAt (X : Cx) (scope : Scope) (ys : List Str) (js : List Nat) : Prop := ∀ (i : Nat) (y : Str), ys[i]? = some y → ∃ j : Nat, js[i]? = some j ∧ X.N[j]? = some y ∧ (X.env.scope.names.lookup y = some .cell ∨ X.env.scope.names.lookup y = some .free) ∧ ((relabel scope X.env).names.lookup y = some .cell ∨ (relabel scope X.env).names.lookup y = some .free)
theorem atn {X : Cx} {scope : Scope} : CompAt X scope [] [] := fun i y h => by simp at h
theorem atc {X : Cx} {scope : Scope} {ys : List Str} {js : List Nat} {y : Str} {j : Nat} (t : CompAt X scope ys js) (h1 : X.N[j]? = some y := by rfl) (h2 : X.env.scope.names.lookup y = some .cell ∨ X.env.scope.names.lookup y = some .free := by first | exact Or.inl rfl | exact Or.inr rfl)
    (h3 : (relabel scope X.env).names.lookup y = some .cell ∨ (relabel scope X.env).names.lookup y = some .free := by first | exact Or.inl rfl | exact Or.inr rfl) : CompAt X scope (y :: ys) (j :: js) := fun i z h => by
  cases i with
  | zero =>
    cases h
    exact ⟨j, rfl, h1, h2, h3⟩
  | succ i => exact t i z h
/-- the names that a comprehension takes from around -/
inductive Subs (X : Cx) : List (Str × Addr) → Prop where
  | nil : Subs X []
  | cons {y : Str} {c : Addr} {cl : List (Str × Addr)} (h : X.env.cells.lookup y = some c) (t : Subs X cl) : Subs X ((y, c) :: cl)
theorem Subs.all {X : Cx} {cl : List (Str × Addr)} (h : Subs X cl) : ∀ p ∈ cl, X.env.cells.lookup p.1 = some p.2 := by
  induction h with
  | nil => intro p hp; simp at hp
  | cons h _ ih =>
    intro p hp
    rcases List.mem_cons.mp hp with e | e
    · rw [e]; exact h
    · exact ih p e
theorem cok {X : Cx} {scope : Scope} {cl : List (Str × Addr)} {own : Str} {ys : List Str} {js : List Nat} (a : CompAt X scope ys js) (s : Subs X cl) (nd : (own :: ys).Nodup) (len : js.length = ys.length) (clos : closureFor scope X.env = pure cl) (nocell : (scope.names.all fun p => !(p.2 == .cell)) = true) (kind : scope.kind = .function)
    (loc : (scope.names.all fun p => !(p.2 == .local) || scope.names.lookup p.1 == some .local) = true) (ownL : scope.names.lookup own = some .local) (has : ((relabel scope X.env).names.all fun p => !(p.2 == .cell || p.2 == .free) || (cl.lookup p.1).isSome) = true) (noown : cl.lookup own = none) : CompOk X scope cl own ys js :=
  ⟨clos, nocell, kind, loc, ownL, s.all, has, noown, nd, a, len⟩
/-! ### the sixteen refusals -/
section
variable {K : PySem.W.Frag} {cs : List Addr} {S C D : Addr} {i j : Nat}
end
end Sw
set_option Elab.async false
set_option linter.all false
set_option maxRecDepth 100000
namespace Sw
open PySem PySem.NumText
/-! ### the figures of a number -/
/-! ### a number of a text -/
/-! ### a text cut at a sign -/
/-! ### what is read -/
end Sw
set_option Elab.async false
set_option linter.all false
set_option maxRecDepth 100000
namespace L2
open PySem PySem.Spec PyProof.Rows XH
section
variable {X : Cx} {a b e o : Expr} {es : List Expr} {t te to : TE} {ta : TA} {pos apos cpos : Pos} {x y : Str}
/-! ### a text with numbers and texts put in -/
/-! ### int(text), max(list), values of the file's top -/
theorem ints_of : ∀ {ns : List Int} {us : List Value}, Vals (ns.map V.int) us → IntsAre us ns
  | [], _, h => by cases h; exact .nil
  | n :: ns, _, h => by
    cases h with
    | cons r rr =>
      obtain ⟨t, rfl⟩ := r
      exact .cons _ _ (ints_of rr)
theorem call_maxL (hc : X.calm = true) : CallR X (.builtin "max") (fun xs H Q => ∃ a ns, xs = [.ref a] ∧ SqL X.K H a (ns.map V.int) ∧ ns ≠ [] ∧ ∀ M : Int, M ∈ ns → (∀ z ∈ ns, z ≤ M) → Q (.int M) H) := by
  intro pins s σ H xs us Q I r h
  obtain ⟨a, ns, rfl, h1, hne, q⟩ := h
  obtain ⟨u, rfl, r1⟩ := vals1 r
  cases r1
  obtain ⟨its, rv, p, hz⟩ := I.list h1
  have hi := ints_of rv
  obtain ⟨xs, e⟩ := hi.allInts.items
  have lst : xs.toList.map (·.1) = ns := by
    rw [← hi.numsOf, ← nums_intItems xs, ← e]
  have len : ns.length = xs.size := by rw [← lst, List.length_map, Array.length_toList]
  have pos : 0 < xs.size := len ▸ List.length_pos_iff.mpr hne
  refine max_intList (I.ok.hd hc) (xs := xs) (by have z := p.isList; rw [e] at z; exact z) pos fun v h' tk hv hk => ?_
  obtain ⟨t, rfl⟩ := intItems_at hv
  have best := argBest_gt (numAt xs) (xs.size - 1)
  refine ⟨.int _, H, I.kept (h' := h') (t' := tk) hk, ⟨_, rfl⟩, q _ ?_ fun z hz => ?_⟩
  · have m := best.1
    rw [← lst, numAt_eq]
    refine getD_mem ?_
    rw [lst, len]
    omega
  · rw [← lst] at hz
    obtain ⟨j, hj, rfl⟩ := mem_getD hz
    rw [lst, len] at hj
    have m := best.2 j (by omega)
    rw [numAt_eq] at m
    exact m
theorem pe_globS {z : Str} {p : Pos} (hg : Gl X x) (h : ∃ t, X.mg x = some (.str z t)) (hd : (x == ("__debug__" : Str)) = false := by decide) : PE X (.Name x p) (tC (.str z)) := by
  obtain ⟨t, h⟩ := h
  exact pe_glob hg h ⟨t, rfl⟩ hd
theorem pe_globI {i : Int} {p : Pos} (hg : Gl X x) (h : ∃ t, X.mg x = some (.int i t)) (hd : (x == ("__debug__" : Str)) = false := by decide) : PE X (.Name x p) (tC (.int i)) := by
  obtain ⟨t, h⟩ := h
  exact pe_glob hg h ⟨t, rfl⟩ hd
/-! ### tuples of numbers that are alike -/
/-! ### a list walked in a comprehension -/
/-! ### split -/
/-! ### replace: the two texts must be made behind something else -/
end
end L2
set_option Elab.async false
set_option linter.all false
set_option maxRecDepth 100000
namespace L2
open PySem PySem.Spec PyProof.Rows XH
/-! ### a dict, walked key by key; while it is walked it is known to the object -/
theorem is_kV {P : Program} {w : World} {k : Key} {u : Value} (h : (mixKind P w).is k u = true) : RelV (kV k) u := by
  rcases keyIs_shape h with ⟨i, t, rfl, rfl⟩ | ⟨x, t, rfl, rfl⟩
  · exact ⟨t, rfl⟩
  · exact ⟨t, rfl⟩
theorem kv_at {κ : Type} : ∀ {kvs : List (κ × V)} {vs : List (κ × Value)} (r : KV kvs vs) (i : Nat) {k : κ} {x : V}, kvs[i]? = some (k, x) → ∃ u, vs[i]? = some (k, u) ∧ RelV x u
  | _, _, .nil, i, k, x, h => by simp at h
  | _, _, .cons (b := q) r t, 0, k, x, h => by
    simp at h
    subst h
    obtain ⟨q1, q2⟩ := q
    have e : k = q1 := r.1
    subst e
    exact ⟨q2, by simp, r.2⟩
  | _, _, .cons r t, i + 1, k, x, h => by
    obtain ⟨u, e, rx⟩ := kv_at t i (by simpa using h)
    exact ⟨u, by simpa using e, rx⟩
theorem frz_dict {X : Cx} {pins : List (Addr × Obj)} {σ : St} {H : Hp} {s : Shared} {a : Addr} {o : Obj} {kvs : List (Key × V)} {es0 : Array DictEntry} {ep : Nat} (I : Inv X pins σ H s) (h : H a = some (.frz o (.dK kvs))) (hd : o.data = .dict es0 ep) :
    ∃ vs, KV kvs vs ∧ s.heap.DictAt (mixKind X.prog X.w) a vs ep := by
  obtain ⟨ho, z, y, vs, rel, ob, es, ep', e, c, d, rest⟩ := (show ObjOk X.prog X.w H s.heap a (.frz o (.dK kvs)) from I.hok a _ h)
  rw [ho] at e
  cases e
  have e2 : ep' = ep := by rw [hd] at d; cases d; rfl
  subst e2
  exact ⟨vs, rel, o, es, ho, c, d, rest⟩
/-- nothing of the kind was known there at the entry -/
def NF (X : Cx) (a : Addr) : Prop := ∀ o u, X.H₀ a ≠ some (.frz o u)
theorem Inv.nf {X : Cx} {pins : List (Addr × Obj)} {σ : St} {H : Hp} {s : Shared} {a : Addr} {kvs : List (Key × V)} (I : Inv X pins σ H s) (h : H a = some (.dK kvs)) : NF X a := fun o u e => by
  have := I.base.frzs a o u e
  rw [h] at this
  cases this
theorem Inv.freeze {X : Cx} {pins : List (Addr × Obj)} {σ : St} {H : Hp} {s : Shared} {a : Addr} {kvs : List (Key × V)} {o : Obj} (I : Inv X pins σ H s) (h : H a = some (.dK kvs)) (ho : s.heap.get? a = some o) : Inv X pins σ (upd H a (.frz o (.dK kvs))) s := by
  refine I.un (H' := upd H a (.frz o (.dK kvs))) (h' := s.heap) (t' := s.toks) ⟨fun b ob q n _ _ => q, fun b ob q n _ _ => ⟨ob.slots, q⟩, fun b ob q n _ => ?_, fun b ob q _ => ⟨ob, q⟩, fun b xs q => ?_, fun b ob u q => ?_, fun b ps q => ⟨#[], ?_⟩⟩ ?_
  · rw [upd_ne (fun z => by subst z; rw [h] at n; cases n)]; exact n
  · rw [upd_ne (fun z => by subst z; rw [h] at q; cases q)]; exact q
  · rw [upd_ne (fun z => by subst z; rw [h] at q; cases q)]; exact q
  · rw [upd_ne (fun z => by subst z; rw [h] at q; cases q), q]; simp
  · intro b u q
    by_cases hb : b = a
    · subst hb
      rw [upd_same] at q
      cases q
      exact ⟨ho, (I.hok b _ h).stay (fun _ _ _ q => q) (fun c q => by rw [upd_ne (fun z => by subst z; rw [h] at q; cases q)]; exact q) fun c xs q => by rw [upd_ne (fun z => by subst z; rw [h] at q; cases q)]; exact q⟩
    · rw [upd_ne hb] at q
      exact (I.hok b _ q).stay (fun _ _ _ q => q) (fun c q => by rw [upd_ne (fun z => by subst z; rw [h] at q; cases q)]; exact q) fun c xs q => by rw [upd_ne (fun z => by subst z; rw [h] at q; cases q)]; exact q
theorem Inv.thaw {X : Cx} {pins : List (Addr × Obj)} {σ : St} {H : Hp} {s : Shared} {a : Addr} {kvs : List (Key × V)} {o : Obj} (I : Inv X pins σ H s) (h : H a = some (.frz o (.dK kvs))) (nf : NF X a) : Inv X pins σ (upd H a (.dK kvs)) s := by
  have hn : ∀ {b : Addr} {u : HO}, H b = some u → (∀ o' v, u ≠ .frz o' v) → upd H a (.dK kvs) b = some u := fun {b u} q n => by
    rw [upd_ne (fun z => by subst z; rw [h] at q; cases q; exact n _ _ rfl)]; exact q
  have hf : ∀ {b : Addr}, H b = none → upd H a (.dK kvs) b = none := fun {b} n => by
    rw [upd_ne (fun z => by subst z; rw [h] at n; cases n)]; exact n
  refine ⟨I.ok, I.os, I.bare, ⟨I.base.keep, I.base.slot, fun b ob q n hx => hf (I.base.free b ob q n hx), I.base.there, fun b xs q => hn (I.base.tups b xs q) (fun _ _ z => nomatch z), fun b ob u q => ?_, fun b ps q => ?_⟩, I.loc, I.cell, hf I.free, fun y c e => hf (I.freeC y c e), fun p hp => ?_, ?_, I.len⟩
  · have q' := I.base.frzs b ob u q
    rw [upd_ne (fun z => by subst z; exact nf _ _ q)]
    exact q'
  · obtain ⟨more, q'⟩ := I.base.tbls b ps q
    exact ⟨more, hn q' (fun _ _ z => nomatch z)⟩
  · obtain ⟨p1, p2, p3⟩ := I.pin p hp
    exact ⟨p1, hf p2, p3⟩
  · intro b u q
    by_cases hb : b = a
    · subst hb
      rw [upd_same] at q
      cases q
      obtain ⟨_, q2⟩ := (show ObjOk X.prog X.w H s.heap b (.frz o (.dK kvs)) from I.hok b _ h)
      exact ObjOk.stay (o := .dK kvs) q2 (fun _ _ _ q => q) (fun c q => hn q (fun _ _ z => nomatch z)) fun c xs q => hn q (fun _ _ z => nomatch z)
    · rw [upd_ne hb] at q
      exact (I.hok b _ q).stay (fun _ _ _ q => q) (fun c q => hn q (fun _ _ z => nomatch z)) fun c xs q => hn q (fun _ _ z => nomatch z)
section
variable {X : Cx} {tg : Expr}
end
def unf (X : Cx) (P : Hp → Prop) (H : Hp) : Prop := ∃ a o kvs, H a = some (.frz o (.dK kvs)) ∧ NF X a ∧ P (upd H a (.dK kvs))
def unfD (X : Cx) (D : Ends) : Ends := { nx := fun σ => unf X (D.nx σ), bk := fun σ => unf X (D.bk σ), ct := fun σ => unf X (D.ct σ), rt := fun v => unf X (D.rt v) }
/-- a loop over a dict -/
theorem ps_unf {X : Cx} {st : Stmt} {t : TS} (h : PS X st t) : PS X st (fun D σ H => t (unfD X D) σ H) := by
  intro pins s σ H D I q
  refine thn (h pins s σ H _ I q) fun f s1 q1 => ?_
  cases f with
  | next =>
    obtain ⟨σ', H', I', a, o, kvs, e, nf, p⟩ := q1
    exact ⟨σ', _, I'.thaw e nf, p⟩
  | brk =>
    obtain ⟨σ', H', I', a, o, kvs, e, nf, p⟩ := q1
    exact ⟨σ', _, I'.thaw e nf, p⟩
  | cont =>
    obtain ⟨σ', H', I', a, o, kvs, e, nf, p⟩ := q1
    exact ⟨σ', _, I'.thaw e nf, p⟩
  | ret u =>
    obtain ⟨v, σ', H', I', r, a, o, kvs, e, nf, p⟩ := q1
    exact ⟨v, σ', _, I'.thaw e nf, r, p⟩
end L2
set_option Elab.async false
set_option linter.all false
set_option maxRecDepth 100000
namespace L2
open PySem PySem.Spec PyProof.Rows XH
section
variable {X : Cx} {a b c d : Expr} {ta tb tc td : TE} {pos : Pos}
/-- a op1 b op2 c op3 d -/
def tChain3 (r r' r'' : R2) (ta tb tc td : TE) : TE := fun σ H Q => ta σ H fun x H1 => tb σ H1 fun y H2 => r x y H2 fun z H3 => ∃ k, z = .bl k ∧
  (if k = true then tc σ H3 fun w H4 => r' y w H4 fun z' H5 => ∃ k', z' = .bl k' ∧ (if k' = true then td σ H5 fun v H6 => r'' w v H6 Q else Q (.bl false) H5) else Q (.bl false) H3)
theorem pt_chain3 {o1 o2 o3 : CmpOp} {r r' r'' : R2} (h1 : OpR X (compareOp o1) r) (h2 : OpR X (compareOp o2) r') (h3 : OpR X (compareOp o3) r'') (ha : PE X a ta) (hb : PE X b tb) (hc : PE X c tc) (hd : PE X d td)
    (hm : lastMarks [o1, o2, o3] [b, c, d] = false := by with_unfolding_all rfl) : PT X (.Compare a [o1, o2, o3] [b, c, d] pos) (tTest (tChain3 r r' r'' ta tb tc td)) := by
  intro pins s σ H Q I h
  refine isTrue_chain (thn (ha pins s σ H _ I h) fun v s1 ⟨x, H1, I1, r1, q1⟩ => test_link (thn (hb pins s1 σ H1 _ I1 q1) fun u s2 ⟨y, H2, I2, r2, q2⟩ =>
    thn (h1 pins s2 σ H2 x y v u _ I2 r1 r2 q2) fun e1 s3 ⟨z, H3, I3, r3, k, e, q3⟩ => ?_)) hm
  subst e
  cases r3
  refine wpAny_truthy_bool ?_
  cases k with
  | false =>
    obtain ⟨k', e', q'⟩ := q3
    cases e'
    exact ite_ff ⟨H3, I3, q'⟩
  | true =>
    refine ite_tt (test_link (thn (hc pins s3 σ H3 _ I3 q3) fun w' s4 ⟨z', H4, I4, r4, q4⟩ => thn (h2 pins s4 σ H4 y z' u w' _ I4 r2 r4 q4) fun d' s5 ⟨z2, H5, I5, r5, k2, e2, q5⟩ => ?_))
    subst e2
    cases r5
    refine wpAny_truthy_bool ?_
    cases k2 with
    | false =>
      obtain ⟨k', e', q'⟩ := q5
      cases e'
      exact ite_ff ⟨H5, I5, q'⟩
    | true =>
      refine ite_tt (test_last (thn (hd pins s5 σ H5 _ I5 q5) fun w2 s6 ⟨z3, H6, I6, r6, q6⟩ => thn (h3 pins s6 σ H6 z' z3 w' w2 _ I6 r4 r6 q6) fun d2 s7 ⟨z4, H7, I7, r7, k3, e3, q7⟩ => ?_))
      subst e3
      cases r7
      exact wpAny_truthy_bool ⟨H7, I7, q7⟩
end
/-- dict(d) -/
theorem call_dictD {X : Cx} : CallR X (.type "dict") (fun xs H Q => ∃ (d : Addr) (kvs : List (Key × V)), xs = [.ref d] ∧ H d = some (.dK kvs) ∧ ∀ p, H p = none → Q (.ref p) (upd H p (.dK kvs))) := by
  intro pins s σ H xs us Q I r h
  obtain ⟨d, kvs, rfl, hd, q⟩ := h
  cases r with
  | cons r rr =>
    cases rr
    cases r
    obtain ⟨z, y, vs, rel, D⟩ := dk_of I.hok hd
    refine kt_call_dict y D (by rw [← rel.length]; exact z) fun h' hm hs => ?_
    have kp : ∀ b o, s.heap.get? b = some o → h'.get? b = some o := fun b o e => (hs.2 b (Nat.ne_of_lt (Heap.lt_size e))).trans (Heap.get?_push_of_some _ e)
    have big : (s.heap.objs.size == sysModules) = false := by
      have := I.big
      exact beq_eq_false_iff_ne.mpr (Nat.ne_of_gt this)
    exact ⟨.ref s.heap.objs.size, _, I.laid (o := .dK kvs) (t' := s.toks) kp (Nat.le_refl _) ⟨z, big, vs, rel, hm⟩, rfl, q _ I.fresh⟩
/-- d.items() -/
def rItems : V → List V → Hp → VK → Prop := fun x vs H Q => ∃ (d : Addr) (kvs : List (Key × V)), x = .ref d ∧ vs = [] ∧ H d = some (.dK kvs) ∧ ∀ v, H v = none → Q (.ref v) (upd H v (.ext fun h => h.IsItemsView v d))
theorem mt_items {X : Cx} : MtM X "dict.items" rItems := by
  intro pins s σ H x vs v us Q I rx rv h
  obtain ⟨d, kvs, rfl, rfl, hd, q⟩ := h
  cases rx
  have hus := rv.zero
  subst hus
  obtain ⟨z, y, ws, rel, D⟩ := dk_of I.hok hd
  refine call_meetsIn PySem.F.slot_dict_items D.typeIs PySem.F.entry_dict_items (PySem.F.args_dict_items_1 _) (meets_dict_items (mixKind X.prog X.w) d y) ⟨⟨ws, D⟩, ?_⟩
  refine ⟨.ref s.heap.objs.size, _, I.laid (o := .ext fun h => h.IsItemsView s.heap.objs.size d) (t' := s.toks) (fun b o e => Heap.get?_push_of_some _ e) (Nat.le_refl _) ⟨⟨_, Heap.get?_push_size _ rfl, rfl, rfl⟩, ⟨_, Heap.get?_push_size _ rfl⟩, fun h1 h2 ⟨o, e, c, f⟩ k => ⟨o, k o e, c, f⟩⟩, rfl, q _ I.fresh⟩
/-- the pairs of a dict, walked; while it is walked the dict is known to the object -/
def Itm (a : Addr) (o : Obj) (kvs : List (Key × V)) : It :=
  ⟨fun i H => H a = some (.frz o (.dK kvs)) ∧ i < kvs.length, fun i H v H' => ∃ (T : Addr) (k : Key) (x : V), v = .ref T ∧ H T = none ∧ kvs[i]? = some (k, x) ∧ H' = upd H T (.tup [kV k, x]), fun i H => H a = some (.frz o (.dK kvs)) ∧ i = kvs.length⟩
theorem entry_itemiter : entryFor table "dict_itemiterator.__iter__" = some Builtin.«dict_keyiterator.__iter__» :=
  entryFor_alias (id' := "dict_keyiterator.__iter__") (by kernel_rfl) rfl (by decide +kernel) (by kernel_rfl)
theorem iter_itemiter {prog : Program} {w : World} {A : Around} {E : Value → Shared → Prop} {s : Shared} {it d : Addr} {i n ep : Nat} {ok ov : Value} {Q : Value → Shared → Prop} (e : IsItemIter s.heap it d i n ep ok ov) (h : Q (.ref it) s) : wpAny (model prog w) A (pyIter (.ref it)) Q E s := by
  have T : s.TypeIs (.ref it) "dict_itemiterator" := ⟨_, e, rfl⟩
  refine wpAny_pyIter_slot T PySem.F.slot_dict_itemiterator_iter (wpAny_call_entry PySem.F.slot_dict_itemiterator_iter T entry_itemiter ?_ (PySem.F.args_dict_itemiterator_iter_1 _))
  exact (show wpAny _ _ (ret (.ref it)) _ _ s from wpAny_pure ⟨_, rfl, "dict_itemiterator", _, T, PySem.F.slot_dict_itemiterator_next.lookup, h⟩)
theorem turn_items {P : Program} {w : World} {K : PySem.W.Frag} {elts : List Expr} {kk : Nat} {pos : Pos} (it a : Addr) (o : Obj) (kvs : List (Key × V)) {es0 : Array DictEntry} {ep : Nat} (hd : o.data = .dict es0 ep) : Turn P w K (.Tuple elts kk pos) (Itm a o kvs) [it] it (fun i h => ∃ ok ov, IsItemIter h it a i kvs.length ep ok ov) where
  mem := by simp
  obj := fun i h st b hb => by
    have e : b = it := by simpa using hb
    subst e
    obtain ⟨ok, ov, e⟩ := st
    exact ⟨_, e, fun v z => by cases z⟩
  keep := fun i h h' st k => by
    obtain ⟨ok, ov, e⟩ := st
    exact ⟨ok, ov, k it (by simp) _ e⟩
  item := by
    intro X hP hw hK hc i pins s σ H E I hf st hg
    subst hP hw hK
    obtain ⟨hz, hlt⟩ := hg
    obtain ⟨vs, rel, D⟩ := frz_dict I hz hd
    obtain ⟨⟨k, x⟩, hx⟩ : ∃ p, kvs[i]? = some p := ⟨kvs[i], List.getElem?_eq_getElem hlt⟩
    obtain ⟨u, hu, ru⟩ := kv_at rel i hx
    obtain ⟨ok, ov, st'⟩ := st
    rw [rel.length] at st'
    refine wpAny_pyNext_items_item st' D hu fun key h1 hkey ho hT hsz hk => ?_
    refine ⟨_, rfl, wpAny_letOwnedTupleGo_items (s := { s with heap := h1 }) ho fun h2 he2 hs2 => ?_⟩
    have nT : H s.heap.objs.size = none := I.hok.fresh (Nat.le_refl _)
    have il : it < s.heap.objs.size := Heap.lt_size st'
    have hT2 : h2.get? s.heap.objs.size = some { cls := .type "tuple", data := .seq #[key, u] } := (hs2.2 _ (Nat.ne_of_gt il)).trans hT
    have kp : ∀ b o, b ∉ [it] → s.heap.get? b = some o → h2.get? b = some o := fun b o hb q => by
      simp at hb
      exact (hs2.2 b hb).trans (hk b o hb q)
    rw [← rel.length] at he2
    refine ⟨.ref s.heap.objs.size, upd H s.heap.objs.size (.tup [kV k, x]), I.turnedNew (t' := s.toks) (ch := [it]) hf kp (Nat.le_refl _) ⟨by show 2 ≤ sizeLine; decide, [key, u], .cons (is_kV hkey) (.cons ru .nil), ⟨_, hT2, rfl, 0, rfl⟩⟩, rfl,
      ⟨_, k, x, rfl, nT, hx, rfl⟩, ⟨_, _, he2⟩, fun b hb => ?_⟩
    have bl : b ≠ s.heap.objs.size := by
      rw [List.mem_singleton.mp hb]; exact Nat.ne_of_lt il
    rw [upd_ne bl]
    exact (hf b hb).1
  done := by
    intro X hP hw hK hc i pins s σ H E I hf st hg
    subst hP hw hK
    obtain ⟨hz, rfl⟩ := hg
    obtain ⟨vs, rel, D⟩ := frz_dict I hz hd
    obtain ⟨ok, ov, st'⟩ := st
    rw [rel.length] at st'
    refine wpAny_pyNext_items_end (I.ok.hd hc) st' D (by simp) fun h' he' => ⟨rfl, I.turnedAll (t' := s.toks) (ch := [it]) hf fun b o hb q => he' b o (fun z => hb (by simp [z])) q⟩
  self := fun A i s Q E st h => by
    obtain ⟨ok, ov, e⟩ := st
    exact iter_itemiter e h
def iItems (X : Cx) (tl : TE) : TI := fun σ H R => tl σ H fun x H1 => ∃ (v d : Addr) (kvs : List (Key × V)), x = .ref v ∧ H1 v = some (.ext fun h => h.IsItemsView v d) ∧ H1 d = some (.dK kvs) ∧ ∀ o, NF X d → R (Itm d o kvs) (upd H1 d (.frz o (.dK kvs)))
theorem pi_items {X : Cx} {l : Expr} {tl : TE} {elts : List Expr} {kk : Nat} {tp : Pos} (hl : PE X l tl) : PI X (.Tuple elts kk tp) l (iItems X tl) := by
  intro pins s σ H R I h
  refine thn (hl pins s σ H _ I h) fun u s1 ⟨x, H1, I1, r1, q1⟩ => ?_
  obtain ⟨v, a, kvs, rfl, hv, hk, q⟩ := q1
  cases r1
  obtain ⟨z, y, vs, rel, ob, es, ep, e, c, d, rest⟩ := (show ObjOk X.prog X.w H1 s1.heap a (.dK kvs) from I1.hok a _ hk)
  have D : s1.heap.DictAt (mixKind X.prog X.w) a vs ep := ⟨ob, es, e, c, d, rest⟩
  have I2 := I1.freeze hk e
  obtain ⟨view, _⟩ := (show ObjOk X.prog X.w H1 s1.heap v (.ext fun h => h.IsItemsView v a) from I1.hok v _ hv)
  refine wpAny_pyIter_items view D ?_
  refine ⟨s1.heap.objs.size, [s1.heap.objs.size], _, _, _, rfl, I2.kept (t' := s1.toks) fun b o e => Heap.get?_push_of_some _ e, turn_items _ a ob kvs d, ⟨_, _, by rw [rel.length]; exact Heap.get?_push_size _ rfl⟩, fun b hb => ?_, q ob (I1.nf hk)⟩
  have e : b = s1.heap.objs.size := by simpa using hb
  subst e
  exact I2.fpOk (Nat.le_refl _) (I2.hok.fresh (Nat.le_refl _))
end L2
set_option Elab.async false
set_option linter.all false
set_option maxRecDepth 100000
namespace So
open PySem PyProof.Rows
section
variable {prog : Program} {w : World} {A : Around} {E : Value → Shared → Prop} {s : Shared} {κ : KeyKind} {kd : SortKind}
end
end So
set_option Elab.async false
set_option linter.all false
set_option maxRecDepth 100000
namespace So
open PySem PyProof.Rows
section
variable {κ : KeyKind} {kd : SortKind} {a b out : Array Keyed} {ia ib : Nat}
end
end So
set_option Elab.async false
set_option linter.all false
set_option maxRecDepth 100000
namespace So
open PySem PyProof.Rows
section
variable {prog : Program} {w : World} {A : Around} {E : Value → Shared → Prop} {s : Shared} {κ : KeyKind} {kd : SortKind}
end
end So
set_option Elab.async false
set_option linter.all false
set_option maxRecDepth 100000
namespace So
open PySem PyProof.Rows
section
variable {κ : KeyKind} {kd : SortKind} {a b out : Array Keyed} {na nb : Nat}
end
section
variable {prog : Program} {w : World} {A : Around} {E : Value → Shared → Prop} {s : Shared} {κ : KeyKind} {kd : SortKind}
end
end So
set_option Elab.async false
set_option linter.all false
set_option maxRecDepth 100000
namespace So
open PySem PyProof.Rows
section
variable {prog : Program} {w : World} {A : Around} {E : Value → Shared → Prop} {s : Shared} {κ : KeyKind} {kd : SortKind}
end
section
variable {prog : Program} {w : World} {A : Around} {E : Value → Shared → Prop} {s : Shared} {κ : KeyKind} {kd : SortKind}
end
end So
set_option Elab.async false
set_option linter.all false
set_option maxRecDepth 100000
namespace So
open PySem PyProof.Rows
section
variable {prog : Program} {w : World} {A : Around} {E : Value → Shared → Prop} {s : Shared} {κ : KeyKind} {kd : SortKind}
end
end So
set_option Elab.async false
set_option linter.all false
set_option maxRecDepth 100000
namespace So
open PySem PyProof.Rows
section
variable {prog : Program} {w : World} {A : Around} {E : Value → Shared → Prop} {s : Shared} {κ : KeyKind} {kd : SortKind}
end
end So
set_option Elab.async false
set_option linter.all false
set_option maxRecDepth 100000
namespace So
open PySem PyProof.Rows
/-! ### the runs that wait -/
section
variable {κ : KeyKind} {kd : SortKind}
end
section
variable {prog : Program} {w : World} {A : Around} {E : Value → Shared → Prop} {s : Shared} {κ : KeyKind} {kd : SortKind}
end
end So
set_option Elab.async false
set_option linter.all false
set_option maxRecDepth 100000
namespace So
open PySem PyProof.Rows
section
variable {prog : Program} {w : World} {A : Around} {E : Value → Shared → Prop} {s : Shared} {κ : KeyKind} {kd : SortKind}
end
end So
set_option Elab.async false
set_option linter.all false
set_option maxRecDepth 100000
namespace So
open PySem PyProof.Rows
section
variable {prog : Program} {w : World} {A : Around} {E : Value → Shared → Prop} {s : Shared} {κ : KeyKind}
end
end So
set_option Elab.async false
set_option linter.all false
set_option maxRecDepth 100000
namespace Sw
open PySem L2 XH PySem.NumText
/-! ### texts and their signs -/
def sL (z : Str) : List Nat := z.cps.toList
def mkS (l : List Nat) : Str := ⟨l.toArray⟩
theorem sL_len (z : Str) : (sL z).length = z.length := by simp [sL, Str.length]
theorem sL_app (x y : Str) : sL (x ++ y) = sL x ++ sL y := by
  show (x.cps ++ y.cps).toList = _
  rw [Array.toList_append]
  rfl
theorem in_one (z : Str) (c : Nat) : (!(Builtin.Str.occurrences z (mkS [c]) 0 z.length 1).isEmpty) = decide (c ∈ sL z) := StrLaws.found_one z c
/-! ### a text split at a sign -/
/-! ### promises -/
end Sw
namespace Sw
open PySem L2 XH PySem.NumText
theorem nnT {b : Bool} {A B : Prop} (h1 : b = false → A) (h2 : b = true → B) : if (!b) = true then A else B := by
  cases b with
  | false => exact iteT (h1 rfl)
  | true => exact iteF (h2 rfl)
end Sw
namespace Sw
open PySem L2 XH PySem.NumText
end Sw
namespace Sw
open PySem L2 XH PySem.NumText
end Sw
namespace Sw
open PySem L2 XH PySem.NumText
end Sw
namespace Sw
open PySem L2 XH PySem.NumText
end Sw
set_option Elab.async false
set_option linter.all false
set_option maxRecDepth 100000
namespace L2
open PySem PySem.Spec PyProof.Rows XH
/-! ### list comprehensions with one test -/
section
variable {prog : Program} {w : World} {A : Around} {R : Result → Shared → Prop} {s : Shared}
end
section
variable {X : Cx} {scope : Scope} {cl : List (Str × Addr)} {own : Str} {ys : List Str} {js : List Nat} {elt iter cond : Expr} {px pos : Pos} {wi : TI} {te : TE} {tc : TT}
end
end L2
set_option Elab.async false
set_option linter.all false
set_option maxRecDepth 100000
namespace L2
open PySem PySem.Spec PyProof.Rows XH
/-! ### setdefault -/
section
variable {X : Cx}
end
/-! ### dicts that are alike -/
section
variable {prog : Program} {w : World} {κ : Type} [DecidableEq κ] {knd : KeyKind prog w κ} {A : Around} {E : Value → Shared → Prop} {s : Shared}
end
end L2
set_option Elab.async false
set_option linter.all false
set_option maxRecDepth 100000
namespace L2
open PySem PySem.Spec PyProof.Rows XH
/-! ### list(reversed(xs)) -/
theorem lri_len : typeLookup (.type "list_reverseiterator") "__len__" = pure none := by
  rw [typeLookup_type, builtinLookup_eq_fast]
  kernel_rfl
theorem lri_hint : typeLookup (.type "list_reverseiterator") "__length_hint__" = pure (some (.builtin "list_reverseiterator.__length_hint__")) := by
  rw [typeLookup_type, builtinLookup_eq_fast]
  kernel_rfl
section
variable {prog : Program} {w : World} {A : Around} {R : Result → Shared → Prop} {s : Shared} {I l S : Addr} {items : Array Value}
abbrev RevP (items : Array Value) : Nat → Value → Prop := fun i v => items[items.size - 1 - i]? = some v
theorem rev_extend (hh : A.in1.handled = none) (hlI : l ≠ I) (hSI : S ≠ I) (hSl : S ≠ l) (res : Value) (c : Nat) (hit : s.heap.IsRevIter I l ((items.size : Int) - 1)) (hl : s.heap.IsList l items)
    (hS : s.heap.get? S = some { cls := .type "list", data := .seq #[] c }) (hn : items.size ≤ sizeLine)
    (fin : ∀ s' acc c', Moved [S, I] (fun a b => b = a) s s' → s'.heap.get? S = some { cls := .type "list", dict := none, data := .seq acc c', slots := #[] } → ItemsOf (RevP items) acc items.size → R (.ok (.ret res)) s') :
    wpAny (model prog w) A.in1 (Builtin.List.listExtendWith (.ref S) (.ref I) res)
      (fun fin s' => match fin with | .done f => R (.ok f) s' | .again c' => c'.quiet = true ∧ codeAny (model prog w) A c' R s') (fun e s' => R (.error e) s') s := by
  have ty : s.TypeIs (.ref I) "list_reverseiterator" := hit.typeIs
  have ns : Builtin.List.listSameRef (.ref S) (.ref I) = false := by
    simp [Builtin.List.listSameRef, hSI]
  unfold Builtin.List.listExtendWith
  apply wpAny_bind
  apply wpAny_typeOf ty
  rw [if_neg (by rw [ns]; decide)]
  apply wpAny_bind
  apply wpAny_pyIter_revIter hit
  apply wpAny_bind
  apply wpAny_holding
  unfold Builtin.List.listLengthHint
  apply wpAny_bind
  apply wpAny_specialOf ty lri_len
  show wpAny _ _ (specialOf (Value.ref I) (Str.ofString "__length_hint__") >>= _) _ _ s
  apply wpAny_bind
  apply wpAny_specialOf ty lri_hint
  generalize hid : ("list_reverseiterator.__length_hint__" : String) = id0
  wp_delta
  rw [show splitId id0 = some ("list_reverseiterator", "__length_hint__") from by subst hid; decide +kernel]
  subst hid
  apply wpAny_bind
  refine wpAny_isInstance (b := true) ty (by rw [isSubtype_type]; kernel_rfl) ?_
  apply wpAny_pure
  rw [if_neg (by decide)]
  have W := (Walks.listRev (prog := prog) (w := w) hh I l hlI items).toS
  have out : S ∉ [I, l] := by
    simp only [List.mem_cons, List.not_mem_nil, or_false, not_or]
    exact ⟨hSI, hSl⟩
  have st : (0 : Nat) ≤ items.size ∧ s.heap.IsRevIter I l ((items.size : Int) - 1 - ((0 : Nat) : Int)) ∧ s.heap.IsList l items := ⟨Nat.zero_le _, by simpa using hit, hl⟩
  apply wpAny_pure
  refine ⟨plainId_quiet PySem.F.plain_extend_loop _, ?_⟩
  exact codeAny_extend_loopS W hn S out res items.size 0 s #[] c rfl (Nat.zero_le _) st hS (ItemsOf.nil _) fin
theorem list_rev {E : Value → Shared → Prop} {Q : Value → Shared → Prop} (hh : A.handled = none) (hlI : l ≠ I) (hit : s.heap.IsRevIter I l ((items.size : Int) - 1)) (hl : s.heap.IsList l items) (hn : items.size ≤ sizeLine)
    (fin : ∀ h' tk acc c', (∀ b o, b ≠ I → s.heap.get? b = some o → h'.get? b = some o) → h'.get? s.heap.objs.size = some { cls := .type "list", dict := none, data := .seq acc c', slots := #[] } → ItemsOf (RevP items) acc items.size → Q (.ref s.heap.objs.size) { s with heap := h', toks := tk }) :
    wpAny (model prog w) A (call (.type "list") [.ref I]) Q E s := by
  have lI : I < s.heap.objs.size := by
    obtain ⟨o, e, _⟩ := hit
    exact Heap.lt_size e
  have ll : l < s.heap.objs.size := by
    obtain ⟨o, e, _⟩ := hl
    exact Heap.lt_size e
  refine callType_codes (Q₁ := fun v s1 => v = .ref s.heap.objs.size ∧ s1 = { s with heap := s.heap.push { cls := .type "list", data := .seq #[] } }) PySem.F.called_list (PySem.F.typeCall_list_1 _) PySem.F.entry_list_init (code_list_new _ ⟨rfl, rfl⟩) ?_
  rintro v s1 ⟨rfl, rfl⟩
  have e0 : (s.heap.push { cls := .type "list", data := .seq #[] }).get? s.heap.objs.size = some { cls := .type "list", data := .seq #[] } := Heap.get?_push_size _ rfl
  refine ⟨⟨_, e0, rfl⟩, PySem.F.args_list_init_2 _ _, ?_⟩
  show wpAny _ _ (Builtin.List.listItems (.ref s.heap.objs.size) >>= fun old => Builtin.List.listUpdate (.ref s.heap.objs.size) (fun _ => #[]) >>= fun _ => letGo old.toList.reverse >>= fun _ => Builtin.List.listExtendWith (.ref s.heap.objs.size) (.ref I) .none) _ _ _
  apply wpAny_bind
  unfold Builtin.List.listItems
  apply wpAny_bind
  apply wpAny_seqItems e0 rfl
  apply wpAny_pure
  show wpAny _ _ (updateSeq s.heap.objs.size (fun _ => #[]) >>= fun _ => letGo (#[] : Array Value).toList.reverse >>= fun _ => Builtin.List.listExtendWith (.ref s.heap.objs.size) (.ref I) .none) _ _ _
  apply wpAny_bind
  apply wpAny_updateSeq e0 rfl
  have e1 := Heap.get?_update_self (Obj.mapSeq (fun _ => (#[] : Array Value))) e0 rfl
  have old : ∀ b o, b ≠ s.heap.objs.size → s.heap.get? b = some o → ((s.heap.push { cls := .type "list", data := .seq #[] }).update s.heap.objs.size (Obj.mapSeq (fun _ => (#[] : Array Value)))).get? b = some o := fun b o hb e =>
    (Heap.get?_update_other _ _ (Ne.symm hb)).trans (Heap.get?_push_of_some _ e)
  apply wpAny_bind
  apply wpAny_letGo
  refine rev_extend (A := A.in1) (by simpa using hh) hlI (Nat.ne_of_gt lI) (Nat.ne_of_gt ll) .none _ ?_ ?_ e1 hn fun s' acc c' mv eS it => ?_
  · obtain ⟨o, e, z⟩ := hit
    exact ⟨o, old _ _ (Nat.ne_of_lt lI) e, z⟩
  · obtain ⟨o, e, z⟩ := hl
    exact ⟨o, old _ _ (Nat.ne_of_lt ll) e, z⟩
  · obtain ⟨h', g', d', tk', os'⟩ := s'
    have eg : g' = s.gens := mv.gens
    have ed : d' = s.drawn := mv.drawn
    have eo : os' = s.os := mv.os
    subst eg ed eo
    refine ⟨rfl, fin h' tk' acc c' (fun b o hb e => ?_) eS it⟩
    refine mv.heap b o ?_ (old b o (Nat.ne_of_lt (Heap.lt_size e)) e)
    simp only [List.mem_cons, List.not_mem_nil, or_false, not_or]
    exact ⟨Nat.ne_of_lt (Heap.lt_size e), hb⟩
end
theorem vals_rev : ∀ {xs : List V} {us : List Value}, Vals xs us → Vals xs.reverse us.reverse
  | _, _, .nil => .nil
  | _, _, .cons r t => by
    rw [List.reverse_cons, List.reverse_cons]
    exact (vals_rev t).append (.cons r .nil)
theorem items_rev {us : List Value} {acc : Array Value} (h : ItemsOf (RevP us.toArray) acc us.toArray.size) : acc.toList = us.reverse := by
  obtain ⟨h1, h2⟩ := h
  refine List.ext_getElem? fun i => ?_
  by_cases hi : i < acc.size
  · have e := h2 i acc[i] (Array.getElem?_eq_getElem hi)
    rw [Array.getElem?_toList, Array.getElem?_eq_getElem hi, List.getElem?_reverse (by simpa [h1] using hi)]
    simpa using e.symm
  · rw [List.getElem?_eq_none (by simpa using hi), List.getElem?_eq_none (by rw [List.length_reverse]; simp [h1] at hi; omega)]
def tRev (K : PySem.W.Frag) (te : TE) : TE := fun σ H Q => te σ H fun x H1 => ∃ a xs, x = .ref a ∧ SqL K H1 a xs ∧ ∀ l, H1 l = none → Q (.ref l) (upd H1 l (.lst xs.reverse))
section
variable {X : Cx} {e : Expr} {te : TE} {p1 p2 pos pos2 : Pos}
theorem pe_listRev (hc : X.calm = true) (g1 : Gl X "list") (m1 : X.mg "list" = none) (g2 : Gl X "reversed") (m2 : X.mg "reversed" = none) (b1 : bootBuiltins "list" = some (.type "list")) (b2 : bootBuiltins "reversed" = some (.type "reversed")) (he : PE X e te)
    (hs : starEach [e] X.env = [(false, eval e X.env)] := by rfl) :
    PE X (.Call (.Name "list" p1) [.Call (.Name "reversed" p2) [e] [] pos2] [] pos) (tRev X.K te) := by
  intro pins s σ H Q I h
  apply wpAny_Call_Name_kw
  refine ld_blt I g1 m1 b1 ?_ (by decide) (by decide)
  refine PyProof.Rows.callWith_type1 ?_ rfl rfl
  refine Calls.spliced_cons (x := eval (.Call (.Name "reversed" p2) [e] [] pos2) X.env) (rest := []) ?_
  apply wpAny_Call_Name_kw
  refine ld_blt I g2 m2 b2 ?_ (by decide) (by decide)
  refine PyProof.Rows.callWith_type1 ?_ hs rfl
  rw [hs]
  refine Calls.spliced_cons (x := eval e X.env) (rest := []) (thn (he pins s σ H _ I h) fun v s1 ⟨x, H1, I1, r1, a, xs, ex, hq, q⟩ => ?_)
  subst ex
  cases r1
  apply Calls.spliced_nil
  obtain ⟨its, rv, pl, hz⟩ := I1.list hq
  have hli : s1.heap.IsList a its.toArray := pl.isList
  have alt : a < s1.heap.objs.size := by
    obtain ⟨o, eo, _⟩ := id hli
    exact Heap.lt_size eo
  apply call_reversed_list hli
  apply Calls.spliced_nil
  have I2 : Inv X pins σ H1 { s1 with heap := s1.heap.push (revObj a ((its.toArray.size : Int) - 1)), toks := s1.toks } := I1.kept fun b o e => Heap.get?_push_of_some _ e
  have sz : its.toArray.size = xs.length := by rw [List.size_toArray, rv.length]
  refine list_rev (l := a) (items := its.toArray) (I.ok.hd hc) (Nat.ne_of_lt alt) ⟨_, Heap.get?_push_size _ rfl, rfl, rfl⟩ (hli.push _) (by rw [sz]; exact hz) fun h' tk acc c' kp eL itm => ?_
  have er := items_rev itm
  have sl : s1.heap.objs.size ≤ (s1.heap.push (revObj a ((its.toArray.size : Int) - 1))).objs.size := by
    rw [Heap.size_push]
    exact Nat.le_succ _
  refine ⟨.ref _, _, I1.laid (a := (s1.heap.push (revObj a ((its.toArray.size : Int) - 1))).objs.size) (o := .lst xs.reverse) (h' := h') (t' := tk) (fun b o eo => kp b o (Nat.ne_of_lt (Heap.lt_size eo)) (Heap.get?_push_of_some _ eo)) sl ?_, rfl, q _ (I1.hok.fresh sl)⟩
  refine ⟨by rw [List.length_reverse]; exact hz, acc.toList, c', by rw [er]; exact vals_rev rv, ?_⟩
  rw [Array.toArray_toList]
  exact eL
end
end L2
set_option Elab.async false
set_option linter.all false
set_option maxRecDepth 100000
namespace L2
open PySem PySem.Spec PyProof.Rows XH
/-! ### set(xs) of texts and numbers that are all unlike -/
def upTo (ks : Nat → Key) (i : Nat) : Key → Bool := fun k => (List.range i).any fun j => decide (ks j = k)
theorem upTo_succ (ks : Nat → Key) (i : Nat) : (fun k => upTo ks i k || decide (k = ks i)) = upTo ks (i + 1) := by
  funext k
  unfold upTo
  rw [List.range_succ, List.any_append]
  simp [eq_comm]
section
variable {prog : Program} {w : World} {A : Around} {R : Result → Shared → Prop} {I : Addr} {fp wr : List Addr} {G : Array GenState → Array GenState → Prop} {n : Nat} {P : Nat → Value → Prop} {St : Nat → Shared → Prop}
theorem set_loop (W : WalksS prog w A.in1 I fp wr G n P St) (S : Addr) (out : S ∉ fp) (ks : Nat → Key) (hv : ∀ i v, P i v → (mixKind prog w).is (ks i) v = true ∧ v.scannable = true)
    (inj : ∀ i, i < n → upTo ks i (ks i) = false) (hb : n + 1 < scanBound) : ∀ (m i : Nat) (s : Shared), n - i = m → i ≤ n → St i s → s.heap.SetOf (mixKind prog w) S (upTo ks i) i →
      (∀ s', Moved (S :: wr) G s s' → s'.heap.SetOf (mixKind prog w) S (upTo ks n) n → R (.ok (.ret .none)) s') → codeAny (model prog w) A (.builtin "set.update.loop" ⟨[.ref S, .ref I], []⟩) R s := by
  have nw : S ∉ wr := fun h => out (W.sub _ h)
  have up : ∀ b ∈ wr, b ∈ S :: wr := fun b hb => .tail _ hb
  have stay : ∀ {s1 s2 : Shared} {f : Key → Bool} {c : Nat}, s1.heap.SetOf (mixKind prog w) S f c → Moved wr G s1 s2 → s2.heap.SetOf (mixKind prog w) S f c := by
    rintro s1 s2 f c ⟨o, es, ep, t, ho, z⟩ mv
    exact ⟨o, es, ep, t, mv.heap S _ nw ho, z⟩
  intro m
  induction m with
  | zero =>
    intro i s hm hi st hS fin
    have e : i = n := by omega
    subst e
    apply codeAny_builtin F.entry_set_update_loop
    rw [Around.under_plainId F.plain_set_update_loop _]
    show wpAny _ _ (pyNext (.ref I) >>= _) _ _ s
    apply wpAny_bind
    refine W.done s _ _ st fun s' mv => ?_
    exact wpAny_pure (fin s' (mv.mono up) (stay hS mv))
  | succ m ih =>
    intro i s hm hi st hS fin
    have lt : i < n := by omega
    apply codeAny_builtin F.entry_set_update_loop
    rw [Around.under_plainId F.plain_set_update_loop _]
    show wpAny _ _ (pyNext (.ref I) >>= _) _ _ s
    apply wpAny_bind
    refine W.item i s _ _ lt st fun v s' pv st' mv => ?_
    obtain ⟨kv, sc⟩ := hv i v pv
    show wpAny _ _ (holding [v] (setAdd S v) >>= _) _ _ s'
    apply wpAny_bind
    apply wpAny_holding
    unfold setAdd
    apply wpAny_holding
    apply wpAny_bind
    refine (mixKind prog w).pyHash (k := ks i) kv ?_
    refine wpAny_setAddHashed_of (knd := mixKind prog w) (s := { s' with toks := s'.toks + 1 }) kv sc (show Heap.SetOf (mixKind prog w) s'.heap S (upTo ks i) i from stay hS mv) (by omega) fun h' same S2 => ?_
    have S3 : h'.SetOf (mixKind prog w) S (upTo ks (i + 1)) (i + 1) := by
      rw [upTo_succ, inj i lt] at S2
      exact S2
    apply wpAny_pure
    refine ⟨plainId_quiet F.plain_set_update_loop _, ih (i + 1) _ (by omega) lt (W.frame _ s' _ _ st' (Nat.le_succ _) fun b hb o e => ?_) S3 fun s'' mv2 S4 => ?_⟩
    · exact (same.2 b fun z => out (z ▸ hb)).trans e
    · exact fin s'' (Moved.trans W.gtrans ((mv.mono up).then_heap (Nat.le_succ _) fun b o hb e => (same.2 b fun z => hb (z ▸ List.mem_cons_self)).trans e) mv2) S4
end
section
variable {prog : Program} {w : World} {A : Around} {E : Value → Shared → Prop} {s : Shared}
set_option maxHeartbeats 3200000 in
theorem set_list_ {l : Addr} {items : Array Value} {ks : Nat → Key} {Q : Value → Shared → Prop} (hh : A.handled = none) (hl : s.heap.IsList l items) (hv : ∀ i v, items[i]? = some v → (mixKind prog w).is (ks i) v = true ∧ v.scannable = true)
    (inj : ∀ i, i < items.size → upTo ks i (ks i) = false) (hb : items.size + 1 < scanBound)
    (fin : ∀ (h' : Heap) (tk : Nat), h'.SetOf (mixKind prog w) s.heap.objs.size (upTo ks items.size) items.size → (∀ b o, b < s.heap.objs.size → s.heap.get? b = some o → h'.get? b = some o) → Q (.ref s.heap.objs.size) { s with heap := h', toks := tk }) :
    wpAny (model prog w) A (call (.type "set") [.ref l]) Q E s := by
  obtain ⟨c0, tl0, mro⟩ := F.called_set.mro
  have made := F.called_set.made
  have subt := F.called_set.sub
  apply wpAny_call
  apply codeAny_of_tree
  show wpAny _ _ (callAny (.type "set") _) _ _ _
  apply wpAny_pure
  refine ⟨Code.quiet_builtin _ (by decide +kernel), codeAny_builtin F.entry_type_call ?_⟩
  rw [Around.under_plain (weight_type_call_type "set" [.ref l] []) rfl]
  have nt := F.called_set.notType
  have cc := F.called_set.canCreate
  have tc := F.typeCall_set_1 (.ref l)
  repeat any_goals first | assumption | wp_step
  refine codeAny_mono (code_set_new_1 (.ref l) (E := E) (Q₁ := fun v s1 => ∃ led : Bool, v = .ref s.heap.objs.size ∧ s1 = { s with heap := s.heap.push { cls := .type "set", dict := none, data := .set #[] 0 (.fresh 0 0 led) } }) fun led => ⟨led, rfl, rfl⟩) fun r s1 hr => ?_
  cases r with
  | error e => exact hr
  | ok fl =>
    cases fl with
    | ret v =>
      obtain ⟨led, rfl, rfl⟩ := hr
      have e0 : (s.heap.push { cls := .type "set", dict := none, data := .set #[] 0 (.fresh 0 0 led) }).get? s.heap.objs.size = some { cls := .type "set", dict := none, data := .set #[] 0 (.fresh 0 0 led) } := Heap.get?_push_size _ rfl
      have tS : Shared.TypeIs { s with heap := s.heap.push { cls := .type "set", dict := none, data := .set #[] 0 (.fresh 0 0 led) } } (.ref s.heap.objs.size) "set" := ⟨_, e0, rfl⟩
      have lk := F.called_set.init.lookup
      have bd := F.called_set.init.bind (.ref s.heap.objs.size)
      repeat any_goals first | assumption | wp_step
      refine codeAny_mono (codeAny_call_builtin (R := wants (fun r s2 => r = .none ∧ ∃ h' tk, s2 = { s with heap := h', toks := tk } ∧ h'.SetOf (mixKind prog w) s.heap.objs.size (upTo ks items.size) items.size ∧ ∀ b o, b < s.heap.objs.size → s.heap.get? b = some o → h'.get? b = some o) E) F.called_set.init.plain F.entry_set_init (check_set_init_1 tS ?_)) fun r2 s2 hr2 => ?_
      · obtain ⟨⟨lc, ld, lx, ls⟩, hol, hcl, nl, hdl⟩ := hl
        simp only at hcl hdl
        subst hcl hdl
        have el : (s.heap.push { cls := .type "set", dict := none, data := .set #[] 0 (.fresh 0 0 led) }).get? l = some { cls := .type "list", dict := ld, data := .seq items nl, slots := ls } := Heap.get?_push_of_some _ hol
        have n1 := F.sub_list_set
        have n2 := F.sub_list_frozenset
        have n3 : (Value.type "list" == Value.type "dict") = false := by decide
        have il : (s.heap.push { cls := .type "set", dict := none, data := .set #[] 0 (.fresh 0 0 led) }).IsList l items := ⟨_, el, rfl, nl, rfl⟩
        unfold Builtin.«set.__init__» noKeywords Builtin.Frozenset.updateFrom
        generalize hit : pyIter = PI
        wp_walk
        subst hit
        apply wpAny_pyIter_list il
        apply wpAny_bind
        apply wpAny_runValue
        have ll : l < s.heap.objs.size := Heap.lt_size hol
        have h3 : A.in1.in1.in1.handled = none := by simpa using hh
        have nI : l ≠ (s.heap.push { cls := .type "set", dict := none, data := .set #[] 0 (.fresh 0 0 led) }).objs.size := by
          rw [Heap.size_push]
          exact Nat.ne_of_lt (Nat.lt_succ_of_lt ll)
        have out : s.heap.objs.size ∉ [(s.heap.push { cls := .type "set", dict := none, data := .set #[] 0 (.fresh 0 0 led) }).objs.size, l] := by
          rw [Heap.size_push]
          simp only [List.mem_cons, not_or]
          exact ⟨Nat.ne_of_lt (Nat.lt_succ_self _), Nat.ne_of_gt ll, List.not_mem_nil⟩
        refine set_loop ((Walks.list h3 _ l nI items).toS) s.heap.objs.size out ks hv inj hb items.size 0 _ rfl (Nat.zero_le _) ⟨⟨_, Heap.get?_push_size _ rfl, rfl, rfl⟩, il.push _⟩ ?_ ?_
        · have e1 : ((s.heap.push { cls := .type "set", dict := none, data := .set #[] 0 (.fresh 0 0 led) }).push { cls := .type "list_iterator", data := .fields #[.ref l, .int 0 0] }).get? s.heap.objs.size = some { cls := .type "set", dict := none, data := .set #[] 0 (.fresh 0 0 led) } :=
            Heap.get?_push_of_some _ e0
          refine ⟨_, #[], 0, _, e1, ⟨rfl, rfl, rfl⟩, rfl, (fun e he => by simp at he), (fun k => by simp [upTo]), by decide, rfl, rfl⟩
        · intro s' mv S2
          obtain ⟨h', g', d', tk', os'⟩ := s'
          have eg : g' = s.gens := mv.gens
          have ed : d' = s.drawn := mv.drawn
          have eo : os' = s.os := mv.os
          subst eg ed eo
          show wpAny _ _ _ _ _ _
          apply wpAny_pure
          show wpAny _ _ (ret Value.none) _ _ _
          apply wpAny_pure
          refine ⟨rfl, h', tk', rfl, S2, fun b o hb' e => ?_⟩
          refine mv.heap b o ?_ (Heap.get?_push_of_some _ (Heap.get?_push_of_some _ e))
          rw [Heap.size_push]
          simp only [List.mem_cons, not_or]
          exact ⟨Nat.ne_of_lt hb', Nat.ne_of_lt (Nat.lt_succ_of_lt hb'), List.not_mem_nil⟩
      · cases r2 with
        | error e => exact hr2
        | ok fl2 =>
          cases fl2 with
          | ret r =>
            obtain ⟨rfl, h', tk, rfl, S2, kp⟩ := hr2
            repeat any_goals first | assumption | wp_step
            exact fin _ _ S2 kp
          | _ => exact hr2.elim
    | _ => exact hr.elim
end
end L2
namespace L2
open PySem PySem.Spec PyProof.Rows XH
/-! ### len(set(xs)) -/
def tLenSet (K : PySem.W.Frag) (te : TE) : TE := fun σ H Q => te σ H fun x H1 => ∃ (a : Addr) (ks : List Key), x = .ref a ∧ SqL K H1 a (ks.map kV) ∧ ks.Nodup ∧ ks.length < 4000 ∧ Q (.int ks.length) H1
theorem upTo_nodup {ks : List Key} (nd : ks.Nodup) (i : Nat) (hi : i < ks.length) : upTo (fun j => ks.getD j (.inl 0)) i (ks.getD i (.inl 0)) = false := by
  unfold upTo
  rw [List.any_eq_false]
  intro j hj
  have lj : j < i := List.mem_range.mp hj
  simp only [List.getD_eq_getElem?_getD, List.getElem?_eq_getElem hi, List.getElem?_eq_getElem (Nat.lt_trans lj hi), Option.getD_some, decide_eq_true_eq]
  intro e
  have := (List.getElem_inj nd).mp e
  omega
theorem vals_key : ∀ {ks : List Key} {us : List Value}, Vals (ks.map kV) us → ∀ (P : Program) (w : World) (i : Nat) (v : Value), us[i]? = some v → (mixKind P w).is (ks.getD i (.inl 0)) v = true ∧ v.scannable = true
  | [], _, .nil, P, w, i, v, h => by simp at h
  | k :: ks, _, .cons r t, P, w, 0, v, h => by
    simp at h
    subst h
    refine ⟨kV_is r, ?_⟩
    cases k with
    | inl z => obtain ⟨_, rfl⟩ := r; rfl
    | inr z => obtain ⟨_, rfl⟩ := r; rfl
  | k :: ks, _, .cons r t, P, w, i + 1, v, h => vals_key t P w i v (by simpa using h)
section
variable {X : Cx} {e : Expr} {te : TE} {p1 p2 pos pos2 : Pos}
theorem pe_lenSet (hc : X.calm = true) (g1 : Gl X "len") (m1 : X.mg "len" = none) (g2 : Gl X "set") (m2 : X.mg "set" = none) (b1 : bootBuiltins "len" = some (.builtin "len")) (b2 : bootBuiltins "set" = some (.type "set")) (he : PE X e te)
    (hs : starEach [e] X.env = [(false, eval e X.env)] := by rfl) :
    PE X (.Call (.Name "len" p1) [.Call (.Name "set" p2) [e] [] pos2] [] pos) (tLenSet X.K te) := by
  intro pins s σ H Q I h
  apply wpAny_Call_Name_kw
  refine ld_blt I g1 m1 b1 ?_ (by decide) (by decide)
  refine Calls.callWith_builtin rfl (Calls.evalArgs_plain ?_)
  refine Calls.spliced_cons (x := eval (.Call (.Name "set" p2) [e] [] pos2) X.env) (rest := []) ?_
  apply wpAny_Call_Name_kw
  refine ld_blt I g2 m2 b2 ?_ (by decide) (by decide)
  refine PyProof.Rows.callWith_type1 ?_ hs rfl
  rw [hs]
  refine Calls.spliced_cons (x := eval e X.env) (rest := []) (thn (he pins s σ H _ I h) fun v s1 ⟨x, H1, I1, r1, a, ks, ex, hq, nd, few, q⟩ => ?_)
  subst ex
  cases r1
  apply Calls.spliced_nil
  obtain ⟨its, rv, pl, hz⟩ := I1.list hq
  have sz : its.toArray.size = ks.length := by rw [List.size_toArray, ← rv.length, List.length_map]
  have hli : s1.heap.IsList a its.toArray := pl.isList
  refine set_list_ (ks := fun j => ks.getD j (.inl 0)) (I.ok.hd hc) hli (fun i v hv => vals_key rv X.prog X.w i v (by simpa using hv)) (fun i hi => upTo_nodup nd i (by rw [← sz]; exact hi)) (by rw [sz]; show ks.length + 1 < 4096; omega) fun h' tk S2 kp => ?_
  apply Calls.spliced_nil
  obtain ⟨o, es, ep, t, ho, hx, hd, _, _, hb, hf, hn⟩ := S2
  refine call_len_set ho hx hd hf (by rw [hn, sz]; have : ks.length < 4000 := few; omega) ?_
  refine ⟨.int ks.length, H1, I1.kept (fun b o e => kp b o (Heap.lt_size e) e), ⟨_, by rw [hn, sz]⟩, q⟩
end
end L2
set_option Elab.async false
set_option linter.all false
set_option maxRecDepth 100000
namespace L2
open PySem PySem.Spec PyProof.Rows XH
end L2
namespace Sw
open PySem L2
/-! ### what parts lead to -/
/-! ### dicts with one value for all keys -/
/-! ### how many of a list are not yet there -/
/-! ### a list of pairs -/
end Sw
namespace Sw
open PySem L2
def lettT : Str := "abcdefghijklmnopqrstuvwxyz"
end Sw
set_option Elab.async false
set_option linter.all false
set_option maxRecDepth 100000
namespace Sw
open PySem L2
/-! ### parts as a dict of dicts -/
/-! ### as it lies in the heap -/
end Sw
set_option Elab.async false
set_option linter.all false
set_option maxRecDepth 100000
namespace Sw
open PySem L2
/-! ### all that is in a good, each with the one ahead of it -/
end Sw
set_option Elab.async false
set_option linter.all false
set_option maxRecDepth 100000
namespace Sw
open PySem L2
/-! ### a way down, kept from its end -/
end Sw
set_option Elab.async false
set_option linter.all false
set_option maxRecDepth 100000
namespace L2
open PySem PySem.Spec PyProof.Rows XH
section
variable {X : Cx} {scope : Scope} {cl : List (Str × Addr)} {own : Str} {ys : List Str} {js : List Nat} {elt iter cond : Expr} {px pos : Pos} {wi : TI} {te : TE} {tc : TT}
end
end L2
set_option Elab.async false
set_option linter.all false
set_option maxRecDepth 100000
namespace L2
open PySem PySem.Spec PyProof.Rows XH
/-! ### x == [] -/
/-! ### comprehensions with a test that changes nothing -/
end L2
namespace Sw
open PySem L2 PyProof.Rows
/-! ### dicts of dicts that are alike -/
/-! ### a way down to one of the goals -/
end Sw
set_option Elab.async false
set_option linter.all false
set_option maxRecDepth 100000
namespace Sw
open PySem L2 PyProof.Rows
end Sw
set_option Elab.async false
set_option linter.all false
set_option maxRecDepth 100000
namespace L2
open PySem PySem.Spec PyProof.Rows XH Sw So
end L2
set_option Elab.async false
set_option linter.all false
set_option maxRecDepth 100000
namespace So
open PySem PySem.Spec PyProof.Rows
end So
set_option Elab.async false
set_option linter.all false
set_option maxRecDepth 100000
namespace So
open PySem PyProof.Rows
section
variable {prog : Program} {w : World} {A : Around} {E : Value → Shared → Prop} {s : Shared} {κ : KeyKind} {kd : SortKind}
end
end So
set_option Elab.async false
set_option linter.all false
set_option maxRecDepth 100000
namespace L2
open PySem PySem.Spec PyProof.Rows XH Sw So
section
variable {prog : Program} {w : World} {A : Around} {E : Value → Shared → Prop} {s : Shared}
end
end L2
set_option Elab.async false
set_option linter.all false
set_option maxRecDepth 100000
namespace L2
open PySem PySem.Spec PyProof.Rows XH Sw So
end L2
set_option Elab.async false
set_option linter.all false
namespace Hm
/-! ### things of a heap, by their numbers; the order of them -/
abbrev Ky := List Int
/-! ### the heap -/
end Hm
set_option Elab.async false
set_option linter.all false
set_option maxRecDepth 100000
namespace Hm
open PySem PySem.SeqAt PySem.MeetsSeq
/-! ### less than, of tuples of whole numbers -/
section
variable {prog : Program} {w : World} {A : Around} {E : Value → Shared → Prop} {s : Shared}
end
end Hm
set_option Elab.async false
set_option linter.all false
set_option maxRecDepth 100000
namespace L2
open PySem PySem.Spec PyProof.Rows XH Sw So Hm
/-! ### things: whole numbers, or tuples of such -/
section
variable {prog : Program} {w : World} {A : Around} {E : Value → Shared → Prop} {s : Shared}
end
end L2
set_option Elab.async false
set_option linter.all false
set_option maxRecDepth 100000
namespace Sw
open PySem L2 XH
/-! ### own classes: their defs as callers see them -/
structure DxM (P : Program) (w : World) (K : PySem.W.Frag) (mg : Str → Option Value) (base : Heap) (CX : CXT) (k : Nat) (f : Addr) (ps : List Str) (dvs : List V) (sp : Sp) where
  fd : FuncData
  ok : FnOk P w K mg base CX k f fd ps sp
  b : Binds K fd ps []
  bd : ∃ ds, Binds K fd ps ds ∧ Vals dvs ds
section
variable {X : Cx} {k j : Nat} {f C : Addr} {ps : List Str} {sp : Sp} {dvs : List V} {x m : Str} {p pos apos : Pos} {e o : Expr} {es : List Expr} {ta tb : TE} {t : TA}
theorem pmake0 (M : Mk X.K C f) (D : DxM X.prog X.w X.K X.mg X.base CX0 k f ps dvs sp) (hr : Room j X.A) (hk : k + 1 ≤ j) (hg : Gl X x) (hm : X.mg x = some (.ref C)) (ha : PA X (e :: es) t) (hdb : (x == ("__debug__" : Str)) = false := by decide)
    (he : starEach (e :: es) X.env = (false, eval e X.env) :: starEach es X.env := by rfl) (hpl : (backTo pos (starEach es X.env)).any (·.1) = false := by rfl) : PE X (.Call (.Name x p) (e :: es) [] pos) (tMake C sp [] E0 t) :=
  pe_make M D.ok (hr.mono hk) hg hm D.b .nil pass0 ha hdb he hpl
theorem pmake0d (M : Mk X.K C f) (D : DxM X.prog X.w X.K X.mg X.base CX0 k f ps dvs sp) (hr : Room j X.A) (hk : k + 1 ≤ j) (hg : Gl X x) (hm : X.mg x = some (.ref C)) (ha : PA X (e :: es) t) (hdb : (x == ("__debug__" : Str)) = false := by decide)
    (he : starEach (e :: es) X.env = (false, eval e X.env) :: starEach es X.env := by rfl) (hpl : (backTo pos (starEach es X.env)).any (·.1) = false := by rfl) : PE X (.Call (.Name x p) (e :: es) [] pos) (tMake C sp dvs E0 t) := by
  obtain ⟨ds, hb, hv⟩ := D.bd
  exact pe_make M D.ok (hr.mono hk) hg hm hb hv pass0 ha hdb he hpl
end
end Sw
set_option Elab.async false
set_option linter.all false
set_option maxRecDepth 100000
namespace Sw
open PySem L2 XH
/-! ### defs of own classes that may refuse -/
section
variable {X : Cx} {k j : Nat} {f C : Addr} {ps : List Str} {sp : Sp} {dvs : List V} {x m : Str} {p pos apos : Pos} {e o : Expr} {es : List Expr} {ta tb : TE} {t : TA} {E : L2.St → XK}
end
end Sw
set_option Elab.async false
set_option linter.all false
set_option maxRecDepth 100000
namespace L2
open PySem PySem.Spec PyProof.Rows XH
section
variable {X : Cx} {scope : Scope} {cl : List (Str × Addr)} {own : Str} {ys : List Str} {js : List Nat} {elt iter : Expr} {px pos : Pos} {wi : TI} {te : TE}
theorem ps_compA {i : Nat} {y : Str} {py spos : Pos} (hN : X.N.Nodup) (hi' : X.N[i]? = some y) (hy : X.env.scope.names.lookup y = some .local) (hc : X.calm = true) (ok : CompOk X scope cl own ys js) (hi : PI X (.Name own px) iter wi)
    (he : ∀ (C : Addr) (fp : List Addr) (s : Shared) (H : Hp), PE (X.block scope cl C (own :: ys) own fp s H) elt te)
    (hsw : swapsWith (.ListComp elt [⟨.Name own px, iter, [], 0⟩] scope pos) (some (.Name y py)) spos.line X.env = pure true := by rfl) (hs : ∀ x, foldedSetIterable iter X.env x = pure x := by intro _; rfl) :
    PS X (.Assign [.Name y py] (.ListComp elt [⟨.Name own px, iter, [], 0⟩] scope pos) spos) (tAsg (tComp wi js te) (gName i)) := by
  intro pins s σ H D I h
  have ncell : ∀ y ∈ scope.names, y.2 ≠ .cell := fun y hy z => by
    have q := List.all_eq_true.mp ok.nocell y hy
    rw [z] at q
    simp at q
  have nloc : ∀ y ∈ scope.names, y.2 = .local → scope.names.lookup y.1 = some .local := fun y hy z => by
    have q := List.all_eq_true.mp ok.loc y hy
    rw [z] at q
    simpa using q
  show wpAny _ _ (exec _ X.env) _ _ _
  rw [exec_Assign_Name_used _ _ _ _ hsw]
  refine wpAny_bind (wpAny_standAt (wpAny_bind ?_))
  show wpAny _ X.A (do let _ ← comprehension (.ListComp elt [⟨.Name own px, iter, [], 0⟩] scope pos) scope X.env _ (newList []) false (eval iter X.env) (some (assign (.Name y py) X.env))) _ _ s
  refine wpAny_bind (wpAny_mono (wpAny_comprehension_free (use := some (assign (.Name y py) X.env)) (Q := fun _ s' => SP X pins D .next s') rfl hs ok.clos ok.kind nloc (thn (hi pins s σ H _ I h) fun v s1 h1 => thn h1 fun itv s2 h2 => ?_)) (fun _ s' hq => wpAny_pure (wpAny_pure hq)) fun _ _ e => e)
  obtain ⟨it, fp, tn, J, H2, rfl, I2, T, st2, f2, q2⟩ := h2
  obtain ⟨W, ⟨m0, w0⟩, turn⟩ := q2 s2.heap.objs.size (I2.hok.fresh (Nat.le_refl _))
  refine wpAny_newObj_type (wpAny_newFunctionEnv ncell (by intro y hy; simp at hy) (fun h1 hns hsb => ?_) ok.kind)
  have I3 := I2.laid (a := s2.heap.objs.size) (o := .lst []) (h' := s2.heap.push { cls := .type "list", dict := none, data := .seq ([] : List Value).toArray }) (t' := s2.toks) (fun b u q => Heap.get?_push_of_some _ q) (Nat.le_refl _)
    ⟨Nat.zero_le _, [], 0, .nil, Heap.get?_push_size _ rfl⟩
  have fpo : ∀ b ∈ fp, b < s2.heap.objs.size := fun b hb => by
    obtain ⟨o, e, _⟩ := T.obj 0 _ st2 b hb
    exact Heap.lt_size e
  have f3 : ∀ b ∈ fp, FpOk X pins (upd H2 s2.heap.objs.size (.lst [])) b := fun b hb => ⟨by rw [upd_ne (Nat.ne_of_lt (fpo b hb))]; exact (f2 b hb).1, (f2 b hb).2⟩
  generalize hs3 : ({ s2 with heap := s2.heap.push { cls := .type "list", dict := none, data := .seq ([] : List Value).toArray }, toks := s2.toks } : Shared) = s3 at I3
  have e3 : s3.heap = s2.heap.push { cls := .type "list", dict := none, data := .seq ([] : List Value).toArray } := by rw [← hs3]
  have lt3 : ∀ b ∈ fp, b < s3.heap.objs.size := fun b hb => by rw [e3, Heap.size_push]; exact Nat.lt_succ_of_lt (fpo b hb)
  dsimp only at hns hsb ⊢
  rw [← e3] at hns hsb
  have hk : ∀ b o, s3.heap.get? b = some o → h1.get? b = some o := fun b o e => hsb.extBut b o (Nat.ne_of_lt (Heap.lt_size e)) (Heap.get?_push_of_some _ e)
  have J0 := block_start (h1 := h1) ok I3 f3 lt3 hns hk (s2.toks + 0)
  have t0 : tn 0 h1 := T.keep 0 _ _ st2 fun b hb o e => hk b o (by rw [e3]; exact Heap.get?_push_of_some _ e)
  have fpB : ∀ {H' : Hp}, (∀ b ∈ fp, H' b = none) → ∀ b ∈ fp, FpOk (X.block scope cl s3.heap.objs.size (own :: ys) own fp s3 (upd H2 s2.heap.objs.size (.lst []))) [] H' b := fun {H'} hn b hb =>
    ⟨hn b hb, Nat.ne_of_lt (lt3 b hb), fun z => (List.mem_cons.mp (I3.stkSub b z)).elim (f3 b hb).2.1 (f3 b hb).2.2.1, .inl hb, fun x c e => (f3 b hb).2.2.2.2.1 x c (ok.sub (x, c) (PySem.mem_of_lookup e)), fun p hp => absurd (show p ∈ ([] : List (Addr × Obj)) from hp) (by simp)⟩
  have loop : codeAny (model X.prog X.w) X.A (.compLoop (.ListComp elt [⟨.Name own px, iter, [], 0⟩] scope pos) 0 (.ref it) (.ref s2.heap.objs.size) (compEnvC scope cl s3.heap.objs.size X.env))
      (compPost (model X.prog X.w) X.A X.xe (some (assign (.Name y py) X.env)) (fun _ s' => SP X pins D .next s') (.ref s2.heap.objs.size) s3.heap.objs.size) { s3 with heap := h1, toks := s2.toks + 0 } := by
    refine compLoop_own (fun n s' => ∃ i zs o0 H', Inv (X.block scope cl s3.heap.objs.size (own :: ys) own fp s3 (upd H2 s2.heap.objs.size (.lst []))) [] (o0 :: freesOf js σ) H' s' ∧ tn i s'.heap ∧ (∀ b ∈ fp, H' b = none) ∧ W i n zs H') ?_ m0
      ⟨0, [], none, _, J0, t0, fun b hb => (f3 b hb).1, w0⟩
    rintro n s5 ⟨i, zs, o0, H5, I5, t5, n5, w5⟩
    obtain ⟨hD, hw⟩ := turn i n zs H5 w5
    rcases hw with ⟨stop, qn⟩ | ⟨go, hz, step⟩
    · refine thn (T.done (X.block scope cl s3.heap.objs.size (own :: ys) own fp s3 (upd H2 s2.heap.objs.size (.lst []))) rfl rfl rfl hc i [] s5 _ H5 (fun _ _ => False) I5 (fpB n5) t5 stop) fun r s6 ⟨hr, I6⟩ => ?_
      subst hr
      obtain ⟨m, hn, _⟩ := id I6.loc
      have J : Inv X pins σ H5 s6 := block_end (h' := s6.heap) I3 f3 I6 (Heap.SameBut.refl _ _)
      have fC := I3.fpOk (Nat.le_refl _) (show H5 s3.heap.objs.size = none from I6.free)
      obtain ⟨k0, k1, k2, k3, k4, k5⟩ := fC
      show wpAny _ X.A (assign (.Name y py) X.env (.ref s2.heap.objs.size)) _ _ _
      refine wpAny_assign_Name (store_ok2 (v := .ref s2.heap.objs.size) J hN hi' (.inl hy) rfl (fun s7 I7 hsb => ?_) (.inr hy))
      obtain ⟨a', sb, ha⟩ := hsb
      have ne : s3.heap.objs.size ≠ a' := by
        rcases ha with z | z
        · rw [z]; exact k1
        · exact fun w => k4 _ _ z w.symm
      exact ⟨m, hn.sameBut sb ne, fun h' hs' => ⟨_, H5, I7.turned (t' := s7.toks) (fun b o hb e => (hs'.2 b hb).trans e) k0 k1 k3 k4 k5, qn⟩⟩
    · refine thn (T.item (X.block scope cl s3.heap.objs.size (own :: ys) own fp s3 (upd H2 s2.heap.objs.size (.lst []))) rfl rfl rfl hc i [] s5 _ H5 (fun _ _ => False) I5 (fpB n5) t5 go) fun r s6 ⟨u, hr, h6⟩ => ?_
      subst hr
      refine thn h6 fun _ s7 ⟨x, H7, I7, r7, y7, t7, n7⟩ => ?_
      have I7' := I7.pinned (fpB n7) (T.obj _ _ t7)
      have hst := step x H7 y7
      have own' : (relabel scope X.env).names.lookup own = some .local := lookup_relabel_local ok.ownL
      refine thn (pg_name (X := X.block scope cl s3.heap.objs.size (own :: ys) own fp s3 (upd H2 s2.heap.objs.size (.lst []))) (i := 0) (x := own) (pos := px) ok.nd rfl (.inl own') (.inr own') _ s7 _ H7 x u (fun σ' H' => σ' = some x :: freesOf js σ ∧ H' = H7) I7' r7 ⟨rfl, rfl⟩) fun _ s8 ⟨σ8, H8, I8, e8, eH8⟩ => ?_
      subst e8 eH8
      refine thn (he _ _ _ _ _ s8 _ H8 _ I8 hst) fun yv s9 ⟨y, H9, I9, r9, hD9, m', hm, w9⟩ => ?_
      refine thn (mt_append _ s9 _ H9 (.ref s2.heap.objs.size) [y] (.ref s2.heap.objs.size) [yv] (fun _ H' => H' = upd H9 s2.heap.objs.size (.lst (zs ++ [y]))) I9 rfl (.cons r9 .nil) ⟨_, zs, y, rfl, rfl, hD9, hz, rfl⟩) fun _ s10 ⟨_, H10, I10, _, e10⟩ => ?_
      subst e10
      refine ⟨m', hm, i + 1, zs ++ [y], some x, _, I10.unpinned, T.keep _ _ _ t7 fun b hb o e => (I10.pin (b, o) (List.mem_append_right _ (List.mem_append_right _ (mem_pinsAt hb e)))).1, fun b hb => ?_, w9⟩
      obtain ⟨o, e, d⟩ := T.obj _ _ t7 b hb
      exact (I10.pin (b, o) (List.mem_append_right _ (List.mem_append_right _ (mem_pinsAt hb e)))).2.1
  subst hs3
  exact codeAny_compStart_list loop (T.self _ 0 _ _ _ t0 loop)
end
end L2
set_option Elab.async false
set_option linter.all false
set_option maxRecDepth 100000
namespace L2
open PySem PySem.Spec PyProof.Rows XH
section
variable {X : Cx}
theorem strs_are : ∀ {ws : List Str} {us : List Value}, Vals (ws.map V.str) us → StrsAre us ws
  | [], _, h => by cases h; exact .nil
  | w :: ws, _, h => by
    cases h with
    | cons r rr =>
      obtain ⟨t, rfl⟩ := r
      exact .cons _ _ (strs_are rr)
theorem mt_join : MtR X "str.join" (fun x vs H Q => ∃ z a ws, x = .str z ∧ vs = [.ref a] ∧ SqL X.K H a (ws.map V.str) ∧ z.length ≤ 16 ∧ (ws.map (fun x => x.length)).sum + ws.length ≤ 1048576 ∧ Q (.str (Txt.join z ws)) H) := by
  intro pins s σ H x vs v us Q I rx rv h
  obtain ⟨z, a, ws, rfl, rfl, hS, hz, hl, q⟩ := h
  obtain ⟨t, rfl⟩ := rx
  obtain ⟨u, rfl, ru⟩ := vals1 rv
  cases ru
  obtain ⟨its, r, p, _⟩ := I.list hS
  exact join_listW p.isList (by simpa using strs_are r) hz hl fun t' k => ⟨.str _, H, I.tok _, ⟨_, rfl⟩, q⟩
end
end L2
namespace Sw
open PySem L2 XH PySem.NumText
/-! ### a row's words, sign by sign -/
end Sw
set_option Elab.async false
set_option linter.all false
set_option maxRecDepth 100000
namespace L2
open PySem PySem.Spec PyProof.Rows XH Sw So Hm
/-- x != [] -/
theorem op_neNil {X : Cx} (hu : X.A.units < cLine) : OpR X (compareOp .NotEq) (fun x y H Q => ∃ a b zs, x = .ref a ∧ y = .ref b ∧ SqL X.K H a zs ∧ SqL X.K H b [] ∧ Q (.bl (!zs.isEmpty)) H) := by
  intro pins s σ H x y v u Q I rx ry h
  obtain ⟨a, b, zs, rfl, rfl, h1, h2, hq⟩ := h
  cases rx
  cases ry
  obtain ⟨i1, r1, p1, _⟩ := I.list h1
  obtain ⟨i2, r2, p2, _⟩ := I.list h2
  cases r2
  cases zs with
  | nil =>
    cases r1
    refine SeqAt.RcNeAt.lists (e := fun _ => true) p1.isList p2.isList rfl hu (fun j g1 g2 => absurd g1 (by simp)) _ _ _ _ ?_
    exact ⟨.bl false, H, I, by show Value.bool _ = Value.bool _; simp, hq⟩
  | cons z zs =>
    cases r1 with
    | cons r rr =>
      refine SeqAt.RcNeAt.lists_lengths p1.isList p2.isList (by simp) hu _ _ _ _ ?_
      exact ⟨.bl true, H, I, rfl, hq⟩
theorem Same.sqt {K : PySem.W.Frag} {H H' : Hp} {a : Addr} {xs : List V} (e : Same H H') (h : SqT K H a xs) : SqT K H' a xs := by
  rcases h with (h | ⟨o, h⟩) | h
  · exact .inl (.inl (e _ _ h))
  · exact .inl (.inr ⟨o, e _ _ h⟩)
  · exact .inr h
end L2
namespace Sw
open PySem L2 XH Hm
section
variable {X : Cx} {k j : Nat} {f C : Addr} {ps : List Str} {sp : Sp} {dvs : List V} {x m : Str} {p pos apos : Pos} {e o : Expr} {es : List Expr} {ta tb : TE} {t : TA} {E : L2.St → XK}
end
/-! ### a heap that is kept in a list -/
theorem ixN_nat {n j : Nat} (h : j < n) : ixN n (j : Int) = some j := by
  unfold ixN
  rw [if_pos (by omega), if_pos (by omega)]
  rfl
theorem at_zero {xs : List V} {i : Nat} {v : V} (h : xs[i]? = some v) : atI xs (0 + (i : Int)) = some v := by
  rw [Int.zero_add]
  exact atI_nat h
end Sw
set_option Elab.async false
set_option linter.all false
set_option maxRecDepth 100000
namespace L2
open PySem PySem.Spec PyProof.Rows XH Sw Hm
end L2
namespace Sw
open PySem L2 XH Hm
/-! ### nets and plans: what lies at the addresses -/
def Ref2 {α : Type} (R : Addr → α → Prop) (as : List Addr) (xs : List α) : Prop := as.length = xs.length ∧ ∀ (i : Nat) (a : Addr) (x : α), as[i]? = some a → xs[i]? = some x → R a x
theorem Ref2.imp {α : Type} {R S : Addr → α → Prop} {as : List Addr} {xs : List α} (h : Ref2 R as xs) (f : ∀ a x, R a x → S a x) : Ref2 S as xs := ⟨h.1, fun i a x e1 e2 => f a x (h.2 i a x e1 e2)⟩
theorem Ref2.get {α : Type} {R : Addr → α → Prop} {as : List Addr} {xs : List α} (h : Ref2 R as xs) {i : Nat} {x : α} (e : xs[i]? = some x) : ∃ a, as[i]? = some a ∧ R a x := by
  have il : i < as.length := by rw [h.1]; exact (List.getElem?_eq_some_iff.mp e).1
  exact ⟨_, List.getElem?_eq_getElem il, h.2 i _ x (List.getElem?_eq_getElem il) e⟩
theorem Ref2.nil {α : Type} {R : Addr → α → Prop} : Ref2 R [] ([] : List α) := ⟨rfl, fun i a x e => by simp at e⟩
theorem Ref2.snoc {α : Type} {R : Addr → α → Prop} {as : List Addr} {xs : List α} (h : Ref2 R as xs) {a : Addr} {x : α} (r : R a x) : Ref2 R (as ++ [a]) (xs ++ [x]) := by
  refine ⟨by simp [h.1], fun i b y e1 e2 => ?_⟩
  have il := (List.getElem?_eq_some_iff.mp e1).1
  by_cases c : i < as.length
  · rw [List.getElem?_append_left c] at e1
    rw [List.getElem?_append_left (by rw [← h.1]; exact c)] at e2
    exact h.2 i b y e1 e2
  · have ei : i = as.length := by simp at il; omega
    subst ei
    rw [List.getElem?_append_right (Nat.le_refl _)] at e1
    rw [List.getElem?_append_right (by rw [h.1]; exact Nat.le_refl _), h.1] at e2
    simp at e1 e2
    subst e1 e2
    exact r
/-- a list of tuples of numbers -/
def TupsA (H : Hp) (l : Addr) (ks : List Ky) : Prop := ∃ as : List Addr, H l = some (.lst (as.map V.ref)) ∧ Ref2 (fun t k => H t = some (.tup (k.map V.int))) as ks
theorem TupsA.same {H H' : Hp} {l : Addr} {ks : List Ky} (h : TupsA H l ks) (g : Same H H') : TupsA H' l ks := by
  obtain ⟨as, e, r⟩ := h
  exact ⟨as, g _ _ e, r.imp fun a k q => g _ _ q⟩
end Sw
set_option Elab.async false
set_option linter.all false
set_option maxRecDepth 100000
namespace L2
open PySem PySem.Spec PyProof.Rows XH
theorem call_lenD1 {X : Cx} : CallR X (.builtin "len") (fun xs H Q => ∃ (d : Addr) (kvs : List (Key × V)), xs = [.ref d] ∧ H d = some (.dK kvs) ∧ Q (.int kvs.length) H) := by
  intro pins s σ H xs us Q I r h
  obtain ⟨d, kvs, rfl, hd, q⟩ := h
  obtain ⟨u, rfl, ru⟩ := vals1 r
  cases ru
  exact d_len I (.inl hd) fun t s' I' => ⟨.int kvs.length, H, I', ⟨t, rfl⟩, q⟩
theorem ix_tupB {X : Cx} {K : PySem.W.Frag} (h : X.K = K) : IxR X (rIxT K) := by
  subst h
  exact ix_tup
theorem ix_listB {X : Cx} {K : PySem.W.Frag} (h : X.K = K) : IxR X (rIxL K) := by
  subst h
  exact ix_list
theorem call_listB {X : Cx} {K : PySem.W.Frag} (h : X.K = K) : CallR X (.type "list") (fun xs H Q => ∃ p ys, xs = [.ref p] ∧ (SqL K H p ys ∨ SqT K H p ys) ∧ ∀ l, H l = none → Q (.ref l) (upd H l (.lst ys))) := by
  subst h
  exact call_list_of
theorem boot_dict1 : bootBuiltins "dict" = some (.type "dict") := by kernel_rfl
end L2
namespace Sw
open PySem L2 XH Hm
def netF (td tl al pl n : V) : List (Str × V) := putF "moments" n (putF "apart" pl (putF "arcs" al (putF "tasks" tl (putF "tools" td []))))
theorem netF_at {td tl al pl n : V} : (netF td tl al pl n).lookup ("tools" : Str) = some td ∧ (netF td tl al pl n).lookup ("tasks" : Str) = some tl ∧ (netF td tl al pl n).lookup ("arcs" : Str) = some al ∧ (netF td tl al pl n).lookup ("apart" : Str) = some pl ∧ (netF td tl al pl n).lookup ("moments" : Str) = some n := by
  unfold netF
  refine ⟨?_, ?_, ?_, ?_, ?_⟩
  · rw [lookup_putF, if_neg (by decide), lookup_putF, if_neg (by decide), lookup_putF, if_neg (by decide), lookup_putF, if_neg (by decide), lookup_putF, if_pos rfl]
  · rw [lookup_putF, if_neg (by decide), lookup_putF, if_neg (by decide), lookup_putF, if_neg (by decide), lookup_putF, if_pos rfl]
  · rw [lookup_putF, if_neg (by decide), lookup_putF, if_neg (by decide), lookup_putF, if_pos rfl]
  · rw [lookup_putF, if_neg (by decide), lookup_putF, if_pos rfl]
  · rw [lookup_putF, if_pos rfl]
/-- nothing is changed but at x -/
def Fx (x : Addr) (H H' : Hp) : Prop := ∀ a o, a ≠ x → H a = some o → H' a = some o
theorem Fx.of {x : Addr} {H H' : Hp} (g : Same H H') : Fx x H H' := fun a o _ h => g a o h
theorem Fx.put (x : Addr) (H : Hp) (o : HO) : Fx x H (upd H x o) := fun a u n h => by rw [upd_ne n]; exact h
theorem Fx.trans {x : Addr} {H H1 H2 : Hp} (a : Fx x H H1) (b : Fx x H1 H2) : Fx x H H2 := fun c o n h => b c o n (a c o n h)
theorem TupsA.fx {x : Addr} {H H' : Hp} {l : Addr} {ks : List Ky} {C dx : Addr} {fs : List (Str × V)} (h : TupsA H l ks) (ex : H x = some (.ins C dx fs)) (g : Fx x H H') : TupsA H' l ks := by
  obtain ⟨as, e, r⟩ := h
  exact ⟨as, g _ _ (ne_of e ex (by intro z; cases z)) e, r.imp fun a k q => g _ _ (ne_of q ex (by intro z; cases z)) q⟩
def spRArcs : Sp := fun vs H Q _ => ∃ (al : Addr) (m : Int) (A : List Ky), vs = [.ref al, .int m] ∧ TupsA H al A ∧ A.length ≤ 600 ∧ (∀ k ∈ A, ∃ p q g : Int, k = [p, q, g] ∧ 0 ≤ p ∧ p < m ∧ 0 ≤ q ∧ q < m ∧ -1000000000 ≤ g ∧ g ≤ 1000000000) ∧ Q .non H
end Sw
set_option Elab.async false
set_option linter.all false
set_option maxRecDepth 100000
namespace L2
open PySem PySem.Spec PyProof.Rows XH
section
variable {X : Cx} {scope : Scope} {cl : List (Str × Addr)} {os : List Str} {ys : List Str} {js : List Nat} {fp : List Addr} {pins : List (Addr × Obj)} {σ : St} {H : Hp} {s s4 : Shared}
end
section
variable {X : Cx} {scope : Scope} {cl : List (Str × Addr)} {os : List Str} {ys : List Str} {js : List Nat} {elt iter tg : Expr} {px pos : Pos} {wi : TI} {te : TE} {g : TG}
end
end L2

namespace Sw
open PySem L2 XH
end Sw
set_option Elab.async false
set_option linter.all false
set_option maxRecDepth 100000
namespace L2
open PySem PySem.Spec PyProof.Rows XH
section
variable {X : Cx} {scope : Scope} {cl : List (Str × Addr)} {os : List Str} {ys : List Str} {js : List Nat} {elt iter tg : Expr} {px pos : Pos} {wi : TI} {te : TE} {g : TG}
end
end L2
set_option Elab.async false
set_option linter.all false
set_option maxRecDepth 100000
namespace Sw
open PySem L2 XH
/-! ### packs -/
end Sw
namespace L2
open PySem PySem.Spec PyProof.Rows
end L2
namespace Sw
open PySem L2 XH
end Sw
set_option Elab.async false
set_option linter.all false
set_option maxRecDepth 100000
namespace Sw
open PySem L2 XH
/-! ### many needs: tops, bottoms, and how many figures of two a bottom has -/
end Sw
set_option Elab.async false
set_option linter.all false
set_option maxRecDepth 100000
namespace Sw
open PySem L2 XH
end Sw
namespace L2
open PySem PySem.Spec PyProof.Rows
end L2
set_option Elab.async false
set_option linter.all false
set_option maxRecDepth 100000
namespace Sw
open PySem L2 XH
/-! ### steps: their fields -/
/-! ### rounds -/
end Sw
set_option Elab.async false
set_option linter.all false
set_option maxRecDepth 100000
namespace L2
open PySem PySem.Spec PyProof.Rows XH
section
variable {X : Cx}
end
/-! ### things alike, of any depth -/
def All2 (R : V → V → Prop) : List V → List V → Prop
  | [], [] => True
  | x :: xs, y :: ys => R x y ∧ All2 R xs ys
  | _, _ => False
theorem All2.len {R : V → V → Prop} : ∀ {xs ys : List V}, All2 R xs ys → xs.length = ys.length
  | [], [], _ => rfl
  | _ :: _, _ :: _, h => by simp [All2.len h.2]
  | [], _ :: _, h => h.elim
  | _ :: _, [], h => h.elim
def Alk (K : PySem.W.Frag) (H : Hp) : Nat → V → V → Prop
  | 0, x, y => x = y ∧ Smp x
  | n + 1, x, y => Alk K H n x y ∨ ∃ a b xs ys, x = .ref a ∧ y = .ref b ∧ ((SqT K H a xs ∧ SqT K H b ys) ∨ (SqL K H a xs ∧ SqL K H b ys)) ∧ All2 (Alk K H n) xs ys
theorem all2_eq {A : Around} {s : Shared} {R : V → V → Prop} (hR : ∀ x y u w, R x y → RelV x u → RelV y w → SeqAt.EqAt A s u w true) : ∀ {xs ys : List V} {us ws : List Value}, All2 R xs ys → Vals xs us → Vals ys ws → ∀ j (h1 : j < us.length) (h2 : j < ws.length), SeqAt.EqAt A s us[j] ws[j] true
  | [], [], _, _, _, .nil, .nil, j, h1, _ => absurd h1 (by simp)
  | _ :: _, _ :: _, _, _, h, .cons r1 _, .cons r2 _, 0, _, _ => hR _ _ _ _ h.1 r1 r2
  | _ :: _, _ :: _, _, _, h, .cons _ t1, .cons _ t2, j + 1, h1, h2 => all2_eq hR h.2 t1 t2 j (by simpa using h1) (by simpa using h2)
theorem alk_eq {X : Cx} {pins : List (Addr × Obj)} {σ : St} {H : Hp} {s : Shared} (I : Inv X pins σ H s) : ∀ (n : Nat) (A : Around) (x y : V) (u w : Value), A.units + n < cLine → Alk X.K H n x y → RelV x u → RelV y w → SeqAt.EqAt A s u w true
  | 0, A, x, y, u, w, _, h, r1, r2 => by
    obtain ⟨rfl, hs⟩ := h
    exact eqat_smp hs r1 r2
  | n + 1, A, x, y, u, w, hu, h, r1, r2 => by
    rcases h with h | ⟨a, b, xs, ys, rfl, rfl, hq, hA⟩
    · exact alk_eq I n A x y u w (by omega) h r1 r2
    cases r1
    cases r2
    by_cases e : a = b
    · subst e
      exact SeqAt.EqAt.same _
    refine SeqAt.EqAt.of_refs e ?_
    have ih := fun x y u w => alk_eq I n A.in1 x y u w (by show A.units + 1 + n < _; omega)
    rcases hq with ⟨h1, h2⟩ | ⟨h1, h2⟩
    · obtain ⟨i1, v1, p1, _⟩ := I.tuple h1
      obtain ⟨i2, v2, p2, _⟩ := I.tuple h2
      have k := SeqAt.RcAt.tuples (A := A) (e := fun _ => true) p1 p2 (by omega) fun j g1 g2 => all2_eq (A := A.in1) (s := s) ih hA v1 v2 j (by simpa using g1) (by simpa using g2)
      have e1 : ∀ m, ((List.range m).all fun _ => true) = true := fun m => by simp
      rw [e1] at k
      simpa [← v1.length, ← v2.length, hA.len] using k
    · obtain ⟨i1, v1, p1, _⟩ := I.list h1
      obtain ⟨i2, v2, p2, _⟩ := I.list h2
      have k := SeqAt.RcAt.lists (A := A) (e := fun _ => true) p1.isList p2.isList (by simp [← v1.length, ← v2.length, hA.len]) (by omega) fun j g1 g2 => all2_eq (A := A.in1) (s := s) ih hA v1 v2 j (by simpa using g1) (by simpa using g2)
      have e1 : ∀ m, ((List.range m).all fun _ => true) = true := fun m => by simp
      rw [e1] at k
      exact k
theorem op_eqA {X : Cx} (n : Nat) (hu : X.A.units + (n + 1) < cLine) : OpR X (compareOp .Eq) (fun x y H Q => ∃ a b xs ys, x = .ref a ∧ y = .ref b ∧ SqL X.K H a xs ∧ SqL X.K H b ys ∧ All2 (Alk X.K H n) xs ys ∧ Q (.bl true) H) := by
  intro pins s σ H x y v u Q I rx ry h
  obtain ⟨a, b, xs, ys, rfl, rfl, h1, h2, hA, hq⟩ := h
  cases rx
  cases ry
  obtain ⟨i1, v1, p1, _⟩ := I.list h1
  obtain ⟨i2, v2, p2, _⟩ := I.list h2
  refine SeqAt.eq_listAt (e := fun _ => true) p1.isList p2.isList (by simp [← v1.length, ← v2.length, hA.len]) (by omega) (fun j g1 g2 => ?_) ?_
  · exact all2_eq (A := X.A.in1) (s := s) (fun x y u w => alk_eq I n X.A.in1 x y u w (by show X.A.units + 1 + n < _; omega)) hA v1 v2 j (by simpa using g1) (by simpa using g2)
  · exact ⟨.bl true, H, I, by show Value.bool _ = Value.bool _; simp, hq⟩
end L2
namespace Sw
open PySem L2 XH
/-! ### recipes -/
end Sw
set_option Elab.async false
set_option linter.all false
set_option maxRecDepth 100000
namespace L2
open PySem PySem.Spec PyProof.Rows XH Sw So
theorem op_eqAT {X : Cx} (n : Nat) (hu : X.A.units + (n + 1) < cLine) : OpR X (compareOp .Eq) (fun x y H Q => ∃ a b xs ys, x = .ref a ∧ y = .ref b ∧ SqT X.K H a xs ∧ SqT X.K H b ys ∧ All2 (Alk X.K H n) xs ys ∧ Q (.bl true) H) := by
  intro pins s σ H x y v u Q I rx ry h
  obtain ⟨a, b, xs, ys, rfl, rfl, h1, h2, hA, hq⟩ := h
  cases rx
  cases ry
  obtain ⟨i1, v1, p1, _⟩ := I.tuple h1
  obtain ⟨i2, v2, p2, _⟩ := I.tuple h2
  refine SeqAt.eq_tupleAt (e := fun _ => true) p1 p2 (by omega) (fun j g1 g2 => ?_) ?_
  · exact all2_eq (A := X.A.in1) (s := s) (fun x y u w => alk_eq I n X.A.in1 x y u w (by show X.A.units + 1 + n < _; omega)) hA v1 v2 j (by simpa using g1) (by simpa using g2)
  · exact ⟨.bl true, H, I, by show Value.bool _ = Value.bool _; simp [← v1.length, ← v2.length, hA.len], hq⟩
theorem op_neAT {X : Cx} (n : Nat) (hu : X.A.units + (n + 1) < cLine) : OpR X (compareOp .NotEq) (fun x y H Q => ∃ a b xs ys, x = .ref a ∧ y = .ref b ∧ SqT X.K H a xs ∧ SqT X.K H b ys ∧ All2 (Alk X.K H n) xs ys ∧ Q (.bl false) H) := by
  intro pins s σ H x y v u Q I rx ry h
  obtain ⟨a, b, xs, ys, rfl, rfl, h1, h2, hA, hq⟩ := h
  cases rx
  cases ry
  obtain ⟨i1, v1, p1, _⟩ := I.tuple h1
  obtain ⟨i2, v2, p2, _⟩ := I.tuple h2
  refine SeqAt.RcNeAt.tuples (e := fun _ => true) p1 p2 (by omega) (fun j g1 g2 => ?_) _ _ _ _ ⟨.bl false, H, I, by show Value.bool _ = Value.bool _; simp [← v1.length, ← v2.length, hA.len], hq⟩
  exact all2_eq (A := X.A.in1) (s := s) (fun x y u w => alk_eq I n X.A.in1 x y u w (by show X.A.units + 1 + n < _; omega)) hA v1 v2 j (by simpa using g1) (by simpa using g2)
end L2
namespace Sw
open PySem L2 XH Hm
/-! ### breaches: lists of tuples (text, number) -/
theorem Ref2.append {α : Type} {R : Addr → α → Prop} {as bs : List Addr} {xs ys : List α} (h : Ref2 R as xs) (k : Ref2 R bs ys) : Ref2 R (as ++ bs) (xs ++ ys) := by
  refine ⟨by simp [h.1, k.1], fun i a x e1 e2 => ?_⟩
  by_cases c : i < as.length
  · rw [List.getElem?_append_left c] at e1
    rw [List.getElem?_append_left (by rw [← h.1]; exact c)] at e2
    exact h.2 i a x e1 e2
  · rw [List.getElem?_append_right (by omega)] at e1
    rw [List.getElem?_append_right (by rw [← h.1]; omega), ← h.1] at e2
    exact k.2 _ a x e1 e2
end Sw
namespace L2
open PySem PySem.Spec PyProof.Rows XH Sw Hm
end L2
namespace Sw
open PySem L2 XH Hm
/-! ### plans -/
abbrev Rn := Int × Int × Int
def rk (r : Rn) : Ky := [r.1, r.2.1, r.2.2]
def PlanA (H : Hp) (t : Addr) (R : List Rn) (M : List Int) : Prop := ∃ rl ml : Addr, H t = some (.tup [.ref rl, .ref ml]) ∧ TupsA H rl (R.map rk) ∧ H ml = some (.lst (M.map V.int))
theorem PlanA.same {H H' : Hp} {t : Addr} {R : List Rn} {M : List Int} (h : PlanA H t R M) (g : Same H H') : PlanA H' t R M := by
  obtain ⟨rl, ml, a, b, c⟩ := h
  exact ⟨rl, ml, g _ _ a, b.same g, g _ _ c⟩
def spots : List Rn → List Int → List Int
  | [], M => M
  | r :: R, M => r.1 :: r.2.1 :: spots R M
theorem spots_len (M : List Int) : ∀ R : List Rn, (spots R M).length = 2 * R.length + M.length
  | [] => by simp [spots]
  | r :: R => by simp [spots, spots_len M R]; omega
theorem spots_lo (M : List Int) : ∀ (R : List Rn) (i : Nat) (r : Rn), R[i]? = some r → (spots R M)[2 * i]? = some r.1 ∧ (spots R M)[2 * i + 1]? = some r.2.1
  | [], i, r, h => by simp at h
  | q :: R, 0, r, h => by
    simp at h
    subst h
    exact ⟨rfl, rfl⟩
  | q :: R, i + 1, r, h => by
    have ih := spots_lo M R i r (by simpa using h)
    exact ih
theorem n2 {p A B : Prop} [Decidable p] (h1 : ¬ p → A) (h2 : p → B) : if (!decide p) = true then A else B := by
  by_cases h : p
  · rw [if_neg (by simp [h])]; exact h2 h
  · rw [if_pos (by simp [h])]; exact h1 h
theorem getDo {α : Type} {xs : List α} {i : Nat} {v d : α} (h : xs[i]? = some v) : xs.getD i d = v := by rw [List.getD_eq_getElem?_getD, h]; rfl
theorem refs_at {as : List Addr} {i : Nat} {y : V} (h : (as.map V.ref)[i]? = some y) : ∃ a, as[i]? = some a ∧ y = .ref a := by
  rw [List.getElem?_map] at h
  obtain ⟨a, e, rfl⟩ := Option.map_eq_some_iff.mp h
  exact ⟨a, e, rfl⟩
theorem map_at {α : Type} {f : α → V} {xs : List α} {i : Nat} {x : α} (h : xs[i]? = some x) : (xs.map f)[i]? = some (f x) := by rw [List.getElem?_map, h]; rfl
theorem run_at {H : Hp} {bs : List Addr} {R : List Rn} (h : Ref2 (fun t k => H t = some (.tup (k.map V.int))) bs (R.map rk)) {i : Nat} {b : Addr} (e : bs[i]? = some b) : ∃ r : Rn, R[i]? = some r ∧ H b = some (.tup [.int r.1, .int r.2.1, .int r.2.2]) := by
  have il : i < R.length := by
    have := (List.getElem?_eq_some_iff.mp e).1
    rw [h.1, List.length_map] at this
    exact this
  exact ⟨_, List.getElem?_eq_getElem il, h.2 i b (rk R[i]) e (by rw [List.getElem?_map, List.getElem?_eq_getElem il]; rfl)⟩
theorem run_get {H : Hp} {bs : List Addr} {R : List Rn} (h : Ref2 (fun t k => H t = some (.tup (k.map V.int))) bs (R.map rk)) {i : Nat} {r : Rn} (e : R[i]? = some r) : ∃ b, bs[i]? = some b ∧ H b = some (.tup [.int r.1, .int r.2.1, .int r.2.2]) := by
  obtain ⟨b, hb, _⟩ := h.get (i := i) (x := rk r) (by rw [List.getElem?_map, e]; rfl)
  obtain ⟨r', e', q⟩ := run_at h hb
  rw [e] at e'
  cases e'
  exact ⟨b, hb, q⟩
end Sw
set_option Elab.async false
set_option linter.all false
set_option maxRecDepth 100000
namespace Sw
open PySem L2 XH Hm
/-! ### the law on turns and arcs: what its own defs promise -/
def ArcOk (n : Int) (k : Ky) : Prop := ∃ p q g : Int, k = [p, q, g] ∧ 0 ≤ p ∧ p < n ∧ 0 ≤ q ∧ q < n ∧ -1000000000 ≤ g ∧ g ≤ 1000000000
theorem spots_cat (M : List Int) : ∀ R : List Rn, spots R [] ++ M = spots R M
  | [] => rfl
  | r :: R => by simp [spots, spots_cat M R]
theorem spots_take : ∀ {R : List Rn} {i : Nat} {r : Rn}, R[i]? = some r → spots (R.take (i + 1)) [] = spots (R.take i) [] ++ [r.1] ++ [r.2.1]
  | [], i, r, h => by simp at h
  | q :: R, 0, r, h => by
    simp at h
    subst h
    rfl
  | q :: R, i + 1, r, h => by
    have ih := spots_take (R := R) (i := i) (r := r) (by simpa using h)
    show q.1 :: q.2.1 :: spots (R.take (i + 1)) [] = q.1 :: q.2.1 :: (spots (R.take i) [] ++ [r.1] ++ [r.2.1])
    rw [ih]
theorem fm {a n : Int} (h : 0 < n) : 0 ≤ a.fmod n ∧ a.fmod n < n := ⟨Int.fmod_nonneg_of_pos a h, Int.fmod_lt_of_pos a h⟩
theorem tups_put {H : Hp} {l t : Addr} {as : List Addr} {ks : List Ky} {k : Ky} (e : H l = some (.lst (as.map V.ref))) (r : Ref2 (fun t k => H t = some (.tup (k.map V.int))) as ks) (h : H t = some (.tup (k.map V.int))) : TupsA (upd H l (.lst (as.map V.ref ++ [.ref t]))) l (ks ++ [k]) :=
  ⟨as ++ [t], by rw [upd_same, List.map_append]; rfl, (r.snoc h).imp fun t b q => by rw [upd_ne (ne_of q e (by intro z; cases z))]; exact q⟩
theorem all2_at {R : V → V → Prop} : ∀ {xs ys : List V}, xs.length = ys.length → (∀ (i : Nat) (x y : V), xs[i]? = some x → ys[i]? = some y → R x y) → All2 R xs ys
  | [], [], _, _ => trivial
  | x :: xs, y :: ys, hl, h => ⟨h 0 x y rfl rfl, all2_at (by simpa using hl) fun i a b e1 e2 => h (i + 1) a b (by simpa using e1) (by simpa using e2)⟩
  | [], _ :: _, hl, _ => by simp at hl
  | _ :: _, [], hl, _ => by simp at hl
theorem TupsA.upd {H : Hp} {l x : Addr} {ks : List Ky} {zs ys : List V} (h : TupsA H l ks) (ex : H x = some (.lst zs)) (xl : l ≠ x) : TupsA (L2.upd H x (.lst ys)) l ks := by
  obtain ⟨as, e, r⟩ := h
  exact ⟨as, by rw [upd_ne xl]; exact e, r.imp fun a k q => by rw [upd_ne (ne_of q ex (by intro z; cases z))]; exact q⟩
theorem cut_intsB (ns : List Int) (lo hi : Option Int) : ∃ cs : List Int, cutV (ns.map V.int) lo hi = cs.map V.int ∧ cs.length ≤ ns.length := by
  unfold cutV
  refine ⟨(ns.drop _).take _, by rw [List.map_take, List.map_drop], ?_⟩
  rw [List.length_take, List.length_drop]
  omega
theorem made_keep2 {H1 H' : Hp} {x dx : Addr} {C : Addr} (nx : H1 x = none) (nd : H1 dx = none) (h : ∀ a o, a ≠ x → upd (upd H1 dx (.own x)) x (.ins C dx []) a = some o → H' a = some o) : Same H1 H' := fun a o e => by
  have ax : a ≠ x := fun z => by rw [z, nx] at e; cases e
  have ad : a ≠ dx := fun z => by rw [z, nd] at e; cases e
  exact h a o ax (by rw [upd_ne ax, upd_ne ad]; exact e)
end Sw
set_option Elab.async false
set_option linter.all false
set_option maxRecDepth 100000
namespace L2
open PySem PySem.Spec PyProof.Rows XH Sw Hm
end L2
namespace Sw
open PySem L2 XH Hm
end Sw
set_option Elab.async false
set_option linter.all false
set_option maxRecDepth 100000
namespace L2
open PySem PySem.Spec PyProof.Rows XH Sw Hm
section
variable {X : Cx} {pins : List (Addr × Obj)} {σ : St} {H : Hp} {s : Shared}
end
end L2
set_option Elab.async false
set_option linter.all false
set_option maxRecDepth 100000
namespace L2
open PySem PySem.Spec PyProof.Rows XH Sw Hm
end L2
namespace Sw
open PySem L2 XH Hm
end Sw
set_option Elab.async false
set_option linter.all false
set_option maxRecDepth 100000
namespace L2
open PySem PySem.Spec PyProof.Rows XH Sw Hm
end L2
namespace Sw
open PySem L2 XH Hm
end Sw
set_option Elab.async false
set_option linter.all false
set_option maxRecDepth 100000
namespace L2
open PySem PySem.Spec PyProof.Rows XH
/-! ### set(xs) of texts, alike or unlike: what lies in it, and that it can be walked -/
section
variable {prog : Program} {w : World} {A : Around} {E : Value → Shared → Prop} {s : Shared}
end
end L2
set_option Elab.async false
set_option linter.all false
set_option maxRecDepth 100000
namespace L2
open PySem PySem.Spec PyProof.Rows XH
section
variable {prog : Program} {w : World} {A : Around} {R : Result → Shared → Prop} {I : Addr} {fp wr : List Addr} {G : Array GenState → Array GenState → Prop} {n : Nat} {P : Nat → Value → Prop} {St : Nat → Shared → Prop}
end
section
variable {prog : Program} {w : World} {A : Around} {E : Value → Shared → Prop} {s : Shared}
end
end L2
set_option Elab.async false
set_option linter.all false
set_option maxRecDepth 100000
namespace L2
open PySem PySem.Spec PyProof.Rows XH
/-! ### a set of texts walked -/
section
variable {prog : Program} {w : World} {A : Around} {E : Value → Shared → Prop} {s : Shared}
end
end L2
set_option Elab.async false
set_option linter.all false
set_option maxRecDepth 100000
namespace L2
open PySem PySem.Spec PyProof.Rows XH
section
variable {prog : Program} {w : World} {A : Around} {E : Value → Shared → Prop} {s : Shared}
end
end L2
set_option Elab.async false
set_option linter.all false
set_option maxRecDepth 100000
namespace L2
open PySem PySem.Spec PyProof.Rows XH
section
variable {prog : Program} {w : World} {A : Around} {E : Value → Shared → Prop} {s : Shared}
end
end L2
set_option Elab.async false
set_option linter.all false
set_option maxRecDepth 100000
namespace L2
open PySem PySem.Spec PyProof.Rows XH
section
variable {prog : Program} {w : World} {A : Around} {E : Value → Shared → Prop} {s : Shared}
end
end L2
set_option Elab.async false
set_option linter.all false
set_option maxRecDepth 100000
namespace L2
open PySem PySem.Spec PyProof.Rows XH Sw So
section
variable {prog : Program} {w : World} {A : Around} {E : Value → Shared → Prop} {s : Shared}
end
end L2
set_option Elab.async false
set_option linter.all false
set_option maxRecDepth 100000
namespace L2
open PySem PySem.Spec PyProof.Rows XH Sw So
/-! ### sorted(set(xs)), xs texts -/
section
variable {X : Cx} {e : Expr} {te : TE} {p1 p2 pos pos2 : Pos}
end
end L2
set_option Elab.async false
set_option linter.all false
set_option maxRecDepth 100000
namespace L2
open PySem PySem.Spec PyProof.Rows XH
/-! ### the places of a set's table rise -/
end L2
set_option Elab.async false
set_option linter.all false
set_option maxRecDepth 100000
namespace L2
open PySem PySem.Spec PyProof.Rows XH
section
variable {prog : Program} {w : World} {A : Around} {E : Value → Shared → Prop} {s : Shared}
end
end L2
set_option Elab.async false
set_option linter.all false
set_option maxRecDepth 100000
namespace L2
open PySem PySem.Spec PyProof.Rows XH
section
variable {prog : Program} {w : World} {A : Around} {R : Result → Shared → Prop} {I : Addr} {fp wr : List Addr} {G : Array GenState → Array GenState → Prop} {n : Nat} {P : Nat → Value → Prop} {St : Nat → Shared → Prop}
end
section
variable {prog : Program} {w : World} {A : Around} {E : Value → Shared → Prop} {s : Shared}
end
end L2
set_option Elab.async false
set_option linter.all false
set_option maxRecDepth 100000
namespace L2
open PySem PySem.Spec PyProof.Rows XH Sw So
section
variable {prog : Program} {w : World} {A : Around} {E : Value → Shared → Prop} {s : Shared}
end
section
variable {prog : Program} {w : World} {A : Around} {E : Value → Shared → Prop} {s : Shared}
end
end L2
set_option Elab.async false
set_option linter.all false
set_option maxRecDepth 100000
namespace L2
open PySem PySem.Spec PyProof.Rows XH Sw So
/-! ### sorted(set(xs)), xs numbers -/
section
variable {X : Cx} {e : Expr} {te : TE} {p1 p2 pos pos2 : Pos}
end
end L2
set_option Elab.async false
set_option linter.all false
set_option maxRecDepth 100000
namespace L2
open PySem PySem.Spec PyProof.Rows XH Sw So
end L2
set_option Elab.async false
set_option linter.all false
set_option maxRecDepth 100000
namespace Sw
open PySem L2 XH Hm
/-! ### things as they lie, with the addresses that they reach -/
def isSq : HO → Bool
  | .lst _ => true
  | .tup _ => true
  | _ => false
abbrev RA (α : Type) := (Addr → Prop) → Hp → V → α → Prop
def An : Addr → Prop := fun _ => True
class Mv {α : Type} (R : RA α) : Prop where
  mv : ∀ {P P' : Addr → Prop} {H H' : Hp} {v : V} {x : α}, (∀ a o, P a → isSq o = true → H a = some o → P' a ∧ H' a = some o) → R P H v x → R P' H' v x
theorem mvS {α : Type} {R : RA α} [Mv R] {P : Addr → Prop} {H H' : Hp} {v : V} {x : α} (h : R P H v x) (g : Same H H') : R P H' v x := Mv.mv (fun a o p _ e => ⟨p, g a o e⟩) h
theorem mvP {α : Type} {R : RA α} [Mv R] {P P' : Addr → Prop} {H : Hp} {v : V} {x : α} (h : R P H v x) (g : ∀ a, P a → P' a) : R P' H v x := Mv.mv (fun a o p _ e => ⟨g a p, e⟩) h
theorem mvA {α : Type} {R : RA α} [Mv R] {P : Addr → Prop} {H : Hp} {v : V} {x : α} (h : R P H v x) : R An H v x := mvP h fun _ _ => trivial
/-- what is no list and no tuple may change -/
theorem mvX {α : Type} {R : RA α} [Mv R] {P : Addr → Prop} {H H' : Hp} {v : V} {x : α} (h : R P H v x) (g : ∀ a o, isSq o = true → H a = some o → H' a = some o) : R P H' v x := Mv.mv (fun a o p s e => ⟨p, g a o s e⟩) h
/-- what is reached is there -/
theorem mvT {α : Type} {R : RA α} [Mv R] {P : Addr → Prop} {H : Hp} {v : V} {x : α} (h : R P H v x) : R (fun a => P a ∧ H a ≠ none) H v x := Mv.mv (fun a o p _ e => ⟨⟨p, by rw [e]; exact nofun⟩, e⟩) h
/-- one address, which isn't reached, may change -/
theorem mvU {α : Type} {R : RA α} [Mv R] {P : Addr → Prop} {H : Hp} {v : V} {x : α} {l : Addr} (h : R P H v x) (n : ¬ P l) (o : HO) : R P (upd H l o) v x := Mv.mv (fun a u p _ e => ⟨p, by
    have : a ≠ l := fun z => n (by rw [← z]; exact p)
    rw [upd_ne this]
    exact e⟩) h
def A2 {α : Type} (R : V → α → Prop) (vs : List V) (xs : List α) : Prop := vs.length = xs.length ∧ ∀ (i : Nat) (v : V) (x : α), vs[i]? = some v → xs[i]? = some x → R v x
theorem A2.imp {α : Type} {R S : V → α → Prop} {vs : List V} {xs : List α} (h : A2 R vs xs) (f : ∀ v x, R v x → S v x) : A2 S vs xs := ⟨h.1, fun i v x e1 e2 => f v x (h.2 i v x e1 e2)⟩
theorem A2.get {α : Type} {R : V → α → Prop} {vs : List V} {xs : List α} (h : A2 R vs xs) {i : Nat} {x : α} (e : xs[i]? = some x) : ∃ v, vs[i]? = some v ∧ R v x := by
  have il : i < vs.length := by rw [h.1]; exact (List.getElem?_eq_some_iff.mp e).1
  exact ⟨_, List.getElem?_eq_getElem il, h.2 i _ x (List.getElem?_eq_getElem il) e⟩
theorem A2.at_ {α : Type} {R : V → α → Prop} {vs : List V} {xs : List α} (h : A2 R vs xs) {i : Nat} {v : V} (e : vs[i]? = some v) : ∃ x, xs[i]? = some x ∧ R v x := by
  have il : i < xs.length := by rw [← h.1]; exact (List.getElem?_eq_some_iff.mp e).1
  exact ⟨_, List.getElem?_eq_getElem il, h.2 i v _ e (List.getElem?_eq_getElem il)⟩
theorem A2.nil {α : Type} {R : V → α → Prop} : A2 R [] ([] : List α) := ⟨rfl, fun i a x e => by simp at e⟩
theorem A2.append {α : Type} {R : V → α → Prop} {as bs : List V} {xs ys : List α} (h : A2 R as xs) (k : A2 R bs ys) : A2 R (as ++ bs) (xs ++ ys) := by
  refine ⟨by simp [h.1, k.1], fun i a x e1 e2 => ?_⟩
  by_cases c : i < as.length
  · rw [List.getElem?_append_left c] at e1
    rw [List.getElem?_append_left (by rw [← h.1]; exact c)] at e2
    exact h.2 i a x e1 e2
  · rw [List.getElem?_append_right (by omega)] at e1
    rw [List.getElem?_append_right (by rw [← h.1]; omega), ← h.1] at e2
    exact k.2 _ a x e1 e2
theorem A2.one {α : Type} {R : V → α → Prop} {v : V} {x : α} (h : R v x) : A2 R [v] [x] := ⟨rfl, fun i a y e1 e2 => by
  cases i with
  | zero => simp at e1 e2; subst e1 e2; exact h
  | succ n => simp at e1⟩
theorem A2.snoc {α : Type} {R : V → α → Prop} {vs : List V} {xs : List α} (h : A2 R vs xs) {v : V} {x : α} (r : R v x) : A2 R (vs ++ [v]) (xs ++ [x]) := h.append (.one r)
/-- a list at an address, what it holds within P -/
def LsA {α : Type} (R : RA α) (P : Addr → Prop) (H : Hp) (l : Addr) (xs : List α) : Prop := ∃ vs, H l = some (.lst vs) ∧ A2 (R P H) vs xs
def rLst {α : Type} (R : RA α) : RA (List α) := fun P H v xs => ∃ l, v = .ref l ∧ P l ∧ LsA R P H l xs
instance {α : Type} {R : RA α} [Mv R] : Mv (rLst R) where
  mv := fun {P P' H H' v x} g h => by
    obtain ⟨l, rfl, p, vs, e, r⟩ := h
    obtain ⟨p', e'⟩ := g l _ p rfl e
    exact ⟨l, rfl, p', vs, e', r.imp fun v x q => Mv.mv g q⟩
def rTup {α : Type} (f : α → List V) : RA α := fun P H v x => ∃ t, v = .ref t ∧ P t ∧ H t = some (.tup (f x))
instance {α : Type} {f : α → List V} : Mv (rTup f) where
  mv := fun {P P' H H' v x} g h => by
    obtain ⟨t, rfl, p, e⟩ := h
    obtain ⟨p', e'⟩ := g t _ p rfl e
    exact ⟨t, rfl, p', e'⟩
def rVal {α : Type} (f : α → V) : RA α := fun _ _ v x => v = f x
instance {α : Type} {f : α → V} : Mv (rVal f) where
  mv := fun _ h => h
theorem A2.val {α : Type} {f : α → V} {P : Addr → Prop} {H : Hp} {vs : List V} {xs : List α} (h : A2 (rVal f P H) vs xs) : vs = xs.map f := by
  apply List.ext_getElem (by rw [List.length_map]; exact h.1)
  intro i h1 h2
  rw [List.getElem_map]
  exact h.2 i _ _ (List.getElem?_eq_getElem h1) (List.getElem?_eq_getElem (by rw [List.length_map] at h2; exact h2))
theorem LsA.same {α : Type} {R : RA α} [Mv R] {P : Addr → Prop} {H H' : Hp} {l : Addr} {xs : List α} (h : LsA R P H l xs) (g : Same H H') : LsA R P H' l xs := let ⟨vs, e, r⟩ := h; ⟨vs, g _ _ e, r.imp fun _ _ q => mvS q g⟩
theorem LsA.any {α : Type} {R : RA α} [Mv R] {P : Addr → Prop} {H : Hp} {l : Addr} {xs : List α} (h : LsA R P H l xs) : LsA R An H l xs := let ⟨vs, e, r⟩ := h; ⟨vs, e, r.imp fun _ _ q => mvA q⟩
theorem LsA.mono {α : Type} {R : RA α} [Mv R] {P P' : Addr → Prop} {H : Hp} {l : Addr} {xs : List α} (h : LsA R P H l xs) (g : ∀ a, P a → P' a) : LsA R P' H l xs := let ⟨vs, e, r⟩ := h; ⟨vs, e, r.imp fun _ _ q => mvP q g⟩
theorem LsA.sq {α : Type} {R : RA α} [Mv R] {P : Addr → Prop} {H H' : Hp} {l : Addr} {xs : List α} (h : LsA R P H l xs) (g : ∀ a o, isSq o = true → H a = some o → H' a = some o) : LsA R P H' l xs := let ⟨vs, e, r⟩ := h; ⟨vs, g _ _ rfl e, r.imp fun _ _ q => mvX q g⟩
theorem LsA.put {α : Type} {R : RA α} [Mv R] {P : Addr → Prop} {H : Hp} {l : Addr} {vs : List V} {xs : List α} {v : V} {x : α} (n : ¬ P l) (r : A2 (R P H) vs xs) (h : R P H v x) : LsA R P (L2.upd H l (.lst (vs ++ [v]))) l (xs ++ [x]) :=
  ⟨_, upd_same, (r.snoc h).imp fun _ _ q => mvU q n _⟩
theorem LsA.new {α : Type} {R : RA α} {P : Addr → Prop} {H : Hp} {l : Addr} : LsA R P (L2.upd H l (.lst [])) l ([] : List α) := ⟨[], upd_same, A2.nil⟩
end Sw
namespace L2
open PySem PySem.Spec PyProof.Rows XH Sw Hm
/-- a comprehension without a test, whatever is walked -/
theorem comp_R {J : It} {β : Type} {n : Nat} {js : List Nat} {te : TE} {σ : L2.St} {H1 : Hp} {Q : VK} (R : RA β) [Mv R] (Z : Addr → Prop) (f : Nat → β) (hz : n ≤ sizeLine) (hZ : ∀ a, Z a → H1 a ≠ none)
    (hgo : ∀ i H2, Same H1 H2 → i < n → J.go i H2) (hst : ∀ H2, Same H1 H2 → J.stop n H2)
    (step : ∀ i, i < n → ∀ H2 x H3, Same H1 H2 → J.yld i H2 x H3 → H3 = H2 ∧ ∀ Q' : VK, (∀ y H5, Same H2 H5 → R (fun a => H2 a = none ∨ Z a) H5 y (f i) → Q' y H5) → te (some x :: freesOf js σ) H2 Q')
    (fin : ∀ p H', H1 p = none → Same H1 H' → LsA R (fun a => a ≠ p ∧ (H1 a = none ∨ Z a)) H' p ((List.range n).map f) → Q (.ref p) H') : compR js te σ Q J H1 := by
  intro p hp
  refine ⟨fun i m ys H2 => i ≤ n ∧ m = n - i ∧ Same H1 H2 ∧ H2 p = some (.lst ys) ∧ A2 (R (fun a => a ≠ p ∧ (H1 a = none ∨ Z a)) H2) ys ((List.range i).map f), ⟨n, Nat.zero_le _, rfl, Sw.same_new hp _, upd_same, A2.nil⟩, ?_⟩
  rintro i m ys H2 ⟨hi, rfl, g, e, r⟩
  refine ⟨e, ?_⟩
  by_cases hin : i < n
  · refine .inr ⟨hgo i H2 g hin, ?_, fun x H3 hy => ?_⟩
    · have := r.1
      rw [List.length_map, List.length_range] at this
      omega
    obtain ⟨rfl, h2⟩ := step i hin H2 x H3 g hy
    refine h2 _ fun y H5 g5 ry => ⟨g5 _ _ e, n - (i + 1), by omega, hin, rfl, Sw.sUpd (g.trans g5) hp _, upd_same, ?_⟩
    rw [List.range_succ, List.map_append]
    have np : ¬ (p ≠ p ∧ (H1 p = none ∨ Z p)) := fun z => z.1 rfl
    refine ((r.imp fun v b q => mvS q g5).snoc (mvP ry fun a ha => ?_)).imp fun v b q => mvU q np _
    rcases ha with h | h
    · exact ⟨(fun z => by rw [z, e] at h; cases h), .inl (g.free h)⟩
    · exact ⟨fun z => hZ a h (z ▸ hp), .inr h⟩
  · have e2 : i = n := by omega
    subst e2
    exact .inl ⟨hst H2 g, fin p H2 hp g ⟨ys, e, r⟩⟩
section
variable {K : PySem.W.Frag} {β : Type} {a : Addr} {xs : List V} {n : Nat} {js : List Nat} {tc : TT} {te : TE} {σ : L2.St} {H1 : Hp} {Q : VK}
theorem comp_Rl (R : RA β) [Mv R] (Z : Addr → Prop) (f : Nat → β) (hS : SqL K H1 a xs) (hz : xs.length ≤ sizeLine) (hZ : ∀ a, Z a → H1 a ≠ none)
    (s2 : ∀ i x, xs[i]? = some x → ∀ H2, Same H1 H2 → ∀ Q' : VK, (∀ y H5, Same H2 H5 → R (fun a => H2 a = none ∨ Z a) H5 y (f i) → Q' y H5) → te (some x :: freesOf js σ) H2 Q')
    (fin : ∀ p H', H1 p = none → Same H1 H' → LsA R (fun a => a ≠ p ∧ (H1 a = none ∨ Z a)) H' p ((List.range xs.length).map f) → Q (.ref p) H') : compR js te σ Q (Itl K a) H1 := by
  refine comp_R R Z f hz hZ (fun i H2 g hi => ⟨xs, xs[i], g.seq hS, List.getElem?_eq_getElem hi⟩) (fun H2 g => ⟨xs, g.seq hS, Nat.le_refl _⟩) (fun i hi H2 x H3 g hy => ?_) fin
  obtain ⟨rfl, hx⟩ := hy
  exact ⟨rfl, s2 i x (hx xs (g.seq hS)) _ g⟩
theorem comp_RrH {hd : Option Value} (R : RA β) [Mv R] (Z : Addr → Prop) (f : Nat → β) (hok : HdOk hd H1) (hz : n ≤ sizeLine) (hZ : ∀ a, Z a → H1 a ≠ none)
    (s2 : ∀ i : Nat, i < n → ∀ H2, Same H1 H2 → ∀ Q' : VK, (∀ y H5, Same H2 H5 → R (fun a => H2 a = none ∨ Z a) H5 y (f i) → Q' y H5) → te (some (.int (0 + (i : Int))) :: freesOf js σ) H2 Q')
    (fin : ∀ p H', H1 p = none → Same H1 H' → LsA R (fun a => a ≠ p ∧ (H1 a = none ∨ Z a)) H' p ((List.range n).map f) → Q (.ref p) H') : compR js te σ Q (ItrH hd 0 n) H1 := by
  refine comp_R R Z f hz hZ (fun i H2 g hi => hi) (fun H2 g => ⟨Nat.le_refl n, hdSame hok g⟩) (fun i hi H2 x H3 g hy => ?_) fin
  obtain ⟨rfl, rfl⟩ := hy
  exact ⟨rfl, s2 i hi _ g⟩
end
end L2
namespace Sw
open PySem L2 XH Hm
/-! ### things alike -/
def AllSmp (xs : List V) : Prop := ∀ x ∈ xs, Smp x
theorem alk_refl {K : PySem.W.Frag} {H : Hp} {xs : List V} (h : AllSmp xs) : All2 (Alk K H 0) xs xs := all2_at rfl fun i x y h1 h2 => by
  rw [h1] at h2
  cases h2
  exact ⟨rfl, h x (List.mem_of_getElem? h1)⟩
theorem alk_tup {α : Type} {f : α → List V} {K : PySem.W.Frag} {P P' : Addr → Prop} {H : Hp} {v w : V} {x : α} (hs : AllSmp (f x)) (h : rTup f P H v x) (k : rTup f P' H w x) : Alk K H 1 v w := by
  obtain ⟨t, rfl, _, e⟩ := h
  obtain ⟨t', rfl, _, e'⟩ := k
  exact .inr ⟨t, t', _, _, rfl, rfl, .inl ⟨SqT.of e, SqT.of e'⟩, alk_refl hs⟩
theorem alk_A2 {α : Type} {R : RA α} {K : PySem.W.Frag} {P P' : Addr → Prop} {H : Hp} {n : Nat} {vs ws : List V} {xs : List α} (f : ∀ v w x, x ∈ xs → R P H v x → R P' H w x → Alk K H n v w) (h : A2 (R P H) vs xs) (k : A2 (R P' H) ws xs) : All2 (Alk K H n) vs ws :=
  all2_at (h.1.trans k.1.symm) fun i v w e1 e2 => by
    obtain ⟨x, hx, q⟩ := h.at_ e1
    exact f v w x (List.mem_of_getElem? hx) q (k.2 i w x e2 hx)
end Sw
set_option Elab.async false
set_option linter.all false
set_option maxRecDepth 100000
namespace Sw
open PySem L2 XH PySem.NumText
/-! ### names -/
def letT : Str := "abcdefghijklmnopqrstuvwxyz"
def Nm (z : Str) : Prop := 1 ≤ (sL z).length ∧ (sL z).length ≤ 12 ∧ ∀ c ∈ sL z, 97 ≤ c ∧ c ≤ 122
theorem let_mem (c : Nat) : (!(Builtin.Str.occurrences letT (mkS [c]) 0 letT.length 1).isEmpty) = decide (97 ≤ c ∧ c ≤ 122) := by
  rw [in_one]
  have e : sL letT = (List.range 26).map (97 + ·) := by decide
  rw [e]
  apply decide_eq_decide.mpr
  constructor
  · intro h
    obtain ⟨i, hi, rfl⟩ := List.mem_map.mp h
    have := List.mem_range.mp hi
    omega
  · intro h
    exact List.mem_map.mpr ⟨c - 97, List.mem_range.mpr (by omega), by omega⟩
def spIsName (K : PySem.W.Frag) : Sp := fun vs H Q _ => ∃ x : V, vs = [x] ∧ ((∃ z : Str, x = .str z ∧ z.length ≤ 1000000 ∧ (Nm z → Q (.bl true) H) ∧ (¬ Nm z → Q (.bl false) H)) ∨ ∃ ty, TyOf K H x ty ∧ PySem.W.kitOne K ty (.type "str") = some false ∧ Q (.bl false) H)
end Sw
set_option Elab.async false
set_option linter.all false
set_option maxRecDepth 100000
namespace Sw
open PySem L2 XH Hm
/-! ### nets with tools and uses -/
abbrev Us := Str × Int × Int
abbrev Wy := Int × Int × List Us
abbrev Tk := List (List Wy)
abbrev Tl := List (Str × Int)
def useV (u : Us) : List V := [.str u.1, .int u.2.1, .int u.2.2]
abbrev rUse : RA Us := rTup useV
def rWay : RA Wy := fun P H v w => ∃ t u : Addr, v = .ref t ∧ P t ∧ P u ∧ H t = some (.tup [.int w.1, .int w.2.1, .ref u]) ∧ LsA rUse P H u w.2.2
instance : Mv rWay where
  mv := fun {P P' H H' v x} g h => by
    obtain ⟨t, u, rfl, p, p2, e, vs, e2, r⟩ := h
    obtain ⟨q, e'⟩ := g t _ p rfl e
    obtain ⟨q2, e2'⟩ := g u _ p2 rfl e2
    exact ⟨t, u, rfl, q, q2, e', vs, e2', r.imp fun _ _ k => Mv.mv g k⟩
abbrev rTask : RA (List Wy) := rLst rWay
def toolK (D : Tl) : List (Key × V) := D.map fun p => (.inr p.1, .int p.2)
def manyOf (D : Tl) (z : Str) : Option Int := (D.find? fun p => decide (p.1 = z)).map (·.2)
theorem toolK_len (D : Tl) : (toolK D).length = D.length := List.length_map _
theorem toolK_at {D : Tl} {i : Nat} {k : Key} {x : V} (h : (toolK D)[i]? = some (k, x)) : ∃ p, D[i]? = some p ∧ k = .inr p.1 ∧ x = .int p.2 := by
  unfold toolK at h
  rw [List.getElem?_map] at h
  obtain ⟨p, e, q⟩ := Option.map_eq_some_iff.mp h
  cases q
  exact ⟨p, e, rfl, rfl⟩
theorem manyOf_cons (p : Str × Int) (D : Tl) (z : Str) : manyOf (p :: D) z = if p.1 = z then some p.2 else manyOf D z := by
  unfold manyOf
  rw [List.find?_cons]
  by_cases h : p.1 = z
  · rw [decide_eq_true h, if_pos h]; rfl
  · rw [decide_eq_false h, if_neg h]
theorem toolK_val (z : Str) : ∀ D : Tl, valV (toolK D) (.inr z) = (manyOf D z).map V.int
  | [] => rfl
  | p :: D => by
    rw [manyOf_cons]
    show valV (((.inr p.1 : Key), V.int p.2) :: toolK D) _ = _
    by_cases h : p.1 = z
    · rw [if_pos h, valV_pos (by show (Sum.inr p.1 : Key) = _; rw [h])]; rfl
    · rw [if_neg h, valV_neg (by intro e; exact h (by injection e)), toolK_val z D]
def UsOk (D : Tl) (us : List Us) : Prop := (us.map (·.1)).Nodup ∧ us.length ≤ 100 ∧ ∀ e ∈ us, ∃ m, manyOf D e.1 = some m ∧ 1 ≤ e.2.1 ∧ e.2.1 ≤ m ∧ 0 ≤ e.2.2 ∧ e.2.2 ≤ 1000000000
def WsOk (D : Tl) (ws : List Wy) : Prop := 1 ≤ ws.length ∧ ws.length ≤ 2 ∧ ∀ w ∈ ws, 1 ≤ w.1 ∧ w.1 ≤ w.2.1 ∧ w.2.1 ≤ 1000000000 ∧ UsOk D w.2.2
structure NetOkG (D : Tl) (T : Tk) (A B : List Ky) (n : Int) : Prop where
  d12 : D.length ≤ 12
  dnd : (D.map (·.1)).Nodup
  tool : ∀ p ∈ D, Nm p.1 ∧ 1 ≤ p.2 ∧ p.2 ≤ 8
  t24 : T.length ≤ 24
  ways : ∀ ws ∈ T, WsOk D ws
  n0 : 0 ≤ n
  n8 : n ≤ 8
  a600 : A.length ≤ 600
  arcs : ∀ k ∈ A, ∃ p q g : Int, k = [p, q, g] ∧ 0 ≤ p ∧ p < 2 * (T.length : Int) + n ∧ 0 ≤ q ∧ q < 2 * (T.length : Int) + n ∧ -1000000000 ≤ g ∧ g ≤ 1000000000
  b300 : B.length ≤ 300
  pairs : ∀ k ∈ B, ∃ p q : Int, k = [p, q] ∧ 0 ≤ p ∧ p < (T.length : Int) ∧ 0 ≤ q ∧ q < (T.length : Int) ∧ p ≠ q
/-- a thing as it is, or (f) one that is walked -/
def TD (f : Bool) (H : Hp) (a : Addr) (u : HO) : Prop := H a = some u ∨ (f = true ∧ ∃ o, H a = some (.frz o u))
theorem TD.same {f : Bool} {H H' : Hp} {a : Addr} {u : HO} (h : TD f H a u) (g : Same H H') : TD f H' a u := h.elim (fun e => .inl (g _ _ e)) fun ⟨e, o, k⟩ => .inr ⟨e, o, g _ _ k⟩
structure NetG (C : Addr) (f : Bool) (H : Hp) (x : Addr) (D : Tl) (T : Tk) (A B : List Ky) (n : Int) : Prop where
  ex : ∃ (dx td tl al pl : Addr) (fs : List (Str × V)), H x = some (.ins C dx fs) ∧ fs.lookup ("tools" : Str) = some (.ref td) ∧ fs.lookup ("tasks" : Str) = some (.ref tl) ∧ fs.lookup ("arcs" : Str) = some (.ref al) ∧ fs.lookup ("apart" : Str) = some (.ref pl) ∧ fs.lookup ("moments" : Str) = some (.int n) ∧
    TD f H td (.dK (toolK D)) ∧ LsA rTask An H tl T ∧ TupsA H al A ∧ TupsA H pl B
theorem NetG.same {C : Addr} {f : Bool} {H H' : Hp} {x : Addr} {D : Tl} {T : Tk} {A B : List Ky} {n : Int} (h : NetG C f H x D T A B n) (g : Same H H') : NetG C f H' x D T A B n := by
  obtain ⟨dx, td, tl, al, pl, fs, a, b1, b2, b3, b4, b5, c, d, e, k⟩ := h.ex
  exact ⟨dx, td, tl, al, pl, fs, g _ _ a, b1, b2, b3, b4, b5, c.same g, d.same g, e.same g, k.same g⟩
theorem NetG.any {C : Addr} {f : Bool} {H : Hp} {x : Addr} {D : Tl} {T : Tk} {A B : List Ky} {n : Int} (h : NetG C f H x D T A B n) : NetG C true H x D T A B n := by
  obtain ⟨dx, td, tl, al, pl, fs, a, b1, b2, b3, b4, b5, c, d, e, k⟩ := h.ex
  exact ⟨dx, td, tl, al, pl, fs, a, b1, b2, b3, b4, b5, c.elim .inl (fun ⟨_, o, q⟩ => .inr ⟨rfl, o, q⟩), d, e, k⟩
theorem thaw_same {H H' : Hp} {d : Addr} {kvs : List (Key × V)} {o : Obj} (e : H d = some (.dK kvs)) (g : Same (upd H d (.frz o (.dK kvs))) H') : Same H (upd H' d (.dK kvs)) := fun a u h => by
  by_cases z : a = d
  · subst z
    rw [e] at h
    cases h
    exact upd_same
  · rw [upd_ne z]
    exact g a u (by rw [upd_ne z]; exact h)
/-! ### the net's own defs -/
def spCopyG : Sp := fun vs H Q _ => ∃ (l : Addr) (ws : List Wy) (P0 : Addr → Prop), vs = [.ref l] ∧ LsA rWay P0 H l ws ∧ ws.length ≤ 2 ∧ ∀ (p : Addr) (H' : Hp), Same H H' → H p = none → rTask (fun a => H a = none ∨ P0 a) H' (.ref p) ws → Q (.ref p) H'
def spRToolsG : Sp := fun vs H Q _ => ∃ (td : Addr) (D : Tl), vs = [.ref td] ∧ H td = some (.dK (toolK D)) ∧ D.length ≤ 12 ∧ (∀ p ∈ D, Nm p.1 ∧ 1 ≤ p.2 ∧ p.2 ≤ 8) ∧ ∀ H', Same H H' → Q .non H'
def spRUsesG : Sp := fun vs H Q _ => ∃ (u td : Addr) (D : Tl) (us : List Us), vs = [.ref u, .ref td] ∧ LsA rUse An H u us ∧ H td = some (.dK (toolK D)) ∧ UsOk D us ∧ ∀ H', Same H H' → Q .non H'
def spRTasksG : Sp := fun vs H Q _ => ∃ (tl td : Addr) (D : Tl) (T : Tk), vs = [.ref tl, .ref td] ∧ LsA rTask An H tl T ∧ H td = some (.dK (toolK D)) ∧ T.length ≤ 24 ∧ (∀ ws ∈ T, WsOk D ws) ∧ ∀ H', Same H H' → Q .non H'
def spRPairsG : Sp := fun vs H Q _ => ∃ (pl : Addr) (m : Int) (B : List Ky), vs = [.ref pl, .int m] ∧ TupsA H pl B ∧ B.length ≤ 300 ∧ (∀ k ∈ B, ∃ p q : Int, k = [p, q] ∧ 0 ≤ p ∧ p < m ∧ 0 ≤ q ∧ q < m ∧ p ≠ q) ∧ Q .non H
def spPointsG (C : Addr) : Sp := fun vs H Q _ => ∃ (x : Addr) (n : Int) (f : Bool) (D : Tl) (T : Tk) (A B : List Ky), vs = [.ref x] ∧ NetG C f H x D T A B n ∧ Q (.int (2 * (T.length : Int) + n)) H
/-- the pairs that are handed in: a list, or None -/
def ApV (H : Hp) (v : V) (B : List Ky) : Prop := (v = .non ∧ B = []) ∨ ∃ pl, v = .ref pl ∧ TupsA H pl B
def spNetG (C : Addr) : Sp := fun vs H Q _ => ∃ (x dx td tl al : Addr) (v : V) (n : Int) (D : Tl) (T : Tk) (A B : List Ky), vs = [.ref x, .ref td, .ref tl, .ref al, v, .int n] ∧ H x = some (.ins C dx []) ∧ H td = some (.dK (toolK D)) ∧ LsA rTask An H tl T ∧ TupsA H al A ∧ ApV H v B ∧ NetOkG D T A B n ∧
  ∀ H', (∀ a o, a ≠ x → H a = some o → H' a = some o) → NetG C false H' x D T A B n → Q .non H'
theorem LsA.fx {α : Type} {R : RA α} [Mv R] {x : Addr} {H H' : Hp} {l : Addr} {T : List α} {C dx : Addr} {fs : List (Str × V)} (h : LsA R An H l T) (ex : H x = some (.ins C dx fs)) (g : Fx x H H') : LsA R An H' l T :=
  h.sq fun a o s e => g a o (fun z => by rw [z, ex] at e; cases e; cases s) e
/-! ### plans -/
structure PlanOkG (T : Tk) (R : List Rn) : Prop where
  len : R.length = T.length
  way : ∀ (i : Nat) (r : Rn) (ws : List Wy), R[i]? = some r → T[i]? = some ws → 0 ≤ r.2.2 ∧ r.2.2 < (ws.length : Int)
def usF (w : Wy) (z : Str) : Option Us := w.2.2.find? fun u => decide (u.1 = z)
def manyIn (w : Wy) (z : Str) : Int := match usF w z with
  | some u => u.2.1
  | none => 0
def wayF (T : Tk) (R : List Rn) (i : Nat) : Wy := (T.getD i []).getD (R.getD i (0, 0, 0)).2.2.toNat (0, 0, [])
def goesF (r : Rn) (t : Int) : Bool := decide (r.1 ≤ t) && decide (t < r.2.1)
def meetF (r s : Rn) : Bool := decide (r.1 < s.2.1) && decide (s.1 < r.2.1)
def usedF (T : Tk) (R : List Rn) (z : Str) (t : Int) : Nat → Int
  | 0 => 0
  | n + 1 => usedF T R z t n + (if goesF (R.getD n (0, 0, 0)) t = true then manyIn (wayF T R n) z else 0)
/-! ### what the plans' defs promise -/
section
variable (C : Addr)
def spMeet : Sp := fun vs H Q _ => ∃ (t u : Addr) (r s : Rn), vs = [.ref t, .ref u] ∧ H t = some (.tup ((rk r).map V.int)) ∧ H u = some (.tup ((rk s).map V.int)) ∧ Q (.bl (meetF r s)) H
end
end Sw
namespace L2
open PySem PySem.Spec PyProof.Rows XH Sw
/-- for, over the pairs of a dict -/
theorem for_items {a : Addr} {o : Obj} {kvs : List (Key × V)} {g : TG} {tb : TS} {D : Ends} {σ : St} {H : Hp} (Pv : Nat → St → Hp → Prop) (h0 : Pv 0 σ H) (hz : ∀ i σ H, i ≤ kvs.length → Pv i σ H → H a = some (.frz o (.dK kvs)))
    (hs : ∀ i k x σ H T, kvs[i]? = some (k, x) → Pv i σ H → H T = none → g (.ref T) σ (upd H T (.tup [kV k, x])) fun σ2 H2 => tb { D with nx := Pv (i + 1), ct := Pv (i + 1), bk := D.nx } σ2 H2) (hd : ∀ σ H, Pv kvs.length σ H → D.nx σ H) :
    ∃ W : Nat → Nat → St → Hp → Prop, (∃ m, W 0 m σ H) ∧ ∀ i m σ H, W i m σ H →
      ((Itm a o kvs).stop i H ∧ D.nx σ H) ∨ ((Itm a o kvs).go i H ∧ ∃ N : St → Hp → Prop, (∀ σ' H', N σ' H' → ∃ m', m' < m ∧ W (i + 1) m' σ' H') ∧ ∀ x H', (Itm a o kvs).yld i H x H' → g x σ H' fun σ2 H2 => tb { D with nx := N, ct := N, bk := D.nx } σ2 H2) := by
  refine ⟨fun i m σ H => m = kvs.length - i ∧ i ≤ kvs.length ∧ Pv i σ H, ⟨kvs.length, by simp, Nat.zero_le _, h0⟩, ?_⟩
  rintro i m σ H ⟨rfl, hi, p⟩
  by_cases hlt : i < kvs.length
  · refine .inr ⟨⟨hz i σ H hi p, hlt⟩, Pv (i + 1), fun σ' H' p' => ⟨kvs.length - (i + 1), by omega, rfl, hlt, p'⟩, fun x H' y => ?_⟩
    obtain ⟨T, k, v, rfl, nT, hk, rfl⟩ := y
    exact hs i k v σ H T hk p nT
  · have e : i = kvs.length := by omega
    subst e
    exact .inl ⟨⟨hz _ σ H hi p, rfl⟩, hd σ H p⟩
end L2
namespace Sw
open PySem L2 XH Hm
theorem rng_getD {α : Type} (xs : List α) (d : α) : (List.range xs.length).map (fun i => xs.getD i d) = xs := by
  apply List.ext_getElem
  · rw [List.length_map, List.length_range]
  · intro i h1 h2
    rw [List.getElem_map, List.getElem_range, getDo (List.getElem?_eq_getElem h2)]
theorem rng_getD' {α : Type} {n : Nat} (xs : List α) (d : α) (h : n = xs.length) : (List.range n).map (fun i => xs.getD i d) = xs := by
  subst h
  exact rng_getD xs d
theorem dgTool {H : Hp} {td : Addr} {D : Tl} {z : Str} {m : Int} (e : Rd H td (.dK (toolK D))) (h : manyOf D z = some m) : DGet H td (.str z) (some (.int m)) :=
  .inl ⟨_, .inr z, e, rfl, by rw [toolK_val, h]; rfl⟩
end Sw
set_option Elab.async false
set_option linter.all false
set_option maxRecDepth 100000
namespace Sw
open PySem L2 XH Hm
theorem find_ok {z : Str} {us : List Us} {e : Us} (h : us.find? (fun u => decide (u.1 = z)) = some e) : e ∈ us ∧ e.1 = z := by
  refine ⟨List.mem_of_find?_eq_some h, ?_⟩
  have := List.find?_some h
  simpa using this
theorem way_at {H : Hp} {T : Tk} {R : List Rn} {vs : List V} {bs : List Addr} (rT : A2 (rTask An H) vs T) (rR : Ref2 (fun t k => H t = some (.tup (k.map V.int))) bs (R.map rk)) (pok : PlanOkG T R) {i : Nat} (il : i < R.length) :
    ∃ (wl b : Addr) (ts : List V) (v : V) (r : Rn) (j : Nat), vs[i]? = some (.ref wl) ∧ H wl = some (.lst ts) ∧ ts[j]? = some v ∧ rWay An H v (wayF T R i) ∧ bs[i]? = some b ∧ H b = some (.tup [.int r.1, .int r.2.1, .int r.2.2]) ∧ R[i]? = some r ∧ r.2.2 = (j : Int) ∧ R.getD i (0, 0, 0) = r := by
  have hr := List.getElem?_eq_getElem il
  have iT : i < T.length := by rw [← pok.len]; exact il
  have hT := List.getElem?_eq_getElem iT
  obtain ⟨b, hb, eb⟩ := run_get rR hr
  obtain ⟨y, hy, wl, rfl, _, ts, ew, rw'⟩ := rT.get hT
  have pk := pok.way i _ _ hr hT
  generalize R[i] = r at hr eb pk
  generalize T[i] = ws at hT rw' pk
  obtain ⟨j, hj⟩ : ∃ j : Nat, r.2.2 = (j : Int) := ⟨r.2.2.toNat, by omega⟩
  have hw := List.getElem?_eq_getElem (show j < ws.length by omega)
  obtain ⟨v, hv, q⟩ := rw'.get hw
  have e : wayF T R i = ws[j]'(by omega) := by
    unfold wayF
    rw [getDo hT, getDo hr, hj, Int.toNat_natCast, getDo hw]
  exact ⟨wl, b, ts, v, r, j, hy, ew, hv, by rw [e]; exact q, hb, eb, hr, hj, getDo hr⟩
/-- a use, or None -/
def rOptU : RA (Option Us) := fun P H v o => match o with
  | none => v = .non
  | some u => rUse P H v u
instance : Mv rOptU where
  mv := fun {P P' H H' v x} g h => by
    cases x with
    | none => exact h
    | some u => exact Mv.mv (R := rUse) g h
/-- the uses that a net's way has for a tool, where no tool is used twice -/
theorem usF_none {w : Wy} {z : Str} (h : usF w z = none) : manyIn w z = 0 := by unfold manyIn; rw [h]
theorem usF_some {w : Wy} {z : Str} {u : Us} (h : usF w z = some u) : manyIn w z = u.2.1 := by unfold manyIn; rw [h]
end Sw
set_option Elab.async false
set_option linter.all false
set_option maxRecDepth 100000
namespace Sw
open PySem L2 XH
/-! ### larders: names refused -/
end Sw
set_option Elab.async false
set_option linter.all false
set_option maxRecDepth 100000
namespace Sw
open PySem L2 PyProof.Rows So
end Sw
set_option Elab.async false
set_option linter.all false
set_option maxRecDepth 100000
namespace Sw
open PySem L2 XH PyProof.Rows
end Sw
namespace Sw
open PySem L2 XH PyProof.Rows
end Sw
set_option Elab.async false
set_option linter.all false
set_option maxRecDepth 100000
namespace Sw
open PySem L2 XH PyProof.Rows
/-! ### steps with their uses and second ways -/
end Sw
set_option Elab.async false
set_option linter.all false
set_option maxRecDepth 100000
namespace L2
open PySem PySem.Spec PyProof.Rows XH Sw
end L2
namespace Sw
open PySem L2 XH PyProof.Rows
end Sw
set_option Elab.async false
set_option linter.all false
set_option maxRecDepth 100000
namespace L2
open PySem PySem.Spec PyProof.Rows XH Sw
/-! ### long lists of constants and small displays -/
section
variable {X : Cx} {es es' : List Expr} {t t' : TA} {p : Pos} 
end
section
variable {X : Cx} {k j : Nat} {f C : Addr} {ps : List Str} {sp : Sp} {dvs : List V} {x m : Str} {p pos apos : Pos} {e o : Expr} {es : List Expr} {ta tb : TE} {t : TA} {E : L2.St → XK}
end
end L2
set_option Elab.async false
set_option linter.all false
set_option maxRecDepth 100000
namespace L2
open PySem PySem.Spec PyProof.Rows XH Sw
/-! ### pairs of texts in a list of such -/
section
variable {X : Cx} {pins : List (Addr × Obj)} {σ : St} {H : Hp} {s : Shared}
end
end L2
set_option Elab.async false
set_option linter.all false
set_option maxRecDepth 100000
namespace Sw
open PySem L2 XH PyProof.Rows
/-! ### names by letters -/
def Lt (z : Str) : Prop := ∀ c ∈ sL z, 97 ≤ c ∧ c ≤ 122
theorem Lt.app {x y : Str} (h : Lt x) (k : Lt y) : Lt (x ++ y) := fun c hc => by
  rw [sL_app] at hc
  rcases List.mem_append.mp hc with q | q
  · exact h c q
  · exact k c q
theorem Lt.cut {x : Str} (h : Lt x) (lo hi : Option Int) : Lt (cutS x lo hi) := fun c hc => by
  have hc' : c ∈ ((sL x).drop (HT.sIx x.length 0 lo)).take (HT.sIx x.length x.length hi - HT.sIx x.length 0 lo) := by simpa [sL, cutS] using hc
  exact h c (List.mem_of_mem_drop (List.mem_of_mem_take hc'))
theorem Lt.nil : Lt "" := fun c hc => by
  have : c ∈ ([] : List Nat) := hc
  simp at this
theorem Lt.one {c : Nat} (h : 97 ≤ c ∧ c ≤ 122) : Lt ⟨#[c]⟩ := fun d hd => by
  have : d ∈ [c] := hd
  rw [List.mem_singleton.mp this]
  exact h
theorem cutS_hi {x : Str} {i : Int} (h : 0 ≤ i) : (cutS x none (some i)).length = min i.toNat x.length := by
  have e1 : HT.sIx x.length 0 none = 0 := rfl
  have e2 : HT.sIx x.length x.length (some i) = min i.toNat x.length := by
    unfold HT.sIx
    simp
    omega
  show ((x.cps.toList.drop _).take _).toArray.size = _
  rw [e1, e2, List.size_toArray, List.length_take, List.length_drop]
  have : x.cps.toList.length = x.length := by simp [Str.length]
  omega
theorem cutS_lo {x : Str} {i : Int} (h : 0 ≤ i) : (cutS x (some i) none).length = x.length - i.toNat := by
  have e1 : HT.sIx x.length 0 (some i) = min i.toNat x.length := by
    unfold HT.sIx
    simp
    omega
  have e2 : HT.sIx x.length x.length none = x.length := rfl
  show ((x.cps.toList.drop _).take _).toArray.size = _
  rw [e1, e2, List.size_toArray, List.length_take, List.length_drop]
  have : x.cps.toList.length = x.length := by simp [Str.length]
  omega
theorem Lt.nm {z : Str} (h : Lt z) (h1 : 1 ≤ z.length) (h2 : z.length ≤ 12) : Nm z := ⟨by rw [sL_len]; exact h1, by rw [sL_len]; exact h2, h⟩
end Sw
set_option Elab.async false
set_option linter.all false
set_option maxRecDepth 100000
namespace L2
open PySem PySem.Spec PyProof.Rows XH Sw
end L2
namespace Sw
open PySem L2 XH Hm PySem.NumText
/-! ### tools of the laws' nets -/
end Sw
namespace L2
open PySem PySem.Spec PyProof.Rows XH Sw
end L2
set_option Elab.async false
set_option linter.all false
set_option maxRecDepth 100000
namespace Sw
open PySem L2 XH Hm
/-! ### the law on tools at turns -/
theorem A2.rev {α : Type} {R : V → α → Prop} {vs : List V} {xs : List α} (h : A2 R vs xs) : A2 R vs.reverse xs.reverse := by
  refine ⟨by simp [h.1], fun i v x e1 e2 => ?_⟩
  have il : i < vs.length := by
    have := (List.getElem?_eq_some_iff.mp e1).1
    simpa using this
  rw [List.getElem?_reverse il] at e1
  rw [List.getElem?_reverse (by rw [← h.1]; exact il), ← h.1] at e2
  exact h.2 _ v x e1 e2
def sumL (z : Str) : List Us → Int
  | [] => 0
  | u :: us => (if u.1 = z then u.2.1 else 0) + sumL z us
theorem sumL_app (z : Str) : ∀ us vs : List Us, sumL z (us ++ vs) = sumL z us + sumL z vs
  | [], vs => by simp [sumL]
  | u :: us, vs => by
    show (if u.1 = z then u.2.1 else 0) + sumL z (us ++ vs) = _
    rw [sumL_app z us vs]
    show _ = (if u.1 = z then u.2.1 else 0) + sumL z us + sumL z vs
    omega
theorem sumL_no {z : Str} : ∀ {us : List Us}, z ∉ us.map (·.1) → sumL z us = 0
  | [], _ => rfl
  | u :: us, h => by
    rw [List.map_cons, List.mem_cons, not_or] at h
    show (if u.1 = z then u.2.1 else 0) + sumL z us = 0
    rw [if_neg (fun e => h.1 e.symm), sumL_no h.2]
    rfl
theorem sumL_many {z : Str} : ∀ {us : List Us}, (us.map (·.1)).Nodup → sumL z us = match us.find? (fun u => decide (u.1 = z)) with
    | some u => u.2.1
    | none => 0
  | [], _ => rfl
  | u :: us, nd => by
    rw [List.map_cons, List.nodup_cons] at nd
    rw [List.find?_cons]
    show (if u.1 = z then u.2.1 else 0) + sumL z us = _
    by_cases h : u.1 = z
    · rw [decide_eq_true h, if_pos h, sumL_no (by rw [← h]; exact nd.1)]
      simp
    · rw [decide_eq_false h, if_neg h, sumL_many nd.2]
      simp
theorem sumL_way {w : Wy} {z : Str} (nd : (w.2.2.map (·.1)).Nodup) : sumL z w.2.2 = manyIn w z := sumL_many nd
theorem take_snocG {α : Type} {us : List α} {i : Nat} {u : α} (h : us[i]? = some u) : us.take (i + 1) = us.take i ++ [u] := by
  rw [List.take_add_one, h]
  rfl
theorem sumL_take {z : Str} {us : List Us} {i : Nat} {u : Us} (h : us[i]? = some u) : sumL z (us.take (i + 1)) = sumL z (us.take i) + (if u.1 = z then u.2.1 else 0) := by
  rw [take_snocG h, sumL_app]
  show _ + ((if u.1 = z then u.2.1 else 0) + 0) = _
  omega
end Sw
set_option Elab.async false
set_option linter.all false
set_option maxRecDepth 100000
namespace Sw
open PySem L2 XH Hm
/-! ### chains: what counts between two points, totals -/
end Sw
set_option Elab.async false
set_option linter.all false
set_option maxRecDepth 100000
namespace Sw
open PySem L2 XH Hm
/-! ### walks back along what is kept of a raise -/
/-! lists of such walks -/
/-! ### totals of such walks, told from their ends -/
end Sw
namespace L2
open PySem PySem.Spec PyProof.Rows XH Sw Hm
/-- != of two lists alike -/
theorem op_neA {X : Cx} (n : Nat) (hu : X.A.units + (n + 1) < cLine) : OpR X (compareOp .NotEq) (fun x y H Q => ∃ a b xs ys, x = .ref a ∧ y = .ref b ∧ SqL X.K H a xs ∧ SqL X.K H b ys ∧ All2 (Alk X.K H n) xs ys ∧ Q (.bl false) H) := by
  intro pins s σ H x y v u Q I rx ry h
  obtain ⟨a, b, xs, ys, rfl, rfl, h1, h2, hA, hq⟩ := h
  cases rx
  cases ry
  obtain ⟨i1, v1, p1, _⟩ := I.list h1
  obtain ⟨i2, v2, p2, _⟩ := I.list h2
  refine SeqAt.RcNeAt.lists (e := fun _ => true) p1.isList p2.isList (by simp [← v1.length, ← v2.length, hA.len]) (by omega) (fun j g1 g2 => ?_) _ _ _ _ ⟨.bl false, H, I, by show Value.bool _ = Value.bool _; simp, hq⟩
  exact all2_eq (A := X.A.in1) (s := s) (fun x y u w => alk_eq I n X.A.in1 x y u w (by show X.A.units + 1 + n < _; omega)) hA v1 v2 j (by simpa using g1) (by simpa using g2)
end L2
set_option Elab.async false
set_option linter.all false
set_option maxRecDepth 100000
namespace L2
open PySem PySem.Spec PyProof.Rows XH Sw
section
variable {X : Cx}
theorem call_minL (hc : X.calm = true) : CallR X (.builtin "min") (fun xs H Q => ∃ (a : Addr) (ns : List Int), xs = [.ref a] ∧ SqL X.K H a (ns.map V.int) ∧ ns ≠ [] ∧ ∀ M : Int, M ∈ ns → (∀ z ∈ ns, M ≤ z) → Q (.int M) H) := by
  intro pins s σ H xs us Q I r h
  obtain ⟨a, ns, rfl, h1, hne, q⟩ := h
  obtain ⟨u, rfl, r1⟩ := vals1 r
  cases r1
  obtain ⟨its, rv, p, hz⟩ := I.list h1
  have hi := ints_of rv
  obtain ⟨xs, e⟩ := hi.allInts.items
  have lst : xs.toList.map (·.1) = ns := by
    rw [← hi.numsOf, ← nums_intItems xs, ← e]
  have len : ns.length = xs.size := by rw [← lst, List.length_map, Array.length_toList]
  have pos : 0 < xs.size := len ▸ List.length_pos_iff.mpr hne
  refine min_intList (I.ok.hd hc) (xs := xs) (by have z := p.isList; rw [e] at z; exact z) pos fun v h' tk hv hk => ?_
  obtain ⟨t, rfl⟩ := intItems_at hv
  have best := argBest_lt (numAt xs) (xs.size - 1)
  refine ⟨.int _, H, I.kept (h' := h') (t' := tk) hk, ⟨_, rfl⟩, q _ ?_ fun z hz => ?_⟩
  · have m := best.1
    rw [← lst, numAt_eq]
    refine getD_mem ?_
    rw [lst, len]
    omega
  · rw [← lst] at hz
    obtain ⟨j, hj, rfl⟩ := mem_getD hz
    rw [lst, len] at hj
    have m := best.2 j (by omega)
    rw [← numAt_eq]
    exact m
end
/-! ### len(set(xs)), xs any numbers -/
section
variable {X : Cx} {e : Expr} {te : TE} {p1 p2 pos pos2 : Pos}
end
end L2
namespace Sw
open PySem L2 XH Hm
/-! ### cases -/
abbrev Pk := List (Option Nat)
def pkV : Option Nat → V
  | none => .non
  | some j => .int (j : Int)
def CaseA (H : Hp) (t : Addr) (P : Pk) (O : List Ky) : Prop := ∃ pl ol : Addr, H t = some (.tup [.ref pl, .ref ol]) ∧ H pl = some (.lst (P.map pkV)) ∧ TupsA H ol O
theorem CaseA.same {H H' : Hp} {t : Addr} {P : Pk} {O : List Ky} (h : CaseA H t P O) (g : Same H H') : CaseA H' t P O := by
  obtain ⟨pl, ol, a, b, c⟩ := h
  exact ⟨pl, ol, g _ _ a, g _ _ b, c.same g⟩
structure PkOk (T : Tk) (P : Pk) : Prop where
  len : P.length = T.length
  pick : ∀ (i j : Nat) (ws : List Wy), P[i]? = some (some j) → T[i]? = some ws → j < ws.length
def openF (T : Tk) (P : Pk) (i : Nat) : List Wy := match P.getD i none with
  | none => T.getD i []
  | some j => [(T.getD i []).getD j (0, 0, [])]
def minL : List Int → Int
  | [] => 0
  | [x] => x
  | x :: y :: r => if x ≤ minL (y :: r) then x else minL (y :: r)
theorem minL_spec : ∀ {l : List Int}, l ≠ [] → minL l ∈ l ∧ ∀ z ∈ l, minL l ≤ z
  | [], h => absurd rfl h
  | [x], _ => by simp [minL]
  | x :: y :: r, _ => by
    have ih := minL_spec (l := y :: r) nofun
    unfold minL
    by_cases c : x ≤ minL (y :: r)
    · rw [if_pos c]
      refine ⟨List.mem_cons_self, fun z hz => ?_⟩
      rcases List.mem_cons.mp hz with e | e
      · rw [e]; exact Int.le_refl _
      · have := ih.2 z e
        omega
    · rw [if_neg c]
      refine ⟨List.mem_cons_of_mem _ ih.1, fun z hz => ?_⟩
      rcases List.mem_cons.mp hz with e | e
      · rw [e]; omega
      · exact ih.2 z e
theorem minL_of {l : List Int} {m : Int} (hm : m ∈ l) (h : ∀ z ∈ l, m ≤ z) : m = minL l := by
  have hne : l ≠ [] := fun e => by rw [e] at hm; cases hm
  obtain ⟨a, b⟩ := minL_spec hne
  have := h _ a
  have := b _ hm
  omega
theorem open_ne {D : Tl} {T : Tk} {P : Pk} {i : Nat} (hT : ∀ ws ∈ T, WsOk D ws) (il : i < T.length) : openF T P i ≠ [] := by
  unfold openF
  cases P.getD i none with
  | none =>
    rw [getDo (List.getElem?_eq_getElem il)]
    have := (hT _ (List.getElem_mem il)).1
    intro (e : T[i] = [])
    rw [e] at this
    simp at this
  | some j => exact nofun
theorem open_len {D : Tl} {T : Tk} {P : Pk} {i : Nat} (hT : ∀ ws ∈ T, WsOk D ws) (il : i < T.length) : (openF T P i).length ≤ 2 := by
  unfold openF
  cases P.getD i none with
  | none =>
    rw [getDo (List.getElem?_eq_getElem il)]
    exact (hT _ (List.getElem_mem il)).2.1
  | some j => exact Nat.le_of_ble_eq_true rfl
theorem open_ok {D : Tl} {T : Tk} {P : Pk} {i : Nat} (hT : ∀ ws ∈ T, WsOk D ws) (pk : PkOk T P) (il : i < T.length) : ∀ w ∈ openF T P i, ∃ ws ∈ T, w ∈ ws := by
  intro w hw
  unfold openF at hw
  have hTi := List.getElem?_eq_getElem il
  have hPi := List.getElem?_eq_getElem (show i < P.length by rw [pk.len]; exact il)
  rw [getDo hTi, getDo hPi] at hw
  cases hp : P[i]'(by rw [pk.len]; exact il) with
  | none =>
    rw [hp] at hw
    exact ⟨_, List.getElem_mem il, hw⟩
  | some j =>
    rw [hp] at hw hPi
    have jl := pk.pick i j _ hPi hTi
    replace hw : w ∈ [(T[i]).getD j (0, 0, [])] := hw
    rw [getDo (List.getElem?_eq_getElem jl), List.mem_singleton] at hw
    rw [hw]
    exact ⟨_, List.getElem_mem il, List.getElem_mem jl⟩
section
variable (C : Addr)
/-- a net and a case of it -/
structure NetC (f : Bool) (H : Hp) (x t : Addr) (D : Tl) (T : Tk) (A B : List Ky) (n : Int) (P : Pk) (O : List Ky) : Prop where
  net : NetG C f H x D T A B n
  case_ : CaseA H t P O
  ok : NetOkG D T A B n
  pk : PkOk T P
def CaseArgs (f : Bool) (H : Hp) (x t : Addr) (Q : Tl → Tk → List Ky → List Ky → Int → Pk → List Ky → Prop) : Prop := ∃ (D : Tl) (T : Tk) (A B : List Ky) (n : Int) (P : Pk) (O : List Ky), NetC C f H x t D T A B n P O ∧ Q D T A B n P O
def spOpen : Sp := fun vs H Q _ => ∃ (x t : Addr) (i : Nat), vs = [.ref x, .ref t, .int i] ∧ CaseArgs C true H x t fun D T A B n P O => i < T.length ∧ ∀ (p : Addr) (H' : Hp), Same H H' → H p = none → LsA rWay An H' p (openF T P i) → Q (.ref p) H'
end
theorem NetC.same {C : Addr} {f : Bool} {H H' : Hp} {x t : Addr} {D : Tl} {T : Tk} {A B : List Ky} {n : Int} {P : Pk} {O : List Ky} (h : NetC C f H x t D T A B n P O) (g : Same H H') : NetC C f H' x t D T A B n P O := ⟨h.net.same g, h.case_.same g, h.ok, h.pk⟩
theorem NetC.any {C : Addr} {f : Bool} {H : Hp} {x t : Addr} {D : Tl} {T : Tk} {A B : List Ky} {n : Int} {P : Pk} {O : List Ky} (h : NetC C f H x t D T A B n P O) : NetC C true H x t D T A B n P O := ⟨h.net.any, h.case_, h.ok, h.pk⟩
/-! ### clashes -/
section
variable (C : Addr)
end
end Sw
set_option Elab.async false
set_option linter.all false
set_option maxRecDepth 100000
namespace L2
open PySem PySem.Spec PyProof.Rows XH Sw
/-! ### pairs of numbers in a list of such -/
section
variable {X : Cx} {pins : List (Addr × Obj)} {σ : St} {H : Hp} {s : Shared}
end
end L2
set_option Elab.async false
set_option linter.all false
set_option maxRecDepth 100000
namespace Sw
open PySem L2 XH Hm
/-! ### crowds -/
def pairK (ps : List (Int × Int)) : List Ky := ps.map fun p => [p.1, p.2]
/-! ### what the defs promise -/
section
variable (C : Addr)
end
end Sw
namespace Sw
open PySem L2 XH Hm
end Sw
set_option Elab.async false
set_option linter.all false
set_option maxRecDepth 100000
namespace Sw
open PySem L2 XH Hm PySem.NumText
/-! ### nets built round a plan -/
theorem Lt.join : ∀ {ws : List Str}, (∀ w ∈ ws, Lt w) → Lt (Str.join Str.empty ws)
  | [], _ => Lt.nil
  | [x], h => h x (by simp)
  | x :: y :: r, h => by
    have ih := Lt.join (ws := y :: r) fun w hw => h w (List.mem_cons_of_mem _ hw)
    show Lt (x ++ Str.empty ++ Str.join Str.empty (y :: r))
    exact ((h x (by simp)).app Lt.nil).app ih
theorem Lt.tjoin {ws : List Str} (h : ∀ w ∈ ws, Lt w) : Lt (Txt.join "" ws) := by
  have : Txt.join "" ws = Str.join Str.empty ws := StrLaws.glued_eq_join _ ws
  rw [this]
  exact Lt.join h
theorem lett_eq {i : Int} (h0 : 0 ≤ i) (h : i < 26) : atI lettT.cps.toList i = some (97 + i.toNat) := by
  obtain ⟨n, rfl⟩ : ∃ n : Nat, i = (n : Int) := ⟨i.toNat, by omega⟩
  have hn : n < 26 := by omega
  rw [Int.toNat_natCast]
  refine atI_nat ?_
  have e : lettT.cps.toList = (List.range 26).map (97 + ·) := by decide
  rw [e, List.getElem?_map, List.getElem?_range hn]
  rfl
theorem mid_ne {x y : Str} {c d : Nat} (h : c ≠ d) : x ++ (⟨#[c]⟩ : Str) ++ y ≠ x ++ (⟨#[d]⟩ : Str) ++ y := fun e => by
  have := congrArg sL e
  rw [sL_app, sL_app, sL_app, sL_app, List.append_cancel_right_eq, List.append_cancel_left_eq] at this
  replace this : [c] = [d] := this
  injection this with this
  exact h this
theorem end_ne {x : Str} {c : Nat} : x ≠ x ++ (⟨#[c]⟩ : Str) := fun e => by
  have := congrArg Str.length e
  rw [Str.length_append] at this
  have : (⟨#[c]⟩ : Str).length = 1 := rfl
  omega
/-- the length of letters put together -/
theorem joinE_len : ∀ {ws : List Str}, (∀ w ∈ ws, w.length = 1) → (Str.join Str.empty ws).length = ws.length
  | [], _ => rfl
  | [x], h => h x (by simp)
  | x :: y :: r, h => by
    have ih := joinE_len (ws := y :: r) fun w hw => h w (List.mem_cons_of_mem _ hw)
    show (x ++ Str.empty ++ Str.join Str.empty (y :: r)).length = _
    rw [Str.append_empty, Str.length_append, ih, h x (by simp)]
    simp only [List.length_cons]
    omega
theorem tjoin_len {ws : List Str} (h : ∀ w ∈ ws, w.length = 1) : (Txt.join "" ws).length = ws.length := by
  have : Txt.join "" ws = Str.join Str.empty ws := StrLaws.glued_eq_join _ ws
  rw [this]
  exact joinE_len h
theorem ones_sum : ∀ {ws : List Str}, (∀ w ∈ ws, w.length = 1) → (ws.map (fun x => x.length)).sum = ws.length
  | [], _ => rfl
  | x :: r, h => by
    rw [List.map_cons, List.sum_cons, ones_sum fun w hw => h w (List.mem_cons_of_mem _ hw), h x (by simp), List.length_cons]
    omega
theorem all_of {γ : Type} {p : γ → Prop} {f : γ → V} : ∀ {vs : List V}, (∀ v ∈ vs, ∃ c, p c ∧ v = f c) → ∃ cs : List γ, vs = cs.map f ∧ ∀ c ∈ cs, p c
  | [], _ => ⟨[], rfl, fun c hc => by cases hc⟩
  | v :: r, h => by
    obtain ⟨cs, e, k⟩ := all_of (vs := r) fun w hw => h w (List.mem_cons_of_mem _ hw)
    obtain ⟨c, pc, e0⟩ := h v (by simp)
    refine ⟨c :: cs, by rw [e, e0]; rfl, fun d hd => ?_⟩
    rcases List.mem_cons.mp hd with z | z
    · rw [z]; exact pc
    · exact k d z
/-- things of which only a property is told -/
def rSome {γ : Type} (p : γ → Prop) (f : γ → V) : RA Unit := fun _ _ v _ => ∃ c, p c ∧ v = f c
instance {γ : Type} (p : γ → Prop) (f : γ → V) : Mv (rSome p f) := ⟨fun _ h => h⟩
theorem A2.some_of {γ : Type} {p : γ → Prop} {f : γ → V} {P : Addr → Prop} {H : Hp} {vs : List V} {us : List Unit} (h : A2 (rSome p f P H) vs us) : ∃ cs : List γ, vs = cs.map f ∧ cs.length = us.length ∧ ∀ c ∈ cs, p c := by
  obtain ⟨cs, e, k⟩ := all_of (p := p) (f := f) (vs := vs) fun v hv => by
    obtain ⟨i, hi⟩ := List.mem_iff_getElem?.mp hv
    obtain ⟨u, _, q⟩ := h.at_ hi
    exact q
  refine ⟨cs, e, ?_, k⟩
  rw [← h.1, e, List.length_map]
theorem cutS_mid {x : Str} {i : Int} (h : 0 ≤ i) (k : i < (x.length : Int)) : (cutS x none (some i)).length + 1 + (cutS x (some (i + 1)) none).length = x.length := by
  rw [cutS_hi h, cutS_lo (by omega)]
  omega
theorem second_ne {a b : Int} (a0 : 0 ≤ a) (a1 : a < 26) (b0 : 0 ≤ b) (b1 : b < 25) : (a + 1 + b).fmod 26 ≠ a := by
  by_cases c : a + 1 + b < 26
  · rw [Int.fmod_eq_of_lt (by omega) c]; omega
  · have e : (a + 1 + b).fmod 26 = a + 1 + b - 26 := by
      have : a + 1 + b = (a + 1 + b - 26) + 26 * 1 := by omega
      rw [this, Int.add_mul_fmod_self_left, Int.fmod_eq_of_lt (by omega) (by omega)]
      omega
    rw [e]; omega
def hF (x : Int) : Int := if x = 0 then 0 else if x = 1 then 180 else 1000000000
theorem hF_at {x : Int} (h0 : 0 ≤ x) (h : x < 3) : atI [V.int 0, V.int 180, V.int ((10 : Int) ^ (9 : Int).toNat)] x = some (.int (hF x)) := by
  obtain rfl | rfl | rfl : x = 0 ∨ x = 1 ∨ x = 2 := by omega
  · rfl
  · rfl
  · have e : (10 : Int) ^ (9 : Int).toNat = 1000000000 := by decide
    rw [e]; rfl
theorem hF_ok (x : Int) : 0 ≤ hF x ∧ hF x ≤ 1000000000 := by
  unfold hF
  split
  · omega
  · split <;> omega
def FarOk (f : Int) : Prop := f = 1 ∨ f = 10000019
def RunB (f : Int) (r : Rn) : Prop := 0 ≤ r.1 ∧ r.1 ≤ 23 * f ∧ f ≤ r.2.1 - r.1 ∧ r.2.1 - r.1 ≤ 6 * f ∧ (r.2.2 = 0 ∨ r.2.2 = 1)
theorem runB_of {f a b c : Int} (hf : FarOk f) (a0 : 0 ≤ a) (a1 : a < 24) (b0 : 0 ≤ b) (b1 : b < 6) (c0 : 0 ≤ c) (c1 : c < 2) : RunB f (a * f, a * f + (1 + b) * f, c) := by
  rcases hf with rfl | rfl <;> (refine ⟨?_, ?_, ?_, ?_, ?_⟩ <;> dsimp only <;> omega)
def spMixed : Sp := fun vs H Q _ => ∃ c k : Int, vs = [.int c, .int k] ∧ ∀ v : Int, 0 ≤ v → Q (.int v) H
def spNamesB : Sp := fun vs H Q _ => ∃ c : Int, vs = [.int c] ∧ ∀ (l : Addr) (n0 n1 : Str) (H' : Hp), Same H H' → H' l = some (.lst [.str n0, .str n1]) → Nm n0 → Nm n1 → n0 ≠ n1 → Q (.ref l) H'
def spRunsB (K : PySem.W.Frag) : Sp := fun vs H Q _ => ∃ (a : Addr) (ns : List Int) (at_ m f : Int), vs = [.ref a, .int at_, .int m, .int f] ∧ SqL K H a (ns.map V.int) ∧ 0 ≤ at_ ∧ at_ ≤ 1000 ∧ 0 ≤ m ∧ m ≤ 4 ∧ FarOk f ∧ ∀ (l : Addr) (R : List Rn) (H' : Hp), Same H H' → H l = none → TupsA H' l (R.map rk) → (R.length : Int) = m → (∀ r ∈ R, RunB f r) → Q (.ref l) H'
def HeatsOk (R : List Rn) (hs : List Int) : Prop := hs.length = R.length ∧ (∀ h ∈ hs, 0 ≤ h ∧ h ≤ 1000000000) ∧ ∀ i j, i < R.length → j < R.length → meetF (R.getD i (0, 0, 0)) (R.getD j (0, 0, 0)) = true → hs.getD i 0 = hs.getD j 0
theorem HeatsOk.zero {R : List Rn} : HeatsOk R ((List.range R.length).map fun _ => 0) := by
  have z : ∀ i, ((List.range R.length).map fun _ => (0 : Int)).getD i 0 = 0 := fun i => by
    rw [List.getD_eq_getElem?_getD, List.getElem?_map]
    cases (List.range R.length)[i]? <;> rfl
  refine ⟨by simp, fun h hh => ?_, fun i j _ _ _ => by rw [z, z]⟩
  obtain ⟨i, _, rfl⟩ := List.mem_map.mp hh
  omega
theorem HeatsOk.of {R : List Rn} {hs : List Int} (hl : hs.length = R.length) (hb : ∀ h ∈ hs, 0 ≤ h ∧ h ≤ 1000000000) (hp : ∀ i j, i < R.length → j < i → meetF (R.getD i (0, 0, 0)) (R.getD j (0, 0, 0)) = true → hs.getD i 0 = hs.getD j 0) : HeatsOk R hs := by
  refine ⟨hl, hb, fun i j hi hj hm => ?_⟩
  rcases Nat.lt_trichotomy i j with c | c | c
  · rw [hp j i hj c (by unfold meetF at hm ⊢; rw [Bool.and_comm]; exact hm)]
  · rw [c]
  · exact hp i j hi c hm
def spHeatsB : Sp := fun vs H Q _ => ∃ (lr lc : Addr) (R : List Rn) (cs : List Int) (b : Int), vs = [.ref lr, .ref lc, .int b] ∧ TupsA H lr (R.map rk) ∧ H lc = some (.lst (cs.map V.int)) ∧ cs.length = R.length ∧ R.length ≤ 4 ∧ (b = 18 ∨ b = 54) ∧ ∀ (l : Addr) (hs : List Int) (H' : Hp), Same H H' → H' l = some (.lst (hs.map V.int)) → HeatsOk R hs → Q (.ref l) H'
structure UsB (n0 n1 : Str) (h0 h1 : Int) (us : List Us) : Prop where
  len : us.length ≤ 2
  nd : (us.map (·.1)).Nodup
  use : ∀ u ∈ us, ((u.1 = n0 ∧ u.2.2 = h0) ∨ (u.1 = n1 ∧ u.2.2 = h1)) ∧ 1 ≤ u.2.1 ∧ u.2.1 ≤ 2
theorem UsB.rev {n0 n1 : Str} {h0 h1 : Int} {us : List Us} (h : UsB n0 n1 h0 h1 us) : UsB n0 n1 h0 h1 us.reverse :=
  ⟨by rw [List.length_reverse]; exact h.len, by rw [List.map_reverse]; exact ((List.reverse_perm (us.map (·.1))).nodup_iff).mpr h.nd, fun u hu => h.use u (List.mem_reverse.mp hu)⟩
def HB (h : Int) : Prop := 0 ≤ h ∧ h ≤ 1000000000
def spUsesB : Sp := fun vs H Q _ => ∃ (c : Int) (ln lh : Addr) (n0 n1 : Str) (h0 h1 : Int), vs = [.int c, .ref ln, .ref lh] ∧ H ln = some (.lst [.str n0, .str n1]) ∧ H lh = some (.lst [.int h0, .int h1]) ∧ n0 ≠ n1 ∧ ∀ (u : Addr) (us : List Us) (H' : Hp), Same H H' → H u = none → LsA rUse (fun a => H a = none) H' u us → UsB n0 n1 h0 h1 us → Q (.ref u) H'
/-- a way of a built net -/
def WyB (n0 n1 : Str) (w : Wy) : Prop := 1 ≤ w.1 ∧ w.1 ≤ w.2.1 ∧ w.2.1 ≤ 900000000 ∧ ∃ h0 h1, HB h0 ∧ HB h1 ∧ UsB n0 n1 h0 h1 w.2.2
structure TaskB (n0 n1 : Str) (h0 h1 : Int) (r : Rn) (ws : List Wy) : Prop where
  l1 : 1 ≤ ws.length
  l2 : ws.length ≤ 2
  pick : r.2.2 < (ws.length : Int)
  way : ∀ w ∈ ws, WyB n0 n1 w
  mine : ∃ w, ws[r.2.2.toNat]? = some w ∧ w.1 ≤ r.2.1 - r.1 ∧ r.2.1 - r.1 ≤ w.2.1 ∧ UsB n0 n1 h0 h1 w.2.2
def spTaskB : Sp := fun vs H Q _ => ∃ (t : Addr) (c mo : Int) (ln lh : Addr) (r : Rn) (f : Int) (n0 n1 : Str) (h0 h1 : Int), vs = [.ref t, .int c, .int mo, .ref ln, .ref lh] ∧ H t = some (.tup ((rk r).map V.int)) ∧ FarOk f ∧ RunB f r ∧ H ln = some (.lst [.str n0, .str n1]) ∧ H lh = some (.lst [.int h0, .int h1]) ∧ n0 ≠ n1 ∧ HB h0 ∧ HB h1 ∧ ∀ (v : V) (ws : List Wy) (H' : Hp), Same H H' → rTask (fun a => H a = none) H' v ws → TaskB n0 n1 h0 h1 r ws → Q v H'
/-- tasks of a built net, so far -/
structure TsB (n0 n1 : Str) (hs1 hs2 : List Int) (T : Tk) (R : List Rn) : Prop where
  task : ∀ (i : Nat) (ws : List Wy) (r : Rn), T[i]? = some ws → R[i]? = some r → TaskB n0 n1 (hs1.getD i 0) (hs2.getD i 0) r ws
def spUsedB : Sp := fun vs H Q _ => ∃ (rl tl : Addr) (z : Str) (t : Int) (T : Tk) (R : List Rn), vs = [.ref rl, .ref tl, .str z, .int t] ∧ LsA rTask An H tl T ∧ TupsA H rl (R.map rk) ∧ PlanOkG T R ∧ R.length ≤ 24 ∧ (∀ ws ∈ T, ∀ w ∈ ws, (w.2.2.map (·.1)).Nodup) ∧ Q (.int (usedF T R z t R.length)) H
/-- the tools of a built net -/
structure ToolsB (n0 n1 : Str) (T : Tk) (R : List Rn) (m0 m1 : Int) : Prop where
  r0 : 1 ≤ m0 ∧ m0 ≤ 8
  r1 : 1 ≤ m1 ∧ m1 ≤ 8
  u0 : ∀ r ∈ R, usedF T R n0 r.1 R.length ≤ m0
  u1 : ∀ r ∈ R, usedF T R n1 r.1 R.length ≤ m1
  w : ∀ ws ∈ T, ∀ w ∈ ws, ∀ u ∈ w.2.2, u.2.1 ≤ m0 ∧ u.2.1 ≤ m1
theorem putK_two {k0 k : Key} {v0 v : V} (h : k0 ≠ k) : putK [(k0, v0)] k v = [(k0, v0), (k, v)] := by
  unfold putK
  rw [if_neg]
  · rfl
  · simp [h]
/-- a number for a tool that is enough -/
structure EnB (T : Tk) (R : List Rn) (z : Str) (i : Nat) (m : Int) : Prop where
  lo : 1 ≤ m
  hi : m ≤ 8
  run : ∀ r ∈ R.take i, usedF T R z r.1 R.length ≤ m
  way : ∀ ws ∈ T.take i, ∀ w ∈ ws, ∀ u ∈ w.2.2, u.2.1 ≤ m
theorem max_le {a b : Int} {c : Int} (h1 : a ≤ c) (h2 : b ≤ c) : (if b > a then b else a) ≤ c := by split <;> omega
theorem le_max1 (a b : Int) : a ≤ (if b > a then b else a) := by split <;> omega
theorem le_max2 (a b : Int) : b ≤ (if b > a then b else a) := by split <;> omega
theorem min_ge {a c : Int} (h1 : c ≤ 8) (h2 : c ≤ a) : c ≤ (if a < 8 then a else 8) := by split <;> omega
theorem min_le8 (a : Int) : (if a < 8 then a else 8) ≤ 8 := by split <;> omega
def spToolsB : Sp := fun vs H Q _ => ∃ (rl tl ln : Addr) (c : Int) (T : Tk) (R : List Rn) (n0 n1 : Str), vs = [.ref rl, .ref tl, .ref ln, .int c] ∧ LsA rTask An H tl T ∧ TupsA H rl (R.map rk) ∧ H ln = some (.lst [.str n0, .str n1]) ∧ n0 ≠ n1 ∧ PlanOkG T R ∧ R.length ≤ 4 ∧ (∀ ws ∈ T, 1 ≤ ws.length ∧ ws.length ≤ 2 ∧ ∀ w ∈ ws, WyB n0 n1 w) ∧
  ∀ (td : Addr) (m0 m1 : Int) (H' : Hp), Same H H' → H td = none → H' td = some (.dK (toolK [(n0, m0), (n1, m1)])) → ToolsB n0 n1 T R m0 m1 → Q (.ref td) H'
structure Built (f : Int) (n0 n1 : Str) (m0 m1 : Int) (hs1 hs2 : List Int) (T : Tk) (R : List Rn) (M : List Int) : Prop where
  far : FarOk f
  nm0 : Nm n0
  nm1 : Nm n1
  ne : n0 ≠ n1
  len : T.length = R.length
  r4 : R.length ≤ 4
  runs : ∀ r ∈ R, RunB f r
  tasks : TsB n0 n1 hs1 hs2 T R
  h1 : HeatsOk R hs1
  h2 : HeatsOk R hs2
  tools : ToolsB n0 n1 T R m0 m1
  m2 : M.length ≤ 2
  times : ∀ t ∈ M, 0 ≤ t ∧ t ≤ 29 * f
theorem Built.ways {f : Int} {n0 n1 : Str} {m0 m1 : Int} {hs1 hs2 : List Int} {T : Tk} {R : List Rn} {M : List Int} (h : Built f n0 n1 m0 m1 hs1 hs2 T R M) : ∀ ws ∈ T, WsOk [(n0, m0), (n1, m1)] ws := fun ws hw => by
  obtain ⟨i, hi⟩ := List.mem_iff_getElem?.mp hw
  have il := (List.getElem?_eq_some_iff.mp hi).1
  have tb := h.tasks.task i ws _ hi (List.getElem?_eq_getElem (show i < R.length by rw [← h.len]; exact il))
  refine ⟨tb.l1, tb.l2, fun w hww => ?_⟩
  obtain ⟨a1, a2, a3, h0, h1, b0, b1, us⟩ := tb.way w hww
  refine ⟨a1, a2, by omega, us.nd, by have := us.len; omega, fun u hu => ?_⟩
  obtain ⟨e, u1, u2⟩ := us.use u hu
  have uw := h.tools.w ws hw w hww u hu
  rcases e with ⟨e, eh⟩ | ⟨e, eh⟩
  · exact ⟨m0, by rw [e, manyOf_cons, if_pos rfl], u1, uw.1, by rw [eh]; exact b0.1, by rw [eh]; exact b0.2⟩
  · exact ⟨m1, by rw [e, manyOf_cons, if_neg h.ne, manyOf_cons, if_pos rfl], u1, uw.2, by rw [eh]; exact b1.1, by rw [eh]; exact b1.2⟩
theorem Built.net {f : Int} {n0 n1 : Str} {m0 m1 : Int} {hs1 hs2 : List Int} {T : Tk} {R : List Rn} {M : List Int} (h : Built f n0 n1 m0 m1 hs1 hs2 T R M) {A B : List Ky} (a : A.length ≤ 600) (ha : ∀ k ∈ A, ArcOk (2 * (R.length : Int) + M.length) k) (b : B.length ≤ 300) (hb : ∀ k ∈ B, ∃ p q : Int, k = [p, q] ∧ 0 ≤ p ∧ p < (R.length : Int) ∧ 0 ≤ q ∧ q < (R.length : Int) ∧ p ≠ q) : NetOkG [(n0, m0), (n1, m1)] T A B (M.length : Int) := by
  refine ⟨by simp, ?_, fun p hp => ?_, by have := h.r4; rw [h.len]; omega, h.ways, by omega, by have := h.m2; omega, a, fun k hk => ?_, b, fun k hk => ?_⟩
  · simp
    exact h.ne
  · simp at hp
    rcases hp with e | e
    · rw [e]; exact ⟨h.nm0, h.tools.r0.1, h.tools.r0.2⟩
    · rw [e]; exact ⟨h.nm1, h.tools.r1.1, h.tools.r1.2⟩
  · rw [h.len]; exact ha k hk
  · rw [h.len]; exact hb k hk
/-- the way of a run, in a built net -/
theorem Built.mine {f : Int} {n0 n1 : Str} {m0 m1 : Int} {hs1 hs2 : List Int} {T : Tk} {R : List Rn} {M : List Int} (h : Built f n0 n1 m0 m1 hs1 hs2 T R M) {i : Nat} (il : i < R.length) : (wayF T R i).1 ≤ (R[i]).2.1 - (R[i]).1 ∧ (R[i]).2.1 - (R[i]).1 ≤ (wayF T R i).2.1 ∧ UsB n0 n1 (hs1.getD i 0) (hs2.getD i 0) (wayF T R i).2.2 := by
  have hr := List.getElem?_eq_getElem il
  have hT := List.getElem?_eq_getElem (show i < T.length by rw [h.len]; exact il)
  obtain ⟨w, hw, a, b, c⟩ := (h.tasks.task i _ _ hT hr).mine
  have e : wayF T R i = w := by
    unfold wayF
    rw [getDo hT, getDo hr, getDo hw]
  rw [e]
  exact ⟨a, b, c⟩
def spBuilt (K : PySem.W.Frag) : Sp := fun vs H Q _ => ∃ (a : Addr) (ns : List Int) (at_ m f : Int), vs = [.ref a, .int at_, .int m, .int f] ∧ SqL K H a (ns.map V.int) ∧ 0 ≤ at_ ∧ at_ ≤ 900 ∧ 1 ≤ m ∧ m ≤ 4 ∧ FarOk f ∧
  ∀ (t td tl rl ml : Addr) (n0 n1 : Str) (m0 m1 : Int) (hs1 hs2 : List Int) (T : Tk) (R : List Rn) (M : List Int) (H' : Hp), Same H H' → H' t = some (.tup [.ref td, .ref tl, .ref rl, .ref ml]) → H' td = some (.dK (toolK [(n0, m0), (n1, m1)])) → LsA rTask An H' tl T → TupsA H' rl (R.map rk) → H' ml = some (.lst (M.map V.int)) → (R.length : Int) = m → Built f n0 n1 m0 m1 hs1 hs2 T R M → Q (.ref t) H'
def spPointsB : Sp := fun vs H Q _ => ∃ (rl ml : Addr) (R : List Rn) (M : List Int), vs = [.ref rl, .ref ml] ∧ TupsA H rl (R.map rk) ∧ R.length ≤ 24 ∧ H ml = some (.lst (M.map V.int)) ∧ M.length ≤ 8 ∧ ∀ (l : Addr) (H' : Hp), Same H H' → H' l = some (.lst ((spots R M).map V.int)) → Q (.ref l) H'
/-- arcs that the plan keeps -/
def KeptA (S : List Int) (k : Ky) : Prop := ∃ p q g : Int, k = [p, q, g] ∧ g ≤ S.getD q.toNat 0 - S.getD p.toNat 0
def spArcsU : Sp := fun vs H Q _ => ∃ (lc ls : Addr) (cs S : List Int) (f : Int), vs = [.ref lc, .ref ls, .int f] ∧ H lc = some (.lst (cs.map V.int)) ∧ cs.length ≤ 63 ∧ H ls = some (.lst (S.map V.int)) ∧ 1 ≤ S.length ∧ S.length ≤ 100 ∧ FarOk f ∧ (∀ t ∈ S, 0 ≤ t ∧ t ≤ 29 * f) ∧ ∀ (l : Addr) (A : List Ky) (H' : Hp), Same H H' → TupsA H' l A → A.length = cs.length → (∀ k ∈ A, ArcOk (S.length : Int) k ∧ KeptA S k) → Q (.ref l) H'
def spApartU : Sp := fun vs H Q _ => ∃ (rl : Addr) (c : Int) (R : List Rn), vs = [.ref rl, .int c] ∧ TupsA H rl (R.map rk) ∧ R.length ≤ 4 ∧ ∀ (l : Addr) (ps : List (Int × Int)) (H' : Hp), Same H H' → TupsA H' l (pairK ps) → ps.length ≤ 16 → (∀ p ∈ ps, 0 ≤ p.1 ∧ p.1 < (R.length : Int) ∧ 0 ≤ p.2 ∧ p.2 < (R.length : Int) ∧ p.1 ≠ p.2 ∧ meetF (R.getD p.1.toNat (0, 0, 0)) (R.getD p.2.toNat (0, 0, 0)) = false) → Q (.ref l) H'
/-- a case that the plan obeys -/
structure CaseB (R : List Rn) (P : Pk) (ps : List (Int × Int)) : Prop where
  len : P.length = R.length
  pick : ∀ (i j : Nat) (r : Rn), P[i]? = some (some j) → R[i]? = some r → r.2.2 = (j : Int)
  o16 : ps.length ≤ 16
  ord : ∀ p ∈ ps, 0 ≤ p.1 ∧ p.1 < (R.length : Int) ∧ 0 ≤ p.2 ∧ p.2 < (R.length : Int) ∧ (R.getD p.1.toNat (0, 0, 0)).2.1 ≤ (R.getD p.2.toNat (0, 0, 0)).1
def spCaseU : Sp := fun vs H Q _ => ∃ (rl : Addr) (c : Int) (R : List Rn), vs = [.ref rl, .int c] ∧ TupsA H rl (R.map rk) ∧ R.length ≤ 4 ∧ (∀ r ∈ R, r.2.2 = 0 ∨ r.2.2 = 1) ∧ ∀ (t : Addr) (P : Pk) (ps : List (Int × Int)) (H' : Hp), Same H H' → CaseA H' t P (pairK ps) → CaseB R P ps → Q (.ref t) H'
theorem CaseB.ok {f : Int} {n0 n1 : Str} {m0 m1 : Int} {hs1 hs2 : List Int} {T : Tk} {R : List Rn} {M : List Int} {P : Pk} {ps : List (Int × Int)} (h : Built f n0 n1 m0 m1 hs1 hs2 T R M) (c : CaseB R P ps) : PkOk T P := by
  refine ⟨by rw [c.len, h.len], fun i j ws e1 e2 => ?_⟩
  have il : i < R.length := by rw [← h.len]; exact (List.getElem?_eq_some_iff.mp e2).1
  have hr := List.getElem?_eq_getElem il
  have := c.pick i j _ e1 hr
  have := (h.tasks.task i ws _ e2 hr).pick
  omega
theorem used_le8 {T : Tk} {R : List Rn} {z : Str} {t : Int} (h : ∀ i, i < R.length → manyIn (wayF T R i) z ≤ 2) : ∀ n, n ≤ R.length → usedF T R z t n ≤ 2 * (n : Int)
  | 0, _ => Int.le_refl _
  | n + 1, hn => by
    have ih := used_le8 (t := t) h n (by omega)
    have := h n (by omega)
    show usedF T R z t n + (if goesF (R.getD n (0, 0, 0)) t = true then manyIn (wayF T R n) z else 0) ≤ _
    split <;> omega
theorem many_le2 {n0 n1 : Str} {w : Wy} {z : Str} (h : WyB n0 n1 w) : manyIn w z ≤ 2 := by
  obtain ⟨_, _, _, h0, h1, _, _, us⟩ := h
  cases e : usF w z with
  | none => rw [usF_none e]; omega
  | some u =>
    rw [usF_some e]
    exact (us.use u (find_ok e).1).2.2
end Sw
set_option Elab.async false
set_option linter.all false
set_option maxRecDepth 100000
namespace L2
open PySem
theorem pi_listB {X : Cx} {K : PySem.W.Frag} (h : X.K = K) {tg l : Expr} {tl : TE} (hl : PE X l tl) : PI X tg l (iList K tl) := by
  subst h
  exact pi_list hl
end L2
namespace Sw
open PySem L2 XH Hm PySem.NumText
/-! ### clashes, told by the law's own rows -/
/-- tasks, and a case over them -/
structure TasksC (D : Tl) (H : Hp) (tl t : Addr) (T : Tk) (P : Pk) : Prop where
  tasks : LsA rTask An H tl T
  cs : ∃ O, CaseA H t P O
  pk : PkOk T P
  ok : ∀ ws ∈ T, WsOk D ws
theorem TasksC.same {D : Tl} {H H' : Hp} {tl t : Addr} {T : Tk} {P : Pk} (h : TasksC D H tl t T P) (g : Same H H') : TasksC D H' tl t T P := ⟨h.tasks.same g, h.cs.imp fun _ c => c.same g, h.pk, h.ok⟩
def spOpenL : Sp := fun vs H Q _ => ∃ (tl t : Addr) (i : Nat) (D : Tl) (T : Tk) (P : Pk), vs = [.ref tl, .ref t, .int i] ∧ TasksC D H tl t T P ∧ i < T.length ∧ ∀ (p : Addr) (H' : Hp), Same H H' → LsA rWay An H' p (openF T P i) → Q (.ref p) H'
theorem pk_none {T : Tk} {n : Nat} (h : n = T.length) : PkOk T ((List.range n).map fun _ => none) := by
  refine ⟨by rw [List.length_map, List.length_range, h], fun i j ws e1 e2 => ?_⟩
  rw [List.getElem?_map] at e1
  obtain ⟨_, _, e⟩ := Option.map_eq_some_iff.mp e1
  cases e
theorem far_at {x : Int} (h0 : 0 ≤ x) (h : x < 3) : ∃ f, atI [V.int 1, V.int 1, V.int ((10 : Int) ^ (7 : Int).toNat + 19)] x = some (.int f) ∧ FarOk f := by
  obtain rfl | rfl | rfl : x = 0 ∨ x = 1 ∨ x = 2 := by omega
  · exact ⟨1, rfl, .inl rfl⟩
  · exact ⟨1, rfl, .inl rfl⟩
  · exact ⟨_, rfl, .inr (by decide)⟩
theorem spots_mem {M : List Int} {t : Int} : ∀ {R : List Rn}, t ∈ spots R M → t ∈ M ∨ ∃ r ∈ R, t = r.1 ∨ t = r.2.1
  | [], h => .inl h
  | r :: R, h => by
    rcases List.mem_cons.mp h with h | h
    · exact .inr ⟨r, by simp, .inl h⟩
    rcases List.mem_cons.mp h with h | h
    · exact .inr ⟨r, by simp, .inr h⟩
    · rcases spots_mem h with h | ⟨s, hs, e⟩
      · exact .inl h
      · exact .inr ⟨s, List.mem_cons_of_mem _ hs, e⟩
theorem Built.spots {f : Int} {n0 n1 : Str} {m0 m1 : Int} {hs1 hs2 : List Int} {T : Tk} {R : List Rn} {M : List Int} (h : Built f n0 n1 m0 m1 hs1 hs2 T R M) : ∀ t ∈ spots R M, 0 ≤ t ∧ t ≤ 29 * f := fun t ht => by
  have f1 : 1 ≤ f := by rcases h.far with e | e <;> omega
  rcases spots_mem ht with h1 | ⟨r, hr, e⟩
  · exact h.times t h1
  · obtain ⟨a, b, c, d, _⟩ := h.runs r hr
    rcases e with e | e <;> omega
end Sw
set_option Elab.async false
set_option linter.all false
set_option maxRecDepth 100000
namespace L2
open PySem
end L2
namespace Sw
open PySem L2 XH Hm PySem.NumText
/-! ### a built plan fits; of tasks that clash some run ends before another begins -/
section
variable {f : Int} {n0 n1 : Str} {m0 m1 : Int} {hs1 hs2 : List Int} {T : Tk} {R : List Rn} {M : List Int}
/-- the way of a run is open where the plan obeys the case -/
theorem CaseB.open (h : Built f n0 n1 m0 m1 hs1 hs2 T R M) {P : Pk} (pl : P.length = R.length) (pk : ∀ (i j : Nat) (r : Rn), P[i]? = some (some j) → R[i]? = some r → r.2.2 = (j : Int)) {i : Nat} (il : i < R.length) : wayF T R i ∈ openF T P i := by
  have hr := List.getElem?_eq_getElem il
  have hT := List.getElem?_eq_getElem (show i < T.length by rw [h.len]; exact il)
  have hP := List.getElem?_eq_getElem (show i < P.length by rw [pl]; exact il)
  obtain ⟨w, hw, _⟩ := (h.tasks.task i _ _ hT hr).mine
  have e : wayF T R i = w := by
    unfold wayF
    rw [getDo hT, getDo hr, getDo hw]
  rw [e]
  unfold openF
  rw [getDo hT, getDo hP]
  cases hp : P[i]'(by rw [pl]; exact il) with
  | none => exact List.mem_of_getElem? hw
  | some j =>
    rw [hp] at hP
    have := pk i j _ hP hr
    rw [this, Int.toNat_natCast] at hw
    show w ∈ [(T[i]'(by rw [h.len]; exact il)).getD j (0, 0, [])]
    rw [getDo hw]
    simp
end
end Sw
set_option Elab.async false
set_option linter.all false
set_option maxRecDepth 100000
namespace L2
open PySem
end L2
namespace Sw
open PySem L2 XH Hm PySem.NumText
/-! ### wants, works and heats, told by the law's own sums -/
def spStart (C : Addr) : Sp := fun vs H Q _ => ∃ (x : Addr) (fz : Bool) (D : Tl) (T : Tk) (A B : List Ky) (n : Int), vs = [.ref x] ∧ NetG C fz H x D T A B n ∧ T.length ≤ 24 ∧ ∀ (t : Addr) (H' : Hp), Same H H' → CaseA H' t ((List.range T.length).map fun _ => none) [] → Q (.ref t) H'
end Sw
set_option Elab.async false
set_option linter.all false
set_option maxRecDepth 100000
namespace Sw
open PySem L2 XH Hm PySem.NumText
/-! ### the arcs of a case -/
def maxL (l : List Int) : Int := -(minL (l.map fun z => -z))
theorem maxL_of {l : List Int} {m : Int} (hm : m ∈ l) (h : ∀ z ∈ l, z ≤ m) : m = maxL l := by
  unfold maxL
  have := minL_of (l := l.map fun z => -z) (m := -m) (List.mem_map.mpr ⟨m, hm, rfl⟩) fun z hz => by
    obtain ⟨y, hy, rfl⟩ := List.mem_map.mp hz
    have := h y hy
    omega
  omega
def arcsN (T : Tk) (P : Pk) : Nat → List Ky
  | 0 => []
  | i + 1 => arcsN T P i ++ [[2 * (i : Int), 2 * (i : Int) + 1, minL ((openF T P i).map (·.1))], [2 * (i : Int) + 1, 2 * (i : Int), -(maxL ((openF T P i).map (·.2.1)))]]
theorem arcsN_len (T : Tk) (P : Pk) : ∀ n, (arcsN T P n).length = 2 * n
  | 0 => rfl
  | n + 1 => by
    show (arcsN T P n ++ _).length = _
    rw [List.length_append, arcsN_len T P n]
    show 2 * n + 2 = _
    omega
def ordK (O : List Ky) : List Ky := O.map fun k => [2 * k.getD 0 0 + 1, 2 * k.getD 1 0, 0]
def arcsF (A : List Ky) (T : Tk) (P : Pk) (O : List Ky) : List Ky := A ++ arcsN T P T.length ++ ordK O
def PairsK (O : List Ky) : Prop := O.length ≤ 1000 ∧ ∀ k ∈ O, ∃ p q : Int, k = [p, q]
def spArcsOf (C : Addr) : Sp := fun vs H Q _ => ∃ (x t : Addr), vs = [.ref x, .ref t] ∧ CaseArgs C true H x t fun D T A B n P O => PairsK O ∧ ∀ (l : Addr) (H' : Hp), Same H H' → H l = none → TupsA H' l (arcsF A T P O) → Q (.ref l) H'
def spDueA : Sp := fun vs H Q _ => ∃ (al tl t : Addr) (A : List Ky) (D : Tl) (T : Tk) (P : Pk) (O : List Ky), vs = [.ref al, .ref tl, .ref t] ∧ TupsA H al A ∧ A.length ≤ 1000 ∧ LsA rTask An H tl T ∧ T.length ≤ 24 ∧ CaseA H t P O ∧ PkOk T P ∧ (∀ ws ∈ T, WsOk D ws) ∧ PairsK O ∧ ∀ (l : Addr) (H' : Hp), Same H H' → TupsA H' l (arcsF A T P O) → Q (.ref l) H'
theorem tups_cat {H : Hp} {p : Addr} {as bs : List Addr} {A B : List Ky} (ra : Ref2 (fun t k => H t = some (.tup (k.map V.int))) as A) (rb : Ref2 (fun t k => H t = some (.tup (k.map V.int))) bs B) (np : H p = none) : TupsA (upd H p (.lst (as.map V.ref ++ bs.map V.ref))) p (A ++ B) :=
  ⟨as ++ bs, by rw [upd_same, List.map_append], (ra.append rb).imp fun t k q => same_new np _ _ _ q⟩
theorem Ref2.one {R : Addr → Ky → Prop} {a : Addr} {k : Ky} (h : R a k) : Ref2 R [a] [k] := ⟨rfl, fun i t y e1 e2 => by
  cases i with
  | zero => simp at e1 e2; subst e1 e2; exact h
  | succ n => simp at e1⟩
theorem tupsL {P : Addr → Prop} {H : Hp} {l : Addr} {ks : List Ky} (h : LsA (rTup fun k : Ky => k.map V.int) P H l ks) : TupsA H l ks := by
  obtain ⟨vs, e, r⟩ := h
  obtain ⟨as, ea, _⟩ := all_of (p := fun _ : Addr => True) (f := V.ref) (vs := vs) fun v hv => by
    obtain ⟨i, hi⟩ := List.mem_iff_getElem?.mp hv
    obtain ⟨k, _, t, e, _⟩ := r.at_ hi
    exact ⟨t, trivial, e⟩
  subst ea
  refine ⟨as, e, ⟨by rw [← r.1, List.length_map], fun i a k e1 e2 => ?_⟩⟩
  obtain ⟨t, et, _, h⟩ := r.2 i (.ref a) k (by rw [List.getElem?_map, e1]; rfl) e2
  injection et with et
  rw [et]
  exact h
end Sw
set_option Elab.async false
set_option linter.all false
set_option maxRecDepth 100000
namespace L2
open PySem PySem.Spec PyProof.Rows XH
theorem vals_bl : ∀ {bs : List Bool} {us : List Value}, Vals (bs.map V.bl) us → ∀ (i : Nat) (v : Value), us[i]? = some v → v = .bool (bs.getD i true)
  | [], _, .nil, i, v, h => by simp at h
  | b :: bs, _, .cons r t, 0, v, h => by
    cases r
    simpa using h.symm
  | b :: bs, _, .cons _ t, i + 1, v, h => by
    have := vals_bl (bs := bs) t i v (by simpa using h)
    simpa using this
theorem all_rng (bs : List Bool) : (List.range bs.length).all (fun i => bs.getD i true) = bs.all id := by
  rw [Bool.eq_iff_iff, List.all_eq_true, List.all_eq_true]
  constructor
  · intro h b hb
    obtain ⟨i, hi⟩ := List.mem_iff_getElem?.mp hb
    have := h i (List.mem_range.mpr (List.getElem?_eq_some_iff.mp hi).1)
    rw [List.getD_eq_getElem?_getD, hi] at this
    exact this
  · intro h i hi
    have il := List.mem_range.mp hi
    have := h _ (List.getElem_mem il)
    rw [List.getD_eq_getElem?_getD, List.getElem?_eq_getElem il]
    exact this
theorem call_allG {X : Cx} (hc : X.calm = true) : CallR X (.builtin "all") (fun xs H Q => ∃ (a : Addr) (bs : List Bool), xs = [.ref a] ∧ SqL X.K H a (bs.map V.bl) ∧ Q (.bl (bs.all id)) H) := by
  intro pins s σ H xs us Q I r h
  obtain ⟨a, bs, rfl, h1, hq⟩ := h
  cases r with
  | cons r rr =>
    cases rr
    cases r
    obtain ⟨its, rv, p, hz⟩ := I.list h1
    have hh := I.ok.hd hc
    have ln : its.length = bs.length := by rw [← rv.length, List.length_map]
    have hlt : a < s.heap.objs.size := by
      obtain ⟨o, n, e, _⟩ := id p
      exact Heap.lt_size e
    refine call_all_walk (wpAny_pyIter_list p.isList ⟨s.heap.objs.size, _, _, _, _, _, fun i => bs.getD i true, rfl, Walks.list (A := X.A.in1) hh _ a (Nat.ne_of_lt hlt) its.toArray, ⟨⟨_, Heap.get?_push_size _ rfl, rfl, rfl⟩, p.isList.at fun o e => Heap.get?_push_of_some _ e⟩, ?_, fun h' tk hk => ?_⟩)
    · intro i v s' Q' E' hv hq'
      have e := vals_bl rv i v (by simpa using hv)
      subst e
      exact wpAny_truthy_bool hq'
    · refine ⟨.bl (bs.all id), H, I.kept (h' := h') (t' := tk) fun b o e => hk b o (by simpa using Nat.ne_of_lt (Heap.lt_size e)) (Heap.get?_push_of_some _ e), ?_, hq⟩
      show Value.bool _ = Value.bool _
      rw [List.size_toArray, ln, all_rng]
end L2
namespace Sw
open PySem L2 XH Hm PySem.NumText
/-! ### whether a plan obeys a case -/
def pickOk : Option Nat → Int → Bool
  | none, _ => true
  | some j, x => decide (x = (j : Int))
def obeyF (P : Pk) (O : List Ky) (R : List Rn) : Bool := ((List.range R.length).all fun i => pickOk (P.getD i none) (R.getD i (0, 0, 0)).2.2) && O.all fun k => decide ((R.getD (k.getD 0 0).toNat (0, 0, 0)).2.1 ≤ (R.getD (k.getD 1 0).toNat (0, 0, 0)).1)
def OrdOk (O : List Ky) (n : Nat) : Prop := O.length ≤ 1000 ∧ ∀ k ∈ O, ∃ p q : Int, k = [p, q] ∧ 0 ≤ p ∧ p < (n : Int) ∧ 0 ≤ q ∧ q < (n : Int)
def spObeyed : Sp := fun vs H Q _ => ∃ (t rl : Addr) (P : Pk) (O : List Ky) (R : List Rn), vs = [.ref t, .ref rl] ∧ CaseA H t P O ∧ P.length = R.length ∧ R.length ≤ 24 ∧ OrdOk O R.length ∧ TupsA H rl (R.map rk) ∧ ∀ H', Same H H' → Q (.bl (obeyF P O R)) H'
def spObeys : Sp := fun vs H Q _ => ∃ (t th : Addr) (P : Pk) (O : List Ky) (R : List Rn) (M : List Int), vs = [.ref t, .ref th] ∧ CaseA H t P O ∧ P.length = R.length ∧ R.length ≤ 24 ∧ OrdOk O R.length ∧ PlanA H th R M ∧ ∀ H', Same H H' → Q (.bl (obeyF P O R)) H'
def spAnyCase (K : PySem.W.Frag) : Sp := fun vs H Q _ => ∃ (a tl : Addr) (ns : List Int) (T : Tk), vs = [.ref a, .ref tl] ∧ SqL K H a (ns.map V.int) ∧ LsA rTask An H tl T ∧ 1 ≤ T.length ∧ T.length ≤ 24 ∧ (∀ ws ∈ T, 1 ≤ ws.length ∧ ws.length ≤ 2) ∧ ∀ (t : Addr) (P : Pk) (ps : List (Int × Int)) (H' : Hp), Same H H' → CaseA H' t P (pairK ps) → PkOk T P → OrdOk (pairK ps) T.length → Q (.ref t) H'
end Sw
set_option Elab.async false
set_option linter.all false
set_option maxRecDepth 100000
namespace Sw
open PySem L2 XH Hm PySem.NumText
/-! ### cases told: copies that are new (k65) -/
/-- a way whose list of uses was not there in H0 -/
def rWayX (H0 : Hp) : RA Wy := fun P H v w => ∃ t u : Addr, v = .ref t ∧ P t ∧ P u ∧ H0 u = none ∧ H t = some (.tup [.int w.1, .int w.2.1, .ref u]) ∧ LsA rUse P H u w.2.2
instance (H0 : Hp) : Mv (rWayX H0) where
  mv := fun {P P' H H' v x} g h => by
    obtain ⟨t, u, rfl, p, p2, n0, e, vs, e2, r⟩ := h
    obtain ⟨q, e'⟩ := g t _ p rfl e
    obtain ⟨q2, e2'⟩ := g u _ p2 rfl e2
    exact ⟨t, u, rfl, q, q2, n0, e', vs, e2', r.imp fun _ _ k => Mv.mv g k⟩
theorem wayX {H0 H : Hp} {P : Addr → Prop} {v : V} {w : Wy} (h : rWayX H0 P H v w) : rWay P H v w := by
  obtain ⟨t, u, rfl, p, p2, n0, e, r⟩ := h
  exact ⟨t, u, rfl, p, p2, e, r⟩
theorem waysX {H0 H : Hp} {P : Addr → Prop} {p : Addr} {ws : List Wy} (h : LsA (rWayX H0) P H p ws) : LsA rWay An H p ws := by
  obtain ⟨vs, e, r⟩ := h
  exact ⟨vs, e, r.imp fun _ _ q => mvA (wayX q)⟩
def spCopyN : Sp := fun vs H Q _ => ∃ (l : Addr) (ws : List Wy) (P0 : Addr → Prop), vs = [.ref l] ∧ LsA rWay P0 H l ws ∧ ws.length ≤ 2 ∧ ∀ (p : Addr) (H' : Hp), Same H H' → H p = none → LsA (rWayX H) (fun a => a ≠ p) H' p ws → Q (.ref p) H'
def spOpenN (C : Addr) : Sp := fun vs H Q _ => ∃ (x t : Addr) (i : Nat), vs = [.ref x, .ref t, .int i] ∧ CaseArgs C true H x t fun D T A B n P O => i < T.length ∧ ∀ (p : Addr) (H' : Hp), Same H H' → H p = none → LsA (rWayX H) (fun a => a ≠ p) H' p (openF T P i) → Q (.ref p) H'
theorem smp_use (u : Us) : AllSmp (useV u) := fun x hx => by
  unfold useV at hx
  simp only [List.mem_cons, List.not_mem_nil, or_false] at hx
  rcases hx with rfl | rfl | rfl <;> trivial
theorem alk_way {K : PySem.W.Frag} {P P' : Addr → Prop} {H : Hp} {v v' : V} {w : Wy} (h : rWay P H v w) (k : rWay P' H v' w) : Alk K H 3 v v' := by
  obtain ⟨t, u, rfl, _, _, e, us, eu, ru⟩ := h
  obtain ⟨t', u', rfl, _, _, e', us', eu', ru'⟩ := k
  refine .inr ⟨t, t', _, _, rfl, rfl, .inl ⟨SqT.of e, SqT.of e'⟩, ⟨.inl (.inl ⟨rfl, trivial⟩), .inl (.inl ⟨rfl, trivial⟩), .inr ⟨u, u', _, _, rfl, rfl, .inr ⟨SqL.of eu, SqL.of eu'⟩, ?_⟩, trivial⟩⟩
  exact alk_A2 (R := rUse) (fun a b x _ h1 h2 => alk_tup (smp_use x) h1 h2) ru ru'
theorem alk_ways {K : PySem.W.Frag} {P P' : Addr → Prop} {H : Hp} {vs us : List V} {ws : List Wy} (h : A2 (rWay P H) vs ws) (k : A2 (rWay P' H) us ws) : All2 (Alk K H 3) vs us :=
  alk_A2 (R := rWay) (fun a b x _ h1 h2 => alk_way h1 h2) h k
theorem smp_ints (k : Ky) : AllSmp (k.map V.int) := fun x hx => by
  obtain ⟨i, _, rfl⟩ := List.mem_map.mp hx
  trivial
theorem alk_tups {K : PySem.W.Frag} {H : Hp} {as bs : List Addr} {A : List Ky} (h : Ref2 (fun t k => H t = some (.tup (k.map V.int))) as A) (k : Ref2 (fun t k => H t = some (.tup (k.map V.int))) bs A) : All2 (Alk K H 1) (as.map V.ref) (bs.map V.ref) := by
  refine all2_at (by rw [List.length_map, List.length_map, h.1, k.1]) fun i x y h1 h2 => ?_
  obtain ⟨a, ha, rfl⟩ := refs_at h1
  obtain ⟨b, hb, rfl⟩ := refs_at h2
  have il : i < A.length := by rw [← h.1]; exact (List.getElem?_eq_some_iff.mp ha).1
  have hA := List.getElem?_eq_getElem il
  exact .inr ⟨a, b, _, _, rfl, rfl, .inl ⟨SqT.of (h.2 i a _ ha hA), SqT.of (k.2 i b _ hb hA)⟩, alk_refl (smp_ints _)⟩
theorem smp_pk (P : Pk) : AllSmp (P.map pkV) := fun x hx => by
  obtain ⟨i, _, rfl⟩ := List.mem_map.mp hx
  cases i
  · show Smp .non; trivial
  · show Smp (.int _); trivial
/-- two cases of the same picks and orders are alike -/
theorem alk_case {K : PySem.W.Frag} {H : Hp} {p p' o o' : Addr} {bs bs' : List Addr} {P : Pk} {O : List Ky} (ep : H p = some (.lst (P.map pkV))) (ep' : H p' = some (.lst (P.map pkV))) (eo : H o = some (.lst (bs.map V.ref))) (eo' : H o' = some (.lst (bs'.map V.ref))) (ro : Ref2 (fun t k => H t = some (.tup (k.map V.int))) bs O) (ro' : Ref2 (fun t k => H t = some (.tup (k.map V.int))) bs' O) : All2 (Alk K H 2) [.ref p, .ref o] [.ref p', .ref o'] :=
  ⟨.inl (.inr ⟨p, p', _, _, rfl, rfl, .inr ⟨SqL.of ep, SqL.of ep'⟩, alk_refl (smp_pk P)⟩), .inr ⟨o, o', _, _, rfl, rfl, .inr ⟨SqL.of eo, SqL.of eo'⟩, alk_tups ro ro'⟩, trivial⟩
def spAgain (C : Addr) : Sp := fun vs H Q _ => ∃ (x tl al t : Addr) (D : Tl) (T : Tk) (A B : List Ky) (n : Int) (P : Pk) (O : List Ky), vs = [.ref x, .ref tl, .ref al, .ref t] ∧ NetC C false H x t D T A B n P O ∧ LsA rTask An H tl T ∧ TupsA H al A ∧ PairsK O ∧ ∀ H', Same H H' → Q (.bl true) H'
def spTold65 (C : Addr) : Sp := fun vs H Q _ => ∃ (x tl al t th : Addr) (D : Tl) (T : Tk) (A B : List Ky) (n : Int) (P : Pk) (O : List Ky) (R : List Rn) (M : List Int), vs = [.ref x, .ref al, .ref tl, .ref t, .ref th] ∧ NetC C false H x t D T A B n P O ∧ LsA rTask An H tl T ∧ TupsA H al A ∧ T.length = R.length ∧ OrdOk O R.length ∧ PlanA H th R M ∧ (∀ k ∈ A, ∃ p q g : Int, k = [p, q, g]) ∧ ∀ H', Same H H' → Q (.bl true) H'
theorem OrdOk.pairs {O : List Ky} {n : Nat} (h : OrdOk O n) : PairsK O := ⟨h.1, fun k hk => by
  obtain ⟨p, q, e, _⟩ := h.2 k hk
  exact ⟨p, q, e⟩⟩
theorem arcsF_trip {A : List Ky} {T : Tk} {P : Pk} {O : List Ky} (h : ∀ k ∈ A, ∃ p q g : Int, k = [p, q, g]) : ∀ k ∈ arcsF A T P O, ∃ p q g : Int, k = [p, q, g] := by
  have hn : ∀ n, ∀ k ∈ arcsN T P n, ∃ p q g : Int, k = [p, q, g] := fun n => by
    induction n with
    | zero => intro k hk; cases hk
    | succ n ih =>
      intro k hk
      rcases List.mem_append.mp (show k ∈ arcsN T P n ++ _ from hk) with z | z
      · exact ih k z
      · simp only [List.mem_cons, List.not_mem_nil, or_false] at z
        rcases z with rfl | rfl <;> exact ⟨_, _, _, rfl⟩
  intro k hk
  unfold arcsF at hk
  rcases List.mem_append.mp hk with z | z
  · rcases List.mem_append.mp z with z | z
    · exact h k z
    · exact hn _ k z
  · unfold ordK at z
    obtain ⟨o, _, rfl⟩ := List.mem_map.mp z
    exact ⟨_, _, _, rfl⟩
theorem arcsF_len {A : List Ky} {T : Tk} {P : Pk} {O : List Ky} (a : A.length ≤ 1000) (t : T.length ≤ 24) (o : PairsK O) : (arcsF A T P O).length ≤ 2100 := by
  unfold arcsF ordK
  rw [List.length_append, List.length_append, arcsN_len, List.length_map]
  have := o.1
  omega
/-- the same tasks, each length by one longer -/
def moreT (T : Tk) : Tk := T.map fun ws => ws.map fun w => (w.1 + 1, w.2.1 + 1, w.2.2)
theorem moreT_len (T : Tk) : (moreT T).length = T.length := List.length_map _
theorem moreT_ok {D : Tl} {T : Tk} (h : ∀ ws ∈ T, WsOk D ws) (b : ∀ ws ∈ T, ∀ w ∈ ws, w.2.1 ≤ 900000000) : ∀ ws ∈ moreT T, WsOk D ws := fun ws hw => by
  obtain ⟨vs, hv, rfl⟩ := List.mem_map.mp hw
  obtain ⟨h1, h2, h3⟩ := h vs hv
  refine ⟨by rw [List.length_map]; exact h1, by rw [List.length_map]; exact h2, fun w hw => ?_⟩
  obtain ⟨y, hy, rfl⟩ := List.mem_map.mp hw
  obtain ⟨a, b', c, d⟩ := h3 y hy
  have := b vs hv y hy
  exact ⟨by show 1 ≤ y.1 + 1; omega, by show y.1 + 1 ≤ y.2.1 + 1; omega, by show y.2.1 + 1 ≤ 1000000000; omega, d⟩
theorem moreT_pk {T : Tk} {P : Pk} (h : PkOk T P) : PkOk (moreT T) P := by
  refine ⟨by rw [moreT_len]; exact h.len, fun i j ws h1 h2 => ?_⟩
  unfold moreT at h2
  rw [List.getElem?_map] at h2
  obtain ⟨vs, hv, rfl⟩ := Option.map_eq_some_iff.mp h2
  rw [List.length_map]
  exact h.pick i j vs h1 hv
/-- the arcs of a case that the plan obeys are kept by its times -/
theorem arcsF_kept {f : Int} {n0 n1 : Str} {m0 m1 : Int} {hs1 hs2 : List Int} {T : Tk} {R : List Rn} {M : List Int} {A : List Ky} {P : Pk} {ps : List (Int × Int)} (h : Built f n0 n1 m0 m1 hs1 hs2 T R M) (cb : CaseB R P ps) (hA : ∀ k ∈ A, ArcOk ((spots R M).length : Int) k ∧ KeptA (spots R M) k) :
    ∀ k ∈ arcsF A T P (pairK ps), ∃ p q g : Int, k = [p, q, g] ∧ 0 ≤ p ∧ p < ((spots R M).length : Int) ∧ 0 ≤ q ∧ q < ((spots R M).length : Int) ∧ (spots R M).getD p.toNat 0 + g ≤ (spots R M).getD q.toNat 0 := by
  have ls : (spots R M).length = 2 * R.length + M.length := spots_len M R
  have s0 : ∀ i, i < R.length → (spots R M).getD (2 * i) 0 = (R.getD i (0, 0, 0)).1 ∧ (spots R M).getD (2 * i + 1) 0 = (R.getD i (0, 0, 0)).2.1 := fun i il => by
    have hr := List.getElem?_eq_getElem il
    obtain ⟨a, b⟩ := spots_lo M R i _ hr
    rw [getDo a, getDo b, getDo hr]
    exact ⟨rfl, rfl⟩
  have hn : ∀ n, n ≤ T.length → ∀ k ∈ arcsN T P n, ∃ p q g : Int, k = [p, q, g] ∧ 0 ≤ p ∧ p < ((spots R M).length : Int) ∧ 0 ≤ q ∧ q < ((spots R M).length : Int) ∧ (spots R M).getD p.toNat 0 + g ≤ (spots R M).getD q.toNat 0 := fun n => by
    induction n with
    | zero => intro _ k hk; cases hk
    | succ n ih =>
      intro hn k hk
      rcases List.mem_append.mp (show k ∈ arcsN T P n ++ _ from hk) with z | z
      · exact ih (by omega) k z
      · have il : n < R.length := by rw [← h.len]; omega
        obtain ⟨a0, a1⟩ := s0 n il
        have op := CaseB.open h cb.len cb.pick il
        have mn := (minL_spec (l := (openF T P n).map (·.1)) (fun e => by rw [List.map_eq_nil_iff] at e; rw [e] at op; cases op)).2 _ (List.mem_map_of_mem (f := fun w : Wy => w.1) op)
        have mx := (minL_spec (l := ((openF T P n).map fun w : Wy => w.2.1).map fun z => -z) (fun e => by rw [List.map_eq_nil_iff, List.map_eq_nil_iff] at e; rw [e] at op; cases op)).2 _ (List.mem_map_of_mem (f := fun z : Int => -z) (List.mem_map_of_mem (f := fun w : Wy => w.2.1) op))
        have lg := h.mine il
        rw [← getDo (d := (0, 0, 0)) (List.getElem?_eq_getElem il)] at lg
        simp only [List.mem_cons, List.not_mem_nil, or_false] at z
        rcases z with rfl | rfl
        · refine ⟨_, _, _, rfl, by omega, by omega, by omega, by omega, ?_⟩
          rw [show (2 * (n : Int)).toNat = 2 * n by omega, show (2 * (n : Int) + 1).toNat = 2 * n + 1 by omega, a0, a1]
          omega
        · refine ⟨_, _, _, rfl, by omega, by omega, by omega, by omega, ?_⟩
          rw [show (2 * (n : Int)).toNat = 2 * n by omega, show (2 * (n : Int) + 1).toNat = 2 * n + 1 by omega, a0, a1]
          unfold maxL
          omega
  intro k hk
  unfold arcsF at hk
  rcases List.mem_append.mp hk with z | z
  · rcases List.mem_append.mp z with z | z
    · obtain ⟨⟨p, q, g, e, b1, b2, b3, b4, _⟩, p', q', g', e', hk'⟩ := hA k z
      rw [e] at e'
      injection e' with e1 e'
      injection e' with e2 e'
      injection e' with e3 _
      subst e1 e2 e3
      exact ⟨p, q, g, e, b1, b2, b3, b4, by omega⟩
    · exact hn _ (Nat.le_refl _) k z
  · unfold ordK at z
    obtain ⟨o, ho, rfl⟩ := List.mem_map.mp z
    obtain ⟨p, hp, rfl⟩ := List.mem_map.mp ho
    obtain ⟨p1, p2, p3, p4, le⟩ := cb.ord p hp
    refine ⟨_, _, _, rfl, ?_, ?_, ?_, ?_, ?_⟩
    · show 0 ≤ 2 * p.1 + 1; omega
    · show 2 * p.1 + 1 < _; omega
    · show 0 ≤ 2 * p.2; omega
    · show 2 * p.2 < _; omega
    · show (spots R M).getD (2 * p.1 + 1).toNat 0 + 0 ≤ (spots R M).getD (2 * p.2).toNat 0
      rw [show (2 * p.1 + 1).toNat = 2 * p.1.toNat + 1 by omega, show (2 * p.2).toNat = 2 * p.2.toNat by omega, (s0 _ (by omega)).2, (s0 _ (by omega)).1]
      omega
end Sw
namespace L2
open PySem PySem.Spec PyProof.Rows XH Sw Hm
theorem comp_Rt {K : PySem.W.Frag} {β : Type} {a : Addr} {xs : List V} {js : List Nat} {te : TE} {σ : L2.St} {H1 : Hp} {Q : VK} (R : RA β) [Mv R] (Z : Addr → Prop) (f : Nat → β) (hS : SqT K H1 a xs) (hz : xs.length ≤ sizeLine) (hZ : ∀ a, Z a → H1 a ≠ none)
    (s2 : ∀ i x, xs[i]? = some x → ∀ H2, Same H1 H2 → ∀ Q' : VK, (∀ y H5, Same H2 H5 → R (fun a => H2 a = none ∨ Z a) H5 y (f i) → Q' y H5) → te (some x :: freesOf js σ) H2 Q')
    (fin : ∀ p H', H1 p = none → Same H1 H' → LsA R (fun a => a ≠ p ∧ (H1 a = none ∨ Z a)) H' p ((List.range xs.length).map f) → Q (.ref p) H') : compR js te σ Q (Itt K a) H1 := by
  refine comp_R R Z f hz hZ (fun i H2 g hi => ⟨xs, xs[i], g.sqt hS, List.getElem?_eq_getElem hi⟩) (fun H2 g => ⟨xs, g.sqt hS, Nat.le_refl _⟩) (fun i hi H2 x H3 g hy => ?_) fin
  obtain ⟨rfl, hx⟩ := hy
  exact ⟨rfl, s2 i x (hx xs (g.sqt hS)) _ g⟩
end L2
namespace Sw
open PySem L2 XH Hm PySem.NumText
theorem CaseB.ordOk {R : List Rn} {P : Pk} {ps : List (Int × Int)} (c : CaseB R P ps) : OrdOk (pairK ps) R.length := by
  refine ⟨by unfold pairK; rw [List.length_map]; have := c.o16; omega, fun k hk => ?_⟩
  obtain ⟨p, hp, rfl⟩ := List.mem_map.mp hk
  obtain ⟨p1, p2, p3, p4, _⟩ := c.ord p hp
  exact ⟨p.1, p.2, rfl, p1, p2, p3, p4⟩
theorem OrdOk.nil {n : Nat} : OrdOk [] n := ⟨Nat.zero_le _, fun k hk => by cases hk⟩
theorem obey_case {R : List Rn} {P : Pk} {ps : List (Int × Int)} (c : CaseB R P ps) : obeyF P (pairK ps) R = true := by
  unfold obeyF
  rw [Bool.and_eq_true, List.all_eq_true, List.all_eq_true]
  refine ⟨fun i hi => ?_, fun k hk => ?_⟩
  · have il := List.mem_range.mp hi
    have hr := List.getElem?_eq_getElem il
    have hP := List.getElem?_eq_getElem (show i < P.length by rw [c.len]; exact il)
    rw [getDo hP, getDo hr]
    cases hp : P[i]'(by rw [c.len]; exact il) with
    | none => rfl
    | some j =>
      rw [hp] at hP
      exact decide_eq_true (c.pick i j _ hP hr)
  · obtain ⟨p, hp, rfl⟩ := List.mem_map.mp hk
    exact decide_eq_true (c.ord p hp).2.2.2.2
theorem all_true (n : Nat) : ((List.range n).map fun _ => true).all id = true := by
  rw [List.all_eq_true]
  intro b hb
  obtain ⟨_, _, rfl⟩ := List.mem_map.mp hb
  rfl
theorem more_net {D : Tl} {T : Tk} {A B : List Ky} {n : Int} (h : NetOkG D T A B n) (b : ∀ ws ∈ T, ∀ w ∈ ws, w.2.1 ≤ 900000000) (t1 : 1 ≤ T.length) (a : A.length ≤ 500) : NetOkG D (moreT T) (A ++ [[0, 1, 0]]) [] n := by
  refine ⟨h.d12, h.dnd, h.tool, by rw [moreT_len]; exact h.t24, moreT_ok h.ways b, h.n0, h.n8, by rw [List.length_append]; simp; omega, fun k hk => ?_, Nat.zero_le _, fun k hk => by cases hk⟩
  rw [moreT_len]
  rcases List.mem_append.mp hk with z | z
  · exact h.arcs k z
  · rw [List.mem_singleton.mp z]
    have := h.n0
    exact ⟨0, 1, 0, rfl, by omega, by omega, by omega, by omega, by omega, by omega⟩
end Sw
namespace Sw
open PySem L2 XH Hm PySem.NumText
def spStartN (C : Addr) : Sp := fun vs H Q _ => ∃ (x : Addr) (fz : Bool) (D : Tl) (T : Tk) (A B : List Ky) (n : Int), vs = [.ref x] ∧ NetG C fz H x D T A B n ∧ T.length ≤ 24 ∧ ∀ (t kl ol : Addr) (H' : Hp), Same H H' → H kl = none → H ol = none → kl ≠ ol → H' t = some (.tup [.ref kl, .ref ol]) → H' kl = some (.lst (((List.range T.length).map fun _ => none).map pkV)) → H' ol = some (.lst []) → Q (.ref t) H'
end Sw
set_option Elab.async false
set_option linter.all false
set_option maxRecDepth 100000
namespace Lk65
open PySem L2 Sw XH PyProof.Rows Hm
def top (i : Nat) : Stmt := PySem.Challenge.pw_stovework_k65_cases.main.body.getD i (.Pass ⟨0, 0, 0, 0⟩)
def clsAt (s : Stmt) (i : Nat) : Stmt := match s with | .ClassDef _ _ _ body _ _ _ _ _ _ _ => body.getD i (.Pass ⟨0, 0, 0, 0⟩) | _ => s
abbrev sis_name : Stmt := top 7
abbrev spoints_of : Stmt := top 17
abbrev scopy_of_task : Stmt := top 18
abbrev srefuse_wrong_tools : Stmt := top 19
abbrev srefuse_wrong_uses : Stmt := top 21
abbrev srefuse_wrong_tasks : Stmt := top 20
abbrev srefuse_wrong_arcs : Stmt := top 22
abbrev srefuse_wrong_pairs : Stmt := top 23
abbrev sNet_init : Stmt := clsAt (top 16) 0
abbrev scopy_of_task_vn : Stmt := top 18
abbrev sstart_case : Stmt := top 25
abbrev sstart_case_vn : Stmt := top 25
abbrev sopen_ways : Stmt := top 26
abbrev sopen_ways_vn : Stmt := top 26
abbrev sobeys : Stmt := top 27
abbrev sarcs_of : Stmt := top 28
abbrev s_law_cell_at : Stmt := top 30
abbrev s_law_whole : Stmt := top 31
abbrev s_law_mixed : Stmt := top 32
abbrev s_law_meet : Stmt := top 33
abbrev s_law_names : Stmt := top 34
abbrev s_law_runs : Stmt := top 35
abbrev s_law_heats : Stmt := top 36
abbrev s_law_uses : Stmt := top 37
abbrev s_law_task : Stmt := top 38
abbrev s_law_used : Stmt := top 39
abbrev s_law_tools : Stmt := top 40
abbrev s_law_arcs : Stmt := top 41
abbrev s_law_apart : Stmt := top 42
abbrev s_law_case : Stmt := top 43
abbrev s_law_built : Stmt := top 44
abbrev s_law_points : Stmt := top 45
abbrev s_law_any_case : Stmt := top 46
abbrev s_law_open : Stmt := top 47
abbrev s_law_obeyed : Stmt := top 48
abbrev s_law_due : Stmt := top 49
abbrev s_law_again : Stmt := top 50
abbrev s_law_told : Stmt := top 51
abbrev slaw : Stmt := top 52
structure Bn (K : PySem.W.Frag) (mg : Str → Option Value) (c_Net f_Net_init : Addr) : Prop where
  g_LETTERS : ∃ t, mg "LETTERS" = some (.str "abcdefghijklmnopqrstuvwxyz" t)
  g_MOST_LETTERS : ∃ t, mg "MOST_LETTERS" = some (.int 12 t)
  g_MOST_TASKS : ∃ t, mg "MOST_TASKS" = some (.int 24 t)
  g_MOST_TOOLS : ∃ t, mg "MOST_TOOLS" = some (.int 12 t)
  g_MOST_PIECES : ∃ t, mg "MOST_PIECES" = some (.int 8 t)
  g_MOST_WAYS : ∃ t, mg "MOST_WAYS" = some (.int 2 t)
  g_MOST_MOMENTS : ∃ t, mg "MOST_MOMENTS" = some (.int 8 t)
  g_MOST_ARCS : ∃ t, mg "MOST_ARCS" = some (.int 600 t)
  g_MOST_APART : ∃ t, mg "MOST_APART" = some (.int 300 t)
  g_GREATEST : ∃ t, mg "GREATEST" = some (.int 1000000000 t)
  b_abs : mg "abs" = none
  b_all : mg "all" = none
  b_bool : mg "bool" = none
  b_dict : mg "dict" = none
  b_int : mg "int" = none
  b_isinstance : mg "isinstance" = none
  b_len : mg "len" = none
  b_list : mg "list" = none
  b_max : mg "max" = none
  b_min : mg "min" = none
  b_range : mg "range" = none
  b_reversed : mg "reversed" = none
  b_set : mg "set" = none
  b_str : mg "str" = none
  b_tuple : mg "tuple" = none
  b_zip : mg "zip" = none
  m_Net : mg "Net" = some (.ref c_Net)
  cl_Net : Cls K c_Net
  mk_Net : Mk K c_Net f_Net_init
  na_Net_tools : NoAttr K c_Net "tools"
  na_Net_tasks : NoAttr K c_Net "tasks"
  na_Net_arcs : NoAttr K c_Net "arcs"
  na_Net_apart : NoAttr K c_Net "apart"
  na_Net_moments : NoAttr K c_Net "moments"
section
variable {P : Program} {w : World} {K : PySem.W.Frag} {mg : Str → Option Value} {base : Heap} {f : Addr} {fd : FuncData} {c_Net f_Net_init : Addr}
theorem scis_name : FnScope ["thing", "sign"] ["thing"] (defScope sis_name) := ⟨rfl, rfl, rfl, by decide +kernel, rfl, by decide +kernel, by decide +kernel⟩
set_option maxHeartbeats 4000000 in
theorem okis_name {dV : Value} (F : FunD K "is_name" "is_name" sis_name dV f fd) (B : Bn K mg c_Net f_Net_init)  : FnOk P w K mg base CX0 1 f fd ["thing"] (spIsName K) := by
  have sc := scis_name
  refine F.ok sc (fun vs H Q E h => ?_) (fun cdv A outer s H vs Q E hr h => ?_)
  · obtain ⟨x, rfl, _⟩ := h
    rfl
  obtain ⟨x, rfl, h⟩ := h
  refine ⟨_, (pss_cons (ps_if (PW.pt (pw_or (pt_not (pt_val (pe_callB (call_isiT (K := K) rfl) rfl B.b_isinstance boot_isinstance (pa_cons (pv 0) (pa_cons (pe_bltn (v := .ty "str") rfl B.b_str boot_str rfl) pa_nil))))) (pw_or (pt_cmpR op_lt (pe_callB call_len_str rfl B.b_len boot_len (pa_cons (pv 0) pa_nil)) pe_int (nomark _)) (pw_or1 (pt_cmpR op_gt (pe_callB call_len_str rfl B.b_len boot_len (pa_cons (pv 0) pa_nil)) (pe_globI rfl B.g_MOST_LETTERS) (nomark _)))))) (pss_one (ps_ret pe_bl)) pss_nil) (pss_cons (ps_for PassesOwn.never rfl (pi_str (pv 0)) (pg_name (i := 1) sc.nd rfl (Or.inl rfl)) (pss_one (ps_if (pt_cmpR op_notIn_str (pv 1) (pe_globS rfl B.g_LETTERS) (by with_unfolding_all rfl)) (pss_one (ps_ret pe_bl)) pss_nil))) (pss_one (ps_ret pe_bl)))), ?_⟩
  rcases h with ⟨z, rfl, hz, q1, q0⟩ | ⟨ty, hty, hk, q⟩
  · have hz' : z.length ≤ sizeLine := Nat.le_trans hz (by decide)
    have hl := sL_len z
    try dsimp only [gName, tNext]
    refine cut (fun σ H' => H = H' ∧ σ = [some (.str z), none] ∧ 1 ≤ z.length ∧ z.length ≤ 12) (fun N hN => ?_) ?_
    · refine ⟨_, rfl, _, _, _, true, rfl, .str _, rfl, _, rfl, iteF ⟨_, rfl, z, rfl, hz', _, _, rfl, rfl, _, rfl, d2 (fun c => ?_) (fun c1 => ⟨_, rfl, z, rfl, hz', _, _, rfl, rfl, _, rfl, d2 (fun c => ?_) (fun c2 => ?_)⟩)⟩⟩
      · exact q0 fun n => by have := n.1; omega
      · exact q0 fun n => by have := n.2.1; omega
      · exact hN _ _ ⟨rfl, rfl, by omega, by omega⟩
    rintro σ _ ⟨rfl, rfl, l1, l2⟩
    refine ⟨_, rfl, z, rfl, for_str (fun i σ H2 => H = H2 ∧ (∃ o, σ = [some (.str z), o]) ∧ ∀ j c, j < i → z.cps[j]? = some c → 97 ≤ c ∧ c ≤ 122) ⟨rfl, ⟨_, rfl⟩, fun j c h => absurd h (by omega)⟩ (fun i c σ H2 hc hP => ?_) (fun σ H2 hP => ?_)⟩
    · obtain ⟨rfl, ⟨o, rfl⟩, hP⟩ := hP
      refine ⟨_, rfl, _, _, rfl, rfl, _, rfl, nnT (fun e => ?_) (fun e => ?_)⟩
      · have e' := (let_mem c).symm.trans e
        refine q0 fun n => ?_
        have := n.2.2 c (List.mem_of_getElem? (show (sL z)[i]? = some c by rw [← hc]; exact Array.getElem?_toList))
        rw [decide_eq_true this] at e'
        cases e'
      · have e' := (let_mem c).symm.trans e
        refine ⟨rfl, ⟨_, rfl⟩, fun j c' hj hc' => ?_⟩
        rcases Nat.lt_succ_iff_lt_or_eq.mp hj with k | k
        · exact hP j c' k hc'
        · subst k
          rw [hc] at hc'
          cases hc'
          exact of_decide_eq_true e'
    · obtain ⟨rfl, ⟨o, rfl⟩, hP⟩ := hP
      refine q1 ⟨by omega, by omega, fun c hc => ?_⟩
      obtain ⟨i, hi⟩ := List.mem_iff_getElem?.mp hc
      have hi' : z.cps[i]? = some c := by rw [← hi]; exact Array.getElem?_toList.symm
      exact hP i c (by have := (Array.getElem?_eq_some_iff.mp hi').1; exact this) hi'
  · exact ⟨_, rfl, _, _, _, false, rfl, hty, hk, _, rfl, iteT q⟩

theorem scpoints_of : FnScope ["net"] ["net"] (defScope spoints_of) := ⟨rfl, rfl, rfl, by decide +kernel, rfl, by decide +kernel, by decide +kernel⟩
set_option maxHeartbeats 4000000 in
theorem okpoints_of {dV : Value} (F : FunD K "points_of" "points_of" spoints_of dV f fd) (B : Bn K mg c_Net f_Net_init)  : FnOk P w K mg base CX0 1 f fd ["net"] (spPointsG c_Net) := by
  have sc := scpoints_of
  refine F.ok sc (fun vs H Q E h => ?_) (fun cdv A outer s H vs Q E hr h => ?_)
  · obtain ⟨x, n, fz, D, T, A, B2, rfl, _⟩ := h
    rfl
  obtain ⟨x, n, fz, D, T, A, B2, rfl, N, q⟩ := h
  refine ⟨_, (pss_one (ps_ret (pe_op op_add (pe_op op_mulB pe_int (pe_callB call_len_seq rfl B.b_len boot_len (pa_cons (pe_fld (pv 0) rfl) pa_nil))) (pe_fld (pv 0) rfl)))), ?_⟩
  obtain ⟨dx, td, tl, al, pl, fs, e0, l1, l2, l3, l4, l5, e1, ⟨as, e2, r2⟩, e3, e4⟩ := N.ex
  refine ⟨_, rfl, x, _, dx, _, _, rfl, e0, B.cl_Net, B.na_Net_tasks, l2, tl, _, rfl, .inl (SqL.of e2), _, _, rfl, rfl, IntMulOk.of_left (by decide), _, rfl, x, _, dx, _, _, rfl, e0, B.cl_Net, B.na_Net_moments, l5, _, _, rfl, rfl, ?_⟩
  rw [r2.1]
  exact q

theorem sccopy_of_task : FnScope ["ways"] ["ways"] (defScope scopy_of_task) := ⟨rfl, rfl, rfl, by decide +kernel, rfl, by decide +kernel, by decide +kernel⟩
set_option maxHeartbeats 4000000 in
theorem okcopy_of_task {dV : Value} (F : FunD K "copy_of_task" "copy_of_task" scopy_of_task dV f fd) (B : Bn K mg c_Net f_Net_init)  : FnOk P w K mg base CX0 1 f fd ["ways"] spCopyG := by
  have sc := sccopy_of_task
  refine F.ok sc (fun vs H Q E h => ?_) (fun cdv A outer s H vs Q E hr h => ?_)
  · obtain ⟨l, ws, P0, rfl, _⟩ := h
    rfl
  obtain ⟨l, ws, P0, rfl, ⟨vs, el, r0⟩, l2, q⟩ := h
  refine ⟨_, (pss_one (ps_ret (pe_comp (own := "way") (ys := []) (js := []) rfl (cok atn .nil (by decide) rfl rfl rfl rfl rfl rfl rfl rfl) (pi_list (pv 0)) (fun C fp s H => (pe_tup (pa_cons (pe_ix (ix_tupB (K := K) rfl) (pv 0) pe_int (fun _ _ => rfl)) (pa_cons (pe_ix (ix_tupB (K := K) rfl) (pv 0) pe_int (fun _ _ => rfl)) (pa_cons (pe_callTy (call_listB (K := K) rfl) rfl B.b_list boot_list (pa_cons (pe_ix (ix_tupB (K := K) rfl) (pv 0) pe_int (fun _ _ => rfl)) pa_nil)) pa_nil)))))))), ?_⟩
  have sl : sizeLine = 16777216 := sizeLine_eq
  have r := r0.imp fun _ _ q => mvT q
  refine ⟨_, rfl, l, rfl, ⟨_, SqL.of el⟩, comp_Rl rWay (fun a => P0 a ∧ H a ≠ none) (fun i => ws.getD i (0, 0, [])) (SqL.of el) (by rw [r.1]; omega) (fun a h => h.2) (fun i y hy H3 g Q' hQ => ?_) fun p H' np g hp => ?_⟩
  · obtain ⟨w, hw, t, u, rfl, _, _, et, us, eu, ru⟩ := r.at_ hy
    have et3 := g _ _ et
    rw [getDo hw] at hQ
    refine ⟨_, rfl, t, _, _, _, rfl, rfl, SqT.of et3, rfl, _, rfl, t, _, _, _, rfl, rfl, SqT.of et3, rfl, _, rfl, t, _, _, _, rfl, rfl, SqT.of et3, rfl, u, us, rfl, .inl (SqL.of (g _ _ eu)), fun u' nu => ⟨(by show 3 ≤ sizeLine; decide), fun t' nt => ?_⟩⟩
    have g1 := same_new nu (.lst us)
    have g2 := same_new nt (.tup [.int w.1, .int w.2.1, .ref u'])
    exact hQ _ _ (g1.trans g2) ⟨t', u', rfl, .inl (g1.free nt), .inl nu, upd_same, us, g2 _ _ upd_same, ru.imp fun v e q => mvP (mvS q (g.trans (g1.trans g2))) fun a h => .inr h⟩
  · rw [rng_getD' ws (0, 0, []) r.1] at hp
    exact q p H' g np ⟨p, rfl, .inl np, hp.mono fun a h => h.2.imp id fun z => z.1⟩

theorem screfuse_wrong_tools : FnScope ["tools", "tool", "many"] ["tools"] (defScope srefuse_wrong_tools) := ⟨rfl, rfl, rfl, by decide +kernel, rfl, by decide +kernel, by decide +kernel⟩
set_option maxHeartbeats 4000000 in
theorem okrefuse_wrong_tools {dV : Value} (F : FunD K "refuse_wrong_tools" "refuse_wrong_tools" srefuse_wrong_tools dV f fd) (B : Bn K mg c_Net f_Net_init) (Dis_name : Dx P w K mg base CX0 1 "is_name" ["thing"] [] (spIsName K)) : FnOk P w K mg base CX0 2 f fd ["tools"] spRToolsG := by
  have sc := screfuse_wrong_tools
  refine F.ok sc (fun vs H Q E h => ?_) (fun cdv A outer s H vs Q E hr h => ?_)
  · obtain ⟨td, D, rfl, _⟩ := h
    rfl
  obtain ⟨td, D, rfl, e, l12, ok, q⟩ := h
  refine ⟨_, (pss_cons (ps_if (pt_cmpR op_gt (pe_callB call_lenD1 rfl B.b_len boot_len (pa_cons (pv 0) pa_nil)) (pe_globI rfl B.g_MOST_TOOLS) (nomark _)) (pss_one ps_never) pss_nil) (pss_one (ps_unf (ps_for PassesOwn.never rfl (pi_items (pe_bm0 PySem.F.plainAttrs_dict PySem.F.slot_dict_items PySem.F.type_dict_items mt_items (pv 0))) (pg_tup rfl (pgs_cons (pg_name (i := 1) sc.nd rfl (Or.inl rfl)) (pgs_cons (pg_name (i := 2) sc.nd rfl (Or.inl rfl)) pgs_nil))) (pss_cons (ps_if (pt_not (pt_val (pcall0 Dis_name hr (by decide) rfl (pa_cons (pv 1) pa_nil)))) (pss_one ps_never) pss_nil) (pss_one (ps_if (pt_not (pt_chain op_le op_le pe_int (pv 2) (pe_globI rfl B.g_MOST_PIECES))) (pss_one ps_never) pss_nil))))))), ?_⟩
  refine ⟨_, rfl, td, _, rfl, e, _, _, rfl, rfl, _, rfl, dF (by rw [toolK_len]; omega) ?_⟩
  refine ⟨_, rfl, .inr (.inr (.inl ⟨rfl, .inl ⟨_, e⟩⟩)), td, _, rfl, rfl, e, fun v nv => ?_⟩
  have g := same_new nv (.ext fun h => h.IsItemsView v td)
  refine ⟨v, td, _, rfl, upd_same, g _ _ e, fun o nf => ?_⟩
  have e1 := g _ _ e
  generalize upd H v (.ext fun h => h.IsItemsView v td) = H1 at g e1 ⊢
  have ef : upd H1 td (.frz o (.dK (toolK D))) td = some (.frz o (.dK (toolK D))) := upd_same
  refine for_items (fun i σ H' => Same (upd H1 td (.frz o (.dK (toolK D)))) H' ∧ ∃ o1 o2 : Option V, σ = [some (.ref td), o1, o2]) ⟨.refl _, none, none, rfl⟩ (fun i σ H' _ h => h.1 _ _ ef) ?_ ?_
  · rintro i k y σ H2 T' hk ⟨g2, o1, o2, rfl⟩ nT
    obtain ⟨p, hp, rfl, rfl⟩ := toolK_at hk
    obtain ⟨n1, n2, n3⟩ := ok p (List.mem_of_getElem? hp)
    have g3 := g2.trans (same_new nT (.tup [kV (.inr p.1), .int p.2]))
    have zl : p.1.length ≤ 1000000 := by have := n1.2.1; rw [sL_len] at this; omega
    refine ⟨T', _, rfl, SqT.of upd_same, rfl, _, _, rfl, _, _, rfl, rfl, ?_⟩
    refine ⟨_, rfl, _, rfl, .inl ⟨p.1, rfl, zl, fun _ => ⟨_, rfl, iteF ?_⟩, fun z => absurd n1 z⟩⟩
    exact ⟨_, rfl, _, _, rfl, rfl, _, rfl, dT n2 ⟨_, _, rfl, rfl, _, rfl, nF n3 ⟨g3, _, _, rfl⟩⟩⟩
  · rintro σ H2 ⟨g2, o1, o2, rfl⟩
    exact ⟨td, o, _, g2 _ _ ef, nf, q _ (g.trans (thaw_same e1 g2))⟩

theorem screfuse_wrong_uses : FnScope ["uses", "tools", "use"] ["uses", "tools"] (defScope srefuse_wrong_uses) := ⟨rfl, rfl, rfl, by decide +kernel, rfl, by decide +kernel, by decide +kernel⟩
set_option maxHeartbeats 4000000 in
theorem okrefuse_wrong_uses {dV : Value} (F : FunD K "refuse_wrong_uses" "refuse_wrong_uses" srefuse_wrong_uses dV f fd) (B : Bn K mg c_Net f_Net_init)  : FnOk P w K mg base CX0 1 f fd ["uses", "tools"] spRUsesG := by
  have sc := screfuse_wrong_uses
  refine F.ok sc (fun vs H Q E h => ?_) (fun cdv A outer s H vs Q E hr h => ?_)
  · obtain ⟨u, td, D, us, rfl, _⟩ := h
    rfl
  obtain ⟨u, td, D, us, rfl, ⟨vs, eu, ru⟩, ed, ⟨nd, l100, ok⟩, q⟩ := h
  refine ⟨_, (pss_cons (ps_if (pt_cmpR op_ne (pe_lenSet rfl rfl B.b_len rfl B.b_set PyProof.Rows.Boot.«len» PyProof.Rows.Boot.«set» (pe_comp (own := "use") (ys := []) (js := []) rfl (cok atn .nil (by decide) rfl rfl rfl rfl rfl rfl rfl rfl) (pi_list (pv 0)) (fun C fp s H => (pe_ix (ix_tupB (K := K) rfl) (pv 0) pe_int (fun _ _ => rfl))))) (pe_callB call_len_seq rfl B.b_len boot_len (pa_cons (pv 0) pa_nil)) (nomark _)) (pss_one ps_never) pss_nil) (pss_one (ps_for PassesOwn.never rfl (pi_list (pv 0)) (pg_name (i := 2) sc.nd rfl (Or.inl rfl)) (pss_cons (ps_if (pt_cmp (pc_dnotin (hu_of hr) (pe_ix ix_tup (pv 2) pe_int (fun _ _ => rfl)) (pv 1)) (by with_unfolding_all rfl)) (pss_one ps_never) pss_nil) (pss_cons (ps_if (pt_not (pt_chain op_le op_le pe_int (pe_ix ix_tup (pv 2) pe_int (fun _ _ => rfl)) (pe_dget (hu_of hr) (pv 1) (pe_ix ix_tup (pv 2) pe_int (fun _ _ => rfl)) (fun _ _ => rfl)))) (pss_one ps_never) pss_nil) (pss_one (ps_if (pt_not (pt_chain op_le op_le pe_int (pe_ix ix_tup (pv 2) pe_int (fun _ _ => rfl)) (pe_globI rfl B.g_GREATEST))) (pss_one ps_never) pss_nil))))))), ?_⟩
  have sl : sizeLine = 16777216 := sizeLine_eq
  refine ⟨_, rfl, u, rfl, ⟨_, SqL.of eu⟩, comp_Rl (rVal V.str) (fun _ => False) (fun i => (us.getD i ("", 0, 0)).1) (SqL.of eu) (by rw [ru.1]; omega) (fun a h => h.elim) (fun i y hy H3 g Q' hQ => ?_) fun p H' np g hp => ?_⟩
  · obtain ⟨e, he, t, rfl, _, et⟩ := ru.at_ hy
    rw [getDo he] at hQ
    exact ⟨_, rfl, t, _, _, _, rfl, rfl, SqT.of (g _ _ et), rfl, hQ _ _ (.refl _) rfl⟩
  obtain ⟨ps, ep, rp⟩ := hp
  have e1 : ps = (us.map fun e => (.inr e.1 : Key)).map kV := by
    rw [rp.val, List.map_map, List.map_map]
    conv => rhs; rw [← rng_getD us ("", 0, 0), List.map_map, ← ru.1]
    rfl
  rw [e1] at ep
  refine ⟨p, us.map fun e => (.inr e.1 : Key), rfl, SqL.of ep, ?_, by rw [List.length_map]; omega, _, rfl, u, _, rfl, .inl (SqL.of (g _ _ eu)), rfl, _, rfl, nFI (by rw [List.length_map, ru.1]) ?_⟩
  · have : (us.map fun e => (.inr e.1 : Key)) = (us.map (·.1)).map Sum.inr := by rw [List.map_map]; rfl
    rw [this]
    exact nd.map (f := (Sum.inr : Str → Key)) fun a b h e => h (by injection e)
  clear ep rp e1
  refine ⟨_, rfl, u, rfl, ⟨_, SqL.of (g _ _ eu)⟩, for_list (xs := vs) (fun i σ H2 => H' = H2 ∧ ∃ o2 : Option V, σ = [some (.ref u), some (.ref td), o2]) ⟨rfl, none, rfl⟩ (fun i σ H2 _ h => by rw [← h.1]; exact SqL.of (g _ _ eu)) ?_ ?_⟩
  · rintro i y σ H2 hy ⟨rfl, o2, rfl⟩
    obtain ⟨e, he, t, rfl, _, et⟩ := ru.at_ hy
    obtain ⟨m, hm, k1, k2, k3, k4⟩ := ok e (List.mem_of_getElem? he)
    have et' := g _ _ et
    have dg := dgTool (.inl (g _ _ ed)) hm
    refine ⟨_, rfl, t, _, _, _, rfl, rfl, SqT.of et', rfl, _, rfl, td, _, rfl, dg, _, rfl, iteF ?_⟩
    refine ⟨_, rfl, t, _, _, _, rfl, rfl, SqT.of et', rfl, _, _, rfl, rfl, _, rfl, dT k1 ⟨_, rfl, _, rfl, t, _, _, _, rfl, rfl, SqT.of et', rfl, td, _, rfl, dg, _, _, rfl, rfl, _, rfl, nF k2 ?_⟩⟩
    exact ⟨_, rfl, t, _, _, _, rfl, rfl, SqT.of et', rfl, _, _, rfl, rfl, _, rfl, dT k3 ⟨_, _, rfl, rfl, _, rfl, nF k4 ⟨rfl, _, rfl⟩⟩⟩
  · rintro σ H2 ⟨rfl, o2, rfl⟩
    exact q _ g

theorem screfuse_wrong_tasks : FnScope ["tasks", "tools", "ways", "way"] ["tasks", "tools"] (defScope srefuse_wrong_tasks) := ⟨rfl, rfl, rfl, by decide +kernel, rfl, by decide +kernel, by decide +kernel⟩
set_option maxHeartbeats 4000000 in
theorem okrefuse_wrong_tasks {dV : Value} (F : FunD K "refuse_wrong_tasks" "refuse_wrong_tasks" srefuse_wrong_tasks dV f fd) (B : Bn K mg c_Net f_Net_init) (Drefuse_wrong_uses : Dx P w K mg base CX0 1 "refuse_wrong_uses" ["uses", "tools"] [] spRUsesG) : FnOk P w K mg base CX0 2 f fd ["tasks", "tools"] spRTasksG := by
  have sc := screfuse_wrong_tasks
  refine F.ok sc (fun vs H Q E h => ?_) (fun cdv A outer s H vs Q E hr h => ?_)
  · obtain ⟨tl, td, D, T, rfl, _⟩ := h
    rfl
  obtain ⟨tl, td, D, T, rfl, ⟨as, el, r⟩, ed, l24, ok, q⟩ := h
  refine ⟨_, (pss_cons (ps_if (pt_cmpR op_gt (pe_callB call_len_seq rfl B.b_len boot_len (pa_cons (pv 0) pa_nil)) (pe_globI rfl B.g_MOST_TASKS) (nomark _)) (pss_one ps_never) pss_nil) (pss_one (ps_for PassesOwn.never rfl (pi_list (pv 0)) (pg_name (i := 2) sc.nd rfl (Or.inl rfl)) (pss_cons (ps_if (pt_not (pt_chain op_le op_le pe_int (pe_callB call_len_seq rfl B.b_len boot_len (pa_cons (pv 2) pa_nil)) (pe_globI rfl B.g_MOST_WAYS))) (pss_one ps_never) pss_nil) (pss_one (ps_for PassesOwn.never rfl (pi_list (pv 2)) (pg_name (i := 3) sc.nd rfl (Or.inl rfl)) (pss_cons (ps_if (pt_not (pt_chain3 op_le op_le op_le pe_int (pe_ix ix_tup (pv 3) pe_int (fun _ _ => rfl)) (pe_ix ix_tup (pv 3) pe_int (fun _ _ => rfl)) (pe_globI rfl B.g_GREATEST))) (pss_one ps_never) pss_nil) (pss_one (ps_expr (pcall0 Drefuse_wrong_uses hr (by decide) rfl (pa_cons (pe_ix ix_tup (pv 3) pe_int (fun _ _ => rfl)) (pa_cons (pv 1) pa_nil)))))))))))), ?_⟩
  have ll : as.length = T.length := r.1
  refine ⟨_, rfl, tl, _, rfl, .inl (SqL.of el), _, _, rfl, rfl, _, rfl, dF (by rw [ll]; omega) ?_⟩
  refine ⟨_, rfl, tl, rfl, ⟨_, SqL.of el⟩, for_list (xs := as) (fun i σ H' => Same H H' ∧ ∃ o2 o3 : Option V, σ = [some (.ref tl), some (.ref td), o2, o3]) ⟨.refl _, none, none, rfl⟩ (fun i σ H' _ h => SqL.of (h.1 _ _ el)) ?_ ?_⟩
  · rintro i y σ H1 hy ⟨g1, o2, o3, rfl⟩
    obtain ⟨ws, hw, wl, rfl, _, ts, ets0, rt0⟩ := r.at_ hy
    have ets := g1 _ _ ets0
    have rt := rt0.imp fun _ _ q => mvS q g1
    obtain ⟨o1, o2', ow⟩ := ok ws (List.mem_of_getElem? hw)
    have lw : ts.length = ws.length := rt.1
    refine ⟨_, rfl, wl, _, rfl, .inl (SqL.of ets), _, _, rfl, rfl, _, rfl, dT (by rw [lw]; omega) ⟨_, _, rfl, rfl, _, rfl, nF (by rw [lw]; omega) ?_⟩⟩
    refine ⟨_, rfl, wl, rfl, ⟨_, SqL.of ets⟩, for_list (xs := ts) (fun j σ H' => Same H H' ∧ Same H1 H' ∧ ∃ o3 : Option V, σ = [some (.ref tl), some (.ref td), some (.ref wl), o3]) ⟨g1, .refl _, o3, rfl⟩ (fun j σ H' _ h => SqL.of (h.2.1 _ _ ets)) ?_ ?_⟩
    · rintro j z σ H2 hz ⟨g2, g12, o3, rfl⟩
      obtain ⟨w, hw2, t, u, rfl, _, _, et0, lu0⟩ := rt.at_ hz
      have et := g12 _ _ et0
      obtain ⟨w1, w2, w3, w4⟩ := ow w (List.mem_of_getElem? hw2)
      refine ⟨_, rfl, t, _, _, _, rfl, rfl, SqT.of et, rfl, _, _, rfl, rfl, _, rfl, dT w1 ⟨_, rfl, t, _, _, _, rfl, rfl, SqT.of et, rfl, _, _, rfl, rfl, _, rfl, dT w2 ⟨_, _, rfl, rfl, _, rfl, nF w3 ?_⟩⟩⟩
      exact ⟨_, rfl, t, _, _, _, rfl, rfl, SqT.of et, rfl, _, rfl, u, td, D, w.2.2, rfl, lu0.same g12, g2 _ _ ed, w4, fun H3 g3 => ⟨g2.trans g3, g12.trans g3, _, rfl⟩⟩
    · rintro σ H2 ⟨g2, _, o3, rfl⟩
      exact ⟨g2, _, _, rfl⟩
  · rintro σ H1 ⟨g1, o2, o3, rfl⟩
    exact q _ g1

theorem screfuse_wrong_arcs : FnScope ["arcs", "points", "arc"] ["arcs", "points"] (defScope srefuse_wrong_arcs) := ⟨rfl, rfl, rfl, by decide +kernel, rfl, by decide +kernel, by decide +kernel⟩
set_option maxHeartbeats 4000000 in
theorem okrefuse_wrong_arcs {dV : Value} (F : FunD K "refuse_wrong_arcs" "refuse_wrong_arcs" srefuse_wrong_arcs dV f fd) (B : Bn K mg c_Net f_Net_init)  : FnOk P w K mg base CX0 1 f fd ["arcs", "points"] spRArcs := by
  have sc := screfuse_wrong_arcs
  refine F.ok sc (fun vs H Q E h => ?_) (fun cdv A outer s H vs Q E hr h => ?_)
  · obtain ⟨al, m, A, rfl, _⟩ := h
    rfl
  obtain ⟨al, m, A, rfl, ⟨as, el, r⟩, l6, ok, q⟩ := h
  refine ⟨_, (pss_cons (ps_if (pt_cmpR op_gt (pe_callB call_len_seq rfl B.b_len boot_len (pa_cons (pv 0) pa_nil)) (pe_globI rfl B.g_MOST_ARCS) (nomark _)) (pss_one ps_never) pss_nil) (pss_one (ps_for PassesOwn.never rfl (pi_list (pv 0)) (pg_name (i := 2) sc.nd rfl (Or.inl rfl)) (pss_cons (ps_if (pt_not (PW.pt (pw_and (pt_chain op_le op_lt pe_int (pe_ix ix_tup (pv 2) pe_int (fun _ _ => rfl)) (pv 1)) (pw_and1 (pt_chain op_le op_lt pe_int (pe_ix ix_tup (pv 2) pe_int (fun _ _ => rfl)) (pv 1)))))) (pss_one ps_never) pss_nil) (pss_one (ps_if (pt_cmpR op_gt (pe_callB call_abs rfl B.b_abs boot_abs (pa_cons (pe_ix ix_tup (pv 2) pe_int (fun _ _ => rfl)) pa_nil)) (pe_globI rfl B.g_GREATEST) (nomark _)) (pss_one ps_never) pss_nil)))))), ?_⟩
  have ll : (as.map V.ref).length = A.length := by rw [List.length_map]; exact r.1
  refine ⟨_, rfl, al, _, rfl, .inl (SqL.of el), _, _, rfl, rfl, _, rfl, dF (by rw [ll]; omega) ?_⟩
  refine ⟨_, rfl, al, rfl, ⟨_, SqL.of el⟩, for_list (xs := as.map V.ref) (fun i σ H' => H = H' ∧ ∃ o2 : Option V, σ = [some (.ref al), some (.int m), o2]) ⟨rfl, none, rfl⟩ (fun i σ H' _ h => by rw [← h.1]; exact SqL.of el) ?_ ?_⟩
  · rintro i x σ H1 hx ⟨rfl, o2, rfl⟩
    rw [List.getElem?_map] at hx
    obtain ⟨t, ht, rfl⟩ := Option.map_eq_some_iff.mp hx
    have il : i < A.length := by rw [← r.1]; exact (List.getElem?_eq_some_iff.mp ht).1
    have et := r.2 i t _ ht (List.getElem?_eq_getElem il)
    obtain ⟨a, b, g, e, a0, a1, b0, b1, g0, g1⟩ := ok _ (List.getElem_mem il)
    rw [e] at et
    refine ⟨_, rfl, t, _, _, _, rfl, rfl, SqT.of et, rfl, _, _, rfl, rfl, _, rfl, dT a0 ⟨_, rfl, _, _, rfl, rfl, _, rfl, dT a1 ⟨_, rfl, t, _, _, _, rfl, rfl, SqT.of et, rfl, _, _, rfl, rfl, _, rfl, dT b0 ⟨_, rfl, _, _, rfl, rfl, _, rfl, nF b1 ?_⟩⟩⟩⟩
    exact ⟨_, rfl, t, _, _, _, rfl, rfl, SqT.of et, rfl, g, rfl, _, _, rfl, rfl, _, rfl, dF (by split <;> omega) ⟨rfl, _, rfl⟩⟩
  · rintro σ H1 ⟨rfl, o2, rfl⟩
    exact q

theorem screfuse_wrong_pairs : FnScope ["pairs", "many", "pair"] ["pairs", "many"] (defScope srefuse_wrong_pairs) := ⟨rfl, rfl, rfl, by decide +kernel, rfl, by decide +kernel, by decide +kernel⟩
set_option maxHeartbeats 4000000 in
theorem okrefuse_wrong_pairs {dV : Value} (F : FunD K "refuse_wrong_pairs" "refuse_wrong_pairs" srefuse_wrong_pairs dV f fd) (B : Bn K mg c_Net f_Net_init)  : FnOk P w K mg base CX0 1 f fd ["pairs", "many"] spRPairsG := by
  have sc := screfuse_wrong_pairs
  refine F.ok sc (fun vs H Q E h => ?_) (fun cdv A outer s H vs Q E hr h => ?_)
  · obtain ⟨pl, m, B2, rfl, _⟩ := h
    rfl
  obtain ⟨pl, m, B2, rfl, ⟨as, el, r⟩, l3, ok, q⟩ := h
  refine ⟨_, (pss_cons (ps_if (pt_cmpR op_gt (pe_callB call_len_seq rfl B.b_len boot_len (pa_cons (pv 0) pa_nil)) (pe_globI rfl B.g_MOST_APART) (nomark _)) (pss_one ps_never) pss_nil) (pss_one (ps_for PassesOwn.never rfl (pi_list (pv 0)) (pg_name (i := 2) sc.nd rfl (Or.inl rfl)) (pss_cons (ps_if (pt_not (PW.pt (pw_and (pt_chain op_le op_lt pe_int (pe_ix ix_tup (pv 2) pe_int (fun _ _ => rfl)) (pv 1)) (pw_and1 (pt_chain op_le op_lt pe_int (pe_ix ix_tup (pv 2) pe_int (fun _ _ => rfl)) (pv 1)))))) (pss_one ps_never) pss_nil) (pss_one (ps_if (pt_cmpR op_eq (pe_ix ix_tup (pv 2) pe_int (fun _ _ => rfl)) (pe_ix ix_tup (pv 2) pe_int (fun _ _ => rfl)) (nomark _)) (pss_one ps_never) pss_nil)))))), ?_⟩
  have ll : (as.map V.ref).length = B2.length := by rw [List.length_map]; exact r.1
  refine ⟨_, rfl, pl, _, rfl, .inl (SqL.of el), _, _, rfl, rfl, _, rfl, dF (by rw [ll]; omega) ?_⟩
  refine ⟨_, rfl, pl, rfl, ⟨_, SqL.of el⟩, for_list (xs := as.map V.ref) (fun i σ H' => H = H' ∧ ∃ o2 : Option V, σ = [some (.ref pl), some (.int m), o2]) ⟨rfl, none, rfl⟩ (fun i σ H' _ h => by rw [← h.1]; exact SqL.of el) ?_ ?_⟩
  · rintro i y σ H1 hy ⟨rfl, o2, rfl⟩
    obtain ⟨t, ht, rfl⟩ := refs_at hy
    have il : i < B2.length := by rw [← r.1]; exact (List.getElem?_eq_some_iff.mp ht).1
    have et := r.2 i t _ ht (List.getElem?_eq_getElem il)
    obtain ⟨a, b, e, a0, a1, b0, b1, ab⟩ := ok _ (List.getElem_mem il)
    rw [e] at et
    refine ⟨_, rfl, t, _, _, _, rfl, rfl, SqT.of et, rfl, _, _, rfl, rfl, _, rfl, dT a0 ⟨_, rfl, _, _, rfl, rfl, _, rfl, dT a1 ⟨_, rfl, t, _, _, _, rfl, rfl, SqT.of et, rfl, _, _, rfl, rfl, _, rfl, dT b0 ⟨_, rfl, _, _, rfl, rfl, _, rfl, nF b1 ?_⟩⟩⟩⟩
    exact ⟨_, rfl, t, _, _, _, rfl, rfl, SqT.of et, rfl, _, rfl, t, _, _, _, rfl, rfl, SqT.of et, rfl, rfl, _, rfl, dFI ab ⟨rfl, _, rfl⟩⟩
  · rintro σ H1 ⟨rfl, o2, rfl⟩
    exact q

theorem scNet_init : FnScope ["self", "tools", "tasks", "arcs", "apart", "moments"] ["self", "tools", "tasks", "arcs", "apart", "moments"] (defScope sNet_init) := ⟨rfl, rfl, rfl, by decide +kernel, rfl, by decide +kernel, by decide +kernel⟩
set_option maxHeartbeats 4000000 in
theorem okNet_init {dV : Value} (F : FunD K "__init__" "Net.__init__" sNet_init dV f fd) (B : Bn K mg c_Net f_Net_init) (Dpoints_of : Dx P w K mg base CX0 1 "points_of" ["net"] [] (spPointsG c_Net)) (Dcopy_of_task : Dx P w K mg base CX0 1 "copy_of_task" ["ways"] [] spCopyG) (Drefuse_wrong_tools : Dx P w K mg base CX0 2 "refuse_wrong_tools" ["tools"] [] spRToolsG) (Drefuse_wrong_tasks : Dx P w K mg base CX0 2 "refuse_wrong_tasks" ["tasks", "tools"] [] spRTasksG) (Drefuse_wrong_arcs : Dx P w K mg base CX0 1 "refuse_wrong_arcs" ["arcs", "points"] [] spRArcs) (Drefuse_wrong_pairs : Dx P w K mg base CX0 1 "refuse_wrong_pairs" ["pairs", "many"] [] spRPairsG) : FnOk P w K mg base CX0 3 f fd ["self", "tools", "tasks", "arcs", "apart", "moments"] (spNetG c_Net) := by
  have sc := scNet_init
  refine F.ok sc (fun vs H Q E h => ?_) (fun cdv A outer s H vs Q E hr h => ?_)
  · obtain ⟨x, dx, td, tl, al, v, n, D, T, A, B2, rfl, _⟩ := h
    rfl
  obtain ⟨x, dx, td, tl, al, v, n, D, T, A, B2, rfl, ex, etd, hT, hA, hv, ok, q⟩ := h
  refine ⟨_, (pss_cons (ps_fld (pv 0) (pe_callTy call_dictD rfl B.b_dict boot_dict1 (pa_cons (pv 1) pa_nil)) rfl) (pss_cons (ps_fld (pv 0) (pe_comp (own := "ways") (ys := []) (js := []) rfl (cok atn .nil (by decide) rfl rfl rfl rfl rfl rfl rfl rfl) (pi_list (pv 2)) (fun C fp s H => (pcall0 Dcopy_of_task hr (by decide) rfl (pa_cons (pv 0) pa_nil)))) rfl) (pss_cons (ps_fld (pv 0) (pe_callTy call_list_of rfl B.b_list boot_list (pa_cons (pv 3) pa_nil)) rfl) (pss_cons (ps_fld (pv 0) (pe_ifExp (pt_cmpR op_isN (pv 4) pe_non (nomark _)) (pe_lst pa_nil) (pe_callTy call_list_of rfl B.b_list boot_list (pa_cons (pv 4) pa_nil))) rfl) (pss_cons (ps_fld (pv 0) (pv 5) rfl) (pss_cons (ps_expr (pcall0 Drefuse_wrong_tools hr (by decide) rfl (pa_cons (pe_fld (pv 0) rfl) pa_nil))) (pss_cons (ps_expr (pcall0 Drefuse_wrong_tasks hr (by decide) rfl (pa_cons (pe_fld (pv 0) rfl) (pa_cons (pe_fld (pv 0) rfl) pa_nil)))) (pss_cons (ps_if (pt_not (pt_chain op_le op_le pe_int (pv 5) (pe_globI rfl B.g_MOST_MOMENTS))) (pss_one ps_never) pss_nil) (pss_cons (ps_expr (pcall0 Drefuse_wrong_arcs hr (by decide) rfl (pa_cons (pe_fld (pv 0) rfl) (pa_cons (pcall0 Dpoints_of hr (by decide) rfl (pa_cons (pv 0) pa_nil)) pa_nil)))) (pss_one (ps_expr (pcall0 Drefuse_wrong_pairs hr (by decide) rfl (pa_cons (pe_fld (pv 0) rfl) (pa_cons (pe_callB call_len_seq rfl B.b_len boot_len (pa_cons (pe_fld (pv 0) rfl) pa_nil)) pa_nil)))))))))))))), ?_⟩
  have sl : sizeLine = 16777216 := sizeLine_eq
  refine ⟨_, rfl, td, _, rfl, etd, fun td' ntd => ?_⟩
  have g1 := same_new ntd (.dK (toolK D))
  refine ⟨_, rfl, x, _, dx, _, rfl, g1 _ _ ex, B.cl_Net, B.na_Net_tools, (by decide), ?_⟩
  have e1 : upd (upd H td' (.dK (toolK D))) x (.ins c_Net dx (putF "tools" (.ref td') [])) x = some (.ins c_Net dx (putF "tools" (.ref td') [])) := upd_same
  have f1 : Fx x H (upd (upd H td' (.dK (toolK D))) x (.ins c_Net dx (putF "tools" (.ref td') []))) := (Fx.of g1).trans (Fx.put x _ _)
  have d1 : upd (upd H td' (.dK (toolK D))) x (.ins c_Net dx (putF "tools" (.ref td') [])) td' = some (.dK (toolK D)) := by
    rw [upd_ne (fun z => by rw [z, ex] at ntd; cases ntd)]
    exact upd_same
  generalize upd (upd H td' (.dK (toolK D))) x (.ins c_Net dx (putF "tools" (.ref td') [])) = H1 at e1 f1 d1 ⊢
  obtain ⟨vs, el, rT⟩ := hT.fx ex f1
  clear g1 ntd
  refine ⟨_, rfl, tl, rfl, ⟨_, SqL.of el⟩, comp_Rl rTask (fun a => An a ∧ H1 a ≠ none) (fun i => T.getD i []) (SqL.of el) (by rw [rT.1]; have := ok.t24; omega) (fun a h => h.2) (fun i y hy H3 g Q' hQ => ?_) fun p H2 np g2 hp => ?_⟩
  · obtain ⟨ws, hw, hwl⟩ := rT.at_ hy
    obtain ⟨l, rfl, _, lw⟩ := mvT hwl
    obtain ⟨w1, w2, w3⟩ := ok.ways ws (List.mem_of_getElem? hw)
    rw [getDo hw] at hQ
    exact ⟨_, rfl, l, ws, _, rfl, lw.same g, w2, fun p H4 g4 _ wf => hQ _ _ g4 wf⟩
  rw [rng_getD' T [] rT.1] at hp
  have hT2 := hp.any
  have e2 := g2 _ _ e1
  have d2 := g2 _ _ d1
  have f2 : Fx x H H2 := f1.trans (Fx.of g2)
  clear hp g2 np rT el
  refine ⟨_, rfl, x, _, dx, _, rfl, e2, B.cl_Net, B.na_Net_tasks, by
    have := length_putF "tools" (.ref td') []
    simp at *
    omega, ?_⟩
  have e3 : upd H2 x (.ins c_Net dx (putF "tasks" (.ref p) (putF "tools" (.ref td') []))) x = some (.ins c_Net dx (putF "tasks" (.ref p) (putF "tools" (.ref td') []))) := upd_same
  have w3 : Fx x H2 (upd H2 x (.ins c_Net dx (putF "tasks" (.ref p) (putF "tools" (.ref td') [])))) := Fx.put x H2 _
  generalize upd H2 x (.ins c_Net dx (putF "tasks" (.ref p) (putF "tools" (.ref td') []))) = H3 at e3 w3 ⊢
  have d3 := w3 _ _ (ne_of d2 e2 (by intro z; cases z)) d2
  have hT3 := hT2.fx e2 w3
  have f3 := f2.trans w3
  clear d2 hT2 f2 w3 e2 e1 d1 f1
  obtain ⟨bs, eal, rA⟩ := TupsA.fx hA ex f3
  refine ⟨_, rfl, al, _, rfl, .inl (SqL.of eal), fun al' nal => ?_⟩
  have g4 := same_new nal (.lst (bs.map V.ref))
  have hA4 : TupsA (upd H3 al' (.lst (bs.map V.ref))) al' A := ⟨bs, upd_same, rA.imp fun a k q => g4 _ _ q⟩
  have e4 := g4 _ _ e3
  have d4 := g4 _ _ d3
  have hT4 := hT3.same g4
  have f4 := f3.trans (Fx.of g4)
  generalize upd H3 al' (.lst (bs.map V.ref)) = H4 at hA4 e4 d4 hT4 f4 ⊢
  clear g4 nal d3 hT3 f3 rA eal e3
  refine ⟨_, rfl, x, _, dx, _, rfl, e4, B.cl_Net, B.na_Net_arcs, by
    have := length_putF "tools" (.ref td') []
    have := length_putF "tasks" (.ref p) (putF "tools" (.ref td') [])
    simp at *
    omega, ?_⟩
  have e5 : upd H4 x (.ins c_Net dx (putF "arcs" (.ref al') (putF "tasks" (.ref p) (putF "tools" (.ref td') [])))) x = some (.ins c_Net dx (putF "arcs" (.ref al') (putF "tasks" (.ref p) (putF "tools" (.ref td') [])))) := upd_same
  have w5 : Fx x H4 (upd H4 x (.ins c_Net dx (putF "arcs" (.ref al') (putF "tasks" (.ref p) (putF "tools" (.ref td') []))))) := Fx.put x H4 _
  generalize upd H4 x (.ins c_Net dx (putF "arcs" (.ref al') (putF "tasks" (.ref p) (putF "tools" (.ref td') [])))) = H5 at e5 w5 ⊢
  have d5 := w5 _ _ (ne_of d4 e4 (by intro z; cases z)) d4
  have hT5 := hT4.fx e4 w5
  have hA5 := hA4.fx e4 w5
  have f5 := f4.trans w5
  clear d4 hT4 hA4 f4 w5 e4
  try dsimp only [gName, tNext]
  refine cut (fun σ H' => ∃ pl' : Addr, σ = [some (.ref x), some (.ref td), some (.ref tl), some (.ref al), some v, some (.int n)] ∧ H' x = some (.ins c_Net dx (putF "apart" (.ref pl') (putF "arcs" (.ref al') (putF "tasks" (.ref p) (putF "tools" (.ref td') []))))) ∧ H' td' = some (.dK (toolK D)) ∧ LsA rTask An H' p T ∧ TupsA H' al' A ∧ TupsA H' pl' B2 ∧ Fx x H H') (fun N hN => ?_) ?_
  · have fin : ∀ (cs : List Addr) (pl' : Addr), H5 pl' = none → Ref2 (fun t k => H5 t = some (.tup (k.map V.int))) cs B2 → N [some (.ref x), some (.ref td), some (.ref tl), some (.ref al), some v, some (.int n)] (upd (upd H5 pl' (.lst (cs.map V.ref))) x (.ins c_Net dx (putF "apart" (.ref pl') (putF "arcs" (.ref al') (putF "tasks" (.ref p) (putF "tools" (.ref td') [])))))) := fun cs pl' npl rB => by
      have g6 := same_new npl (.lst (cs.map V.ref))
      have hB6 : TupsA (upd H5 pl' (.lst (cs.map V.ref))) pl' B2 := ⟨cs, upd_same, rB.imp fun a k q => g6 _ _ q⟩
      have e6 := g6 _ _ e5
      have d6 := g6 _ _ d5
      have hT6 := hT5.same g6
      have hA6 := hA5.same g6
      have f6 := f5.trans (Fx.of g6)
      generalize upd H5 pl' (.lst (cs.map V.ref)) = H6 at hB6 e6 d6 hT6 hA6 f6 ⊢
      have w7 : Fx x H6 (upd H6 x (.ins c_Net dx (putF "apart" (.ref pl') (putF "arcs" (.ref al') (putF "tasks" (.ref p) (putF "tools" (.ref td') [])))))) := Fx.put x H6 _
      exact hN _ _ ⟨pl', rfl, upd_same, w7 _ _ (ne_of d6 e6 (by intro z; cases z)) d6, hT6.fx e6 w7, hA6.fx e6 w7, hB6.fx e6 w7, f6.trans w7⟩
    rcases hv with ⟨rfl, rfl⟩ | ⟨pl, rfl, hB⟩
    · refine ⟨_, rfl, rfl, _, rfl, dT rfl ⟨(by show 0 ≤ sizeLine; decide), fun pl' npl => ?_⟩⟩
      have l3 : (putF "arcs" (.ref al') (putF "tasks" (.ref p) (putF "tools" (.ref td') []))).length < 1000 := by
        have := length_putF "tools" (.ref td') []
        have := length_putF "tasks" (.ref p) (putF "tools" (.ref td') [])
        have := length_putF "arcs" (.ref al') (putF "tasks" (.ref p) (putF "tools" (.ref td') []))
        simp at *
        omega
      exact ⟨_, rfl, x, _, dx, _, rfl, same_new npl _ _ _ e5, B.cl_Net, B.na_Net_apart, l3, fin [] pl' npl Ref2.nil⟩
    · obtain ⟨cs, epl, rB⟩ := TupsA.fx hB ex f5
      refine ⟨_, rfl, rfl, _, rfl, dF (by intro z; cases z) ⟨_, rfl, pl, _, rfl, .inl (SqL.of epl), fun pl' npl => ?_⟩⟩
      have l3 : (putF "arcs" (.ref al') (putF "tasks" (.ref p) (putF "tools" (.ref td') []))).length < 1000 := by
        have := length_putF "tools" (.ref td') []
        have := length_putF "tasks" (.ref p) (putF "tools" (.ref td') [])
        have := length_putF "arcs" (.ref al') (putF "tasks" (.ref p) (putF "tools" (.ref td') []))
        simp at *
        omega
      exact ⟨_, rfl, x, _, dx, _, rfl, same_new npl _ _ _ e5, B.cl_Net, B.na_Net_apart, l3, fin cs pl' npl rB⟩
  clear d5 hT5 hA5 f5 e5
  rintro σ H7 ⟨pl', rfl, e7, d7, hT7, hA7, hB7, f7⟩
  have l4 : (putF "apart" (.ref pl') (putF "arcs" (.ref al') (putF "tasks" (.ref p) (putF "tools" (.ref td') [])))).length < 1000 := by
    have := length_putF "tools" (.ref td') []
    have := length_putF "tasks" (.ref p) (putF "tools" (.ref td') [])
    have := length_putF "arcs" (.ref al') (putF "tasks" (.ref p) (putF "tools" (.ref td') []))
    have := length_putF "apart" (.ref pl') (putF "arcs" (.ref al') (putF "tasks" (.ref p) (putF "tools" (.ref td') [])))
    simp at *
    omega
  refine ⟨_, rfl, _, rfl, x, _, dx, _, rfl, e7, B.cl_Net, B.na_Net_moments, l4, ?_⟩
  have e8 : upd H7 x (.ins c_Net dx (netF (.ref td') (.ref p) (.ref al') (.ref pl') (.int n))) x = some (.ins c_Net dx (netF (.ref td') (.ref p) (.ref al') (.ref pl') (.int n))) := upd_same
  have w8 : Fx x H7 (upd H7 x (.ins c_Net dx (netF (.ref td') (.ref p) (.ref al') (.ref pl') (.int n)))) := Fx.put x H7 _
  change L2.tSeq _ _ _ _ (upd H7 x (.ins c_Net dx (netF (.ref td') (.ref p) (.ref al') (.ref pl') (.int n))))
  generalize upd H7 x (.ins c_Net dx (netF (.ref td') (.ref p) (.ref al') (.ref pl') (.int n))) = H8 at e8 w8 ⊢
  have d8 := w8 _ _ (ne_of d7 e7 (by intro z; cases z)) d7
  have hT8 := hT7.fx e7 w8
  have hA8 := hA7.fx e7 w8
  have hB8 := hB7.fx e7 w8
  have f8 := f7.trans w8
  clear d7 hT7 hA7 hB7 f7 w8 e7
  obtain ⟨k1, k2, k3, k4, k5⟩ := netF_at (td := .ref td') (tl := .ref p) (al := .ref al') (pl := .ref pl') (n := .int n)
  have N8 : NetG c_Net false H8 x D T A B2 n := ⟨dx, td', p, al', pl', _, e8, k1, k2, k3, k4, k5, .inl d8, hT8, hA8, hB8⟩
  refine ⟨_, rfl, x, _, dx, _, _, rfl, e8, B.cl_Net, B.na_Net_tools, k1, td', D, rfl, d8, ok.d12, ok.tool, fun H9 g9 => ?_⟩
  refine ⟨_, rfl, x, _, dx, _, _, rfl, (g9 _ _ e8), B.cl_Net, B.na_Net_tasks, k2, _, rfl, x, _, dx, _, _, rfl, (g9 _ _ e8), B.cl_Net, B.na_Net_tools, k1, p, td', D, T, rfl, hT8.same g9, g9 _ _ d8, ok.t24, ok.ways, fun H10 g10 => ?_⟩
  have g := g9.trans g10
  refine ⟨_, rfl, _, _, rfl, rfl, _, rfl, dT ok.n0 ⟨_, _, rfl, rfl, _, rfl, nF ok.n8 ?_⟩⟩
  refine ⟨_, rfl, x, _, dx, _, _, rfl, (g _ _ e8), B.cl_Net, B.na_Net_arcs, k3, _, rfl, x, n, false, D, T, A, B2, rfl, N8.same g, al', _, A, rfl, hA8.same g, ok.a600, ok.arcs, ?_⟩
  obtain ⟨ps, ep8, rp8⟩ := hT8.same g
  refine ⟨_, rfl, x, _, dx, _, _, rfl, (g _ _ e8), B.cl_Net, B.na_Net_apart, k4, _, rfl, x, _, dx, _, _, rfl, (g _ _ e8), B.cl_Net, B.na_Net_tasks, k2, p, _, rfl, .inl (SqL.of ep8), pl', _, B2, rfl, hB8.same g, ok.b300, fun k hk => ?_, ?_⟩
  · rw [rp8.1]
    exact ok.pairs k hk
  exact q _ (f8.trans (Fx.of g)) (N8.same g)

theorem sccopy_of_task_vn : FnScope ["ways"] ["ways"] (defScope scopy_of_task_vn) := ⟨rfl, rfl, rfl, by decide +kernel, rfl, by decide +kernel, by decide +kernel⟩
set_option maxHeartbeats 4000000 in
theorem okcopy_of_task_vn {dV : Value} (F : FunD K "copy_of_task" "copy_of_task" scopy_of_task_vn dV f fd) (B : Bn K mg c_Net f_Net_init)  : FnOk P w K mg base CX0 1 f fd ["ways"] spCopyN := by
  have sc := sccopy_of_task_vn
  refine F.ok sc (fun vs H Q E h => ?_) (fun cdv A outer s H vs Q E hr h => ?_)
  · obtain ⟨l, ws, P0, rfl, _⟩ := h
    rfl
  obtain ⟨l, ws, P0, rfl, ⟨vs, el, r0⟩, l2, q⟩ := h
  refine ⟨_, (pss_one (ps_ret (pe_comp (own := "way") (ys := []) (js := []) rfl (cok atn .nil (by decide) rfl rfl rfl rfl rfl rfl rfl rfl) (pi_list (pv 0)) (fun C fp s H => (pe_tup (pa_cons (pe_ix (ix_tupB (K := K) rfl) (pv 0) pe_int (fun _ _ => rfl)) (pa_cons (pe_ix (ix_tupB (K := K) rfl) (pv 0) pe_int (fun _ _ => rfl)) (pa_cons (pe_callTy (call_listB (K := K) rfl) rfl B.b_list boot_list (pa_cons (pe_ix (ix_tupB (K := K) rfl) (pv 0) pe_int (fun _ _ => rfl)) pa_nil)) pa_nil)))))))), ?_⟩
  have sl : sizeLine = 16777216 := sizeLine_eq
  have r := r0.imp fun _ _ q => mvT q
  refine ⟨_, rfl, l, rfl, ⟨_, SqL.of el⟩, comp_Rl (rWayX H) (fun a => P0 a ∧ H a ≠ none) (fun i => ws.getD i (0, 0, [])) (SqL.of el) (by rw [r.1]; omega) (fun a h => h.2) (fun i y hy H3 g Q' hQ => ?_) fun p H' np g hp => ?_⟩
  · obtain ⟨w, hw, t, u, rfl, _, _, et, us, eu, ru⟩ := r.at_ hy
    have et3 := g _ _ et
    rw [getDo hw] at hQ
    refine ⟨_, rfl, t, _, _, _, rfl, rfl, SqT.of et3, rfl, _, rfl, t, _, _, _, rfl, rfl, SqT.of et3, rfl, _, rfl, t, _, _, _, rfl, rfl, SqT.of et3, rfl, u, us, rfl, .inl (SqL.of (g _ _ eu)), fun u' nu => ⟨(by show 3 ≤ sizeLine; decide), fun t' nt => ?_⟩⟩
    have g1 := same_new nu (.lst us)
    have g2 := same_new nt (.tup [.int w.1, .int w.2.1, .ref u'])
    exact hQ _ _ (g1.trans g2) ⟨t', u', rfl, .inl (g1.free nt), .inl nu, g.free nu, upd_same, us, g2 _ _ upd_same, ru.imp fun v e q => mvP (mvS q (g.trans (g1.trans g2))) fun a h => .inr h⟩
  · rw [rng_getD' ws (0, 0, []) r.1] at hp
    exact q p H' g np (hp.mono fun a h => h.1)

theorem scstart_case : FnScope ["net"] ["net"] (defScope sstart_case) := ⟨rfl, rfl, rfl, by decide +kernel, rfl, by decide +kernel, by decide +kernel⟩
set_option maxHeartbeats 4000000 in
theorem okstart_case {dV : Value} (F : FunD K "start_case" "start_case" sstart_case dV f fd) (B : Bn K mg c_Net f_Net_init)  : FnOk P w K mg base CX0 1 f fd ["net"] (spStart c_Net) := by
  have sc := scstart_case
  refine F.ok sc (fun vs H Q E h => ?_) (fun cdv A outer s H vs Q E hr h => ?_)
  · obtain ⟨x, fz, D, T, A, B2, n, rfl, _⟩ := h
    rfl
  obtain ⟨x, fz, D, T, A, B2, n, rfl, NG, t24, q⟩ := h
  refine ⟨_, (pss_one (ps_ret (pe_tup (pa_cons (pe_comp (own := "ways") (ys := []) (js := []) rfl (cok atn .nil (by decide) rfl rfl rfl rfl rfl rfl rfl rfl) (pi_list (pe_fld (pv 0) rfl)) (fun C fp s H => pe_non)) (pa_cons (pe_lst pa_nil) pa_nil))))), ?_⟩
  have sl : sizeLine = 16777216 := sizeLine_eq
  obtain ⟨dx, td, tl, al, pl, fs, e0, l1, l2, l3, l4, l5, ed, ⟨vs, el, rT⟩, hA, hB⟩ := NG.ex
  refine ⟨_, rfl, x, _, dx, _, _, rfl, e0, B.cl_Net, B.na_Net_tasks, l2, tl, rfl, ⟨_, SqL.of el⟩, comp_Rl (rVal pkV) (fun _ => False) (fun _ => (none : Option Nat)) (SqL.of el) (by rw [rT.1]; omega) (fun a h => h.elim) (fun k y hy H4 g4 Q' hQ => hQ _ _ (.refl _) rfl) fun lk H1 nlk g1 hk => ?_⟩
  obtain ⟨us, ek, rk'⟩ := hk
  rw [rT.1] at rk'
  rw [rk'.val] at ek
  exact ⟨(by show 0 ≤ sizeLine; decide), fun lo nlo => ⟨(by show 2 ≤ sizeLine; decide), fun t nt => q t _ ((g1.trans (same_new nlo _)).trans (same_new nt _)) ⟨lk, lo, upd_same, same_new nt _ _ _ (same_new nlo _ _ _ ek), ⟨[], same_new nt _ _ _ upd_same, Ref2.nil⟩⟩⟩⟩

theorem scstart_case_vn : FnScope ["net"] ["net"] (defScope sstart_case_vn) := ⟨rfl, rfl, rfl, by decide +kernel, rfl, by decide +kernel, by decide +kernel⟩
set_option maxHeartbeats 4000000 in
theorem okstart_case_vn {dV : Value} (F : FunD K "start_case" "start_case" sstart_case_vn dV f fd) (B : Bn K mg c_Net f_Net_init)  : FnOk P w K mg base CX0 1 f fd ["net"] (spStartN c_Net) := by
  have sc := scstart_case_vn
  refine F.ok sc (fun vs H Q E h => ?_) (fun cdv A outer s H vs Q E hr h => ?_)
  · obtain ⟨x, fz, D, T, A, B2, n, rfl, _⟩ := h
    rfl
  obtain ⟨x, fz, D, T, A, B2, n, rfl, NG, t24, q⟩ := h
  refine ⟨_, (pss_one (ps_ret (pe_tup (pa_cons (pe_comp (own := "ways") (ys := []) (js := []) rfl (cok atn .nil (by decide) rfl rfl rfl rfl rfl rfl rfl rfl) (pi_list (pe_fld (pv 0) rfl)) (fun C fp s H => pe_non)) (pa_cons (pe_lst pa_nil) pa_nil))))), ?_⟩
  have sl : sizeLine = 16777216 := sizeLine_eq
  obtain ⟨dx, td, tl, al, pl, fs, e0, l1, l2, l3, l4, l5, ed, ⟨vs, el, rT⟩, hA, hB⟩ := NG.ex
  refine ⟨_, rfl, x, _, dx, _, _, rfl, e0, B.cl_Net, B.na_Net_tasks, l2, tl, rfl, ⟨_, SqL.of el⟩, comp_Rl (rVal pkV) (fun _ => False) (fun _ => (none : Option Nat)) (SqL.of el) (by rw [rT.1]; omega) (fun a h => h.elim) (fun k y hy H4 g4 Q' hQ => hQ _ _ (.refl _) rfl) fun lk H1 nlk g1 hk => ?_⟩
  obtain ⟨us, ek, rk'⟩ := hk
  rw [rT.1] at rk'
  rw [rk'.val] at ek
  exact ⟨(by show 0 ≤ sizeLine; decide), fun lo nlo => ⟨(by show 2 ≤ sizeLine; decide), fun t nt => q t lk lo _ ((g1.trans (same_new nlo _)).trans (same_new nt _)) nlk (g1.free nlo) (fun e => by rw [e, nlo] at ek; cases ek) upd_same (same_new nt _ _ _ (same_new nlo _ _ _ ek)) (same_new nt _ _ _ upd_same)⟩⟩

theorem scopen_ways : FnScope ["net", "case", "i", "ways", "pick"] ["net", "case", "i"] (defScope sopen_ways) := ⟨rfl, rfl, rfl, by decide +kernel, rfl, by decide +kernel, by decide +kernel⟩
set_option maxHeartbeats 4000000 in
theorem okopen_ways {dV : Value} (F : FunD K "open_ways" "open_ways" sopen_ways dV f fd) (B : Bn K mg c_Net f_Net_init) (Dcopy_of_task : Dx P w K mg base CX0 1 "copy_of_task" ["ways"] [] spCopyG) : FnOk P w K mg base CX0 2 f fd ["net", "case", "i"] (spOpen c_Net) := by
  have sc := scopen_ways
  refine F.ok sc (fun vs H Q E h => ?_) (fun cdv A outer s H vs Q E hr h => ?_)
  · obtain ⟨x, t, i, rfl, _⟩ := h
    rfl
  obtain ⟨x, t, i, rfl, D, T, A, B2, n, P, O, NC, il, q⟩ := h
  refine ⟨_, (pss_cons (ps_set (i := 3) sc.nd rfl (Or.inl rfl) (pcall0 Dcopy_of_task hr (by decide) rfl (pa_cons (pe_ix ix_list (pe_fld (pv 0) rfl) (pv 2) (fun _ _ => rfl)) pa_nil))) (pss_cons (ps_set (i := 4) sc.nd rfl (Or.inl rfl) (pe_ix ix_list (pe_ix ix_tup (pv 1) pe_int (fun _ _ => rfl)) (pv 2) (fun _ _ => rfl))) (pss_one (ps_ret (pe_ifExp (pt_cmpR op_isN (pv 4) pe_non (nomark _)) (pv 3) (pe_lst (pa_cons (pe_ix ix_list (pv 3) (pv 4) (fun _ _ => rfl)) pa_nil))))))), ?_⟩
  obtain ⟨dx, td, tl, al, pl, fs, e0, l1, l2, l3, l4, l5, ed, ⟨vs, el, rT⟩, hA, hB⟩ := NC.net.ex
  obtain ⟨kl, ol, ec, ek, ho⟩ := id NC.case_
  have hT := List.getElem?_eq_getElem il
  have ol' := open_len (P := P) NC.ok.ways il
  obtain ⟨w1, w2, _⟩ := NC.ok.ways _ (List.getElem_mem il)
  obtain ⟨y, hy, wl, rfl, _, lw⟩ := rT.get hT
  have hP := List.getElem?_eq_getElem (show i < P.length by rw [NC.pk.len]; exact il)
  have oF : openF T P i = match P[i]'(by rw [NC.pk.len]; exact il) with | none => T[i] | some j => [(T[i]).getD j (0, 0, [])] := by
    unfold openF
    rw [getDo hT, getDo hP]
    try rfl
  refine ⟨_, rfl, x, _, dx, _, _, rfl, e0, B.cl_Net, B.na_Net_tasks, l2, _, rfl, tl, _, _, _, rfl, rfl, SqL.of el, (atI_nat hy), wl, _, _, rfl, lw, w2, fun p H1 g1 np wf => ?_⟩
  refine ⟨_, rfl, t, _, _, _, rfl, rfl, SqT.of (g1 _ _ ec), rfl, _, rfl, kl, _, _, _, rfl, rfl, SqL.of (g1 _ _ ek), (atI_nat (map_at hP)), ?_⟩
  obtain ⟨p', e', hpn, lp⟩ := wf
  cases e'
  have lpA := lp.any
  cases hp : P[i]'(by rw [NC.pk.len]; exact il) with
  | none =>
    rw [hp] at oF
    refine ⟨_, rfl, rfl, _, rfl, dT rfl ⟨_, rfl, ?_⟩⟩
    rw [oF] at q
    exact q p H1 g1 np lpA
  | some j =>
    rw [hp] at oF hP
    have jl := NC.pk.pick i j _ hP hT
    have hw := List.getElem?_eq_getElem jl
    replace oF : openF T P i = [(T[i]).getD j (0, 0, [])] := oF
    rw [getDo hw] at oF
    obtain ⟨ys, ey, ry⟩ := lpA
    obtain ⟨v, hv, rv⟩ := ry.get hw
    refine ⟨_, rfl, rfl, _, rfl, dF nofun ⟨_, rfl, _, rfl, p, _, _, _, rfl, rfl, SqL.of ey, (atI_nat hv), (by show 1 ≤ sizeLine; decide), fun p2 np2 => ?_⟩⟩
    rw [oF] at q
    exact q p2 _ (g1.trans (same_new np2 _)) (g1.free np2) ⟨_, upd_same, A2.one (mvS rv (same_new np2 _))⟩

theorem scopen_ways_vn : FnScope ["net", "case", "i", "ways", "pick"] ["net", "case", "i"] (defScope sopen_ways_vn) := ⟨rfl, rfl, rfl, by decide +kernel, rfl, by decide +kernel, by decide +kernel⟩
set_option maxHeartbeats 4000000 in
theorem okopen_ways_vn {dV : Value} (F : FunD K "open_ways" "open_ways" sopen_ways_vn dV f fd) (B : Bn K mg c_Net f_Net_init) (Dcopy_of_task_vn : Dx P w K mg base CX0 1 "copy_of_task" ["ways"] [] spCopyN) : FnOk P w K mg base CX0 2 f fd ["net", "case", "i"] (spOpenN c_Net) := by
  have sc := scopen_ways_vn
  refine F.ok sc (fun vs H Q E h => ?_) (fun cdv A outer s H vs Q E hr h => ?_)
  · obtain ⟨x, t, i, rfl, _⟩ := h
    rfl
  obtain ⟨x, t, i, rfl, D, T, A, B2, n, P, O, NC, il, q⟩ := h
  refine ⟨_, (pss_cons (ps_set (i := 3) sc.nd rfl (Or.inl rfl) (pcall0 Dcopy_of_task_vn hr (by decide) rfl (pa_cons (pe_ix ix_list (pe_fld (pv 0) rfl) (pv 2) (fun _ _ => rfl)) pa_nil))) (pss_cons (ps_set (i := 4) sc.nd rfl (Or.inl rfl) (pe_ix ix_list (pe_ix ix_tup (pv 1) pe_int (fun _ _ => rfl)) (pv 2) (fun _ _ => rfl))) (pss_one (ps_ret (pe_ifExp (pt_cmpR op_isN (pv 4) pe_non (nomark _)) (pv 3) (pe_lst (pa_cons (pe_ix ix_list (pv 3) (pv 4) (fun _ _ => rfl)) pa_nil))))))), ?_⟩
  obtain ⟨dx, td, tl, al, pl, fs, e0, l1, l2, l3, l4, l5, ed, ⟨vs, el, rT⟩, hA, hB⟩ := NC.net.ex
  obtain ⟨kl, ol, ec, ek, ho⟩ := id NC.case_
  have hT := List.getElem?_eq_getElem il
  have ol' := open_len (P := P) NC.ok.ways il
  obtain ⟨w1, w2, _⟩ := NC.ok.ways _ (List.getElem_mem il)
  obtain ⟨y, hy, wl, rfl, _, lw⟩ := rT.get hT
  have hP := List.getElem?_eq_getElem (show i < P.length by rw [NC.pk.len]; exact il)
  have oF : openF T P i = match P[i]'(by rw [NC.pk.len]; exact il) with | none => T[i] | some j => [(T[i]).getD j (0, 0, [])] := by
    unfold openF
    rw [getDo hT, getDo hP]
    try rfl
  refine ⟨_, rfl, x, _, dx, _, _, rfl, e0, B.cl_Net, B.na_Net_tasks, l2, _, rfl, tl, _, _, _, rfl, rfl, SqL.of el, (atI_nat hy), wl, _, _, rfl, lw, w2, fun p H1 g1 np lp => ?_⟩
  refine ⟨_, rfl, t, _, _, _, rfl, rfl, SqT.of (g1 _ _ ec), rfl, _, rfl, kl, _, _, _, rfl, rfl, SqL.of (g1 _ _ ek), (atI_nat (map_at hP)), ?_⟩
  cases hp : P[i]'(by rw [NC.pk.len]; exact il) with
  | none =>
    rw [hp] at oF
    refine ⟨_, rfl, rfl, _, rfl, dT rfl ⟨_, rfl, ?_⟩⟩
    rw [oF] at q
    exact q p H1 g1 np lp
  | some j =>
    rw [hp] at oF hP
    have jl := NC.pk.pick i j _ hP hT
    have hw := List.getElem?_eq_getElem jl
    replace oF : openF T P i = [(T[i]).getD j (0, 0, [])] := oF
    rw [getDo hw] at oF
    obtain ⟨ys, ey, ry⟩ := lp
    obtain ⟨v, hv, rv⟩ := ry.get hw
    refine ⟨_, rfl, rfl, _, rfl, dF nofun ⟨_, rfl, _, rfl, p, _, _, _, rfl, rfl, SqL.of ey, (atI_nat hv), (by show 1 ≤ sizeLine; decide), fun p2 np2 => ?_⟩⟩
    rw [oF] at q
    refine q p2 _ (g1.trans (same_new np2 _)) (g1.free np2) ⟨_, upd_same, A2.one (mvP (mvS (mvT rv) (same_new np2 _)) fun a h z => h.2 (by rw [z]; exact np2))⟩

theorem scobeys : FnScope ["case", "plan", "runs", "pick", "run", "i", "j"] ["case", "plan"] (defScope sobeys) := ⟨rfl, rfl, rfl, by decide +kernel, rfl, by decide +kernel, by decide +kernel⟩
set_option maxHeartbeats 4000000 in
theorem okobeys {dV : Value} (F : FunD K "obeys" "obeys" sobeys dV f fd) (B : Bn K mg c_Net f_Net_init)  : FnOk P w K mg base CX0 1 f fd ["case", "plan"] spObeys := by
  have sc := scobeys
  refine F.ok sc (fun vs H Q E h => ?_) (fun cdv A outer s H vs Q E hr h => ?_)
  · obtain ⟨t, th, P, O, R, M, rfl, _⟩ := h
    rfl
  obtain ⟨t, th, P, O, R, M, rfl, ⟨kl, ol, ec, ek, ⟨bo, eo, ro⟩⟩, lP, r24, ⟨o1000, oo⟩, ⟨rl, ml, eth, ⟨bs, er, rR⟩, em⟩, q⟩ := h
  refine ⟨_, (pss_cons (ps_set (i := 2) sc.nd rfl (Or.inl rfl) (pe_ix ix_tup (pv 1) pe_int (fun _ _ => rfl))) (pss_cons (ps_for PassesOwn.never rfl (pi_zip rfl B.b_zip (pa_cons (pe_ix ix_tup (pv 0) pe_int (fun _ _ => rfl)) (pa_cons (pv 2) pa_nil))) (pg_tup rfl (pgs_cons (pg_name (i := 3) sc.nd rfl (Or.inl rfl)) (pgs_cons (pg_name (i := 4) sc.nd rfl (Or.inl rfl)) pgs_nil))) (pss_one (ps_if (PW.pt (pw_and (pt_cmpR op_notN (pv 3) pe_non (nomark _)) (pw_and1 (pt_cmpR op_ne (pe_ix ix_tup (pv 4) pe_int (fun _ _ => rfl)) (pv 3) (nomark _))))) (pss_one (ps_ret pe_bl)) pss_nil))) (pss_cons (ps_for PassesOwn.never rfl (pi_list (pe_ix ix_tup (pv 0) pe_int (fun _ _ => rfl))) (pg_tup rfl (pgs_cons (pg_name (i := 5) sc.nd rfl (Or.inl rfl)) (pgs_cons (pg_name (i := 6) sc.nd rfl (Or.inl rfl)) pgs_nil))) (pss_one (ps_if (pt_cmpR op_gt (pe_ix ix_tup (pe_ix ix_list (pv 2) (pv 5) (fun _ _ => rfl)) pe_int (fun _ _ => rfl)) (pe_ix ix_tup (pe_ix ix_list (pv 2) (pv 6) (fun _ _ => rfl)) pe_int (fun _ _ => rfl)) (nomark _)) (pss_one (ps_ret pe_bl)) pss_nil))) (pss_one (ps_ret pe_bl))))), ?_⟩
  have sl : sizeLine = 16777216 := sizeLine_eq
  have lr' : (bs.map V.ref).length = R.length := by rw [List.length_map, rR.1, List.length_map]
  have lp' : (P.map pkV).length = P.length := List.length_map _
  have run : ∀ H' : Hp, Same H H' → ∀ i : Int, 0 ≤ i → i < (R.length : Int) → ∃ t, atI (bs.map V.ref) i = some (.ref t) ∧ H' t = some (.tup ((rk (R.getD i.toNat (0, 0, 0))).map V.int)) := fun H' g i i0 i1 => by
    have hr := List.getElem?_eq_getElem (show i.toNat < R.length by omega)
    obtain ⟨t, ht, et⟩ := rR.get (show (R.map rk)[i.toNat]? = some (rk (R[i.toNat]'(by omega))) by rw [List.getElem?_map, hr]; rfl)
    rw [getDo hr]
    have := atI_nat (map_at (f := V.ref) ht)
    rw [Int.toNat_of_nonneg i0] at this
    exact ⟨t, this, g _ _ et⟩
  have bad1 : ∀ (i j : Nat), i < R.length → P[i]? = some (some j) → (R.getD i (0, 0, 0)).2.2 ≠ (j : Int) → obeyF P O R = false := fun i j il hp hne => by
    unfold obeyF
    have : ((List.range R.length).all fun i => pickOk (P.getD i none) (R.getD i (0, 0, 0)).2.2) = false := by
      rw [← Bool.not_eq_true, List.all_eq_true]
      intro h
      have := h i (List.mem_range.mpr il)
      rw [getDo hp] at this
      exact hne (of_decide_eq_true this)
    rw [this, Bool.false_and]
  refine ⟨_, rfl, th, _, _, _, rfl, rfl, SqT.of eth, rfl, ?_⟩
  try dsimp only [gName, tNext]
  refine cut (fun σ H' => ∃ o3 o4 : Option V, σ = [some (.ref t), some (.ref th), some (.ref rl), o3, o4, none, none] ∧ Same H H' ∧ ((List.range R.length).all fun i => pickOk (P.getD i none) (R.getD i (0, 0, 0)).2.2) = true) (fun N hN => ?_) ?_
  · refine ⟨_, rfl, t, _, _, _, rfl, rfl, SqT.of ec, rfl, _, rfl, kl, rl, rfl, ⟨_, SqL.of ek⟩, ⟨_, SqL.of er⟩, for_zip (xs := P.map pkV) (ys := bs.map V.ref) (fun i σ H' => Same H H' ∧ (∃ o3 o4 : Option V, σ = [some (.ref t), some (.ref th), some (.ref rl), o3, o4, none, none]) ∧ ∀ k, k < i → pickOk (P.getD k none) (R.getD k (0, 0, 0)).2.2 = true) ⟨.refl _, ⟨none, none, rfl⟩, fun k hk => absurd hk (Nat.not_lt_zero _)⟩ (fun i σ H' _ h => ⟨SqL.of (h.1 _ _ ek), SqL.of (h.1 _ _ er)⟩) ?_ ?_⟩
    · rintro i y z σ H1 T' hy hz ⟨g1, ⟨o3, o4, rfl⟩, hall⟩ nT'
      have il : i < R.length := by have := (List.getElem?_eq_some_iff.mp hz).1; omega
      rw [List.getElem?_map] at hy
      obtain ⟨pk, hP, rfl⟩ := Option.map_eq_some_iff.mp hy
      obtain ⟨b, hb, rfl⟩ := refs_at hz
      have g2 := g1.trans (same_new nT' (.tup [pkV pk, .ref b]))
      have hr := List.getElem?_eq_getElem il
      have eb := rR.2 i b _ hb (show (R.map rk)[i]? = some (rk R[i]) by rw [List.getElem?_map, hr]; rfl)
      rw [← getDo (d := (0, 0, 0)) hr] at eb
      have next : pickOk (P.getD i none) (R.getD i (0, 0, 0)).2.2 = true → ∀ k, k < i + 1 → pickOk (P.getD k none) (R.getD k (0, 0, 0)).2.2 = true := fun h k hk => by
        by_cases c : k = i
        · rw [c]; exact h
        · exact hall k (by omega)
      refine ⟨T', _, rfl, SqT.of upd_same, rfl, _, _, rfl, _, _, rfl, rfl, ?_⟩
      cases pk with
      | none => exact ⟨_, rfl, rfl, _, rfl, nF rfl ⟨g2, ⟨_, _, rfl⟩, next (by rw [getDo hP]; rfl)⟩⟩
      | some j =>
        refine ⟨_, rfl, rfl, _, rfl, nT nofun ⟨_, rfl, b, _, _, _, rfl, rfl, SqT.of (g2 _ _ eb), rfl, _, rfl, rfl, _, rfl, n2I (fun c => ?_) (fun c => ⟨g2, ⟨_, _, rfl⟩, next (by rw [getDo hP]; exact decide_eq_true c)⟩)⟩⟩
        rw [bad1 i j il hP c] at q
        exact q _ g2
    · rintro σ H1 ⟨g1, ⟨o3, o4, rfl⟩, hall⟩
      rw [lr', lp', lP, Nat.min_self] at hall
      refine hN _ _ ⟨_, _, rfl, g1, ?_⟩
      rw [List.all_eq_true]
      exact fun i hi => hall i (List.mem_range.mp hi)
  rintro σ H1 ⟨o3, o4, rfl, g1, hall⟩
  refine ⟨_, rfl, t, _, _, _, rfl, rfl, SqT.of (g1 _ _ ec), rfl, ol, rfl, ⟨_, SqL.of (g1 _ _ eo)⟩, for_list (xs := bo.map V.ref) (fun k σ H' => H1 = H' ∧ (∃ o5 o6 : Option V, σ = [some (.ref t), some (.ref th), some (.ref rl), o3, o4, o5, o6]) ∧ ((O.take k).all fun k => decide ((R.getD (k.getD 0 0).toNat (0, 0, 0)).2.1 ≤ (R.getD (k.getD 1 0).toNat (0, 0, 0)).1)) = true) ⟨rfl, ⟨_, _, rfl⟩, rfl⟩ (fun k σ H' _ h => by rw [← h.1]; exact SqL.of (g1 _ _ eo)) ?_ ?_⟩
  · rintro k y σ H2 hy ⟨rfl, ⟨o5, o6, rfl⟩, hk'⟩
    obtain ⟨b, hb, rfl⟩ := refs_at hy
    have kl' : k < O.length := by rw [← ro.1]; exact (List.getElem?_eq_some_iff.mp hb).1
    have hk := List.getElem?_eq_getElem kl'
    have mem := List.getElem_mem kl'
    have eb' := ro.2 k b _ hb hk
    obtain ⟨p, q', ek', p0, p1, q0, q1⟩ := oo _ mem
    rw [ek'] at eb' hk mem
    obtain ⟨tp, ap, etp⟩ := run H1 g1 p p0 p1
    obtain ⟨tq, aq, etq⟩ := run H1 g1 q' q0 q1
    refine ⟨b, _, rfl, SqT.of (g1 _ _ eb'), rfl, _, _, rfl, _, _, rfl, rfl, ?_⟩
    refine ⟨_, rfl, _, rfl, rl, _, _, _, rfl, rfl, SqL.of (g1 _ _ er), ap, tp, _, _, _, rfl, rfl, SqT.of etp, rfl, _, rfl, _, rfl, rl, _, _, _, rfl, rfl, SqL.of (g1 _ _ er), aq, tq, _, _, _, rfl, rfl, SqT.of etq, rfl, _, _, rfl, rfl, _, rfl, d2 (fun c => ?_) (fun c => ⟨rfl, ⟨_, _, rfl⟩, ?_⟩)⟩
    · have : obeyF P O R = false := by
        unfold obeyF
        have : (O.all fun k => decide ((R.getD (k.getD 0 0).toNat (0, 0, 0)).2.1 ≤ (R.getD (k.getD 1 0).toNat (0, 0, 0)).1)) = false := by
          rw [← Bool.not_eq_true, List.all_eq_true]
          intro h
          have h1 : decide ((R.getD p.toNat (0, 0, 0)).2.1 ≤ (R.getD q'.toNat (0, 0, 0)).1) = true := h _ mem
          have := of_decide_eq_true h1
          replace c : (R.getD p.toNat (0, 0, 0)).2.1 > (R.getD q'.toNat (0, 0, 0)).1 := c
          omega
        rw [this, Bool.and_false]
      rw [this] at q
      exact q _ g1
    · rw [take_snocG hk, List.all_append, hk', Bool.true_and, List.all_cons, List.all_nil, Bool.and_true]
      replace c : ¬ ((R.getD p.toNat (0, 0, 0)).2.1 > (R.getD q'.toNat (0, 0, 0)).1) := c
      show decide ((R.getD p.toNat (0, 0, 0)).2.1 ≤ (R.getD q'.toNat (0, 0, 0)).1) = true
      exact decide_eq_true (by omega)
  · rintro σ H2 ⟨rfl, ⟨o5, o6, rfl⟩, hk'⟩
    rw [List.length_map, ro.1, List.take_length] at hk'
    have : obeyF P O R = true := by
      unfold obeyF
      rw [hall, hk']
      rfl
    rw [this] at q
    exact q _ g1

theorem scarcs_of : FnScope ["net", "case", "arcs", "i", "ways", "j"] ["net", "case"] (defScope sarcs_of) := ⟨rfl, rfl, rfl, by decide +kernel, rfl, by decide +kernel, by decide +kernel⟩
set_option maxHeartbeats 4000000 in
theorem okarcs_of {dV : Value} (F : FunD K "arcs_of" "arcs_of" sarcs_of dV f fd) (B : Bn K mg c_Net f_Net_init) (Dopen_ways : Dx P w K mg base CX0 2 "open_ways" ["net", "case", "i"] [] (spOpen c_Net)) : FnOk P w K mg base CX0 3 f fd ["net", "case"] (spArcsOf c_Net) := by
  have sc := scarcs_of
  refine F.ok sc (fun vs H Q E h => ?_) (fun cdv A outer s H vs Q E hr h => ?_)
  · obtain ⟨x, t, rfl, _⟩ := h
    rfl
  obtain ⟨x, t, rfl, D, T, A, B2, n, P, O, NC, po, q⟩ := h
  refine ⟨_, (pss_cons (ps_set (i := 2) sc.nd rfl (Or.inl rfl) (pe_callTy call_list_of rfl B.b_list boot_list (pa_cons (pe_fld (pv 0) rfl) pa_nil))) (pss_cons (ps_for PassesOwn.never rfl (pi_range1 rfl B.b_range (pa_cons (pe_callB call_len_seq rfl B.b_len boot_len (pa_cons (pe_fld (pv 0) rfl) pa_nil)) pa_nil)) (pg_name (i := 3) sc.nd rfl (Or.inl rfl)) (pss_cons (ps_set (i := 4) sc.nd rfl (Or.inl rfl) (pcall0 Dopen_ways hr (by decide) rfl (pa_cons (pv 0) (pa_cons (pv 1) (pa_cons (pv 3) pa_nil))))) (pss_cons (ps_expr (pe_bm PySem.F.plainAttrs_list PySem.F.slot_list_append PySem.F.type_list_append mt_append (pv 2) (pa_cons (pe_tup (pa_cons (pe_op op_mulB pe_int (pv 3)) (pa_cons (pe_op op_add (pe_op op_mulB pe_int (pv 3)) pe_int) (pa_cons (pe_callB (call_minL rfl) rfl B.b_min boot_min (pa_cons (pe_comp (own := "way") (ys := []) (js := []) rfl (cok atn .nil (by decide) rfl rfl rfl rfl rfl rfl rfl rfl) (pi_list (pv 4)) (fun C fp s H => (pe_ix (ix_tupB (K := K) rfl) (pv 0) pe_int (fun _ _ => rfl)))) pa_nil)) pa_nil)))) pa_nil))) (pss_one (ps_expr (pe_bm PySem.F.plainAttrs_list PySem.F.slot_list_append PySem.F.type_list_append mt_append (pv 2) (pa_cons (pe_tup (pa_cons (pe_op op_add (pe_op op_mulB pe_int (pv 3)) pe_int) (pa_cons (pe_op op_mulB pe_int (pv 3)) (pa_cons (pe_un un_neg (pe_callB (call_maxL rfl) rfl B.b_max boot_max (pa_cons (pe_comp (own := "way") (ys := []) (js := []) rfl (cok atn .nil (by decide) rfl rfl rfl rfl rfl rfl rfl rfl) (pi_list (pv 4)) (fun C fp s H => (pe_ix (ix_tupB (K := K) rfl) (pv 0) pe_int (fun _ _ => rfl)))) pa_nil))) pa_nil)))) pa_nil))))))) (pss_cons (ps_for PassesOwn.never rfl (pi_list (pe_ix ix_tup (pv 1) pe_int (fun _ _ => rfl))) (pg_tup rfl (pgs_cons (pg_name (i := 3) sc.nd rfl (Or.inl rfl)) (pgs_cons (pg_name (i := 5) sc.nd rfl (Or.inl rfl)) pgs_nil))) (pss_one (ps_expr (pe_bm PySem.F.plainAttrs_list PySem.F.slot_list_append PySem.F.type_list_append mt_append (pv 2) (pa_cons (pe_tup (pa_cons (pe_op op_add (pe_op op_mulB pe_int (pv 3)) pe_int) (pa_cons (pe_op op_mulB pe_int (pv 5)) (pa_cons pe_int pa_nil)))) pa_nil))))) (pss_one (ps_ret (pv 2)))))), ?_⟩
  have sl : sizeLine = 16777216 := sizeLine_eq
  obtain ⟨dx, td, tl, al, pl, fs, e0, l1, l2, l3, l4, l5, ed, ⟨vs, el, rT⟩, ⟨ba, ea, ra⟩, hB⟩ := NC.net.ex
  obtain ⟨kl, ol, ec, ek, ⟨bo, eo, ro⟩⟩ := id NC.case_
  have a600 := NC.ok.a600
  have t24 := NC.ok.t24
  have lv : vs.length = T.length := rT.1
  refine ⟨_, rfl, x, _, dx, _, _, rfl, e0, B.cl_Net, B.na_Net_arcs, l3, al, _, rfl, .inl (SqL.of ea), fun l nl => ?_⟩
  have g0 := same_new nl (.lst (ba.map V.ref))
  have hA0 : TupsA (upd H l (.lst (ba.map V.ref))) l (A ++ arcsN T P 0) := ⟨ba, upd_same, by rw [show A ++ arcsN T P 0 = A from List.append_nil A]; exact ra.imp fun a k q => g0 _ _ q⟩
  generalize upd H l (.lst (ba.map V.ref)) = H0 at g0 hA0 ⊢
  try dsimp only [gName, tNext]
  refine cut (fun σ H' => ∃ o3 o4 o5 : Option V, σ = [some (.ref x), some (.ref t), some (.ref l), o3, o4, o5] ∧ Same H H' ∧ TupsA H' l (A ++ arcsN T P T.length)) (fun N hN => ?_) ?_
  · refine ⟨_, rfl, x, _, dx, _, _, rfl, (g0 _ _ e0), B.cl_Net, B.na_Net_tasks, l2, tl, _, rfl, .inl (SqL.of (g0 _ _ el)), _, rfl, by omega, by omega, for_range (fun i σ H' => ∃ o3 o4 o5 : Option V, σ = [some (.ref x), some (.ref t), some (.ref l), o3, o4, o5] ∧ Same H H' ∧ TupsA H' l (A ++ arcsN T P i)) ⟨none, none, none, rfl, g0, hA0⟩ ?_ ?_⟩
    · rintro i σ H1 hi ⟨o3, o4, o5, rfl, g1, ⟨bs, eb, rb⟩⟩
      rw [Int.toNat_natCast, lv] at hi
      have zi : (0 + (i : Int)) = (i : Int) := Int.zero_add _
      have ne := open_ne (P := P) NC.ok.ways hi
      have ln := open_len (P := P) NC.ok.ways hi
      have lb : bs.length = A.length + 2 * i := by rw [rb.1, List.length_append, arcsN_len]
      refine ⟨_, rfl, _, rfl, _, rfl, x, t, i, by rw [zi]; rfl, D, T, A, B2, n, P, O, NC.same g1, hi, fun p H2 g2 np ⟨vs, ev, rv⟩ => ?_⟩
      refine ⟨_, rfl, .inl ⟨rfl, _, SqL.of (g2 _ _ eb)⟩, _, rfl, _, _, rfl, rfl, IntMulOk.of_left (by decide), _, rfl, _, _, rfl, rfl, IntMulOk.of_left (by decide), _, _, rfl, rfl, _, rfl, p, rfl, ⟨_, SqL.of ev⟩, comp_Rl (rVal V.int) (fun _ => False) (fun k => (fun w : Wy => w.1) ((openF T P i).getD k (0, 0, []))) (SqL.of ev) (by rw [rv.1]; omega) (fun a h => h.elim) (fun k y hy Hk gk Q' hQ => ?_) fun p2 H3 np2 g3 hp2 => ?_⟩
      · obtain ⟨w, hw, tw, uw, rfl, _, _, etw, _⟩ := rv.at_ hy
        rw [getDo hw] at hQ
        exact ⟨_, rfl, tw, _, _, _, rfl, rfl, SqT.of (gk _ _ etw), rfl, hQ _ _ (.refl _) rfl⟩
      obtain ⟨us, eu, ru⟩ := hp2
      have eus : us = ((openF T P i).map fun w : Wy => w.1).map V.int := by
        rw [ru.val, rv.1]
        conv => rhs; rw [← rng_getD (openF T P i) (0, 0, [])]
        rw [List.map_map, List.map_map, List.map_map]
        rfl
      rw [eus] at eu
      refine ⟨p2, _, rfl, SqL.of eu, by simpa using ne, fun M hM hle => ⟨(by show 3 ≤ sizeLine; decide), fun t1 nt1 => ⟨l, _, _, rfl, rfl, same_new nt1 _ _ _ ((g2.trans g3) _ _ eb), by rw [List.length_map]; omega, ?_⟩⟩⟩
      rw [zi, minL_of hM hle]
      obtain ⟨m1, hm1⟩ : ∃ m1, m1 = minL ((openF T P i).map fun w : Wy => w.1) := ⟨_, rfl⟩
      rw [← hm1]
      have gt1 := same_new nt1 (.tup [.int (2 * (i : Int)), .int (2 * (i : Int) + 1), .int m1])
      have k4 := ((g1.trans g2).trans g3).trans gt1
      have q4 := (g2.trans g3).trans gt1
      have hA4 := tups_put (k := [2 * (i : Int), 2 * (i : Int) + 1, m1]) (q4 _ _ eb) (rb.imp fun a k q => q4 _ _ q) upd_same
      have k5 := sUpd k4 nl (.lst (bs.map V.ref ++ [.ref t1]))
      have ev5 : upd (upd H3 t1 (.tup [.int (2 * (i : Int)), .int (2 * (i : Int) + 1), .int m1])) l (.lst (bs.map V.ref ++ [.ref t1])) p = some (.lst vs) := by
        rw [upd_ne (fun e => by rw [e, eb] at np; cases np)]
        exact (g3.trans gt1) _ _ ev
      have tw5 : ∀ tw ys, H2 tw = some (.tup ys) → upd (upd H3 t1 (.tup [.int (2 * (i : Int)), .int (2 * (i : Int) + 1), .int m1])) l (.lst (bs.map V.ref ++ [.ref t1])) tw = some (.tup ys) := fun tw ys e => by
        rw [upd_ne (fun z => by rw [z, g2 _ _ eb] at e; cases e)]
        exact (g3.trans gt1) _ _ e
      generalize upd (upd H3 t1 (.tup [.int (2 * (i : Int)), .int (2 * (i : Int) + 1), .int m1])) l (.lst (bs.map V.ref ++ [.ref t1])) = H5 at hA4 k5 ev5 tw5 ⊢
      clear eu eus ru us gt1 k4 q4 nt1 g3 np2
      obtain ⟨cs, ecs, rcs⟩ := hA4
      have lc : cs.length = A.length + 2 * i + 1 := by rw [rcs.1, List.length_append, List.length_append, arcsN_len]; rfl
      refine ⟨_, rfl, .inl ⟨rfl, _, SqL.of ecs⟩, _, rfl, _, _, rfl, rfl, IntMulOk.of_left (by decide), _, _, rfl, rfl, _, rfl, _, _, rfl, rfl, IntMulOk.of_left (by decide), _, rfl, p, rfl, ⟨_, SqL.of ev5⟩, comp_Rl (rVal V.int) (fun _ => False) (fun k => (fun w : Wy => w.2.1) ((openF T P i).getD k (0, 0, []))) (SqL.of ev5) (by rw [rv.1]; omega) (fun a h => h.elim) (fun k y hy Hk gk Q' hQ => ?_) fun p3 H6 np3 g6 hp3 => ?_⟩
      · obtain ⟨w, hw, tw, uw, rfl, _, _, etw, _⟩ := rv.at_ hy
        rw [getDo hw] at hQ
        exact ⟨_, rfl, tw, _, _, _, rfl, rfl, SqT.of (gk _ _ (tw5 _ _ etw)), rfl, hQ _ _ (.refl _) rfl⟩
      obtain ⟨us, eu, ru⟩ := hp3
      have eus : us = ((openF T P i).map fun w : Wy => w.2.1).map V.int := by
        rw [ru.val, rv.1]
        conv => rhs; rw [← rng_getD (openF T P i) (0, 0, [])]
        rw [List.map_map, List.map_map, List.map_map]
        rfl
      rw [eus] at eu
      refine ⟨p3, _, rfl, SqL.of eu, by simpa using ne, fun M2 hM2 hle2 => ⟨_, rfl, (by show 3 ≤ sizeLine; decide), fun t2 nt2 => ⟨l, _, _, rfl, rfl, same_new nt2 _ _ _ (g6 _ _ ecs), by rw [List.length_map]; omega, ?_⟩⟩⟩
      rw [maxL_of hM2 hle2]
      have gt2 := same_new nt2 (.tup [.int (2 * (i : Int) + 1), .int (2 * (i : Int)), .int (-(maxL ((openF T P i).map fun w : Wy => w.2.1)))])
      have hA7 := tups_put (k := [2 * (i : Int) + 1, 2 * (i : Int), -(maxL ((openF T P i).map fun w : Wy => w.2.1))]) ((g6.trans gt2) _ _ ecs) (rcs.imp fun a k q => (g6.trans gt2) _ _ q) upd_same
      refine ⟨_, _, _, rfl, sUpd ((k5.trans g6).trans gt2) nl _, ?_⟩
      have e : A ++ arcsN T P (i + 1) = A ++ arcsN T P i ++ [[2 * (i : Int), 2 * (i : Int) + 1, m1]] ++ [[2 * (i : Int) + 1, 2 * (i : Int), -(maxL ((openF T P i).map fun w : Wy => w.2.1))]] := by
        rw [hm1]
        show A ++ (arcsN T P i ++ _) = _
        rw [List.append_assoc, List.append_assoc]
        rfl
      rw [e]
      exact hA7
    · rintro σ H1 ⟨o3, o4, o5, rfl, g1, hA⟩
      rw [Int.toNat_natCast, lv] at hA
      exact hN _ _ ⟨_, _, _, rfl, g1, hA⟩
  clear hA0 g0
  rintro σ H1 ⟨o3, o4, o5, rfl, g1, hA⟩
  refine ⟨_, rfl, t, _, _, _, rfl, rfl, SqT.of (g1 _ _ ec), rfl, ol, rfl, ⟨_, SqL.of (g1 _ _ eo)⟩, for_list (xs := bo.map V.ref) (fun k σ H' => ∃ o3 o4 o5 : Option V, σ = [some (.ref x), some (.ref t), some (.ref l), o3, o4, o5] ∧ Same H H' ∧ TupsA H' l (A ++ arcsN T P T.length ++ ordK (O.take k))) ⟨_, _, _, rfl, g1, by rw [List.take_zero]; exact (List.append_nil _).symm ▸ hA⟩ (fun k σ H' _ h => by obtain ⟨_, _, _, _, g, _⟩ := h; exact SqL.of (g _ _ eo)) ?_ ?_⟩
  · rintro k y σ H2 hy ⟨o3, o4, o5, rfl, g2, ⟨bs, eb, rb⟩⟩
    obtain ⟨b, hb, rfl⟩ := refs_at hy
    have kl : k < O.length := by rw [← ro.1]; exact (List.getElem?_eq_some_iff.mp hb).1
    have hk := List.getElem?_eq_getElem kl
    have eb' := ro.2 k b _ hb hk
    obtain ⟨p, q', ek'⟩ := po.2 _ (List.getElem_mem kl)
    rw [ek'] at eb' hk
    have lb : bs.length ≤ 2000 := by
      have := rb.1
      have h1 := po.1
      rw [List.length_append, List.length_append, arcsN_len] at this
      unfold ordK at this
      rw [List.length_map, List.length_take] at this
      omega
    refine ⟨b, _, rfl, SqT.of (g2 _ _ eb'), rfl, _, _, rfl, _, _, rfl, rfl, ?_⟩
    refine ⟨_, rfl, .inl ⟨rfl, _, SqL.of eb⟩, _, rfl, _, _, rfl, rfl, IntMulOk.of_left (by decide), _, _, rfl, rfl, _, rfl, _, _, rfl, rfl, IntMulOk.of_left (by decide), (by show 3 ≤ sizeLine; decide), fun t1 nt1 => ⟨l, _, _, rfl, rfl, same_new nt1 _ _ _ eb, by rw [List.length_map]; omega, ?_⟩⟩
    have gt := same_new nt1 (.tup [.int (2 * p + 1), .int (2 * q'), .int 0])
    refine ⟨_, _, _, rfl, sUpd (g2.trans gt) nl _, ?_⟩
    have e : ordK (O.take (k + 1)) = ordK (O.take k) ++ [[2 * p + 1, 2 * q', 0]] := by
      unfold ordK
      rw [take_snocG hk, List.map_append]
      rfl
    rw [e, ← List.append_assoc]
    exact tups_put (gt _ _ eb) (rb.imp fun a k q => gt _ _ q) upd_same
  · rintro σ H2 ⟨o3, o4, o5, rfl, g2, hA2⟩
    have lo : (bo.map V.ref).length = O.length := by rw [List.length_map, ro.1]
    rw [lo, List.take_length] at hA2
    exact ⟨_, rfl, q l H2 g2 nl hA2⟩

theorem sc_law_cell_at : FnScope ["_law_script", "_law_k"] ["_law_script", "_law_k"] (defScope s_law_cell_at) := ⟨rfl, rfl, rfl, by decide +kernel, rfl, by decide +kernel, by decide +kernel⟩
set_option maxHeartbeats 4000000 in
theorem ok_law_cell_at {dV : Value} (F : FunD K "_law_cell_at" "_law_cell_at" s_law_cell_at dV f fd) (B : Bn K mg c_Net f_Net_init)  : FnOk P w K mg base CX0 1 f fd ["_law_script", "_law_k"] (spCell K) := by
  have sc := sc_law_cell_at
  refine F.ok sc (fun vs H Q E h => ?_) (fun cdv A outer s H vs Q E hr h => ?_)
  · obtain ⟨a, ns, k, rfl, _⟩ := h
    rfl
  obtain ⟨a, ns, k, rfl, hS, h0, q⟩ := h
  refine ⟨_, (pss_cons (ps_if (pt_cmpR op_lt (pv 1) (pe_callB call_len_seq rfl B.b_len boot_len (pa_cons (pv 0) pa_nil)) (nomark _)) (pss_one (ps_ret (pe_ix ix_list (pv 0) (pv 1) (fun _ _ => rfl)))) pss_nil) (pss_one (ps_ret pe_int))), ?_⟩
  refine ⟨_, rfl, _, rfl, a, _, rfl, .inl hS, _, _, rfl, rfl, _, rfl, d2 (fun c => ?_) (fun c => ?_)⟩
  · obtain ⟨v, hv⟩ := cell_ok h0 c
    exact ⟨_, rfl, _, rfl, a, _, _, _, rfl, rfl, hS, hv, q v⟩
  · exact q 0

theorem sc_law_whole : FnScope ["_law_found"] ["_law_found"] (defScope s_law_whole) := ⟨rfl, rfl, rfl, by decide +kernel, rfl, by decide +kernel, by decide +kernel⟩
set_option maxHeartbeats 4000000 in
theorem ok_law_whole {dV : Value} (F : FunD K "_law_whole" "_law_whole" s_law_whole dV f fd) (B : Bn K mg c_Net f_Net_init)  : FnOk P w K mg base CX0 1 f fd ["_law_found"] spWhole := by
  have sc := sc_law_whole
  refine F.ok sc (fun vs H Q E h => ?_) (fun cdv A outer s H vs Q E hr h => ?_)
  · obtain ⟨v, rfl, _⟩ := h
    rfl
  obtain ⟨v, rfl, q⟩ := h
  refine ⟨_, (pss_one (ps_ret (pe_and (pe_callB call_isi rfl B.b_isinstance boot_isinstance (pa_cons (pv 0) (pa_cons (pe_bltn (v := .ty "int") rfl B.b_int boot_int rfl) pa_nil))) (pe_one (pe_not (pe_callB call_isi rfl B.b_isinstance boot_isinstance (pa_cons (pv 0) (pa_cons (pe_bltn (v := .ty "bool") rfl B.b_bool boot_bool rfl) pa_nil)))))))), ?_⟩
  refine ⟨_, rfl, _, _, _, rfl, .ii v, _, rfl, iteT ⟨_, rfl, _, _, _, rfl, .ib v, _, rfl, q⟩⟩

theorem sc_law_mixed : FnScope ["_law_cell", "_law_k"] ["_law_cell", "_law_k"] (defScope s_law_mixed) := ⟨rfl, rfl, rfl, by decide +kernel, rfl, by decide +kernel, by decide +kernel⟩
set_option maxHeartbeats 4000000 in
theorem ok_law_mixed {dV : Value} (F : FunD K "_law_mixed" "_law_mixed" s_law_mixed dV f fd) (B : Bn K mg c_Net f_Net_init)  : FnOk P w K mg base CX0 1 f fd ["_law_cell", "_law_k"] spMixed := by
  have sc := sc_law_mixed
  refine F.ok sc (fun vs H Q E h => ?_) (fun cdv A outer s H vs Q E hr h => ?_)
  · obtain ⟨c, k, rfl, _⟩ := h
    rfl
  obtain ⟨c, k, rfl, q⟩ := h
  refine ⟨_, (pss_one (ps_ret (pe_op op_fdivB (pe_op op_modN (pe_op op_mulB (pe_op op_add (pe_op op_modN (pv 0) pe_int) pe_int) (pe_op op_add pe_int (pe_op op_mulB pe_int (pv 1)))) pe_int) pe_int))), ?_⟩
  have m1 := fm (a := c) (n := 999983) (by decide)
  have m2 := fm (a := (c.fmod 999983 + 17) * (48271 + 7919 * k)) (n := 999979) (by decide)
  refine ⟨_, rfl, _, _, rfl, rfl, (by show (999983 : Int) ≠ 0; decide), _, _, rfl, rfl, _, rfl, _, _, rfl, rfl, IntMulOk.of_left (by decide), _, _, rfl, rfl, _, _, rfl, rfl, IntMulOk.of_left (intBits_le_64 (by omega) (by omega)), _, _, rfl, rfl, (by show (999979 : Int) ≠ 0; decide), _, _, rfl, rfl, ⟨by decide, PyProof.noPylong_small (by decide)⟩, q _ ?_⟩
  exact Int.fdiv_nonneg m2.1 (by decide)

theorem sc_law_meet : FnScope ["_law_one", "_law_other"] ["_law_one", "_law_other"] (defScope s_law_meet) := ⟨rfl, rfl, rfl, by decide +kernel, rfl, by decide +kernel, by decide +kernel⟩
set_option maxHeartbeats 4000000 in
theorem ok_law_meet {dV : Value} (F : FunD K "_law_meet" "_law_meet" s_law_meet dV f fd) (B : Bn K mg c_Net f_Net_init)  : FnOk P w K mg base CX0 1 f fd ["_law_one", "_law_other"] spMeet := by
  have sc := sc_law_meet
  refine F.ok sc (fun vs H Q E h => ?_) (fun cdv A outer s H vs Q E hr h => ?_)
  · obtain ⟨t, u, r, s2, rfl, _⟩ := h
    rfl
  obtain ⟨t, u, r, s2, rfl, et, eu, q⟩ := h
  refine ⟨_, (pss_one (ps_ret (pe_and (pe_cmpR op_lt (pe_ix ix_tup (pv 0) pe_int (fun _ _ => rfl)) (pe_ix ix_tup (pv 1) pe_int (fun _ _ => rfl)) (nomark _)) (pe_one (pe_cmpR op_lt (pe_ix ix_tup (pv 1) pe_int (fun _ _ => rfl)) (pe_ix ix_tup (pv 0) pe_int (fun _ _ => rfl)) (nomark _)))))), ?_⟩
  refine ⟨_, rfl, t, _, _, _, rfl, rfl, SqT.of et, rfl, _, rfl, u, _, _, _, rfl, rfl, SqT.of eu, rfl, _, _, rfl, rfl, _, rfl, d2 (fun c => ⟨_, rfl, u, _, _, _, rfl, rfl, SqT.of eu, rfl, _, rfl, t, _, _, _, rfl, rfl, SqT.of et, rfl, _, _, rfl, rfl, ?_⟩) (fun c => ?_)⟩
  · have e : meetF r s2 = decide (s2.1 < r.2.1) := by unfold meetF; rw [decide_eq_true c, Bool.true_and]
    rw [e] at q
    exact q
  · have e : meetF r s2 = false := by unfold meetF; rw [decide_eq_false c, Bool.false_and]
    rw [e] at q
    exact q

theorem sc_law_names : FnScope ["_law_cell", "_law_letters", "_law_size", "_law_at", "_law_word", "_law_first", "_law_second"] ["_law_cell"] (defScope s_law_names) := ⟨rfl, rfl, rfl, by decide +kernel, rfl, by decide +kernel, by decide +kernel⟩
set_option maxHeartbeats 4000000 in
theorem ok_law_names {dV : Value} (F : FunD K "_law_names" "_law_names" s_law_names dV f fd) (B : Bn K mg c_Net f_Net_init) (D_law_mixed : Dx P w K mg base CX0 1 "_law_mixed" ["_law_cell", "_law_k"] [] spMixed) : FnOk P w K mg base CX0 2 f fd ["_law_cell"] spNamesB := by
  have sc := sc_law_names
  refine F.ok sc (fun vs H Q E h => ?_) (fun cdv A outer s H vs Q E hr h => ?_)
  · obtain ⟨c, rfl, _⟩ := h
    rfl
  obtain ⟨c, rfl, q⟩ := h
  refine ⟨_, (pss_cons (ps_set (i := 1) sc.nd rfl (Or.inr rfl) pe_str) (pss_cons (ps_set (i := 2) sc.nd rfl (Or.inl rfl) (pe_op op_add pe_int (pe_op op_modN (pv 0) pe_int))) (pss_cons (ps_set (i := 3) sc.nd rfl (Or.inl rfl) (pe_op op_modN (pe_op op_fdivB (pv 0) pe_int) (pv 2))) (pss_cons (ps_set (i := 4) sc.nd rfl (Or.inl rfl) (pe_bm PySem.F.plainAttrs_str PySem.F.slot_str_join PySem.F.type_str_join mt_join pe_str (pa_cons (pe_compH (hd := none) (own := "_law_k") (ys := ["_law_letters", "_law_cell"]) (js := [1, 0]) hr.hd (cok (atc (atc atn)) (.cons rfl (.cons rfl .nil)) (by decide) rfl rfl rfl rfl rfl rfl rfl rfl) (pi_rangeH rfl B.b_range (pa_cons (pv 2) pa_nil)) (fun C fp s H => (pe_ix ix_str (pv 1) (pe_op op_modN (pcall0 D_law_mixed hr (by decide) rfl (pa_cons (pv 2) (pa_cons (pv 0) pa_nil))) pe_int) (fun _ _ => rfl)))) pa_nil))) (pss_cons (ps_set (i := 5) sc.nd rfl (Or.inl rfl) (pe_op op_modN (pe_op op_fdivB (pv 0) pe_int) pe_int)) (pss_cons (ps_if (PW.pt (pw_and (pt_cmpR op_eq (pe_op op_modN (pe_op op_fdivB (pv 0) pe_int) pe_int) pe_int (nomark _)) (pw_and1 (pt_cmpR op_lt (pv 2) pe_int (nomark _))))) (pss_one (ps_ret (pe_lst (pa_cons (pv 4) (pa_cons (pe_op op_add_str (pv 4) (pe_ix ix_str (pv 1) (pv 5) (fun _ _ => rfl))) pa_nil))))) pss_nil) (pss_cons (ps_set (i := 6) sc.nd rfl (Or.inl rfl) (pe_op op_modN (pe_op op_add (pe_op op_add (pv 5) pe_int) (pe_op op_modN (pe_op op_fdivB (pv 0) pe_int) pe_int)) pe_int)) (pss_one (ps_ret (pe_lst (pa_cons (pe_op op_add_str (pe_op op_add_str (pe_slice sl_str (pv 4) po_none (po_some (pv 3))) (pe_ix ix_str (pv 1) (pv 5) (fun _ _ => rfl))) (pe_slice sl_str (pv 4) (po_some (pe_op op_add (pv 3) pe_int)) po_none)) (pa_cons (pe_op op_add_str (pe_op op_add_str (pe_slice sl_str (pv 4) po_none (po_some (pv 3))) (pe_ix ix_str (pv 1) (pv 6) (fun _ _ => rfl))) (pe_slice sl_str (pv 4) (po_some (pe_op op_add (pv 3) pe_int)) po_none)) pa_nil)))))))))))), ?_⟩
  have sl : sizeLine = 16777216 := sizeLine_eq
  have one : ∀ c, (⟨#[c]⟩ : Str).length = 1 := fun _ => rfl
  have s := fm (a := c) (n := 12) (by decide)
  have ma := fm (a := c.fdiv 12) (n := 1 + c.fmod 12) (by omega)
  have mf := fm (a := c.fdiv 144) (n := 26) (by decide)
  have ms := fm (a := c.fdiv 3744) (n := 25) (by decide)
  have mt := fm (a := (c.fdiv 144).fmod 26 + 1 + (c.fdiv 3744).fmod 25) (n := 26) (by decide)
  refine ⟨_, rfl, _, _, rfl, rfl, (by show (12 : Int) ≠ 0; decide), _, _, rfl, rfl, _, rfl, _, _, rfl, rfl, ⟨by decide, PyProof.noPylong_small (by decide)⟩, _, rfl, _, _, rfl, rfl, (by omega), ?_⟩
  refine ⟨rfl, _, rfl, 1 + c.fmod 12, rfl, by omega, by omega, comp_RrH (rSome (fun c : Nat => 97 ≤ c ∧ c ≤ 122) fun c => V.str ⟨#[c]⟩) (fun _ => False) (fun _ => ()) HdOk.no (by omega) (fun a h => h.elim) (fun i hi H2 g2 Q' hQ => ?_) fun lw H1 nlw g1 hw => ?_⟩
  · refine ⟨_, rfl, _, rfl, _, rfl, _, _, rfl, fun v v0 => ?_⟩
    have mv := fm (a := v) (n := 26) (by decide)
    exact ⟨_, _, rfl, rfl, (by show (26 : Int) ≠ 0; decide), _, _, _, rfl, rfl, (by decide), lett_eq mv.1 mv.2, hQ _ _ (.refl _) ⟨_, by omega, rfl⟩⟩
  obtain ⟨vs, ev, rv⟩ := hw
  obtain ⟨cs, rfl, lc, okc⟩ := rv.some_of
  rw [List.length_map, List.length_range] at lc
  have l1 : ∀ w ∈ cs.map (fun c => (⟨#[c]⟩ : Str)), w.length = 1 := fun w hw => by
    obtain ⟨x, _, rfl⟩ := List.mem_map.mp hw
    rfl
  have lL : ∀ w ∈ cs.map (fun c => (⟨#[c]⟩ : Str)), Lt w := fun w hw => by
    obtain ⟨x, hx, rfl⟩ := List.mem_map.mp hw
    exact Lt.one (okc x hx)
  have ev' : H1 lw = some (.lst ((cs.map (fun c => (⟨#[c]⟩ : Str))).map V.str)) := by rw [ev, List.map_map]; rfl
  have lw1 : (cs.map (fun c => (⟨#[c]⟩ : Str))).length = cs.length := List.length_map _
  refine ⟨_, lw, _, rfl, rfl, SqL.of ev', (by decide), by rw [ones_sum l1, lw1]; omega, ?_⟩
  have wl := tjoin_len l1
  have wL := Lt.tjoin lL
  rw [lw1, lc] at wl
  generalize Txt.join "" (cs.map (fun c => (⟨#[c]⟩ : Str))) = wd at wl wL ⊢
  clear ev ev' rv okc l1 lL lw1 lc
  have wz : wd.length ≤ sizeLine := by omega
  have wi : (wd.length : Int) = 1 + c.fmod 12 := by omega
  have w1 : 1 ≤ wd.length := by omega
  have w12 : wd.length ≤ 12 := by omega
  have hf := lett_eq mf.1 mf.2
  have ht := lett_eq mt.1 mt.2
  have f1 : 97 ≤ 97 + ((c.fdiv 144).fmod 26).toNat ∧ 97 + ((c.fdiv 144).fmod 26).toNat ≤ 122 := by omega
  have t1 : 97 ≤ 97 + (((c.fdiv 144).fmod 26 + 1 + (c.fdiv 3744).fmod 25).fmod 26).toNat ∧ 97 + (((c.fdiv 144).fmod 26 + 1 + (c.fdiv 3744).fmod 25).fmod 26).toNat ≤ 122 := by omega
  refine ⟨_, rfl, _, _, rfl, rfl, ⟨by decide, PyProof.noPylong_small (by decide)⟩, _, _, rfl, rfl, (by show (26 : Int) ≠ 0; decide), ?_⟩
  have nmA : ∀ {d : Nat}, 97 ≤ d ∧ d ≤ 122 → wd.length < 12 → Nm (wd ++ (⟨#[d]⟩ : Str)) := fun hd h12 => (wL.app (Lt.one hd)).nm (by rw [Str.length_append, one]; omega) (by rw [Str.length_append, one]; omega)
  have cm := cutS_mid (x := wd) (i := (c.fdiv 12).fmod (1 + c.fmod 12)) ma.1 (by omega)
  have c1' := cutS_length wd none (some ((c.fdiv 12).fmod (1 + c.fmod 12)))
  have nmB : ∀ {d : Nat}, 97 ≤ d ∧ d ≤ 122 → Nm (cutS wd none (some ((c.fdiv 12).fmod (1 + c.fmod 12))) ++ (⟨#[d]⟩ : Str) ++ cutS wd (some ((c.fdiv 12).fmod (1 + c.fmod 12) + 1)) none) := fun hd => (((wL.cut _ _).app (Lt.one hd)).app (wL.cut _ _)).nm (by rw [Str.length_append, Str.length_append, one]; omega) (by rw [Str.length_append, Str.length_append, one]; omega)
  refine ⟨_, rfl, _, _, rfl, rfl, ⟨by decide, PyProof.noPylong_small (by decide)⟩, _, _, rfl, rfl, (by show (3 : Int) ≠ 0; decide), rfl, _, rfl, d2I (fun c1 => ⟨_, rfl, _, _, rfl, rfl, _, rfl, d2 (fun c2 => ?_) (fun c2 => ?_)⟩) (fun c1 => ?_)⟩
  · refine ⟨_, rfl, _, rfl, _, rfl, _, rfl, _, _, _, rfl, rfl, (by decide), hf, _, _, rfl, rfl, (by rw [one]; omega), (by show 2 ≤ sizeLine; decide), fun l nl => ?_⟩
    exact q l _ _ _ (g1.trans (same_new nl _)) upd_same (wL.nm w1 w12) (nmA f1 (by omega)) end_ne
  · refine ⟨_, rfl, _, _, rfl, rfl, _, rfl, _, _, rfl, rfl, ⟨by decide, PyProof.noPylong_small (by decide)⟩, _, _, rfl, rfl, (by show (25 : Int) ≠ 0; decide), _, _, rfl, rfl, _, _, rfl, rfl, (by show (26 : Int) ≠ 0; decide), ?_⟩
    refine ⟨_, rfl, _, rfl, _, rfl, _, rfl, wz, _, rfl, _, rfl, _, _, _, rfl, rfl, (by decide), hf, _, _, rfl, rfl, (by rw [one]; omega), _, rfl, _, rfl, _, _, rfl, rfl, _, rfl, _, rfl, wz, _, _, rfl, rfl, (by rw [Str.length_append, one]; omega), _, rfl, _, rfl, _, rfl, _, rfl, wz, _, rfl, _, rfl, _, _, _, rfl, rfl, (by decide), ht, _, _, rfl, rfl, (by rw [one]; omega), _, rfl, _, rfl, _, _, rfl, rfl, _, rfl, _, rfl, wz, _, _, rfl, rfl, (by rw [Str.length_append, one]; omega), (by show 2 ≤ sizeLine; decide), fun l nl => ?_⟩
    exact q l _ _ _ (g1.trans (same_new nl _)) upd_same (nmB f1) (nmB t1) (mid_ne fun e => second_ne mf.1 mf.2 ms.1 ms.2 (by omega))
  · refine ⟨_, rfl, _, _, rfl, rfl, _, rfl, _, _, rfl, rfl, ⟨by decide, PyProof.noPylong_small (by decide)⟩, _, _, rfl, rfl, (by show (25 : Int) ≠ 0; decide), _, _, rfl, rfl, _, _, rfl, rfl, (by show (26 : Int) ≠ 0; decide), ?_⟩
    refine ⟨_, rfl, _, rfl, _, rfl, _, rfl, wz, _, rfl, _, rfl, _, _, _, rfl, rfl, (by decide), hf, _, _, rfl, rfl, (by rw [one]; omega), _, rfl, _, rfl, _, _, rfl, rfl, _, rfl, _, rfl, wz, _, _, rfl, rfl, (by rw [Str.length_append, one]; omega), _, rfl, _, rfl, _, rfl, _, rfl, wz, _, rfl, _, rfl, _, _, _, rfl, rfl, (by decide), ht, _, _, rfl, rfl, (by rw [one]; omega), _, rfl, _, rfl, _, _, rfl, rfl, _, rfl, _, rfl, wz, _, _, rfl, rfl, (by rw [Str.length_append, one]; omega), (by show 2 ≤ sizeLine; decide), fun l nl => ?_⟩
    exact q l _ _ _ (g1.trans (same_new nl _)) upd_same (nmB f1) (nmB t1) (mid_ne fun e => second_ne mf.1 mf.2 ms.1 ms.2 (by omega))

theorem sc_law_runs : FnScope ["_law_script", "_law_at", "_law_many", "_law_far", "_law_runs_here", "_law_i", "_law_more", "_law_begin"] ["_law_script", "_law_at", "_law_many", "_law_far"] (defScope s_law_runs) := ⟨rfl, rfl, rfl, by decide +kernel, rfl, by decide +kernel, by decide +kernel⟩
set_option maxHeartbeats 4000000 in
theorem ok_law_runs {dV : Value} (F : FunD K "_law_runs" "_law_runs" s_law_runs dV f fd) (B : Bn K mg c_Net f_Net_init) (D_law_cell_at : Dx P w K mg base CX0 1 "_law_cell_at" ["_law_script", "_law_k"] [] (spCell K)) : FnOk P w K mg base CX0 2 f fd ["_law_script", "_law_at", "_law_many", "_law_far"] (spRunsB K) := by
  have sc := sc_law_runs
  refine F.ok sc (fun vs H Q E h => ?_) (fun cdv A outer s H vs Q E hr h => ?_)
  · obtain ⟨a, ns, at_, m, f, rfl, _⟩ := h
    rfl
  obtain ⟨a, ns, at_, m, f, rfl, hS, h0, h1, m0, m4, hf, q⟩ := h
  refine ⟨_, (pss_cons (ps_set (i := 4) sc.nd rfl (Or.inl rfl) (pe_lst pa_nil)) (pss_cons (ps_for PassesOwn.never rfl (pi_range1 rfl B.b_range (pa_cons (pv 2) pa_nil)) (pg_name (i := 5) sc.nd rfl (Or.inl rfl)) (pss_cons (ps_set (i := 6) sc.nd rfl (Or.inl rfl) (pcall0 D_law_cell_at hr (by decide) rfl (pa_cons (pv 0) (pa_cons (pe_op op_add (pe_op op_add (pv 1) (pe_op op_mulB pe_int (pv 5))) pe_int) pa_nil)))) (pss_cons (ps_set (i := 7) sc.nd rfl (Or.inl rfl) (pe_op op_mulB (pe_op op_modN (pcall0 D_law_cell_at hr (by decide) rfl (pa_cons (pv 0) (pa_cons (pe_op op_add (pv 1) (pe_op op_mulB pe_int (pv 5))) pa_nil))) pe_int) (pv 3))) (pss_one (ps_expr (pe_bm PySem.F.plainAttrs_list PySem.F.slot_list_append PySem.F.type_list_append mt_append (pv 4) (pa_cons (pe_tup (pa_cons (pv 7) (pa_cons (pe_op op_add (pv 7) (pe_op op_mulB (pe_op op_add pe_int (pe_op op_modN (pv 6) pe_int)) (pv 3))) (pa_cons (pe_op op_modN (pe_op op_fdivB (pv 6) pe_int) pe_int) pa_nil)))) pa_nil))))))) (pss_one (ps_ret (pv 4))))), ?_⟩
  have sl : sizeLine = 16777216 := sizeLine_eq
  refine ⟨(by show 0 ≤ sizeLine; decide), fun l nl => ?_⟩
  have g0 := same_new nl (.lst [])
  have e0 : upd H l (.lst []) l = some (.lst []) := upd_same
  generalize upd H l (.lst []) = H0 at g0 e0 ⊢
  refine ⟨_, rfl, m, rfl, by omega, by omega, for_range (fun i σ H' => ∃ (o5 o6 o7 : Option V) (R : List Rn), σ = [some (.ref a), some (.int at_), some (.int m), some (.int f), some (.ref l), o5, o6, o7] ∧ Same H H' ∧ TupsA H' l (R.map rk) ∧ R.length = i ∧ (∀ r ∈ R, RunB f r)) ⟨none, none, none, [], rfl, g0, ⟨[], e0, Ref2.nil⟩, rfl, fun r hr => by cases hr⟩ ?_ ?_⟩
  · rintro i σ H1 hi ⟨o5, o6, o7, R, rfl, g1, ⟨bs, eb, rb⟩, ln, ok⟩
    have hS1 := g1.seq hS
    refine ⟨_, rfl, _, rfl, _, rfl, _, _, rfl, rfl, IntMulOk.of_left (by decide), _, _, rfl, rfl, _, _, rfl, rfl, a, ns, _, rfl, hS1, (by omega), fun c => ⟨_, rfl, _, rfl, _, rfl, _, _, rfl, rfl, IntMulOk.of_left (by decide), _, _, rfl, rfl, a, ns, _, rfl, hS1, (by omega), fun d => ?_⟩⟩
    have md := fm (a := d) (n := 24) (by decide)
    have mc := fm (a := c) (n := 6) (by decide)
    have mb := fm (a := c.fdiv 6) (n := 2) (by decide)
    have sz : (bs.map V.ref).length < sizeLine := by rw [List.length_map, rb.1, List.length_map]; omega
    refine ⟨_, _, rfl, rfl, (by show (24 : Int) ≠ 0; decide), _, rfl, _, _, rfl, rfl, IntMulOk.of_left (intBits_le_64 (by omega) (by omega)), _, rfl, .inl ⟨rfl, _, SqL.of eb⟩, _, rfl, _, rfl, _, rfl, _, _, rfl, rfl, (by show (6 : Int) ≠ 0; decide), _, _, rfl, rfl, _, rfl, _, _, rfl, rfl, IntMulOk.of_left (intBits_le_64 (by omega) (by omega)), _, _, rfl, rfl, _, rfl, _, _, rfl, rfl, ⟨by decide, PyProof.noPylong_small (by decide)⟩, _, _, rfl, rfl, (by show (2 : Int) ≠ 0; decide), (by show 3 ≤ sizeLine; decide), fun t nt => ⟨l, _, _, rfl, rfl, same_new nt _ _ _ eb, sz, ?_⟩⟩
    have gt := same_new nt (.tup [.int (d.fmod 24 * f), .int (d.fmod 24 * f + (1 + c.fmod 6) * f), .int ((c.fdiv 6).fmod 2)])
    refine ⟨_, _, _, R ++ [(d.fmod 24 * f, d.fmod 24 * f + (1 + c.fmod 6) * f, (c.fdiv 6).fmod 2)], rfl, sUpd (g1.trans gt) nl _, ?_, by rw [List.length_append]; simp; omega, fun r hr => ?_⟩
    · rw [List.map_append]
      exact tups_put (gt _ _ eb) (rb.imp fun a k q => gt _ _ q) upd_same
    · rcases List.mem_append.mp hr with h | h
      · exact ok r h
      · rw [List.mem_singleton.mp h]
        exact runB_of hf md.1 md.2 mc.1 mc.2 mb.1 mb.2
  · rintro σ H1 ⟨o5, o6, o7, R, rfl, g1, hR, ln, ok⟩
    exact ⟨_, rfl, q l R H1 g1 nl hR (by omega) ok⟩

theorem sc_law_heats : FnScope ["_law_runs_here", "_law_cells", "_law_by", "_law_heats_here", "_law_i", "_law_j"] ["_law_runs_here", "_law_cells", "_law_by"] (defScope s_law_heats) := ⟨rfl, rfl, rfl, by decide +kernel, rfl, by decide +kernel, by decide +kernel⟩
set_option maxHeartbeats 4000000 in
theorem ok_law_heats {dV : Value} (F : FunD K "_law_heats" "_law_heats" s_law_heats dV f fd) (B : Bn K mg c_Net f_Net_init) (D_law_meet : Dx P w K mg base CX0 1 "_law_meet" ["_law_one", "_law_other"] [] spMeet) : FnOk P w K mg base CX0 2 f fd ["_law_runs_here", "_law_cells", "_law_by"] spHeatsB := by
  have sc := sc_law_heats
  refine F.ok sc (fun vs H Q E h => ?_) (fun cdv A outer s H vs Q E hr h => ?_)
  · obtain ⟨lr, lc, R, cs, b, rfl, _⟩ := h
    rfl
  obtain ⟨lr, lc, R, cs, b, rfl, hR, ec, lcs, r4, hb, q⟩ := h
  refine ⟨_, (pss_cons (ps_compA (own := "_law_cell") (ys := ["_law_by"]) (js := [2]) sc.nd (i := 3) rfl rfl rfl (cok (atc atn) (.cons rfl .nil) (by decide) rfl rfl rfl rfl rfl rfl rfl rfl) (pi_list (pv 1)) (fun C fp s H => (pe_ix (ix_listB (K := K) rfl) (pe_lst (pa_cons pe_int (pa_cons pe_int (pa_cons (pe_op op_powB pe_int pe_int) pa_nil)))) (pe_op op_modN (pe_op op_fdivB (pv 0) (pv 1)) pe_int) (fun _ _ => rfl)))) (pss_cons (ps_for PassesOwn.never rfl (pi_range1 rfl B.b_range (pa_cons (pe_callB call_len_seq rfl B.b_len boot_len (pa_cons (pv 0) pa_nil)) pa_nil)) (pg_name (i := 4) sc.nd rfl (Or.inl rfl)) (pss_one (ps_for PassesOwn.never rfl (pi_range1 rfl B.b_range (pa_cons (pv 4) pa_nil)) (pg_name (i := 5) sc.nd rfl (Or.inl rfl)) (pss_one (ps_if (pt_val (pcall0 D_law_meet hr (by decide) rfl (pa_cons (pe_ix ix_list (pv 0) (pv 4) (fun _ _ => rfl)) (pa_cons (pe_ix ix_list (pv 0) (pv 5) (fun _ _ => rfl)) pa_nil)))) (pss_one (ps_asg (pe_ix ix_list (pv 3) (pv 5) (fun _ _ => rfl)) (pg_sub (pv 3) (pv 4) set_list))) pss_nil))))) (pss_cons (ps_for PassesOwn.never rfl (pi_range1 rfl B.b_range (pa_cons (pe_callB call_len_seq rfl B.b_len boot_len (pa_cons (pv 0) pa_nil)) pa_nil)) (pg_name (i := 4) sc.nd rfl (Or.inl rfl)) (pss_one (ps_for PassesOwn.never rfl (pi_range1 rfl B.b_range (pa_cons (pv 4) pa_nil)) (pg_name (i := 5) sc.nd rfl (Or.inl rfl)) (pss_one (ps_if (PW.pt (pw_and (pt_val (pcall0 D_law_meet hr (by decide) rfl (pa_cons (pe_ix ix_list (pv 0) (pv 4) (fun _ _ => rfl)) (pa_cons (pe_ix ix_list (pv 0) (pv 5) (fun _ _ => rfl)) pa_nil)))) (pw_and1 (pt_cmpR op_ne (pe_ix ix_list (pv 3) (pv 4) (fun _ _ => rfl)) (pe_ix ix_list (pv 3) (pv 5) (fun _ _ => rfl)) (nomark _))))) (pss_one (ps_ret (pe_comp (own := "_law_run") (ys := []) (js := []) rfl (cok atn .nil (by decide) rfl rfl rfl rfl rfl rfl rfl rfl) (pi_list (pv 0)) (fun C fp s H => pe_int)))) pss_nil))))) (pss_one (ps_ret (pv 3)))))), ?_⟩
  have sl : sizeLine = 16777216 := sizeLine_eq
  have lm : (cs.map V.int).length = R.length := by rw [List.length_map, lcs]
  refine ⟨_, rfl, lc, rfl, ⟨_, SqL.of ec⟩, comp_Rl (rVal V.int) (fun _ => False) (fun i => hF (((cs.getD i 0).fdiv b).fmod 3)) (SqL.of ec) (by omega) (fun a h => h.elim) (fun k y hy H2 g2 Q' hQ => ?_) fun lh H1 nlh g1 hh => ?_⟩
  · rw [List.getElem?_map] at hy
    obtain ⟨v, hv, rfl⟩ := Option.map_eq_some_iff.mp hy
    rw [getDo hv] at hQ
    have m3 := fm (a := v.fdiv b) (n := 3) (by decide)
    refine ⟨_, _, rfl, rfl, ⟨by decide, by decide⟩, (by show 3 ≤ sizeLine; decide), fun p np => ⟨_, rfl, _, rfl, _, _, rfl, rfl, ?_, _, _, rfl, rfl, (by show (3 : Int) ≠ 0; decide), p, _, _, _, rfl, rfl, SqL.of upd_same, hF_at m3.1 m3.2, hQ _ _ (same_new np _) rfl⟩⟩
    rcases hb with rfl | rfl
    · exact ⟨by decide, PyProof.noPylong_small (by decide)⟩
    · exact ⟨by decide, PyProof.noPylong_small (by decide)⟩
  obtain ⟨vs, ev, rv⟩ := hh
  rw [lm] at rv
  rw [rv.val] at ev
  obtain ⟨hs0, eh0⟩ : ∃ hs0 : List Int, hs0 = (List.range R.length).map fun i => hF (((cs.getD i 0).fdiv b).fmod 3) := ⟨_, rfl⟩
  rw [← eh0] at ev
  have l0 : hs0.length = R.length := by rw [eh0, List.length_map, List.length_range]
  have b0 : ∀ h ∈ hs0, 0 ≤ h ∧ h ≤ 1000000000 := fun h hh => by
    rw [eh0] at hh
    obtain ⟨i, _, rfl⟩ := List.mem_map.mp hh
    exact hF_ok _
  clear rv eh0
  obtain ⟨bs, er, rR⟩ := id hR
  have lr' : (bs.map V.ref).length = R.length := by rw [List.length_map, rR.1, List.length_map]
  have run : ∀ H' : Hp, Same H H' → ∀ i, i < R.length → ∃ t, atI (bs.map V.ref) (0 + (i : Int)) = some (.ref t) ∧ H' t = some (.tup ((rk (R.getD i (0, 0, 0))).map V.int)) := fun H' g i hi => by
    have hr := List.getElem?_eq_getElem hi
    obtain ⟨t, ht, et⟩ := rR.get (show (R.map rk)[i]? = some (rk R[i]) by rw [List.getElem?_map, hr]; rfl)
    rw [getDo hr]
    exact ⟨t, at_zero (map_at ht), g _ _ et⟩
  try dsimp only [gName, tNext]
  refine cut (fun σ H' => ∃ (o4 o5 : Option V) (hs : List Int), σ = [some (.ref lr), some (.ref lc), some (.int b), some (.ref lh), o4, o5] ∧ Same H H' ∧ H' lh = some (.lst (hs.map V.int)) ∧ hs.length = R.length ∧ ∀ h ∈ hs, 0 ≤ h ∧ h ≤ 1000000000) (fun N hN => ?_) ?_
  · refine ⟨_, rfl, lr, _, rfl, .inl (SqL.of (g1 _ _ er)), _, rfl, by omega, by omega, for_range (fun i σ H' => ∃ (o4 o5 : Option V) (hs : List Int), σ = [some (.ref lr), some (.ref lc), some (.int b), some (.ref lh), o4, o5] ∧ Same H H' ∧ H' lh = some (.lst (hs.map V.int)) ∧ hs.length = R.length ∧ ∀ h ∈ hs, 0 ≤ h ∧ h ≤ 1000000000) ⟨none, none, hs0, rfl, g1, ev, l0, b0⟩ ?_ ?_⟩
    · rintro i σ H2 hi ⟨o4, o5, hs, rfl, g2, eh, lh', bh⟩
      rw [Int.toNat_natCast, lr'] at hi
      refine ⟨_, rfl, _, rfl, by omega, by omega, for_range (fun j σ H' => ∃ (o5 : Option V) (hs : List Int), σ = [some (.ref lr), some (.ref lc), some (.int b), some (.ref lh), some (.int (0 + (i : Int))), o5] ∧ Same H H' ∧ H' lh = some (.lst (hs.map V.int)) ∧ hs.length = R.length ∧ ∀ h ∈ hs, 0 ≤ h ∧ h ≤ 1000000000) ⟨o5, hs, rfl, g2, eh, lh', bh⟩ ?_ ?_⟩
      · rintro j σ H3 hj ⟨o5, hs, rfl, g3, eh3, lh3, bh3⟩
        have jl : j < R.length := by omega
        obtain ⟨ti, ai, eti⟩ := run H3 g3 i hi
        obtain ⟨tj, aj, etj⟩ := run H3 g3 j jl
        refine ⟨_, rfl, _, rfl, lr, _, _, _, rfl, rfl, SqL.of (g3 _ _ er), ai, _, rfl, _, rfl, lr, _, _, _, rfl, rfl, SqL.of (g3 _ _ er), aj, ti, tj, _, _, rfl, eti, etj, _, rfl, ?_⟩
        cases meetF (R.getD i (0, 0, 0)) (R.getD j (0, 0, 0)) with
        | false => exact iteF ⟨_, hs, rfl, g3, eh3, lh3, bh3⟩
        | true =>
          have hv := List.getElem?_eq_getElem (show j < hs.length by omega)
          refine iteT ⟨_, rfl, _, rfl, lh, _, _, _, rfl, rfl, SqL.of eh3, (at_zero (map_at hv)), _, rfl, _, rfl, lh, _, _, i, rfl, rfl, eh3, ?_, _, hs.set i hs[j], rfl, sUpd g3 nlh _, ?_, by rw [List.length_set]; exact lh3, fun h hh => ?_⟩
          · rw [Int.zero_add, List.length_map]; exact ixN_nat (by omega)
          · rw [upd_same, List.map_set]
          · rcases List.mem_or_eq_of_mem_set hh with z | z
            · exact bh3 h z
            · rw [z]; exact bh3 _ (List.getElem_mem _)
      · rintro σ H3 ⟨o5, hs, rfl, g3, eh3, lh3, bh3⟩
        exact ⟨_, _, hs, rfl, g3, eh3, lh3, bh3⟩
    · rintro σ H2 ⟨o4, o5, hs, rfl, g2, eh, lh', bh⟩
      exact hN _ _ ⟨_, _, hs, rfl, g2, eh, lh', bh⟩
  clear ev l0 b0 g1
  rintro σ H2 ⟨o4, o5, hs, rfl, g2, eh, lh', bh⟩
  refine ⟨_, rfl, lr, _, rfl, .inl (SqL.of (g2 _ _ er)), _, rfl, by omega, by omega, for_range (fun i σ H' => H2 = H' ∧ (∃ (o4 o5 : Option V), σ = [some (.ref lr), some (.ref lc), some (.int b), some (.ref lh), o4, o5]) ∧ ∀ k j, k < i → j < k → meetF (R.getD k (0, 0, 0)) (R.getD j (0, 0, 0)) = true → hs.getD k 0 = hs.getD j 0) ⟨rfl, ⟨_, _, rfl⟩, fun k j hk => absurd hk (Nat.not_lt_zero _)⟩ ?_ ?_⟩
  · rintro i σ H3 hi ⟨rfl, ⟨o4, o5, rfl⟩, hall⟩
    rw [Int.toNat_natCast, lr'] at hi
    refine ⟨_, rfl, _, rfl, by omega, by omega, for_range (fun j σ H' => H2 = H' ∧ (∃ (o5 : Option V), σ = [some (.ref lr), some (.ref lc), some (.int b), some (.ref lh), some (.int (0 + (i : Int))), o5]) ∧ ∀ k, k < j → meetF (R.getD i (0, 0, 0)) (R.getD k (0, 0, 0)) = true → hs.getD i 0 = hs.getD k 0) ⟨rfl, ⟨_, rfl⟩, fun k hk => absurd hk (Nat.not_lt_zero _)⟩ ?_ ?_⟩
    · rintro j σ H3 hj ⟨rfl, ⟨o5, rfl⟩, hin⟩
      have jl : j < R.length := by omega
      obtain ⟨ti, ai, eti⟩ := run H2 g2 i hi
      obtain ⟨tj, aj, etj⟩ := run H2 g2 j jl
      have hv := List.getElem?_eq_getElem (show j < hs.length by omega)
      have hw := List.getElem?_eq_getElem (show i < hs.length by omega)
      have next : (meetF (R.getD i (0, 0, 0)) (R.getD j (0, 0, 0)) = true → hs.getD i 0 = hs.getD j 0) → ∀ k, k < j + 1 → meetF (R.getD i (0, 0, 0)) (R.getD k (0, 0, 0)) = true → hs.getD i 0 = hs.getD k 0 := fun h k hk hm => by
        by_cases c : k = j
        · rw [c] at hm ⊢; exact h hm
        · exact hin k (by omega) hm
      refine ⟨_, rfl, _, rfl, lr, _, _, _, rfl, rfl, SqL.of (g2 _ _ er), ai, _, rfl, _, rfl, lr, _, _, _, rfl, rfl, SqL.of (g2 _ _ er), aj, ti, tj, _, _, rfl, eti, etj, _, rfl, ?_⟩
      cases hm : meetF (R.getD i (0, 0, 0)) (R.getD j (0, 0, 0)) with
      | false => exact iteF ⟨rfl, ⟨_, rfl⟩, next fun h => by rw [hm] at h; cases h⟩
      | true =>
        refine iteT ⟨_, rfl, _, rfl, lh, _, _, _, rfl, rfl, SqL.of eh, (at_zero (map_at hw)), _, rfl, _, rfl, lh, _, _, _, rfl, rfl, SqL.of eh, (at_zero (map_at hv)), rfl, _, rfl, n2I (fun c => ?_) (fun c => ?_)⟩
        · refine ⟨_, rfl, lr, rfl, ⟨_, SqL.of (g2 _ _ er)⟩, comp_Rl (rVal V.int) (fun _ => False) (fun _ => (0 : Int)) (SqL.of (g2 _ _ er)) (by omega) (fun a h => h.elim) (fun k y hy H4 g4 Q' hQ => hQ _ _ (.refl _) rfl) fun lz H4 nlz g4 hz => ?_⟩
          obtain ⟨vs, ez, rz⟩ := hz
          rw [lr'] at rz
          rw [rz.val] at ez
          exact q lz _ H4 (g2.trans g4) ez HeatsOk.zero
        · exact ⟨rfl, ⟨_, rfl⟩, next fun _ => by rw [getDo hw, getDo hv]; exact c⟩
    · rintro σ H3 ⟨rfl, ⟨o5, rfl⟩, hin⟩
      refine ⟨rfl, ⟨_, _, rfl⟩, fun k j hk hj hm => ?_⟩
      by_cases c : k = i
      · rw [c] at hm hj ⊢; exact hin j (by omega) hm
      · exact hall k j (by omega) hj hm
  · rintro σ H3 ⟨rfl, ⟨o4, o5, rfl⟩, hall⟩
    rw [Int.toNat_natCast, lr'] at hall
    exact ⟨_, rfl, q lh hs H2 g2 eh (HeatsOk.of lh' bh hall)⟩

theorem sc_law_uses : FnScope ["_law_cell", "_law_names_here", "_law_heats_here", "_law_uses_here", "_law_k", "_law_many"] ["_law_cell", "_law_names_here", "_law_heats_here"] (defScope s_law_uses) := ⟨rfl, rfl, rfl, by decide +kernel, rfl, by decide +kernel, by decide +kernel⟩
set_option maxHeartbeats 4000000 in
theorem ok_law_uses {dV : Value} (F : FunD K "_law_uses" "_law_uses" s_law_uses dV f fd) (B : Bn K mg c_Net f_Net_init)  : FnOk P w K mg base CX0 1 f fd ["_law_cell", "_law_names_here", "_law_heats_here"] spUsesB := by
  have sc := sc_law_uses
  refine F.ok sc (fun vs H Q E h => ?_) (fun cdv A outer s H vs Q E hr h => ?_)
  · obtain ⟨c, ln, lh, n0, n1, h0, h1, rfl, _⟩ := h
    rfl
  obtain ⟨c, ln, lh, n0, n1, h0, h1, rfl, en, eh, ne, q⟩ := h
  refine ⟨_, (pss_cons (ps_set (i := 3) sc.nd rfl (Or.inl rfl) (pe_lst pa_nil)) (pss_cons (ps_for PassesOwn.never rfl (pi_range1 rfl B.b_range (pa_cons pe_int pa_nil)) (pg_name (i := 4) sc.nd rfl (Or.inl rfl)) (pss_cons (ps_set (i := 5) sc.nd rfl (Or.inl rfl) (pe_ix ix_list (pe_lst (pa_cons (pe_op op_modN (pv 0) pe_int) (pa_cons (pe_op op_modN (pe_op op_fdivB (pv 0) pe_int) pe_int) pa_nil))) (pv 4) (fun _ _ => rfl))) (pss_one (ps_if (pt_cmpR op_gt (pv 5) pe_int (nomark _)) (pss_one (ps_expr (pe_bm PySem.F.plainAttrs_list PySem.F.slot_list_append PySem.F.type_list_append mt_append (pv 3) (pa_cons (pe_tup (pa_cons (pe_ix ix_list (pv 1) (pv 4) (fun _ _ => rfl)) (pa_cons (pv 5) (pa_cons (pe_ix ix_list (pv 2) (pv 4) (fun _ _ => rfl)) pa_nil)))) pa_nil)))) pss_nil)))) (pss_cons (ps_if (pt_cmpR op_eq (pe_op op_modN (pe_op op_fdivB (pv 0) pe_int) pe_int) pe_int (nomark _)) (pss_one (ps_ret (pe_listRev rfl rfl B.b_list rfl B.b_reversed boot_list PyProof.Rows.Boot.«reversed» (pv 3)))) pss_nil) (pss_one (ps_ret (pv 3)))))), ?_⟩
  have sl : sizeLine = 16777216 := sizeLine_eq
  have m0 := fm (a := c) (n := 3) (by decide)
  have m1 := fm (a := c.fdiv 3) (n := 3) (by decide)
  refine ⟨(by show 0 ≤ sizeLine; decide), fun u nu => ?_⟩
  have g0 := same_new nu (.lst [])
  have hu0 : LsA rUse (fun a => a ≠ u ∧ H a = none) (upd H u (.lst [])) u [] := LsA.new
  generalize upd H u (.lst []) = H0 at g0 hu0 ⊢
  refine ⟨_, rfl, by decide, by decide, for_range (fun i σ H' => ∃ (o4 o5 : Option V) (us : List Us), σ = [some (.int c), some (.ref ln), some (.ref lh), some (.ref u), o4, o5] ∧ Same H H' ∧ LsA rUse (fun a => a ≠ u ∧ H a = none) H' u us ∧ UsB n0 n1 h0 h1 us ∧ us.length ≤ i ∧ (i ≤ 1 → ∀ x ∈ us, x.1 = n0)) ⟨none, none, [], rfl, g0, hu0, ⟨by simp, by simp, fun u hu => by cases hu⟩, Nat.le_refl _, fun _ x hx => by cases hx⟩ ?_ ?_⟩
  · rintro i σ H1 hi ⟨o4, o5, us, rfl, g1, hu, ub, ul, ua⟩
    replace hi : i < 2 := hi
    obtain ⟨x, nm, ht, hx, hn, hh, hx2, use1⟩ : ∃ (x : Int) (nm : Str) (ht : Int), atI [V.int (c.fmod 3), V.int ((c.fdiv 3).fmod 3)] (0 + (i : Int)) = some (.int x) ∧ atI [V.str n0, V.str n1] (0 + (i : Int)) = some (.str nm) ∧ atI [V.int h0, V.int h1] (0 + (i : Int)) = some (.int ht) ∧ x ≤ 2 ∧ (0 < x → UsB n0 n1 h0 h1 (us ++ [(nm, x, ht)]) ∧ (i + 1 ≤ 1 → nm = n0)) := by
      have ap : ∀ (nm : Str) (x ht : Int), ((nm = n0 ∧ ht = h0) ∨ (nm = n1 ∧ ht = h1)) → (∀ z ∈ us, z.1 ≠ nm) → us.length ≤ 1 → 0 < x → x ≤ 2 → UsB n0 n1 h0 h1 (us ++ [(nm, x, ht)]) := fun nm x ht e nd l1 x0 x2 => by
        refine ⟨by rw [List.length_append]; simp; omega, ?_, fun z hz => ?_⟩
        · rw [List.map_append]
          refine List.nodup_append.mpr ⟨ub.nd, by simp, fun a ha b hb => ?_⟩
          obtain ⟨z, hz, rfl⟩ := List.mem_map.mp ha
          simp at hb
          rw [hb]
          exact nd z hz
        · rcases List.mem_append.mp hz with w | w
          · exact ub.use z w
          · rw [List.mem_singleton.mp w]
            exact ⟨e, by show 1 ≤ x; omega, x2⟩
      obtain rfl | rfl : i = 0 ∨ i = 1 := by omega
      · refine ⟨c.fmod 3, n0, h0, rfl, rfl, rfl, by omega, fun x0 => ⟨ap n0 _ h0 (.inl ⟨rfl, rfl⟩) (fun z hz => ?_) (by omega) x0 (by omega), fun _ => rfl⟩⟩
        rw [List.length_eq_zero_iff.mp (by omega : us.length = 0)] at hz
        cases hz
      · exact ⟨(c.fdiv 3).fmod 3, n1, h1, rfl, rfl, rfl, by omega, fun x0 => ⟨ap n1 _ h1 (.inr ⟨rfl, rfl⟩) (fun z hz => by rw [ua (by omega) z hz]; exact ne) (by omega) x0 (by omega), fun h => absurd h (by omega)⟩⟩
    obtain ⟨vs, eu, ru⟩ := id hu
    have sz : vs.length < sizeLine := by have := ub.len; rw [ru.1]; omega
    refine ⟨_, rfl, _, _, rfl, rfl, (by show (3 : Int) ≠ 0; decide), _, rfl, _, _, rfl, rfl, ⟨by decide, PyProof.noPylong_small (by decide)⟩, _, _, rfl, rfl, (by show (3 : Int) ≠ 0; decide), (by show 2 ≤ sizeLine; decide), fun p np => ⟨_, rfl, p, _, _, _, rfl, rfl, SqL.of upd_same, hx, ?_⟩⟩
    have gp := same_new np (.lst [.int (c.fmod 3), .int ((c.fdiv 3).fmod 3)])
    generalize upd H1 p (.lst [.int (c.fmod 3), .int ((c.fdiv 3).fmod 3)]) = H2 at gp ⊢
    refine ⟨_, rfl, _, _, rfl, rfl, _, rfl, d2 (fun c0 => ?_) (fun c0 => ⟨_, _, us, rfl, g1.trans gp, hu.same gp, ub, by omega, fun h => ua (by omega)⟩)⟩
    have g2 := g1.trans gp
    refine ⟨_, rfl, .inl ⟨rfl, _, SqL.of (gp _ _ eu)⟩, _, rfl, _, rfl, ln, _, _, _, rfl, rfl, SqL.of (g2 _ _ en), hn, _, rfl, _, rfl, _, rfl, lh, _, _, _, rfl, rfl, SqL.of (g2 _ _ eh), hh, (by show 3 ≤ sizeLine; decide), fun a na => ⟨u, _, _, rfl, rfl, same_new na _ _ _ (gp _ _ eu), sz, ?_⟩⟩
    have ga := same_new na (.tup [.str nm, .int x, .int ht])
    obtain ⟨u1, u2⟩ := use1 c0
    refine ⟨_, _, us ++ [(nm, x, ht)], rfl, sUpd (g2.trans ga) nu _, ?_, u1, by rw [List.length_append]; simp; omega, fun h z hz => ?_⟩
    · refine LsA.put (fun z => z.1 rfl) (ru.imp fun _ _ q => mvS q (gp.trans ga)) ⟨a, rfl, ⟨(fun z => by have := gp _ _ eu; rw [z, this] at na; cases na), g2.free na⟩, ?_⟩
      rw [upd_same]
      rfl
    · rcases List.mem_append.mp hz with w | w
      · exact ua (by omega) z w
      · rw [List.mem_singleton.mp w]
        exact u2 h
  · rintro σ H1 ⟨o4, o5, us, rfl, g1, hu, ub, _, _⟩
    refine ⟨_, rfl, _, _, rfl, rfl, ⟨by decide, PyProof.noPylong_small (by decide)⟩, _, _, rfl, rfl, (by show (2 : Int) ≠ 0; decide), rfl, _, rfl, d2 (fun _ => ?_) (fun _ => ⟨_, rfl, q u us H1 g1 nu (hu.mono fun a h => h.2) ub⟩)⟩
    obtain ⟨vs, eu, ru⟩ := hu
    refine ⟨_, rfl, u, _, rfl, SqL.of eu, fun u' nu2 => ?_⟩
    have g3 := same_new nu2 (.lst vs.reverse)
    exact q u' us.reverse _ (g1.trans g3) (g1.free nu2) ⟨_, upd_same, ru.rev.imp fun _ _ q => mvP (mvS q g3) fun a h => h.2⟩ ub.rev

theorem sc_law_task : FnScope ["_law_run", "_law_cell", "_law_more", "_law_names_here", "_law_heats_here", "_law_long", "_law_mine", "_law_least", "_law_beside", "_law_other"] ["_law_run", "_law_cell", "_law_more", "_law_names_here", "_law_heats_here"] (defScope s_law_task) := ⟨rfl, rfl, rfl, by decide +kernel, rfl, by decide +kernel, by decide +kernel⟩
set_option maxHeartbeats 4000000 in
theorem ok_law_task {dV : Value} (F : FunD K "_law_task" "_law_task" s_law_task dV f fd) (B : Bn K mg c_Net f_Net_init) (D_law_uses : Dx P w K mg base CX0 1 "_law_uses" ["_law_cell", "_law_names_here", "_law_heats_here"] [] spUsesB) : FnOk P w K mg base CX0 2 f fd ["_law_run", "_law_cell", "_law_more", "_law_names_here", "_law_heats_here"] spTaskB := by
  have sc := sc_law_task
  refine F.ok sc (fun vs H Q E h => ?_) (fun cdv A outer s H vs Q E hr h => ?_)
  · obtain ⟨t, c, mo, ln, lh, r, f, n0, n1, h0, h1, rfl, _⟩ := h
    rfl
  obtain ⟨t, c, mo, ln, lh, r, f, n0, n1, h0, h1, rfl, et, hf, rb, en, eh, ne, b0, b1, q⟩ := h
  refine ⟨_, (pss_cons (ps_set (i := 5) sc.nd rfl (Or.inl rfl) (pe_op op_sub (pe_ix ix_tup (pv 0) pe_int (fun _ _ => rfl)) (pe_ix ix_tup (pv 0) pe_int (fun _ _ => rfl)))) (pss_cons (ps_set (i := 6) sc.nd rfl (Or.inl rfl) (pe_tup (pa_cons (pe_callB (call_max2 rfl) rfl B.b_max boot_max (pa_cons pe_int (pa_cons (pe_op op_sub (pv 5) (pe_op op_mulB (pe_op op_modN (pv 2) pe_int) (pe_op op_fdivB (pv 5) pe_int))) pa_nil))) (pa_cons (pe_op op_add (pv 5) (pe_op op_mulB (pe_op op_modN (pe_op op_fdivB (pv 2) pe_int) pe_int) (pv 5))) (pa_cons (pcall0 D_law_uses hr (by decide) rfl (pa_cons (pv 1) (pa_cons (pv 3) (pa_cons (pv 4) pa_nil)))) pa_nil))))) (pss_cons (ps_set (i := 7) sc.nd rfl (Or.inl rfl) (pe_op op_add pe_int (pe_op op_modN (pe_op op_fdivB (pv 2) pe_int) (pe_op op_mulB pe_int (pv 5))))) (pss_cons (ps_set (i := 8) sc.nd rfl (Or.inl rfl) (pcall0 D_law_uses hr (by decide) rfl (pa_cons (pe_op op_fdivB (pv 2) pe_int) (pa_cons (pv 3) (pa_cons (pe_lst (pa_cons (pe_op op_mulB (pe_op op_modN (pe_op op_fdivB (pv 2) pe_int) pe_int) pe_int) (pa_cons (pe_op op_mulB (pe_op op_modN (pe_op op_fdivB (pv 1) pe_int) pe_int) pe_int) pa_nil))) pa_nil))))) (pss_cons (ps_set (i := 9) sc.nd rfl (Or.inl rfl) (pe_tup (pa_cons (pv 7) (pa_cons (pe_op op_add (pv 7) (pe_op op_modN (pe_op op_fdivB (pv 2) pe_int) (pe_op op_mulB pe_int (pv 5)))) (pa_cons (pv 8) pa_nil))))) (pss_cons (ps_if (pt_cmpR op_eq (pe_ix ix_tup (pv 0) pe_int (fun _ _ => rfl)) pe_int (nomark _)) (pss_one (ps_ret (pe_lst (pa_cons (pv 9) (pa_cons (pv 6) pa_nil))))) pss_nil) (pss_cons (ps_if (pt_cmpR op_eq (pe_op op_modN (pe_op op_fdivB (pv 2) pe_int) pe_int) pe_int (nomark _)) (pss_one (ps_ret (pe_lst (pa_cons (pv 6) (pa_cons (pv 9) pa_nil))))) pss_nil) (pss_one (ps_ret (pe_lst (pa_cons (pv 6) pa_nil))))))))))), ?_⟩
  have sl : sizeLine = 16777216 := sizeLine_eq
  obtain ⟨l1, l2⟩ : 1 ≤ r.2.1 - r.1 ∧ r.2.1 - r.1 ≤ 60000114 := by
    have := rb.2.2.1
    have := rb.2.2.2.1
    rcases hf with rfl | rfl <;> omega
  have r2 := rb.2.2.2.2
  have m3 := fm (a := mo) (n := 3) (by decide)
  have m4 := fm (a := mo.fdiv 3) (n := 4) (by decide)
  have mh : 0 ≤ (r.2.1 - r.1).fdiv 2 ∧ (r.2.1 - r.1).fdiv 2 ≤ r.2.1 - r.1 := by
    rw [Int.fdiv_eq_ediv_of_nonneg _ (by decide)]
    omega
  have x0 : 0 ≤ mo.fmod 3 * (r.2.1 - r.1).fdiv 2 := Int.mul_nonneg m3.1 mh.1
  have y0 : 0 ≤ (mo.fdiv 3).fmod 4 * (r.2.1 - r.1) := Int.mul_nonneg m4.1 (by omega)
  have y1 : (mo.fdiv 3).fmod 4 * (r.2.1 - r.1) ≤ 3 * 60000114 := Int.le_trans (Int.mul_le_mul_of_nonneg_right (show (mo.fdiv 3).fmod 4 ≤ 3 by omega) (by omega)) (Int.mul_le_mul_of_nonneg_left l2 (by decide))
  have ml := fm (a := mo.fdiv 12) (n := 2 * (r.2.1 - r.1)) (by omega)
  have mm := fm (a := mo.fdiv 11) (n := 3 * (r.2.1 - r.1)) (by omega)
  have p3 := fm (a := mo.fdiv 5) (n := 3) (by decide)
  have p2 := fm (a := c.fdiv 5) (n := 2) (by decide)
  refine ⟨_, rfl, t, _, _, _, rfl, rfl, SqT.of et, rfl, _, rfl, t, _, _, _, rfl, rfl, SqT.of et, rfl, _, _, rfl, rfl, ?_⟩
  refine ⟨_, rfl, _, rfl, _, _, rfl, rfl, (by show (3 : Int) ≠ 0; decide), _, rfl, _, _, rfl, rfl, ⟨by decide, PyProof.noPylong_small (by decide)⟩, _, _, rfl, rfl, IntMulOk.of_left (intBits_le_64 (by omega) (by omega)), _, _, rfl, rfl, _, _, rfl, _, rfl, _, rfl, _, _, rfl, rfl, ⟨by decide, PyProof.noPylong_small (by decide)⟩, _, _, rfl, rfl, (by show (4 : Int) ≠ 0; decide), _, rfl, _, _, rfl, rfl, IntMulOk.of_left (intBits_le_64 (by omega) (by omega)), _, _, rfl, rfl, _, rfl, _, rfl, _, rfl, c, ln, lh, n0, n1, h0, h1, rfl, en, eh, ne, fun u us H1 g1 nu lu ub => ⟨(by show 3 ≤ sizeLine; decide), fun tm ntm => ?_⟩⟩
  have e1 : (if r.2.1 - r.1 - mo.fmod 3 * (r.2.1 - r.1).fdiv 2 > 1 then r.2.1 - r.1 - mo.fmod 3 * (r.2.1 - r.1).fdiv 2 else 1) ≤ r.2.1 - r.1 := by split <;> omega
  have e2 : 1 ≤ (if r.2.1 - r.1 - mo.fmod 3 * (r.2.1 - r.1).fdiv 2 > 1 then r.2.1 - r.1 - mo.fmod 3 * (r.2.1 - r.1).fdiv 2 else 1) := by split <;> omega
  generalize (if r.2.1 - r.1 - mo.fmod 3 * (r.2.1 - r.1).fdiv 2 > 1 then r.2.1 - r.1 - mo.fmod 3 * (r.2.1 - r.1).fdiv 2 else 1) = le at e1 e2 ntm ⊢
  generalize (mo.fdiv 3).fmod 4 * (r.2.1 - r.1) = mx at y0 y1 ntm ⊢
  have gm := same_new ntm (.tup [.int le, .int (r.2.1 - r.1 + mx), .ref u])
  have etm : upd H1 tm (.tup [.int le, .int (r.2.1 - r.1 + mx), .ref u]) tm = some (.tup [.int le, .int (r.2.1 - r.1 + mx), .ref u]) := upd_same
  have ntm0 := g1.free ntm
  have k1 := g1.trans gm
  have lu1 := lu.same gm
  generalize upd H1 tm (.tup [.int le, .int (r.2.1 - r.1 + mx), .ref u]) = H2 at gm etm k1 lu1 ⊢
  clear ntm lu x0
  refine ⟨_, rfl, _, _, rfl, rfl, ⟨by decide, PyProof.noPylong_small (by decide)⟩, _, rfl, _, _, rfl, rfl, IntMulOk.of_left (by decide), _, _, rfl, rfl, (by omega), _, _, rfl, rfl, ?_⟩
  refine ⟨_, rfl, _, _, rfl, rfl, ⟨by decide, PyProof.noPylong_small (by decide)⟩, _, rfl, _, rfl, _, _, rfl, rfl, ⟨by decide, PyProof.noPylong_small (by decide)⟩, _, _, rfl, rfl, (by show (3 : Int) ≠ 0; decide), _, _, rfl, rfl, IntMulOk.of_left (intBits_le_64 (by omega) (by omega)), _, rfl, _, _, rfl, rfl, ⟨by decide, PyProof.noPylong_small (by decide)⟩, _, _, rfl, rfl, (by show (2 : Int) ≠ 0; decide), _, _, rfl, rfl, IntMulOk.of_left (intBits_le_64 (by omega) (by omega)), (by show 2 ≤ sizeLine; decide), fun lb nlb => ?_⟩
  have gb := same_new nlb (.lst [.int ((mo.fdiv 5).fmod 3 * 90), .int ((c.fdiv 5).fmod 2 * 180)])
  have elb : upd H2 lb (.lst [.int ((mo.fdiv 5).fmod 3 * 90), .int ((c.fdiv 5).fmod 2 * 180)]) lb = some (.lst [.int ((mo.fdiv 5).fmod 3 * 90), .int ((c.fdiv 5).fmod 2 * 180)]) := upd_same
  generalize upd H2 lb (.lst [.int ((mo.fdiv 5).fmod 3 * 90), .int ((c.fdiv 5).fmod 2 * 180)]) = H3 at gb elb ⊢
  have k3 := k1.trans gb
  refine ⟨_, ln, lb, n0, n1, _, _, rfl, k3 _ _ en, elb, ne, fun u2 us2 H4 g4 nu2 lu2 ub2 => ?_⟩
  have k4 := k3.trans g4
  refine ⟨_, rfl, _, rfl, _, rfl, _, _, rfl, rfl, ⟨by decide, PyProof.noPylong_small (by decide)⟩, _, rfl, _, _, rfl, rfl, IntMulOk.of_left (by decide), _, _, rfl, rfl, (by omega), _, _, rfl, rfl, _, rfl, (by show 3 ≤ sizeLine; decide), fun to nto => ?_⟩
  generalize (mo.fdiv 12).fmod (2 * (r.2.1 - r.1)) = le2 at ml nto ⊢
  generalize (mo.fdiv 11).fmod (3 * (r.2.1 - r.1)) = mx2 at mm nto ⊢
  have go := same_new nto (.tup [.int (1 + le2), .int (1 + le2 + mx2), .ref u2])
  have eto : upd H4 to (.tup [.int (1 + le2), .int (1 + le2 + mx2), .ref u2]) to = some (.tup [.int (1 + le2), .int (1 + le2 + mx2), .ref u2]) := upd_same
  have nto0 := k4.free nto
  generalize upd H4 to (.tup [.int (1 + le2), .int (1 + le2 + mx2), .ref u2]) = H5 at go eto ⊢
  have k5 := k4.trans go
  have way1 : rWay (fun a => H a = none) H5 (.ref tm) (le, r.2.1 - r.1 + mx, us) := ⟨tm, u, rfl, ntm0, nu, ((gb.trans g4).trans go) _ _ etm, lu1.same ((gb.trans g4).trans go)⟩
  have way2 : rWay (fun a => H a = none) H5 (.ref to) (1 + le2, 1 + le2 + mx2, us2) := ⟨to, u2, rfl, nto0, k3.free nu2, eto, (lu2.same go).mono fun a h => k3.free h⟩
  have wb1 : WyB n0 n1 (le, r.2.1 - r.1 + mx, us) := ⟨e2, by show le ≤ r.2.1 - r.1 + mx; omega, by show r.2.1 - r.1 + mx ≤ 900000000; omega, h0, h1, b0, b1, ub⟩
  have wb2 : WyB n0 n1 (1 + le2, 1 + le2 + mx2, us2) := ⟨by show 1 ≤ 1 + le2; omega, by show 1 + le2 ≤ 1 + le2 + mx2; omega, by show 1 + le2 + mx2 ≤ 900000000; omega, _, _, ⟨by omega, by omega⟩, ⟨by omega, by omega⟩, ub2⟩
  have mine : le ≤ r.2.1 - r.1 ∧ r.2.1 - r.1 ≤ r.2.1 - r.1 + mx ∧ UsB n0 n1 h0 h1 us := ⟨e1, by omega, ub⟩
  have fin2 : ∀ (p : Addr) (x y : V) (w w' : Wy), H5 p = none → rWay (fun a => H a = none) H5 x w → rWay (fun a => H a = none) H5 y w' → rTask (fun a => H a = none) (upd H5 p (.lst [x, y])) (.ref p) [w, w'] := fun p x y w w' np h1 h2 => ⟨p, rfl, k5.free np, _, upd_same, (A2.one (mvS h1 (same_new np _))).append (A2.one (mvS h2 (same_new np _)))⟩
  refine ⟨_, rfl, t, _, _, _, rfl, rfl, SqT.of (k5 _ _ et), rfl, rfl, _, rfl, d2I (fun c1 => ?_) (fun c1 => ?_)⟩
  · refine ⟨_, rfl, _, rfl, (by show 2 ≤ sizeLine; decide), fun p np => q _ _ _ (k5.trans (same_new np _)) (fin2 p _ _ _ _ np way2 way1) ⟨by simp, by simp, by rw [c1]; simp, fun w hw => ?_, _, by rw [c1]; rfl, mine⟩⟩
    rcases List.mem_cons.mp hw with z | z
    · rw [z]; exact wb2
    · rw [List.mem_singleton.mp z]; exact wb1
  have c0 : r.2.2 = 0 := by omega
  refine ⟨_, rfl, _, _, rfl, rfl, ⟨by decide, PyProof.noPylong_small (by decide)⟩, _, _, rfl, rfl, (by show (2 : Int) ≠ 0; decide), rfl, _, rfl, d2I (fun c2 => ?_) (fun c2 => ?_)⟩
  · refine ⟨_, rfl, _, rfl, (by show 2 ≤ sizeLine; decide), fun p np => q _ _ _ (k5.trans (same_new np _)) (fin2 p _ _ _ _ np way1 way2) ⟨by simp, by simp, by rw [c0]; simp, fun w hw => ?_, _, by rw [c0]; rfl, mine⟩⟩
    rcases List.mem_cons.mp hw with z | z
    · rw [z]; exact wb1
    · rw [List.mem_singleton.mp z]; exact wb2
  · refine ⟨_, rfl, (by show 1 ≤ sizeLine; decide), fun p np => q _ _ _ (k5.trans (same_new np _)) ⟨p, rfl, k5.free np, _, upd_same, A2.one (mvS way1 (same_new np _))⟩ ⟨by simp, by simp, by rw [c0]; simp, fun w hw => ?_, _, by rw [c0]; rfl, mine⟩⟩
    rw [List.mem_singleton.mp hw]; exact wb1

theorem sc_law_used : FnScope ["_law_runs_here", "_law_tasks", "_law_name", "_law_t", "_law_found", "_law_i", "_law_tool", "_law_many", "_law_heat"] ["_law_runs_here", "_law_tasks", "_law_name", "_law_t"] (defScope s_law_used) := ⟨rfl, rfl, rfl, by decide +kernel, rfl, by decide +kernel, by decide +kernel⟩
set_option maxHeartbeats 4000000 in
theorem ok_law_used {dV : Value} (F : FunD K "_law_used" "_law_used" s_law_used dV f fd) (B : Bn K mg c_Net f_Net_init)  : FnOk P w K mg base CX0 1 f fd ["_law_runs_here", "_law_tasks", "_law_name", "_law_t"] spUsedB := by
  have sc := sc_law_used
  refine F.ok sc (fun vs H Q E h => ?_) (fun cdv A outer s H vs Q E hr h => ?_)
  · obtain ⟨rl, tl, z, t, T, R, rfl, _⟩ := h
    rfl
  obtain ⟨rl, tl, z, t, T, R, rfl, ⟨vs, el, rT⟩, ⟨bs, er, rR⟩, pok, r24, nd, q⟩ := h
  refine ⟨_, (pss_cons (ps_set (i := 4) sc.nd rfl (Or.inl rfl) pe_int) (pss_cons (ps_for PassesOwn.never rfl (pi_range1 rfl B.b_range (pa_cons (pe_callB call_len_seq rfl B.b_len boot_len (pa_cons (pv 0) pa_nil)) pa_nil)) (pg_name (i := 5) sc.nd rfl (Or.inl rfl)) (pss_one (ps_for PassesOwn.never rfl (pi_list (pe_ix ix_tup (pe_ix ix_list (pe_ix ix_list (pv 1) (pv 5) (fun _ _ => rfl)) (pe_ix ix_tup (pe_ix ix_list (pv 0) (pv 5) (fun _ _ => rfl)) pe_int (fun _ _ => rfl)) (fun _ _ => rfl)) pe_int (fun _ _ => rfl))) (pg_tup rfl (pgs_cons (pg_name (i := 6) sc.nd rfl (Or.inl rfl)) (pgs_cons (pg_name (i := 7) sc.nd rfl (Or.inl rfl)) (pgs_cons (pg_name (i := 8) sc.nd rfl (Or.inl rfl)) pgs_nil)))) (pss_one (ps_if (PW.pt (pw_and (pt_cmpR op_eq (pv 6) (pv 2) (nomark _)) (pw_and1 (pt_chain op_le op_lt (pe_ix ix_tup (pe_ix ix_list (pv 0) (pv 5) (fun _ _ => rfl)) pe_int (fun _ _ => rfl)) (pv 3) (pe_ix ix_tup (pe_ix ix_list (pv 0) (pv 5) (fun _ _ => rfl)) pe_int (fun _ _ => rfl)))))) (pss_one (ps_set (i := 4) sc.nd rfl (Or.inl rfl) (pe_op op_add (pv 4) (pv 7)))) pss_nil))))) (pss_one (ps_ret (pv 4))))), ?_⟩
  have sl : sizeLine = 16777216 := sizeLine_eq
  have lr : (bs.map V.ref).length = R.length := by rw [List.length_map, rR.1, List.length_map]
  refine ⟨_, rfl, rl, _, rfl, .inl (SqL.of er), _, rfl, by omega, by omega, for_range (fun i σ H' => ∃ o5 o6 o7 o8 : Option V, σ = [some (.ref rl), some (.ref tl), some (.str z), some (.int t), some (.int (usedF T R z t i)), o5, o6, o7, o8] ∧ H = H') ⟨none, none, none, none, rfl, rfl⟩ ?_ ?_⟩
  · rintro i σ H1 hi ⟨o5, o6, o7, o8, rfl, rfl⟩
    rw [Int.toNat_natCast, lr] at hi
    obtain ⟨wl, b, ts, v, r, j, hw, ew, hv, rw', hb, eb, hr', hj, hgd⟩ := way_at rT rR pok hi
    have us : usedF T R z t (i + 1) = usedF T R z t i + (if goesF r t = true then manyIn (wayF T R i) z else 0) := by
      show usedF T R z t i + (if goesF (R.getD i (0, 0, 0)) t = true then manyIn (wayF T R i) z else 0) = _
      rw [hgd]
    have ndw : ((wayF T R i).2.2.map (·.1)).Nodup := by
      have iT : i < T.length := by rw [← pok.len]; exact hi
      have hT := List.getElem?_eq_getElem iT
      have pk := pok.way i _ _ hr' hT
      refine nd _ (List.getElem_mem iT) _ ?_
      unfold wayF
      rw [getDo hT, getDo hr', hj, Int.toNat_natCast, getDo (List.getElem?_eq_getElem (show j < (T[i]).length by omega))]
      exact List.getElem_mem _
    have br : atI (bs.map V.ref) (0 + (i : Int)) = some (.ref b) := at_zero (map_at hb)
    generalize wayF T R i = wy at rw' us ndw
    obtain ⟨tw, uw, rfl, _, _, etw, us', eu, ru⟩ := rw'
    have gz : goesF r t = (decide (r.1 ≤ t) && decide (t < r.2.1)) := rfl
    refine ⟨_, rfl, _, rfl, tl, _, _, _, rfl, rfl, SqL.of el, (at_zero hw), _, rfl, _, rfl, rl, _, _, _, rfl, rfl, SqL.of er, br, b, _, _, _, rfl, rfl, SqT.of eb, rfl, wl, _, _, _, rfl, rfl, SqL.of ew, (by rw [hj]; exact atI_nat hv), tw, _, _, _, rfl, rfl, SqT.of etw, rfl, uw, rfl, ⟨_, SqL.of eu⟩, for_list (xs := us') (fun k σ H' => ∃ o6 o7 o8 : Option V, σ = [some (.ref rl), some (.ref tl), some (.str z), some (.int t), some (.int (usedF T R z t i + (if goesF r t = true then sumL z (wy.2.2.take k) else 0))), some (.int (0 + (i : Int))), o6, o7, o8] ∧ H = H') ⟨o6, o7, o8, ?_, rfl⟩ (fun k σ H' _ h => by obtain ⟨_, _, _, _, rfl⟩ := h; exact SqL.of eu) ?_ ?_⟩
    · have : (if goesF r t = true then sumL z (wy.2.2.take 0) else 0) = 0 := by
        rw [List.take_zero]
        split <;> rfl
      rw [this, Int.add_zero]
      rfl
    · rintro k y σ H2 hy ⟨o6, o7, o8, rfl, rfl⟩
      obtain ⟨e, he, a, rfl, _, ea⟩ := ru.at_ hy
      have st := sumL_take (z := z) he
      refine ⟨a, _, rfl, SqT.of ea, rfl, _, _, rfl, _, _, rfl, _, _, rfl, rfl, ?_⟩
      have keep : (if goesF r t = true then (if e.1 = z then e.2.1 else 0) else 0) = 0 → (if goesF r t = true then sumL z (wy.2.2.take (k + 1)) else 0) = (if goesF r t = true then sumL z (wy.2.2.take k) else 0) := fun h => by
        rw [st]
        split
        · rename_i gg
          rw [if_pos gg] at h
          rw [h, Int.add_zero]
        · rfl
      refine ⟨_, rfl, _, rfl, rfl, _, rfl, d2 (fun c => ⟨_, rfl, _, rfl, rl, _, _, _, rfl, rfl, SqL.of er, br, b, _, _, _, rfl, rfl, SqT.of eb, rfl, _, rfl, _, _, rfl, rfl, _, rfl, d2 (fun c1 => ⟨_, rfl, _, rfl, rl, _, _, _, rfl, rfl, SqL.of er, br, b, _, _, _, rfl, rfl, SqT.of eb, rfl, _, _, rfl, rfl, _, rfl, d2 (fun c2 => ?_) (fun c2 => ?_)⟩) (fun c1 => ?_)⟩) (fun c => ?_)⟩
      · have c' : e.1 = z := by injection c
        have gt : goesF r t = true := by rw [gz, decide_eq_true c1, decide_eq_true c2]; rfl
        rw [if_pos c'] at st
        refine ⟨_, rfl, _, rfl, _, _, rfl, rfl, some (.str e.1), some (.int e.2.1), some (.int e.2.2), ?_, rfl⟩
        rw [gt, if_pos rfl, if_pos rfl, st, ← Int.add_assoc]
        rfl
      · exact ⟨_, _, _, by rw [keep (by rw [gz, decide_eq_true c1, decide_eq_false c2]; rfl)]; rfl, rfl⟩
      · exact ⟨_, rfl, iteF ⟨_, _, _, by rw [keep (by rw [gz, decide_eq_false c1]; rfl)]; rfl, rfl⟩⟩
      · have hz : (if e.1 = z then e.2.1 else 0) = 0 := if_neg fun c' => c (by rw [c'])
        exact ⟨_, _, _, by rw [keep (by rw [hz, ite_self])]; rfl, rfl⟩
    · rintro σ H2 ⟨o6, o7, o8, rfl, rfl⟩
      rw [ru.1, List.take_length, sumL_way ndw]
      exact ⟨_, _, _, _, by rw [us], rfl⟩
  · rintro σ H1 ⟨o5, o6, o7, o8, rfl, rfl⟩
    rw [Int.toNat_natCast, lr]
    exact ⟨_, rfl, q⟩

theorem sc_law_tools : FnScope ["_law_runs_here", "_law_tasks", "_law_names_here", "_law_cell", "_law_tools_here", "_law_k", "_law_number", "_law_i", "_law_way", "_law_tool", "_law_many", "_law_heat"] ["_law_runs_here", "_law_tasks", "_law_names_here", "_law_cell"] (defScope s_law_tools) := ⟨rfl, rfl, rfl, by decide +kernel, rfl, by decide +kernel, by decide +kernel⟩
set_option maxHeartbeats 4000000 in
theorem ok_law_tools {dV : Value} (F : FunD K "_law_tools" "_law_tools" s_law_tools dV f fd) (B : Bn K mg c_Net f_Net_init) (D_law_used : Dx P w K mg base CX0 1 "_law_used" ["_law_runs_here", "_law_tasks", "_law_name", "_law_t"] [] spUsedB) : FnOk P w K mg base CX0 2 f fd ["_law_runs_here", "_law_tasks", "_law_names_here", "_law_cell"] spToolsB := by
  have sc := sc_law_tools
  refine F.ok sc (fun vs H Q E h => ?_) (fun cdv A outer s H vs Q E hr h => ?_)
  · obtain ⟨rl, tl, ln, c, T, R, n0, n1, rfl, _⟩ := h
    rfl
  obtain ⟨rl, tl, ln, c, T, R, n0, n1, rfl, hT, hR, en, ne, pok, r4, wok, q⟩ := h
  refine ⟨_, (pss_cons (ps_set (i := 4) sc.nd rfl (Or.inl rfl) pe_dnewK) (pss_cons (ps_for PassesOwn.never rfl (pi_range1 rfl B.b_range (pa_cons pe_int pa_nil)) (pg_name (i := 5) sc.nd rfl (Or.inl rfl)) (pss_cons (ps_set (i := 6) sc.nd rfl (Or.inl rfl) pe_int) (pss_cons (ps_for PassesOwn.never rfl (pi_range1 rfl B.b_range (pa_cons (pe_callB call_len_seq rfl B.b_len boot_len (pa_cons (pv 0) pa_nil)) pa_nil)) (pg_name (i := 7) sc.nd rfl (Or.inl rfl)) (pss_cons (ps_set (i := 6) sc.nd rfl (Or.inl rfl) (pe_callB (call_max2 rfl) rfl B.b_max boot_max (pa_cons (pv 6) (pa_cons (pcall0 D_law_used hr (by decide) rfl (pa_cons (pv 0) (pa_cons (pv 1) (pa_cons (pe_ix ix_list (pv 2) (pv 5) (fun _ _ => rfl)) (pa_cons (pe_ix ix_tup (pe_ix ix_list (pv 0) (pv 7) (fun _ _ => rfl)) pe_int (fun _ _ => rfl)) pa_nil))))) pa_nil)))) (pss_one (ps_for PassesOwn.never rfl (pi_list (pe_ix ix_list (pv 1) (pv 7) (fun _ _ => rfl))) (pg_name (i := 8) sc.nd rfl (Or.inl rfl)) (pss_one (ps_for PassesOwn.never rfl (pi_list (pe_ix ix_tup (pv 8) pe_int (fun _ _ => rfl))) (pg_tup rfl (pgs_cons (pg_name (i := 9) sc.nd rfl (Or.inl rfl)) (pgs_cons (pg_name (i := 10) sc.nd rfl (Or.inl rfl)) (pgs_cons (pg_name (i := 11) sc.nd rfl (Or.inl rfl)) pgs_nil)))) (pss_one (ps_set (i := 6) sc.nd rfl (Or.inl rfl) (pe_callB (call_max2 rfl) rfl B.b_max boot_max (pa_cons (pv 6) (pa_cons (pv 10) pa_nil))))))))))) (pss_one (ps_dput (hu_of hr) (pv 4) (pe_ix ix_list (pv 2) (pv 5) (fun _ _ => rfl)) (pe_callB (call_min2 rfl) rfl B.b_min boot_min (pa_cons pe_int (pa_cons (pe_op op_add (pv 6) (pe_op op_modN (pe_op op_fdivB (pv 3) (pe_op op_add (pv 5) pe_int)) pe_int)) pa_nil))) rfl))))) (pss_one (ps_ret (pv 4))))), ?_⟩
  have sl : sizeLine = 16777216 := sizeLine_eq
  refine fun td ntd => ?_
  have g0 := same_new ntd (.dK [])
  have e0 : upd H td (.dK []) td = some (.dK (toolK [])) := upd_same
  generalize upd H td (.dK []) = H0 at g0 e0 ⊢
  have ndw : ∀ ws ∈ T, ∀ w ∈ ws, (w.2.2.map (·.1)).Nodup := fun ws hws w hw => by
    obtain ⟨_, _, _, h0, h1, _, _, us⟩ := (wok ws hws).2.2 w hw
    exact us.nd
  have m2 : ∀ ws ∈ T, ∀ w ∈ ws, ∀ u ∈ w.2.2, u.2.1 ≤ 2 := fun ws hws w hw u hu => by
    obtain ⟨_, _, _, h0, h1, _, _, us⟩ := (wok ws hws).2.2 w hw
    exact (us.use u hu).2.2
  have u8 : ∀ z t, usedF T R z t R.length ≤ 8 := fun z t => by
    have := used_le8 (T := T) (R := R) (z := z) (t := t) (fun i il => by
      have iT : i < T.length := by rw [← pok.len]; exact il
      have hT := List.getElem?_eq_getElem iT
      have hr := List.getElem?_eq_getElem il
      have pk := pok.way i _ _ hr hT
      refine many_le2 (n0 := n0) (n1 := n1) ((wok _ (List.getElem_mem iT)).2.2 _ ?_)
      unfold wayF
      rw [getDo hT, getDo hr, getDo (List.getElem?_eq_getElem (show (R[i]).2.2.toNat < (T[i]).length by omega))]
      exact List.getElem_mem _) R.length (Nat.le_refl _)
    omega
  obtain ⟨bs, er, rR⟩ := id hR
  obtain ⟨vs, el, rT⟩ := id hT
  have lr : (bs.map V.ref).length = R.length := by rw [List.length_map, rR.1, List.length_map]
  have E8 : ∀ z m, EnB T R z R.length m ↔ (1 ≤ m ∧ m ≤ 8 ∧ (∀ r ∈ R, usedF T R z r.1 R.length ≤ m) ∧ ∀ ws ∈ T, ∀ w ∈ ws, ∀ u ∈ w.2.2, u.2.1 ≤ m) := fun z m => by
    have eT : T.take R.length = T := by rw [pok.len]; exact List.take_length
    constructor
    · intro h
      have h3 := h.run
      have h4 := h.way
      rw [List.take_length] at h3
      rw [eT] at h4
      exact ⟨h.lo, h.hi, h3, h4⟩
    · intro h
      exact ⟨h.1, h.2.1, by rw [List.take_length]; exact h.2.2.1, by rw [eT]; exact h.2.2.2⟩
  refine ⟨_, rfl, by decide, by decide, for_range (fun i σ H' => ∃ (o5 o6 o7 o8 o9 o10 o11 : Option V) (D : Tl), σ = [some (.ref rl), some (.ref tl), some (.ref ln), some (.int c), some (.ref td), o5, o6, o7, o8, o9, o10, o11] ∧ Same H H' ∧ H' td = some (.dK (toolK D)) ∧ ((i = 0 ∧ D = []) ∨ (i = 1 ∧ ∃ m0, D = [(n0, m0)] ∧ EnB T R n0 R.length m0) ∨ (i = 2 ∧ ∃ m0 m1, D = [(n0, m0), (n1, m1)] ∧ EnB T R n0 R.length m0 ∧ EnB T R n1 R.length m1))) ⟨none, none, none, none, none, none, none, [], rfl, g0, e0, .inl ⟨rfl, rfl⟩⟩ ?_ ?_⟩
  · rintro i σ H1 hi ⟨o5, o6, o7, o8, o9, o10, o11, D, rfl, g1, eD, hD⟩
    replace hi : i < 2 := hi
    obtain ⟨nm, hn, fin⟩ : ∃ nm : Str, atI [V.str n0, V.str n1] (0 + (i : Int)) = some (.str nm) ∧ ∀ m, EnB T R nm R.length m → ∃ D', putK (toolK D) (.inr nm) (.int m) = toolK D' ∧ ((i + 1 = 0 ∧ D' = []) ∨ (i + 1 = 1 ∧ ∃ m0, D' = [(n0, m0)] ∧ EnB T R n0 R.length m0) ∨ (i + 1 = 2 ∧ ∃ m0 m1, D' = [(n0, m0), (n1, m1)] ∧ EnB T R n0 R.length m0 ∧ EnB T R n1 R.length m1)) := by
      rcases hD with ⟨rfl, rfl⟩ | ⟨rfl, m0, rfl, h0⟩ | ⟨rfl, _⟩
      · exact ⟨n0, rfl, fun m hm => ⟨[(n0, m)], rfl, .inr (.inl ⟨rfl, m, rfl, hm⟩)⟩⟩
      · exact ⟨n1, rfl, fun m hm => ⟨[(n0, m0), (n1, m)], putK_two (fun e => ne (by injection e)), .inr (.inr ⟨rfl, m0, m, rfl, h0, hm⟩)⟩⟩
      · omega
    have dl : (toolK D).length < sizeLine := by
      rw [toolK_len]
      rcases hD with ⟨_, rfl⟩ | ⟨_, m0, rfl, _⟩ | ⟨rfl, _⟩
      · simp; omega
      · simp; omega
      · omega
    try dsimp only [gName, tNext]
    refine cut (fun σ H' => σ = [some (.ref rl), some (.ref tl), some (.ref ln), some (.int c), some (.ref td), some (.int (0 + (i : Int))), some (.int 1), o7, o8, o9, o10, o11] ∧ H1 = H') (fun N hN => hN _ _ ⟨rfl, rfl⟩) ?_
    rintro σ H2 ⟨rfl, rfl⟩
    try dsimp only [gName, tNext]
    refine cut (fun σ H' => ∃ (o7 o8 o9 o10 o11 : Option V) (m : Int), σ = [some (.ref rl), some (.ref tl), some (.ref ln), some (.int c), some (.ref td), some (.int (0 + (i : Int))), some (.int m), o7, o8, o9, o10, o11] ∧ H1 = H' ∧ EnB T R nm R.length m) (fun N hN => ?_) ?_
    · refine ⟨_, rfl, rl, _, rfl, .inl (SqL.of (g1 _ _ er)), _, rfl, by omega, by omega, for_range (fun k σ H' => ∃ (o7 o8 o9 o10 o11 : Option V) (m : Int), σ = [some (.ref rl), some (.ref tl), some (.ref ln), some (.int c), some (.ref td), some (.int (0 + (i : Int))), some (.int m), o7, o8, o9, o10, o11] ∧ H1 = H' ∧ EnB T R nm k m) ⟨_, _, _, _, _, 1, rfl, rfl, ⟨by decide, by decide, fun r hr => by simp at hr, fun w hw => by simp at hw⟩⟩ ?_ ?_⟩
      · rintro k σ H2 hk ⟨o7, o8, o9, o10, o11, m, rfl, rfl, en1⟩
        rw [Int.toNat_natCast, lr] at hk
        have hr' := List.getElem?_eq_getElem hk
        obtain ⟨b, hb, eb⟩ := rR.get (show (R.map rk)[k]? = some (rk R[k]) by rw [List.getElem?_map, hr']; rfl)
        have kT : k < T.length := by rw [← pok.len]; exact hk
        have hTk := List.getElem?_eq_getElem kT
        obtain ⟨v, hv, wl, rfl, _, ws', ew, rw'⟩ := rT.get hTk
        have memT := List.getElem_mem kT
        refine ⟨_, rfl, _, rfl, _, rfl, _, rfl, _, rfl, ln, _, _, _, rfl, rfl, SqL.of (g1 _ _ en), hn, _, rfl, _, rfl, rl, _, _, _, rfl, rfl, SqL.of (g1 _ _ er), (at_zero (map_at hb)), b, _, _, _, rfl, rfl, SqT.of (g1 _ _ eb), rfl, rl, tl, nm, _, T, R, rfl, hT.same g1, hR.same g1, pok, by omega, ndw, _, _, rfl, ?_⟩
        have a1 := le_max1 m (usedF T R nm (R[k]).1 R.length)
        have a2 := le_max2 m (usedF T R nm (R[k]).1 R.length)
        have a3 := max_le en1.hi (u8 nm (R[k]).1)
        generalize (if usedF T R nm (R[k]).1 R.length > m then usedF T R nm (R[k]).1 R.length else m) = m' at a1 a2 a3 ⊢
        have m1' : 1 ≤ m' := by have := en1.lo; omega
        refine ⟨_, rfl, _, rfl, tl, _, _, _, rfl, rfl, SqL.of (g1 _ _ el), (at_zero hv), wl, rfl, ⟨_, SqL.of (g1 _ _ ew)⟩, for_list (xs := ws') (fun j σ H' => ∃ (o8 o9 o10 o11 : Option V) (x : Int), σ = [some (.ref rl), some (.ref tl), some (.ref ln), some (.int c), some (.ref td), some (.int (0 + (i : Int))), some (.int x), some (.int (0 + (k : Int))), o8, o9, o10, o11] ∧ H1 = H' ∧ m' ≤ x ∧ x ≤ 8 ∧ ∀ w ∈ (T[k]).take j, ∀ u ∈ w.2.2, u.2.1 ≤ x) ⟨_, _, _, _, m', rfl, rfl, Int.le_refl _, a3, fun w hw => by simp at hw⟩ (fun j σ H' _ h => by obtain ⟨_, _, _, _, _, _, rfl, _⟩ := h; exact SqL.of (g1 _ _ ew)) ?_ ?_⟩
        · rintro j y σ H2 hy ⟨o8, o9, o10, o11, x, rfl, rfl, x1, x8, xw⟩
          obtain ⟨w, hw, tw, uw, rfl, _, _, etw, us', eu, ru⟩ := rw'.at_ hy
          have memw := List.mem_of_getElem? hw
          refine ⟨_, rfl, tw, _, _, _, rfl, rfl, SqT.of (g1 _ _ etw), rfl, uw, rfl, ⟨_, SqL.of (g1 _ _ eu)⟩, for_list (xs := us') (fun l σ H' => ∃ (o9 o10 o11 : Option V) (x' : Int), σ = [some (.ref rl), some (.ref tl), some (.ref ln), some (.int c), some (.ref td), some (.int (0 + (i : Int))), some (.int x'), some (.int (0 + (k : Int))), some (.ref tw), o9, o10, o11] ∧ H1 = H' ∧ x ≤ x' ∧ x' ≤ 8 ∧ ∀ u ∈ w.2.2.take l, u.2.1 ≤ x') ⟨_, _, _, x, rfl, rfl, Int.le_refl _, x8, fun w hw => by simp at hw⟩ (fun j σ H' _ h => by obtain ⟨_, _, _, _, _, rfl, _⟩ := h; exact SqL.of (g1 _ _ eu)) ?_ ?_⟩
          · rintro l y σ H2 hy ⟨o9, o10, o11, x', rfl, rfl, x1', x8', xw'⟩
            obtain ⟨e, he, a, rfl, _, ea⟩ := ru.at_ hy
            have e2 := m2 _ memT w memw e (List.mem_of_getElem? he)
            refine ⟨a, _, rfl, SqT.of (g1 _ _ ea), rfl, _, _, rfl, _, _, rfl, _, _, rfl, rfl, _, rfl, _, rfl, _, _, rfl, _, _, _, _, rfl, rfl, Int.le_trans x1' (le_max1 _ _), max_le x8' (by omega), fun u hu => ?_⟩
            rw [take_snocG he] at hu
            rcases List.mem_append.mp hu with z | z
            · exact Int.le_trans (xw' u z) (le_max1 _ _)
            · rw [List.mem_singleton.mp z]; exact le_max2 _ _
          · rintro σ H2 ⟨o9, o10, o11, x', rfl, rfl, x1', x8', xw'⟩
            rw [ru.1, List.take_length] at xw'
            refine ⟨_, _, _, _, x', rfl, rfl, by omega, x8', fun w' hw' => ?_⟩
            rw [take_snocG hw] at hw'
            rcases List.mem_append.mp hw' with z | z
            · exact fun u hu => Int.le_trans (xw w' z u hu) x1'
            · rw [List.mem_singleton.mp z]; exact xw'
        · rintro σ H2 ⟨o8, o9, o10, o11, x, rfl, rfl, x1, x8, xw⟩
          rw [rw'.1, List.take_length] at xw
          refine ⟨_, _, _, _, _, x, rfl, rfl, ⟨by omega, x8, fun r hr => ?_, fun ws hws => ?_⟩⟩
          · rw [take_snocG hr'] at hr
            rcases List.mem_append.mp hr with z | z
            · have := en1.run r z; omega
            · rw [List.mem_singleton.mp z]; omega
          · rw [take_snocG hTk] at hws
            rcases List.mem_append.mp hws with z | z
            · exact fun w hw u hu => by have := en1.way ws z w hw u hu; omega
            · rw [List.mem_singleton.mp z]; exact xw
      · rintro σ H2 ⟨o7, o8, o9, o10, o11, m, rfl, rfl, en1⟩
        rw [Int.toNat_natCast, lr] at en1
        exact hN _ _ ⟨_, _, _, _, _, m, rfl, rfl, en1⟩
    rintro σ H2 ⟨o7, o8, o9, o10, o11, m, rfl, rfl, en1⟩
    have mx := fm (a := c.fdiv (0 + (i : Int) + 1)) (n := 2) (by decide)
    refine ⟨_, rfl, _, rfl, _, rfl, _, _, rfl, rfl, _, _, rfl, rfl, ⟨by omega, PyProof.noPylong_small (by omega)⟩, _, _, rfl, rfl, (by show (2 : Int) ≠ 0; decide), _, _, rfl, rfl, _, _, rfl, _, rfl, _, rfl, _, rfl, ln, _, _, _, rfl, rfl, SqL.of (g1 _ _ en), hn, td, _, rfl, DPut.k (k := .inr nm) eD dl, ?_⟩
    have b1 := min_ge (a := m + (c.fdiv (0 + (i : Int) + 1)).fmod 2) en1.hi (by omega)
    have b2 := min_le8 (m + (c.fdiv (0 + (i : Int) + 1)).fmod 2)
    generalize (if m + (c.fdiv (0 + (i : Int) + 1)).fmod 2 < 8 then m + (c.fdiv (0 + (i : Int) + 1)).fmod 2 else 8) = m' at b1 b2 ⊢
    obtain ⟨D', eD', hD'⟩ := fin m' ⟨by have := en1.lo; omega, b2, fun r hr => by have := en1.run r hr; omega, fun ws hws w hw u hu => by have := en1.way ws hws w hw u hu; omega⟩
    exact ⟨_, _, _, _, _, _, _, D', rfl, sUpd g1 ntd _, by rw [upd_same, eD'], hD'⟩
  · rintro σ H1 ⟨o5, o6, o7, o8, o9, o10, o11, D, rfl, g1, eD, hD⟩
    rcases hD with ⟨h, _⟩ | ⟨h, _⟩ | ⟨_, m0, m1, rfl, h0, h1⟩
    · exact absurd h (by decide)
    · exact absurd h (by decide)
    · have k0 := (E8 _ _).mp h0
      have k1 := (E8 _ _).mp h1
      exact ⟨_, rfl, q td m0 m1 H1 g1 ntd eD ⟨⟨k0.1, k0.2.1⟩, ⟨k1.1, k1.2.1⟩, k0.2.2.1, k1.2.2.1, fun ws hws w hw u hu => ⟨k0.2.2.2 ws hws w hw u hu, k1.2.2.2 ws hws w hw u hu⟩⟩⟩

theorem sc_law_arcs : FnScope ["_law_cells", "_law_times", "_law_far", "_law_arcs_here", "_law_cell", "_law_p", "_law_q", "_law_slack"] ["_law_cells", "_law_times", "_law_far"] (defScope s_law_arcs) := ⟨rfl, rfl, rfl, by decide +kernel, rfl, by decide +kernel, by decide +kernel⟩
set_option maxHeartbeats 4000000 in
theorem ok_law_arcs {dV : Value} (F : FunD K "_law_arcs" "_law_arcs" s_law_arcs dV f fd) (B : Bn K mg c_Net f_Net_init)  : FnOk P w K mg base CX0 1 f fd ["_law_cells", "_law_times", "_law_far"] spArcsU := by
  have sc := sc_law_arcs
  refine F.ok sc (fun vs H Q E h => ?_) (fun cdv A outer s H vs Q E hr h => ?_)
  · obtain ⟨lc, ls, cs, S, f, rfl, _⟩ := h
    rfl
  obtain ⟨lc, ls, cs, S, f, rfl, ec, c63, es, s1, s100, hf, ht, q⟩ := h
  refine ⟨_, (pss_cons (ps_set (i := 3) sc.nd rfl (Or.inl rfl) (pe_lst pa_nil)) (pss_cons (ps_for PassesOwn.never rfl (pi_list (pv 0)) (pg_name (i := 4) sc.nd rfl (Or.inl rfl)) (pss_cons (ps_set (i := 5) sc.nd rfl (Or.inl rfl) (pe_op op_modN (pv 4) (pe_callB call_len_seq rfl B.b_len boot_len (pa_cons (pv 1) pa_nil)))) (pss_cons (ps_set (i := 6) sc.nd rfl (Or.inl rfl) (pe_op op_modN (pe_op op_fdivB (pv 4) (pe_callB call_len_seq rfl B.b_len boot_len (pa_cons (pv 1) pa_nil))) (pe_callB call_len_seq rfl B.b_len boot_len (pa_cons (pv 1) pa_nil)))) (pss_cons (ps_set (i := 7) sc.nd rfl (Or.inl rfl) (pe_op op_mulB (pe_op op_modN (pe_op op_fdivB (pv 4) (pe_op op_mulB (pe_callB call_len_seq rfl B.b_len boot_len (pa_cons (pv 1) pa_nil)) (pe_callB call_len_seq rfl B.b_len boot_len (pa_cons (pv 1) pa_nil)))) pe_int) (pv 2))) (pss_one (ps_expr (pe_bm PySem.F.plainAttrs_list PySem.F.slot_list_append PySem.F.type_list_append mt_append (pv 3) (pa_cons (pe_tup (pa_cons (pv 5) (pa_cons (pv 6) (pa_cons (pe_op op_sub (pe_op op_sub (pe_ix ix_list (pv 1) (pv 6) (fun _ _ => rfl)) (pe_ix ix_list (pv 1) (pv 5) (fun _ _ => rfl))) (pv 7)) pa_nil)))) pa_nil)))))))) (pss_one (ps_ret (pv 3))))), ?_⟩
  have sl : sizeLine = 16777216 := sizeLine_eq
  refine ⟨(by show 0 ≤ sizeLine; decide), fun l nl => ?_⟩
  have g0 := same_new nl (.lst [])
  have e0 : upd H l (.lst []) l = some (.lst []) := upd_same
  generalize upd H l (.lst []) = H0 at g0 e0 ⊢
  have lS : (S.map V.int).length = S.length := List.length_map _
  refine ⟨_, rfl, lc, rfl, ⟨_, SqL.of (g0 _ _ ec)⟩, for_list (xs := cs.map V.int) (fun i σ H' => ∃ (o4 o5 o6 o7 : Option V) (A : List Ky), σ = [some (.ref lc), some (.ref ls), some (.int f), some (.ref l), o4, o5, o6, o7] ∧ Same H H' ∧ TupsA H' l A ∧ A.length = i ∧ ∀ k ∈ A, ArcOk (S.length : Int) k ∧ KeptA S k) ⟨none, none, none, none, [], rfl, g0, ⟨[], e0, Ref2.nil⟩, rfl, fun k hk => by cases hk⟩ (fun i σ H' _ ⟨_, _, _, _, _, _, g, _⟩ => SqL.of (g _ _ ec)) ?_ ?_⟩
  · rintro i y σ H1 hy ⟨o4, o5, o6, o7, A, rfl, g1, ⟨bs, eb, rb⟩, lA, okA⟩
    have il : i < cs.length := by have := (List.getElem?_eq_some_iff.mp hy).1; rw [List.length_map] at this; exact this
    rw [List.getElem?_map] at hy
    obtain ⟨x, hx, rfl⟩ := Option.map_eq_some_iff.mp hy
    have es1 := g1 _ _ es
    have mp := fm (a := x) (n := (S.length : Int)) (by omega)
    have mq := fm (a := x.fdiv (S.length : Int)) (n := (S.length : Int)) (by omega)
    have sq1 : 1 ≤ (S.length : Int) * (S.length : Int) := Int.mul_pos (by omega) (by omega)
    have sq2 : (S.length : Int) * (S.length : Int) ≤ 100 * 100 := Int.mul_le_mul (by omega) (by omega) (by omega) (by decide)
    have mk := fm (a := x.fdiv ((S.length : Int) * (S.length : Int))) (n := 5) (by decide)
    have hp := List.getElem?_eq_getElem (show (x.fmod (S.length : Int)).toNat < S.length by omega)
    have hq := List.getElem?_eq_getElem (show ((x.fdiv (S.length : Int)).fmod (S.length : Int)).toNat < S.length by omega)
    have tp := ht _ (List.getElem_mem (show (x.fmod (S.length : Int)).toNat < S.length by omega))
    have tq := ht _ (List.getElem_mem (show ((x.fdiv (S.length : Int)).fmod (S.length : Int)).toNat < S.length by omega))
    have ap : atI (S.map V.int) (x.fmod (S.length : Int)) = some (.int (S[(x.fmod (S.length : Int)).toNat])) := by
      have := atI_nat (map_at (f := V.int) hp)
      rw [Int.toNat_of_nonneg mp.1] at this
      exact this
    have aq : atI (S.map V.int) ((x.fdiv (S.length : Int)).fmod (S.length : Int)) = some (.int (S[((x.fdiv (S.length : Int)).fmod (S.length : Int)).toNat])) := by
      have := atI_nat (map_at (f := V.int) hq)
      rw [Int.toNat_of_nonneg mq.1] at this
      exact this
    have gp := getDo (d := 0) hp
    have gq := getDo (d := 0) hq
    generalize S[(x.fmod (S.length : Int)).toNat]'(by omega) = vp at hp tp ap gp
    generalize S[((x.fdiv (S.length : Int)).fmod (S.length : Int)).toNat]'(by omega) = vq at hq tq aq gq
    have sz : (bs.map V.ref).length < sizeLine := by rw [List.length_map, rb.1]; omega
    refine ⟨_, rfl, _, rfl, ls, _, rfl, .inl (SqL.of es1), ?_⟩
    rw [lS]
    refine ⟨_, _, rfl, rfl, (by omega), _, rfl, _, rfl, ls, _, rfl, .inl (SqL.of es1), ?_⟩
    rw [lS]
    refine ⟨_, _, rfl, rfl, ⟨by omega, PyProof.noPylong_small (by omega)⟩, _, rfl, ls, _, rfl, .inl (SqL.of es1), ?_⟩
    rw [lS]
    refine ⟨_, _, rfl, rfl, (by omega), _, rfl, _, rfl, ls, _, rfl, .inl (SqL.of es1), _, rfl, ls, _, rfl, .inl (SqL.of es1), ?_⟩
    rw [lS]
    refine ⟨_, _, rfl, rfl, IntMulOk.of_left (intBits_le_64 (by omega) (by omega)), _, _, rfl, rfl, ⟨by omega, PyProof.noPylong_small (by omega)⟩, _, _, rfl, rfl, (by show (5 : Int) ≠ 0; decide), _, rfl, _, _, rfl, rfl, IntMulOk.of_left (intBits_le_64 (by omega) (by omega)), ?_⟩
    refine ⟨_, rfl, .inl ⟨rfl, _, SqL.of eb⟩, _, rfl, _, rfl, _, rfl, _, rfl, ls, _, _, _, rfl, rfl, SqL.of es1, aq, _, rfl, _, rfl, ls, _, _, _, rfl, rfl, SqL.of es1, ap, _, _, rfl, rfl, _, rfl, _, _, rfl, rfl, (by show 3 ≤ sizeLine; decide), fun t nt => ⟨l, _, _, rfl, rfl, same_new nt _ _ _ eb, sz, ?_⟩⟩
    generalize (x.fdiv ((S.length : Int) * (S.length : Int))).fmod 5 = sk at mk nt ⊢
    have k0 : 0 ≤ sk * f ∧ sk * f ≤ 4 * f := by rcases hf with rfl | rfl <;> omega
    have f0 : 1 ≤ f ∧ f ≤ 10000019 := by rcases hf with rfl | rfl <;> omega
    have gt := same_new nt (.tup [.int (x.fmod (S.length : Int)), .int ((x.fdiv (S.length : Int)).fmod (S.length : Int)), .int (vq - vp - sk * f)])
    refine ⟨_, _, _, _, A ++ [[x.fmod (S.length : Int), (x.fdiv (S.length : Int)).fmod (S.length : Int), vq - vp - sk * f]], rfl, sUpd (g1.trans gt) nl _, tups_put (gt _ _ eb) (rb.imp fun a k q => gt _ _ q) upd_same, by rw [List.length_append]; simp; omega, fun k hk => ?_⟩
    rcases List.mem_append.mp hk with h | h
    · exact okA k h
    · rw [List.mem_singleton.mp h]
      refine ⟨⟨_, _, _, rfl, mp.1, mp.2, mq.1, mq.2, by omega, by omega⟩, _, _, _, rfl, ?_⟩
      rw [gp, gq]
      omega
  · rintro σ H1 ⟨o4, o5, o6, o7, A, rfl, g1, hA, lA, okA⟩
    rw [List.length_map] at lA
    exact ⟨_, rfl, q l A H1 g1 hA lA okA⟩

theorem sc_law_apart : FnScope ["_law_runs_here", "_law_cell", "_law_some", "_law_i", "_law_j"] ["_law_runs_here", "_law_cell"] (defScope s_law_apart) := ⟨rfl, rfl, rfl, by decide +kernel, rfl, by decide +kernel, by decide +kernel⟩
set_option maxHeartbeats 4000000 in
theorem ok_law_apart {dV : Value} (F : FunD K "_law_apart" "_law_apart" s_law_apart dV f fd) (B : Bn K mg c_Net f_Net_init) (D_law_mixed : Dx P w K mg base CX0 1 "_law_mixed" ["_law_cell", "_law_k"] [] spMixed) (D_law_meet : Dx P w K mg base CX0 1 "_law_meet" ["_law_one", "_law_other"] [] spMeet) : FnOk P w K mg base CX0 2 f fd ["_law_runs_here", "_law_cell"] spApartU := by
  have sc := sc_law_apart
  refine F.ok sc (fun vs H Q E h => ?_) (fun cdv A outer s H vs Q E hr h => ?_)
  · obtain ⟨rl, c, R, rfl, _⟩ := h
    rfl
  obtain ⟨rl, c, R, rfl, hR, r4, q⟩ := h
  refine ⟨_, (pss_cons (ps_set (i := 2) sc.nd rfl (Or.inl rfl) (pe_lst pa_nil)) (pss_cons (ps_for PassesOwn.never rfl (pi_range1 rfl B.b_range (pa_cons (pe_callB call_len_seq rfl B.b_len boot_len (pa_cons (pv 0) pa_nil)) pa_nil)) (pg_name (i := 3) sc.nd rfl (Or.inl rfl)) (pss_one (ps_for PassesOwn.never rfl (pi_range1 rfl B.b_range (pa_cons (pe_callB call_len_seq rfl B.b_len boot_len (pa_cons (pv 0) pa_nil)) pa_nil)) (pg_name (i := 4) sc.nd rfl (Or.inl rfl)) (pss_one (ps_if (PW.pt (pw_and (pt_cmpR op_ne (pv 3) (pv 4) (nomark _)) (pw_and (pt_not (pt_val (pcall0 D_law_meet hr (by decide) rfl (pa_cons (pe_ix ix_list (pv 0) (pv 3) (fun _ _ => rfl)) (pa_cons (pe_ix ix_list (pv 0) (pv 4) (fun _ _ => rfl)) pa_nil))))) (pw_and1 (pt_cmpR op_eq (pe_op op_modN (pcall0 D_law_mixed hr (by decide) rfl (pa_cons (pv 1) (pa_cons (pe_op op_add (pe_op op_mulB pe_int (pv 3)) (pv 4)) pa_nil))) pe_int) pe_int (nomark _)))))) (pss_one (ps_expr (pe_bm PySem.F.plainAttrs_list PySem.F.slot_list_append PySem.F.type_list_append mt_append (pv 2) (pa_cons (pe_tup (pa_cons (pv 3) (pa_cons (pv 4) pa_nil))) pa_nil)))) pss_nil))))) (pss_one (ps_ret (pv 2))))), ?_⟩
  have sl : sizeLine = 16777216 := sizeLine_eq
  obtain ⟨bs, er, rR⟩ := id hR
  have lr' : (bs.map V.ref).length = R.length := by rw [List.length_map, rR.1, List.length_map]
  have run : ∀ H' : Hp, Same H H' → ∀ i, i < R.length → ∃ t, atI (bs.map V.ref) (0 + (i : Int)) = some (.ref t) ∧ H' t = some (.tup ((rk (R.getD i (0, 0, 0))).map V.int)) := fun H' g i hi => by
    have hr := List.getElem?_eq_getElem hi
    obtain ⟨t, ht, et⟩ := rR.get (show (R.map rk)[i]? = some (rk R[i]) by rw [List.getElem?_map, hr]; rfl)
    rw [getDo hr]
    exact ⟨t, at_zero (map_at ht), g _ _ et⟩
  refine ⟨(by show 0 ≤ sizeLine; decide), fun l nl => ?_⟩
  have g0 := same_new nl (.lst [])
  have e0 : upd H l (.lst []) l = some (.lst []) := upd_same
  generalize upd H l (.lst []) = H0 at g0 e0 ⊢
  refine ⟨_, rfl, rl, _, rfl, .inl (SqL.of (g0 _ _ er)), _, rfl, by omega, by omega, for_range (fun i σ H' => ∃ (o3 o4 : Option V) (ps : List (Int × Int)), σ = [some (.ref rl), some (.int c), some (.ref l), o3, o4] ∧ Same H H' ∧ TupsA H' l (pairK ps) ∧ ps.length ≤ R.length * i ∧ (∀ p ∈ ps, 0 ≤ p.1 ∧ p.1 < (R.length : Int) ∧ 0 ≤ p.2 ∧ p.2 < (R.length : Int) ∧ p.1 ≠ p.2 ∧ meetF (R.getD p.1.toNat (0, 0, 0)) (R.getD p.2.toNat (0, 0, 0)) = false)) ⟨none, none, [], rfl, g0, ⟨[], e0, Ref2.nil⟩, Nat.zero_le _, fun p hp => by cases hp⟩ ?_ ?_⟩
  · rintro i σ H1 hi ⟨o3, o4, ps, rfl, g1, hP, pl, pok⟩
    rw [Int.toNat_natCast, lr'] at hi
    refine ⟨_, rfl, rl, _, rfl, .inl (SqL.of (g1 _ _ er)), _, rfl, by omega, by omega, for_range (fun j σ H' => ∃ (o4 : Option V) (ps : List (Int × Int)), σ = [some (.ref rl), some (.int c), some (.ref l), some (.int (0 + (i : Int))), o4] ∧ Same H H' ∧ TupsA H' l (pairK ps) ∧ ps.length ≤ R.length * i + j ∧ (∀ p ∈ ps, 0 ≤ p.1 ∧ p.1 < (R.length : Int) ∧ 0 ≤ p.2 ∧ p.2 < (R.length : Int) ∧ p.1 ≠ p.2 ∧ meetF (R.getD p.1.toNat (0, 0, 0)) (R.getD p.2.toNat (0, 0, 0)) = false)) ⟨_, ps, rfl, g1, hP, pl, pok⟩ ?_ ?_⟩
    · rintro j σ H2 hj ⟨o4, ps, rfl, g2, ⟨as, ea, ra⟩, pl, pok⟩
      rw [Int.toNat_natCast, lr'] at hj
      obtain ⟨ti, ai, eti⟩ := run H2 g2 i hi
      obtain ⟨tj, aj, etj⟩ := run H2 g2 j hj
      have skip : ∃ (o4 : Option V) (ps' : List (Int × Int)), [some (V.ref rl), some (V.int c), some (V.ref l), some (V.int (0 + (i : Int))), some (V.int (0 + (j : Int)))] = [some (.ref rl), some (.int c), some (.ref l), some (.int (0 + (i : Int))), o4] ∧ Same H H2 ∧ TupsA H2 l (pairK ps') ∧ ps'.length ≤ R.length * i + (j + 1) ∧ (∀ p ∈ ps', 0 ≤ p.1 ∧ p.1 < (R.length : Int) ∧ 0 ≤ p.2 ∧ p.2 < (R.length : Int) ∧ p.1 ≠ p.2 ∧ meetF (R.getD p.1.toNat (0, 0, 0)) (R.getD p.2.toNat (0, 0, 0)) = false) := ⟨_, ps, rfl, g2, ⟨as, ea, ra⟩, by omega, pok⟩
      refine ⟨_, rfl, _, rfl, rfl, _, rfl, n2I (fun c1 => ?_) (fun c1 => skip)⟩
      refine ⟨_, rfl, _, rfl, rl, _, _, _, rfl, rfl, SqL.of (g2 _ _ er), ai, _, rfl, _, rfl, rl, _, _, _, rfl, rfl, SqL.of (g2 _ _ er), aj, ti, tj, _, _, rfl, eti, etj, _, rfl, ?_⟩
      cases hm : meetF (R.getD i (0, 0, 0)) (R.getD j (0, 0, 0)) with
      | true => exact iteF skip
      | false =>
        refine iteT ⟨_, rfl, _, rfl, _, _, rfl, rfl, IntMulOk.of_left (by decide), _, rfl, _, _, rfl, rfl, _, _, rfl, fun v v0 => ⟨_, _, rfl, rfl, (by show (4 : Int) ≠ 0; decide), rfl, _, rfl, d2 (fun c2 => ?_) (fun c2 => skip)⟩⟩
        have sz : (as.map V.ref).length < sizeLine := by
          have : R.length * i ≤ 4 * 4 := Nat.mul_le_mul r4 (by omega)
          rw [List.length_map, ra.1]; unfold pairK; rw [List.length_map]; omega
        refine ⟨_, rfl, .inl ⟨rfl, _, SqL.of ea⟩, _, rfl, _, rfl, (by show 2 ≤ sizeLine; decide), fun t nt => ⟨l, _, _, rfl, rfl, same_new nt _ _ _ ea, sz, ?_⟩⟩
        have gt := same_new nt (.tup [.int (0 + (i : Int)), .int (0 + (j : Int))])
        refine ⟨_, ps ++ [(0 + (i : Int), 0 + (j : Int))], rfl, sUpd (g2.trans gt) nl _, ?_, by rw [List.length_append]; simp; omega, fun p hp => ?_⟩
        · unfold pairK
          rw [List.map_append]
          exact tups_put (gt _ _ ea) (ra.imp fun a k q => gt _ _ q) upd_same
        · rcases List.mem_append.mp hp with h | h
          · exact pok p h
          · rw [List.mem_singleton.mp h]
            refine ⟨by show (0 : Int) ≤ 0 + (i : Int); omega, by show 0 + (i : Int) < _; omega, by show (0 : Int) ≤ 0 + (j : Int); omega, by show 0 + (j : Int) < _; omega, c1, ?_⟩
            show meetF (R.getD (0 + (i : Int)).toNat (0, 0, 0)) (R.getD (0 + (j : Int)).toNat (0, 0, 0)) = false
            rw [Int.zero_add, Int.zero_add, Int.toNat_natCast, Int.toNat_natCast]
            exact hm
    · rintro σ H2 ⟨o4, ps, rfl, g2, hP, pl, pok⟩
      rw [Int.toNat_natCast, lr'] at pl
      exact ⟨_, _, ps, rfl, g2, hP, by rw [Nat.mul_add, Nat.mul_one]; exact pl, pok⟩
  · rintro σ H1 ⟨o3, o4, ps, rfl, g1, hP, pl, pok⟩
    rw [Int.toNat_natCast, lr'] at pl
    have : R.length * R.length ≤ 4 * 4 := Nat.mul_le_mul r4 r4
    exact ⟨_, rfl, q l ps H1 g1 hP (by omega) pok⟩

theorem sc_law_case : FnScope ["_law_runs_here", "_law_cell", "_law_picks", "_law_orders", "_law_i", "_law_j"] ["_law_runs_here", "_law_cell"] (defScope s_law_case) := ⟨rfl, rfl, rfl, by decide +kernel, rfl, by decide +kernel, by decide +kernel⟩
set_option maxHeartbeats 4000000 in
theorem ok_law_case {dV : Value} (F : FunD K "_law_case" "_law_case" s_law_case dV f fd) (B : Bn K mg c_Net f_Net_init) (D_law_mixed : Dx P w K mg base CX0 1 "_law_mixed" ["_law_cell", "_law_k"] [] spMixed) : FnOk P w K mg base CX0 2 f fd ["_law_runs_here", "_law_cell"] spCaseU := by
  have sc := sc_law_case
  refine F.ok sc (fun vs H Q E h => ?_) (fun cdv A outer s H vs Q E hr h => ?_)
  · obtain ⟨rl, c, R, rfl, _⟩ := h
    rfl
  obtain ⟨rl, c, R, rfl, hR, r4, r01, q⟩ := h
  refine ⟨_, (pss_cons (ps_set (i := 2) sc.nd rfl (Or.inl rfl) (pe_lst pa_nil)) (pss_cons (ps_set (i := 3) sc.nd rfl (Or.inl rfl) (pe_lst pa_nil)) (pss_cons (ps_for PassesOwn.never rfl (pi_range1 rfl B.b_range (pa_cons (pe_callB call_len_seq rfl B.b_len boot_len (pa_cons (pv 0) pa_nil)) pa_nil)) (pg_name (i := 4) sc.nd rfl (Or.inl rfl)) (pss_cons (ps_expr (pe_bm PySem.F.plainAttrs_list PySem.F.slot_list_append PySem.F.type_list_append mt_append (pv 2) (pa_cons (pe_ix ix_list (pe_lst (pa_cons pe_non (pa_cons (pe_ix ix_tup (pe_ix ix_list (pv 0) (pv 4) (fun _ _ => rfl)) pe_int (fun _ _ => rfl)) pa_nil))) (pe_op op_modN (pcall0 D_law_mixed hr (by decide) rfl (pa_cons (pv 1) (pa_cons (pv 4) pa_nil))) pe_int) (fun _ _ => rfl)) pa_nil))) (pss_one (ps_for PassesOwn.never rfl (pi_range1 rfl B.b_range (pa_cons (pe_callB call_len_seq rfl B.b_len boot_len (pa_cons (pv 0) pa_nil)) pa_nil)) (pg_name (i := 5) sc.nd rfl (Or.inl rfl)) (pss_one (ps_if (PW.pt (pw_and (pt_cmpR op_le (pe_ix ix_tup (pe_ix ix_list (pv 0) (pv 4) (fun _ _ => rfl)) pe_int (fun _ _ => rfl)) (pe_ix ix_tup (pe_ix ix_list (pv 0) (pv 5) (fun _ _ => rfl)) pe_int (fun _ _ => rfl)) (nomark _)) (pw_and1 (pt_cmpR op_eq (pe_op op_modN (pcall0 D_law_mixed hr (by decide) rfl (pa_cons (pv 1) (pa_cons (pe_op op_add (pe_op op_add pe_int (pe_op op_mulB pe_int (pv 4))) (pv 5)) pa_nil))) pe_int) pe_int (nomark _))))) (pss_one (ps_expr (pe_bm PySem.F.plainAttrs_list PySem.F.slot_list_append PySem.F.type_list_append mt_append (pv 3) (pa_cons (pe_tup (pa_cons (pv 4) (pa_cons (pv 5) pa_nil))) pa_nil)))) pss_nil)))))) (pss_one (ps_ret (pe_tup (pa_cons (pv 2) (pa_cons (pv 3) pa_nil)))))))), ?_⟩
  have sl : sizeLine = 16777216 := sizeLine_eq
  obtain ⟨bs, er, rR⟩ := id hR
  have lr' : (bs.map V.ref).length = R.length := by rw [List.length_map, rR.1, List.length_map]
  have run : ∀ H' : Hp, Same H H' → ∀ i, i < R.length → ∃ t, atI (bs.map V.ref) (0 + (i : Int)) = some (.ref t) ∧ H' t = some (.tup ((rk (R.getD i (0, 0, 0))).map V.int)) := fun H' g i hi => by
    have hr := List.getElem?_eq_getElem hi
    obtain ⟨t, ht, et⟩ := rR.get (show (R.map rk)[i]? = some (rk R[i]) by rw [List.getElem?_map, hr]; rfl)
    rw [getDo hr]
    exact ⟨t, at_zero (map_at ht), g _ _ et⟩
  refine ⟨(by show 0 ≤ sizeLine; decide), fun pl npl => ?_⟩
  have g0 := same_new npl (.lst [])
  have e0 : upd H pl (.lst []) pl = some (.lst []) := upd_same
  generalize upd H pl (.lst []) = H0 at g0 e0 ⊢
  refine ⟨(by show 0 ≤ sizeLine; decide), fun ol nol => ?_⟩
  have pne : pl ≠ ol := fun e => by rw [e, nol] at e0; cases e0
  have nol0 := g0.free nol
  have g1' := same_new nol (.lst [])
  have e1 : upd H0 ol (.lst []) ol = some (.lst []) := upd_same
  have e0' := g1' _ _ e0
  have g1 := g0.trans g1'
  generalize upd H0 ol (.lst []) = H1 at g1 e0' e1 ⊢
  clear g0 e0 g1' nol
  refine ⟨_, rfl, rl, _, rfl, .inl (SqL.of (g1 _ _ er)), _, rfl, by omega, by omega, for_range (fun i σ H' => ∃ (o4 o5 : Option V) (P : Pk) (ps : List (Int × Int)), σ = [some (.ref rl), some (.int c), some (.ref pl), some (.ref ol), o4, o5] ∧ Same H H' ∧ H' pl = some (.lst (P.map pkV)) ∧ TupsA H' ol (pairK ps) ∧ P.length = i ∧ (∀ (k j : Nat) (r : Rn), P[k]? = some (some j) → R[k]? = some r → r.2.2 = (j : Int)) ∧ ps.length ≤ R.length * i ∧ ∀ p ∈ ps, 0 ≤ p.1 ∧ p.1 < (R.length : Int) ∧ 0 ≤ p.2 ∧ p.2 < (R.length : Int) ∧ (R.getD p.1.toNat (0, 0, 0)).2.1 ≤ (R.getD p.2.toNat (0, 0, 0)).1) ⟨none, none, [], [], rfl, g1, e0', ⟨[], e1, Ref2.nil⟩, rfl, fun k j r h => by simp at h, Nat.zero_le _, fun p hp => by cases hp⟩ ?_ ?_⟩
  · rintro i σ H2 hi ⟨o4, o5, P, ps, rfl, g2, eP, hO, lP, okP, pl', pok⟩
    rw [Int.toNat_natCast, lr'] at hi
    obtain ⟨ti, ai, eti⟩ := run H2 g2 i hi
    have hr' := List.getElem?_eq_getElem hi
    have rd := getDo (d := (0, 0, 0)) hr'
    have r22 := r01 _ (List.getElem_mem hi)
    rw [← rd] at r22
    have szP : (P.map pkV).length < sizeLine := by rw [List.length_map]; omega
    refine ⟨_, rfl, .inl ⟨rfl, _, SqL.of eP⟩, _, rfl, _, rfl, rl, _, _, _, rfl, rfl, SqL.of (g2 _ _ er), ai, ti, _, _, _, rfl, rfl, SqT.of eti, rfl, (by show 2 ≤ sizeLine; decide), fun p np => ⟨_, rfl, _, rfl, _, _, rfl, fun v v0 => ?_⟩⟩
    have mv := fm (a := v) (n := 2) (by decide)
    obtain ⟨x, hx, ox⟩ : ∃ x : Option Nat, atI [V.non, V.int (R.getD i (0, 0, 0)).2.2] (v.fmod 2) = some (pkV x) ∧ ∀ j : Nat, x = some j → (R.getD i (0, 0, 0)).2.2 = (j : Int) := by
      obtain e | e : v.fmod 2 = 0 ∨ v.fmod 2 = 1 := by omega
      · rw [e]; exact ⟨none, rfl, fun j h => by cases h⟩
      · rw [e]
        refine ⟨some (R.getD i (0, 0, 0)).2.2.toNat, ?_, fun j h => ?_⟩
        · show some (V.int _) = some (V.int _)
          rw [Int.toNat_of_nonneg (by omega)]
        · injection h with h
          omega
    have gp := same_new np (.lst [.non, .int (R.getD i (0, 0, 0)).2.2])
    have g3 := g2.trans gp
    have eP3 := gp _ _ eP
    refine ⟨_, _, rfl, rfl, (by show (2 : Int) ≠ 0; decide), p, _, _, _, rfl, rfl, SqL.of upd_same, hx, pl, _, _, rfl, rfl, eP3, szP, ?_⟩
    have hO3 := (hO.same gp).upd (ys := P.map pkV ++ [pkV x]) eP3 (fun e => pne e.symm)
    have g4 := sUpd g3 npl (.lst (P.map pkV ++ [pkV x]))
    have eP4 : upd (upd H2 p (.lst [.non, .int (R.getD i (0, 0, 0)).2.2])) pl (.lst (P.map pkV ++ [pkV x])) pl = some (.lst ((P ++ [x]).map pkV)) := by rw [upd_same, List.map_append]; rfl
    generalize upd (upd H2 p (.lst [.non, .int (R.getD i (0, 0, 0)).2.2])) pl (.lst (P.map pkV ++ [pkV x])) = H3 at hO3 g4 eP4 ⊢
    have okP' : ∀ (k j : Nat) (r : Rn), (P ++ [x])[k]? = some (some j) → R[k]? = some r → r.2.2 = (j : Int) := fun k j r h1 h2 => by
      by_cases ck : k < P.length
      · rw [List.getElem?_append_left ck] at h1; exact okP k j r h1 h2
      · have kl := (List.getElem?_eq_some_iff.mp h1).1
        rw [List.length_append] at kl
        have : k = i := by simp at kl; omega
        subst this
        rw [List.getElem?_append_right (by omega)] at h1
        have : k - P.length = 0 := by omega
        rw [this] at h1
        replace h1 : some x = some (some j) := h1
        injection h1 with h1
        have := ox j h1
        rw [getDo h2] at this
        exact this
    clear eP3 hO eP gp g3 np eti
    refine ⟨_, rfl, rl, _, rfl, .inl (SqL.of (g4 _ _ er)), _, rfl, by omega, by omega, for_range (fun j σ H' => ∃ (o5 : Option V) (ps : List (Int × Int)), σ = [some (.ref rl), some (.int c), some (.ref pl), some (.ref ol), some (.int (0 + (i : Int))), o5] ∧ Same H H' ∧ H' pl = some (.lst ((P ++ [x]).map pkV)) ∧ TupsA H' ol (pairK ps) ∧ ps.length ≤ R.length * i + j ∧ ∀ p ∈ ps, 0 ≤ p.1 ∧ p.1 < (R.length : Int) ∧ 0 ≤ p.2 ∧ p.2 < (R.length : Int) ∧ (R.getD p.1.toNat (0, 0, 0)).2.1 ≤ (R.getD p.2.toNat (0, 0, 0)).1) ⟨_, ps, rfl, g4, eP4, hO3, pl', pok⟩ ?_ ?_⟩
    · clear pok pl' hO3 eP4 g4
      rintro j σ H4 hj ⟨o5, ps, rfl, g5, eP5, ⟨as, ea, ra⟩, pl5, pok⟩
      rw [Int.toNat_natCast, lr'] at hj
      obtain ⟨ti', ai', eti⟩ := run H4 g5 i hi
      obtain ⟨tj, aj, etj⟩ := run H4 g5 j hj
      refine ⟨_, rfl, _, rfl, rl, _, _, _, rfl, rfl, SqL.of (g5 _ _ er), ai', ti', _, _, _, rfl, rfl, SqT.of eti, rfl, _, rfl, _, rfl, rl, _, _, _, rfl, rfl, SqL.of (g5 _ _ er), aj, tj, _, _, _, rfl, rfl, SqT.of etj, rfl, _, _, rfl, rfl, _, rfl, d2 (fun c1 => ?_) (fun c1 => ⟨_, ps, rfl, g5, eP5, ⟨as, ea, ra⟩, by omega, pok⟩)⟩
      refine ⟨_, rfl, _, rfl, _, _, rfl, rfl, IntMulOk.of_left (by decide), _, _, rfl, rfl, _, rfl, _, _, rfl, rfl, _, _, rfl, fun v v0 => ⟨_, _, rfl, rfl, (by show (2 : Int) ≠ 0; decide), rfl, _, rfl, d2 (fun c2 => ?_) (fun c2 => ⟨_, ps, rfl, g5, eP5, ⟨as, ea, ra⟩, by omega, pok⟩)⟩⟩
      have sz : (as.map V.ref).length < sizeLine := by
        have : R.length * i ≤ 4 * 4 := Nat.mul_le_mul r4 (by omega)
        rw [List.length_map, ra.1]; unfold pairK; rw [List.length_map]; omega
      refine ⟨_, rfl, .inl ⟨rfl, _, SqL.of ea⟩, _, rfl, _, rfl, (by show 2 ≤ sizeLine; decide), fun t nt => ⟨ol, _, _, rfl, rfl, same_new nt _ _ _ ea, sz, ?_⟩⟩
      have gt := same_new nt (.tup [.int (0 + (i : Int)), .int (0 + (j : Int))])
      refine ⟨_, ps ++ [(0 + (i : Int), 0 + (j : Int))], rfl, sUpd (g5.trans gt) nol0 _, ?_, ?_, by rw [List.length_append]; simp; omega, fun p hp => ?_⟩
      · rw [upd_ne pne]; exact gt _ _ eP5
      · unfold pairK
        rw [List.map_append]
        exact tups_put (gt _ _ ea) (ra.imp fun a k q => gt _ _ q) upd_same
      · rcases List.mem_append.mp hp with h | h
        · exact pok p h
        · rw [List.mem_singleton.mp h]
          refine ⟨by show (0 : Int) ≤ 0 + (i : Int); omega, by show 0 + (i : Int) < _; omega, by show (0 : Int) ≤ 0 + (j : Int); omega, by show 0 + (j : Int) < _; omega, ?_⟩
          show (R.getD (0 + (i : Int)).toNat (0, 0, 0)).2.1 ≤ (R.getD (0 + (j : Int)).toNat (0, 0, 0)).1
          rw [Int.zero_add, Int.zero_add, Int.toNat_natCast, Int.toNat_natCast]
          exact c1
    · rintro σ H4 ⟨o5, ps, rfl, g5, eP5, hO5, pl5, pok⟩
      rw [Int.toNat_natCast, lr'] at pl5
      exact ⟨_, _, P ++ [x], ps, rfl, g5, eP5, hO5, by rw [List.length_append, lP]; rfl, okP', by rw [Nat.mul_add, Nat.mul_one]; exact pl5, pok⟩
  · rintro σ H2 ⟨o4, o5, P, ps, rfl, g2, eP, hO, lP, okP, pl', pok⟩
    rw [Int.toNat_natCast, lr'] at lP pl'
    have : R.length * R.length ≤ 4 * 4 := Nat.mul_le_mul r4 r4
    refine ⟨_, rfl, _, rfl, (by show 2 ≤ sizeLine; decide), fun t nt => ?_⟩
    have gt := same_new nt (.tup [.ref pl, .ref ol])
    exact q t P ps _ (g2.trans gt) ⟨pl, ol, upd_same, gt _ _ eP, hO.same gt⟩ ⟨lP, okP, by omega, pok⟩

theorem sc_law_built : FnScope ["_law_script", "_law_at", "_law_many", "_law_far", "_law_runs_here", "_law_names_here", "_law_cells", "_law_heats_here", "_law_tasks", "_law_i", "_law_more", "_law_times", "_law_k"] ["_law_script", "_law_at", "_law_many", "_law_far"] (defScope s_law_built) := ⟨rfl, rfl, rfl, by decide +kernel, rfl, by decide +kernel, by decide +kernel⟩
set_option maxHeartbeats 4000000 in
theorem ok_law_built {dV : Value} (F : FunD K "_law_built" "_law_built" s_law_built dV f fd) (B : Bn K mg c_Net f_Net_init) (D_law_cell_at : Dx P w K mg base CX0 1 "_law_cell_at" ["_law_script", "_law_k"] [] (spCell K)) (D_law_names : Dx P w K mg base CX0 2 "_law_names" ["_law_cell"] [] spNamesB) (D_law_runs : Dx P w K mg base CX0 2 "_law_runs" ["_law_script", "_law_at", "_law_many", "_law_far"] [] (spRunsB K)) (D_law_heats : Dx P w K mg base CX0 2 "_law_heats" ["_law_runs_here", "_law_cells", "_law_by"] [] spHeatsB) (D_law_task : Dx P w K mg base CX0 2 "_law_task" ["_law_run", "_law_cell", "_law_more", "_law_names_here", "_law_heats_here"] [] spTaskB) (D_law_tools : Dx P w K mg base CX0 2 "_law_tools" ["_law_runs_here", "_law_tasks", "_law_names_here", "_law_cell"] [] spToolsB) : FnOk P w K mg base CX0 3 f fd ["_law_script", "_law_at", "_law_many", "_law_far"] (spBuilt K) := by
  have sc := sc_law_built
  refine F.ok sc (fun vs H Q E h => ?_) (fun cdv A outer s H vs Q E hr h => ?_)
  · obtain ⟨a, ns, at_, m, f, rfl, _⟩ := h
    rfl
  obtain ⟨a, ns, at_, m, f, rfl, hS, h0, h9, m1, m4, hf, q⟩ := h
  refine ⟨_, (pss_cons (ps_set (i := 4) sc.nd rfl (Or.inl rfl) (pcall0 D_law_runs hr (by decide) rfl (pa_cons (pv 0) (pa_cons (pv 1) (pa_cons (pv 2) (pa_cons (pv 3) pa_nil)))))) (pss_cons (ps_set (i := 5) sc.nd rfl (Or.inl rfl) (pcall0 D_law_names hr (by decide) rfl (pa_cons (pcall0 D_law_cell_at hr (by decide) rfl (pa_cons (pv 0) (pa_cons pe_int pa_nil))) pa_nil))) (pss_cons (ps_compH (hd := none) (own := "_law_i") (ys := ["_law_script", "_law_at"]) (js := [0, 1]) sc.nd (i := 6) rfl rfl hr.hd (cok (atc (atc atn)) (.cons rfl (.cons rfl .nil)) (by decide) rfl rfl rfl rfl rfl rfl rfl rfl) (pi_rangeH rfl B.b_range (pa_cons (pv 2) pa_nil)) (fun C fp s H => (pcall0 D_law_cell_at hr (by decide) rfl (pa_cons (pv 1) (pa_cons (pe_op op_add (pe_op op_add (pv 2) (pe_op op_mulB pe_int (pv 0))) pe_int) pa_nil))))) (pss_cons (ps_set (i := 7) sc.nd rfl (Or.inl rfl) (pe_lst (pa_cons (pcall0 D_law_heats hr (by decide) rfl (pa_cons (pv 4) (pa_cons (pv 6) (pa_cons pe_int pa_nil)))) (pa_cons (pcall0 D_law_heats hr (by decide) rfl (pa_cons (pv 4) (pa_cons (pv 6) (pa_cons pe_int pa_nil)))) pa_nil)))) (pss_cons (ps_set (i := 8) sc.nd rfl (Or.inl rfl) (pe_lst pa_nil)) (pss_cons (ps_for PassesOwn.never rfl (pi_range1 rfl B.b_range (pa_cons (pv 2) pa_nil)) (pg_name (i := 9) sc.nd rfl (Or.inl rfl)) (pss_cons (ps_set (i := 10) sc.nd rfl (Or.inl rfl) (pcall0 D_law_cell_at hr (by decide) rfl (pa_cons (pv 0) (pa_cons (pe_op op_add (pe_op op_add (pv 1) (pe_op op_mulB pe_int (pv 9))) pe_int) pa_nil)))) (pss_one (ps_expr (pe_bm PySem.F.plainAttrs_list PySem.F.slot_list_append PySem.F.type_list_append mt_append (pv 8) (pa_cons (pcall0 D_law_task hr (by decide) rfl (pa_cons (pe_ix ix_list (pv 4) (pv 9) (fun _ _ => rfl)) (pa_cons (pe_ix ix_list (pv 6) (pv 9) (fun _ _ => rfl)) (pa_cons (pv 10) (pa_cons (pv 5) (pa_cons (pe_lst (pa_cons (pe_ix ix_list (pe_ix ix_list (pv 7) pe_int (fun _ _ => rfl)) (pv 9) (fun _ _ => rfl)) (pa_cons (pe_ix ix_list (pe_ix ix_list (pv 7) pe_int (fun _ _ => rfl)) (pv 9) (fun _ _ => rfl)) pa_nil))) pa_nil)))))) pa_nil)))))) (pss_cons (ps_set (i := 11) sc.nd rfl (Or.inl rfl) (pe_lst pa_nil)) (pss_cons (ps_for PassesOwn.never rfl (pi_range1 rfl B.b_range (pa_cons (pe_op op_modN (pcall0 D_law_cell_at hr (by decide) rfl (pa_cons (pv 0) (pa_cons pe_int pa_nil))) pe_int) pa_nil)) (pg_name (i := 12) sc.nd rfl (Or.inl rfl)) (pss_one (ps_expr (pe_bm PySem.F.plainAttrs_list PySem.F.slot_list_append PySem.F.type_list_append mt_append (pv 11) (pa_cons (pe_op op_mulB (pe_op op_modN (pe_op op_fdivB (pcall0 D_law_cell_at hr (by decide) rfl (pa_cons (pv 0) (pa_cons pe_int pa_nil))) (pe_op op_add pe_int (pv 12))) pe_int) (pv 3)) pa_nil))))) (pss_one (ps_ret (pe_tup (pa_cons (pcall0 D_law_tools hr (by decide) rfl (pa_cons (pv 4) (pa_cons (pv 8) (pa_cons (pv 5) (pa_cons (pcall0 D_law_cell_at hr (by decide) rfl (pa_cons (pv 0) (pa_cons pe_int pa_nil))) pa_nil))))) (pa_cons (pv 8) (pa_cons (pv 4) (pa_cons (pv 11) pa_nil))))))))))))))), ?_⟩
  have sl : sizeLine = 16777216 := sizeLine_eq
  refine ⟨_, rfl, _, rfl, _, rfl, _, rfl, a, ns, at_, m, f, rfl, hS, h0, by omega, by omega, m4, hf, fun rl R H1 g1 nrl hR lR okR => ?_⟩
  refine ⟨_, rfl, a, ns, 1, rfl, g1.seq hS, (by decide), fun c1 => ⟨_, rfl, fun ln n0 n1 H2 g2 en nm0 nm1 nne => ?_⟩⟩
  have k2 := g1.trans g2
  refine ⟨_, rfl, m, rfl, by omega, by omega, comp_RrH (rSome (fun _ : Int => True) V.int) (fun _ => False) (fun _ => ()) HdOk.no (by omega) (fun a h => h.elim) (fun i hi H3 g3 Q' hQ => ?_) fun lc H3 nlc g3 hc => ?_⟩
  · exact ⟨_, rfl, _, rfl, _, rfl, _, _, rfl, rfl, IntMulOk.of_left (by decide), _, _, rfl, rfl, _, _, rfl, rfl, a, ns, _, rfl, (k2.trans g3).seq hS, (by omega), fun v => hQ _ _ (.refl _) ⟨v, trivial, rfl⟩⟩
  obtain ⟨vs, ec, rv⟩ := hc
  obtain ⟨cs, rfl, lcs, _⟩ := rv.some_of
  rw [List.length_map, List.length_range] at lcs
  clear rv
  have k3 := k2.trans g3
  have lRm : R.length = m.toNat := by omega
  have r4 : R.length ≤ 4 := by omega
  have hR3 := hR.same (g2.trans g3)
  refine ⟨_, rfl, _, rfl, rl, lc, R, cs, 18, rfl, hR3, ec, by omega, r4, .inl rfl, fun l1 hs1 H4 g4 e1 ok1 => ⟨_, rfl, _, rfl, rl, lc, R, cs, 54, rfl, hR3.same g4, g4 _ _ ec, by omega, r4, .inr rfl, fun l2 hs2 H5 g5 e2 ok2 => ⟨(by show 2 ≤ sizeLine; decide), fun lh nlh => ?_⟩⟩⟩
  have gh := same_new nlh (.lst [.ref l1, .ref l2])
  have elh : upd H5 lh (.lst [.ref l1, .ref l2]) lh = some (.lst [.ref l1, .ref l2]) := upd_same
  generalize upd H5 lh (.lst [.ref l1, .ref l2]) = H6 at gh elh ⊢
  have k6 := ((k3.trans g4).trans g5).trans gh
  have e1' := (g5.trans gh) _ _ e1
  have e2' := gh _ _ e2
  have ec6 := ((g4.trans g5).trans gh) _ _ ec
  have hR6 := hR3.same ((g4.trans g5).trans gh)
  have en6 := (((g3.trans g4).trans g5).trans gh) _ _ en
  clear hR3 hR e1 e2 ec en gh g5 g4 g3 g2 nlh
  refine ⟨(by show 0 ≤ sizeLine; decide), fun tl ntl => ?_⟩
  have ntl0 := k6.free ntl
  have gt := same_new ntl (.lst [])
  have hT0 : LsA rTask (fun a => a ≠ tl ∧ H a = none) (upd H6 tl (.lst [])) tl [] := LsA.new
  generalize upd H6 tl (.lst []) = H7 at gt hT0 ⊢
  obtain ⟨bs, er, rR⟩ := id hR6
  have run : ∀ H' : Hp, Same H6 H' → ∀ i, i < R.length → ∃ t, atI (bs.map V.ref) (0 + (i : Int)) = some (.ref t) ∧ H' t = some (.tup ((rk (R.getD i (0, 0, 0))).map V.int)) := fun H' g i hi => by
    have hr := List.getElem?_eq_getElem hi
    obtain ⟨t, ht, et⟩ := rR.get (show (R.map rk)[i]? = some (rk R[i]) by rw [List.getElem?_map, hr]; rfl)
    rw [getDo hr]
    exact ⟨t, at_zero (map_at ht), g _ _ et⟩
  try dsimp only [gName, tNext]
  refine cut (fun σ H' => ∃ (o9 o10 : Option V) (T : Tk), σ = [some (.ref a), some (.int at_), some (.int m), some (.int f), some (.ref rl), some (.ref ln), some (.ref lc), some (.ref lh), some (.ref tl), o9, o10, none, none] ∧ Same H6 H' ∧ LsA rTask An H' tl T ∧ T.length = R.length ∧ TsB n0 n1 hs1 hs2 T R) (fun N hN => ?_) ?_
  · refine ⟨_, rfl, m, rfl, by omega, by omega, for_range (fun i σ H' => ∃ (o9 o10 : Option V) (T : Tk), σ = [some (.ref a), some (.int at_), some (.int m), some (.int f), some (.ref rl), some (.ref ln), some (.ref lc), some (.ref lh), some (.ref tl), o9, o10, none, none] ∧ Same H6 H' ∧ LsA rTask (fun a => a ≠ tl ∧ H a = none) H' tl T ∧ T.length = i ∧ TsB n0 n1 hs1 hs2 T R) ⟨none, none, [], rfl, gt, hT0, rfl, ⟨fun i ws r h => by simp at h⟩⟩ ?_ ?_⟩
    · rintro i σ H8 hi ⟨o9, o10, T, rfl, g8, ⟨us, eu, ru⟩, lT, tsb⟩
      have il : i < R.length := by omega
      obtain ⟨ti, ai, eti⟩ := run H8 g8 i il
      have hcs := List.getElem?_eq_getElem (show i < cs.length by omega)
      obtain ⟨x1, hh1⟩ : ∃ x1, hs1[i]? = some x1 := ⟨_, List.getElem?_eq_getElem (show i < hs1.length by rw [ok1.1]; exact il)⟩
      obtain ⟨x2, hh2⟩ : ∃ x2, hs2[i]? = some x2 := ⟨_, List.getElem?_eq_getElem (show i < hs2.length by rw [ok2.1]; exact il)⟩
      have b1 := ok1.2.1 _ (List.mem_of_getElem? hh1)
      have b2 := ok2.2.1 _ (List.mem_of_getElem? hh2)
      have hr' := List.getElem?_eq_getElem il
      have rb := okR _ (List.getElem_mem il)
      have rd := getDo (d := ((0 : Int), (0 : Int), (0 : Int))) hr'
      rw [← rd] at rb
      have sz : us.length < sizeLine := by rw [ru.1]; omega
      refine ⟨_, rfl, _, rfl, _, rfl, _, _, rfl, rfl, IntMulOk.of_left (by decide), _, _, rfl, rfl, _, _, rfl, rfl, a, ns, _, rfl, (k6.trans g8).seq hS, (by omega), fun mo => ?_⟩
      refine ⟨_, rfl, .inl ⟨rfl, _, SqL.of eu⟩, _, rfl, _, rfl, rl, _, _, _, rfl, rfl, SqL.of (g8 _ _ er), ai, _, rfl, _, rfl, lc, _, _, _, rfl, rfl, SqL.of (g8 _ _ ec6), (at_zero (map_at hcs)), _, rfl, _, rfl, _, rfl, lh, _, _, .ref l1, rfl, rfl, SqL.of (g8 _ _ elh), rfl, _, rfl, l1, _, _, _, rfl, rfl, SqL.of (g8 _ _ e1'), (at_zero (map_at hh1)), _, rfl, lh, _, _, .ref l2, rfl, rfl, SqL.of (g8 _ _ elh), rfl, _, rfl, l2, _, _, _, rfl, rfl, SqL.of (g8 _ _ e2'), (at_zero (map_at hh2)), (by show 2 ≤ sizeLine; decide), fun lp nlp => ?_⟩
      have gp := same_new nlp (.lst [.int x1, .int x2])
      have elp : upd H8 lp (.lst [.int x1, .int x2]) lp = some (.lst [.int x1, .int x2]) := upd_same
      generalize upd H8 lp (.lst [.int x1, .int x2]) = H9 at gp elp ⊢
      refine ⟨ti, _, mo, ln, lp, R.getD i (0, 0, 0), f, n0, n1, _, _, rfl, gp _ _ eti, hf, rb, (g8.trans gp) _ _ en6, elp, nne, b1, b2, fun v ws H10 g10 rt tb => ⟨tl, _, _, rfl, rfl, (gp.trans g10) _ _ eu, sz, ?_⟩⟩
      have g11 := (g8.trans gp).trans g10
      refine ⟨_, _, T ++ [ws], rfl, sUpd g11 ntl _, ?_, by rw [List.length_append, lT]; rfl, ⟨fun k ws' r h1 h2 => ?_⟩⟩
      · exact LsA.put (fun z => z.1 rfl) (ru.imp fun _ _ q => mvS q (gp.trans g10)) (mvP rt fun x hx => ⟨(fun z => by have := gp _ _ eu; rw [z, this] at hx; cases hx), ((k6.trans g8).trans gp).free hx⟩)
      · by_cases ck : k < T.length
        · rw [List.getElem?_append_left ck] at h1
          exact tsb.task k ws' r h1 h2
        · have kl := (List.getElem?_eq_some_iff.mp h1).1
          rw [List.length_append] at kl
          have : k = i := by simp at kl; omega
          subst this
          rw [List.getElem?_append_right (by omega)] at h1
          have e : k - T.length = 0 := by omega
          rw [e] at h1
          replace h1 : some ws = some ws' := h1
          injection h1 with h1
          rw [← h1, getDo hh1, getDo hh2]
          rw [getDo h2] at tb
          exact tb
    · rintro σ H8 ⟨o9, o10, T, rfl, g8, hT, lT, tsb⟩
      exact hN _ _ ⟨_, _, T, rfl, g8, hT.any, by omega, tsb⟩
  clear hT0 gt ntl
  rintro σ H8 ⟨o9, o10, T, rfl, g8, hT, lT, tsb⟩
  have k8 := k6.trans g8
  refine ⟨(by show 0 ≤ sizeLine; decide), fun ml nml => ?_⟩
  have gm := same_new nml (.lst [])
  have em : upd H8 ml (.lst []) ml = some (.lst []) := upd_same
  generalize upd H8 ml (.lst []) = H9 at gm em ⊢
  have hS9 := (k8.trans gm).seq hS
  try dsimp only [gName, tNext]
  refine cut (fun σ H' => ∃ (o12 : Option V) (M : List Int), σ = [some (.ref a), some (.int at_), some (.int m), some (.int f), some (.ref rl), some (.ref ln), some (.ref lc), some (.ref lh), some (.ref tl), o9, o10, some (.ref ml), o12] ∧ Same H8 H' ∧ H' ml = some (.lst (M.map V.int)) ∧ M.length ≤ 2 ∧ ∀ t ∈ M, 0 ≤ t ∧ t ≤ 29 * f) (fun N hN => ?_) ?_
  · refine ⟨_, rfl, a, ns, 2, rfl, hS9, (by decide), fun c2 => ?_⟩
    have mc := fm (a := c2) (n := 3) (by decide)
    refine ⟨_, _, rfl, rfl, (by show (3 : Int) ≠ 0; decide), _, rfl, by omega, by omega, for_range (fun i σ H' => ∃ (o12 : Option V) (M : List Int), σ = [some (.ref a), some (.int at_), some (.int m), some (.int f), some (.ref rl), some (.ref ln), some (.ref lc), some (.ref lh), some (.ref tl), o9, o10, some (.ref ml), o12] ∧ Same H8 H' ∧ H' ml = some (.lst (M.map V.int)) ∧ M.length = i ∧ ∀ t ∈ M, 0 ≤ t ∧ t ≤ 29 * f) ⟨none, [], rfl, gm, em, rfl, fun t ht => by cases ht⟩ ?_ ?_⟩
    · rintro i σ H10 hi ⟨o12, M, rfl, g10, em10, lM, okM⟩
      have i2 : i < 2 := by omega
      refine ⟨_, rfl, .inl ⟨rfl, _, SqL.of em10⟩, _, rfl, a, ns, 2, rfl, (k8.trans g10).seq hS, (by decide), fun c => ?_⟩
      have m30 := fm (a := c.fdiv (3 + (0 + (i : Int)))) (n := 30) (by decide)
      refine ⟨_, rfl, _, _, rfl, rfl, _, _, rfl, rfl, ⟨by omega, PyProof.noPylong_small (by omega)⟩, _, _, rfl, rfl, (by show (30 : Int) ≠ 0; decide), _, rfl, _, _, rfl, rfl, IntMulOk.of_left (intBits_le_64 (by omega) (by omega)), ml, _, _, rfl, rfl, em10, by rw [List.length_map]; omega, ?_⟩
      refine ⟨_, M ++ [(c.fdiv (3 + (0 + (i : Int)))).fmod 30 * f], rfl, sUpd g10 nml _, ?_, by rw [List.length_append, lM]; rfl, fun t ht => ?_⟩
      · rw [upd_same, List.map_append]; rfl
      · rcases List.mem_append.mp ht with z | z
        · exact okM t z
        · rw [List.mem_singleton.mp z]
          generalize (c.fdiv (3 + (0 + (i : Int)))).fmod 30 = y at m30 ⊢
          rcases hf with rfl | rfl <;> omega
    · rintro σ H10 ⟨o12, M, rfl, g10, em10, lM, okM⟩
      exact hN _ _ ⟨_, M, rfl, g10, em10, by omega, okM⟩
  clear em gm hS9
  rintro σ H10 ⟨o12, M, rfl, g10, em10, lM, okM⟩
  have k10 := k8.trans g10
  have wok : ∀ ws ∈ T, 1 ≤ ws.length ∧ ws.length ≤ 2 ∧ ∀ w ∈ ws, WyB n0 n1 w := fun ws hw => by
    obtain ⟨i, hi⟩ := List.mem_iff_getElem?.mp hw
    have il := (List.getElem?_eq_some_iff.mp hi).1
    have tb := tsb.task i ws _ hi (List.getElem?_eq_getElem (show i < R.length by rw [← lT]; exact il))
    exact ⟨tb.l1, tb.l2, tb.way⟩
  have pok : PlanOkG T R := ⟨lT.symm, fun i r ws e1 e2 => ⟨by have := (okR r (List.mem_of_getElem? e1)).2.2.2.2; omega, (tsb.task i ws r e2 e1).pick⟩⟩
  have hR10 := hR6.same (g8.trans g10)
  have hT10 := hT.same g10
  refine ⟨_, rfl, _, rfl, _, rfl, _, rfl, a, ns, 3, rfl, k10.seq hS, (by decide), fun c3 => ⟨rl, tl, ln, c3, T, R, n0, n1, rfl, hT10, hR10, (g8.trans g10) _ _ en6, nne, pok, r4, wok, fun td m0 m1 H11 g11 ntd ed tb => ⟨_, rfl, _, rfl, _, rfl, (by show 4 ≤ sizeLine; decide), fun t nt => ?_⟩⟩⟩
  have gt := same_new nt (.tup [.ref td, .ref tl, .ref rl, .ref ml])
  exact q t td tl rl ml n0 n1 m0 m1 hs1 hs2 T R M _ ((k10.trans g11).trans gt) upd_same (gt _ _ ed) ((hT10.same g11).same gt) ((hR10.same g11).same gt) ((g11.trans gt) _ _ em10) lR ⟨hf, nm0, nm1, nne, lT, r4, okR, tsb, ok1, ok2, tb, lM, okM⟩

theorem sc_law_points : FnScope ["_law_runs_here", "_law_times", "_law_found", "_law_run"] ["_law_runs_here", "_law_times"] (defScope s_law_points) := ⟨rfl, rfl, rfl, by decide +kernel, rfl, by decide +kernel, by decide +kernel⟩
set_option maxHeartbeats 4000000 in
theorem ok_law_points {dV : Value} (F : FunD K "_law_points" "_law_points" s_law_points dV f fd) (B : Bn K mg c_Net f_Net_init)  : FnOk P w K mg base CX0 1 f fd ["_law_runs_here", "_law_times"] spPointsB := by
  have sc := sc_law_points
  refine F.ok sc (fun vs H Q E h => ?_) (fun cdv A outer s H vs Q E hr h => ?_)
  · obtain ⟨rl, ml, R, M, rfl, _⟩ := h
    rfl
  obtain ⟨rl, ml, R, M, rfl, ⟨bs, er, rR⟩, r24, em, m8, q⟩ := h
  refine ⟨_, (pss_cons (ps_set (i := 2) sc.nd rfl (Or.inl rfl) (pe_lst pa_nil)) (pss_cons (ps_for PassesOwn.never rfl (pi_list (pv 0)) (pg_name (i := 3) sc.nd rfl (Or.inl rfl)) (pss_one (ps_set (i := 2) sc.nd rfl (Or.inl rfl) (pe_op op_cat (pv 2) (pe_lst (pa_cons (pe_ix ix_tup (pv 3) pe_int (fun _ _ => rfl)) (pa_cons (pe_ix ix_tup (pv 3) pe_int (fun _ _ => rfl)) pa_nil))))))) (pss_one (ps_ret (pe_op op_cat (pv 2) (pv 1)))))), ?_⟩
  have sl : sizeLine = 16777216 := sizeLine_eq
  have lr : bs.length = R.length := by rw [rR.1, List.length_map]
  refine ⟨(by show 0 ≤ sizeLine; decide), fun l nl => ?_⟩
  have g0 := same_new nl (.lst [])
  refine ⟨_, rfl, rl, rfl, ⟨_, SqL.of (g0 _ _ er)⟩, for_list (xs := bs.map V.ref) (fun i σ H' => ∃ (l : Addr) (o3 : Option V), σ = [some (.ref rl), some (.ref ml), some (.ref l), o3] ∧ Same H H' ∧ H' l = some (.lst ((spots (R.take i) []).map V.int))) ⟨l, none, rfl, g0, upd_same⟩ (fun i σ H' _ ⟨_, _, _, g, _⟩ => SqL.of (g _ _ er)) ?_ ?_⟩
  · rintro i y σ H1 hy ⟨l, o3, rfl, g1, e1⟩
    obtain ⟨b, hb, rfl⟩ := refs_at hy
    obtain ⟨r, hr', eb⟩ := run_at rR hb
    have ll : ((spots (R.take i) []).map V.int).length ≤ 48 := by rw [List.length_map, spots_len, List.length_take]; simp; omega
    have eb1 := g1 _ _ eb
    refine ⟨_, rfl, _, rfl, b, _, _, _, rfl, rfl, SqT.of eb1, rfl, _, rfl, b, _, _, _, rfl, rfl, SqT.of eb1, rfl, (by show 2 ≤ sizeLine; decide), fun p np => ⟨l, p, _, _, rfl, rfl, same_new np _ _ _ e1, upd_same, by simp at ll ⊢; omega, fun l2 nl2 => ?_⟩⟩
    refine ⟨l2, _, rfl, (g1.trans (same_new np _)).trans (same_new nl2 _), ?_⟩
    rw [upd_same, spots_take hr', List.map_append, List.map_append, List.append_assoc]
    rfl
  · rintro σ H1 ⟨l, o3, rfl, g1, e1⟩
    have et' : R.take (bs.map V.ref).length = R := by rw [List.length_map, lr]; exact List.take_length
    rw [et'] at e1
    refine ⟨_, rfl, _, rfl, l, ml, _, _, rfl, rfl, e1, g1 _ _ em, ?_, fun p np => ?_⟩
    · rw [List.length_map, List.length_map, spots_len]
      simp
      omega
    · refine q p _ (g1.trans (same_new np _)) ?_
      rw [upd_same, ← List.map_append, spots_cat]

theorem sc_law_any_case : FnScope ["_law_script", "_law_tasks", "_law_picks", "_law_i", "_law_orders", "_law_k", "_law_j"] ["_law_script", "_law_tasks"] (defScope s_law_any_case) := ⟨rfl, rfl, rfl, by decide +kernel, rfl, by decide +kernel, by decide +kernel⟩
set_option maxHeartbeats 4000000 in
theorem ok_law_any_case {dV : Value} (F : FunD K "_law_any_case" "_law_any_case" s_law_any_case dV f fd) (B : Bn K mg c_Net f_Net_init) (D_law_cell_at : Dx P w K mg base CX0 1 "_law_cell_at" ["_law_script", "_law_k"] [] (spCell K)) : FnOk P w K mg base CX0 2 f fd ["_law_script", "_law_tasks"] (spAnyCase K) := by
  have sc := sc_law_any_case
  refine F.ok sc (fun vs H Q E h => ?_) (fun cdv A outer s H vs Q E hr h => ?_)
  · obtain ⟨a, tl, ns, T, rfl, _⟩ := h
    rfl
  obtain ⟨a, tl, ns, T, rfl, hS, hT, t1, t24, wl, q⟩ := h
  refine ⟨_, (pss_cons (ps_set (i := 2) sc.nd rfl (Or.inl rfl) (pe_lst pa_nil)) (pss_cons (ps_for PassesOwn.never rfl (pi_range1 rfl B.b_range (pa_cons (pe_callB call_len_seq rfl B.b_len boot_len (pa_cons (pv 1) pa_nil)) pa_nil)) (pg_name (i := 3) sc.nd rfl (Or.inl rfl)) (pss_one (ps_expr (pe_bm PySem.F.plainAttrs_list PySem.F.slot_list_append PySem.F.type_list_append mt_append (pv 2) (pa_cons (pe_ix ix_list (pe_lst (pa_cons pe_non (pa_cons pe_int (pa_cons (pe_op op_sub (pe_callB call_len_seq rfl B.b_len boot_len (pa_cons (pe_ix ix_list (pv 1) (pv 3) (fun _ _ => rfl)) pa_nil)) pe_int) pa_nil)))) (pe_op op_modN (pe_op op_fdivB (pcall0 D_law_cell_at hr (by decide) rfl (pa_cons (pv 0) (pa_cons pe_int pa_nil))) (pe_op op_add (pv 3) pe_int)) pe_int) (fun _ _ => rfl)) pa_nil))))) (pss_cons (ps_set (i := 4) sc.nd rfl (Or.inl rfl) (pe_lst pa_nil)) (pss_cons (ps_for PassesOwn.never rfl (pi_range1 rfl B.b_range (pa_cons (pe_op op_modN (pcall0 D_law_cell_at hr (by decide) rfl (pa_cons (pv 0) (pa_cons pe_int pa_nil))) pe_int) pa_nil)) (pg_name (i := 5) sc.nd rfl (Or.inl rfl)) (pss_cons (ps_set (i := 3) sc.nd rfl (Or.inl rfl) (pe_op op_modN (pcall0 D_law_cell_at hr (by decide) rfl (pa_cons (pv 0) (pa_cons (pe_op op_add pe_int (pv 5)) pa_nil))) (pe_callB call_len_seq rfl B.b_len boot_len (pa_cons (pv 1) pa_nil)))) (pss_cons (ps_set (i := 6) sc.nd rfl (Or.inl rfl) (pe_op op_modN (pe_op op_fdivB (pcall0 D_law_cell_at hr (by decide) rfl (pa_cons (pv 0) (pa_cons (pe_op op_add pe_int (pv 5)) pa_nil))) pe_int) (pe_callB call_len_seq rfl B.b_len boot_len (pa_cons (pv 1) pa_nil)))) (pss_one (ps_if (pt_cmpR op_ne (pv 3) (pv 6) (nomark _)) (pss_one (ps_expr (pe_bm PySem.F.plainAttrs_list PySem.F.slot_list_append PySem.F.type_list_append mt_append (pv 4) (pa_cons (pe_tup (pa_cons (pv 3) (pa_cons (pv 6) pa_nil))) pa_nil)))) pss_nil))))) (pss_one (ps_ret (pe_tup (pa_cons (pv 2) (pa_cons (pv 4) pa_nil))))))))), ?_⟩
  have sl : sizeLine = 16777216 := sizeLine_eq
  obtain ⟨vt, et, rT⟩ := id hT
  have lv : vt.length = T.length := rT.1
  refine ⟨(by show 0 ≤ sizeLine; decide), fun pl npl => ?_⟩
  have g0 := same_new npl (.lst [])
  have e0 : upd H pl (.lst []) pl = some (.lst (([] : Pk).map pkV)) := upd_same
  generalize upd H pl (.lst []) = H0 at g0 e0 ⊢
  try dsimp only [gName, tNext]
  refine cut (fun σ H' => ∃ (o3 : Option V) (P : Pk), σ = [some (.ref a), some (.ref tl), some (.ref pl), o3, none, none, none] ∧ Same H H' ∧ H' pl = some (.lst (P.map pkV)) ∧ PkOk T P) (fun N hN => ?_) ?_
  · refine ⟨_, rfl, tl, _, rfl, .inl (SqL.of (g0 _ _ et)), _, rfl, by omega, by omega, for_range (fun i σ H' => ∃ (o3 : Option V) (P : Pk), σ = [some (.ref a), some (.ref tl), some (.ref pl), o3, none, none, none] ∧ Same H H' ∧ H' pl = some (.lst (P.map pkV)) ∧ P.length = i ∧ ∀ (k j : Nat) (ws : List Wy), P[k]? = some (some j) → T[k]? = some ws → j < ws.length) ⟨none, [], rfl, g0, e0, rfl, fun k j ws h => by simp at h⟩ ?_ ?_⟩
    · rintro i σ H1 hi ⟨o3, P, rfl, g1, eP, lP, okP⟩
      rw [Int.toNat_natCast, lv] at hi
      have hTi := List.getElem?_eq_getElem hi
      obtain ⟨v, hv, wl', rfl, _, us, ew, rw'⟩ := rT.get hTi
      have w12 := wl _ (List.getElem_mem hi)
      have lw : us.length = (T[i]).length := rw'.1
      refine ⟨_, rfl, .inl ⟨rfl, _, SqL.of eP⟩, _, rfl, _, rfl, tl, _, _, _, rfl, rfl, SqL.of (g1 _ _ et), (at_zero hv), wl', _, rfl, .inl (SqL.of (g1 _ _ ew)), _, _, rfl, rfl, (by show 3 ≤ sizeLine; decide), fun p np => ?_⟩
      have gp := same_new np (.lst [.non, .int 0, .int ((us.length : Int) - 1)])
      refine ⟨_, rfl, a, ns, 42, rfl, (g1.trans gp).seq hS, (by decide), fun c => ?_⟩
      have mc := fm (a := c.fdiv (0 + (i : Int) + 1)) (n := 3) (by decide)
      obtain ⟨x, hx, ox⟩ : ∃ x : Option Nat, atI [V.non, V.int 0, V.int ((us.length : Int) - 1)] ((c.fdiv (0 + (i : Int) + 1)).fmod 3) = some (pkV x) ∧ ∀ j : Nat, x = some j → j < (T[i]).length := by
        obtain e | e | e : (c.fdiv (0 + (i : Int) + 1)).fmod 3 = 0 ∨ (c.fdiv (0 + (i : Int) + 1)).fmod 3 = 1 ∨ (c.fdiv (0 + (i : Int) + 1)).fmod 3 = 2 := by omega
        · rw [e]; exact ⟨none, rfl, fun j h => by cases h⟩
        · rw [e]; exact ⟨some 0, rfl, fun j h => by injection h with h; omega⟩
        · rw [e]
          refine ⟨some (us.length - 1), ?_, fun j h => by injection h with h; omega⟩
          show some (V.int ((us.length : Int) - 1)) = some (V.int ((us.length - 1 : Nat) : Int))
          rw [show ((us.length - 1 : Nat) : Int) = (us.length : Int) - 1 by omega]
      refine ⟨_, rfl, _, _, rfl, rfl, _, _, rfl, rfl, ⟨by omega, PyProof.noPylong_small (by omega)⟩, _, _, rfl, rfl, (by show (3 : Int) ≠ 0; decide), p, _, _, _, rfl, rfl, SqL.of upd_same, hx, pl, _, _, rfl, rfl, gp _ _ eP, by rw [List.length_map]; omega, ?_⟩
      refine ⟨_, P ++ [x], rfl, sUpd (g1.trans gp) npl _, by rw [upd_same, List.map_append]; rfl, by rw [List.length_append, lP]; rfl, fun k j ws h1 h2 => ?_⟩
      by_cases ck : k < P.length
      · rw [List.getElem?_append_left ck] at h1; exact okP k j ws h1 h2
      · have kl := (List.getElem?_eq_some_iff.mp h1).1
        rw [List.length_append] at kl
        have : k = i := by simp at kl; omega
        subst this
        rw [List.getElem?_append_right (by omega)] at h1
        have : k - P.length = 0 := by omega
        rw [this] at h1
        replace h1 : some x = some (some j) := h1
        injection h1 with h1
        have := ox j h1
        rw [hTi] at h2
        cases h2
        exact this
    · rintro σ H1 ⟨o3, P, rfl, g1, eP, lP, okP⟩
      rw [Int.toNat_natCast, lv] at lP
      exact hN _ _ ⟨_, P, rfl, g1, eP, ⟨lP, okP⟩⟩
  clear e0 g0
  rintro σ H1 ⟨o3, P, rfl, g1, eP, pk⟩
  refine ⟨(by show 0 ≤ sizeLine; decide), fun ol nol => ?_⟩
  have pne : pl ≠ ol := fun e => by rw [e, nol] at eP; cases eP
  have go := same_new nol (.lst [])
  have eo : upd H1 ol (.lst []) ol = some (.lst []) := upd_same
  generalize upd H1 ol (.lst []) = H2 at go eo ⊢
  refine ⟨_, rfl, a, ns, 43, rfl, (g1.trans go).seq hS, (by decide), fun c => ?_⟩
  have m5 := fm (a := c) (n := 5) (by decide)
  refine ⟨_, _, rfl, rfl, (by show (5 : Int) ≠ 0; decide), _, rfl, by omega, by omega, for_range (fun k σ H' => ∃ (o3 o5 o6 : Option V) (ps : List (Int × Int)), σ = [some (.ref a), some (.ref tl), some (.ref pl), o3, some (.ref ol), o5, o6] ∧ Same H1 H' ∧ TupsA H' ol (pairK ps) ∧ ps.length ≤ k ∧ ∀ p ∈ ps, 0 ≤ p.1 ∧ p.1 < (T.length : Int) ∧ 0 ≤ p.2 ∧ p.2 < (T.length : Int)) ⟨_, _, _, [], rfl, go, ⟨[], eo, Ref2.nil⟩, Nat.le_refl _, fun p hp => by cases hp⟩ ?_ ?_⟩
  · rintro k σ H3 hk ⟨o3, o5, o6, ps, rfl, g3, ⟨bs, eb, rb⟩, lp, okp⟩
    have k3 := g1.trans g3
    have et3 := k3 _ _ et
    refine ⟨_, rfl, _, rfl, _, _, rfl, rfl, a, ns, _, rfl, k3.seq hS, (by omega), fun c1 => ⟨_, rfl, tl, _, rfl, .inl (SqL.of et3), ?_⟩⟩
    rw [lv]
    have mi := fm (a := c1) (n := (T.length : Int)) (by omega)
    refine ⟨_, _, rfl, rfl, (by omega), _, rfl, _, rfl, _, _, rfl, rfl, a, ns, _, rfl, k3.seq hS, (by omega), fun c2 => ⟨_, _, rfl, rfl, ⟨by decide, PyProof.noPylong_small (by decide)⟩, _, rfl, tl, _, rfl, .inl (SqL.of et3), ?_⟩⟩
    rw [lv]
    have mj := fm (a := c2.fdiv 4) (n := (T.length : Int)) (by omega)
    refine ⟨_, _, rfl, rfl, (by omega), _, rfl, _, rfl, rfl, _, rfl, n2 (fun _ => ?_) (fun _ => ⟨_, _, _, ps, rfl, g3, ⟨bs, eb, rb⟩, by omega, okp⟩)⟩
    have sz : (bs.map V.ref).length < sizeLine := by rw [List.length_map, rb.1]; unfold pairK; rw [List.length_map]; omega
    refine ⟨_, rfl, .inl ⟨rfl, _, SqL.of eb⟩, _, rfl, _, rfl, (by show 2 ≤ sizeLine; decide), fun t nt => ⟨ol, _, _, rfl, rfl, same_new nt _ _ _ eb, sz, ?_⟩⟩
    have gt := same_new nt (.tup [.int (c1.fmod (T.length : Int)), .int ((c2.fdiv 4).fmod (T.length : Int))])
    refine ⟨_, _, _, ps ++ [(c1.fmod (T.length : Int), (c2.fdiv 4).fmod (T.length : Int))], rfl, sUpd (g3.trans gt) nol _, ?_, by rw [List.length_append]; simp; omega, fun p hp => ?_⟩
    · unfold pairK
      rw [List.map_append]
      exact tups_put (gt _ _ eb) (rb.imp fun a k q => gt _ _ q) upd_same
    · rcases List.mem_append.mp hp with h | h
      · exact okp p h
      · rw [List.mem_singleton.mp h]
        exact ⟨mi.1, mi.2, mj.1, mj.2⟩
  · rintro σ H3 ⟨o3, o5, o6, ps, rfl, g3, hO, lp, okp⟩
    refine ⟨_, rfl, _, rfl, (by show 2 ≤ sizeLine; decide), fun t nt => ?_⟩
    have gt := same_new nt (.tup [.ref pl, .ref ol])
    refine q t P ps _ ((g1.trans g3).trans gt) ⟨pl, ol, upd_same, (g3.trans gt) _ _ eP, hO.same gt⟩ pk ⟨by unfold pairK; rw [List.length_map]; omega, fun k hk => ?_⟩
    obtain ⟨p, hp, rfl⟩ := List.mem_map.mp hk
    obtain ⟨p1, p2, p3, p4⟩ := okp p hp
    exact ⟨p.1, p.2, rfl, p1, p2, p3, p4⟩

theorem sc_law_open : FnScope ["_law_tasks", "_law_case_here", "_law_i"] ["_law_tasks", "_law_case_here", "_law_i"] (defScope s_law_open) := ⟨rfl, rfl, rfl, by decide +kernel, rfl, by decide +kernel, by decide +kernel⟩
set_option maxHeartbeats 4000000 in
theorem ok_law_open {dV : Value} (F : FunD K "_law_open" "_law_open" s_law_open dV f fd) (B : Bn K mg c_Net f_Net_init)  : FnOk P w K mg base CX0 1 f fd ["_law_tasks", "_law_case_here", "_law_i"] spOpenL := by
  have sc := sc_law_open
  refine F.ok sc (fun vs H Q E h => ?_) (fun cdv A outer s H vs Q E hr h => ?_)
  · obtain ⟨tl, t, i, D, T, P, rfl, _⟩ := h
    rfl
  obtain ⟨tl, t, i, D, T, P, rfl, TC, il, q⟩ := h
  refine ⟨_, (pss_cons (ps_if (pt_cmpR op_isN (pe_ix ix_list (pe_ix ix_tup (pv 1) pe_int (fun _ _ => rfl)) (pv 2) (fun _ _ => rfl)) pe_non (nomark _)) (pss_one (ps_ret (pe_ix ix_list (pv 0) (pv 2) (fun _ _ => rfl)))) pss_nil) (pss_one (ps_ret (pe_lst (pa_cons (pe_ix ix_list (pe_ix ix_list (pv 0) (pv 2) (fun _ _ => rfl)) (pe_ix ix_list (pe_ix ix_tup (pv 1) pe_int (fun _ _ => rfl)) (pv 2) (fun _ _ => rfl)) (fun _ _ => rfl)) pa_nil))))), ?_⟩
  obtain ⟨vs, el, rT⟩ := id TC.tasks
  obtain ⟨O, kl, ol, ec, ek, ho⟩ := TC.cs
  have hT := List.getElem?_eq_getElem il
  obtain ⟨y, hy, wl, rfl, _, lw⟩ := rT.get hT
  have hP := List.getElem?_eq_getElem (show i < P.length by rw [TC.pk.len]; exact il)
  have oF : openF T P i = match P[i]'(by rw [TC.pk.len]; exact il) with | none => T[i] | some j => [(T[i]).getD j (0, 0, [])] := by
    unfold openF
    rw [getDo hT, getDo hP]
    try rfl
  cases hp : P[i]'(by rw [TC.pk.len]; exact il) with
  | none =>
    rw [hp] at oF hP
    refine ⟨_, rfl, t, _, _, _, rfl, rfl, SqT.of ec, rfl, _, rfl, kl, _, _, _, rfl, rfl, SqL.of ek, (atI_nat (map_at hP)), rfl, _, rfl, dT rfl ⟨_, rfl, _, rfl, tl, _, _, _, rfl, rfl, SqL.of el, (atI_nat hy), ?_⟩⟩
    exact q wl H (.refl _) (by rw [oF]; exact lw)
  | some j =>
    rw [hp] at oF hP
    have jl := TC.pk.pick i j _ hP hT
    have hw := List.getElem?_eq_getElem jl
    replace oF : openF T P i = [(T[i]).getD j (0, 0, [])] := oF
    rw [getDo hw] at oF
    obtain ⟨ys, ey, ry⟩ := id lw
    obtain ⟨v, hv, rv⟩ := ry.get hw
    refine ⟨_, rfl, t, _, _, _, rfl, rfl, SqT.of ec, rfl, _, rfl, kl, _, _, _, rfl, rfl, SqL.of ek, (atI_nat (map_at hP)), rfl, _, rfl, dF nofun ⟨_, rfl, _, rfl, tl, _, _, _, rfl, rfl, SqL.of el, (atI_nat hy), _, rfl, t, _, _, _, rfl, rfl, SqT.of ec, rfl, _, rfl, kl, _, _, _, rfl, rfl, SqL.of ek, (atI_nat (map_at hP)), wl, _, _, _, rfl, rfl, SqL.of ey, (atI_nat hv), (by show 1 ≤ sizeLine; decide), fun p2 np2 => ?_⟩⟩
    rw [oF] at q
    exact q p2 _ (same_new np2 _) ⟨_, upd_same, A2.one (mvS rv (same_new np2 _))⟩

theorem sc_law_obeyed : FnScope ["_law_case_here", "_law_runs_here", "_law_i"] ["_law_case_here", "_law_runs_here"] (defScope s_law_obeyed) := ⟨rfl, rfl, rfl, by decide +kernel, rfl, by decide +kernel, by decide +kernel⟩
set_option maxHeartbeats 4000000 in
theorem ok_law_obeyed {dV : Value} (F : FunD K "_law_obeyed" "_law_obeyed" s_law_obeyed dV f fd) (B : Bn K mg c_Net f_Net_init)  : FnOk P w K mg base CX0 1 f fd ["_law_case_here", "_law_runs_here"] spObeyed := by
  have sc := sc_law_obeyed
  refine F.ok sc (fun vs H Q E h => ?_) (fun cdv A outer s H vs Q E hr h => ?_)
  · obtain ⟨t, rl, P, O, R, rfl, _⟩ := h
    rfl
  obtain ⟨t, rl, P, O, R, rfl, ⟨kl, ol, ec, ek, ⟨bo, eo, ro⟩⟩, lP, r24, ⟨o1000, oo⟩, ⟨bs, er, rR⟩, q⟩ := h
  refine ⟨_, (pss_cons (ps_for PassesOwn.never rfl (pi_range1 rfl B.b_range (pa_cons (pe_callB call_len_seq rfl B.b_len boot_len (pa_cons (pv 1) pa_nil)) pa_nil)) (pg_name (i := 2) sc.nd rfl (Or.inl rfl)) (pss_one (ps_if (PW.pt (pw_and (pt_cmpR op_notN (pe_ix ix_list (pe_ix ix_tup (pv 0) pe_int (fun _ _ => rfl)) (pv 2) (fun _ _ => rfl)) pe_non (nomark _)) (pw_and1 (pt_cmpR op_ne (pe_ix ix_list (pe_ix ix_tup (pv 0) pe_int (fun _ _ => rfl)) (pv 2) (fun _ _ => rfl)) (pe_ix ix_tup (pe_ix ix_list (pv 1) (pv 2) (fun _ _ => rfl)) pe_int (fun _ _ => rfl)) (nomark _))))) (pss_one (ps_ret pe_bl)) pss_nil))) (pss_one (ps_ret (pe_callB (call_allG rfl) rfl B.b_all PyProof.Rows.Boot.«all» (pa_cons (pe_comp (own := "_law_pair") (ys := ["_law_runs_here"]) (js := [1]) rfl (cok (atc atn) (.cons rfl .nil) (by decide) rfl rfl rfl rfl rfl rfl rfl rfl) (pi_list (pe_ix ix_tup (pv 0) pe_int (fun _ _ => rfl))) (fun C fp s H => (pe_cmpR op_le (pe_ix (ix_tupB (K := K) rfl) (pe_ix (ix_listB (K := K) rfl) (pv 1) (pe_ix (ix_tupB (K := K) rfl) (pv 0) pe_int (fun _ _ => rfl)) (fun _ _ => rfl)) pe_int (fun _ _ => rfl)) (pe_ix (ix_tupB (K := K) rfl) (pe_ix (ix_listB (K := K) rfl) (pv 1) (pe_ix (ix_tupB (K := K) rfl) (pv 0) pe_int (fun _ _ => rfl)) (fun _ _ => rfl)) pe_int (fun _ _ => rfl)) (nomark _)))) pa_nil))))), ?_⟩
  have sl : sizeLine = 16777216 := sizeLine_eq
  have lr' : (bs.map V.ref).length = R.length := by rw [List.length_map, rR.1, List.length_map]
  have run : ∀ H' : Hp, Same H H' → ∀ i : Int, 0 ≤ i → i < (R.length : Int) → ∃ t, atI (bs.map V.ref) i = some (.ref t) ∧ H' t = some (.tup ((rk (R.getD i.toNat (0, 0, 0))).map V.int)) := fun H' g i i0 i1 => by
    have hr := List.getElem?_eq_getElem (show i.toNat < R.length by omega)
    obtain ⟨t, ht, et⟩ := rR.get (show (R.map rk)[i.toNat]? = some (rk (R[i.toNat]'(by omega))) by rw [List.getElem?_map, hr]; rfl)
    rw [getDo hr]
    have := atI_nat (map_at (f := V.ref) ht)
    rw [Int.toNat_of_nonneg i0] at this
    exact ⟨t, this, g _ _ et⟩
  have bad1 : ∀ (i j : Nat), i < R.length → P[i]? = some (some j) → (R.getD i (0, 0, 0)).2.2 ≠ (j : Int) → obeyF P O R = false := fun i j il hp hne => by
    unfold obeyF
    have : ((List.range R.length).all fun i => pickOk (P.getD i none) (R.getD i (0, 0, 0)).2.2) = false := by
      rw [← Bool.not_eq_true, List.all_eq_true]
      intro h
      have := h i (List.mem_range.mpr il)
      rw [getDo hp] at this
      exact hne (of_decide_eq_true this)
    rw [this, Bool.false_and]
  try dsimp only [gName, tNext]
  refine cut (fun σ H' => ∃ o2 : Option V, σ = [some (.ref t), some (.ref rl), o2] ∧ H = H' ∧ ((List.range R.length).all fun i => pickOk (P.getD i none) (R.getD i (0, 0, 0)).2.2) = true) (fun N hN => ?_) ?_
  · refine ⟨_, rfl, rl, _, rfl, .inl (SqL.of er), _, rfl, by omega, by omega, for_range (fun i σ H' => H = H' ∧ (∃ o2 : Option V, σ = [some (.ref t), some (.ref rl), o2]) ∧ ∀ k, k < i → pickOk (P.getD k none) (R.getD k (0, 0, 0)).2.2 = true) ⟨rfl, ⟨none, rfl⟩, fun k hk => absurd hk (Nat.not_lt_zero _)⟩ ?_ ?_⟩
    · rintro i σ H1 hi ⟨rfl, ⟨o2, rfl⟩, hall⟩
      rw [Int.toNat_natCast, lr'] at hi
      have hP := List.getElem?_eq_getElem (show i < P.length by omega)
      obtain ⟨b, ab, eb⟩ := run H (.refl _) (0 + (i : Int)) (by omega) (by omega)
      rw [show (0 + (i : Int)).toNat = i by omega] at eb
      have next : pickOk (P.getD i none) (R.getD i (0, 0, 0)).2.2 = true → ∀ k, k < i + 1 → pickOk (P.getD k none) (R.getD k (0, 0, 0)).2.2 = true := fun h k hk => by
        by_cases c : k = i
        · rw [c]; exact h
        · exact hall k (by omega)
      cases hp : P[i]'(by omega) with
      | none =>
        rw [hp] at hP
        exact ⟨_, rfl, t, _, _, _, rfl, rfl, SqT.of ec, rfl, _, rfl, kl, _, _, _, rfl, rfl, SqL.of ek, (at_zero (map_at hP)), rfl, _, rfl, nF rfl ⟨rfl, ⟨_, rfl⟩, next (by rw [getDo hP]; rfl)⟩⟩
      | some j =>
        rw [hp] at hP
        refine ⟨_, rfl, t, _, _, _, rfl, rfl, SqT.of ec, rfl, _, rfl, kl, _, _, _, rfl, rfl, SqL.of ek, (at_zero (map_at hP)), rfl, _, rfl, nT nofun ⟨_, rfl, t, _, _, _, rfl, rfl, SqT.of ec, rfl, _, rfl, kl, _, _, _, rfl, rfl, SqL.of ek, (at_zero (map_at hP)), _, rfl, _, rfl, rl, _, _, _, rfl, rfl, SqL.of er, ab, b, _, _, _, rfl, rfl, SqT.of eb, rfl, rfl, _, rfl, n2I (fun c => ?_) (fun c => ⟨rfl, ⟨_, rfl⟩, next (by rw [getDo hP]; exact decide_eq_true c.symm)⟩)⟩⟩
        rw [bad1 i j hi hP (fun e => c e.symm)] at q
        exact q H (.refl _)
    · rintro σ H1 ⟨rfl, ⟨o2, rfl⟩, hall⟩
      rw [Int.toNat_natCast, lr'] at hall
      refine hN _ _ ⟨_, rfl, rfl, ?_⟩
      rw [List.all_eq_true]
      exact fun i hi => hall i (List.mem_range.mp hi)
  rintro σ H1 ⟨o2, rfl, rfl, hall⟩
  have lo : (bo.map V.ref).length = O.length := by rw [List.length_map, ro.1]
  refine ⟨_, rfl, t, _, _, _, rfl, rfl, SqT.of ec, rfl, ol, rfl, ⟨_, SqL.of eo⟩, comp_Rl (rVal V.bl) (fun _ => False) (fun k => (fun k : Ky => decide ((R.getD (k.getD 0 0).toNat (0, 0, 0)).2.1 ≤ (R.getD (k.getD 1 0).toNat (0, 0, 0)).1)) (O.getD k [])) (SqL.of eo) (by omega) (fun a h => h.elim) (fun k y hy H2 g2 Q' hQ => ?_) fun lc H2 nlc g2 hc => ?_⟩
  · obtain ⟨b, hb, rfl⟩ := refs_at hy
    have kl' : k < O.length := by rw [← ro.1]; exact (List.getElem?_eq_some_iff.mp hb).1
    have hk := List.getElem?_eq_getElem kl'
    have eb' := ro.2 k b _ hb hk
    obtain ⟨p, q', ek', p0, p1, q0, q1⟩ := oo _ (List.getElem_mem kl')
    rw [ek'] at eb' hk
    rw [getDo hk] at hQ
    obtain ⟨tp, ap, etp⟩ := run H2 g2 p p0 p1
    obtain ⟨tq, aq, etq⟩ := run H2 g2 q' q0 q1
    exact ⟨_, rfl, _, rfl, b, _, _, _, rfl, rfl, SqT.of (g2 _ _ eb'), rfl, rl, _, _, _, rfl, rfl, SqL.of (g2 _ _ er), ap, tp, _, _, _, rfl, rfl, SqT.of etp, rfl, _, rfl, _, rfl, b, _, _, _, rfl, rfl, SqT.of (g2 _ _ eb'), rfl, rl, _, _, _, rfl, rfl, SqL.of (g2 _ _ er), aq, tq, _, _, _, rfl, rfl, SqT.of etq, rfl, _, _, rfl, rfl, hQ _ _ (.refl _) rfl⟩
  obtain ⟨vs, ev, rv⟩ := hc
  rw [rv.val, lo] at ev
  refine ⟨lc, _, rfl, SqL.of ev, ?_⟩
  have e : obeyF P O R = ((List.range O.length).map fun k => (fun k : Ky => decide ((R.getD (k.getD 0 0).toNat (0, 0, 0)).2.1 ≤ (R.getD (k.getD 1 0).toNat (0, 0, 0)).1)) (O.getD k [])).all id := by
    unfold obeyF
    rw [hall, Bool.true_and]
    conv => lhs; rw [← rng_getD O []]
    rw [List.all_map, List.all_map]
    rfl
  rw [← e]
  exact q H2 g2

theorem sc_law_due : FnScope ["_law_arcs_here", "_law_tasks", "_law_case_here", "_law_due_here", "_law_i", "_law_ways"] ["_law_arcs_here", "_law_tasks", "_law_case_here"] (defScope s_law_due) := ⟨rfl, rfl, rfl, by decide +kernel, rfl, by decide +kernel, by decide +kernel⟩
set_option maxHeartbeats 4000000 in
theorem ok_law_due {dV : Value} (F : FunD K "_law_due" "_law_due" s_law_due dV f fd) (B : Bn K mg c_Net f_Net_init) (D_law_open : Dx P w K mg base CX0 1 "_law_open" ["_law_tasks", "_law_case_here", "_law_i"] [] spOpenL) : FnOk P w K mg base CX0 2 f fd ["_law_arcs_here", "_law_tasks", "_law_case_here"] spDueA := by
  have sc := sc_law_due
  refine F.ok sc (fun vs H Q E h => ?_) (fun cdv A outer s H vs Q E hr h => ?_)
  · obtain ⟨al, tl, t, A, D, T, P, O, rfl, _⟩ := h
    rfl
  obtain ⟨al, tl, t, A, D, T, P, O, rfl, ⟨ba, ea, ra⟩, a1000, hT, t24, hC, pk, ok, po, q⟩ := h
  refine ⟨_, (pss_cons (ps_set (i := 3) sc.nd rfl (Or.inl rfl) (pe_callTy call_list_of rfl B.b_list boot_list (pa_cons (pv 0) pa_nil))) (pss_cons (ps_for PassesOwn.never rfl (pi_range1 rfl B.b_range (pa_cons (pe_callB call_len_seq rfl B.b_len boot_len (pa_cons (pv 1) pa_nil)) pa_nil)) (pg_name (i := 4) sc.nd rfl (Or.inl rfl)) (pss_cons (ps_set (i := 5) sc.nd rfl (Or.inl rfl) (pcall0 D_law_open hr (by decide) rfl (pa_cons (pv 1) (pa_cons (pv 2) (pa_cons (pv 4) pa_nil))))) (pss_cons (ps_set (i := 3) sc.nd rfl (Or.inl rfl) (pe_op op_cat (pv 3) (pe_lst (pa_cons (pe_tup (pa_cons (pe_op op_mulB pe_int (pv 4)) (pa_cons (pe_op op_add (pe_op op_mulB pe_int (pv 4)) pe_int) (pa_cons (pe_callB (call_minL rfl) rfl B.b_min boot_min (pa_cons (pe_comp (own := "_law_way") (ys := []) (js := []) rfl (cok atn .nil (by decide) rfl rfl rfl rfl rfl rfl rfl rfl) (pi_list (pv 5)) (fun C fp s H => (pe_ix (ix_tupB (K := K) rfl) (pv 0) pe_int (fun _ _ => rfl)))) pa_nil)) pa_nil)))) pa_nil)))) (pss_one (ps_set (i := 3) sc.nd rfl (Or.inl rfl) (pe_op op_cat (pv 3) (pe_lst (pa_cons (pe_tup (pa_cons (pe_op op_add (pe_op op_mulB pe_int (pv 4)) pe_int) (pa_cons (pe_op op_mulB pe_int (pv 4)) (pa_cons (pe_op op_sub pe_int (pe_callB (call_maxL rfl) rfl B.b_max boot_max (pa_cons (pe_comp (own := "_law_way") (ys := []) (js := []) rfl (cok atn .nil (by decide) rfl rfl rfl rfl rfl rfl rfl rfl) (pi_list (pv 5)) (fun C fp s H => (pe_ix (ix_tupB (K := K) rfl) (pv 0) pe_int (fun _ _ => rfl)))) pa_nil))) pa_nil)))) pa_nil)))))))) (pss_one (ps_ret (pe_op op_cat (pv 3) (pe_comp (own := "_law_pair") (ys := []) (js := []) rfl (cok atn .nil (by decide) rfl rfl rfl rfl rfl rfl rfl rfl) (pi_list (pe_ix ix_tup (pv 2) pe_int (fun _ _ => rfl))) (fun C fp s H => (pe_tup (pa_cons (pe_op op_add (pe_op op_mulB pe_int (pe_ix (ix_tupB (K := K) rfl) (pv 0) pe_int (fun _ _ => rfl))) pe_int) (pa_cons (pe_op op_mulB pe_int (pe_ix (ix_tupB (K := K) rfl) (pv 0) pe_int (fun _ _ => rfl))) (pa_cons pe_int pa_nil))))))))))), ?_⟩
  have sl : sizeLine = 16777216 := sizeLine_eq
  obtain ⟨vt, et, rT⟩ := id hT
  have TC : TasksC D H tl t T P := ⟨hT, ⟨O, hC⟩, pk, ok⟩
  obtain ⟨kl, ol, ec, ek, ⟨bo, eo, ro⟩⟩ := id hC
  have lv : vt.length = T.length := rT.1
  refine ⟨_, rfl, al, _, rfl, .inl (SqL.of ea), fun l0 nl0 => ?_⟩
  have g0 := same_new nl0 (.lst (ba.map V.ref))
  have hA0 : TupsA (upd H l0 (.lst (ba.map V.ref))) l0 (A ++ arcsN T P 0) := ⟨ba, upd_same, by rw [show A ++ arcsN T P 0 = A from List.append_nil A]; exact ra.imp fun a k q => g0 _ _ q⟩
  generalize upd H l0 (.lst (ba.map V.ref)) = H0 at g0 hA0 ⊢
  try dsimp only [gName, tNext]
  refine cut (fun σ H' => ∃ (l : Addr) (o4 o5 : Option V), σ = [some (.ref al), some (.ref tl), some (.ref t), some (.ref l), o4, o5] ∧ Same H H' ∧ TupsA H' l (A ++ arcsN T P T.length)) (fun N hN => ?_) ?_
  · refine ⟨_, rfl, tl, _, rfl, .inl (SqL.of (g0 _ _ et)), _, rfl, by omega, by omega, for_range (fun i σ H' => ∃ (l : Addr) (o4 o5 : Option V), σ = [some (.ref al), some (.ref tl), some (.ref t), some (.ref l), o4, o5] ∧ Same H H' ∧ TupsA H' l (A ++ arcsN T P i)) ⟨l0, none, none, rfl, g0, hA0⟩ ?_ ?_⟩
    · rintro i σ H1 hi ⟨l, o4, o5, rfl, g1, ⟨bs, eb, rb⟩⟩
      rw [Int.toNat_natCast, lv] at hi
      have zi : (0 + (i : Int)) = (i : Int) := Int.zero_add _
      have ne := open_ne (P := P) ok hi
      have ln := open_len (P := P) ok hi
      have lb : bs.length = A.length + 2 * i := by rw [rb.1, List.length_append, arcsN_len]
      refine ⟨_, rfl, _, rfl, _, rfl, tl, t, i, D, T, P, by rw [zi]; rfl, TC.same g1, hi, fun p H2 g2 ⟨vs, ev, rv⟩ => ?_⟩
      refine ⟨_, rfl, _, rfl, _, _, rfl, rfl, IntMulOk.of_left (by decide), _, rfl, _, _, rfl, rfl, IntMulOk.of_left (by decide), _, _, rfl, rfl, _, rfl, p, rfl, ⟨_, SqL.of ev⟩, comp_Rl (rVal V.int) (fun _ => False) (fun k => (fun w : Wy => w.1) ((openF T P i).getD k (0, 0, []))) (SqL.of ev) (by rw [rv.1]; omega) (fun a h => h.elim) (fun k y hy Hk gk Q' hQ => ?_) fun p2 H3 np2 g3 hp2 => ?_⟩
      · obtain ⟨w, hw, tw, uw, rfl, _, _, etw, _⟩ := rv.at_ hy
        rw [getDo hw] at hQ
        exact ⟨_, rfl, tw, _, _, _, rfl, rfl, SqT.of (gk _ _ etw), rfl, hQ _ _ (.refl _) rfl⟩
      obtain ⟨us, eu, ru⟩ := hp2
      have eus : us = ((openF T P i).map fun w : Wy => w.1).map V.int := by
        rw [ru.val, rv.1]
        conv => rhs; rw [← rng_getD (openF T P i) (0, 0, [])]
        rw [List.map_map, List.map_map, List.map_map]
        rfl
      rw [eus] at eu
      refine ⟨p2, _, rfl, SqL.of eu, by simpa using ne, fun M hM hle => ⟨(by show 3 ≤ sizeLine; decide), fun t1 nt1 => ⟨(by show 1 ≤ sizeLine; decide), fun l1 nl1 => ?_⟩⟩⟩
      rw [zi, minL_of hM hle] at nl1 ⊢
      obtain ⟨m1, hm1⟩ : ∃ m1, m1 = minL ((openF T P i).map fun w : Wy => w.1) := ⟨_, rfl⟩
      rw [← hm1] at nl1 ⊢
      have gt1 := same_new nt1 (.tup [.int (2 * (i : Int)), .int (2 * (i : Int) + 1), .int m1])
      have gl1 := same_new nl1 (.lst [.ref t1])
      have q4 := ((g2.trans g3).trans gt1).trans gl1
      refine ⟨l, l1, _, _, rfl, rfl, q4 _ _ eb, upd_same, by rw [List.length_map]; simp; omega, fun l2 nl2 => ?_⟩
      have hA4 : TupsA (upd (upd (upd H3 t1 (.tup [.int (2 * (i : Int)), .int (2 * (i : Int) + 1), .int m1])) l1 (.lst [.ref t1])) l2 (.lst (bs.map V.ref ++ [.ref t1]))) l2 (A ++ arcsN T P i ++ [[2 * (i : Int), 2 * (i : Int) + 1, m1]]) := tups_cat (rb.imp fun a k q => q4 _ _ q) (Ref2.one (k := [2 * (i : Int), 2 * (i : Int) + 1, m1]) (a := t1) (gl1 _ _ upd_same)) nl2
      have k5 := (g1.trans q4).trans (same_new nl2 (.lst (bs.map V.ref ++ [.ref t1])))
      have g25 := ((g3.trans gt1).trans gl1).trans (same_new nl2 (.lst (bs.map V.ref ++ [.ref t1])))
      generalize upd (upd (upd H3 t1 (.tup [.int (2 * (i : Int)), .int (2 * (i : Int) + 1), .int m1])) l1 (.lst [.ref t1])) l2 (.lst (bs.map V.ref ++ [.ref t1])) = H5 at hA4 k5 g25 ⊢
      clear eu eus ru us gt1 q4 nt1 g3 np2 nl1 nl2 gl1
      obtain ⟨cs, ecs, rcs⟩ := hA4
      have lc : cs.length = A.length + 2 * i + 1 := by rw [rcs.1, List.length_append, List.length_append, arcsN_len]; rfl
      have ev5 := g25 _ _ ev
      refine ⟨_, rfl, _, rfl, _, _, rfl, rfl, IntMulOk.of_left (by decide), _, _, rfl, rfl, _, rfl, _, _, rfl, rfl, IntMulOk.of_left (by decide), _, rfl, p, rfl, ⟨_, SqL.of ev5⟩, comp_Rl (rVal V.int) (fun _ => False) (fun k => (fun w : Wy => w.2.1) ((openF T P i).getD k (0, 0, []))) (SqL.of ev5) (by rw [rv.1]; omega) (fun a h => h.elim) (fun k y hy Hk gk Q' hQ => ?_) fun p3 H6 np3 g6 hp3 => ?_⟩
      · obtain ⟨w, hw, tw, uw, rfl, _, _, etw, _⟩ := rv.at_ hy
        rw [getDo hw] at hQ
        exact ⟨_, rfl, tw, _, _, _, rfl, rfl, SqT.of ((g25.trans gk) _ _ etw), rfl, hQ _ _ (.refl _) rfl⟩
      obtain ⟨us, eu, ru⟩ := hp3
      have eus : us = ((openF T P i).map fun w : Wy => w.2.1).map V.int := by
        rw [ru.val, rv.1]
        conv => rhs; rw [← rng_getD (openF T P i) (0, 0, [])]
        rw [List.map_map, List.map_map, List.map_map]
        rfl
      rw [eus] at eu
      refine ⟨p3, _, rfl, SqL.of eu, by simpa using ne, fun M2 hM2 hle2 => ⟨_, _, rfl, rfl, (by show 3 ≤ sizeLine; decide), fun t2 nt2 => ⟨(by show 1 ≤ sizeLine; decide), fun l3 nl3 => ?_⟩⟩⟩
      rw [maxL_of hM2 hle2] at nl3 ⊢
      have gt2 := same_new nt2 (.tup [.int (2 * (i : Int) + 1), .int (2 * (i : Int)), .int (0 - maxL ((openF T P i).map fun w : Wy => w.2.1))])
      have gl3 := same_new nl3 (.lst [.ref t2])
      have q7 := (g6.trans gt2).trans gl3
      refine ⟨l2, l3, _, _, rfl, rfl, q7 _ _ ecs, upd_same, by rw [List.length_map]; simp; omega, fun l4 nl4 => ?_⟩
      have hA7 := tups_cat (rcs.imp fun a k q => q7 _ _ q) (Ref2.one (k := [2 * (i : Int) + 1, 2 * (i : Int), 0 - maxL ((openF T P i).map fun w : Wy => w.2.1)]) (a := t2) (gl3 _ _ upd_same)) nl4
      refine ⟨l4, _, _, rfl, (k5.trans q7).trans (same_new nl4 _), ?_⟩
      have e : A ++ arcsN T P (i + 1) = A ++ arcsN T P i ++ [[2 * (i : Int), 2 * (i : Int) + 1, m1]] ++ [[2 * (i : Int) + 1, 2 * (i : Int), 0 - maxL ((openF T P i).map fun w : Wy => w.2.1)]] := by
        rw [hm1, Int.zero_sub]
        show A ++ (arcsN T P i ++ _) = _
        rw [List.append_assoc, List.append_assoc]
        rfl
      rw [e]
      exact hA7
    · rintro σ H1 ⟨l, o4, o5, rfl, g1, hA⟩
      rw [Int.toNat_natCast, lv] at hA
      exact hN _ _ ⟨_, _, _, rfl, g1, hA⟩
  clear hA0 g0
  rintro σ H1 ⟨l, o4, o5, rfl, g1, ⟨bs, eb, rb⟩⟩
  have lo : (bo.map V.ref).length = O.length := by rw [List.length_map, ro.1]
  have lb : bs.length = A.length + 2 * T.length := by rw [rb.1, List.length_append, arcsN_len]
  have o1000 := po.1
  refine ⟨_, rfl, _, rfl, t, _, _, _, rfl, rfl, SqT.of (g1 _ _ ec), rfl, ol, rfl, ⟨_, SqL.of (g1 _ _ eo)⟩, comp_Rl (rTup fun k : Ky => k.map V.int) (fun _ => False) (fun k => (fun k : Ky => [2 * k.getD 0 0 + 1, 2 * k.getD 1 0, 0]) (O.getD k [])) (SqL.of (g1 _ _ eo)) (by omega) (fun a h => h.elim) (fun k y hy H2 g2 Q' hQ => ?_) fun lc H2 nlc g2 hc => ?_⟩
  · obtain ⟨b, hb, rfl⟩ := refs_at hy
    have kl : k < O.length := by rw [← ro.1]; exact (List.getElem?_eq_some_iff.mp hb).1
    have hk := List.getElem?_eq_getElem kl
    have eb' := ro.2 k b _ hb hk
    obtain ⟨p, q', ek'⟩ := po.2 _ (List.getElem_mem kl)
    rw [ek'] at eb' hk
    rw [getDo hk] at hQ
    have ebk := (g1.trans g2) _ _ eb'
    exact ⟨_, rfl, b, _, _, _, rfl, rfl, SqT.of ebk, rfl, _, _, rfl, rfl, IntMulOk.of_left (by decide), _, _, rfl, rfl, _, rfl, b, _, _, _, rfl, rfl, SqT.of ebk, rfl, _, _, rfl, rfl, IntMulOk.of_left (by decide), (by show 3 ≤ sizeLine; decide), fun tt ntt => hQ _ _ (same_new ntt _) ⟨tt, rfl, .inl ntt, upd_same⟩⟩
  have hc' := tupsL hc
  rw [lo] at hc'
  have eO : (List.range O.length).map (fun k => (fun k : Ky => [2 * k.getD 0 0 + 1, 2 * k.getD 1 0, 0]) (O.getD k [])) = ordK O := by
    unfold ordK
    conv => rhs; rw [← rng_getD O []]
    rw [List.map_map]
    rfl
  rw [eO] at hc'
  obtain ⟨cs, ecs, rcs⟩ := hc'
  have lcs : cs.length = O.length := by rw [rcs.1]; unfold ordK; rw [List.length_map]
  refine ⟨l, lc, _, _, rfl, rfl, g2 _ _ eb, ecs, by rw [List.length_map, List.length_map]; omega, fun lz nlz => ?_⟩
  exact q lz _ ((g1.trans g2).trans (same_new nlz _)) (tups_cat (rb.imp fun a k q => g2 _ _ q) rcs nlz)

theorem sc_law_again : FnScope ["_law_net", "_law_tasks", "_law_arcs_here", "_law_case_here", "_law_i", "_law_ways", "_law_begun", "_law_bare"] ["_law_net", "_law_tasks", "_law_arcs_here", "_law_case_here"] (defScope s_law_again) := ⟨rfl, rfl, rfl, by decide +kernel, rfl, by decide +kernel, by decide +kernel⟩
set_option maxHeartbeats 4000000 in
theorem ok_law_again {dV : Value} (F : FunD K "_law_again" "_law_again" s_law_again dV f fd) (B : Bn K mg c_Net f_Net_init) (DNet_init : DxM P w K mg base CX0 3 f_Net_init ["self", "tools", "tasks", "arcs", "apart", "moments"] [.non, .int 0] (spNetG c_Net)) (Dstart_case_vn : Dx P w K mg base CX0 1 "start_case" ["net"] [] (spStartN c_Net)) (Dopen_ways_vn : Dx P w K mg base CX0 2 "open_ways" ["net", "case", "i"] [] (spOpenN c_Net)) (Darcs_of : Dx P w K mg base CX0 3 "arcs_of" ["net", "case"] [] (spArcsOf c_Net)) (D_law_open : Dx P w K mg base CX0 1 "_law_open" ["_law_tasks", "_law_case_here", "_law_i"] [] spOpenL) (D_law_due : Dx P w K mg base CX0 2 "_law_due" ["_law_arcs_here", "_law_tasks", "_law_case_here"] [] spDueA) : FnOk P w K mg base CX0 6 f fd ["_law_net", "_law_tasks", "_law_arcs_here", "_law_case_here"] (spAgain c_Net) := by
  have sc := sc_law_again
  refine F.ok sc (fun vs H Q E h => ?_) (fun cdv A outer s H vs Q E hr h => ?_)
  · obtain ⟨x, tl, al, t, D, T, A, B2, n, P, O, rfl, _⟩ := h
    rfl
  obtain ⟨x, tl, al, t, D, T, A, B2, n, P, O, rfl, NC, hT, hA, po, q⟩ := h
  refine ⟨_, (pss_cons (ps_expr (pe_bm PySem.F.plainAttrs_list PySem.F.slot_list_append PySem.F.type_list_append mt_append (pcall0 Darcs_of hr (by decide) rfl (pa_cons (pv 0) (pa_cons (pv 3) pa_nil))) (pa_cons (pe_tup (pa_cons pe_int (pa_cons pe_int (pa_cons pe_int pa_nil)))) pa_nil))) (pss_cons (ps_for PassesOwn.never rfl (pi_range1 rfl B.b_range (pa_cons (pe_callB call_len_seq rfl B.b_len boot_len (pa_cons (pv 1) pa_nil)) pa_nil)) (pg_name (i := 4) sc.nd rfl (Or.inl rfl)) (pss_cons (ps_set (i := 5) sc.nd rfl (Or.inl rfl) (pcall0 Dopen_ways_vn hr (by decide) rfl (pa_cons (pv 0) (pa_cons (pv 3) (pa_cons (pv 4) pa_nil))))) (pss_cons (ps_expr (pe_bm PySem.F.plainAttrs_list PySem.F.slot_list_append PySem.F.type_list_append mt_append (pe_ix ix_tup (pe_ix ix_list (pv 5) pe_int (fun _ _ => rfl)) pe_int (fun _ _ => rfl)) (pa_cons (pe_tup (pa_cons pe_str (pa_cons pe_int (pa_cons pe_int pa_nil)))) pa_nil))) (pss_cons (ps_expr (pe_bm PySem.F.plainAttrs_list PySem.F.slot_list_append PySem.F.type_list_append mt_append (pv 5) (pa_cons (pe_ix ix_list (pv 5) pe_int (fun _ _ => rfl)) pa_nil))) (pss_one (ps_if (pt_cmpR (op_neA 3 (Nat.lt_trans (Nat.add_lt_add_left (by decide : 3 + 1 < 64) _) hr.units)) (pcall0 Dopen_ways_vn hr (by decide) rfl (pa_cons (pv 0) (pa_cons (pv 3) (pa_cons (pv 4) pa_nil)))) (pcall0 D_law_open hr (by decide) rfl (pa_cons (pv 1) (pa_cons (pv 3) (pa_cons (pv 4) pa_nil)))) (nomark _)) (pss_one (ps_ret pe_bl)) pss_nil)))))) (pss_cons (ps_set (i := 6) sc.nd rfl (Or.inl rfl) (pcall0 Dstart_case_vn hr (by decide) rfl (pa_cons (pv 0) pa_nil))) (pss_cons (ps_expr (pe_bm PySem.F.plainAttrs_list PySem.F.slot_list_append PySem.F.type_list_append mt_append (pe_ix ix_tup (pv 6) pe_int (fun _ _ => rfl)) (pa_cons pe_int pa_nil))) (pss_cons (ps_expr (pe_bm PySem.F.plainAttrs_list PySem.F.slot_list_append PySem.F.type_list_append mt_append (pe_ix ix_tup (pv 6) pe_int (fun _ _ => rfl)) (pa_cons (pe_tup (pa_cons pe_int (pa_cons pe_int pa_nil))) pa_nil))) (pss_cons (ps_set (i := 7) sc.nd rfl (Or.inl rfl) (pmake0d B.mk_Net DNet_init hr (by decide) rfl B.m_Net (pa_cons pe_dnewK (pa_cons (pe_lst pa_nil) (pa_cons (pe_lst pa_nil) pa_nil))))) (pss_cons (ps_if (PW.pt (pw_or (pt_cmpR (op_neAT 2 (Nat.lt_trans (Nat.add_lt_add_left (by decide : 2 + 1 < 64) _) hr.units)) (pcall0 Dstart_case_vn hr (by decide) rfl (pa_cons (pv 7) pa_nil)) (pe_tup (pa_cons (pe_lst pa_nil) (pa_cons (pe_lst pa_nil) pa_nil))) (nomark _)) (pw_or1 (pt_cmpR (op_neNil hr.units0) (pcall0 Darcs_of hr (by decide) rfl (pa_cons (pv 7) (pa_cons (pe_tup (pa_cons (pe_lst pa_nil) (pa_cons (pe_lst pa_nil) pa_nil))) pa_nil))) (pe_lst pa_nil) (nomark _))))) (pss_one (ps_ret pe_bl)) pss_nil) (pss_one (ps_ret (pe_and (pe_cmpR (op_eqAT 2 (Nat.lt_trans (Nat.add_lt_add_left (by decide : 2 + 1 < 64) _) hr.units)) (pcall0 Dstart_case_vn hr (by decide) rfl (pa_cons (pv 0) pa_nil)) (pe_tup (pa_cons (pe_comp (own := "_law_way") (ys := []) (js := []) rfl (cok atn .nil (by decide) rfl rfl rfl rfl rfl rfl rfl rfl) (pi_list (pv 1)) (fun C fp s H => pe_non)) (pa_cons (pe_lst pa_nil) pa_nil))) (nomark _)) (pe_one (pe_cmpR (op_eqA 1 (Nat.lt_trans (Nat.add_lt_add_left (by decide : 1 + 1 < 64) _) hr.units)) (pcall0 Darcs_of hr (by decide) rfl (pa_cons (pv 0) (pa_cons (pv 3) pa_nil))) (pcall0 D_law_due hr (by decide) rfl (pa_cons (pv 2) (pa_cons (pv 1) (pa_cons (pv 3) pa_nil)))) (nomark _))))))))))))), ?_⟩
  have sl : sizeLine = 16777216 := sizeLine_eq
  have a600 := NC.ok.a600
  have t24 := NC.ok.t24
  have TC : TasksC D H tl t T P := ⟨hT, ⟨O, NC.case_⟩, NC.pk, NC.ok.ways⟩
  have lA := arcsF_len (P := P) (O := O) (show A.length ≤ 1000 by omega) t24 po
  obtain ⟨vt, et, rT⟩ := id hT
  have lv : vt.length = T.length := rT.1
  try dsimp only [gName, tNext]
  refine cut (fun σ H' => σ = [some (.ref x), some (.ref tl), some (.ref al), some (.ref t), none, none, none, none] ∧ Same H H') (fun N hN => ?_) ?_
  · refine ⟨_, rfl, _, rfl, x, t, rfl, D, T, A, B2, n, P, O, NC.any, po, fun l0 H1 g1 nl0 hA1 => ?_⟩
    obtain ⟨bs, eb, rb⟩ := hA1
    have lb : bs.length ≤ 2100 := by rw [rb.1]; exact lA
    refine ⟨.inl ⟨rfl, _, SqL.of eb⟩, (by show 3 ≤ sizeLine; decide), fun t1 nt1 => ⟨l0, _, _, rfl, rfl, same_new nt1 _ _ _ eb, by rw [List.length_map]; omega, hN _ _ ⟨rfl, sUpd (g1.trans (same_new nt1 _)) nl0 _⟩⟩⟩
  rintro σ H1 ⟨rfl, g1⟩
  try dsimp only [gName, tNext]
  refine cut (fun σ H' => ∃ o4 o5 : Option V, σ = [some (.ref x), some (.ref tl), some (.ref al), some (.ref t), o4, o5, none, none] ∧ Same H H') (fun N hN => ?_) ?_
  · refine ⟨_, rfl, tl, _, rfl, .inl (SqL.of (g1 _ _ et)), _, rfl, by omega, by omega, for_range (fun i σ H' => ∃ o4 o5 : Option V, σ = [some (.ref x), some (.ref tl), some (.ref al), some (.ref t), o4, o5, none, none] ∧ Same H H') ⟨none, none, rfl, g1⟩ ?_ ?_⟩
    · rintro i σ H2 hi ⟨o4, o5, rfl, g2⟩
      rw [Int.toNat_natCast, lv] at hi
      have zi : (0 + (i : Int)) = (i : Int) := Int.zero_add _
      have ne := open_ne (P := P) NC.ok.ways hi
      have ln := open_len (P := P) NC.ok.ways hi
      refine ⟨_, rfl, _, rfl, _, rfl, x, t, i, by rw [zi]; rfl, D, T, A, B2, n, P, O, (NC.same g2).any, hi, fun p H3 g3 np hx => ?_⟩
      obtain ⟨vs, ev, rv⟩ := hx
      obtain ⟨w0, hw0⟩ : ∃ w0, (openF T P i)[0]? = some w0 := ⟨_, List.getElem?_eq_getElem (List.length_pos_iff.mpr ne)⟩
      obtain ⟨v0, hv0, tw, uw, rfl, ptw, puw, nuw, etw, us, eu, ru⟩ := rv.get hw0
      have lu : us.length ≤ 100 := by
        obtain ⟨ws', h1, h2⟩ := open_ok NC.ok.ways NC.pk hi _ (List.mem_of_getElem? hw0)
        rw [ru.1]
        exact ((NC.ok.ways ws' h1).2.2 _ h2).2.2.2.2.1
      have lvs : vs.length ≤ 2 := by rw [rv.1]; exact ln
      have a0 : atI vs 0 = some (.ref tw) := atI_nat (j := 0) hv0
      refine ⟨_, rfl, p, _, _, _, rfl, rfl, SqL.of ev, a0, tw, _, _, _, rfl, rfl, SqT.of etw, rfl, .inl ⟨rfl, _, SqL.of eu⟩, (by show 3 ≤ sizeLine; decide), fun t1 nt1 => ⟨uw, _, _, rfl, rfl, same_new nt1 _ _ _ eu, by omega, ?_⟩⟩
      have g4 := sUpd (g3.trans (same_new nt1 (.tup [.str "zzz", .int 1, .int 0]))) nuw (.lst (us ++ [.ref t1]))
      have ev4 : upd (upd H3 t1 (.tup [.str "zzz", .int 1, .int 0])) uw (.lst (us ++ [.ref t1])) p = some (.lst vs) := by
        rw [upd_ne (fun e => puw e.symm)]
        exact same_new nt1 _ _ _ ev
      generalize upd (upd H3 t1 (.tup [.str "zzz", .int 1, .int 0])) uw (.lst (us ++ [.ref t1])) = H4 at g4 ev4 ⊢
      refine ⟨_, rfl, .inl ⟨rfl, _, SqL.of ev4⟩, _, rfl, p, _, _, _, rfl, rfl, SqL.of ev4, a0, p, _, _, rfl, rfl, ev4, by omega, ?_⟩
      have g5 := sUpd g4 np (.lst (vs ++ [.ref tw]))
      generalize upd H4 p (.lst (vs ++ [.ref tw])) = H5 at g5 ⊢
      have k5 := g2.trans g5
      refine ⟨_, rfl, _, rfl, _, rfl, x, t, i, by rw [zi]; rfl, D, T, A, B2, n, P, O, (NC.same k5).any, hi, fun p6 H6 g6 np6 hx6 => ?_⟩
      have k6 := k5.trans g6
      refine ⟨_, rfl, _, rfl, _, rfl, tl, t, i, D, T, P, by rw [zi]; rfl, TC.same k6, hi, fun p7 H7 g7 hw7 => ?_⟩
      obtain ⟨vs6, ev6, rv6⟩ := (waysX hx6).same g7
      obtain ⟨vs7, ev7, rv7⟩ := hw7
      exact ⟨p6, p7, _, _, rfl, rfl, SqL.of ev6, SqL.of ev7, alk_ways rv6 rv7, _, rfl, iteF ⟨_, _, rfl, k6.trans g7⟩⟩
    · rintro σ H2 ⟨o4, o5, rfl, g2⟩
      exact hN _ _ ⟨_, _, rfl, g2⟩
  clear g1
  rintro σ H1 ⟨o4, o5, rfl, g1⟩
  refine ⟨_, rfl, x, false, D, T, A, B2, n, rfl, NC.net.same g1, t24, fun tb kl ol H2 g2 nkl nol klo ec ek eo => ?_⟩
  refine ⟨_, rfl, tb, _, _, _, rfl, rfl, SqT.of ec, rfl, .inl ⟨rfl, _, SqL.of ek⟩, kl, _, _, rfl, rfl, ek, by rw [List.length_map, List.length_map, List.length_range]; omega, ?_⟩
  have g3 := sUpd g2 nkl (.lst (((List.range T.length).map fun _ => none).map pkV ++ [.int 0]))
  have ec3 : upd H2 kl (.lst (((List.range T.length).map fun _ => none).map pkV ++ [.int 0])) tb = some (.tup [.ref kl, .ref ol]) := by
    rw [upd_ne (fun e => by rw [e, ek] at ec; cases ec)]
    exact ec
  have eo3 : upd H2 kl (.lst (((List.range T.length).map fun _ => none).map pkV ++ [.int 0])) ol = some (.lst []) := by
    rw [upd_ne (fun e => klo e.symm)]
    exact eo
  generalize upd H2 kl (.lst (((List.range T.length).map fun _ => none).map pkV ++ [.int 0])) = H3 at g3 ec3 eo3 ⊢
  refine ⟨_, rfl, tb, _, _, _, rfl, rfl, SqT.of ec3, rfl, .inl ⟨rfl, _, SqL.of eo3⟩, (by show 2 ≤ sizeLine; decide), fun t1 nt1 => ⟨ol, _, _, rfl, rfl, same_new nt1 _ _ _ eo3, (by show 0 < sizeLine; decide), ?_⟩⟩
  have g4 := sUpd (g3.trans (same_new nt1 (.tup [.int 0, .int 0]))) nol (.lst ([] ++ [.ref t1]))
  generalize upd (upd H3 t1 (.tup [.int 0, .int 0])) ol (.lst ([] ++ [.ref t1])) = H4 at g4 ⊢
  have k4 := g1.trans g4
  clear g2 g3 g4 ec ek eo ec3 eo3 nkl nol klo nt1
  refine fun td ntd => ⟨(by show 0 ≤ sizeLine; decide), fun tl2 ntl2 => ⟨(by show 0 ≤ sizeLine; decide), fun al2 nal2 => ?_⟩⟩
  have h1 := same_new ntd (.dK [])
  have h2 := same_new ntl2 (.lst [])
  have h3 := same_new nal2 (.lst [])
  have ed : upd (upd (upd H4 td (.dK [])) tl2 (.lst [])) al2 (.lst []) td = some (.dK (toolK [])) := h3 _ _ (h2 _ _ upd_same)
  have et2 : upd (upd (upd H4 td (.dK [])) tl2 (.lst [])) al2 (.lst []) tl2 = some (.lst []) := h3 _ _ upd_same
  have ea2 : upd (upd (upd H4 td (.dK [])) tl2 (.lst [])) al2 (.lst []) al2 = some (.lst []) := upd_same
  have h4 := (h1.trans h2).trans h3
  generalize upd (upd (upd H4 td (.dK [])) tl2 (.lst [])) al2 (.lst []) = H5 at h4 ed et2 ea2 ⊢
  clear h1 h2 h3
  refine fun y dy ny ndy dyy => ?_
  have sm := made_keep2 (C := c_Net) ny ndy (H' := upd (upd H5 dy (.own y)) y (.ins c_Net dy [])) (fun a o _ e => e)
  have nok0 : NetOkG [] [] [] [] 0 := ⟨Nat.zero_le _, List.nodup_nil, fun p hp => (by cases hp), Nat.zero_le _, fun p hp => (by cases hp), by decide, by decide, Nat.zero_le _, fun p hp => (by cases hp), Nat.zero_le _, fun p hp => (by cases hp)⟩
  refine ⟨y, dy, td, tl2, al2, .non, 0, [], [], [], [], rfl, upd_same, sm _ _ ed, ⟨[], sm _ _ et2, A2.nil⟩, ⟨[], sm _ _ ea2, Ref2.nil⟩, .inl ⟨rfl, rfl⟩, nok0, fun H6 fx N0 => ⟨rfl, ?_⟩⟩
  have k6 := k4.trans (h4.trans (made_keep2 ny ndy fx))
  clear sm fx ny ndy dyy ed et2 ea2 h4 k4 g1
  try dsimp only [gName, tNext]
  refine cut (fun σ H' => σ = [some (.ref x), some (.ref tl), some (.ref al), some (.ref t), o4, o5, some (.ref tb), some (.ref y)] ∧ Same H H') (fun N hN => ?_) ?_
  · refine ⟨_, rfl, y, false, [], [], [], [], 0, rfl, N0, Nat.zero_le _, fun tc kc oc H7 g7 _ _ _ ec ek eo => ?_⟩
    refine ⟨(by show 0 ≤ sizeLine; decide), fun e1 ne1 => ⟨(by show 0 ≤ sizeLine; decide), fun e2 ne2 => ⟨(by show 2 ≤ sizeLine; decide), fun te nte => ?_⟩⟩⟩
    have h1 := same_new ne1 (.lst [])
    have h2 := same_new ne2 (.lst [])
    have h3 := same_new nte (.tup [.ref e1, .ref e2])
    have g8 := ((g7.trans h1).trans h2).trans h3
    have ee1 := h3 _ _ (h2 _ _ (upd_same (H := H7) (a := e1) (o := .lst [])))
    have ee2 := h3 _ _ (upd_same (H := upd H7 e1 (.lst [])) (a := e2) (o := .lst []))
    have ete : upd (upd (upd H7 e1 (.lst [])) e2 (.lst [])) te (.tup [.ref e1, .ref e2]) te = some (.tup [.ref e1, .ref e2]) := upd_same
    have h78 := (h1.trans h2).trans h3
    generalize upd (upd (upd H7 e1 (.lst [])) e2 (.lst [])) te (.tup [.ref e1, .ref e2]) = H8 at g8 ee1 ee2 ete h78 ⊢
    clear h1 h2 h3
    refine ⟨tc, te, _, _, rfl, rfl, SqT.of (h78 _ _ ec), SqT.of ete, alk_case (P := []) (O := []) (bs := []) (bs' := []) (h78 _ _ ek) ee1 (h78 _ _ eo) ee2 Ref2.nil Ref2.nil, _, rfl, iteF ?_⟩
    refine ⟨_, rfl, (by show 0 ≤ sizeLine; decide), fun f1 nf1 => ⟨(by show 0 ≤ sizeLine; decide), fun f2 nf2 => ⟨(by show 2 ≤ sizeLine; decide), fun tf ntf => ?_⟩⟩⟩
    have h1 := same_new nf1 (.lst [])
    have h2 := same_new nf2 (.lst [])
    have h3 := same_new ntf (.tup [.ref f1, .ref f2])
    have g9 := ((g8.trans h1).trans h2).trans h3
    have hC : CaseA (upd (upd (upd H8 f1 (.lst [])) f2 (.lst [])) tf (.tup [.ref f1, .ref f2])) tf [] [] := ⟨f1, f2, upd_same, h3 _ _ (h2 _ _ upd_same), ⟨[], h3 _ _ upd_same, Ref2.nil⟩⟩
    generalize upd (upd (upd H8 f1 (.lst [])) f2 (.lst [])) tf (.tup [.ref f1, .ref f2]) = H9 at g9 hC ⊢
    refine ⟨y, tf, rfl, [], [], [], [], 0, [], [], (NetC.mk (N0.same g9) hC nok0 ⟨rfl, fun i j ws h => by simp at h⟩).any, ⟨Nat.zero_le _, fun k hk => by cases hk⟩, fun l Ha gA nl hl => ?_⟩
    obtain ⟨bs, eb, rb⟩ := hl
    obtain rfl : bs = [] := List.length_eq_zero_iff.mp rb.1
    refine ⟨(by show 0 ≤ sizeLine; decide), fun l2 nl2 => ⟨l, l2, _, rfl, rfl, SqL.of (same_new nl2 _ _ _ eb), SqL.of upd_same, _, rfl, iteF (hN _ _ ⟨rfl, ((k6.trans g9).trans gA).trans (same_new nl2 _)⟩)⟩⟩
  clear N0 k6
  rintro σ H7 ⟨rfl, g7⟩
  refine ⟨_, rfl, x, false, D, T, A, B2, n, rfl, NC.net.same g7, t24, fun tc kc oc H8 g8 _ _ _ ec ek eo => ?_⟩
  have g78 := g7.trans g8
  refine ⟨_, rfl, tl, rfl, ⟨_, SqL.of (g78 _ _ et)⟩, comp_Rl (rVal pkV) (fun _ => False) (fun _ => (none : Option Nat)) (SqL.of (g78 _ _ et)) (by rw [rT.1]; omega) (fun a h => h.elim) (fun k y hy H4 g4 Q' hQ => hQ _ _ (.refl _) rfl) fun lk H9 nlk g9 hk => ?_⟩
  obtain ⟨us, ek9, rk9⟩ := hk
  rw [rT.1] at rk9
  rw [rk9.val] at ek9
  refine ⟨(by show 0 ≤ sizeLine; decide), fun lo nlo => ⟨(by show 2 ≤ sizeLine; decide), fun tt ntt => ?_⟩⟩
  have h1 := same_new nlo (.lst [])
  have h2 := same_new ntt (.tup [.ref lk, .ref lo])
  have h3 := h1.trans h2
  refine ⟨tc, tt, _, _, rfl, rfl, SqT.of ((g9.trans h3) _ _ ec), SqT.of upd_same, alk_case (O := []) (bs := []) (bs' := []) ((g9.trans h3) _ _ ek) (h3 _ _ ek9) ((g9.trans h3) _ _ eo) (h2 _ _ upd_same) Ref2.nil Ref2.nil, _, rfl, iteT ?_⟩
  generalize upd (upd H9 lo (.lst [])) tt (.tup [.ref lk, .ref lo]) = Ha at h3 ⊢
  have kA := (g78.trans g9).trans h3
  refine ⟨_, rfl, _, rfl, x, t, rfl, D, T, A, B2, n, P, O, (NC.same kA).any, po, fun l Hb gB nl hl => ?_⟩
  have kB := kA.trans gB
  refine ⟨_, rfl, _, rfl, _, rfl, al, tl, t, A, D, T, P, O, rfl, hA.same kB, by omega, hT.same kB, t24, NC.case_.same kB, NC.pk, NC.ok.ways, po, fun l2 Hc gC hl2 => ?_⟩
  obtain ⟨bs, eb, rb⟩ := hl.same gC
  obtain ⟨cs, ecs, rc⟩ := hl2
  exact ⟨l, l2, _, _, rfl, rfl, SqL.of eb, SqL.of ecs, alk_tups rb rc, q _ (kB.trans gC)⟩

theorem sc_law_told : FnScope ["_law_net", "_law_arcs_here", "_law_tasks", "_law_case_here", "_law_plan", "_law_found", "_law_row", "_law_i", "_law_ways", "_law_answer"] ["_law_net", "_law_arcs_here", "_law_tasks", "_law_case_here", "_law_plan"] (defScope s_law_told) := ⟨rfl, rfl, rfl, by decide +kernel, rfl, by decide +kernel, by decide +kernel⟩
set_option maxHeartbeats 4000000 in
theorem ok_law_told {dV : Value} (F : FunD K "_law_told" "_law_told" s_law_told dV f fd) (B : Bn K mg c_Net f_Net_init) (Dopen_ways : Dx P w K mg base CX0 2 "open_ways" ["net", "case", "i"] [] (spOpen c_Net)) (Dobeys : Dx P w K mg base CX0 1 "obeys" ["case", "plan"] [] spObeys) (Darcs_of : Dx P w K mg base CX0 3 "arcs_of" ["net", "case"] [] (spArcsOf c_Net)) (D_law_whole : Dx P w K mg base CX0 1 "_law_whole" ["_law_found"] [] spWhole) (D_law_open : Dx P w K mg base CX0 1 "_law_open" ["_law_tasks", "_law_case_here", "_law_i"] [] spOpenL) (D_law_obeyed : Dx P w K mg base CX0 1 "_law_obeyed" ["_law_case_here", "_law_runs_here"] [] spObeyed) (D_law_due : Dx P w K mg base CX0 2 "_law_due" ["_law_arcs_here", "_law_tasks", "_law_case_here"] [] spDueA) : FnOk P w K mg base CX0 6 f fd ["_law_net", "_law_arcs_here", "_law_tasks", "_law_case_here", "_law_plan"] (spTold65 c_Net) := by
  have sc := sc_law_told
  refine F.ok sc (fun vs H Q E h => ?_) (fun cdv A outer s H vs Q E hr h => ?_)
  · obtain ⟨x, tl, al, t, th, D, T, A, B2, n, P, O, R, M, rfl, _⟩ := h
    rfl
  obtain ⟨x, tl, al, t, th, D, T, A, B2, n, P, O, R, M, rfl, NC, hT, hA, lT, oo, hP, tr, q⟩ := h
  refine ⟨_, (pss_cons (ps_set (i := 5) sc.nd rfl (Or.inl rfl) (pcall0 Darcs_of hr (by decide) rfl (pa_cons (pv 0) (pa_cons (pv 3) pa_nil)))) (pss_cons (ps_if (PW.pt (pw_or (pt_not (pt_val (pe_callB (call_isiT (K := K) rfl) rfl B.b_isinstance boot_isinstance (pa_cons (pv 5) (pa_cons (pe_bltn (v := .ty "list") rfl B.b_list boot_list rfl) pa_nil))))) (pw_or1 (pt_cmpR (op_neA 1 (Nat.lt_trans (Nat.add_lt_add_left (by decide : 1 + 1 < 64) _) hr.units)) (pv 5) (pcall0 D_law_due hr (by decide) rfl (pa_cons (pv 1) (pa_cons (pv 2) (pa_cons (pv 3) pa_nil)))) (nomark _))))) (pss_one (ps_ret pe_bl)) pss_nil) (pss_cons (ps_for PassesOwn.never rfl (pi_list (pv 5)) (pg_name (i := 6) sc.nd rfl (Or.inl rfl)) (pss_one (ps_if (PW.pt (pw_or (pt_not (pt_val (pe_callB (call_isiT (K := K) rfl) rfl B.b_isinstance boot_isinstance (pa_cons (pv 6) (pa_cons (pe_bltn (v := .ty "tuple") rfl B.b_tuple boot_tuple rfl) pa_nil))))) (pw_or1 (pt_not (pt_val (pe_callB (call_allG rfl) rfl B.b_all PyProof.Rows.Boot.«all» (pa_cons (pe_comp (own := "_law_thing") (ys := []) (js := []) rfl (cok atn .nil (by decide) rfl rfl rfl rfl rfl rfl rfl rfl) (pi_tup (pv 6)) (fun C fp s H => (pcall0 D_law_whole hr (by decide) rfl (pa_cons (pv 0) pa_nil)))) pa_nil))))))) (pss_one (ps_ret pe_bl)) pss_nil))) (pss_cons (ps_for PassesOwn.never rfl (pi_range1 rfl B.b_range (pa_cons (pe_callB call_len_seq rfl B.b_len boot_len (pa_cons (pv 2) pa_nil)) pa_nil)) (pg_name (i := 7) sc.nd rfl (Or.inl rfl)) (pss_cons (ps_set (i := 8) sc.nd rfl (Or.inl rfl) (pcall0 Dopen_ways hr (by decide) rfl (pa_cons (pv 0) (pa_cons (pv 3) (pa_cons (pv 7) pa_nil))))) (pss_one (ps_if (PW.pt (pw_or (pt_not (pt_val (pe_callB (call_isiT (K := K) rfl) rfl B.b_isinstance boot_isinstance (pa_cons (pv 8) (pa_cons (pe_bltn (v := .ty "list") rfl B.b_list boot_list rfl) pa_nil))))) (pw_or1 (pt_cmpR (op_neA 3 (Nat.lt_trans (Nat.add_lt_add_left (by decide : 3 + 1 < 64) _) hr.units)) (pv 8) (pcall0 D_law_open hr (by decide) rfl (pa_cons (pv 2) (pa_cons (pv 3) (pa_cons (pv 7) pa_nil)))) (nomark _))))) (pss_one (ps_ret pe_bl)) pss_nil)))) (pss_cons (ps_set (i := 9) sc.nd rfl (Or.inl rfl) (pcall0 Dobeys hr (by decide) rfl (pa_cons (pv 3) (pa_cons (pv 4) pa_nil)))) (pss_one (ps_ret (pe_and (pe_callB call_isi rfl B.b_isinstance boot_isinstance (pa_cons (pv 9) (pa_cons (pe_bltn (v := .ty "bool") rfl B.b_bool boot_bool rfl) pa_nil))) (pe_one (pe_cmpR op_eq (pv 9) (pcall0 D_law_obeyed hr (by decide) rfl (pa_cons (pv 3) (pa_cons (pe_ix ix_tup (pv 4) pe_int (fun _ _ => rfl)) pa_nil))) (nomark _))))))))))), ?_⟩
  have sl : sizeLine = 16777216 := sizeLine_eq
  have a600 := NC.ok.a600
  have t24 := NC.ok.t24
  have po := oo.pairs
  have TC : TasksC D H tl t T P := ⟨hT, ⟨O, NC.case_⟩, NC.pk, NC.ok.ways⟩
  have trF := arcsF_trip (T := T) (P := P) (O := O) tr
  obtain ⟨vt, et, rT⟩ := id hT
  have lv : vt.length = T.length := rT.1
  refine ⟨_, rfl, _, rfl, x, t, rfl, D, T, A, B2, n, P, O, NC.any, po, fun lf H1 g1 nlf hf => ?_⟩
  obtain ⟨bf, ef, rf⟩ := id hf
  try dsimp only [gName, tNext]
  refine cut (fun σ H' => σ = [some (.ref x), some (.ref al), some (.ref tl), some (.ref t), some (.ref th), some (.ref lf), none, none, none, none] ∧ Same H1 H') (fun N hN => ?_) ?_
  · refine ⟨_, rfl, _, _, _, true, rfl, .lst ef, rfl, _, rfl, iteF ⟨_, rfl, _, rfl, _, rfl, _, rfl, al, tl, t, A, D, T, P, O, rfl, hA.same g1, by omega, hT.same g1, t24, NC.case_.same g1, NC.pk, NC.ok.ways, po, fun l2 H2 g2 hl2 => ?_⟩⟩
    obtain ⟨cs, ecs, rc⟩ := hl2
    exact ⟨lf, l2, _, _, rfl, rfl, SqL.of (g2 _ _ ef), SqL.of ecs, alk_tups (rf.imp fun _ _ q => g2 _ _ q) rc, _, rfl, iteF (hN _ _ ⟨rfl, g2⟩)⟩
  rintro σ H2 ⟨rfl, g2⟩
  try dsimp only [gName, tNext]
  refine cut (fun σ H' => ∃ o6 : Option V, σ = [some (.ref x), some (.ref al), some (.ref tl), some (.ref t), some (.ref th), some (.ref lf), o6, none, none, none] ∧ Same H1 H') (fun N hN => ?_) ?_
  · refine ⟨_, rfl, lf, rfl, ⟨_, SqL.of (g2 _ _ ef)⟩, for_list (xs := bf.map V.ref) (fun k σ H' => ∃ o6 : Option V, σ = [some (.ref x), some (.ref al), some (.ref tl), some (.ref t), some (.ref th), some (.ref lf), o6, none, none, none] ∧ Same H1 H') ⟨none, rfl, g2⟩ (fun k σ H' _ h => by obtain ⟨_, _, g⟩ := h; exact SqL.of (g _ _ ef)) ?_ ?_⟩
    · rintro k y σ H3 hy ⟨o6, rfl, g3⟩
      obtain ⟨b, hb, rfl⟩ := refs_at hy
      have kl : k < (arcsF A T P O).length := by rw [← rf.1]; exact (List.getElem?_eq_some_iff.mp hb).1
      have eb := g3 _ _ (rf.2 k b _ hb (List.getElem?_eq_getElem kl))
      obtain ⟨p, q', g, ek⟩ := trF _ (List.getElem_mem kl)
      rw [ek] at eb
      refine ⟨_, rfl, _, _, _, true, rfl, .tup eb, rfl, _, rfl, iteF ⟨_, rfl, b, rfl, ⟨_, SqT.of eb⟩, comp_Rt (rVal V.bl) (fun _ => False) (fun _ => true) (SqT.of eb) (by show 3 ≤ sizeLine; omega) (fun a h => h.elim) (fun i y hy H4 g4 Q' hQ => ?_) fun lc H4 nlc g4 hc => ?_⟩⟩
      · rw [List.getElem?_map] at hy
        obtain ⟨z, _, rfl⟩ := Option.map_eq_some_iff.mp hy
        exact ⟨_, rfl, z, rfl, hQ _ _ (.refl _) rfl⟩
      obtain ⟨us, eu, ru⟩ := hc
      rw [ru.val] at eu
      refine ⟨lc, _, rfl, SqL.of eu, _, rfl, ?_⟩
      rw [all_true]
      exact iteF ⟨_, rfl, g3.trans g4⟩
    · rintro σ H3 ⟨o6, rfl, g3⟩
      exact hN _ _ ⟨_, rfl, g3⟩
  clear g2
  rintro σ H2 ⟨o6, rfl, g2⟩
  have k2 := g1.trans g2
  try dsimp only [gName, tNext]
  refine cut (fun σ H' => ∃ o7 o8 : Option V, σ = [some (.ref x), some (.ref al), some (.ref tl), some (.ref t), some (.ref th), some (.ref lf), o6, o7, o8, none] ∧ Same H H') (fun N hN => ?_) ?_
  · refine ⟨_, rfl, tl, _, rfl, .inl (SqL.of (k2 _ _ et)), _, rfl, by omega, by omega, for_range (fun i σ H' => ∃ o7 o8 : Option V, σ = [some (.ref x), some (.ref al), some (.ref tl), some (.ref t), some (.ref th), some (.ref lf), o6, o7, o8, none] ∧ Same H H') ⟨none, none, rfl, k2⟩ ?_ ?_⟩
    · rintro i σ H3 hi ⟨o7, o8, rfl, g3⟩
      rw [Int.toNat_natCast, lv] at hi
      have zi : (0 + (i : Int)) = (i : Int) := Int.zero_add _
      refine ⟨_, rfl, _, rfl, _, rfl, x, t, i, by rw [zi]; rfl, D, T, A, B2, n, P, O, (NC.same g3).any, hi, fun p H4 g4 np hp4 => ?_⟩
      obtain ⟨vs, ev, rv⟩ := id hp4
      have k4 := g3.trans g4
      refine ⟨_, rfl, _, _, _, true, rfl, .lst ev, rfl, _, rfl, iteF ⟨_, rfl, _, rfl, _, rfl, _, rfl, tl, t, i, D, T, P, by rw [zi]; rfl, TC.same k4, hi, fun p7 H7 g7 hw7 => ?_⟩⟩
      obtain ⟨vs7, ev7, rv7⟩ := hw7
      exact ⟨p, p7, _, _, rfl, rfl, SqL.of (g7 _ _ ev), SqL.of ev7, alk_ways (rv.imp fun _ _ q => mvS q g7) rv7, _, rfl, iteF ⟨_, _, rfl, k4.trans g7⟩⟩
    · rintro σ H3 ⟨o7, o8, rfl, g3⟩
      exact hN _ _ ⟨_, _, rfl, g3⟩
  rintro σ H3 ⟨o7, o8, rfl, g3⟩
  have lP : P.length = R.length := by rw [NC.pk.len, lT]
  refine ⟨_, rfl, _, rfl, t, th, P, O, R, M, rfl, NC.case_.same g3, lP, by omega, oo, hP.same g3, fun H4 g4 => ?_⟩
  have k4 := g3.trans g4
  obtain ⟨rl, ml, eth, hR, em⟩ := hP.same k4
  refine ⟨_, rfl, _, _, true, rfl, .bb _, _, rfl, iteT ⟨_, rfl, _, rfl, _, rfl, th, _, _, _, rfl, rfl, SqT.of eth, rfl, t, rl, P, O, R, rfl, NC.case_.same k4, lP, by omega, oo, hR, fun H5 g5 => ?_⟩⟩
  have q' := q H5 (k4.trans g5)
  rw [← (decide_eq_true rfl : decide (V.bl (obeyF P O R) = V.bl (obeyF P O R)) = true)] at q'
  exact ⟨rfl, q'⟩

theorem sclaw : FnScope ["_law_script", "_law_many", "_law_far", "_law_tools_here", "_law_tasks", "_law_runs_here", "_law_times", "_law_at", "_law_arcs_here", "_law_net", "_law_begun", "_law_plan", "_law_case_here", "_law_beside", "_law_longer", "_law_twin", "_law_one", "_law_handed", "_law_p", "_law_q", "_law_lag"] ["_law_script"] (defScope slaw) := ⟨rfl, rfl, rfl, by decide +kernel, rfl, by decide +kernel, by decide +kernel⟩
set_option maxHeartbeats 4000000 in
theorem oklaw {dV : Value} (F : FunD K "law" "law" slaw dV f fd) (B : Bn K mg c_Net f_Net_init) (DNet_init : DxM P w K mg base CX0 3 f_Net_init ["self", "tools", "tasks", "arcs", "apart", "moments"] [.non, .int 0] (spNetG c_Net)) (Dstart_case : Dx P w K mg base CX0 1 "start_case" ["net"] [] (spStart c_Net)) (Darcs_of : Dx P w K mg base CX0 3 "arcs_of" ["net", "case"] [] (spArcsOf c_Net)) (D_law_cell_at : Dx P w K mg base CX0 1 "_law_cell_at" ["_law_script", "_law_k"] [] (spCell K)) (D_law_arcs : Dx P w K mg base CX0 1 "_law_arcs" ["_law_cells", "_law_times", "_law_far"] [] spArcsU) (D_law_apart : Dx P w K mg base CX0 2 "_law_apart" ["_law_runs_here", "_law_cell"] [] spApartU) (D_law_case : Dx P w K mg base CX0 2 "_law_case" ["_law_runs_here", "_law_cell"] [] spCaseU) (D_law_built : Dx P w K mg base CX0 3 "_law_built" ["_law_script", "_law_at", "_law_many", "_law_far"] [] (spBuilt K)) (D_law_points : Dx P w K mg base CX0 1 "_law_points" ["_law_runs_here", "_law_times"] [] spPointsB) (D_law_any_case : Dx P w K mg base CX0 2 "_law_any_case" ["_law_script", "_law_tasks"] [] (spAnyCase K)) (D_law_obeyed : Dx P w K mg base CX0 1 "_law_obeyed" ["_law_case_here", "_law_runs_here"] [] spObeyed) (D_law_due : Dx P w K mg base CX0 2 "_law_due" ["_law_arcs_here", "_law_tasks", "_law_case_here"] [] spDueA) (D_law_again : Dx P w K mg base CX0 6 "_law_again" ["_law_net", "_law_tasks", "_law_arcs_here", "_law_case_here"] [] (spAgain c_Net)) (D_law_told : Dx P w K mg base CX0 6 "_law_told" ["_law_net", "_law_arcs_here", "_law_tasks", "_law_case_here", "_law_plan"] [] (spTold65 c_Net)) : FnOk P w K mg base CX0 9 f fd ["_law_script"] (spLaw K) := by
  have sc := sclaw
  refine F.ok sc (fun vs H Q E h => ?_) (fun cdv A outer s H vs Q E hr h => ?_)
  · obtain ⟨a, ns, rfl, _⟩ := h
    rfl
  obtain ⟨a, ns, rfl, hS, n63, q⟩ := h
  refine ⟨_, (pss_cons (ps_set (i := 1) sc.nd rfl (Or.inl rfl) (pe_op op_add pe_int (pe_op op_modN (pcall0 D_law_cell_at hr (by decide) rfl (pa_cons (pv 0) (pa_cons pe_int pa_nil))) pe_int))) (pss_cons (ps_set (i := 2) sc.nd rfl (Or.inl rfl) (pe_ix ix_list (pe_lst (pa_cons pe_int (pa_cons pe_int (pa_cons (pe_op op_add (pe_op op_powB pe_int pe_int) pe_int) pa_nil)))) (pe_op op_modN (pe_op op_fdivB (pcall0 D_law_cell_at hr (by decide) rfl (pa_cons (pv 0) (pa_cons pe_int pa_nil))) pe_int) pe_int) (fun _ _ => rfl))) (pss_cons (ps_asg (pcall0 D_law_built hr (by decide) rfl (pa_cons (pv 0) (pa_cons pe_int (pa_cons (pv 1) (pa_cons (pv 2) pa_nil))))) (pg_tup rfl (pgs_cons (pg_name (i := 3) sc.nd rfl (Or.inl rfl)) (pgs_cons (pg_name (i := 4) sc.nd rfl (Or.inl rfl)) (pgs_cons (pg_name (i := 5) sc.nd rfl (Or.inl rfl)) (pgs_cons (pg_name (i := 6) sc.nd rfl (Or.inl rfl)) pgs_nil)))))) (pss_cons (ps_set (i := 7) sc.nd rfl (Or.inl rfl) (pcall0 D_law_points hr (by decide) rfl (pa_cons (pv 5) (pa_cons (pv 6) pa_nil)))) (pss_cons (ps_set (i := 8) sc.nd rfl (Or.inl rfl) (pcall0 D_law_arcs hr (by decide) rfl (pa_cons (pe_slice sl_list (pv 0) (po_some pe_int) (po_some pe_int)) (pa_cons (pv 7) (pa_cons (pv 2) pa_nil))))) (pss_cons (ps_set (i := 9) sc.nd rfl (Or.inl rfl) (pmake0 B.mk_Net DNet_init hr (by decide) rfl B.m_Net (pa_cons (pe_callTy call_dictD rfl B.b_dict boot_dict1 (pa_cons (pv 3) pa_nil)) (pa_cons (pe_comp (own := "_law_ways") (ys := []) (js := []) rfl (cok atn .nil (by decide) rfl rfl rfl rfl rfl rfl rfl rfl) (pi_list (pv 4)) (fun C fp s H => (pe_callTy (call_listB (K := K) rfl) rfl B.b_list boot_list (pa_cons (pv 0) pa_nil)))) (pa_cons (pe_callTy call_list_of rfl B.b_list boot_list (pa_cons (pv 8) pa_nil)) (pa_cons (pcall0 D_law_apart hr (by decide) rfl (pa_cons (pv 5) (pa_cons (pv 1) pa_nil))) (pa_cons (pe_callB call_len_seq rfl B.b_len boot_len (pa_cons (pv 6) pa_nil)) pa_nil))))))) (pss_cons (ps_set (i := 10) sc.nd rfl (Or.inl rfl) (pcall0 Dstart_case hr (by decide) rfl (pa_cons (pv 9) pa_nil))) (pss_cons (ps_if (PW.pt (pw_or (pt_not (pt_val (pe_callB (call_isiT (K := K) rfl) rfl B.b_isinstance boot_isinstance (pa_cons (pv 10) (pa_cons (pe_bltn (v := .ty "tuple") rfl B.b_tuple boot_tuple rfl) pa_nil))))) (pw_or1 (pt_cmpR (op_neAT 2 (Nat.lt_trans (Nat.add_lt_add_left (by decide : 2 + 1 < 64) _) hr.units)) (pv 10) (pe_tup (pa_cons (pe_comp (own := "_law_run") (ys := []) (js := []) rfl (cok atn .nil (by decide) rfl rfl rfl rfl rfl rfl rfl rfl) (pi_list (pv 5)) (fun C fp s H => pe_non)) (pa_cons (pe_lst pa_nil) pa_nil))) (nomark _))))) (pss_one (ps_ret pe_bl)) pss_nil) (pss_cons (ps_set (i := 11) sc.nd rfl (Or.inl rfl) (pe_tup (pa_cons (pe_callTy call_list_of rfl B.b_list boot_list (pa_cons (pv 5) pa_nil)) (pa_cons (pe_callTy call_list_of rfl B.b_list boot_list (pa_cons (pv 6) pa_nil)) pa_nil)))) (pss_cons (ps_set (i := 12) sc.nd rfl (Or.inl rfl) (pcall0 D_law_case hr (by decide) rfl (pa_cons (pv 5) (pa_cons (pcall0 D_law_cell_at hr (by decide) rfl (pa_cons (pv 0) (pa_cons pe_int pa_nil))) pa_nil)))) (pss_cons (ps_set (i := 13) sc.nd rfl (Or.inl rfl) (pcall0 D_law_any_case hr (by decide) rfl (pa_cons (pv 0) (pa_cons (pv 4) pa_nil)))) (pss_cons (ps_compA (own := "_law_ways") (ys := []) (js := []) sc.nd (i := 14) rfl rfl rfl (cok atn .nil (by decide) rfl rfl rfl rfl rfl rfl rfl rfl) (pi_list (pv 4)) (fun C fp s H => (pe_comp (own := "_law_way") (ys := []) (js := []) rfl (cok atn .nil (by decide) rfl rfl rfl rfl rfl rfl rfl rfl) (pi_listB (K := K) rfl (pv 0)) (fun C fp s H => (pe_tup (pa_cons (pe_op op_add (pe_ix (ix_tupB (K := K) rfl) (pv 0) pe_int (fun _ _ => rfl)) pe_int) (pa_cons (pe_op op_add (pe_ix (ix_tupB (K := K) rfl) (pv 0) pe_int (fun _ _ => rfl)) pe_int) (pa_cons (pe_callTy (call_listB (K := K) rfl) rfl B.b_list boot_list (pa_cons (pe_ix (ix_tupB (K := K) rfl) (pv 0) pe_int (fun _ _ => rfl)) pa_nil)) pa_nil)))))))) (pss_cons (ps_set (i := 15) sc.nd rfl (Or.inl rfl) (pmake0 B.mk_Net DNet_init hr (by decide) rfl B.m_Net (pa_cons (pe_callTy call_dictD rfl B.b_dict boot_dict1 (pa_cons (pv 3) pa_nil)) (pa_cons (pv 14) (pa_cons (pe_op op_cat (pv 8) (pe_lst (pa_cons (pe_tup (pa_cons pe_int (pa_cons pe_int (pa_cons pe_int pa_nil)))) pa_nil))) (pa_cons pe_non (pa_cons (pe_callB call_len_seq rfl B.b_len boot_len (pa_cons (pv 6) pa_nil)) pa_nil))))))) (pss_cons (ps_for PassesOwn.never rfl (pi_list (pe_lst (pa_cons (pv 10) (pa_cons (pv 12) (pa_cons (pv 13) (pa_cons (pv 12) pa_nil)))))) (pg_name (i := 16) sc.nd rfl (Or.inl rfl)) (pss_cons (ps_set (i := 17) sc.nd rfl (Or.inl rfl) (pe_tup (pa_cons (pe_callTy call_list_of rfl B.b_list boot_list (pa_cons (pe_ix ix_tup (pv 16) pe_int (fun _ _ => rfl)) pa_nil)) (pa_cons (pe_callTy call_list_of rfl B.b_list boot_list (pa_cons (pe_ix ix_tup (pv 16) pe_int (fun _ _ => rfl)) pa_nil)) pa_nil)))) (pss_cons (ps_if (PW.pt (pw_or (pt_not (pt_val (pcall0 D_law_told hr (by decide) rfl (pa_cons (pv 9) (pa_cons (pv 8) (pa_cons (pv 4) (pa_cons (pv 17) (pa_cons (pv 11) pa_nil)))))))) (pw_or1 (pt_cmpR (op_neAT 2 (Nat.lt_trans (Nat.add_lt_add_left (by decide : 2 + 1 < 64) _) hr.units)) (pv 17) (pe_tup (pa_cons (pe_ix ix_tup (pv 16) pe_int (fun _ _ => rfl)) (pa_cons (pe_ix ix_tup (pv 16) pe_int (fun _ _ => rfl)) pa_nil))) (nomark _))))) (pss_one (ps_ret pe_bl)) pss_nil) (pss_cons (ps_if (pt_not (pt_val (pcall0 D_law_again hr (by decide) rfl (pa_cons (pv 9) (pa_cons (pv 4) (pa_cons (pv 8) (pa_cons (pv 17) pa_nil))))))) (pss_one (ps_ret pe_bl)) pss_nil) (pss_cons (ps_if (pt_cmpR (op_neA 1 (Nat.lt_trans (Nat.add_lt_add_left (by decide : 1 + 1 < 64) _) hr.units)) (pcall0 Darcs_of hr (by decide) rfl (pa_cons (pv 15) (pa_cons (pv 17) pa_nil))) (pcall0 D_law_due hr (by decide) rfl (pa_cons (pe_op op_cat (pv 8) (pe_lst (pa_cons (pe_tup (pa_cons pe_int (pa_cons pe_int (pa_cons pe_int pa_nil)))) pa_nil))) (pa_cons (pv 14) (pa_cons (pv 17) pa_nil)))) (nomark _)) (pss_one (ps_ret pe_bl)) pss_nil) (pss_one (ps_if (pt_cmpR (op_neA 1 (Nat.lt_trans (Nat.add_lt_add_left (by decide : 1 + 1 < 64) _) hr.units)) (pcall0 Darcs_of hr (by decide) rfl (pa_cons (pv 9) (pa_cons (pv 17) pa_nil))) (pcall0 D_law_due hr (by decide) rfl (pa_cons (pv 8) (pa_cons (pv 4) (pa_cons (pv 17) pa_nil)))) (nomark _)) (pss_one (ps_ret pe_bl)) pss_nil))))))) (pss_cons (ps_for PassesOwn.never rfl (pi_list (pcall0 Darcs_of hr (by decide) rfl (pa_cons (pv 9) (pa_cons (pv 12) pa_nil)))) (pg_tup rfl (pgs_cons (pg_name (i := 18) sc.nd rfl (Or.inl rfl)) (pgs_cons (pg_name (i := 19) sc.nd rfl (Or.inl rfl)) (pgs_cons (pg_name (i := 20) sc.nd rfl (Or.inl rfl)) pgs_nil)))) (pss_one (ps_if (pt_cmpR op_lt (pe_ix ix_list (pv 7) (pv 19) (fun _ _ => rfl)) (pe_op op_add (pe_ix ix_list (pv 7) (pv 18) (fun _ _ => rfl)) (pv 20)) (nomark _)) (pss_one (ps_ret pe_bl)) pss_nil))) (pss_one (ps_ret (pe_and (pe_cmpR (op_eqAT 2 (Nat.lt_trans (Nat.add_lt_add_left (by decide : 2 + 1 < 64) _) hr.units)) (pv 11) (pe_tup (pa_cons (pv 5) (pa_cons (pv 6) pa_nil))) (nomark _)) (pe_one (pcall0 D_law_obeyed hr (by decide) rfl (pa_cons (pv 12) (pa_cons (pv 5) pa_nil)))))))))))))))))))))), ?_⟩
  have sl : sizeLine = 16777216 := sizeLine_eq
  try dsimp only [gName, tNext]
  refine cut (fun σ H' => ∃ m : Int, σ = [some (.ref a), some (.int m), none, none, none, none, none, none, none, none, none, none, none, none, none, none, none, none, none, none, none] ∧ H = H' ∧ 1 ≤ m ∧ m ≤ 4) (fun N hN => ?_) ?_
  · refine ⟨_, rfl, a, ns, 0, rfl, hS, (by decide), fun c0 => ?_⟩
    have mm := fm (a := c0) (n := 4) (by decide)
    exact ⟨_, _, rfl, rfl, (by show (4 : Int) ≠ 0; decide), _, _, rfl, rfl, hN _ _ ⟨_, rfl, rfl, by omega, by omega⟩⟩
  rintro σ Hx ⟨m, rfl, rfl, m1⟩
  refine ⟨_, _, rfl, rfl, ⟨by decide, by decide⟩, _, _, rfl, rfl, (by show 3 ≤ sizeLine; decide), fun lf nlf => ?_⟩
  have g0 := same_new nlf (.lst [.int 1, .int 1, .int ((10 : Int) ^ (7 : Int).toNat + 19)])
  refine ⟨_, rfl, a, ns, 0, rfl, (g0.seq hS), (by decide), fun c0' => ?_⟩
  have m3 := fm (a := c0'.fdiv 4) (n := 3) (by decide)
  obtain ⟨f, hf, far⟩ := far_at m3.1 m3.2
  refine ⟨_, _, rfl, rfl, ⟨by decide, PyProof.noPylong_small (by decide)⟩, _, _, rfl, rfl, (by show (3 : Int) ≠ 0; decide), lf, _, _, _, rfl, rfl, SqL.of upd_same, hf, ?_⟩
  generalize upd H lf (.lst [.int 1, .int 1, .int ((10 : Int) ^ (7 : Int).toNat + 19)]) = H0 at g0 ⊢
  refine ⟨_, rfl, _, rfl, _, rfl, a, ns, 4, m, f, rfl, g0.seq hS, by decide, by decide, m1.1, m1.2, far, fun tb td tl rl ml n0 n1 m0 m1' hs1 hs2 T R M H1 g1 etb ed hT hR em lR bt => ?_⟩
  clear hf nlf m3
  refine ⟨tb, _, rfl, SqT.of etb, rfl, _, _, rfl, _, _, rfl, _, _, rfl, _, _, rfl, rfl, ?_⟩
  have k1 := g0.trans g1
  have r4 := bt.r4
  have M2 := bt.m2
  refine ⟨_, rfl, _, rfl, rl, ml, R, M, rfl, hR, by omega, em, by omega, fun lat H2 g2 eat => ?_⟩
  have k2 := k1.trans g2
  obtain ⟨cs, ecs, lcs⟩ := cut_intsB ns (some 20) (some 41)
  have lsp : (spots R M).length = 2 * R.length + M.length := spots_len M R
  refine ⟨_, rfl, _, rfl, _, rfl, a, _, rfl, k2.seq hS, fun ls nls => ?_⟩
  rw [ecs]
  have gs := same_new nls (.lst (cs.map V.int))
  refine ⟨_, rfl, _, rfl, ls, lat, cs, spots R M, f, rfl, upd_same, by omega, gs _ _ eat, by omega, by omega, far, bt.spots, fun la A H3 g3 hA lA okA => ?_⟩
  have k3 := k2.trans (gs.trans g3)
  have q3 := g2.trans (gs.trans g3)
  have ed3 := q3 _ _ ed
  have hT3 := hT.same q3
  have hR3 := hR.same q3
  have em3 := q3 _ _ em
  have eat3 := (gs.trans g3) _ _ eat
  clear ed hT hR em eat gs nls etb g3 g2 q3
  refine ⟨_, rfl, td, _, rfl, ed3, fun td2 ntd2 => ?_⟩
  have h1 := same_new ntd2 (.dK (toolK [(n0, m0), (n1, m1')]))
  have ed2 : upd H3 td2 (.dK (toolK [(n0, m0), (n1, m1')])) td2 = some (.dK (toolK [(n0, m0), (n1, m1')])) := upd_same
  generalize upd H3 td2 (.dK (toolK [(n0, m0), (n1, m1')])) = H5 at h1 ed2 ⊢
  obtain ⟨vt, et, rT⟩ := hT3.same h1
  refine ⟨_, rfl, tl, rfl, ⟨_, SqL.of et⟩, comp_Rl (rLst rWay) (fun a => An a ∧ H5 a ≠ none) (fun i => T.getD i []) (SqL.of et) (by rw [rT.1, bt.len]; omega) (fun a h => h.2) (fun i y hy H6 g6 Q' hQ => ?_) fun tl2 H6 ntl2 g6 hT2 => ?_⟩
  · obtain ⟨ws, hw, l, rfl, _, us, el, rl'⟩ := rT.at_ hy
    rw [getDo hw] at hQ
    have rl2 := rl'.imp fun _ _ q => mvT q
    refine ⟨_, rfl, l, us, rfl, .inl (SqL.of (g6 _ _ el)), fun p np => ?_⟩
    have gp := same_new np (.lst us)
    exact hQ _ _ gp ⟨p, rfl, .inl np, us, upd_same, rl2.imp fun v e q => mvP (mvS q (g6.trans gp)) fun a h => .inr h⟩
  rw [rng_getD' T [] rT.1] at hT2
  have hT2' := hT2.any
  obtain ⟨ba, ea, ra⟩ := hA.same (h1.trans g6)
  refine ⟨_, rfl, la, _, rfl, .inl (SqL.of ea), fun la2 nla2 => ?_⟩
  have h3 := same_new nla2 (.lst (ba.map V.ref))
  have ela2 : upd H6 la2 (.lst (ba.map V.ref)) la2 = some (.lst (ba.map V.ref)) := upd_same
  generalize upd H6 la2 (.lst (ba.map V.ref)) = H7 at h3 ela2 ⊢
  have h7 := (h1.trans g6).trans h3
  refine ⟨_, rfl, _, rfl, rl, m, R, rfl, hR3.same h7, r4, fun lp2 ps H8 g8 hP p16 okP => ?_⟩
  have h8 := h7.trans g8
  refine ⟨_, rfl, ml, _, rfl, .inl (SqL.of (h8 _ _ em3)), ?_⟩
  have nok : NetOkG [(n0, m0), (n1, m1')] T A (pairK ps) (M.length : Int) := bt.net (by omega) (fun k hk => by
      have := (okA k hk).1
      rw [lsp] at this
      have e : ((2 * R.length + M.length : Nat) : Int) = 2 * (R.length : Int) + M.length := by omega
      rw [e] at this
      exact this) (by unfold pairK; rw [List.length_map]; omega) (fun k hk => by
      obtain ⟨p, hp, rfl⟩ := List.mem_map.mp hk
      obtain ⟨p1, p2, p3, p4, p5, _⟩ := okP p hp
      exact ⟨p.1, p.2, rfl, p1, p2, p3, p4, p5⟩)
  have lT := bt.len
  refine fun x dx nx ndx dxx => ?_
  have sm := made_keep2 (C := c_Net) nx ndx (H' := upd (upd H8 dx (.own x)) x (.ins c_Net dx [])) (fun a o _ e => e)
  have lMm : (M.map V.int).length = M.length := List.length_map _
  refine ⟨x, dx, td2, tl2, la2, .ref lp2, _, [(n0, m0), (n1, m1')], T, A, pairK ps, rfl, upd_same, sm _ _ (((g6.trans h3).trans g8) _ _ ed2), (hT2'.same (h3.trans g8)).same sm, ⟨ba, sm _ _ (g8 _ _ ela2), ra.imp fun a k q => sm _ _ ((h3.trans g8) _ _ q)⟩, .inr ⟨lp2, rfl, hP.same sm⟩, by rw [lMm]; exact nok, fun H9 fx N => ⟨rfl, ?_⟩⟩
  rw [lMm] at N
  have h9 := h8.trans (made_keep2 nx ndx fx)
  have k9 := k3.trans h9
  have ed9 := h9 _ _ ed3
  have hT9 := hT3.same h9
  have hR9 := hR3.same h9
  have hA9 := hA.same h9
  have em9 := h9 _ _ em3
  have eat9 := h9 _ _ eat3
  clear sm fx h8 h7 h3 h1 ed2 hT2 hT2' ela2 hP ea ra et rT nx ndx dxx g6 g8 h9 k3 ed3 hT3 hR3 hA em3 eat3
  have t24 : T.length ≤ 24 := by omega
  have r1 : 1 ≤ R.length := by omega
  refine ⟨_, rfl, x, false, [(n0, m0), (n1, m1')], T, A, pairK ps, _, rfl, N, t24, fun t0 H10 g10 hC0 => ?_⟩
  obtain ⟨bs, er, rR⟩ := hR9.same g10
  have lr' : (bs.map V.ref).length = R.length := by rw [List.length_map, rR.1, List.length_map]
  obtain ⟨kl, ol, ec, ek, ⟨bo, eo, ro⟩⟩ := id hC0
  have k10 := k9.trans g10
  try dsimp only [gName, tNext]
  refine cut (fun σ H' => σ = [some (.ref a), some (.int m), some (.int f), some (.ref td), some (.ref tl), some (.ref rl), some (.ref ml), some (.ref lat), some (.ref la), some (.ref x), some (.ref t0), none, none, none, none, none, none, none, none, none, none] ∧ Same H10 H') (fun N' hN => ?_) ?_
  · refine ⟨_, rfl, _, _, _, true, rfl, .tup ec, rfl, _, rfl, iteF ⟨_, rfl, _, rfl, rl, rfl, ⟨_, SqL.of er⟩, comp_Rl (rVal pkV) (fun _ => False) (fun _ => (none : Option Nat)) (SqL.of er) (by omega) (fun a h => h.elim) (fun k y hy H4 g4 Q' hQ => hQ _ _ (.refl _) rfl) fun lk H11 nlk g11 hk => ?_⟩⟩
    obtain ⟨us, ek9, rk9⟩ := hk
    rw [lr', ← lT] at rk9
    rw [rk9.val] at ek9
    refine ⟨(by show 0 ≤ sizeLine; decide), fun lo nlo => ⟨(by show 2 ≤ sizeLine; decide), fun tt ntt => ?_⟩⟩
    have h1 := same_new nlo (.lst [])
    have h2 := same_new ntt (.tup [.ref lk, .ref lo])
    have h3 := h1.trans h2
    have g13 := g11.trans h3
    exact ⟨t0, tt, _, _, rfl, rfl, SqT.of (g13 _ _ ec), SqT.of upd_same, alk_case (O := []) (bs' := []) (g13 _ _ ek) (h3 _ _ ek9) (g13 _ _ eo) (h2 _ _ upd_same) (ro.imp fun _ _ q => g13 _ _ q) Ref2.nil, _, rfl, iteF (hN _ _ ⟨rfl, g13⟩)⟩
  rintro σ H11 ⟨rfl, g11⟩
  refine ⟨_, rfl, rl, _, rfl, .inl (SqL.of (g11 _ _ er)), fun r2 nr2 => ?_⟩
  have h1 := same_new nr2 (.lst (bs.map V.ref))
  have er2 : upd H11 r2 (.lst (bs.map V.ref)) r2 = some (.lst (bs.map V.ref)) := upd_same
  generalize upd H11 r2 (.lst (bs.map V.ref)) = Ha at h1 er2 ⊢
  refine ⟨_, rfl, ml, _, rfl, .inl (SqL.of (((g10.trans g11).trans h1) _ _ em9)), fun m2 nm2 => ?_⟩
  have h2 := same_new nm2 (.lst (M.map V.int))
  have em2 : upd Ha m2 (.lst (M.map V.int)) m2 = some (.lst (M.map V.int)) := upd_same
  generalize upd Ha m2 (.lst (M.map V.int)) = Hb at h2 em2 ⊢
  refine ⟨(by show 2 ≤ sizeLine; decide), fun th nth => ?_⟩
  have h3 := same_new nth (.tup [.ref r2, .ref m2])
  have eth : upd Hb th (.tup [.ref r2, .ref m2]) th = some (.tup [.ref r2, .ref m2]) := upd_same
  generalize upd Hb th (.tup [.ref r2, .ref m2]) = Hc at h3 eth ⊢
  have gC := g11.trans ((h1.trans h2).trans h3)
  have er3 := (h2.trans h3) _ _ er2
  have em3 := h3 _ _ em2
  have kC := k10.trans gC
  have gC9 := g10.trans gC
  have rRC : Ref2 (fun t k => Hc t = some (.tup (k.map V.int))) bs (R.map rk) := rR.imp fun a k q => gC _ _ q
  clear h1 h2 h3 er2 em2 nth nm2 nr2 g11
  refine ⟨_, rfl, _, rfl, a, ns, 41, rfl, (kC.seq hS), (by decide), fun c41 => ⟨rl, c41, R, rfl, hR9.same gC9, r4, fun r hr => (bt.runs r hr).2.2.2.2, fun t1 P1 ps1 Hd gD hC1 cb => ?_⟩⟩
  have kD := kC.trans gD
  have gD9 := gC9.trans gD
  refine ⟨_, rfl, _, rfl, a, tl, ns, T, rfl, kD.seq hS, hT9.same gD9, by omega, t24, fun ws hw => ⟨(nok.ways ws hw).1, (nok.ways ws hw).2.1⟩, fun t2 P2 ps2 He gE hC2 pk2 ord2 => ?_⟩
  have kE := kD.trans gE
  have gE9 := gD9.trans gE
  obtain ⟨vt, et, rT⟩ := hT9.same gE9
  try dsimp only [gName, tNext]
  refine cut (fun σ H' => ∃ ll : Addr, σ = [some (.ref a), some (.int m), some (.int f), some (.ref td), some (.ref tl), some (.ref rl), some (.ref ml), some (.ref lat), some (.ref la), some (.ref x), some (.ref t0), some (.ref th), some (.ref t1), some (.ref t2), some (.ref ll), none, none, none, none, none, none] ∧ Same He H' ∧ LsA rTask An H' ll (moreT T)) (fun N' hN => ?_) ?_
  · refine ⟨_, rfl, tl, rfl, ⟨_, SqL.of et⟩, comp_Rl (rLst rWay) (fun a => An a ∧ He a ≠ none) (fun i => (T.getD i []).map fun w : Wy => (w.1 + 1, w.2.1 + 1, w.2.2)) (SqL.of et) (by rw [rT.1]; omega) (fun a h => h.2) (fun i y hy H2 g2 Q' hQ => ?_) fun ll Hf nll gF hll => ?_⟩
    · obtain ⟨ws, hw, l, rfl, _, us, el, rl'⟩ := rT.at_ hy
      rw [getDo hw] at hQ
      have w2 : ws.length ≤ 2 := (nok.ways ws (List.mem_of_getElem? hw)).2.1
      have rl2 := rl'.imp fun _ _ q => mvT q
      refine ⟨_, rfl, l, rfl, ⟨_, SqL.of (g2 _ _ el)⟩, comp_Rl rWay (fun a => An a ∧ He a ≠ none) (fun k => (fun w : Wy => (w.1 + 1, w.2.1 + 1, w.2.2)) (ws.getD k (0, 0, []))) (SqL.of (g2 _ _ el)) (by rw [rl'.1]; omega) (fun a h z => h.2 (g2.free z)) (fun k y hy H3 g3 Q2 hQ2 => ?_) fun p H3 np g3 hp => ?_⟩
      · obtain ⟨w, hwk, tw, uw, rfl, _, _, etw, uu, eu, ru⟩ := rl2.at_ hy
        rw [getDo hwk] at hQ2
        have g23 := g2.trans g3
        have etw3 := g23 _ _ etw
        refine ⟨_, rfl, tw, _, _, _, rfl, rfl, SqT.of etw3, rfl, _, _, rfl, rfl, _, rfl, tw, _, _, _, rfl, rfl, SqT.of etw3, rfl, _, _, rfl, rfl, _, rfl, tw, _, _, _, rfl, rfl, SqT.of etw3, rfl, uw, uu, rfl, .inl (SqL.of (g23 _ _ eu)), fun u' nu => ⟨(by show 3 ≤ sizeLine; decide), fun t' nt => ?_⟩⟩
        have e1 := same_new nu (.lst uu)
        have e2 := same_new nt (.tup [.int (w.1 + 1), .int (w.2.1 + 1), .ref u'])
        exact hQ2 _ _ (e1.trans e2) ⟨t', u', rfl, .inl (e1.free nt), .inl nu, upd_same, uu, e2 _ _ upd_same, ru.imp fun v e q => mvP (mvS q (g23.trans (e1.trans e2))) fun a h => .inr h⟩
      · refine hQ _ _ g3 ⟨p, rfl, .inl np, ?_⟩
        have e : (List.range us.length).map (fun k => (fun w : Wy => (w.1 + 1, w.2.1 + 1, w.2.2)) (ws.getD k (0, 0, []))) = ws.map fun w : Wy => (w.1 + 1, w.2.1 + 1, w.2.2) := by
          rw [rl'.1]
          conv => rhs; rw [← rng_getD ws (0, 0, [])]
          rw [List.map_map]
          rfl
        rw [e] at hp
        exact hp.mono fun a h => h.2
    · have e : (List.range vt.length).map (fun i => (T.getD i []).map fun w : Wy => (w.1 + 1, w.2.1 + 1, w.2.2)) = moreT T := by
        unfold moreT
        rw [rT.1]
        conv => rhs; rw [← rng_getD T []]
        rw [List.map_map]
        rfl
      rw [e] at hll
      exact hN _ _ ⟨ll, rfl, gF, hll.any⟩
  rintro σ Hf ⟨ll, rfl, gF, hll⟩
  have gF9 := gE9.trans gF
  have kF := kE.trans gF
  have b9 : ∀ ws ∈ T, ∀ w ∈ ws, w.2.1 ≤ 900000000 := fun ws hw w hww => by
    obtain ⟨i, hi⟩ := List.mem_iff_getElem?.mp hw
    have il := (List.getElem?_eq_some_iff.mp hi).1
    exact ((bt.tasks.task i ws _ hi (List.getElem?_eq_getElem (show i < R.length by omega))).way w hww).2.2.1
  have nok2 := more_net nok b9 (by omega) (by omega)
  try dsimp only [gName, tNext]
  refine cut (fun σ H' => ∃ y : Addr, σ = [some (.ref a), some (.int m), some (.int f), some (.ref td), some (.ref tl), some (.ref rl), some (.ref ml), some (.ref lat), some (.ref la), some (.ref x), some (.ref t0), some (.ref th), some (.ref t1), some (.ref t2), some (.ref ll), some (.ref y), none, none, none, none, none] ∧ Same Hf H' ∧ NetG c_Net false H' y [(n0, m0), (n1, m1')] (moreT T) (A ++ [[0, 1, 0]]) [] (M.length : Int)) (fun N' hN => ?_) ?_
  · refine ⟨_, rfl, td, _, rfl, gF9 _ _ ed9, fun td3 ntd3 => ?_⟩
    have h1 := same_new ntd3 (.dK (toolK [(n0, m0), (n1, m1')]))
    have ed3 : upd Hf td3 (.dK (toolK [(n0, m0), (n1, m1')])) td3 = some (.dK (toolK [(n0, m0), (n1, m1')])) := upd_same
    generalize upd Hf td3 (.dK (toolK [(n0, m0), (n1, m1')])) = H1' at h1 ed3 ⊢
    obtain ⟨ba, ea, ra⟩ := hA9.same (gF9.trans h1)
    have lba : ba.length ≤ 63 := by rw [ra.1]; omega
    refine ⟨_, rfl, _, rfl, (by show 3 ≤ sizeLine; decide), fun t3 nt3 => ⟨(by show 1 ≤ sizeLine; decide), fun l3 nl3 => ?_⟩⟩
    have h2 := (same_new nt3 (.tup [.int 0, .int 1, .int 0])).trans (same_new nl3 (.lst [.ref t3]))
    refine ⟨la, l3, _, _, rfl, rfl, h2 _ _ ea, upd_same, by rw [List.length_map]; simp; omega, fun lz nlz => ?_⟩
    have hz := tups_cat (ra.imp fun a k q => h2 _ _ q) (Ref2.one (k := [0, 1, 0]) (a := t3) (same_new nl3 _ _ _ upd_same)) nlz
    have h4 := h2.trans (same_new nlz (.lst (ba.map V.ref ++ [.ref t3])))
    replace hz : TupsA (upd (upd (upd H1' t3 (.tup [.int 0, .int 1, .int 0])) l3 (.lst [.ref t3])) lz (.lst (ba.map V.ref ++ [.ref t3]))) lz (A ++ [[0, 1, 0]]) := hz
    generalize upd (upd (upd H1' t3 (.tup [.int 0, .int 1, .int 0])) l3 (.lst [.ref t3])) lz (.lst (ba.map V.ref ++ [.ref t3])) = H4' at hz h4 ⊢
    have h5 := h1.trans h4
    refine ⟨_, rfl, ml, _, rfl, .inl (SqL.of ((gF9.trans h5) _ _ em9)), ?_⟩
    refine fun y dy ny ndy dyy => ?_
    have sm := made_keep2 (C := c_Net) ny ndy (H' := upd (upd H4' dy (.own y)) y (.ins c_Net dy [])) (fun a o _ e => e)
    refine ⟨y, dy, td3, ll, lz, .non, _, [(n0, m0), (n1, m1')], moreT T, A ++ [[0, 1, 0]], [], rfl, upd_same, sm _ _ (h4 _ _ ed3), (hll.same h5).same sm, hz.same sm, .inl ⟨rfl, rfl⟩, by rw [lMm]; exact nok2, fun H9' fx N2 => ⟨rfl, ?_⟩⟩
    rw [lMm] at N2
    exact hN _ _ ⟨y, rfl, h5.trans (made_keep2 ny ndy fx), N2⟩
  rintro σ Hg ⟨y, rfl, gG, N2⟩
  have gG9 := gF9.trans gG
  have kG := kF.trans gG
  have hll2 := hll.same gG
  have cs : ∀ v ∈ [V.ref t0, .ref t1, .ref t2, .ref t1], ∃ (t : Addr) (P : Pk) (O : List Ky), v = .ref t ∧ CaseA Hg t P O ∧ PkOk T P ∧ OrdOk O R.length := fun v hv => by
    simp only [List.mem_cons, List.not_mem_nil, or_false] at hv
    have c1 : ∃ (t : Addr) (P : Pk) (O : List Ky), V.ref t1 = .ref t ∧ CaseA Hg t P O ∧ PkOk T P ∧ OrdOk O R.length := ⟨t1, P1, _, rfl, hC1.same ((gE.trans gF).trans gG), cb.ok bt, cb.ordOk⟩
    rcases hv with rfl | rfl | rfl | rfl
    · exact ⟨t0, _, _, rfl, hC0.same ((((gC.trans gD).trans gE).trans gF).trans gG), pk_none rfl, OrdOk.nil⟩
    · exact c1
    · exact ⟨t2, P2, _, rfl, hC2.same (gF.trans gG), pk2, lT ▸ ord2⟩
    · exact c1
  have hP9 : PlanA Hg th R M := by
    have e := ((gD.trans gE).trans gF).trans gG
    exact ⟨r2, m2, e _ _ eth, ⟨bs, e _ _ er3, rRC.imp fun a k q => e _ _ q⟩, e _ _ em3⟩
  have trA : ∀ k ∈ A, ∃ p q g : Int, k = [p, q, g] := fun k hk => by
    obtain ⟨p, q, g, e, _⟩ := (okA k hk).1
    exact ⟨p, q, g, e⟩
  have NG := N.same gG9
  have hTG := hT9.same gG9
  have hAG := hA9.same gG9
  have hCG := hC1.same ((gE.trans gF).trans gG)
  have hRG := hR9.same gG9
  have eatG := gG9 _ _ eat9
  have emG := gG9 _ _ em9
  clear hC0 hC1 hC2 gE gF gG gD gC rT et eth er3 em3 rRC hll N ed9 hT9 hR9 hA9 em9 eat9 ec ek eo ro er rR
  try dsimp only [gName, tNext]
  refine cut (fun σ H' => ∃ o16 o17 : Option V, σ = [some (.ref a), some (.int m), some (.int f), some (.ref td), some (.ref tl), some (.ref rl), some (.ref ml), some (.ref lat), some (.ref la), some (.ref x), some (.ref t0), some (.ref th), some (.ref t1), some (.ref t2), some (.ref ll), some (.ref y), o16, o17, none, none, none] ∧ Same Hg H') (fun N' hN => ?_) ?_
  · refine ⟨_, rfl, _, rfl, _, rfl, _, rfl, (by show 4 ≤ sizeLine; decide), fun l4 nl4 => ?_⟩
    have g4 := same_new nl4 (.lst [.ref t0, .ref t1, .ref t2, .ref t1])
    refine ⟨l4, rfl, ⟨_, SqL.of upd_same⟩, for_list (xs := [.ref t0, .ref t1, .ref t2, .ref t1]) (fun k σ H' => ∃ o16 o17 : Option V, σ = [some (.ref a), some (.int m), some (.int f), some (.ref td), some (.ref tl), some (.ref rl), some (.ref ml), some (.ref lat), some (.ref la), some (.ref x), some (.ref t0), some (.ref th), some (.ref t1), some (.ref t2), some (.ref ll), some (.ref y), o16, o17, none, none, none] ∧ Same (upd Hg l4 (.lst [.ref t0, .ref t1, .ref t2, .ref t1])) H') ⟨none, none, rfl, .refl _⟩ (fun k σ H' _ h => by obtain ⟨_, _, _, g⟩ := h; exact SqL.of (g _ _ upd_same)) ?_ ?_⟩
    · rintro k v σ Hh hv ⟨o16, o17, rfl, gH⟩
      obtain ⟨t, P, O, rfl, hC, pk, ord⟩ := cs v (List.mem_of_getElem? hv)
      have gh := g4.trans gH
      obtain ⟨kl, ol, ec, ek, ⟨bo, eo, ro⟩⟩ := hC.same gh
      have o1000 := ord.1
      refine ⟨_, rfl, t, _, _, _, rfl, rfl, SqT.of ec, rfl, kl, _, rfl, .inl (SqL.of ek), fun k2 nk2 => ?_⟩
      have gk := same_new nk2 (.lst (P.map pkV))
      have ek2 : upd Hh k2 (.lst (P.map pkV)) k2 = some (.lst (P.map pkV)) := upd_same
      generalize upd Hh k2 (.lst (P.map pkV)) = Hi at gk ek2 ⊢
      refine ⟨_, rfl, t, _, _, _, rfl, rfl, SqT.of (gk _ _ ec), rfl, ol, _, rfl, .inl (SqL.of (gk _ _ eo)), fun o2 no2 => ?_⟩
      have go := same_new no2 (.lst (bo.map V.ref))
      have eo2 : upd Hi o2 (.lst (bo.map V.ref)) o2 = some (.lst (bo.map V.ref)) := upd_same
      generalize upd Hi o2 (.lst (bo.map V.ref)) = Hj at go eo2 ⊢
      refine ⟨(by show 2 ≤ sizeLine; decide), fun t5 nt5 => ?_⟩
      have gt := same_new nt5 (.tup [.ref k2, .ref o2])
      have et5 : upd Hj t5 (.tup [.ref k2, .ref o2]) t5 = some (.tup [.ref k2, .ref o2]) := upd_same
      generalize upd Hj t5 (.tup [.ref k2, .ref o2]) = Hk at gt et5 ⊢
      have gj := (gk.trans go).trans gt
      have ek5 := (go.trans gt) _ _ ek2
      have eo5 := gt _ _ eo2
      have rok := ro.imp fun a k q => gj _ _ q
      have hC5 : CaseA Hk t5 P O := ⟨k2, o2, et5, ek5, ⟨bo, eo5, rok⟩⟩
      have kk := gh.trans gj
      have ec' := gj _ _ ec
      have ek' := gj _ _ ek
      have eo' := gj _ _ eo
      clear gt go gk nt5 no2 nk2 ek2 eo2
      refine ⟨_, rfl, _, rfl, _, rfl, _, rfl, _, rfl, x, tl, la, t5, th, [(n0, m0), (n1, m1')], T, A, pairK ps, _, P, O, R, M, rfl, ⟨NG.same kk, hC5, nok, pk⟩, hTG.same kk, hAG.same kk, lT, ord, hP9.same kk, trA, fun Hl gL => ⟨_, rfl, iteF ?_⟩⟩
      refine ⟨_, rfl, _, rfl, t, _, _, _, rfl, rfl, SqT.of (gL _ _ ec'), rfl, _, rfl, t, _, _, _, rfl, rfl, SqT.of (gL _ _ ec'), rfl, (by show 2 ≤ sizeLine; decide), fun tt ntt => ?_⟩
      have h6 := gL.trans (same_new ntt (.tup [.ref kl, .ref ol]))
      refine ⟨t5, tt, _, _, rfl, rfl, SqT.of (h6 _ _ et5), SqT.of upd_same, alk_case (h6 _ _ ek5) (h6 _ _ ek') (h6 _ _ eo5) (h6 _ _ eo') (rok.imp fun _ _ q => h6 _ _ q) (rok.imp fun _ _ q => h6 _ _ q), _, rfl, iteF ?_⟩
      generalize upd Hl tt (.tup [.ref kl, .ref ol]) = Hm at h6 ⊢
      have km := kk.trans h6
      refine ⟨_, rfl, _, rfl, _, rfl, _, rfl, x, tl, la, t5, [(n0, m0), (n1, m1')], T, A, pairK ps, _, P, O, rfl, ⟨NG.same km, hC5.same h6, nok, pk⟩, hTG.same km, hAG.same km, ord.pairs, fun Hn gN => ⟨_, rfl, iteF ?_⟩⟩
      have h7 := h6.trans gN
      have kn := kk.trans h7
      refine ⟨_, rfl, _, rfl, y, t5, rfl, [(n0, m0), (n1, m1')], moreT T, A ++ [[0, 1, 0]], [], _, P, O, (NetC.mk (N2.same kn) (hC5.same h7) nok2 (moreT_pk pk)).any, ord.pairs, fun l7 Ho gO nl7 hl7 => ?_⟩
      have h8 := h7.trans gO
      have ko := kk.trans h8
      obtain ⟨ba, ea, ra⟩ := hAG.same ko
      have lba : ba.length ≤ 63 := by rw [ra.1]; omega
      refine ⟨_, rfl, (by show 3 ≤ sizeLine; decide), fun t3 nt3 => ⟨(by show 1 ≤ sizeLine; decide), fun l3 nl3 => ?_⟩⟩
      have h2 := (same_new nt3 (.tup [.int 0, .int 1, .int 0])).trans (same_new nl3 (.lst [.ref t3]))
      refine ⟨la, l3, _, _, rfl, rfl, h2 _ _ ea, upd_same, by rw [List.length_map]; simp; omega, fun lz nlz => ?_⟩
      have hz := tups_cat (ra.imp fun a k q => h2 _ _ q) (Ref2.one (k := [0, 1, 0]) (a := t3) (same_new nl3 _ _ _ upd_same)) nlz
      have h4 := h2.trans (same_new nlz (.lst (ba.map V.ref ++ [.ref t3])))
      replace hz : TupsA (upd (upd (upd Ho t3 (.tup [.int 0, .int 1, .int 0])) l3 (.lst [.ref t3])) lz (.lst (ba.map V.ref ++ [.ref t3]))) lz (A ++ [[0, 1, 0]]) := hz
      generalize upd (upd (upd Ho t3 (.tup [.int 0, .int 1, .int 0])) l3 (.lst [.ref t3])) lz (.lst (ba.map V.ref ++ [.ref t3])) = Hp' at hz h4 ⊢
      have h9 := h8.trans h4
      have kp := kk.trans h9
      refine ⟨_, rfl, _, rfl, lz, ll, t5, A ++ [[0, 1, 0]], [(n0, m0), (n1, m1')], moreT T, P, O, rfl, hz, by rw [List.length_append]; simp; omega, hll2.same kp, by rw [moreT_len]; exact t24, hC5.same h9, moreT_pk pk, nok2.ways, ord.pairs, fun l8 Hq gQ hl8 => ?_⟩
      obtain ⟨c7, e7, r7⟩ := hl7.same (h4.trans gQ)
      obtain ⟨c8, e8, r8⟩ := hl8
      refine ⟨l7, l8, _, _, rfl, rfl, SqL.of e7, SqL.of e8, alk_tups r7 r8, _, rfl, iteF ?_⟩
      have h10 := h9.trans gQ
      have kq := kk.trans h10
      clear e7 r7 e8 r8 hl7 hz h4 h2 ra ea nl3 nt3 nlz h9 h8 kp
      refine ⟨_, rfl, _, rfl, x, t5, rfl, [(n0, m0), (n1, m1')], T, A, pairK ps, _, P, O, (NetC.mk (NG.same kq) (hC5.same h10) nok pk).any, ord.pairs, fun l9 Hr gR nl9 hl9 => ?_⟩
      have h11 := h10.trans gR
      have kr := kk.trans h11
      refine ⟨_, rfl, _, rfl, _, rfl, la, tl, t5, A, [(n0, m0), (n1, m1')], T, P, O, rfl, hAG.same kr, by omega, hTG.same kr, t24, hC5.same h11, pk, nok.ways, ord.pairs, fun l10 Hs gS hl10 => ?_⟩
      obtain ⟨c7, e7, r7⟩ := hl9.same gS
      obtain ⟨c8, e8, r8⟩ := hl10
      refine ⟨l9, l10, _, _, rfl, rfl, SqL.of e7, SqL.of e8, alk_tups r7 r8, _, rfl, iteF ⟨_, _, rfl, ?_⟩⟩
      exact ((gH.trans gj).trans h11).trans gS
    · rintro σ Hh ⟨o16, o17, rfl, gH⟩
      exact hN _ _ ⟨_, _, rfl, g4.trans gH⟩
  rintro σ Hh ⟨o16, o17, rfl, gH⟩
  have kept := arcsF_kept bt cb okA
  refine ⟨_, rfl, _, rfl, x, t1, rfl, [(n0, m0), (n1, m1')], T, A, pairK ps, _, P1, pairK ps1, (NetC.mk (NG.same gH) (hCG.same gH) nok (cb.ok bt)).any, cb.ordOk.pairs, fun l9 Hr gR nl9 hl9 => ?_⟩
  obtain ⟨c9, e9, r9⟩ := hl9
  have gHR := gH.trans gR
  refine ⟨l9, rfl, ⟨_, SqL.of e9⟩, for_list (xs := c9.map V.ref) (fun k σ H' => H' = Hr ∧ ∃ o18 o19 o20 : Option V, σ = [some (.ref a), some (.int m), some (.int f), some (.ref td), some (.ref tl), some (.ref rl), some (.ref ml), some (.ref lat), some (.ref la), some (.ref x), some (.ref t0), some (.ref th), some (.ref t1), some (.ref t2), some (.ref ll), some (.ref y), o16, o17, o18, o19, o20]) ⟨rfl, none, none, none, rfl⟩ (fun k σ H' _ h => by rw [h.1]; exact SqL.of e9) ?_ ?_⟩
  · rintro k v σ Hs hv ⟨rfl, o18, o19, o20, rfl⟩
    obtain ⟨b, hb, rfl⟩ := refs_at hv
    have kl : k < (arcsF A T P1 (pairK ps1)).length := by rw [← r9.1]; exact (List.getElem?_eq_some_iff.mp hb).1
    have eb := r9.2 k b _ hb (List.getElem?_eq_getElem kl)
    obtain ⟨p, q', g, ek, p0, p1, q0, q1, le⟩ := kept _ (List.getElem_mem kl)
    rw [ek] at eb
    have atp : ∀ z : Int, 0 ≤ z → z < ((spots R M).length : Int) → atI ((spots R M).map V.int) z = some (.int ((spots R M).getD z.toNat 0)) := fun z z0 z1 => by
      have hz := List.getElem?_eq_getElem (show z.toNat < (spots R M).length by omega)
      have := atI_nat (map_at (f := V.int) hz)
      rw [Int.toNat_of_nonneg z0] at this
      rw [this, getDo hz]
    refine ⟨b, _, rfl, SqT.of eb, rfl, _, _, rfl, _, _, rfl, _, _, rfl, rfl, ?_⟩
    exact ⟨_, rfl, _, rfl, lat, _, _, _, rfl, rfl, SqL.of (gHR _ _ eatG), (atp q' q0 q1), _, rfl, _, rfl, lat, _, _, _, rfl, rfl, SqL.of (gHR _ _ eatG), (atp p p0 p1), _, rfl, _, _, rfl, rfl, _, _, rfl, rfl, _, rfl, dF (by show ¬ ((spots R M).getD q'.toNat 0 < (spots R M).getD p.toNat 0 + g); omega) ⟨rfl, _, _, _, rfl⟩⟩
  · rintro σ Hs ⟨rfl, o18, o19, o20, rfl⟩
    obtain ⟨r2', m2', eth', ⟨bs', er', rR'⟩, em'⟩ := hP9.same gHR
    obtain ⟨bt', ert, rRt⟩ := hRG.same gHR
    refine ⟨_, rfl, _, rfl, _, rfl, (by show 2 ≤ sizeLine; decide), fun tt ntt => ?_⟩
    have h6 := same_new ntt (.tup [.ref rl, .ref ml])
    refine ⟨th, tt, _, _, rfl, rfl, SqT.of (h6 _ _ eth'), SqT.of upd_same, ⟨.inr ⟨r2', rl, _, _, rfl, rfl, .inr ⟨SqL.of (h6 _ _ er'), SqL.of (h6 _ _ ert)⟩, alk_tups (rR'.imp fun _ _ q => h6 _ _ q) (rRt.imp fun _ _ q => h6 _ _ q)⟩, .inl (.inr ⟨m2', ml, _, _, rfl, rfl, .inr ⟨SqL.of (h6 _ _ em'), SqL.of (h6 _ _ (gHR _ _ emG))⟩, alk_refl (smp_ints M)⟩), trivial⟩, _, rfl, iteT ?_⟩
    have g7 := gHR.trans h6
    refine ⟨_, rfl, _, rfl, t1, rl, P1, pairK ps1, R, rfl, hCG.same g7, cb.len, by omega, cb.ordOk, hRG.same g7, fun H' g' => ?_⟩
    rw [obey_case cb]
    exact q _

end
set_option maxHeartbeats 4000000 in
theorem all_mk {l : PySem.W.OpenLaw} {w : World} {K : PySem.W.Frag} {h : Heap} {mg : Str → Option Value} {fa fis_name fpoints_of fcopy_of_task frefuse_wrong_tools frefuse_wrong_uses frefuse_wrong_tasks frefuse_wrong_arcs frefuse_wrong_pairs fstart_case fopen_ways fobeys farcs_of f_law_cell_at f_law_whole f_law_mixed f_law_meet f_law_names f_law_runs f_law_heats f_law_uses f_law_task f_law_used f_law_tools f_law_arcs f_law_apart f_law_case f_law_built f_law_points f_law_any_case f_law_open f_law_obeyed f_law_due f_law_again f_law_told flaw c_Net f_Net_init : Addr} (X : K.In h) (G : h.Ns mainGlobals mg) (hfa : mg "law" = some (.ref fa))
    {odis_name anis_name : Option Addr} {slis_name : Array (Option Value)} {ocis_name kVis_name dcis_name pmis_name cdis_name ctis_name : Value}
    {odpoints_of anpoints_of : Option Addr} {slpoints_of : Array (Option Value)} {ocpoints_of kVpoints_of dcpoints_of pmpoints_of cdpoints_of ctpoints_of : Value}
    {odcopy_of_task ancopy_of_task : Option Addr} {slcopy_of_task : Array (Option Value)} {occopy_of_task kVcopy_of_task dccopy_of_task pmcopy_of_task cdcopy_of_task ctcopy_of_task : Value}
    {odrefuse_wrong_tools anrefuse_wrong_tools : Option Addr} {slrefuse_wrong_tools : Array (Option Value)} {ocrefuse_wrong_tools kVrefuse_wrong_tools dcrefuse_wrong_tools pmrefuse_wrong_tools cdrefuse_wrong_tools ctrefuse_wrong_tools : Value}
    {odrefuse_wrong_uses anrefuse_wrong_uses : Option Addr} {slrefuse_wrong_uses : Array (Option Value)} {ocrefuse_wrong_uses kVrefuse_wrong_uses dcrefuse_wrong_uses pmrefuse_wrong_uses cdrefuse_wrong_uses ctrefuse_wrong_uses : Value}
    {odrefuse_wrong_tasks anrefuse_wrong_tasks : Option Addr} {slrefuse_wrong_tasks : Array (Option Value)} {ocrefuse_wrong_tasks kVrefuse_wrong_tasks dcrefuse_wrong_tasks pmrefuse_wrong_tasks cdrefuse_wrong_tasks ctrefuse_wrong_tasks : Value}
    {odrefuse_wrong_arcs anrefuse_wrong_arcs : Option Addr} {slrefuse_wrong_arcs : Array (Option Value)} {ocrefuse_wrong_arcs kVrefuse_wrong_arcs dcrefuse_wrong_arcs pmrefuse_wrong_arcs cdrefuse_wrong_arcs ctrefuse_wrong_arcs : Value}
    {odrefuse_wrong_pairs anrefuse_wrong_pairs : Option Addr} {slrefuse_wrong_pairs : Array (Option Value)} {ocrefuse_wrong_pairs kVrefuse_wrong_pairs dcrefuse_wrong_pairs pmrefuse_wrong_pairs cdrefuse_wrong_pairs ctrefuse_wrong_pairs : Value}
    {odstart_case anstart_case : Option Addr} {slstart_case : Array (Option Value)} {ocstart_case kVstart_case dcstart_case pmstart_case cdstart_case ctstart_case : Value}
    {odopen_ways anopen_ways : Option Addr} {slopen_ways : Array (Option Value)} {ocopen_ways kVopen_ways dcopen_ways pmopen_ways cdopen_ways ctopen_ways : Value}
    {odobeys anobeys : Option Addr} {slobeys : Array (Option Value)} {ocobeys kVobeys dcobeys pmobeys cdobeys ctobeys : Value}
    {odarcs_of anarcs_of : Option Addr} {slarcs_of : Array (Option Value)} {ocarcs_of kVarcs_of dcarcs_of pmarcs_of cdarcs_of ctarcs_of : Value}
    {od_law_cell_at an_law_cell_at : Option Addr} {sl_law_cell_at : Array (Option Value)} {oc_law_cell_at kV_law_cell_at dc_law_cell_at pm_law_cell_at cd_law_cell_at ct_law_cell_at : Value}
    {od_law_whole an_law_whole : Option Addr} {sl_law_whole : Array (Option Value)} {oc_law_whole kV_law_whole dc_law_whole pm_law_whole cd_law_whole ct_law_whole : Value}
    {od_law_mixed an_law_mixed : Option Addr} {sl_law_mixed : Array (Option Value)} {oc_law_mixed kV_law_mixed dc_law_mixed pm_law_mixed cd_law_mixed ct_law_mixed : Value}
    {od_law_meet an_law_meet : Option Addr} {sl_law_meet : Array (Option Value)} {oc_law_meet kV_law_meet dc_law_meet pm_law_meet cd_law_meet ct_law_meet : Value}
    {od_law_names an_law_names : Option Addr} {sl_law_names : Array (Option Value)} {oc_law_names kV_law_names dc_law_names pm_law_names cd_law_names ct_law_names : Value}
    {od_law_runs an_law_runs : Option Addr} {sl_law_runs : Array (Option Value)} {oc_law_runs kV_law_runs dc_law_runs pm_law_runs cd_law_runs ct_law_runs : Value}
    {od_law_heats an_law_heats : Option Addr} {sl_law_heats : Array (Option Value)} {oc_law_heats kV_law_heats dc_law_heats pm_law_heats cd_law_heats ct_law_heats : Value}
    {od_law_uses an_law_uses : Option Addr} {sl_law_uses : Array (Option Value)} {oc_law_uses kV_law_uses dc_law_uses pm_law_uses cd_law_uses ct_law_uses : Value}
    {od_law_task an_law_task : Option Addr} {sl_law_task : Array (Option Value)} {oc_law_task kV_law_task dc_law_task pm_law_task cd_law_task ct_law_task : Value}
    {od_law_used an_law_used : Option Addr} {sl_law_used : Array (Option Value)} {oc_law_used kV_law_used dc_law_used pm_law_used cd_law_used ct_law_used : Value}
    {od_law_tools an_law_tools : Option Addr} {sl_law_tools : Array (Option Value)} {oc_law_tools kV_law_tools dc_law_tools pm_law_tools cd_law_tools ct_law_tools : Value}
    {od_law_arcs an_law_arcs : Option Addr} {sl_law_arcs : Array (Option Value)} {oc_law_arcs kV_law_arcs dc_law_arcs pm_law_arcs cd_law_arcs ct_law_arcs : Value}
    {od_law_apart an_law_apart : Option Addr} {sl_law_apart : Array (Option Value)} {oc_law_apart kV_law_apart dc_law_apart pm_law_apart cd_law_apart ct_law_apart : Value}
    {od_law_case an_law_case : Option Addr} {sl_law_case : Array (Option Value)} {oc_law_case kV_law_case dc_law_case pm_law_case cd_law_case ct_law_case : Value}
    {od_law_built an_law_built : Option Addr} {sl_law_built : Array (Option Value)} {oc_law_built kV_law_built dc_law_built pm_law_built cd_law_built ct_law_built : Value}
    {od_law_points an_law_points : Option Addr} {sl_law_points : Array (Option Value)} {oc_law_points kV_law_points dc_law_points pm_law_points cd_law_points ct_law_points : Value}
    {od_law_any_case an_law_any_case : Option Addr} {sl_law_any_case : Array (Option Value)} {oc_law_any_case kV_law_any_case dc_law_any_case pm_law_any_case cd_law_any_case ct_law_any_case : Value}
    {od_law_open an_law_open : Option Addr} {sl_law_open : Array (Option Value)} {oc_law_open kV_law_open dc_law_open pm_law_open cd_law_open ct_law_open : Value}
    {od_law_obeyed an_law_obeyed : Option Addr} {sl_law_obeyed : Array (Option Value)} {oc_law_obeyed kV_law_obeyed dc_law_obeyed pm_law_obeyed cd_law_obeyed ct_law_obeyed : Value}
    {od_law_due an_law_due : Option Addr} {sl_law_due : Array (Option Value)} {oc_law_due kV_law_due dc_law_due pm_law_due cd_law_due ct_law_due : Value}
    {od_law_again an_law_again : Option Addr} {sl_law_again : Array (Option Value)} {oc_law_again kV_law_again dc_law_again pm_law_again cd_law_again ct_law_again : Value}
    {od_law_told an_law_told : Option Addr} {sl_law_told : Array (Option Value)} {oc_law_told kV_law_told dc_law_told pm_law_told cd_law_told ct_law_told : Value}
    {odlaw anlaw : Option Addr} {sllaw : Array (Option Value)} {oclaw kVlaw dclaw pmlaw cdlaw ctlaw : Value}
    {odNet_init anNet_init : Option Addr} {slNet_init : Array (Option Value)} {ocNet_init kVNet_init dcNet_init pmNet_init cdNet_init ctNet_init : Value}
    {tk_LETTERS : Tok}
    {tk_MOST_LETTERS : Tok}
    {tk_MOST_TASKS : Tok}
    {tk_MOST_TOOLS : Tok}
    {tk_MOST_PIECES : Tok}
    {tk_MOST_WAYS : Tok}
    {tk_MOST_MOMENTS : Tok}
    {tk_MOST_ARCS : Tok}
    {tk_MOST_APART : Tok}
    {tk_GREATEST : Tok}
    {TNet_init : Addr} {ToNet_init : Value} {TdNet_init : Option Addr} {TnNet_init : Nat} {TsNet_init : Array (Option Value)} {TtNet_init : Tok}
    (ais_name : PySem.W.nsIn K mainGlobals "is_name" = some (some (.ref fis_name)))
    (lis_name : K.lookup fis_name = some ⟨ocis_name, odis_name, .func (PySem.W.fnOf "is_name" "is_name" (defArgs sis_name) (defBody sis_name) (defScope sis_name) .none kVis_name dcis_name pmis_name anis_name cdis_name ctis_name), slis_name⟩) (cis_name : PySem.W.codeIn K cdis_name "is_name" = true) (kis_name : PySem.W.keepIn K (.ref fis_name) = true)
    (apoints_of : PySem.W.nsIn K mainGlobals "points_of" = some (some (.ref fpoints_of)))
    (lpoints_of : K.lookup fpoints_of = some ⟨ocpoints_of, odpoints_of, .func (PySem.W.fnOf "points_of" "points_of" (defArgs spoints_of) (defBody spoints_of) (defScope spoints_of) .none kVpoints_of dcpoints_of pmpoints_of anpoints_of cdpoints_of ctpoints_of), slpoints_of⟩) (cpoints_of : PySem.W.codeIn K cdpoints_of "points_of" = true) (kpoints_of : PySem.W.keepIn K (.ref fpoints_of) = true)
    (acopy_of_task : PySem.W.nsIn K mainGlobals "copy_of_task" = some (some (.ref fcopy_of_task)))
    (lcopy_of_task : K.lookup fcopy_of_task = some ⟨occopy_of_task, odcopy_of_task, .func (PySem.W.fnOf "copy_of_task" "copy_of_task" (defArgs scopy_of_task) (defBody scopy_of_task) (defScope scopy_of_task) .none kVcopy_of_task dccopy_of_task pmcopy_of_task ancopy_of_task cdcopy_of_task ctcopy_of_task), slcopy_of_task⟩) (ccopy_of_task : PySem.W.codeIn K cdcopy_of_task "copy_of_task" = true) (kcopy_of_task : PySem.W.keepIn K (.ref fcopy_of_task) = true)
    (arefuse_wrong_tools : PySem.W.nsIn K mainGlobals "refuse_wrong_tools" = some (some (.ref frefuse_wrong_tools)))
    (lrefuse_wrong_tools : K.lookup frefuse_wrong_tools = some ⟨ocrefuse_wrong_tools, odrefuse_wrong_tools, .func (PySem.W.fnOf "refuse_wrong_tools" "refuse_wrong_tools" (defArgs srefuse_wrong_tools) (defBody srefuse_wrong_tools) (defScope srefuse_wrong_tools) .none kVrefuse_wrong_tools dcrefuse_wrong_tools pmrefuse_wrong_tools anrefuse_wrong_tools cdrefuse_wrong_tools ctrefuse_wrong_tools), slrefuse_wrong_tools⟩) (crefuse_wrong_tools : PySem.W.codeIn K cdrefuse_wrong_tools "refuse_wrong_tools" = true) (krefuse_wrong_tools : PySem.W.keepIn K (.ref frefuse_wrong_tools) = true)
    (arefuse_wrong_uses : PySem.W.nsIn K mainGlobals "refuse_wrong_uses" = some (some (.ref frefuse_wrong_uses)))
    (lrefuse_wrong_uses : K.lookup frefuse_wrong_uses = some ⟨ocrefuse_wrong_uses, odrefuse_wrong_uses, .func (PySem.W.fnOf "refuse_wrong_uses" "refuse_wrong_uses" (defArgs srefuse_wrong_uses) (defBody srefuse_wrong_uses) (defScope srefuse_wrong_uses) .none kVrefuse_wrong_uses dcrefuse_wrong_uses pmrefuse_wrong_uses anrefuse_wrong_uses cdrefuse_wrong_uses ctrefuse_wrong_uses), slrefuse_wrong_uses⟩) (crefuse_wrong_uses : PySem.W.codeIn K cdrefuse_wrong_uses "refuse_wrong_uses" = true) (krefuse_wrong_uses : PySem.W.keepIn K (.ref frefuse_wrong_uses) = true)
    (arefuse_wrong_tasks : PySem.W.nsIn K mainGlobals "refuse_wrong_tasks" = some (some (.ref frefuse_wrong_tasks)))
    (lrefuse_wrong_tasks : K.lookup frefuse_wrong_tasks = some ⟨ocrefuse_wrong_tasks, odrefuse_wrong_tasks, .func (PySem.W.fnOf "refuse_wrong_tasks" "refuse_wrong_tasks" (defArgs srefuse_wrong_tasks) (defBody srefuse_wrong_tasks) (defScope srefuse_wrong_tasks) .none kVrefuse_wrong_tasks dcrefuse_wrong_tasks pmrefuse_wrong_tasks anrefuse_wrong_tasks cdrefuse_wrong_tasks ctrefuse_wrong_tasks), slrefuse_wrong_tasks⟩) (crefuse_wrong_tasks : PySem.W.codeIn K cdrefuse_wrong_tasks "refuse_wrong_tasks" = true) (krefuse_wrong_tasks : PySem.W.keepIn K (.ref frefuse_wrong_tasks) = true)
    (arefuse_wrong_arcs : PySem.W.nsIn K mainGlobals "refuse_wrong_arcs" = some (some (.ref frefuse_wrong_arcs)))
    (lrefuse_wrong_arcs : K.lookup frefuse_wrong_arcs = some ⟨ocrefuse_wrong_arcs, odrefuse_wrong_arcs, .func (PySem.W.fnOf "refuse_wrong_arcs" "refuse_wrong_arcs" (defArgs srefuse_wrong_arcs) (defBody srefuse_wrong_arcs) (defScope srefuse_wrong_arcs) .none kVrefuse_wrong_arcs dcrefuse_wrong_arcs pmrefuse_wrong_arcs anrefuse_wrong_arcs cdrefuse_wrong_arcs ctrefuse_wrong_arcs), slrefuse_wrong_arcs⟩) (crefuse_wrong_arcs : PySem.W.codeIn K cdrefuse_wrong_arcs "refuse_wrong_arcs" = true) (krefuse_wrong_arcs : PySem.W.keepIn K (.ref frefuse_wrong_arcs) = true)
    (arefuse_wrong_pairs : PySem.W.nsIn K mainGlobals "refuse_wrong_pairs" = some (some (.ref frefuse_wrong_pairs)))
    (lrefuse_wrong_pairs : K.lookup frefuse_wrong_pairs = some ⟨ocrefuse_wrong_pairs, odrefuse_wrong_pairs, .func (PySem.W.fnOf "refuse_wrong_pairs" "refuse_wrong_pairs" (defArgs srefuse_wrong_pairs) (defBody srefuse_wrong_pairs) (defScope srefuse_wrong_pairs) .none kVrefuse_wrong_pairs dcrefuse_wrong_pairs pmrefuse_wrong_pairs anrefuse_wrong_pairs cdrefuse_wrong_pairs ctrefuse_wrong_pairs), slrefuse_wrong_pairs⟩) (crefuse_wrong_pairs : PySem.W.codeIn K cdrefuse_wrong_pairs "refuse_wrong_pairs" = true) (krefuse_wrong_pairs : PySem.W.keepIn K (.ref frefuse_wrong_pairs) = true)
    (astart_case : PySem.W.nsIn K mainGlobals "start_case" = some (some (.ref fstart_case)))
    (lstart_case : K.lookup fstart_case = some ⟨ocstart_case, odstart_case, .func (PySem.W.fnOf "start_case" "start_case" (defArgs sstart_case) (defBody sstart_case) (defScope sstart_case) .none kVstart_case dcstart_case pmstart_case anstart_case cdstart_case ctstart_case), slstart_case⟩) (cstart_case : PySem.W.codeIn K cdstart_case "start_case" = true) (kstart_case : PySem.W.keepIn K (.ref fstart_case) = true)
    (aopen_ways : PySem.W.nsIn K mainGlobals "open_ways" = some (some (.ref fopen_ways)))
    (lopen_ways : K.lookup fopen_ways = some ⟨ocopen_ways, odopen_ways, .func (PySem.W.fnOf "open_ways" "open_ways" (defArgs sopen_ways) (defBody sopen_ways) (defScope sopen_ways) .none kVopen_ways dcopen_ways pmopen_ways anopen_ways cdopen_ways ctopen_ways), slopen_ways⟩) (copen_ways : PySem.W.codeIn K cdopen_ways "open_ways" = true) (kopen_ways : PySem.W.keepIn K (.ref fopen_ways) = true)
    (aobeys : PySem.W.nsIn K mainGlobals "obeys" = some (some (.ref fobeys)))
    (lobeys : K.lookup fobeys = some ⟨ocobeys, odobeys, .func (PySem.W.fnOf "obeys" "obeys" (defArgs sobeys) (defBody sobeys) (defScope sobeys) .none kVobeys dcobeys pmobeys anobeys cdobeys ctobeys), slobeys⟩) (cobeys : PySem.W.codeIn K cdobeys "obeys" = true) (kobeys : PySem.W.keepIn K (.ref fobeys) = true)
    (aarcs_of : PySem.W.nsIn K mainGlobals "arcs_of" = some (some (.ref farcs_of)))
    (larcs_of : K.lookup farcs_of = some ⟨ocarcs_of, odarcs_of, .func (PySem.W.fnOf "arcs_of" "arcs_of" (defArgs sarcs_of) (defBody sarcs_of) (defScope sarcs_of) .none kVarcs_of dcarcs_of pmarcs_of anarcs_of cdarcs_of ctarcs_of), slarcs_of⟩) (carcs_of : PySem.W.codeIn K cdarcs_of "arcs_of" = true) (karcs_of : PySem.W.keepIn K (.ref farcs_of) = true)
    (a_law_cell_at : PySem.W.nsIn K mainGlobals "_law_cell_at" = some (some (.ref f_law_cell_at)))
    (l_law_cell_at : K.lookup f_law_cell_at = some ⟨oc_law_cell_at, od_law_cell_at, .func (PySem.W.fnOf "_law_cell_at" "_law_cell_at" (defArgs s_law_cell_at) (defBody s_law_cell_at) (defScope s_law_cell_at) .none kV_law_cell_at dc_law_cell_at pm_law_cell_at an_law_cell_at cd_law_cell_at ct_law_cell_at), sl_law_cell_at⟩) (c_law_cell_at : PySem.W.codeIn K cd_law_cell_at "_law_cell_at" = true) (k_law_cell_at : PySem.W.keepIn K (.ref f_law_cell_at) = true)
    (a_law_whole : PySem.W.nsIn K mainGlobals "_law_whole" = some (some (.ref f_law_whole)))
    (l_law_whole : K.lookup f_law_whole = some ⟨oc_law_whole, od_law_whole, .func (PySem.W.fnOf "_law_whole" "_law_whole" (defArgs s_law_whole) (defBody s_law_whole) (defScope s_law_whole) .none kV_law_whole dc_law_whole pm_law_whole an_law_whole cd_law_whole ct_law_whole), sl_law_whole⟩) (c_law_whole : PySem.W.codeIn K cd_law_whole "_law_whole" = true) (k_law_whole : PySem.W.keepIn K (.ref f_law_whole) = true)
    (a_law_mixed : PySem.W.nsIn K mainGlobals "_law_mixed" = some (some (.ref f_law_mixed)))
    (l_law_mixed : K.lookup f_law_mixed = some ⟨oc_law_mixed, od_law_mixed, .func (PySem.W.fnOf "_law_mixed" "_law_mixed" (defArgs s_law_mixed) (defBody s_law_mixed) (defScope s_law_mixed) .none kV_law_mixed dc_law_mixed pm_law_mixed an_law_mixed cd_law_mixed ct_law_mixed), sl_law_mixed⟩) (c_law_mixed : PySem.W.codeIn K cd_law_mixed "_law_mixed" = true) (k_law_mixed : PySem.W.keepIn K (.ref f_law_mixed) = true)
    (a_law_meet : PySem.W.nsIn K mainGlobals "_law_meet" = some (some (.ref f_law_meet)))
    (l_law_meet : K.lookup f_law_meet = some ⟨oc_law_meet, od_law_meet, .func (PySem.W.fnOf "_law_meet" "_law_meet" (defArgs s_law_meet) (defBody s_law_meet) (defScope s_law_meet) .none kV_law_meet dc_law_meet pm_law_meet an_law_meet cd_law_meet ct_law_meet), sl_law_meet⟩) (c_law_meet : PySem.W.codeIn K cd_law_meet "_law_meet" = true) (k_law_meet : PySem.W.keepIn K (.ref f_law_meet) = true)
    (a_law_names : PySem.W.nsIn K mainGlobals "_law_names" = some (some (.ref f_law_names)))
    (l_law_names : K.lookup f_law_names = some ⟨oc_law_names, od_law_names, .func (PySem.W.fnOf "_law_names" "_law_names" (defArgs s_law_names) (defBody s_law_names) (defScope s_law_names) .none kV_law_names dc_law_names pm_law_names an_law_names cd_law_names ct_law_names), sl_law_names⟩) (c_law_names : PySem.W.codeIn K cd_law_names "_law_names" = true) (k_law_names : PySem.W.keepIn K (.ref f_law_names) = true)
    (a_law_runs : PySem.W.nsIn K mainGlobals "_law_runs" = some (some (.ref f_law_runs)))
    (l_law_runs : K.lookup f_law_runs = some ⟨oc_law_runs, od_law_runs, .func (PySem.W.fnOf "_law_runs" "_law_runs" (defArgs s_law_runs) (defBody s_law_runs) (defScope s_law_runs) .none kV_law_runs dc_law_runs pm_law_runs an_law_runs cd_law_runs ct_law_runs), sl_law_runs⟩) (c_law_runs : PySem.W.codeIn K cd_law_runs "_law_runs" = true) (k_law_runs : PySem.W.keepIn K (.ref f_law_runs) = true)
    (a_law_heats : PySem.W.nsIn K mainGlobals "_law_heats" = some (some (.ref f_law_heats)))
    (l_law_heats : K.lookup f_law_heats = some ⟨oc_law_heats, od_law_heats, .func (PySem.W.fnOf "_law_heats" "_law_heats" (defArgs s_law_heats) (defBody s_law_heats) (defScope s_law_heats) .none kV_law_heats dc_law_heats pm_law_heats an_law_heats cd_law_heats ct_law_heats), sl_law_heats⟩) (c_law_heats : PySem.W.codeIn K cd_law_heats "_law_heats" = true) (k_law_heats : PySem.W.keepIn K (.ref f_law_heats) = true)
    (a_law_uses : PySem.W.nsIn K mainGlobals "_law_uses" = some (some (.ref f_law_uses)))
    (l_law_uses : K.lookup f_law_uses = some ⟨oc_law_uses, od_law_uses, .func (PySem.W.fnOf "_law_uses" "_law_uses" (defArgs s_law_uses) (defBody s_law_uses) (defScope s_law_uses) .none kV_law_uses dc_law_uses pm_law_uses an_law_uses cd_law_uses ct_law_uses), sl_law_uses⟩) (c_law_uses : PySem.W.codeIn K cd_law_uses "_law_uses" = true) (k_law_uses : PySem.W.keepIn K (.ref f_law_uses) = true)
    (a_law_task : PySem.W.nsIn K mainGlobals "_law_task" = some (some (.ref f_law_task)))
    (l_law_task : K.lookup f_law_task = some ⟨oc_law_task, od_law_task, .func (PySem.W.fnOf "_law_task" "_law_task" (defArgs s_law_task) (defBody s_law_task) (defScope s_law_task) .none kV_law_task dc_law_task pm_law_task an_law_task cd_law_task ct_law_task), sl_law_task⟩) (c_law_task : PySem.W.codeIn K cd_law_task "_law_task" = true) (k_law_task : PySem.W.keepIn K (.ref f_law_task) = true)
    (a_law_used : PySem.W.nsIn K mainGlobals "_law_used" = some (some (.ref f_law_used)))
    (l_law_used : K.lookup f_law_used = some ⟨oc_law_used, od_law_used, .func (PySem.W.fnOf "_law_used" "_law_used" (defArgs s_law_used) (defBody s_law_used) (defScope s_law_used) .none kV_law_used dc_law_used pm_law_used an_law_used cd_law_used ct_law_used), sl_law_used⟩) (c_law_used : PySem.W.codeIn K cd_law_used "_law_used" = true) (k_law_used : PySem.W.keepIn K (.ref f_law_used) = true)
    (a_law_tools : PySem.W.nsIn K mainGlobals "_law_tools" = some (some (.ref f_law_tools)))
    (l_law_tools : K.lookup f_law_tools = some ⟨oc_law_tools, od_law_tools, .func (PySem.W.fnOf "_law_tools" "_law_tools" (defArgs s_law_tools) (defBody s_law_tools) (defScope s_law_tools) .none kV_law_tools dc_law_tools pm_law_tools an_law_tools cd_law_tools ct_law_tools), sl_law_tools⟩) (c_law_tools : PySem.W.codeIn K cd_law_tools "_law_tools" = true) (k_law_tools : PySem.W.keepIn K (.ref f_law_tools) = true)
    (a_law_arcs : PySem.W.nsIn K mainGlobals "_law_arcs" = some (some (.ref f_law_arcs)))
    (l_law_arcs : K.lookup f_law_arcs = some ⟨oc_law_arcs, od_law_arcs, .func (PySem.W.fnOf "_law_arcs" "_law_arcs" (defArgs s_law_arcs) (defBody s_law_arcs) (defScope s_law_arcs) .none kV_law_arcs dc_law_arcs pm_law_arcs an_law_arcs cd_law_arcs ct_law_arcs), sl_law_arcs⟩) (c_law_arcs : PySem.W.codeIn K cd_law_arcs "_law_arcs" = true) (k_law_arcs : PySem.W.keepIn K (.ref f_law_arcs) = true)
    (a_law_apart : PySem.W.nsIn K mainGlobals "_law_apart" = some (some (.ref f_law_apart)))
    (l_law_apart : K.lookup f_law_apart = some ⟨oc_law_apart, od_law_apart, .func (PySem.W.fnOf "_law_apart" "_law_apart" (defArgs s_law_apart) (defBody s_law_apart) (defScope s_law_apart) .none kV_law_apart dc_law_apart pm_law_apart an_law_apart cd_law_apart ct_law_apart), sl_law_apart⟩) (c_law_apart : PySem.W.codeIn K cd_law_apart "_law_apart" = true) (k_law_apart : PySem.W.keepIn K (.ref f_law_apart) = true)
    (a_law_case : PySem.W.nsIn K mainGlobals "_law_case" = some (some (.ref f_law_case)))
    (l_law_case : K.lookup f_law_case = some ⟨oc_law_case, od_law_case, .func (PySem.W.fnOf "_law_case" "_law_case" (defArgs s_law_case) (defBody s_law_case) (defScope s_law_case) .none kV_law_case dc_law_case pm_law_case an_law_case cd_law_case ct_law_case), sl_law_case⟩) (c_law_case : PySem.W.codeIn K cd_law_case "_law_case" = true) (k_law_case : PySem.W.keepIn K (.ref f_law_case) = true)
    (a_law_built : PySem.W.nsIn K mainGlobals "_law_built" = some (some (.ref f_law_built)))
    (l_law_built : K.lookup f_law_built = some ⟨oc_law_built, od_law_built, .func (PySem.W.fnOf "_law_built" "_law_built" (defArgs s_law_built) (defBody s_law_built) (defScope s_law_built) .none kV_law_built dc_law_built pm_law_built an_law_built cd_law_built ct_law_built), sl_law_built⟩) (c_law_built : PySem.W.codeIn K cd_law_built "_law_built" = true) (k_law_built : PySem.W.keepIn K (.ref f_law_built) = true)
    (a_law_points : PySem.W.nsIn K mainGlobals "_law_points" = some (some (.ref f_law_points)))
    (l_law_points : K.lookup f_law_points = some ⟨oc_law_points, od_law_points, .func (PySem.W.fnOf "_law_points" "_law_points" (defArgs s_law_points) (defBody s_law_points) (defScope s_law_points) .none kV_law_points dc_law_points pm_law_points an_law_points cd_law_points ct_law_points), sl_law_points⟩) (c_law_points : PySem.W.codeIn K cd_law_points "_law_points" = true) (k_law_points : PySem.W.keepIn K (.ref f_law_points) = true)
    (a_law_any_case : PySem.W.nsIn K mainGlobals "_law_any_case" = some (some (.ref f_law_any_case)))
    (l_law_any_case : K.lookup f_law_any_case = some ⟨oc_law_any_case, od_law_any_case, .func (PySem.W.fnOf "_law_any_case" "_law_any_case" (defArgs s_law_any_case) (defBody s_law_any_case) (defScope s_law_any_case) .none kV_law_any_case dc_law_any_case pm_law_any_case an_law_any_case cd_law_any_case ct_law_any_case), sl_law_any_case⟩) (c_law_any_case : PySem.W.codeIn K cd_law_any_case "_law_any_case" = true) (k_law_any_case : PySem.W.keepIn K (.ref f_law_any_case) = true)
    (a_law_open : PySem.W.nsIn K mainGlobals "_law_open" = some (some (.ref f_law_open)))
    (l_law_open : K.lookup f_law_open = some ⟨oc_law_open, od_law_open, .func (PySem.W.fnOf "_law_open" "_law_open" (defArgs s_law_open) (defBody s_law_open) (defScope s_law_open) .none kV_law_open dc_law_open pm_law_open an_law_open cd_law_open ct_law_open), sl_law_open⟩) (c_law_open : PySem.W.codeIn K cd_law_open "_law_open" = true) (k_law_open : PySem.W.keepIn K (.ref f_law_open) = true)
    (a_law_obeyed : PySem.W.nsIn K mainGlobals "_law_obeyed" = some (some (.ref f_law_obeyed)))
    (l_law_obeyed : K.lookup f_law_obeyed = some ⟨oc_law_obeyed, od_law_obeyed, .func (PySem.W.fnOf "_law_obeyed" "_law_obeyed" (defArgs s_law_obeyed) (defBody s_law_obeyed) (defScope s_law_obeyed) .none kV_law_obeyed dc_law_obeyed pm_law_obeyed an_law_obeyed cd_law_obeyed ct_law_obeyed), sl_law_obeyed⟩) (c_law_obeyed : PySem.W.codeIn K cd_law_obeyed "_law_obeyed" = true) (k_law_obeyed : PySem.W.keepIn K (.ref f_law_obeyed) = true)
    (a_law_due : PySem.W.nsIn K mainGlobals "_law_due" = some (some (.ref f_law_due)))
    (l_law_due : K.lookup f_law_due = some ⟨oc_law_due, od_law_due, .func (PySem.W.fnOf "_law_due" "_law_due" (defArgs s_law_due) (defBody s_law_due) (defScope s_law_due) .none kV_law_due dc_law_due pm_law_due an_law_due cd_law_due ct_law_due), sl_law_due⟩) (c_law_due : PySem.W.codeIn K cd_law_due "_law_due" = true) (k_law_due : PySem.W.keepIn K (.ref f_law_due) = true)
    (a_law_again : PySem.W.nsIn K mainGlobals "_law_again" = some (some (.ref f_law_again)))
    (l_law_again : K.lookup f_law_again = some ⟨oc_law_again, od_law_again, .func (PySem.W.fnOf "_law_again" "_law_again" (defArgs s_law_again) (defBody s_law_again) (defScope s_law_again) .none kV_law_again dc_law_again pm_law_again an_law_again cd_law_again ct_law_again), sl_law_again⟩) (c_law_again : PySem.W.codeIn K cd_law_again "_law_again" = true) (k_law_again : PySem.W.keepIn K (.ref f_law_again) = true)
    (a_law_told : PySem.W.nsIn K mainGlobals "_law_told" = some (some (.ref f_law_told)))
    (l_law_told : K.lookup f_law_told = some ⟨oc_law_told, od_law_told, .func (PySem.W.fnOf "_law_told" "_law_told" (defArgs s_law_told) (defBody s_law_told) (defScope s_law_told) .none kV_law_told dc_law_told pm_law_told an_law_told cd_law_told ct_law_told), sl_law_told⟩) (c_law_told : PySem.W.codeIn K cd_law_told "_law_told" = true) (k_law_told : PySem.W.keepIn K (.ref f_law_told) = true)
    (alaw : PySem.W.nsIn K mainGlobals "law" = some (some (.ref flaw)))
    (llaw : K.lookup flaw = some ⟨oclaw, odlaw, .func (PySem.W.fnOf "law" "law" (defArgs slaw) (defBody slaw) (defScope slaw) .none kVlaw dclaw pmlaw anlaw cdlaw ctlaw), sllaw⟩) (claw : PySem.W.codeIn K cdlaw "law" = true) (klaw : PySem.W.keepIn K (.ref flaw) = true)
    (zg_LETTERS : PySem.W.nsIn K mainGlobals "LETTERS" = some (some (.str "abcdefghijklmnopqrstuvwxyz" tk_LETTERS)))
    (zg_MOST_LETTERS : PySem.W.nsIn K mainGlobals "MOST_LETTERS" = some (some (.int 12 tk_MOST_LETTERS)))
    (zg_MOST_TASKS : PySem.W.nsIn K mainGlobals "MOST_TASKS" = some (some (.int 24 tk_MOST_TASKS)))
    (zg_MOST_TOOLS : PySem.W.nsIn K mainGlobals "MOST_TOOLS" = some (some (.int 12 tk_MOST_TOOLS)))
    (zg_MOST_PIECES : PySem.W.nsIn K mainGlobals "MOST_PIECES" = some (some (.int 8 tk_MOST_PIECES)))
    (zg_MOST_WAYS : PySem.W.nsIn K mainGlobals "MOST_WAYS" = some (some (.int 2 tk_MOST_WAYS)))
    (zg_MOST_MOMENTS : PySem.W.nsIn K mainGlobals "MOST_MOMENTS" = some (some (.int 8 tk_MOST_MOMENTS)))
    (zg_MOST_ARCS : PySem.W.nsIn K mainGlobals "MOST_ARCS" = some (some (.int 600 tk_MOST_ARCS)))
    (zg_MOST_APART : PySem.W.nsIn K mainGlobals "MOST_APART" = some (some (.int 300 tk_MOST_APART)))
    (zg_GREATEST : PySem.W.nsIn K mainGlobals "GREATEST" = some (some (.int 1000000000 tk_GREATEST)))
    (zb_abs : PySem.W.nsIn K mainGlobals "abs" = some none)
    (zb_all : PySem.W.nsIn K mainGlobals "all" = some none)
    (zb_bool : PySem.W.nsIn K mainGlobals "bool" = some none)
    (zb_dict : PySem.W.nsIn K mainGlobals "dict" = some none)
    (zb_int : PySem.W.nsIn K mainGlobals "int" = some none)
    (zb_isinstance : PySem.W.nsIn K mainGlobals "isinstance" = some none)
    (zb_len : PySem.W.nsIn K mainGlobals "len" = some none)
    (zb_list : PySem.W.nsIn K mainGlobals "list" = some none)
    (zb_max : PySem.W.nsIn K mainGlobals "max" = some none)
    (zb_min : PySem.W.nsIn K mainGlobals "min" = some none)
    (zb_range : PySem.W.nsIn K mainGlobals "range" = some none)
    (zb_reversed : PySem.W.nsIn K mainGlobals "reversed" = some none)
    (zb_set : PySem.W.nsIn K mainGlobals "set" = some none)
    (zb_str : PySem.W.nsIn K mainGlobals "str" = some none)
    (zb_tuple : PySem.W.nsIn K mainGlobals "tuple" = some none)
    (zb_zip : PySem.W.nsIn K mainGlobals "zip" = some none)
    (zm_Net : PySem.W.nsIn K mainGlobals "Net" = some (some (.ref c_Net)))
    (atNet_init : PySem.W.findIn K (.ref c_Net) "__init__" = some (some (.ref f_Net_init)))
    (lNet_init : K.lookup f_Net_init = some ⟨ocNet_init, odNet_init, .func (PySem.W.fnOf "__init__" "Net.__init__" (defArgs sNet_init) (defBody sNet_init) (defScope sNet_init) (.ref TNet_init) kVNet_init dcNet_init pmNet_init anNet_init cdNet_init ctNet_init), slNet_init⟩) (cNet_init : PySem.W.codeIn K cdNet_init "Net.__init__" = true) (kNet_init : PySem.W.keepIn K (.ref f_Net_init) = true)
    (dNet_init : K.lookup TNet_init = some ⟨ToNet_init, TdNet_init, .seq #[.none, .int 0 TtNet_init] TnNet_init, TsNet_init⟩)
    (zcl_Net : Cls K c_Net)
    (zmk_Net : Mk K c_Net f_Net_init)
    (zna_Net_tools : NoAttr K c_Net "tools")
    (zna_Net_tasks : NoAttr K c_Net "tasks")
    (zna_Net_arcs : NoAttr K c_Net "arcs")
    (zna_Net_apart : NoAttr K c_Net "apart")
    (zna_Net_moments : NoAttr K c_Net "moments")
    : ∃ fd : FuncData, (∀ (s : Shared) (v : Value), BindsTo s fd ⟨[v], []⟩ [("_law_script", v)]) ∧ ∀ base : Heap, K.In base → base.Ns mainGlobals mg → FnOk l.prog w K mg base CX0 9 fa fd ["_law_script"] (spLaw K) := by
  have e := hfa.symm.trans (PySem.W.mg_of X G alaw)
  cases e
  have B : Bn K mg c_Net f_Net_init := ⟨Exists.intro _ <| PySem.W.mg_of X G zg_LETTERS, Exists.intro _ <| PySem.W.mg_of X G zg_MOST_LETTERS, Exists.intro _ <| PySem.W.mg_of X G zg_MOST_TASKS, Exists.intro _ <| PySem.W.mg_of X G zg_MOST_TOOLS, Exists.intro _ <| PySem.W.mg_of X G zg_MOST_PIECES, Exists.intro _ <| PySem.W.mg_of X G zg_MOST_WAYS, Exists.intro _ <| PySem.W.mg_of X G zg_MOST_MOMENTS, Exists.intro _ <| PySem.W.mg_of X G zg_MOST_ARCS, Exists.intro _ <| PySem.W.mg_of X G zg_MOST_APART, Exists.intro _ <| PySem.W.mg_of X G zg_GREATEST, PySem.W.mg_none_of X G zb_abs, PySem.W.mg_none_of X G zb_all, PySem.W.mg_none_of X G zb_bool, PySem.W.mg_none_of X G zb_dict, PySem.W.mg_none_of X G zb_int, PySem.W.mg_none_of X G zb_isinstance, PySem.W.mg_none_of X G zb_len, PySem.W.mg_none_of X G zb_list, PySem.W.mg_none_of X G zb_max, PySem.W.mg_none_of X G zb_min, PySem.W.mg_none_of X G zb_range, PySem.W.mg_none_of X G zb_reversed, PySem.W.mg_none_of X G zb_set, PySem.W.mg_none_of X G zb_str, PySem.W.mg_none_of X G zb_tuple, PySem.W.mg_none_of X G zb_zip, PySem.W.mg_of X G zm_Net, zcl_Net, zmk_Net, zna_Net_tools, zna_Net_tasks, zna_Net_arcs, zna_Net_apart, zna_Net_moments⟩
  have Fis_name := funD_mk (st := sis_name) lis_name cis_name kis_name
  have Fpoints_of := funD_mk (st := spoints_of) lpoints_of cpoints_of kpoints_of
  have Fcopy_of_task := funD_mk (st := scopy_of_task) lcopy_of_task ccopy_of_task kcopy_of_task
  have Frefuse_wrong_tools := funD_mk (st := srefuse_wrong_tools) lrefuse_wrong_tools crefuse_wrong_tools krefuse_wrong_tools
  have Frefuse_wrong_uses := funD_mk (st := srefuse_wrong_uses) lrefuse_wrong_uses crefuse_wrong_uses krefuse_wrong_uses
  have Frefuse_wrong_tasks := funD_mk (st := srefuse_wrong_tasks) lrefuse_wrong_tasks crefuse_wrong_tasks krefuse_wrong_tasks
  have Frefuse_wrong_arcs := funD_mk (st := srefuse_wrong_arcs) lrefuse_wrong_arcs crefuse_wrong_arcs krefuse_wrong_arcs
  have Frefuse_wrong_pairs := funD_mk (st := srefuse_wrong_pairs) lrefuse_wrong_pairs crefuse_wrong_pairs krefuse_wrong_pairs
  have FNet_init := funD_mk (st := sNet_init) lNet_init cNet_init kNet_init
  have Fcopy_of_task_vn := funD_mk (st := scopy_of_task_vn) lcopy_of_task ccopy_of_task kcopy_of_task
  have Fstart_case := funD_mk (st := sstart_case) lstart_case cstart_case kstart_case
  have Fstart_case_vn := funD_mk (st := sstart_case_vn) lstart_case cstart_case kstart_case
  have Fopen_ways := funD_mk (st := sopen_ways) lopen_ways copen_ways kopen_ways
  have Fopen_ways_vn := funD_mk (st := sopen_ways_vn) lopen_ways copen_ways kopen_ways
  have Fobeys := funD_mk (st := sobeys) lobeys cobeys kobeys
  have Farcs_of := funD_mk (st := sarcs_of) larcs_of carcs_of karcs_of
  have F_law_cell_at := funD_mk (st := s_law_cell_at) l_law_cell_at c_law_cell_at k_law_cell_at
  have F_law_whole := funD_mk (st := s_law_whole) l_law_whole c_law_whole k_law_whole
  have F_law_mixed := funD_mk (st := s_law_mixed) l_law_mixed c_law_mixed k_law_mixed
  have F_law_meet := funD_mk (st := s_law_meet) l_law_meet c_law_meet k_law_meet
  have F_law_names := funD_mk (st := s_law_names) l_law_names c_law_names k_law_names
  have F_law_runs := funD_mk (st := s_law_runs) l_law_runs c_law_runs k_law_runs
  have F_law_heats := funD_mk (st := s_law_heats) l_law_heats c_law_heats k_law_heats
  have F_law_uses := funD_mk (st := s_law_uses) l_law_uses c_law_uses k_law_uses
  have F_law_task := funD_mk (st := s_law_task) l_law_task c_law_task k_law_task
  have F_law_used := funD_mk (st := s_law_used) l_law_used c_law_used k_law_used
  have F_law_tools := funD_mk (st := s_law_tools) l_law_tools c_law_tools k_law_tools
  have F_law_arcs := funD_mk (st := s_law_arcs) l_law_arcs c_law_arcs k_law_arcs
  have F_law_apart := funD_mk (st := s_law_apart) l_law_apart c_law_apart k_law_apart
  have F_law_case := funD_mk (st := s_law_case) l_law_case c_law_case k_law_case
  have F_law_built := funD_mk (st := s_law_built) l_law_built c_law_built k_law_built
  have F_law_points := funD_mk (st := s_law_points) l_law_points c_law_points k_law_points
  have F_law_any_case := funD_mk (st := s_law_any_case) l_law_any_case c_law_any_case k_law_any_case
  have F_law_open := funD_mk (st := s_law_open) l_law_open c_law_open k_law_open
  have F_law_obeyed := funD_mk (st := s_law_obeyed) l_law_obeyed c_law_obeyed k_law_obeyed
  have F_law_due := funD_mk (st := s_law_due) l_law_due c_law_due k_law_due
  have F_law_again := funD_mk (st := s_law_again) l_law_again c_law_again k_law_again
  have F_law_told := funD_mk (st := s_law_told) l_law_told c_law_told k_law_told
  have Flaw := funD_mk (st := slaw) llaw claw klaw
  refine ⟨PySem.W.fnOf "law" "law" (defArgs slaw) (defBody slaw) (defScope slaw) .none kVlaw dclaw pmlaw anlaw cdlaw ctlaw, ?bind, fun base _ _ => ?ok⟩
  case bind => exact fun s v => .of_eq rfl
  case ok =>
    have bis_name := Fis_name.binds0 (ps := ["thing"]) fun _ _ _ _ _ _ us hl => match us, hl with | [_], _ => rfl
    have Dis_name : Dx l.prog w K mg base CX0 1 "is_name" ["thing"] [] (spIsName K) := ⟨fis_name, _, okis_name Fis_name B , PySem.W.mg_of X G ais_name, kis_name, bis_name, ⟨[], bis_name, .nil⟩⟩
    have bpoints_of := Fpoints_of.binds0 (ps := ["net"]) fun _ _ _ _ _ _ us hl => match us, hl with | [_], _ => rfl
    have Dpoints_of : Dx l.prog w K mg base CX0 1 "points_of" ["net"] [] (spPointsG c_Net) := ⟨fpoints_of, _, okpoints_of Fpoints_of B , PySem.W.mg_of X G apoints_of, kpoints_of, bpoints_of, ⟨[], bpoints_of, .nil⟩⟩
    have bcopy_of_task := Fcopy_of_task.binds0 (ps := ["ways"]) fun _ _ _ _ _ _ us hl => match us, hl with | [_], _ => rfl
    have Dcopy_of_task : Dx l.prog w K mg base CX0 1 "copy_of_task" ["ways"] [] spCopyG := ⟨fcopy_of_task, _, okcopy_of_task Fcopy_of_task B , PySem.W.mg_of X G acopy_of_task, kcopy_of_task, bcopy_of_task, ⟨[], bcopy_of_task, .nil⟩⟩
    have brefuse_wrong_tools := Frefuse_wrong_tools.binds0 (ps := ["tools"]) fun _ _ _ _ _ _ us hl => match us, hl with | [_], _ => rfl
    have Drefuse_wrong_tools : Dx l.prog w K mg base CX0 2 "refuse_wrong_tools" ["tools"] [] spRToolsG := ⟨frefuse_wrong_tools, _, okrefuse_wrong_tools Frefuse_wrong_tools B Dis_name, PySem.W.mg_of X G arefuse_wrong_tools, krefuse_wrong_tools, brefuse_wrong_tools, ⟨[], brefuse_wrong_tools, .nil⟩⟩
    have brefuse_wrong_uses := Frefuse_wrong_uses.binds0 (ps := ["uses", "tools"]) fun _ _ _ _ _ _ us hl => match us, hl with | [_, _], _ => rfl
    have Drefuse_wrong_uses : Dx l.prog w K mg base CX0 1 "refuse_wrong_uses" ["uses", "tools"] [] spRUsesG := ⟨frefuse_wrong_uses, _, okrefuse_wrong_uses Frefuse_wrong_uses B , PySem.W.mg_of X G arefuse_wrong_uses, krefuse_wrong_uses, brefuse_wrong_uses, ⟨[], brefuse_wrong_uses, .nil⟩⟩
    have brefuse_wrong_tasks := Frefuse_wrong_tasks.binds0 (ps := ["tasks", "tools"]) fun _ _ _ _ _ _ us hl => match us, hl with | [_, _], _ => rfl
    have Drefuse_wrong_tasks : Dx l.prog w K mg base CX0 2 "refuse_wrong_tasks" ["tasks", "tools"] [] spRTasksG := ⟨frefuse_wrong_tasks, _, okrefuse_wrong_tasks Frefuse_wrong_tasks B Drefuse_wrong_uses, PySem.W.mg_of X G arefuse_wrong_tasks, krefuse_wrong_tasks, brefuse_wrong_tasks, ⟨[], brefuse_wrong_tasks, .nil⟩⟩
    have brefuse_wrong_arcs := Frefuse_wrong_arcs.binds0 (ps := ["arcs", "points"]) fun _ _ _ _ _ _ us hl => match us, hl with | [_, _], _ => rfl
    have Drefuse_wrong_arcs : Dx l.prog w K mg base CX0 1 "refuse_wrong_arcs" ["arcs", "points"] [] spRArcs := ⟨frefuse_wrong_arcs, _, okrefuse_wrong_arcs Frefuse_wrong_arcs B , PySem.W.mg_of X G arefuse_wrong_arcs, krefuse_wrong_arcs, brefuse_wrong_arcs, ⟨[], brefuse_wrong_arcs, .nil⟩⟩
    have brefuse_wrong_pairs := Frefuse_wrong_pairs.binds0 (ps := ["pairs", "many"]) fun _ _ _ _ _ _ us hl => match us, hl with | [_, _], _ => rfl
    have Drefuse_wrong_pairs : Dx l.prog w K mg base CX0 1 "refuse_wrong_pairs" ["pairs", "many"] [] spRPairsG := ⟨frefuse_wrong_pairs, _, okrefuse_wrong_pairs Frefuse_wrong_pairs B , PySem.W.mg_of X G arefuse_wrong_pairs, krefuse_wrong_pairs, brefuse_wrong_pairs, ⟨[], brefuse_wrong_pairs, .nil⟩⟩
    have DNet_init : DxM l.prog w K mg base CX0 3 f_Net_init ["self", "tools", "tasks", "arcs", "apart", "moments"] [.non, .int 0] (spNetG c_Net) := ⟨_, okNet_init FNet_init B Dpoints_of Dcopy_of_task Drefuse_wrong_tools Drefuse_wrong_tasks Drefuse_wrong_arcs Drefuse_wrong_pairs, FNet_init.binds (ps := ["self", "tools", "tasks", "arcs", "apart", "moments"]) (ds := []) dNet_init rfl fun _ _ _ _ _ _ us hl => match us, hl with | [_, _, _, _, _, _], _ => ⟨_, rfl, rfl⟩, ⟨[.none, .int 0 TtNet_init], FNet_init.binds (ps := ["self", "tools", "tasks", "arcs", "apart", "moments"]) (ds := [.none, .int 0 TtNet_init]) dNet_init rfl fun _ _ _ _ _ _ us hl => match us, hl with | [_, _, _, _], _ => ⟨_, rfl, rfl⟩ | [], h => absurd h (by simp) | [_], h => absurd h (by simp) | [_, _], h => absurd h (by simp) | [_, _, _], h => absurd h (by simp) | _ :: _ :: _ :: _ :: _ :: _, h => absurd h (by simp), .cons rfl (.cons ⟨_, rfl⟩ .nil)⟩⟩
    have bcopy_of_task_vn := Fcopy_of_task_vn.binds0 (ps := ["ways"]) fun _ _ _ _ _ _ us hl => match us, hl with | [_], _ => rfl
    have Dcopy_of_task_vn : Dx l.prog w K mg base CX0 1 "copy_of_task" ["ways"] [] spCopyN := ⟨fcopy_of_task, _, okcopy_of_task_vn Fcopy_of_task_vn B , PySem.W.mg_of X G acopy_of_task, kcopy_of_task, bcopy_of_task_vn, ⟨[], bcopy_of_task_vn, .nil⟩⟩
    have bstart_case := Fstart_case.binds0 (ps := ["net"]) fun _ _ _ _ _ _ us hl => match us, hl with | [_], _ => rfl
    have Dstart_case : Dx l.prog w K mg base CX0 1 "start_case" ["net"] [] (spStart c_Net) := ⟨fstart_case, _, okstart_case Fstart_case B , PySem.W.mg_of X G astart_case, kstart_case, bstart_case, ⟨[], bstart_case, .nil⟩⟩
    have bstart_case_vn := Fstart_case_vn.binds0 (ps := ["net"]) fun _ _ _ _ _ _ us hl => match us, hl with | [_], _ => rfl
    have Dstart_case_vn : Dx l.prog w K mg base CX0 1 "start_case" ["net"] [] (spStartN c_Net) := ⟨fstart_case, _, okstart_case_vn Fstart_case_vn B , PySem.W.mg_of X G astart_case, kstart_case, bstart_case_vn, ⟨[], bstart_case_vn, .nil⟩⟩
    have bopen_ways := Fopen_ways.binds0 (ps := ["net", "case", "i"]) fun _ _ _ _ _ _ us hl => match us, hl with | [_, _, _], _ => rfl
    have Dopen_ways : Dx l.prog w K mg base CX0 2 "open_ways" ["net", "case", "i"] [] (spOpen c_Net) := ⟨fopen_ways, _, okopen_ways Fopen_ways B Dcopy_of_task, PySem.W.mg_of X G aopen_ways, kopen_ways, bopen_ways, ⟨[], bopen_ways, .nil⟩⟩
    have bopen_ways_vn := Fopen_ways_vn.binds0 (ps := ["net", "case", "i"]) fun _ _ _ _ _ _ us hl => match us, hl with | [_, _, _], _ => rfl
    have Dopen_ways_vn : Dx l.prog w K mg base CX0 2 "open_ways" ["net", "case", "i"] [] (spOpenN c_Net) := ⟨fopen_ways, _, okopen_ways_vn Fopen_ways_vn B Dcopy_of_task_vn, PySem.W.mg_of X G aopen_ways, kopen_ways, bopen_ways_vn, ⟨[], bopen_ways_vn, .nil⟩⟩
    have bobeys := Fobeys.binds0 (ps := ["case", "plan"]) fun _ _ _ _ _ _ us hl => match us, hl with | [_, _], _ => rfl
    have Dobeys : Dx l.prog w K mg base CX0 1 "obeys" ["case", "plan"] [] spObeys := ⟨fobeys, _, okobeys Fobeys B , PySem.W.mg_of X G aobeys, kobeys, bobeys, ⟨[], bobeys, .nil⟩⟩
    have barcs_of := Farcs_of.binds0 (ps := ["net", "case"]) fun _ _ _ _ _ _ us hl => match us, hl with | [_, _], _ => rfl
    have Darcs_of : Dx l.prog w K mg base CX0 3 "arcs_of" ["net", "case"] [] (spArcsOf c_Net) := ⟨farcs_of, _, okarcs_of Farcs_of B Dopen_ways, PySem.W.mg_of X G aarcs_of, karcs_of, barcs_of, ⟨[], barcs_of, .nil⟩⟩
    have b_law_cell_at := F_law_cell_at.binds0 (ps := ["_law_script", "_law_k"]) fun _ _ _ _ _ _ us hl => match us, hl with | [_, _], _ => rfl
    have D_law_cell_at : Dx l.prog w K mg base CX0 1 "_law_cell_at" ["_law_script", "_law_k"] [] (spCell K) := ⟨f_law_cell_at, _, ok_law_cell_at F_law_cell_at B , PySem.W.mg_of X G a_law_cell_at, k_law_cell_at, b_law_cell_at, ⟨[], b_law_cell_at, .nil⟩⟩
    have b_law_whole := F_law_whole.binds0 (ps := ["_law_found"]) fun _ _ _ _ _ _ us hl => match us, hl with | [_], _ => rfl
    have D_law_whole : Dx l.prog w K mg base CX0 1 "_law_whole" ["_law_found"] [] spWhole := ⟨f_law_whole, _, ok_law_whole F_law_whole B , PySem.W.mg_of X G a_law_whole, k_law_whole, b_law_whole, ⟨[], b_law_whole, .nil⟩⟩
    have b_law_mixed := F_law_mixed.binds0 (ps := ["_law_cell", "_law_k"]) fun _ _ _ _ _ _ us hl => match us, hl with | [_, _], _ => rfl
    have D_law_mixed : Dx l.prog w K mg base CX0 1 "_law_mixed" ["_law_cell", "_law_k"] [] spMixed := ⟨f_law_mixed, _, ok_law_mixed F_law_mixed B , PySem.W.mg_of X G a_law_mixed, k_law_mixed, b_law_mixed, ⟨[], b_law_mixed, .nil⟩⟩
    have b_law_meet := F_law_meet.binds0 (ps := ["_law_one", "_law_other"]) fun _ _ _ _ _ _ us hl => match us, hl with | [_, _], _ => rfl
    have D_law_meet : Dx l.prog w K mg base CX0 1 "_law_meet" ["_law_one", "_law_other"] [] spMeet := ⟨f_law_meet, _, ok_law_meet F_law_meet B , PySem.W.mg_of X G a_law_meet, k_law_meet, b_law_meet, ⟨[], b_law_meet, .nil⟩⟩
    have b_law_names := F_law_names.binds0 (ps := ["_law_cell"]) fun _ _ _ _ _ _ us hl => match us, hl with | [_], _ => rfl
    have D_law_names : Dx l.prog w K mg base CX0 2 "_law_names" ["_law_cell"] [] spNamesB := ⟨f_law_names, _, ok_law_names F_law_names B D_law_mixed, PySem.W.mg_of X G a_law_names, k_law_names, b_law_names, ⟨[], b_law_names, .nil⟩⟩
    have b_law_runs := F_law_runs.binds0 (ps := ["_law_script", "_law_at", "_law_many", "_law_far"]) fun _ _ _ _ _ _ us hl => match us, hl with | [_, _, _, _], _ => rfl
    have D_law_runs : Dx l.prog w K mg base CX0 2 "_law_runs" ["_law_script", "_law_at", "_law_many", "_law_far"] [] (spRunsB K) := ⟨f_law_runs, _, ok_law_runs F_law_runs B D_law_cell_at, PySem.W.mg_of X G a_law_runs, k_law_runs, b_law_runs, ⟨[], b_law_runs, .nil⟩⟩
    have b_law_heats := F_law_heats.binds0 (ps := ["_law_runs_here", "_law_cells", "_law_by"]) fun _ _ _ _ _ _ us hl => match us, hl with | [_, _, _], _ => rfl
    have D_law_heats : Dx l.prog w K mg base CX0 2 "_law_heats" ["_law_runs_here", "_law_cells", "_law_by"] [] spHeatsB := ⟨f_law_heats, _, ok_law_heats F_law_heats B D_law_meet, PySem.W.mg_of X G a_law_heats, k_law_heats, b_law_heats, ⟨[], b_law_heats, .nil⟩⟩
    have b_law_uses := F_law_uses.binds0 (ps := ["_law_cell", "_law_names_here", "_law_heats_here"]) fun _ _ _ _ _ _ us hl => match us, hl with | [_, _, _], _ => rfl
    have D_law_uses : Dx l.prog w K mg base CX0 1 "_law_uses" ["_law_cell", "_law_names_here", "_law_heats_here"] [] spUsesB := ⟨f_law_uses, _, ok_law_uses F_law_uses B , PySem.W.mg_of X G a_law_uses, k_law_uses, b_law_uses, ⟨[], b_law_uses, .nil⟩⟩
    have b_law_task := F_law_task.binds0 (ps := ["_law_run", "_law_cell", "_law_more", "_law_names_here", "_law_heats_here"]) fun _ _ _ _ _ _ us hl => match us, hl with | [_, _, _, _, _], _ => rfl
    have D_law_task : Dx l.prog w K mg base CX0 2 "_law_task" ["_law_run", "_law_cell", "_law_more", "_law_names_here", "_law_heats_here"] [] spTaskB := ⟨f_law_task, _, ok_law_task F_law_task B D_law_uses, PySem.W.mg_of X G a_law_task, k_law_task, b_law_task, ⟨[], b_law_task, .nil⟩⟩
    have b_law_used := F_law_used.binds0 (ps := ["_law_runs_here", "_law_tasks", "_law_name", "_law_t"]) fun _ _ _ _ _ _ us hl => match us, hl with | [_, _, _, _], _ => rfl
    have D_law_used : Dx l.prog w K mg base CX0 1 "_law_used" ["_law_runs_here", "_law_tasks", "_law_name", "_law_t"] [] spUsedB := ⟨f_law_used, _, ok_law_used F_law_used B , PySem.W.mg_of X G a_law_used, k_law_used, b_law_used, ⟨[], b_law_used, .nil⟩⟩
    have b_law_tools := F_law_tools.binds0 (ps := ["_law_runs_here", "_law_tasks", "_law_names_here", "_law_cell"]) fun _ _ _ _ _ _ us hl => match us, hl with | [_, _, _, _], _ => rfl
    have D_law_tools : Dx l.prog w K mg base CX0 2 "_law_tools" ["_law_runs_here", "_law_tasks", "_law_names_here", "_law_cell"] [] spToolsB := ⟨f_law_tools, _, ok_law_tools F_law_tools B D_law_used, PySem.W.mg_of X G a_law_tools, k_law_tools, b_law_tools, ⟨[], b_law_tools, .nil⟩⟩
    have b_law_arcs := F_law_arcs.binds0 (ps := ["_law_cells", "_law_times", "_law_far"]) fun _ _ _ _ _ _ us hl => match us, hl with | [_, _, _], _ => rfl
    have D_law_arcs : Dx l.prog w K mg base CX0 1 "_law_arcs" ["_law_cells", "_law_times", "_law_far"] [] spArcsU := ⟨f_law_arcs, _, ok_law_arcs F_law_arcs B , PySem.W.mg_of X G a_law_arcs, k_law_arcs, b_law_arcs, ⟨[], b_law_arcs, .nil⟩⟩
    have b_law_apart := F_law_apart.binds0 (ps := ["_law_runs_here", "_law_cell"]) fun _ _ _ _ _ _ us hl => match us, hl with | [_, _], _ => rfl
    have D_law_apart : Dx l.prog w K mg base CX0 2 "_law_apart" ["_law_runs_here", "_law_cell"] [] spApartU := ⟨f_law_apart, _, ok_law_apart F_law_apart B D_law_mixed D_law_meet, PySem.W.mg_of X G a_law_apart, k_law_apart, b_law_apart, ⟨[], b_law_apart, .nil⟩⟩
    have b_law_case := F_law_case.binds0 (ps := ["_law_runs_here", "_law_cell"]) fun _ _ _ _ _ _ us hl => match us, hl with | [_, _], _ => rfl
    have D_law_case : Dx l.prog w K mg base CX0 2 "_law_case" ["_law_runs_here", "_law_cell"] [] spCaseU := ⟨f_law_case, _, ok_law_case F_law_case B D_law_mixed, PySem.W.mg_of X G a_law_case, k_law_case, b_law_case, ⟨[], b_law_case, .nil⟩⟩
    have b_law_built := F_law_built.binds0 (ps := ["_law_script", "_law_at", "_law_many", "_law_far"]) fun _ _ _ _ _ _ us hl => match us, hl with | [_, _, _, _], _ => rfl
    have D_law_built : Dx l.prog w K mg base CX0 3 "_law_built" ["_law_script", "_law_at", "_law_many", "_law_far"] [] (spBuilt K) := ⟨f_law_built, _, ok_law_built F_law_built B D_law_cell_at D_law_names D_law_runs D_law_heats D_law_task D_law_tools, PySem.W.mg_of X G a_law_built, k_law_built, b_law_built, ⟨[], b_law_built, .nil⟩⟩
    have b_law_points := F_law_points.binds0 (ps := ["_law_runs_here", "_law_times"]) fun _ _ _ _ _ _ us hl => match us, hl with | [_, _], _ => rfl
    have D_law_points : Dx l.prog w K mg base CX0 1 "_law_points" ["_law_runs_here", "_law_times"] [] spPointsB := ⟨f_law_points, _, ok_law_points F_law_points B , PySem.W.mg_of X G a_law_points, k_law_points, b_law_points, ⟨[], b_law_points, .nil⟩⟩
    have b_law_any_case := F_law_any_case.binds0 (ps := ["_law_script", "_law_tasks"]) fun _ _ _ _ _ _ us hl => match us, hl with | [_, _], _ => rfl
    have D_law_any_case : Dx l.prog w K mg base CX0 2 "_law_any_case" ["_law_script", "_law_tasks"] [] (spAnyCase K) := ⟨f_law_any_case, _, ok_law_any_case F_law_any_case B D_law_cell_at, PySem.W.mg_of X G a_law_any_case, k_law_any_case, b_law_any_case, ⟨[], b_law_any_case, .nil⟩⟩
    have b_law_open := F_law_open.binds0 (ps := ["_law_tasks", "_law_case_here", "_law_i"]) fun _ _ _ _ _ _ us hl => match us, hl with | [_, _, _], _ => rfl
    have D_law_open : Dx l.prog w K mg base CX0 1 "_law_open" ["_law_tasks", "_law_case_here", "_law_i"] [] spOpenL := ⟨f_law_open, _, ok_law_open F_law_open B , PySem.W.mg_of X G a_law_open, k_law_open, b_law_open, ⟨[], b_law_open, .nil⟩⟩
    have b_law_obeyed := F_law_obeyed.binds0 (ps := ["_law_case_here", "_law_runs_here"]) fun _ _ _ _ _ _ us hl => match us, hl with | [_, _], _ => rfl
    have D_law_obeyed : Dx l.prog w K mg base CX0 1 "_law_obeyed" ["_law_case_here", "_law_runs_here"] [] spObeyed := ⟨f_law_obeyed, _, ok_law_obeyed F_law_obeyed B , PySem.W.mg_of X G a_law_obeyed, k_law_obeyed, b_law_obeyed, ⟨[], b_law_obeyed, .nil⟩⟩
    have b_law_due := F_law_due.binds0 (ps := ["_law_arcs_here", "_law_tasks", "_law_case_here"]) fun _ _ _ _ _ _ us hl => match us, hl with | [_, _, _], _ => rfl
    have D_law_due : Dx l.prog w K mg base CX0 2 "_law_due" ["_law_arcs_here", "_law_tasks", "_law_case_here"] [] spDueA := ⟨f_law_due, _, ok_law_due F_law_due B D_law_open, PySem.W.mg_of X G a_law_due, k_law_due, b_law_due, ⟨[], b_law_due, .nil⟩⟩
    have b_law_again := F_law_again.binds0 (ps := ["_law_net", "_law_tasks", "_law_arcs_here", "_law_case_here"]) fun _ _ _ _ _ _ us hl => match us, hl with | [_, _, _, _], _ => rfl
    have D_law_again : Dx l.prog w K mg base CX0 6 "_law_again" ["_law_net", "_law_tasks", "_law_arcs_here", "_law_case_here"] [] (spAgain c_Net) := ⟨f_law_again, _, ok_law_again F_law_again B DNet_init Dstart_case_vn Dopen_ways_vn Darcs_of D_law_open D_law_due, PySem.W.mg_of X G a_law_again, k_law_again, b_law_again, ⟨[], b_law_again, .nil⟩⟩
    have b_law_told := F_law_told.binds0 (ps := ["_law_net", "_law_arcs_here", "_law_tasks", "_law_case_here", "_law_plan"]) fun _ _ _ _ _ _ us hl => match us, hl with | [_, _, _, _, _], _ => rfl
    have D_law_told : Dx l.prog w K mg base CX0 6 "_law_told" ["_law_net", "_law_arcs_here", "_law_tasks", "_law_case_here", "_law_plan"] [] (spTold65 c_Net) := ⟨f_law_told, _, ok_law_told F_law_told B Dopen_ways Dobeys Darcs_of D_law_whole D_law_open D_law_obeyed D_law_due, PySem.W.mg_of X G a_law_told, k_law_told, b_law_told, ⟨[], b_law_told, .nil⟩⟩
    exact oklaw Flaw B DNet_init Dstart_case Darcs_of D_law_cell_at D_law_arcs D_law_apart D_law_case D_law_built D_law_points D_law_any_case D_law_obeyed D_law_due D_law_again D_law_told
theorem walk {l : PySem.W.OpenLaw} {q : Program} {loose : List Str} {XP : (Str → Option Value) → Heap → Prop} {YP : World → Heap → Prop} {d : DefRec} {K : Params → PySem.W.Frag} (hn : l.most = some 63) (hdf : d.params.defaults = [])
    (hY : ∀ (w : World) (h : Heap), YP w h → (K w.params).In h)
    (F : ∀ (w : World) (mg : Str → Option Value) (fa : Addr) (h : Heap), (K w.params).In h → h.Ns mainGlobals mg → mg d.name = some (.ref fa) →
      ∃ fd : FuncData, (∀ (s : Shared) (u : Value), BindsTo s fd ⟨[u], []⟩ [("_law_script", u)]) ∧ ∀ base : Heap, (K w.params).In base → base.Ns mainGlobals mg → FnOk l.prog w (K w.params) mg base CX0 9 fa fd ["_law_script"] (spLaw (K w.params))) :
    PySem.W.WalkO q loose XP YP l.row.toRowW d [] (fun f vs => PySem.call f vs) :=
  L2.walk_of (n := 63) (k := 9) (x := "_law_script") (CX := fun _ => CX0) (sp := fun w => spLaw (K w.params)) hn (by decide) hdf ⟨rfl, by decide, by decide⟩ hY F (fun _ _ a ns hl _ hS => ⟨a, ns, rfl, hS, hl, fun _ => rfl⟩) fun _ _ _ _ _ z => z
end Lk65
open PySem PySem.W PyProof.Rows
set_option maxRecDepth 100000 in
set_option maxHeartbeats 0 in
theorem PySem.Challenge.cw_stovework_k65_cases_holds : PySem.Challenge.rw_stovework_k65_cases.Holds := by
  refine Lk65.hd ?_
  k_fill
  refine Lk65.walk (l := PySem.Challenge.rw_stovework_k65_cases) rfl rfl (fun w h Y => PySem.W.kIn_of Y) ?F
  case F =>
    intro w mg fa h KX G hmg
    refine' Lk65.all_mk KX G hmg ?h0 ?h1 ?h2 ?h3 ?h4 ?h5 ?h6 ?h7 ?h8 ?h9 ?h10 ?h11 ?h12 ?h13 ?h14 ?h15 ?h16 ?h17 ?h18 ?h19 ?h20 ?h21 ?h22 ?h23 ?h24 ?h25 ?h26 ?h27 ?h28 ?h29 ?h30 ?h31 ?h32 ?h33 ?h34 ?h35 ?h36 ?h37 ?h38 ?h39 ?h40 ?h41 ?h42 ?h43 ?h44 ?h45 ?h46 ?h47 ?h48 ?h49 ?h50 ?h51 ?h52 ?h53 ?h54 ?h55 ?h56 ?h57 ?h58 ?h59 ?h60 ?h61 ?h62 ?h63 ?h64 ?h65 ?h66 ?h67 ?h68 ?h69 ?h70 ?h71 ?h72 ?h73 ?h74 ?h75 ?h76 ?h77 ?h78 ?h79 ?h80 ?h81 ?h82 ?h83 ?h84 ?h85 ?h86 ?h87 ?h88 ?h89 ?h90 ?h91 ?h92 ?h93 ?h94 ?h95 ?h96 ?h97 ?h98 ?h99 ?h100 ?h101 ?h102 ?h103 ?h104 ?h105 ?h106 ?h107 ?h108 ?h109 ?h110 ?h111 ?h112 ?h113 ?h114 ?h115 ?h116 ?h117 ?h118 ?h119 ?h120 ?h121 ?h122 ?h123 ?h124 ?h125 ?h126 ?h127 ?h128 ?h129 ?h130 ?h131 ?h132 ?h133 ?h134 ?h135 ?h136 ?h137 ?h138 ?h139 ?h140 ?h141 ?h142 ?h143 ?h144 ?h145 ?h146 ?h147 ?h148 ?h149 ?h150 ?h151 ?h152 ?h153 ?h154 ?h155 ?h156 ?h157 ?h158 ?h159 ?h160 ?h161 ?h162 ?h163 ?h164 ?h165 ?h166 ?h167 ?h168 ?h169 ?h170 ?h171 ?h172 ?h173 ?h174 ?h175 ?h176 ?h177 ?h178
    (case h0 => k_is)
    (case h1 => k_is)
    (case h2 => k_is)
    (case h3 => k_is)
    (case h4 => k_is)
    (case h5 => k_is)
    (case h6 => k_is)
    (case h7 => k_is)
    (case h8 => k_is)
    (case h9 => k_is)
    (case h10 => k_is)
    (case h11 => k_is)
    (case h12 => k_is)
    (case h13 => k_is)
    (case h14 => k_is)
    (case h15 => k_is)
    (case h16 => k_is)
    (case h17 => k_is)
    (case h18 => k_is)
    (case h19 => k_is)
    (case h20 => k_is)
    (case h21 => k_is)
    (case h22 => k_is)
    (case h23 => k_is)
    (case h24 => k_is)
    (case h25 => k_is)
    (case h26 => k_is)
    (case h27 => k_is)
    (case h28 => k_is)
    (case h29 => k_is)
    (case h30 => k_is)
    (case h31 => k_is)
    (case h32 => k_is)
    (case h33 => k_is)
    (case h34 => k_is)
    (case h35 => k_is)
    (case h36 => k_is)
    (case h37 => k_is)
    (case h38 => k_is)
    (case h39 => k_is)
    (case h40 => k_is)
    (case h41 => k_is)
    (case h42 => k_is)
    (case h43 => k_is)
    (case h44 => k_is)
    (case h45 => k_is)
    (case h46 => k_is)
    (case h47 => k_is)
    (case h48 => k_is)
    (case h49 => k_is)
    (case h50 => k_is)
    (case h51 => k_is)
    (case h52 => k_is)
    (case h53 => k_is)
    (case h54 => k_is)
    (case h55 => k_is)
    (case h56 => k_is)
    (case h57 => k_is)
    (case h58 => k_is)
    (case h59 => k_is)
    (case h60 => k_is)
    (case h61 => k_is)
    (case h62 => k_is)
    (case h63 => k_is)
    (case h64 => k_is)
    (case h65 => k_is)
    (case h66 => k_is)
    (case h67 => k_is)
    (case h68 => k_is)
    (case h69 => k_is)
    (case h70 => k_is)
    (case h71 => k_is)
    (case h72 => k_is)
    (case h73 => k_is)
    (case h74 => k_is)
    (case h75 => k_is)
    (case h76 => k_is)
    (case h77 => k_is)
    (case h78 => k_is)
    (case h79 => k_is)
    (case h80 => k_is)
    (case h81 => k_is)
    (case h82 => k_is)
    (case h83 => k_is)
    (case h84 => k_is)
    (case h85 => k_is)
    (case h86 => k_is)
    (case h87 => k_is)
    (case h88 => k_is)
    (case h89 => k_is)
    (case h90 => k_is)
    (case h91 => k_is)
    (case h92 => k_is)
    (case h93 => k_is)
    (case h94 => k_is)
    (case h95 => k_is)
    (case h96 => k_is)
    (case h97 => k_is)
    (case h98 => k_is)
    (case h99 => k_is)
    (case h100 => k_is)
    (case h101 => k_is)
    (case h102 => k_is)
    (case h103 => k_is)
    (case h104 => k_is)
    (case h105 => k_is)
    (case h106 => k_is)
    (case h107 => k_is)
    (case h108 => k_is)
    (case h109 => k_is)
    (case h110 => k_is)
    (case h111 => k_is)
    (case h112 => k_is)
    (case h113 => k_is)
    (case h114 => k_is)
    (case h115 => k_is)
    (case h116 => k_is)
    (case h117 => k_is)
    (case h118 => k_is)
    (case h119 => k_is)
    (case h120 => k_is)
    (case h121 => k_is)
    (case h122 => k_is)
    (case h123 => k_is)
    (case h124 => k_is)
    (case h125 => k_is)
    (case h126 => k_is)
    (case h127 => k_is)
    (case h128 => k_is)
    (case h129 => k_is)
    (case h130 => k_is)
    (case h131 => k_is)
    (case h132 => k_is)
    (case h133 => k_is)
    (case h134 => k_is)
    (case h135 => k_is)
    (case h136 => k_is)
    (case h137 => k_is)
    (case h138 => k_is)
    (case h139 => k_is)
    (case h140 => k_is)
    (case h141 => k_is)
    (case h142 => k_is)
    (case h143 => k_is)
    (case h144 => k_is)
    (case h145 => k_is)
    (case h146 => k_is)
    (case h147 => k_is)
    (case h148 => k_is)
    (case h149 => k_is)
    (case h150 => k_is)
    (case h151 => k_is)
    (case h152 => k_is)
    (case h153 => k_is)
    (case h154 => k_is)
    (case h155 => k_is)
    (case h156 => k_is)
    (case h157 => k_is)
    (case h158 => k_is)
    (case h159 => k_is)
    (case h160 => k_is)
    (case h161 => k_is)
    (case h162 => k_is)
    (case h163 => k_is)
    (case h164 => k_is)
    (case h165 => k_is)
    (case h166 => k_is)
    (case h167 => k_is)
    (case h168 => k_is)
    (case h169 => k_is)
    (case h170 => k_is)
    (case h171 => k_is)
    (case h172 => exact ⟨by k_is, by k_is, by k_is, by k_is⟩)
    (case h173 => exact ⟨by k_is, by k_is, by k_is, by k_is⟩)
    (case h174 => unfold L2.NoAttr; k_is)
    (case h175 => unfold L2.NoAttr; k_is)
    (case h176 => unfold L2.NoAttr; k_is)
    (case h177 => unfold L2.NoAttr; k_is)
    (case h178 => unfold L2.NoAttr; k_is)
