import PyProof.Rows.All
import Wide.All
import OpenK.AllK
import Wide.FinOn
import Lean
import PyProof.EqAt
import PyProof.EqKinds
import PyProof.TupleCall
import PyProof.NeKinds
import PyProof.StationsW
import PyProof.RulesAs
import PyProof.ExcArgsOwn
import PyProof.CompFree
import PyProof.ExcInit
import PyProof.ConsumeWalk
import PyProof.Rows.SeqGen
import PyProof.StrWalks
import PyProof.SliceStr2
import PyProof.MeetsStr
import KE.KIntText
import PyProof.Rows.FStr
import PyProof.StrCalls6
import PyProof.StrBlockL
import PyProof.ToksMono
import PyProof.WalkInts
import PyProof.Rows.MinMaxN
import PyProof.StrLawsReplace
import PyProof.StrLawsTight
import PyProof.Rows.StrLawsPart
import PyProof.DictWalks
import KE.KEqDict
import KE.KDictLaws
import KE.KRevIter
import PyProof.ListCopy
import PyProof.CollectIter
import PyProof.Rows.SetFrom
import PyProof.Rows.SortShellK
import PyProof.Rows.SortStr
import PyProof.Rows.SortWalk
import KE.KDictSum
import KE.KSortTup
import PyProof.TupleOfSeq
import PyProof.Rows.SortRuns
import PySem.Challenge.RW_stovework_k23_rings_refused
/-! The run of a law's top over a tree in the heap's place, at once: then the heap that it stands for is what the head asks. Own work. -/
namespace Ht
open PySem PySem.W PyProof.Rows
/-- steps till the top is through -/
noncomputable def runT (ok : Thread → Bool) (st : SharedT → Thread → Option (SharedT × Thread)) (n : Nat) : SharedT → Thread → Option SharedT :=
  Nat.rec (motive := fun _ => SharedT → Thread → Option SharedT) (fun _ _ => none) (fun _ ih s t =>
    Bool.rec (motive := fun _ => Option SharedT)
      (Bool.rec (motive := fun _ => Option SharedT) none (Option.rec (motive := fun _ => Option SharedT) none (fun r => Prod.rec (motive := fun _ => Option SharedT) (fun s' t' => ih s' t') r) (st s t)) (ok t))
      (some s) (through t)) n
theorem runT_of {tb : String → Option Builtin} {p : Program} {w : World} {m : Nat} {ann : Option Value} : ∀ {n : Nat} {s s' : SharedT} {t : Thread}, runT (stepOk m ann) (stepT (denote tb) p w) n s t = some s' → topRun tb p w m ann n s.abs t = some s'.abs
  | 0, _, _, _, h => by cases h
  | n + 1, s, s', t, h => by
    unfold topRun
    have h' : Bool.rec (motive := fun _ => Option SharedT)
      (Bool.rec (motive := fun _ => Option SharedT) none (Option.rec (motive := fun _ => Option SharedT) none (fun r => Prod.rec (motive := fun _ => Option SharedT) (fun s' t' => runT (stepOk m ann) (stepT (denote tb) p w) n s' t') r) (stepT (denote tb) p w s t)) (stepOk m ann t))
      (some s) (through t) = some s' := h
    cases ht : through t with
    | true => rw [ht] at h'; cases h'; rfl
    | false =>
      rw [ht] at h'
      cases hk : stepOk m ann t with
      | false => rw [hk] at h'; cases h'
      | true =>
        rw [hk] at h'
        cases hs : stepT (denote tb) p w s t with
        | none => rw [hs] at h'; cases h'
        | some r =>
          obtain ⟨s₂, t₂⟩ := r
          rw [hs] at h'
          dsimp only
          rw [stepT_spec hs]
          exact runT_of h'
/-- a tree of a list's things -/
noncomputable def grow (l : List Obj) : Nat → BT → Option BT :=
  List.rec (motive := fun _ => Nat → BT → Option BT) (fun _ t => some t) (fun o _ ih n t =>
    Bool.rec (motive := fun _ => Option BT) none (ih (n + 1) (t.ins n o)) ((t.ins n o).get n).isSome) l
theorem grow_of {life : Life} : ∀ {l : List Obj} {n : Nat} {t t' : BT}, grow l n t = some t' → absHeap t' (n + l.length) life = ⟨(absHeap t n life).objs ++ l.toArray, life⟩
  | [], n, t, t', h => by
    cases h
    simp [absHeap]
  | o :: l, n, t, t', h => by
    have h' : Bool.rec (motive := fun _ => Option BT) none (grow l (n + 1) (t.ins n o)) ((t.ins n o).get n).isSome = some t' := h
    cases e : ((t.ins n o).get n).isSome with
    | false => rw [e] at h'; cases h'
    | true =>
      rw [e] at h'
      have z := grow_of (life := life) h'
      rw [absHeap_ins e] at z
      rw [show n + (o :: l).length = n + 1 + l.length by rw [List.length_cons]; omega, z]
      simp [Heap.push]
noncomputable def treeOf (s : Shared) : Option SharedT :=
  Option.rec (motive := fun _ => Option SharedT) none (fun t => some ⟨t, s.heap.objs.size, s.heap.life, s.gens, s.drawn, s.toks, s.os⟩) (grow s.heap.objs.toList 0 .nil)
theorem treeOf_abs {s : Shared} {s' : SharedT} (h : treeOf s = some s') : s'.abs = s := by
  have h' : Option.rec (motive := fun _ => Option SharedT) none (fun t => some ⟨t, s.heap.objs.size, s.heap.life, s.gens, s.drawn, s.toks, s.os⟩) (grow s.heap.objs.toList 0 .nil) = some s' := h
  cases e : grow s.heap.objs.toList 0 .nil with
  | none => rw [e] at h'; cases h'
  | some t =>
    rw [e] at h'
    cases h'
    have z := grow_of (life := s.heap.life) e
    obtain ⟨⟨objs, life⟩, gens, drawn, toks, os⟩ := s
    simp only [SharedT.abs]
    have z' : absHeap t objs.size life = ⟨objs, life⟩ := by
      simpa [absHeap, BT.list] using z
    rw [z']
/-- the top's run from what the opening left -/
noncomputable def endsT (ok : Nat → Option Value → Thread → Bool) (st : SharedT → Thread → Option (SharedT × Thread)) (p : Program) (N : Nat) (s₀ : Shared) : Option Shared :=
  Bool.rec (motive := fun _ => Option Shared) none
    ((treeOf s₀).bind fun t₀ => (runT (ok s₀.heap.objs.size (s₀.heap.nsMap mainGlobals "__annotations__")) st N t₀ (topStub p)).bind fun t₁ =>
      (fun s₁ => Bool.rec (motive := fun _ => Option Shared) none (some s₁) (staticsOk (importedModules p.main.body) s₀.heap s₁.heap && namesBound p s₁.heap && gensDone s₁ && laidKept s₀.heap s₁.heap)) t₁.abs)
    (s₀.heap.isNs mainGlobals && s₀.gens.size == 0)
theorem endsT_of {tb : String → Option Builtin} {p : Program} {w : World} {N : Nat} {s₀ s : Shared} (h : endsT stepOk (stepT (denote tb) p w) p N s₀ = some s) : topFrom tb p w N s₀ = some s := by
  unfold endsT at h
  unfold topFrom
  cases e : s₀.heap.isNs mainGlobals && s₀.gens.size == 0 with
  | false => rw [e] at h; cases h
  | true =>
    rw [e] at h
    obtain ⟨t₀, e0, h⟩ := Option.bind_eq_some_iff.mp h
    obtain ⟨t₁, e1, h⟩ := Option.bind_eq_some_iff.mp h
    have r := runT_of e1
    rw [treeOf_abs e0] at r
    dsimp only
    rw [r]
    dsimp only at h
    show (match staticsOk (importedModules p.main.body) s₀.heap t₁.abs.heap && namesBound p t₁.abs.heap && gensDone t₁.abs && laidKept s₀.heap t₁.abs.heap with | true => some t₁.abs | false => none) = some s
    cases q : staticsOk (importedModules p.main.body) s₀.heap t₁.abs.heap && namesBound p t₁.abs.heap && gensDone t₁.abs && laidKept s₀.heap t₁.abs.heap with
    | false => rw [q] at h; cases h
    | true => rw [q] at h; exact h
/-- the head's run, told by the tree -/
theorem left_of {p q : Program} {loose : List Str} {Xt : Shared → Bool} {α : Type} {Yf : Shared → α} {Ya : World → α} {N : Nat} {g0 : Bool}
    (h : ∀ w : World, ((importEnds treeTable (opening p) w N (start (opening p)).1 (start (opening p)).2).bind fun s => (fenceModules? p s).bind fun s₀ => endsT stepOk (stepT (denote treeTable) p w) p N s₀).map (fun s => (openSeen q loose (importedModules p.main.body) Xt g0 s, Yf s)) = some (openGood q loose, Ya w)) : LeftO p q loose Xt Yf Ya N g0 := fun w => by
  obtain ⟨s, e, e'⟩ := Option.map_eq_some_iff.mp (h w)
  obtain ⟨s1, a1, e⟩ := Option.bind_eq_some_iff.mp e
  obtain ⟨s0, a0, e⟩ := Option.bind_eq_some_iff.mp e
  have z : openEnds treeTable p w N = some s := by
    unfold openEnds fencedOpening
    rw [a1]
    show (fenceModules? p s1).bind _ = _
    rw [a0]
    exact endsT_of e
  rw [z]
  exact congrArg some e'
end Ht
set_option Elab.async false
set_option linter.all false
set_option maxRecDepth 100000
/-! THE HAND LAYER, for ints, bools, texts, own classes, LISTS and tuples (index, slices, in, append, pop ..), calls, loops. Paste it whole ahead of your own text; what your proof does not reach may be deleted. -/
namespace L2
open PySem PySem.Spec PyProof.Rows

/-- a key: an int or a str -/
abbrev Key := Sum Int Str
def keyIs : Key → Value → Bool
  | .inl k, v => Value.isInt k v
  | .inr x, v => Value.isStrOf x v
def keyH (w : World) : Key → Int
  | .inl k => hashInt k
  | .inr x => hashStr w x
theorem keyIs_shape : ∀ {k : Key} {v : Value}, keyIs k v = true → (∃ i t, k = Sum.inl i ∧ v = Value.int i t) ∨ (∃ x t, k = Sum.inr x ∧ v = Value.str x t)
  | .inl i, v, h => by
    obtain ⟨t, e⟩ := Value.isInt_shape (k := i) (v := v) h
    exact .inl ⟨i, t, rfl, e⟩
  | .inr x, v, h => by
    obtain ⟨t, e⟩ := Value.isStrOf_shape (x := x) (v := v) h
    exact .inr ⟨x, t, rfl, e⟩
theorem keyIs_int (i : Int) (t : Tok) : keyIs (.inl i) (.int i t) = true := by simp [keyIs, Value.isInt]
theorem keyIs_str (x : Str) (t : Tok) : keyIs (.inr x) (.str x t) = true := by simp [keyIs, Value.isStrOf]
theorem key_ll (a b : Int) : decide ((Sum.inl a : Key) = Sum.inl b) = (a == b) := by
  by_cases e : a = b
  · subst e; simp
  · have h : ¬ (Sum.inl a : Key) = Sum.inl b := fun q => e (Sum.inl.inj q)
    rw [decide_eq_false h]
    exact (beq_eq_false_iff_ne.mpr e).symm
theorem key_rr (a b : Str) : decide ((Sum.inr a : Key) = Sum.inr b) = decide (a = b) := by
  by_cases e : a = b
  · subst e; simp
  · have h : ¬ (Sum.inr a : Key) = Sum.inr b := fun q => e (Sum.inr.inj q)
    rw [decide_eq_false h, decide_eq_false e]
theorem key_lr (a : Int) (b : Str) : decide ((Sum.inl a : Key) = Sum.inr b) = false := decide_eq_false (fun q => nomatch q)
theorem key_rl (a : Str) (b : Int) : decide ((Sum.inr a : Key) = Sum.inl b) = false := decide_eq_false (fun q => nomatch q)

def mixKind (prog : Program) (w : World) : PySem.KeyKind prog w Key where
  is := keyIs
  hash := keyH w
  inj := fun v a b ha hb => by
    rcases keyIs_shape ha with ⟨i, t, rfl, rfl⟩ | ⟨x, t, rfl, rfl⟩
    · rcases keyIs_shape hb with ⟨j, u, rfl, e⟩ | ⟨y, u, rfl, e⟩
      · injection e with e1 _; rw [e1]
      · exact nomatch e
    · rcases keyIs_shape hb with ⟨j, u, rfl, e⟩ | ⟨y, u, rfl, e⟩
      · exact nomatch e
      · injection e with e1 _; rw [e1]
  byValue := fun k v h => by
    rcases keyIs_shape h with ⟨i, t, rfl, rfl⟩ | ⟨x, t, rfl, rfl⟩ <;> rfl
  pyHash := fun hv h => by
    rcases keyIs_shape hv with ⟨i, t, rfl, rfl⟩ | ⟨x, t, rfl, rfl⟩
    · exact wpAny_pyHash_int h
    · exact wpAny_pyHash_str h
  eqBool := fun hu hv h => by
    rcases keyIs_shape hu with ⟨i, t, rfl, rfl⟩ | ⟨x, t, rfl, rfl⟩
    · rcases keyIs_shape hv with ⟨j, u, rfl, rfl⟩ | ⟨y, u, rfl, rfl⟩
      · rw [key_ll] at h; exact wpAny_eqBool_int h
      · rw [key_lr] at h; exact SeqAt.EqAt.int_str i t y u _ _ _ _ h
    · rcases keyIs_shape hv with ⟨j, u, rfl, rfl⟩ | ⟨y, u, rfl, rfl⟩
      · rw [key_rl] at h; exact SeqAt.EqAt.str_int x t j u _ _ _ _ h
      · rw [key_rr] at h; exact wpAny_eqBool_str h
  «strs» := fun k x t v h => by
    rcases keyIs_shape h with ⟨i, u, rfl, e⟩ | ⟨y, u, rfl, e⟩
    · exact nomatch e
    · injection e with e1 _
      subst e1
      cases v <;> rfl

theorem mixKind_int (prog : Program) (w : World) (i : Int) (t : Tok) : (mixKind prog w).is (.inl i) (.int i t) = true := keyIs_int i t
theorem mixKind_str (prog : Program) (w : World) (x : Str) (t : Tok) : (mixKind prog w).is (.inr x) (.str x t) = true := keyIs_str x t
end L2

namespace L2
open PySem PySem.Spec PyProof.Rows

/-- a value, without the heap -/
inductive V where
  | non | bl (b : Bool) | int (i : Int) | str (x : Str) | byt (b : Array UInt8) | flt (b : UInt64) | ref (a : Addr) | ty (n : String)
  deriving DecidableEq

def RelV : V → Value → Prop
  | .non, u => u = Value.none
  | .bl b, u => u = Value.bool b
  | .int i, u => ∃ t, u = Value.int i t
  | .str x, u => ∃ t, u = Value.str x t
  | .byt b, u => ∃ t, u = Value.bytes b t
  | .flt b, u => ∃ t, u = Value.float b t
  | .ref a, u => u = Value.ref a
  | .ty n, u => u = Value.type n

abbrev Vals : List V → List Value → Prop := Paired RelV
theorem Vals.length {xs : List V} {us : List Value} (r : Vals xs us) : xs.length = us.length := Paired.length r
theorem Vals.get : ∀ {xs : List V} {us : List Value} {i : Nat} {x : V}, Vals xs us → xs[i]? = some x → ∃ u, us[i]? = some u ∧ RelV x u
  | _, _, _, _, .nil, e => by simp at e
  | _, _, 0, _, .cons r _, e => by simp at e; subst e; exact ⟨_, rfl, r⟩
  | _, _, i + 1, x, .cons _ t, e => by
    obtain ⟨u, h1, h2⟩ := Vals.get (i := i) (x := x) t (by simpa using e)
    exact ⟨u, by simpa using h1, h2⟩
theorem Vals.append : ∀ {xs ys : List V} {us ws : List Value}, Vals xs us → Vals ys ws → Vals (xs ++ ys) (us ++ ws)
  | _, _, _, _, .nil, s => s
  | _, _, _, _, .cons r t, s => .cons r (Vals.append t s)
theorem Vals.take : ∀ {xs : List V} {us : List Value} (n : Nat), Vals xs us → Vals (xs.take n) (us.take n)
  | _, _, 0, _ => .nil
  | _, _, _ + 1, .nil => .nil
  | _, _, n + 1, .cons r t => .cons r (Vals.take n t)
theorem Vals.drop : ∀ {xs : List V} {us : List Value} (n : Nat), Vals xs us → Vals (xs.drop n) (us.drop n)
  | _, _, 0, r => r
  | _, _, _ + 1, .nil => .nil
  | _, _, n + 1, .cons _ t => Vals.drop n t
def RelO : Option V → Option Value → Prop
  | some v, some u => RelV v u
  | none, none => True
  | _, _ => False
def KV {κ : Type} : List (κ × V) → List (κ × Value) → Prop := Paired fun (p : κ × V) (q : κ × Value) => p.1 = q.1 ∧ RelV p.2 q.2

/-- a key of a dict (00_mix): an int or a text -/
def kV : Key → V
  | .inl i => .int i
  | .inr x => .str x

/-- what stands at a tracked address -/
inductive HO where
  /-- a list -/
  | lst (xs : List V)
  /-- a tuple (never changes) -/
  | tup (xs : List V)
  /-- a dict whose keys are ints and texts; one whose keys are tuples of ints and texts (the empty one is both) -/
  | dK (kvs : List (Key × V)) | dT (kvs : List (List Key × V))
  /-- a set of ints: its members, its size -/
  | set (S : Int → Bool) (n : Nat)
  /-- an instance of the class at C, its dict at dx, its attributes -/
  | ins (C dx : Addr) (fs : List (Str × V))
  /-- the dict of the instance at x -/
  | own (x : Addr)
  /-- the dict of an exception -/
  | xd (fs : List (Str × V))
  /-- a bound method, f of x -/
  | met (f x : Addr)
  /-- a range object lo, lo + 1, .. below hi -/
  | rng (lo hi : Int)
  /-- a thing that is known to the object (the script; a dict while a loop walks it): read, never written while it is so -/
  | frz (o : Obj) (u : HO)
  /-- a code object's table -/
  | tbl (ps : Array Value)
  /-- any other thing, by what is true of its one object (a def of one's own: SetO a S n := HO.ext fun h => ..) -/
  | ext (φ : Heap → Prop)

abbrev Hp := Addr → Option HO
def upd (H : Hp) (a : Addr) (o : HO) : Hp := fun b => if b = a then some o else H b
theorem upd_same {H : Hp} {a : Addr} {o : HO} : upd H a o a = some o := by unfold upd; rw [if_pos rfl]
theorem upd_ne {H : Hp} {a b : Addr} {o : HO} (h : b ≠ a) : upd H a o b = H b := by unfold upd; rw [if_neg h]
theorem upd_upd {H : Hp} {a : Addr} {o u : HO} : upd (upd H a o) a u = upd H a u := by
  funext b; unfold upd; split <;> rfl
/-- two objects of different content stand apart -/
theorem ne_of {H : Hp} {a b : Addr} {o u : HO} (h : H a = some o) (h' : H b = some u) (d : o ≠ u) : a ≠ b := by
  intro e; subst e; rw [h] at h'; exact d (Option.some.inj h')
theorem ne_of_none {H : Hp} {a b : Addr} {o : HO} (h : H a = some o) (h' : H b = none) : a ≠ b := by
  intro e; subst e; rw [h] at h'; cases h'

section
variable (P : Program) (w : World)
def ObjOk (H : Hp) (h : Heap) (a : Addr) : HO → Prop
  | .lst xs => xs.length ≤ sizeLine ∧ ∃ (its : List Value) (n : Nat), Vals xs its ∧ h.get? a = some { cls := .type "list", data := .seq its.toArray n }
  | .tup xs => xs.length ≤ sizeLine ∧ ∃ its : List Value, Vals xs its ∧ IsTup h a its.toArray
  | .dK kvs => kvs.length ≤ sizeLine ∧ (a == sysModules) = false ∧ ∃ vs, KV kvs vs ∧ h.DictOf (mixKind P w) a vs
  | .dT kvs => kvs.length ≤ sizeLine ∧ (a == sysModules) = false ∧ ∃ xs : List (List Key × Addr × Value),
      Paired (fun (p : List Key × V) (q : List Key × Addr × Value) => p.1 = q.1 ∧ H q.2.1 = some (.tup (p.1.map kV)) ∧ RelV p.2 q.2.2) kvs xs ∧
      ∃ o es ep, h.get? a = some o ∧ o.ExactDict ∧ o.data = .dict es ep ∧ es.toList = xs.map (entryOfKey (tupleKind (mixKind P w))) ∧ (xs.map (·.1)).Nodup
  | .set S n => h.SetOf (intKind P w) a S n
  | .ins C dx fs => H dx = some (.own a) ∧ fs.length ≤ 1000 ∧ dx ≠ a ∧ h.get? a = some (PySem.W.instObj C dx) ∧
      ∃ mA, h.Ns1 dx mA ∧ (∀ f, RelO (fs.lookup f) (mA f)) ∧ PySem.Within mA (fs.map (·.1))
  | .own _ => ∃ o, h.get? a = some o
  | .xd fs => ∃ mA, h.Ns1 a mA ∧ ∀ f, RelO (fs.lookup f) (mA f)
  | .rng lo hi => ∃ t u v, h.get? a = some { cls := .type "range", data := .fields #[.int lo t, .int hi u, .int 1 v] }
  | .frz o u => h.get? a = some o ∧ ObjOk H h a u
  | .tbl ps => h.get? a = some { cls := .none, data := .fields ps }
  | .met f x => h.get? a = some (PySem.W.methodObj (.ref f) (.ref x))
  | .ext φ => φ h ∧ (∃ o, h.get? a = some o) ∧ ∀ h1 h2 : Heap, φ h1 → (∀ o, h1.get? a = some o → h2.get? a = some o) → φ h2
/-- the abstract heap is held -/
def HOk (H : Hp) (h : Heap) : Prop := ∀ a o, H a = some o → ObjOk P w H h a o
end

section
variable {P : Program} {w : World} {H H' : Hp} {h h' : Heap} {a : Addr} {o : HO}
theorem ObjOk.lt (x : ObjOk P w H h a o) : a < h.objs.size := by
  cases o with
  | lst xs => obtain ⟨_, _, _, _, e⟩ := x; exact Heap.lt_size e
  | tup xs => obtain ⟨_, _, _, p⟩ := x; exact p.lt
  | dK kvs => obtain ⟨_, _, _, _, o, _, _, e, _⟩ := x; exact Heap.lt_size e
  | dT kvs => obtain ⟨_, _, _, _, o, _, _, e, _⟩ := x; exact Heap.lt_size e
  | set S n => obtain ⟨o, _, _, _, e, _⟩ := x; exact Heap.lt_size e
  | ins C dx fs => obtain ⟨_, _, _, e, _⟩ := x; exact Heap.lt_size e
  | own y => obtain ⟨_, e⟩ := x; exact Heap.lt_size e
  | xd fs => obtain ⟨_, ⟨_, _, _, e, _⟩, _⟩ := x; exact Heap.lt_size e
  | rng lo hi => obtain ⟨_, _, _, e⟩ := x; exact Heap.lt_size e
  | frz ob u => obtain ⟨e, _⟩ := x; exact Heap.lt_size e
  | tbl ps => exact Heap.lt_size (show h.get? a = some _ from x)
  | met f y => exact Heap.lt_size (show h.get? a = some _ from x)
  | ext φ => obtain ⟨_, ⟨_, e⟩, _⟩ := x; exact Heap.lt_size e
theorem Paired.mapP {α β : Type} {F G : α → β → Prop} : ∀ {l₁ : List α} {l₂ : List β}, Paired F l₁ l₂ → (∀ a b, F a b → G a b) → Paired G l₁ l₂
  | _, _, .nil, _ => .nil
  | _, _, .cons r t, f => .cons (f _ _ r) (Paired.mapP t f)
/-- what an object's description leans on: its own object, its own dict, the tuples -/
theorem ObjOk.stay (x : ObjOk P w H h a o) (k : ∀ b u, (b = a ∨ H b = some (.own a)) → h.get? b = some u → h'.get? b = some u)
    (ho : ∀ b, H b = some (.own a) → H' b = some (.own a)) (ht : ∀ b xs, H b = some (.tup xs) → H' b = some (.tup xs)) : ObjOk P w H' h' a o := by
  induction o with
  | lst xs => obtain ⟨z, its, n, r, e⟩ := x; exact ⟨z, its, n, r, k _ _ (.inl rfl) e⟩
  | tup xs => obtain ⟨z, its, r, ob, e, c⟩ := x; exact ⟨z, its, r, ob, k _ _ (.inl rfl) e, c⟩
  | dK kvs => obtain ⟨z, y, vs, r, ob, es, ep, e, c⟩ := x; exact ⟨z, y, vs, r, ob, es, ep, k _ _ (.inl rfl) e, c⟩
  | dT kvs =>
    obtain ⟨z, y, xs, r, ob, es, ep, e, c⟩ := x
    exact ⟨z, y, xs, Paired.mapP r fun p q z => ⟨z.1, ht _ _ z.2.1, z.2.2⟩, ob, es, ep, k _ _ (.inl rfl) e, c⟩
  | set S n => obtain ⟨ob, es, ep, t, e, c⟩ := x; exact ⟨ob, es, ep, t, k _ _ (.inl rfl) e, c⟩
  | ins C dx fs =>
    obtain ⟨d, z, ne, e, mA, ⟨od, es, ep, e2, c⟩, r⟩ := x
    exact ⟨ho _ d, z, ne, k _ _ (.inl rfl) e, mA, ⟨od, es, ep, k _ _ (.inr d) e2, c⟩, r⟩
  | own y => obtain ⟨ob, e⟩ := x; exact ⟨ob, k _ _ (.inl rfl) e⟩
  | xd fs => obtain ⟨mA, ⟨od, es, ep, e, c⟩, r⟩ := x; exact ⟨mA, ⟨od, es, ep, k _ _ (.inl rfl) e, c⟩, r⟩
  | rng lo hi => obtain ⟨t, u, v, e⟩ := x; exact ⟨t, u, v, k _ _ (.inl rfl) e⟩
  | frz ob u ih => obtain ⟨e, q⟩ := x; exact ⟨k _ _ (.inl rfl) e, ih q⟩
  | tbl ps =>
    have e : h.get? a = some { cls := .none, data := .fields ps } := x
    show h'.get? a = some { cls := .none, data := .fields ps }
    exact k a _ (.inl rfl) e
  | met f y =>
    have e : h.get? a = some (PySem.W.methodObj (.ref f) (.ref y)) := x
    show h'.get? a = some (PySem.W.methodObj (.ref f) (.ref y))
    exact k a _ (.inl rfl) e
  | ext φ => obtain ⟨p, ⟨o, e⟩, st⟩ := x; exact ⟨st _ _ p fun o q => k _ _ (.inl rfl) q, ⟨o, k _ _ (.inl rfl) e⟩, st⟩
theorem HOk.lt (x : HOk P w H h) (e : H a = some o) : a < h.objs.size := (x a o e).lt
theorem HOk.fresh (x : HOk P w H h) (e : h.objs.size ≤ a) : H a = none := by
  cases q : H a with
  | none => rfl
  | some u => exact absurd (Nat.lt_of_lt_of_le (x.lt q) e) (Nat.lt_irrefl _)
/-- every object of the heap is kept -/
theorem HOk.kept (x : HOk P w H h) (k : ∀ b u, h.get? b = some u → h'.get? b = some u) : HOk P w H h' := fun a o e =>
  (x a o e).stay (fun b u _ q => k b u q) (fun _ q => q) fun _ _ q => q
/-- a new object is laid and tracked -/
theorem HOk.laid (x : HOk P w H h) (k : ∀ b u, h.get? b = some u → h'.get? b = some u) (hp : h.objs.size ≤ a) (new : ObjOk P w (upd H a o) h' a o) : HOk P w (upd H a o) h' := fun b u e => by
  have hn := x.fresh hp
  by_cases hb : b = a
  · subst hb; rw [upd_same] at e; cases e; exact new
  · rw [upd_ne hb] at e
    exact (x b u e).stay (fun c v _ q => k c v q) (fun c q => by rw [upd_ne (ne_of_none q hn)]; exact q) fun c xs q => by rw [upd_ne (ne_of_none q hn)]; exact q
end

/-- what may be read as u: it is u, or a known u -/
def Rd (H : Hp) (a : Addr) (u : HO) : Prop := H a = some u ∨ ∃ o, H a = some (.frz o u)
theorem Rd.ok {P : Program} {w : World} {H : Hp} {h : Heap} {a : Addr} {u : HO} (r : Rd H a u) (x : HOk P w H h) : ObjOk P w H h a u := by
  rcases r with r | ⟨o, r⟩
  · exact x a u r
  · obtain ⟨_, q⟩ := x a _ r
    exact q
/-- what may be written -/
def Mut : Option HO → Prop
  | some (.lst _) => True
  | some (.dK _) => True
  | some (.dT _) => True
  | some (.set _ _) => True
  | some (.ins _ _ _) => True
  | some (.ext _) => True
  | _ => False
section
variable {P : Program} {w : World} {H : Hp} {h h' : Heap} {x e : Addr} {o' : HO}
/-- the object at e is changed: x itself, or the dict of the instance x -/
theorem HOk.write (ok : HOk P w H h) (mu : Mut (H x)) (he : e = x ∨ H e = some (.own x)) (k : ∀ b u, b ≠ e → h.get? b = some u → h'.get? b = some u) (heo : ∃ u, h'.get? e = some u)
    (new : ObjOk P w (upd H x o') h' x o') : HOk P w (upd H x o') h' := fun b u q => by
  have nown : ∀ c y, H c = some (.own y) → c ≠ x := fun c y r z => by subst z; rw [r] at mu; exact mu
  have ntup : ∀ c xs, H c = some (.tup xs) → c ≠ x := fun c xs r z => by subst z; rw [r] at mu; exact mu
  by_cases hb : b = x
  · subst hb; rw [upd_same] at q; cases q; exact new
  · rw [upd_ne hb] at q
    by_cases hbe : b = e
    · have q' : H b = some (.own x) := by
        rcases he with z | z
        · exact absurd (hbe.trans z) hb
        · rw [hbe]; exact z
      rw [q] at q'; cases q'
      obtain ⟨v, hv⟩ := heo
      exact ⟨v, by rw [hbe]; exact hv⟩
    · refine (ok b u q).stay (fun c v hc r => k c v ?_ r) (fun c r => by rw [upd_ne (nown c b r)]; exact r) fun c xs r => by rw [upd_ne (ntup c xs r)]; exact r
      rcases hc with rfl | hc
      · exact hbe
      · rintro rfl
        rcases he with z | z
        · exact nown c b hc z
        · rw [hc] at z; cases z; exact hb rfl
end

/-! ### kept unless tracked; of the frames at fs (the callers') the slots may change (an exception that passes writes there); of the records at ex (iterators) nothing is said -/
structure Un (fs ex : List Addr) (H H' : Hp) (h h' : Heap) : Prop where
  keep : ∀ b o, h.get? b = some o → H b = none → b ∉ fs → b ∉ ex → h'.get? b = some o
  slot : ∀ b o, h.get? b = some o → H b = none → b ∈ fs → b ∉ ex → ∃ sl, h'.get? b = some { o with slots := sl }
  free : ∀ b o, h.get? b = some o → H b = none → b ∉ ex → H' b = none
  there : ∀ b o, h.get? b = some o → b ∉ ex → ∃ o', h'.get? b = some o'
  tups : ∀ b xs, H b = some (.tup xs) → H' b = some (.tup xs)
  frzs : ∀ b o u, H b = some (.frz o u) → H' b = some (.frz o u)
  tbls : ∀ b ps, H b = some (.tbl ps) → ∃ more, H' b = some (.tbl (ps ++ more))
section
variable {fs fs' ex ex' : List Addr} {H H1 H2 : Hp} {h h1 h2 h' : Heap} {a x e : Addr} {o : HO}
theorem Un.any (u : Un fs ex H H1 h h1) {b : Addr} {ob : Obj} (q : h.get? b = some ob) (n : H b = none) (hx : b ∉ ex) : ∃ sl, h1.get? b = some { ob with slots := sl } := by
  by_cases hb : b ∈ fs
  · exact u.slot b ob q n hb hx
  · exact ⟨ob.slots, u.keep b ob q n hb hx⟩
theorem Un.trans (a : Un fs ex H H1 h h1) (b : Un fs ex H1 H2 h1 h2) : Un fs ex H H2 h h2 where
  keep := fun c ob q n hc hx => b.keep c ob (a.keep c ob q n hc hx) (a.free c ob q n hx) hc hx
  slot := fun c ob q n hc hx => by
    obtain ⟨sl, e1⟩ := a.slot c ob q n hc hx
    obtain ⟨sl', e2⟩ := b.slot c _ e1 (a.free c ob q n hx) hc hx
    exact ⟨sl', e2⟩
  free := fun c ob q n hx => by
    obtain ⟨o', e1⟩ := a.there c ob q hx
    exact b.free c o' e1 (a.free c ob q n hx) hx
  there := fun c ob q hx => by
    obtain ⟨o', e1⟩ := a.there c ob q hx
    exact b.there c o' e1 hx
  tups := fun c xs q => b.tups c xs (a.tups c xs q)
  frzs := fun c ob xs q => b.frzs c ob xs (a.frzs c ob xs q)
  tbls := fun c ps q => by
    obtain ⟨m1, e1⟩ := a.tbls c ps q
    obtain ⟨m2, e2⟩ := b.tbls c _ e1
    exact ⟨m1 ++ m2, by rw [e2, Array.append_assoc]⟩
theorem Un.kept (k : ∀ b u, h.get? b = some u → h'.get? b = some u) : Un fs ex H H h h' :=
  ⟨fun b ob q _ _ _ => k b ob q, fun b ob q _ _ _ => ⟨ob.slots, k b ob q⟩, fun _ _ _ n _ => n, fun b ob q _ => ⟨ob, k b ob q⟩, fun _ _ q => q, fun _ _ _ q => q, fun _ ps q => ⟨#[], by rw [q]; simp⟩⟩
theorem Un.refl : Un fs ex H H h h := Un.kept fun _ _ q => q
theorem Un.laid (k : ∀ b u, h.get? b = some u → h'.get? b = some u) (hp : h.objs.size ≤ a) (hn : H a = none) : Un fs ex H (upd H a o) h h' where
  keep := fun b u q _ _ _ => k b u q
  slot := fun b u q _ _ _ => ⟨u.slots, k b u q⟩
  free := fun b u q n _ => by rw [upd_ne (Nat.ne_of_lt (Nat.lt_of_lt_of_le (Heap.lt_size q) hp))]; exact n
  there := fun b u q _ => ⟨u, k b u q⟩
  tups := fun b xs q => by rw [upd_ne (ne_of_none q hn)]; exact q
  frzs := fun b u xs q => by rw [upd_ne (ne_of_none q hn)]; exact q
  tbls := fun b ps q => ⟨#[], by rw [upd_ne (ne_of_none q hn), q]; simp⟩
theorem Un.write (mu : Mut (H x)) (he : e = x ∨ H e = some (.own x)) (k : ∀ b u, b ≠ e → h.get? b = some u → h'.get? b = some u) (heo : ∃ u, h'.get? e = some u) : Un fs ex H (upd H x o) h h' := by
  have hx : ∀ b, H b = none → b ≠ x := fun b n z => by subst z; rw [n] at mu; exact mu
  have hb : ∀ b, H b = none → b ≠ e := fun b n z => by
    subst z
    rcases he with r | r
    · exact hx b n r
    · rw [n] at r; cases r
  have hm : ∀ b u, H b = some u → ¬ Mut (some u) → b ≠ x := fun b u q nm z => by subst z; rw [q] at mu; exact nm mu
  refine ⟨fun b u q n _ _ => k b u (hb b n) q, fun b u q n _ _ => ⟨u.slots, k b u (hb b n) q⟩, fun b u q n _ => by rw [upd_ne (hx b n)]; exact n, fun b u q _ => ?_,
    fun b xs q => by rw [upd_ne (hm b _ q fun z => z)]; exact q, fun b u xs q => by rw [upd_ne (hm b _ q fun z => z)]; exact q, fun b ps q => ⟨#[], by rw [upd_ne (hm b _ q fun z => z), q]; simp⟩⟩
  by_cases hbe : b = e
  · subst hbe; exact heo
  · exact ⟨u, k b u hbe q⟩
end

/-! ### the heap without what is tracked -/
def trk (h : Heap) (H : Hp) : List Addr := (List.range h.objs.size).filter fun a => (H a).isSome
def hidT (h : Heap) (H : Hp) : Heap := PySem.W.hideAll h (trk h H)
theorem hidT_size (h : Heap) (H : Hp) : (hidT h H).objs.size = h.objs.size := PySem.W.hideAll_size _ _
theorem hidT_get {h : Heap} {H : Hp} {b : Addr} {o : Obj} (e : h.get? b = some o) (n : H b = none) : (hidT h H).get? b = some o :=
  PySem.W.hideAll_get _ e fun hm => by
    have q : (H b).isSome = true := (List.mem_filter.mp hm).2
    rw [n] at q; simp at q
theorem of_hidT {h : Heap} {H : Hp} {b : Addr} {o : Obj} (e : (hidT h H).get? b = some o) : h.get? b = some o ∧ H b = none := by
  have e' : h.get? b = some o := PySem.W.of_hideAll (trk h H) e
  refine ⟨e', ?_⟩
  cases q : H b with
  | none => rfl
  | some x =>
    have hm : b ∈ trk h H := List.mem_filter.mpr ⟨List.mem_range.mpr (Heap.lt_size e'), by simp [q]⟩
    have z : (hidT h H).get? b = none := PySem.W.hideAll_none (trk h H) hm
    rw [z] at e; cases e

/-! ### OpenK's ledger, filled with every new object but one -/
end L2

namespace L2
open PySem PySem.Spec PyProof.Rows

/-- the module's facts, over the base: the heap at the law's entry without what is tracked there -/
structure Mod (K : PySem.W.Frag) (mg : Str → Option Value) (base : Heap) : Prop where
  kin : K.In base
  glob : base.Ns mainGlobals mg
  blt : ∃ mb, base.Ns builtinsNs mb ∧ ∀ x : Str, x ≠ "__name__" → mb x = bootBuiltins x
  nolimit : base.NoLimit

/-- the context: a def's body (or a comprehension's block) running. base: fixed through the whole law; s₀, H₀: the entry; outer: the frames whose slots others may change (a def's callers); stack: all frames that run;
   ex: iterators that were made ahead of the entry and are walked here (a comprehension's); fn: the names whose cells were made at the entry (a def: all; a comprehension's block: its own); calm: not within an except suite; pn: pins that every state bears; xe: what is wanted of an exception that leaves the code -/
structure Cx where
  prog : Program
  w : World
  K : PySem.W.Frag
  mg : Str → Option Value
  base : Heap
  A : Around
  N : List Str
  s₀ : Shared
  H₀ : Hp
  env : Env
  outer : List Env
  stack : List Env
  ex : List Addr
  fn : Str → Bool
  calm : Bool
  pn : List (Addr × Obj)
  xe : Value → Shared → Prop
/-- the callers' frames -/
def frs (l : List Env) : List Addr := l.filterMap (·.frame)
abbrev Cx.fs (X : Cx) : List Addr := frs X.outer

def Vis (sc : Scope) (x : Str) : Prop := sc.names.lookup x = some .local ∨ sc.names.lookup x = some .cell ∨ sc.names.lookup x = some .free
def Loc (sc : Scope) (x : Str) : Prop := sc.names.lookup x = some .local ∨ sc.names.lookup x = some .cell
def Look (env : Env) (h : Heap) (m : Str → Option Value) (x : Str) (u : Value) : Prop :=
  (env.kindOf x = some .local ∧ m x = some u) ∨ ((env.kindOf x = some .cell ∨ env.kindOf x = some .free) ∧ ∃ c, env.cells.lookup x = some c ∧ h.IsCell c (some u))

structure Cx.Ok (X : Cx) : Prop where
  mod : Mod X.K X.mg X.base
  kind : X.env.scope.kind = .function
  glob : X.env.globals = mainGlobals
  blt : X.env.builtins = builtinsNs
  above : X.s₀.heap.objs.size ≤ X.env.locals
  inj : ∀ x y c, X.env.cells.lookup x = some c → X.env.cells.lookup y = some c → x = y
  has : ∀ x, (X.env.kindOf x = some .cell ∨ X.env.kindOf x = some .free) → ∃ c, X.env.cells.lookup x = some c
  cab : ∀ x c, X.fn x = true → X.env.cells.lookup x = some c → X.s₀.heap.objs.size ≤ c
  hd : X.calm = true → X.A.handled = none
  frames : X.A.frames = some X.stack
  stk : X.stack = X.outer ∨ (X.stack = X.env :: X.outer ∧ X.env.frame = some X.env.locals)
  exf : ∀ b ∈ X.ex, b ≠ X.env.locals ∧ ∀ x c, X.env.cells.lookup x = some c → c ≠ b
  bs : ∀ b o, X.base.get? b = some o → X.s₀.heap.get? b = some o ∧ X.H₀ b = none
  bsz : X.base.objs.size ≤ X.s₀.heap.objs.size
  noex : ∀ b o, X.base.get? b = some o → b ∉ X.ex
  exfs : ∀ b ∈ X.ex, b ∉ X.fs
  funs : X.s₀.heap.FunFrames X.base X.outer
  frf : ∀ b ∈ X.fs, X.H₀ b = none

structure Inv (X : Cx) (pins : List (Addr × Obj)) (σ : List (Option V)) (H : Hp) (s : Shared) : Prop where
  ok : X.Ok
  os : s.os = X.s₀.os
  bare : AllBare s.gens
  base : Un X.fs X.ex X.H₀ H X.s₀.heap s.heap
  loc : ∃ m, s.heap.Ns X.env.locals m ∧ ∀ (i : Nat) (x : Str) (v : V), X.N[i]? = some x → σ[i]? = some (some v) → Vis X.env.scope x → ∃ u, RelV v u ∧ Look X.env s.heap m x u
  cell : ∀ x c, X.env.cells.lookup x = some c → ∃ v, s.heap.IsCell c v
  free : H X.env.locals = none
  freeC : ∀ x c, X.env.cells.lookup x = some c → H c = none
  pin : ∀ p ∈ X.pn ++ pins, s.heap.get? p.1 = some p.2 ∧ H p.1 = none ∧ p.1 ≠ X.env.locals ∧ p.1 ∉ X.fs ∧ ∀ v, p.2.data ≠ .cell v
  hok : HOk X.prog X.w H s.heap
  len : σ.length = X.N.length

section
variable {X : Cx} {pins : List (Addr × Obj)} {σ : List (Option V)} {H H' : Hp} {s : Shared} {h' : Heap}

theorem Cx.Ok.nofr (ok : X.Ok) {b : Addr} {o : Obj} (e : X.base.get? b = some o) : b ∉ X.fs := fun hb => by
  have := (ok.funs.mem hb).1
  rw [e] at this; cases this
theorem Inv.bs (I : Inv X pins σ H s) : ∀ b o, X.base.get? b = some o → s.heap.get? b = some o ∧ H b = none := fun b o e =>
  ⟨I.base.keep b o (I.ok.bs b o e).1 (I.ok.bs b o e).2 (I.ok.nofr e) (I.ok.noex b o e), I.base.free b o (I.ok.bs b o e).1 (I.ok.bs b o e).2 (I.ok.noex b o e)⟩
theorem Inv.bk (I : Inv X pins σ H s) : ∀ b o, X.base.get? b = some o → s.heap.get? b = some o := fun b o e => (I.bs b o e).1
theorem Inv.mod (I : Inv X pins σ H s) : Mod X.K X.mg X.base := I.ok.mod
theorem Inv.kIn (I : Inv X pins σ H s) : X.K.In s.heap := I.ok.mod.kin.keeps I.bk
theorem Inv.lt (I : Inv X pins σ H s) : X.env.locals < s.heap.objs.size := let ⟨_, hn, _⟩ := I.loc; hn.lt
theorem Inv.sz (I : Inv X pins σ H s) : X.s₀.heap.objs.size ≤ s.heap.objs.size := Nat.le_trans I.ok.above (Nat.le_of_lt I.lt)
theorem Inv.nofs (I : Inv X pins σ H s) {a : Addr} (h : s.heap.objs.size ≤ a) : a ∉ X.fs := fun hb => by
  obtain ⟨_, o, ho, _⟩ := I.ok.funs.mem hb
  exact absurd (Nat.lt_of_lt_of_le (Heap.lt_size ho) (Nat.le_trans I.sz h)) (Nat.lt_irrefl _)
theorem Inv.cne (I : Inv X pins σ H s) : ∀ x c, X.env.cells.lookup x = some c → c ≠ X.env.locals := fun x c e z => by
  obtain ⟨v, o, ho, hd⟩ := I.cell x c e
  obtain ⟨m, ⟨o', es, ep, ho', hd', _⟩, _⟩ := I.loc
  rw [z, ho'] at ho; cases ho; rw [hd'] at hd; cases hd
theorem Inv.funs (I : Inv X pins σ H s) : s.heap.FunFrames X.base X.outer := by
  have all : ∀ (l : List Env), (∀ b ∈ frs l, b ∈ X.fs) → X.s₀.heap.FunFrames X.base l → s.heap.FunFrames X.base l := by
    intro l
    induction l with
    | nil => intro _ _; trivial
    | cons env r ih =>
      intro hs hl
      obtain ⟨hk, ⟨L, o, hf, hn, ho, hd⟩, hr⟩ := hl
      have hL : L ∈ X.fs := hs L (by unfold frs; rw [List.filterMap_cons, hf]; exact List.mem_cons_self)
      obtain ⟨sl, e⟩ := I.base.slot L o ho (I.ok.frf L hL) hL fun z => I.ok.exfs L z hL
      exact ⟨hk, ⟨L, _, hf, hn, e, hd⟩, ih (fun b hb => hs b (by unfold frs; rw [List.filterMap_cons, hf]; exact List.mem_cons_of_mem _ hb)) hr⟩
  exact all X.outer (fun _ hb => hb) I.ok.funs

/-- the frames that run, for a call -/
theorem Inv.stack (I : Inv X pins σ H s) : s.heap.FunFrames X.base X.stack := by
  rcases I.ok.stk with e | ⟨e, hf⟩
  · rw [e]; exact I.funs
  · rw [e]
    obtain ⟨m, hn, _⟩ := I.loc
    refine .cons (by rw [I.ok.kind]; decide) hf hn ?_ I.funs
    exact Heap.get?_none_of_le (Nat.le_trans I.ok.bsz I.ok.above)
theorem Inv.stkSub (I : Inv X pins σ H s) : ∀ b ∈ frs X.stack, b ∈ X.env.locals :: X.fs := fun b hb => by
  rcases I.ok.stk with e | ⟨e, hf⟩
  · rw [e] at hb; exact List.mem_cons_of_mem _ hb
  · rw [e] at hb
    unfold frs at hb
    rw [List.filterMap_cons, hf] at hb
    exact hb
theorem Inv.stkFree (I : Inv X pins σ H s) : ∀ b ∈ frs X.stack, H b = none := fun b hb => by
  rcases List.mem_cons.mp (I.stkSub b hb) with e | hb
  · rw [e]; exact I.free
  · obtain ⟨_, o, ho, _⟩ := I.ok.funs.mem hb
    exact I.base.free b o ho (I.ok.frf b hb) fun z => I.ok.exfs b z hb

/-- THE STEP: the untracked objects but the frame and the records at ch are kept (the callers' frames up to slots), the frame's map is kept, the new abstract heap is held -/
theorem Inv.step {g' : Array GenState} {t' : Nat} {d' : Drawn} {ch : List Addr} (I : Inv X pins σ H s)
    (hch : ∀ b ∈ ch, (b ∈ X.ex ∨ X.s₀.heap.objs.size ≤ b) ∧ b ≠ X.env.locals ∧ (∀ x c, X.env.cells.lookup x = some c → c ≠ b) ∧ ∀ p ∈ X.pn ++ pins, p.1 ≠ b)
    (keep : ∀ b o, b ≠ X.env.locals → b ∉ X.fs → b ∉ ch → s.heap.get? b = some o → H b = none → h'.get? b = some o)
    (slot : ∀ b o, b ≠ X.env.locals → b ∈ X.fs → b ∉ ch → s.heap.get? b = some o → H b = none → ∃ sl, h'.get? b = some { o with slots := sl }) (free : ∀ b o, b ∉ ch → s.heap.get? b = some o → H b = none → H' b = none)
    (there : ∀ b o, b ∉ ch → s.heap.get? b = some o → ∃ o', h'.get? b = some o')
    (tups : ∀ b xs, H b = some (.tup xs) → H' b = some (.tup xs)) (frzs : ∀ b o u, H b = some (.frz o u) → H' b = some (.frz o u)) (tbls : ∀ b ps, H b = some (.tbl ps) → ∃ more, H' b = some (.tbl (ps ++ more)))
    (ns : ∀ m, s.heap.Ns X.env.locals m → h'.Ns X.env.locals m) (hok : HOk X.prog X.w H' h') (hg : AllBare g') :
    Inv X pins σ H' { s with heap := h', gens := g', drawn := d', toks := t' } := by
  have neL : ∀ b o, X.s₀.heap.get? b = some o → b ≠ X.env.locals := fun b o e => Nat.ne_of_lt (Nat.lt_of_lt_of_le (Heap.lt_size e) I.ok.above)
  have neC : ∀ b o, X.s₀.heap.get? b = some o → b ∉ X.ex → b ∉ ch := fun b o e hx hb => by
    rcases (hch b hb).1 with z | z
    · exact hx z
    · exact absurd (Nat.lt_of_lt_of_le (Heap.lt_size e) z) (Nat.lt_irrefl _)
  have cellK : ∀ x c, X.env.cells.lookup x = some c → ∀ v, s.heap.IsCell c v → h'.IsCell c v := fun x c e v ⟨o, ho, hd⟩ => by
    have nch : c ∉ ch := fun z => (hch c z).2.2.1 x c e rfl
    by_cases hc : c ∈ X.fs
    · obtain ⟨sl, q⟩ := slot c o (I.cne x c e) hc nch ho (I.freeC x c e)
      exact ⟨_, q, hd⟩
    · exact ⟨o, keep c o (I.cne x c e) hc nch ho (I.freeC x c e), hd⟩
  refine ⟨I.ok, I.os, hg, ⟨fun b o e n hb hx => ?_, fun b o e n hb hx => ?_, fun b o e n hx => ?_, fun b o e hx => ?_, fun b xs e => tups b xs (I.base.tups b xs e), fun b o xs e => frzs b o xs (I.base.frzs b o xs e), fun b ps e => ?_⟩, ?_, fun x c e => ?_, ?_, fun x c e => ?_, fun p hp => ?_, hok, I.len⟩
  · exact keep b o (neL b o e) hb (neC b o e hx) (I.base.keep b o e n hb hx) (I.base.free b o e n hx)
  · obtain ⟨sl, e1⟩ := I.base.slot b o e n hb hx
    obtain ⟨sl', e2⟩ := slot b _ (neL b o e) hb (neC b o e hx) e1 (I.base.free b o e n hx)
    exact ⟨sl', e2⟩
  · obtain ⟨o', e1⟩ := I.base.there b o e hx
    exact free b o' (neC b o e hx) e1 (I.base.free b o e n hx)
  · obtain ⟨o', e1⟩ := I.base.there b o e hx
    exact there b o' (neC b o e hx) e1
  · obtain ⟨m1, e1⟩ := I.base.tbls b ps e
    obtain ⟨m2, e2⟩ := tbls b _ e1
    exact ⟨m1 ++ m2, by rw [e2, Array.append_assoc]⟩
  · obtain ⟨m, hn, hl⟩ := I.loc
    refine ⟨m, ns m hn, fun i x v e1 e2 e3 => ?_⟩
    obtain ⟨u, r, l⟩ := hl i x v e1 e2 e3
    refine ⟨u, r, ?_⟩
    rcases l with l | ⟨k, c, e, z⟩
    · exact .inl l
    · exact .inr ⟨k, c, e, cellK x c e _ z⟩
  · obtain ⟨v, z⟩ := I.cell x c e
    exact ⟨v, cellK x c e v z⟩
  · obtain ⟨m, ⟨o, _, _, ho, _⟩, _⟩ := I.loc
    exact free _ o (fun z => (hch _ z).2.1 rfl) ho I.free
  · obtain ⟨v, o, ho, hd⟩ := I.cell x c e
    exact free c o (fun z => (hch c z).2.2.1 x c e rfl) ho (I.freeC x c e)
  · obtain ⟨e, n, ne, nf, d⟩ := I.pin p hp
    have nch : p.1 ∉ ch := fun z => (hch p.1 z).2.2.2 p hp rfl
    exact ⟨keep p.1 p.2 ne nf nch e n, free p.1 p.2 nch e n, ne, nf, d⟩
/-- .. where the frame's own object is kept too -/
theorem Inv.un {t' : Nat} (I : Inv X pins σ H s) (u : Un X.fs [] H H' s.heap h') (hok : HOk X.prog X.w H' h') : Inv X pins σ H' { s with heap := h', toks := t' } := by
  obtain ⟨m, ⟨o, es, ep, ho, r⟩, _⟩ := id I.loc
  obtain ⟨sl, hL⟩ := u.any ho I.free (by simp)
  exact I.step (g' := s.gens) (d' := s.drawn) (ch := []) (fun _ z => nomatch z) (fun b o _ hb _ e n => u.keep b o e n hb (by simp)) (fun b o _ hb _ e n => u.slot b o e n hb (by simp)) (fun b o _ e n => u.free b o e n (by simp)) (fun b o _ e => u.there b o e (by simp)) u.tups u.frzs u.tbls (fun m' hm => by
    obtain ⟨o', es', ep', ho', r'⟩ := hm
    rw [ho] at ho'; cases ho'
    exact ⟨_, es', ep', hL, r'⟩) hok I.bare
/-- behind a call (or a comprehension's block): the slots of this frame may have changed too, the records at ch may have turned -/
theorem Inv.call {g' : Array GenState} {t' : Nat} {d' : Drawn} {ch : List Addr} (I : Inv X pins σ H s) (u : Un (frs X.stack) ch H H' s.heap h') (hok : HOk X.prog X.w H' h') (hg : AllBare g')
    (hch : ∀ b ∈ ch, (b ∈ X.ex ∨ X.s₀.heap.objs.size ≤ b) ∧ b ≠ X.env.locals ∧ (∀ x c, X.env.cells.lookup x = some c → c ≠ b) ∧ ∀ p ∈ X.pn ++ pins, p.1 ≠ b) :
    Inv X pins σ H' { s with heap := h', gens := g', drawn := d', toks := t' } := by
  obtain ⟨m, ⟨o, es, ep, ho, r⟩, _⟩ := id I.loc
  obtain ⟨sl, hL⟩ := u.any ho I.free fun z => (hch _ z).2.1 rfl
  exact I.step (ch := ch) hch (fun b o hL hb hc e n => u.keep b o e n (fun z => (List.mem_cons.mp (I.stkSub b z)).elim hL hb) hc) (fun b o _ _ hc e n => u.any e n hc) (fun b o hc e n => u.free b o e n hc) (fun b o hc e => u.there b o e hc) u.tups u.frzs u.tbls (fun m' hm => by
    obtain ⟨o', es', ep', ho', r'⟩ := hm
    rw [ho] at ho'; cases ho'
    exact ⟨_, es', ep', hL, r'⟩) hok hg
/-- an untracked record of ours (an iterator) has turned -/
theorem Inv.turned {t' : Nat} {it : Addr} (I : Inv X pins σ H s) (k : ∀ b o, b ≠ it → s.heap.get? b = some o → h'.get? b = some o) (hn : H it = none) (hL : it ≠ X.env.locals)
    (h1 : it ∈ X.ex ∨ X.s₀.heap.objs.size ≤ it) (h2 : ∀ x c, X.env.cells.lookup x = some c → c ≠ it) (h3 : ∀ p ∈ X.pn ++ pins, p.1 ≠ it) : Inv X pins σ H { s with heap := h', toks := t' } := by
  have nit : ∀ b u, H b = some u → b ≠ it := fun b u e z => by rw [z, hn] at e; cases e
  refine I.step (g' := s.gens) (d' := s.drawn) (ch := [it]) (fun b hb => ?_) (fun b o _ _ hc e _ => k b o (fun z => hc (by simp [z])) e) (fun b o _ _ hc e _ => ⟨o.slots, k b o (fun z => hc (by simp [z])) e⟩) (fun _ _ _ _ n => n)
    (fun b o hc e => ⟨o, k b o (fun z => hc (by simp [z])) e⟩) (fun _ _ e => e) (fun _ _ _ e => e) (fun b ps e => ⟨#[], by rw [e]; simp⟩) (fun m hm => ?_) (fun b u e => ?_) I.bare
  · have e : b = it := by simpa using hb
    subst e
    exact ⟨h1, hL, h2, h3⟩
  · obtain ⟨o, es, ep, ho, r⟩ := hm
    exact ⟨o, es, ep, k _ o (Ne.symm hL) ho, r⟩
  · refine (I.hok b u e).stay (fun c v hc q => k c v ?_ q) (fun _ q => q) fun _ _ q => q
    rcases hc with z | z
    · rw [z]; exact nit b u e
    · exact nit c _ z
theorem Inv.tok (I : Inv X pins σ H s) (t : Nat) : Inv X pins σ H { s with toks := t } := I.un (h' := s.heap) (t' := t) Un.refl I.hok
/-- all objects kept -/
theorem Inv.kept {t' : Nat} (I : Inv X pins σ H s) (k : ∀ b u, s.heap.get? b = some u → h'.get? b = some u) : Inv X pins σ H { s with heap := h', toks := t' } := I.un (Un.kept k) (I.hok.kept k)
/-- a new object laid and tracked -/
theorem Inv.laid {a : Addr} {o : HO} {t' : Nat} (I : Inv X pins σ H s) (k : ∀ b u, s.heap.get? b = some u → h'.get? b = some u) (hp : s.heap.objs.size ≤ a) (new : ObjOk X.prog X.w (upd H a o) h' a o) :
    Inv X pins σ (upd H a o) { s with heap := h', toks := t' } := I.un (Un.laid k hp (I.hok.fresh hp)) (I.hok.laid k hp new)
/-- an object written -/
theorem Inv.write {x e : Addr} {o : HO} {t' : Nat} (I : Inv X pins σ H s) (mu : Mut (H x)) (he : e = x ∨ H e = some (.own x)) (k : ∀ b u, b ≠ e → s.heap.get? b = some u → h'.get? b = some u) (heo : ∃ u, h'.get? e = some u)
    (new : ObjOk X.prog X.w (upd H x o) h' x o) : Inv X pins σ (upd H x o) { s with heap := h', toks := t' } := I.un (Un.write mu he k heo) (I.hok.write mu he k heo new)
theorem Inv.pins_of {pins' : List (Addr × Obj)} (I : Inv X pins σ H s) (h : ∀ p ∈ pins', s.heap.get? p.1 = some p.2 ∧ H p.1 = none ∧ p.1 ≠ X.env.locals ∧ p.1 ∉ X.fs ∧ ∀ v, p.2.data ≠ .cell v) : Inv X pins' σ H s :=
  ⟨I.ok, I.os, I.bare, I.base, I.loc, I.cell, I.free, I.freeC, fun p hp => (List.mem_append.mp hp).elim (fun z => I.pin p (List.mem_append_left _ z)) (h p), I.hok, I.len⟩

theorem nodup_ix {N : List Str} (hN : N.Nodup) {i j : Nat} {x : Str} (a : N[i]? = some x) (b : N[j]? = some x) : i = j := by
  obtain ⟨h1, e1⟩ := List.getElem?_eq_some_iff.mp a
  obtain ⟨h2, e2⟩ := List.getElem?_eq_some_iff.mp b
  exact (List.getElem_inj hN).mp (e1.trans e2.symm)

/-- a name is stored; what changed -/
theorem store_ok2 {M : Model} {A : Around} {E : Value → Shared → Prop} {i : Nat} {x : Str} {v : V} {u : Value} {Q : Unit → Shared → Prop} (I : Inv X pins σ H s) (hN : X.N.Nodup) (hi : X.N[i]? = some x) (hx : Loc X.env.scope x) (r : RelV v u)
    (h : ∀ s', Inv X pins (σ.set i (some v)) H s' → (∃ a, Heap.SameBut a s.heap s'.heap ∧ (a = X.env.locals ∨ X.env.cells.lookup x = some a)) → Q () s') (hf : X.fn x = true ∨ X.env.scope.names.lookup x = some .local := by first | exact .inl rfl | exact .inr rfl | assumption) : wpAny M A (storeName X.env x u) Q E s := by
  obtain ⟨m, hn, hl⟩ := id I.loc
  have hcls : (X.env.scope.kind == .class || (X.env.scope.kind == .module && X.env.locals != X.env.globals)) = false := by rw [I.ok.kind]; rfl
  have hiσ : i < σ.length := by rw [I.len]; exact (List.getElem?_eq_some_iff.mp hi).1
  have cne := I.cne
  have tracked : ∀ {a : Addr} {h' : Heap}, (∃ o, s.heap.get? a = some o ∧ H a = none) → Heap.SameBut a s.heap h' → HOk X.prog X.w H h' := fun {a h'} ha hs b ob e => by
    obtain ⟨_, _, hfree⟩ := ha
    refine (I.hok b ob e).stay (fun c w' hc q => (hs.2 c ?_).trans q) (fun _ q => q) fun _ _ q => q
    rintro rfl
    rcases hc with rfl | hc
    · rw [hfree] at e; cases e
    · rw [hfree] at hc; cases hc
  rcases hx with hk | hk
  · refine wpAny_storeName_local hk hn (fun h' hn' hs => ?_) hcls
    obtain ⟨oL, _, _, hoL, _⟩ := id hn
    refine h _ ⟨I.ok, I.os, I.bare, ⟨fun b o e n hb hx => ?_, fun b o e n hb hx => ?_, I.base.free, fun b o e hx => ?_, I.base.tups, I.base.frzs, I.base.tbls⟩, ⟨_, hn', fun j y v' e1 e2 e3 => ?_⟩, fun y c e => ?_, I.free, I.freeC, fun p hp => ?_, tracked ⟨oL, hoL, I.free⟩ hs, by simpa using I.len⟩ ⟨_, hs, .inl rfl⟩
    · exact (hs.2 b (Nat.ne_of_lt (Nat.lt_of_lt_of_le (Heap.lt_size e) I.ok.above))).trans (I.base.keep b o e n hb hx)
    · obtain ⟨sl, e1⟩ := I.base.slot b o e n hb hx
      exact ⟨sl, (hs.2 b (Nat.ne_of_lt (Nat.lt_of_lt_of_le (Heap.lt_size e) I.ok.above))).trans e1⟩
    · obtain ⟨o', e1⟩ := I.base.there b o e hx
      exact ⟨o', (hs.2 b (Nat.ne_of_lt (Nat.lt_of_lt_of_le (Heap.lt_size e) I.ok.above))).trans e1⟩
    · by_cases hj : j = i
      · subst hj
        rw [hi] at e1; cases e1
        rw [List.getElem?_set_self hiσ] at e2
        cases e2
        exact ⟨u, r, .inl ⟨hk, by simp⟩⟩
      · rw [List.getElem?_set_ne (Ne.symm hj)] at e2
        obtain ⟨u', r', q⟩ := hl j y v' e1 e2 e3
        refine ⟨u', r', ?_⟩
        rcases q with ⟨k, e⟩ | ⟨k, c, e, z⟩
        · refine .inl ⟨k, ?_⟩
          have : y ≠ x := fun e => hj (nodup_ix hN e1 (e ▸ hi))
          simp [this, e]
        · exact .inr ⟨k, c, e, z.sameBut hs (cne y c e)⟩
    · obtain ⟨w', z⟩ := I.cell y c e
      exact ⟨w', z.sameBut hs (cne y c e)⟩
    · obtain ⟨e, n, ne, nf, d⟩ := I.pin p hp
      exact ⟨(hs.2 p.1 ne).trans e, n, ne, nf, d⟩
  · have hfn : X.fn x = true := by
      rcases hf with z | z
      · exact z
      · rw [z] at hk; cases hk
    obtain ⟨c, hc⟩ := I.ok.has x (.inl hk)
    obtain ⟨w', z⟩ := I.cell x c hc
    refine wpAny_storeName_cell I.ok.kind hk hc z (fun h' hc' hs => ?_)
    obtain ⟨oc, hoc, hocd⟩ := id z
    refine h { s with heap := h' } ⟨I.ok, I.os, I.bare, ⟨fun b o e n hb hx => ?_, fun b o e n hb hx => ?_, I.base.free, fun b o e hx => ?_, I.base.tups, I.base.frzs, I.base.tbls⟩, ⟨m, hn.sameBut hs (Ne.symm (cne x c hc)), fun j y v' e1 e2 e3 => ?_⟩, fun y c' e => ?_, I.free, I.freeC, fun p hp => ?_, tracked ⟨oc, hoc, I.freeC x c hc⟩ hs, by simpa using I.len⟩ ⟨c, hs, .inr hc⟩
    · exact (hs.2 b (Nat.ne_of_lt (Nat.lt_of_lt_of_le (Heap.lt_size e) (I.ok.cab x c hfn hc)))).trans (I.base.keep b o e n hb hx)
    · obtain ⟨sl, e1⟩ := I.base.slot b o e n hb hx
      exact ⟨sl, (hs.2 b (Nat.ne_of_lt (Nat.lt_of_lt_of_le (Heap.lt_size e) (I.ok.cab x c hfn hc)))).trans e1⟩
    · obtain ⟨o', e1⟩ := I.base.there b o e hx
      exact ⟨o', (hs.2 b (Nat.ne_of_lt (Nat.lt_of_lt_of_le (Heap.lt_size e) (I.ok.cab x c hfn hc)))).trans e1⟩
    · by_cases hj : j = i
      · subst hj
        rw [hi] at e1; cases e1
        rw [List.getElem?_set_self hiσ] at e2
        cases e2
        exact ⟨u, r, .inr ⟨.inl hk, c, hc, hc'⟩⟩
      · rw [List.getElem?_set_ne (Ne.symm hj)] at e2
        obtain ⟨u', r', q⟩ := hl j y v' e1 e2 e3
        refine ⟨u', r', ?_⟩
        rcases q with q | ⟨k, c', e, z'⟩
        · exact .inl q
        · refine .inr ⟨k, c', e, z'.sameBut hs ?_⟩
          rintro rfl
          exact hj (nodup_ix hN e1 (I.ok.inj _ _ _ e hc ▸ hi))
    · by_cases hcc : c' = c
      · subst hcc; exact ⟨_, hc'⟩
      · obtain ⟨w2, z2⟩ := I.cell y c' e
        exact ⟨w2, z2.sameBut hs hcc⟩
    · obtain ⟨e, n, ne, nf, d⟩ := I.pin p hp
      refine ⟨(hs.2 p.1 ?_).trans e, n, ne, nf, d⟩
      intro q
      rw [q, hoc] at e
      have q' : oc = p.2 := Option.some.inj e
      exact d w' (by rw [← q']; exact hocd)
theorem store_ok {M : Model} {A : Around} {E : Value → Shared → Prop} {i : Nat} {x : Str} {v : V} {u : Value} {Q : Unit → Shared → Prop} (I : Inv X pins σ H s) (hN : X.N.Nodup) (hi : X.N[i]? = some x) (hx : Loc X.env.scope x) (r : RelV v u)
    (h : ∀ s', Inv X pins (σ.set i (some v)) H s' → Q () s') (hf : X.fn x = true ∨ X.env.scope.names.lookup x = some .local := by first | exact .inl rfl | exact .inr rfl | assumption) : wpAny M A (storeName X.env x u) Q E s :=
  store_ok2 I hN hi hx r (fun s' I' _ => h s' I') hf
/-- behind a call or a block, the state as it is -/
theorem Inv.call' {s' : Shared} {ch : List Addr} (I : Inv X pins σ H s) (ho : s'.os = s.os) (u : Un (frs X.stack) ch H H' s.heap s'.heap) (hok : HOk X.prog X.w H' s'.heap) (hg : AllBare s'.gens)
    (hch : ∀ b ∈ ch, (b ∈ X.ex ∨ X.s₀.heap.objs.size ≤ b) ∧ b ≠ X.env.locals ∧ (∀ x c, X.env.cells.lookup x = some c → c ≠ b) ∧ ∀ p ∈ X.pn ++ pins, p.1 ≠ b) : Inv X pins σ H' s' := by
  obtain ⟨h', g', d', t', o'⟩ := s'
  have e : o' = s.os := ho
  subst e
  exact I.call (g' := g') (t' := t') (d' := d') u hok hg hch
end

/-! ### the judgements -/
/-- an exception: its class, its own dict's address (where it has one), the abstract heap behind it -/
abbrev XK := Value → Option Addr → Hp → Prop
abbrev St := List (Option V)
abbrev VK := V → Hp → Prop
/-- an expression's reading; a test's; an argument list's -/
abbrev TE := St → Hp → VK → Prop
abbrev TT := St → Hp → (Bool → Hp → Prop) → Prop
abbrev TA := St → Hp → (List V → Hp → Prop) → Prop
/-- what is wanted behind a statement -/
structure Ends where
  nx : St → Hp → Prop
  rt : VK
  bk : St → Hp → Prop := fun _ _ => False
  ct : St → Hp → Prop := fun _ _ => False
abbrev TS := Ends → St → Hp → Prop

def EP (X : Cx) (pins : List (Addr × Obj)) (σ : St) (Q : VK) (u : Value) (s' : Shared) : Prop := ∃ v H', Inv X pins σ H' s' ∧ RelV v u ∧ Q v H'
def TP (X : Cx) (pins : List (Addr × Obj)) (σ : St) (Q : Bool → Hp → Prop) (b : Bool) (s' : Shared) : Prop := ∃ H', Inv X pins σ H' s' ∧ Q b H'
def AP (X : Cx) (pins : List (Addr × Obj)) (σ : St) (Q : List V → Hp → Prop) (us : List Value) (s' : Shared) : Prop := ∃ vs H', Inv X pins σ H' s' ∧ Vals vs us ∧ Q vs H'
def SP (X : Cx) (pins : List (Addr × Obj)) (D : Ends) (f : Flow) (s' : Shared) : Prop :=
  match f with
  | .next => ∃ σ' H', Inv X pins σ' H' s' ∧ D.nx σ' H'
  | .brk => ∃ σ' H', Inv X pins σ' H' s' ∧ D.bk σ' H'
  | .cont => ∃ σ' H', Inv X pins σ' H' s' ∧ D.ct σ' H'
  | .ret u => ∃ v σ' H', Inv X pins σ' H' s' ∧ RelV v u ∧ D.rt v H'

def PE (X : Cx) (e : Expr) (t : TE) : Prop :=
  ∀ (pins : List (Addr × Obj)) (s : Shared) (σ : St) (H : Hp) (Q : VK), Inv X pins σ H s → t σ H Q → wpAny (model X.prog X.w) X.A (eval e X.env) (EP X pins σ Q) X.xe s
def PT (X : Cx) (e : Expr) (t : TT) : Prop :=
  ∀ (pins : List (Addr × Obj)) (s : Shared) (σ : St) (H : Hp) (Q : Bool → Hp → Prop), Inv X pins σ H s → t σ H Q → wpAny (model X.prog X.w) X.A (isTrue e X.env (eval e X.env)) (TP X pins σ Q) X.xe s
/-- a test whatever its 'whole' is (and, or) -/
def PW (X : Cx) (e : Expr) (t : TT) : Prop :=
  ∀ (whole : Sem Value) (pins : List (Addr × Obj)) (s : Shared) (σ : St) (H : Hp) (Q : Bool → Hp → Prop), Inv X pins σ H s → t σ H Q → wpAny (model X.prog X.w) X.A (isTrue e X.env whole) (TP X pins σ Q) X.xe s
theorem PW.pt {X : Cx} {e : Expr} {t : TT} (h : PW X e t) : PT X e t := h _
/-- an argument list (no star), from the left -/
def PA (X : Cx) (es : List Expr) (t : TA) : Prop :=
  ∀ (pos : Pos) (pins : List (Addr × Obj)) (s : Shared) (σ : St) (H : Hp) (Q : List V → Hp → Prop), Inv X pins σ H s → t σ H Q → wpAny (model X.prog X.w) X.A (spliced (backTo pos (starEach es X.env))) (AP X pins σ Q) X.xe s
def PS (X : Cx) (st : Stmt) (t : TS) : Prop :=
  ∀ (pins : List (Addr × Obj)) (s : Shared) (σ : St) (H : Hp) (D : Ends), Inv X pins σ H s → t D σ H → wpAny (model X.prog X.w) X.A (exec st X.env) (SP X pins D) X.xe s
def PSs (X : Cx) (st : List Stmt) (t : TS) : Prop :=
  ∀ (pins : List (Addr × Obj)) (s : Shared) (σ : St) (H : Hp) (D : Ends), Inv X pins σ H s → t D σ H → wpAny (model X.prog X.w) X.A (execs st X.env) (SP X pins D) X.xe s
/-- weaken the end -/
theorem thn {α : Type} {t : Sem α} {Q Q' : α → Shared → Prop} {M : Model} {A : Around} {E : Value → Shared → Prop} {s : Shared} (h : wpAny M A t Q E s) (hQ : ∀ a s, Q a s → Q' a s) : wpAny M A t Q' E s := wpAny_mono h hQ fun _ _ x => x
end L2

namespace L2
open PySem PySem.Spec PyProof.Rows
section
variable {X : Cx}

/-! ### names and constants -/
def tVar (i : Nat) : TE := fun σ H Q => ∃ v, σ[i]? = some (some v) ∧ Q v H
def tC (v : V) : TE := fun _ H Q => Q v H
theorem pe_var {i : Nat} {x : Str} {pos : Pos} (hN : X.N[i]? = some x) (hv : Vis X.env.scope x) (hd : (x == ("__debug__" : Str)) = false := by decide) (hcd : (x == ("__classdict__" : Str)) = false := by decide) : PE X (.Name x pos) (tVar i) := by
  intro pins s σ H Q I h
  obtain ⟨v, e, h⟩ := h
  obtain ⟨m, hn, hl⟩ := I.loc
  obtain ⟨u, r, l⟩ := hl i x v hN e hv
  have fin : EP X pins σ Q u s := ⟨v, H, I, r, h⟩
  rcases l with ⟨hk, hm⟩ | ⟨hk, c, hc, hcell⟩
  · exact wpAny_Name (wpAny_loadName_local I.ok.kind hk hn hm fin) hd
  · rcases hk with hk | hk
    · exact wpAny_Name (wpAny_loadName_cell I.ok.kind hk hc hcell fin) hd
    · exact wpAny_Name (wpAny_loadName_free I.ok.kind hk hc hcell fin hcd) hd
theorem pe_int {i j pos} : PE X (.Constant (.int i) j pos) (tC (.int i)) := fun _ _ _ H _ I h => wpAny_Constant_int ⟨.int i, H, I.tok _, ⟨_, rfl⟩, h⟩
theorem pe_bl {b j pos} : PE X (.Constant (.bool b) j pos) (tC (.bl b)) := fun _ _ _ H _ I h => Constant_bool ⟨.bl b, H, I, rfl, h⟩
theorem pe_non {j pos} : PE X (.Constant .none j pos) (tC .non) := fun _ _ _ H _ I h => Constant_none ⟨.non, H, I, rfl, h⟩
theorem pe_str {x j pos} : PE X (.Constant (.str x) j pos) (tC (.str x)) := fun _ _ _ H _ I h => Calls.Constant_str ⟨.str x, H, I.tok _, ⟨_, rfl⟩, h⟩

/-- a global name of the def -/
def Gl (X : Cx) (x : Str) : Prop := X.env.kindOf x = some .globalImplicit
theorem ld_glob {E : Value → Shared → Prop} {pins : List (Addr × Obj)} {s : Shared} {σ : St} {H : Hp} {x : Str} {u : Value} {pos : Pos} {Q : Value → Shared → Prop} (I : Inv X pins σ H s) (hg : Gl X x) (hm : X.mg x = some u) (h : Q u s)
    (hd : (x == ("__debug__" : Str)) = false := by decide) : wpAny (model X.prog X.w) X.A (eval (.Name x pos) X.env) Q E s :=
  Calls.Name_function_global I.ok.kind hg (Calls.loadGlobal_global (by rw [I.ok.glob]; exact I.mod.glob.keeps I.bk) hm h) hd
theorem ld_blt {E : Value → Shared → Prop} {pins : List (Addr × Obj)} {s : Shared} {σ : St} {H : Hp} {x : Str} {u : Value} {pos : Pos} {Q : Value → Shared → Prop} (I : Inv X pins σ H s) (hg : Gl X x) (hm : X.mg x = none) (hv : bootBuiltins x = some u) (h : Q u s)
    (hn : x ≠ "__name__" := by decide) (hd : (x == ("__debug__" : Str)) = false := by decide) : wpAny (model X.prog X.w) X.A (eval (.Name x pos) X.env) Q E s := by
  obtain ⟨mb, h1, h2⟩ := I.mod.blt
  exact Calls.Name_function_global I.ok.kind hg (Calls.loadGlobal_builtin (by rw [I.ok.glob]; exact I.mod.glob.keeps I.bk) hm (by rw [I.ok.blt]; exact h1.keeps I.bk) ((h2 x hn).trans hv) h) hd
/-- a module's constant, a class, a function, as a value -/
theorem pe_glob {x : Str} {v : V} {u : Value} {pos : Pos} (hg : Gl X x) (hm : X.mg x = some u) (r : RelV v u) (hd : (x == ("__debug__" : Str)) = false := by decide) : PE X (.Name x pos) (tC v) :=
  fun _ _ _ H _ I h => ld_glob I hg hm ⟨v, H, I, r, h⟩ hd
theorem pe_bltn {x : Str} {v : V} {u : Value} {pos : Pos} (hg : Gl X x) (hm : X.mg x = none) (hv : bootBuiltins x = some u) (r : RelV v u) (hn : x ≠ "__name__" := by decide) (hd : (x == ("__debug__" : Str)) = false := by decide) : PE X (.Name x pos) (tC v) :=
  fun _ _ _ H _ I h => ld_blt I hg hm hv ⟨v, H, I, r, h⟩ hn hd

/-! ### arithmetic -/
variable {a b : Expr} {ta tb : TE} {pos : Pos}
/-! ### comparisons -/
def PC (X : Cx) (op : CmpOp) (a b : Expr) (t : TE) : Prop :=
  ∀ (pins : List (Addr × Obj)) (s : Shared) (σ : St) (H : Hp) (Q : VK), Inv X pins σ H s → t σ H Q →
    wpAny (model X.prog X.w) X.A (eval a X.env) (fun v s₁ => wpAny (model X.prog X.w) X.A (eval b X.env) (fun u s₂ => wpAny (model X.prog X.w) X.A (compareOp op v u) (EP X pins σ Q) X.xe s₂) X.xe s₁) X.xe s
/-- a comparison as a value, as a test -/
def tB (t : TE) : TT := fun σ H Q => t σ H fun x H1 => ∃ c, x = .bl c ∧ Q c H1
theorem pe_cmp {op : CmpOp} {t : TE} (h : PC X op a b t) (h1 : behindInMarks op b = false := by first | exact nobehind _ (by decide) (by decide) | rfl) : PE X (.Compare a [op] [b] pos) t := fun pins s σ H Q I hw => wpAny_Compare1 (h pins s σ H Q I hw) h1
theorem pt_cmp {op : CmpOp} {t : TE} (h : PC X op a b t) (h1 : behindInMarks op b = false := by first | exact nobehind _ (by decide) (by decide) | rfl) : PT X (.Compare a [op] [b] pos) (tB t) := by
  intro pins s σ H Q I hw
  refine wpAny_isTrue_Compare1 (thn (h pins s σ H _ I hw) fun v s1 h1 => thn h1 fun u s2 h2 => thn h2 fun c s3 ⟨x, H1, I1, r1, q1⟩ => ?_) h1
  obtain ⟨d, rfl, q⟩ := q1
  cases r1
  exact wpAny_truthy_bool ⟨H1, I1, q⟩
/-- an expression whose value is a bool, as a test -/
theorem pt_val {e : Expr} {t : TE} (h : PE X e t) (he : ∀ whole, isTrue e X.env whole = (do let v ← whole; standAt e.pos; holding [v] (truthy v)) := by intro _; rfl) : PT X e (tB t) := by
  intro pins s σ H Q I hw
  refine isTrue_plain (thn (h pins s σ H _ I hw) fun v s1 ⟨x, H1, I1, r1, q1⟩ => ?_) (he _)
  obtain ⟨d, rfl, q⟩ := q1
  cases r1
  exact wpAny_truthy_bool ⟨H1, I1, q⟩

/-! ### and, or, not -/
variable {tA tB' : TT} {rest : List Expr}
def tAnd (t u : TT) : TT := fun σ H Q => t σ H fun c H1 => if c = true then u σ H1 Q else Q false H1
def tOr (t u : TT) : TT := fun σ H Q => t σ H fun c H1 => if c = true then Q true H1 else u σ H1 Q
def tNot (t : TT) : TT := fun σ H Q => t σ H fun c H1 => Q (!c) H1
theorem pw_and1 (ha : PT X a tA) : PW X (.BoolOp .And [a] pos) tA := by
  intro wh pins s σ H Q I h
  refine isTrue_and (thn (ha pins s σ H Q I h) fun c s1 e => ?_)
  cases c with
  | true => exact isTrue_and_nil e
  | false => exact e
theorem pw_or1 (ha : PT X a tA) : PW X (.BoolOp .Or [a] pos) tA := by
  intro wh pins s σ H Q I h
  refine isTrue_or (thn (ha pins s σ H Q I h) fun c s1 e => ?_)
  cases c with
  | false => exact isTrue_or_nil e
  | true => exact e
theorem pw_and (ha : PT X a tA) (hb : PW X (.BoolOp .And (b :: rest) pos) tB') : PW X (.BoolOp .And (a :: b :: rest) pos) (tAnd tA tB') := by
  intro wh pins s σ H Q I h
  refine isTrue_and (thn (ha pins s σ H _ I h) fun c s1 ⟨H1, I1, q1⟩ => ?_)
  cases c with
  | true => exact hb wh pins s1 σ H1 Q I1 q1
  | false => exact ⟨H1, I1, q1⟩
theorem pw_or (ha : PT X a tA) (hb : PW X (.BoolOp .Or (b :: rest) pos) tB') : PW X (.BoolOp .Or (a :: b :: rest) pos) (tOr tA tB') := by
  intro wh pins s σ H Q I h
  refine isTrue_or (thn (ha pins s σ H _ I h) fun c s1 ⟨H1, I1, q1⟩ => ?_)
  cases c with
  | true => exact ⟨H1, I1, q1⟩
  | false => exact hb wh pins s1 σ H1 Q I1 q1
theorem pt_not (ha : PT X a tA) : PT X (.UnaryOp .Not a pos) (tNot tA) := by
  intro pins s σ H Q I h
  exact isTrue_not (ha pins s σ H (fun c H1 => Q (!c) H1) I h)
/-- .. as values (bools) -/
def tAndV (ta tb : TE) : TE := fun σ H Q => ta σ H fun x H1 => ∃ c, x = .bl c ∧ if c = true then tb σ H1 Q else Q (.bl false) H1
def tNotV (ta : TE) : TE := fun σ H Q => ta σ H fun x H1 => ∃ c, x = .bl c ∧ Q (.bl (!c)) H1
theorem pe_one {op} {t : TE} (h : PE X a t) : PE X (.BoolOp op [a] pos) t := fun pins s σ H Q I hw => BoolOp_one (h pins s σ H Q I hw)
theorem pe_and (ha : PE X a ta) (hb : PE X (.BoolOp .And (b :: rest) pos) tb) : PE X (.BoolOp .And (a :: b :: rest) pos) (tAndV ta tb) := by
  intro pins s σ H Q I h
  refine BoolOp_and (thn (ha pins s σ H _ I h) fun v s1 ⟨x, H1, I1, r1, q1⟩ => ?_)
  obtain ⟨c, rfl, q1⟩ := q1
  cases r1
  refine wpAny_truthy_bool ?_
  cases c with
  | true => exact hb pins s1 σ H1 Q I1 q1
  | false => exact ⟨.bl false, H1, I1, rfl, q1⟩
theorem pe_not (ha : PE X a ta) : PE X (.UnaryOp .Not a pos) (tNotV ta) := by
  intro pins s σ H Q I h
  refine UnaryOp_ (thn (ha pins s σ H _ I h) fun v s1 ⟨x, H1, I1, r1, q1⟩ => ?_)
  obtain ⟨c, rfl, q1⟩ := q1
  cases r1
  exact not_of (wpAny_truthy_bool ⟨.bl (!c), H1, I1, rfl, q1⟩)
end
end L2

namespace L2
open PySem PySem.Spec PyProof.Rows

/-! ### a list, a tuple that is read: tracked, frozen, or an object of the module -/
def SqL (K : PySem.W.Frag) (H : Hp) (a : Addr) (xs : List V) : Prop :=
  Rd H a (.lst xs) ∨
    ∃ (o : Obj) (its : Array Value) (n : Nat), K.lookup a = some o ∧ o.cls = .type "list" ∧ o.dict = none ∧ o.data = .seq its n ∧ its.size ≤ sizeLine ∧ Vals xs its.toList
def SqT (K : PySem.W.Frag) (H : Hp) (a : Addr) (xs : List V) : Prop :=
  Rd H a (.tup xs) ∨
    ∃ (o : Obj) (its : Array Value) (n : Nat), K.lookup a = some o ∧ o.cls = .type "tuple" ∧ o.data = .seq its n ∧ its.size ≤ sizeLine ∧ Vals xs its.toList
def absV : Value → Option V
  | .none => some .non
  | .bool b => some (.bl b)
  | .int i _ => some (.int i)
  | .str x _ => some (.str x)
  | .bytes b _ => some (.byt b)
  | .float b _ => some (.flt b)
  | .ref a => some (.ref a)
  | .type n => some (.ty n)
  | _ => none
theorem RelV.abs {x : V} {u : Value} (r : RelV x u) : absV u = some x := by
  cases x with
  | non => cases r; rfl
  | bl _ => cases r; rfl
  | int _ => obtain ⟨t, rfl⟩ := r; rfl
  | str _ => obtain ⟨t, rfl⟩ := r; rfl
  | byt _ => obtain ⟨t, rfl⟩ := r; rfl
  | flt _ => obtain ⟨t, rfl⟩ := r; rfl
  | ref _ => cases r; rfl
  | ty _ => cases r; rfl
theorem RelV.inj {x y : V} {u : Value} (r : RelV x u) (q : RelV y u) : x = y := Option.some.inj (r.abs.symm.trans q.abs)
theorem Vals.inj : ∀ {xs ys : List V} {us : List Value}, Vals xs us → Vals ys us → xs = ys
  | _, _, _, .nil, .nil => rfl
  | _, _, _, .cons r t, .cons r' t' => by rw [r.inj r', Vals.inj t t']
section
variable {X : Cx} {pins : List (Addr × Obj)} {σ : St} {H : Hp} {s : Shared} {a : Addr} {xs ys : List V}
theorem SqL.of {K : PySem.W.Frag} (h : H a = some (.lst xs)) : SqL K H a xs := .inl (.inl h)
theorem SqT.of {K : PySem.W.Frag} (h : H a = some (.tup xs)) : SqT K H a xs := .inl (.inl h)
theorem Inv.list (I : Inv X pins σ H s) (h : SqL X.K H a xs) : ∃ its : List Value, Vals xs its ∧ PlainL s.heap a its.toArray ∧ xs.length ≤ sizeLine := by
  rcases h with h | ⟨o, its, n, hk, hc, hd, hs, hz, r⟩
  · obtain ⟨z, its, n, r, e⟩ := h.ok I.hok
    exact ⟨its, r, ⟨_, n, e, rfl, rfl, rfl⟩, z⟩
  · refine ⟨its.toList, r, ⟨o, n, I.kIn a o hk, hc, hd, by simpa using hs⟩, ?_⟩
    have e := r.length
    simp only [Array.length_toList] at e
    omega
theorem Inv.tuple (I : Inv X pins σ H s) (h : SqT X.K H a xs) : ∃ its : List Value, Vals xs its ∧ IsTup s.heap a its.toArray ∧ xs.length ≤ sizeLine := by
  rcases h with h | ⟨o, its, n, hk, hc, hs, hz, r⟩
  · obtain ⟨z, its, r, p⟩ := h.ok I.hok
    exact ⟨its, r, p, z⟩
  · refine ⟨its.toList, r, ⟨o, I.kIn a o hk, hc, n, by simpa using hs⟩, ?_⟩
    have e := r.length
    simp only [Array.length_toList] at e
    omega
theorem Inv.list_inj (I : Inv X pins σ H s) (h : SqL X.K H a xs) (h' : SqL X.K H a ys) : xs = ys := by
  obtain ⟨its, r, ⟨o, n, e, _, _, d⟩, _⟩ := I.list h
  obtain ⟨its', r', ⟨o', n', e', _, _, d'⟩, _⟩ := I.list h'
  rw [e] at e'; cases e'
  rw [d] at d'
  injection d' with d1 _
  have : its = its' := by simpa using congrArg Array.toList d1
  subst this
  exact r.inj r'
end

/-! ### another wish about exceptions -/
abbrev Cx.wish (X : Cx) (E : Value → Shared → Prop) : Cx := { X with xe := E }
/-- no exception leaves -/
abbrev Cx.nox (X : Cx) : Cx := X.wish fun _ _ => False
theorem Cx.Ok.wish {X : Cx} (ok : X.Ok) (E : Value → Shared → Prop) : (X.wish E).Ok :=
  ⟨ok.mod, ok.kind, ok.glob, ok.blt, ok.above, ok.inj, ok.has, ok.cab, ok.hd, ok.frames, ok.stk, ok.exf, ok.bs, ok.bsz, ok.noex, ok.exfs, ok.funs, ok.frf⟩
theorem Cx.Ok.unwish {X : Cx} {E : Value → Shared → Prop} (ok : (X.wish E).Ok) : X.Ok :=
  ⟨ok.mod, ok.kind, ok.glob, ok.blt, ok.above, ok.inj, ok.has, ok.cab, ok.hd, ok.frames, ok.stk, ok.exf, ok.bs, ok.bsz, ok.noex, ok.exfs, ok.funs, ok.frf⟩
section
variable {X : Cx} {pins : List (Addr × Obj)} {σ : St} {H : Hp} {s : Shared} {E : Value → Shared → Prop}
theorem Inv.wish (I : Inv X pins σ H s) (E : Value → Shared → Prop) : Inv (X.wish E) pins σ H s := ⟨I.ok.wish E, I.os, I.bare, I.base, I.loc, I.cell, I.free, I.freeC, I.pin, I.hok, I.len⟩
theorem Inv.unwish (I : Inv (X.wish E) pins σ H s) : Inv X pins σ H s := ⟨I.ok.unwish, I.os, I.bare, I.base, I.loc, I.cell, I.free, I.freeC, I.pin, I.hok, I.len⟩
theorem SP.unwish {D : Ends} {f : Flow} {s' : Shared} (h : SP (X.wish E) pins D f s') : SP X pins D f s' := by
  cases f with
  | next => obtain ⟨σ', H', I, q⟩ := h; exact ⟨σ', H', I.unwish, q⟩
  | brk => obtain ⟨σ', H', I, q⟩ := h; exact ⟨σ', H', I.unwish, q⟩
  | cont => obtain ⟨σ', H', I, q⟩ := h; exact ⟨σ', H', I.unwish, q⟩
  | ret u => obtain ⟨v, σ', H', I, r, q⟩ := h; exact ⟨v, σ', H', I.unwish, r, q⟩
theorem PSs.nox {st : List Stmt} {t : TS} (h : PSs X.nox st t) : PSs X st t := fun pins s σ H D I hw =>
  wpAny_mono (h pins s σ H D (I.wish _) hw) (fun _ _ q => q.unwish) fun _ _ z => False.elim z
end

/-! ### blocks and small statements -/
section
variable {X : Cx} {st : Stmt} {rest : List Stmt} {t u : TS} {e : Expr} {te : TE} {pos : Pos}
def tNext : TS := fun D σ H => D.nx σ H
def tSeq (t u : TS) : TS := fun D σ H => t { D with nx := u D } σ H
theorem pss_nil : PSs X [] tNext := fun _ _ σ H _ I h => wpAny_execs_nil ⟨σ, H, I, h⟩
theorem pss_cons (h1 : PS X st t) (h2 : PSs X rest u) : PSs X (st :: rest) (tSeq t u) := by
  intro pins s σ H D I h
  refine wpAny_execs_cons (thn (h1 pins s σ H { D with nx := u D } I h) fun f s1 q => ?_)
  cases f with
  | next =>
    obtain ⟨σ', H', I', q⟩ := q
    exact h2 pins s1 σ' H' D I' q
  | ret v => exact q
  | brk => exact q
  | cont => exact q
theorem pss_one (h1 : PS X st t) : PSs X [st] t := by
  intro pins s σ H D I h
  refine wpAny_execs_cons (thn (h1 pins s σ H D I h) fun f s1 q => ?_)
  cases f with
  | next => exact wpAny_execs_nil q
  | ret v => exact q
  | brk => exact q
  | cont => exact q
/-- in a def's body nothing is shown -/
theorem Inv.quiet {pins : List (Addr × Obj)} {σ : St} {H : Hp} {s : Shared} (I : Inv X pins σ H s) : interactive X.env = false := by simp [interactive, I.ok.kind]
/-- an expression whose value is dropped -/
def tDrop (te : TE) : TS := fun D σ H => te σ H fun _ H1 => D.nx σ H1
theorem ps_expr (he : PE X e te) (hs : swapsWith e none pos.line X.env = pure false := by rfl) : PS X (.Expr e pos) (tDrop te) := by
  intro pins s σ H D I h
  exact wpAny_Expr_any (thn (he pins s σ H _ I h) fun v s1 ⟨x, H1, I1, r1, q1⟩ => ⟨σ, H1, I1, q1⟩) I.quiet hs
def tRet (te : TE) : TS := fun D σ H => te σ H D.rt
theorem ps_ret (he : PE X e te) : PS X (.Return (some e) pos) (tRet te) := by
  intro pins s σ H D I h
  exact wpAny_Return_some (thn (he pins s σ H _ I h) fun v s1 ⟨x, H1, I1, r1, q1⟩ => ⟨x, σ, H1, I1, r1, q1⟩)
def tIfS (c : TT) (t u : TS) : TS := fun D σ H => c σ H fun b H1 => if b = true then t D σ H1 else u D σ H1
theorem ps_if {c : Expr} {a b : List Stmt} {tc : TT} (hc : PT X c tc) (ha : PSs X a t) (hb : PSs X b u) : PS X (.If c a b pos) (tIfS tc t u) := by
  intro pins s σ H D I h
  refine wpAny_If (thn (hc pins s σ H _ I h) fun d s1 ⟨H1, I1, q1⟩ => ?_)
  cases d with
  | true => exact ha pins s1 σ H1 D I1 q1
  | false => exact hb pins s1 σ H1 D I1 q1
/-- code that the proof never comes to -/
def tNever : TS := fun _ _ _ => False
theorem ps_never : PS X st tNever := fun _ _ _ _ _ _ h => h.elim
end

/-! ### targets -/
abbrev TG := V → St → Hp → (St → Hp → Prop) → Prop
abbrev TGs := List V → St → Hp → (St → Hp → Prop) → Prop
def PG (X : Cx) (target : Expr) (t : TG) : Prop :=
  ∀ (pins : List (Addr × Obj)) (s : Shared) (σ : St) (H : Hp) (v : V) (u : Value) (Q : St → Hp → Prop), Inv X pins σ H s → RelV v u → t v σ H Q →
    wpAny (model X.prog X.w) X.A (assign target X.env u) (fun _ s' => ∃ σ' H', Inv X pins σ' H' s' ∧ Q σ' H') X.xe s
/-- several targets, one after another -/
def PGs (X : Cx) (ts : List Expr) (t : TGs) : Prop :=
  ∀ (pins : List (Addr × Obj)) (s : Shared) (σ : St) (H : Hp) (vs : List V) (us : List Value) (Q : St → Hp → Prop), Inv X pins σ H s → Vals vs us → t vs σ H Q →
    wpAny (model X.prog X.w) X.A (assignInOrder ((assignEach ts X.env).map (·.2)) us) (fun _ s' => ∃ σ' H', Inv X pins σ' H' s' ∧ Q σ' H') X.xe s
section
variable {X : Cx} {pos : Pos}
def gName (i : Nat) : TG := fun v σ H Q => Q (σ.set i (some v)) H
theorem pg_name {i : Nat} {x : Str} (hN : X.N.Nodup) (hi : X.N[i]? = some x) (hx : Loc X.env.scope x) (hf : X.fn x = true ∨ X.env.scope.names.lookup x = some .local := by first | exact .inl rfl | exact .inr rfl | assumption) : PG X (.Name x pos) (gName i) := by
  intro pins s σ H v u Q I r h
  exact wpAny_assign_Name (store_ok I hN hi hx r (fun s' I' => ⟨_, H, I', h⟩) hf)
def gNil : TGs := fun vs σ H Q => vs = [] ∧ Q σ H
def gCons (t : TG) (u : TGs) : TGs := fun vs σ H Q => ∃ v r, vs = v :: r ∧ t v σ H fun σ' H' => u r σ' H' Q
theorem pgs_nil : PGs X [] gNil := by
  intro pins s σ H vs us Q I r h
  obtain ⟨e, h⟩ := h
  subst e
  cases r
  exact assignInOrder_nil ⟨σ, H, I, h⟩
theorem pgs_cons {e : Expr} {es : List Expr} {t : TG} {u : TGs} (h1 : PG X e t) (h2 : PGs X es u)
    (hs : (assignEach (e :: es) X.env).map (·.2) = assign e X.env :: (assignEach es X.env).map (·.2) := by rfl) : PGs X (e :: es) (gCons t u) := by
  intro pins s σ H vs us Q I r h
  obtain ⟨v, vr, e1, h⟩ := h
  subst e1
  cases r with
  | cons r rr =>
    rw [hs]
    refine assignInOrder_cons (thn (h1 pins s σ H _ _ _ I r h) fun _ s1 ⟨σ1, H1, I1, q1⟩ => ?_)
    exact h2 pins s1 σ1 H1 _ _ Q I1 rr q1
/-- (a, b, ..) = a tuple of that length -/
def gTup (K : PySem.W.Frag) (n : Nat) (t : TGs) : TG := fun v σ H Q => ∃ a xs, v = .ref a ∧ SqT K H a xs ∧ xs.length = n ∧ t xs σ H Q
theorem pg_tup {es : List Expr} {k : Nat} {t : TGs} {n : Nat} (hc : X.calm = true) (h : PGs X es t)
    (hn : (assignEach es X.env).length = n := by rfl) (hst : (assignEach es X.env).findIdx? (·.1) = none := by rfl) : PG X (.Tuple es k pos) (gTup X.K n t) := by
  intro pins s σ H v u Q I r hw
  obtain ⟨a, xs, e1, hq, hl, hw⟩ := hw
  subst e1
  cases r
  obtain ⟨its, rv, ht, hz⟩ := I.tuple hq
  refine assign_Tuple_tuple (I.ok.hd hc) ht (by simp [hn, ← hl, rv.length]) hst fun h' hx => ?_
  have I1 : Inv X pins σ H { s with heap := h' } := I.kept (t' := s.toks) fun b o e => hx b o (Nat.ne_of_lt (Heap.lt_size e)) e
  exact h pins _ σ H xs _ Q I1 (by simpa using rv) hw
/-- target = value -/
def tAsg (te : TE) (g : TG) : TS := fun D σ H => te σ H fun x H1 => g x σ H1 D.nx
/-- name = value -/
theorem ps_set {i : Nat} {x : Str} {e : Expr} {te : TE} {pos' : Pos} (hN : X.N.Nodup) (hi : X.N[i]? = some x) (hx : Loc X.env.scope x) (he : PE X e te) (hs : swapsWith e (some (.Name x pos')) pos.line X.env = pure false := by rfl) (hf : X.fn x = true ∨ X.env.scope.names.lookup x = some .local := by first | exact .inl rfl | exact .inr rfl | assumption) :
    PS X (.Assign [.Name x pos'] e pos) (tAsg te (gName i)) := by
  intro pins s σ H D I h
  refine wpAny_Assign_Name (thn (he pins s σ H _ I h) fun v s1 ⟨y, H1, I1, r1, q1⟩ => ?_) hs
  exact store_ok I1 hN hi hx r1 (fun s2 I2 => ⟨_, H1, I2, q1⟩) hf
end

/-! ### while -/
section
variable {X : Cx} {pos : Pos}
/-- the invariant W with its measure -/
def tWhile (c : TT) (tb : TS) : TS := fun D σ H => ∃ W : Nat → St → Hp → Prop, (∃ m, W m σ H) ∧ ∀ m σ H, W m σ H →
  c σ H fun b H1 => if b = true then ∃ N : St → Hp → Prop, (∀ σ' H', N σ' H' → ∃ m', m' < m ∧ W m' σ' H') ∧ tb { D with nx := N, ct := N, bk := D.nx } σ H1 else D.nx σ H1
theorem ps_while {c : Expr} {body : List Stmt} {tc : TT} {tb : TS} (hp : PassesOwn (model X.prog X.w) X.A X.env X.xe) (hc : PT X c tc) (hb : PSs X body tb) : PS X (.While c body [] pos) (tWhile tc tb) := by
  intro pins s σ H D I h
  obtain ⟨W, ⟨m0, w0⟩, turn⟩ := h
  refine wpAny_While (codeAny_whileLoop (fun n s' => ∃ σ' H', Inv X pins σ' H' s' ∧ W n σ' H') ?_ m0 ⟨σ, H, I, w0⟩)
  rintro n s1 ⟨σ1, H1, I1, w1⟩
  refine wpAny_passesOwn hp (thn (hc pins s1 σ1 H1 _ I1 (turn n σ1 H1 w1)) fun b s2 ⟨H2, I2, q2⟩ => ?_)
  cases b with
  | true =>
    obtain ⟨N, hN, q2⟩ := q2
    rw [if_pos rfl]
    refine wpAny_passesOwn hp (thn (hb pins s2 σ1 H2 _ I2 q2) fun f s3 q3 => ?_)
    cases f with
    | next =>
      obtain ⟨σ3, H3, I3, n3⟩ := q3
      obtain ⟨m', hm, w3⟩ := hN σ3 H3 n3
      exact ⟨m', hm, σ3, H3, I3, w3⟩
    | cont =>
      obtain ⟨σ3, H3, I3, n3⟩ := q3
      obtain ⟨m', hm, w3⟩ := hN σ3 H3 n3
      exact ⟨m', hm, σ3, H3, I3, w3⟩
    | brk => exact q3
    | ret v => exact q3
  | false =>
    rw [if_neg Bool.false_ne_true]
    exact wpAny_execs_nil ⟨σ1, H2, I2, q2⟩
end

/-! ### what a loop or a comprehension walks -/
/-- at turn i: it yields x (the heap may grow), or it stops -/
structure It where
  go : Nat → Hp → Prop
  yld : Nat → Hp → V → Hp → Prop
  stop : Nat → Hp → Prop
/-- the iterator's own objects may turn: they are not the frame's, not pinned, younger than the entry (or a comprehension's own) -/
def FpOk (X : Cx) (pins : List (Addr × Obj)) (H : Hp) (b : Addr) : Prop :=
  H b = none ∧ b ≠ X.env.locals ∧ b ∉ X.fs ∧ (b ∈ X.ex ∨ X.s₀.heap.objs.size ≤ b) ∧ (∀ x c, X.env.cells.lookup x = some c → c ≠ b) ∧ ∀ p ∈ X.pn ++ pins, p.1 ≠ b
theorem Inv.fpOk {X : Cx} {pins : List (Addr × Obj)} {σ : St} {H H' : Hp} {s : Shared} {b : Addr} (I : Inv X pins σ H s) (hb : s.heap.objs.size ≤ b) (hn : H' b = none) : FpOk X pins H' b := by
  refine ⟨hn, Nat.ne_of_gt (Nat.lt_of_lt_of_le I.lt hb), I.nofs hb, .inr (Nat.le_trans I.sz hb), fun x c e z => ?_, fun p hp z => ?_⟩
  · obtain ⟨v, q⟩ := I.cell x c e
    exact absurd (Nat.lt_of_lt_of_le q.lt (by rw [z]; exact hb)) (Nat.lt_irrefl _)
  · exact absurd (Nat.lt_of_lt_of_le (Heap.lt_size (I.pin p hp).1) (by rw [z]; exact hb)) (Nat.lt_irrefl _)
structure Turn (P : Program) (w : World) (K : PySem.W.Frag) (tg : Expr) (J : It) (fp : List Addr) (it : Addr) (tn : Nat → Heap → Prop) : Prop where
  mem : it ∈ fp
  obj : ∀ i h, tn i h → ∀ b ∈ fp, ∃ o, h.get? b = some o ∧ ∀ v, o.data ≠ .cell v
  keep : ∀ i h h', tn i h → (∀ b ∈ fp, ∀ o, h.get? b = some o → h'.get? b = some o) → tn i h'
  item : ∀ (X : Cx), X.prog = P → X.w = w → X.K = K → X.calm = true → ∀ (i : Nat) (pins : List (Addr × Obj)) (s : Shared) (σ : St) (H : Hp) (E : Value → Shared → Prop), Inv X pins σ H s → (∀ b ∈ fp, FpOk X pins H b) → tn i s.heap → J.go i H →
    wpAny (model P w) X.A (pyNext (.ref it)) (fun r s1 => ∃ u, r = some u ∧
      wpAny (model P w) X.A (letOwnedTupleGo tg (.ref it) u) (fun _ s2 => ∃ x H', Inv X pins σ H' s2 ∧ RelV x u ∧ J.yld i H x H' ∧ tn (i + 1) s2.heap ∧ ∀ b ∈ fp, H' b = none) E s1) E s
  done : ∀ (X : Cx), X.prog = P → X.w = w → X.K = K → X.calm = true → ∀ (i : Nat) (pins : List (Addr × Obj)) (s : Shared) (σ : St) (H : Hp) (E : Value → Shared → Prop), Inv X pins σ H s → (∀ b ∈ fp, FpOk X pins H b) → tn i s.heap → J.stop i H →
    wpAny (model P w) X.A (pyNext (.ref it)) (fun r s1 => r = none ∧ Inv X pins σ H s1) E s
  self : ∀ (A : Around) (i : Nat) (s : Shared) (Q : Value → Shared → Prop) (E : Value → Shared → Prop), tn i s.heap → Q (.ref it) s → wpAny (model P w) A (pyIter (.ref it)) Q E s
abbrev TI := St → Hp → (It → Hp → Prop) → Prop
/-- an iterator has come -/
def PIE (X : Cx) (pins : List (Addr × Obj)) (σ : St) (tg : Expr) (R : It → Hp → Prop) (itv : Value) (s2 : Shared) : Prop :=
  ∃ (it : Addr) (fp : List Addr) (tn : Nat → Heap → Prop) (J : It) (H' : Hp), itv = .ref it ∧ Inv X pins σ H' s2 ∧ Turn X.prog X.w X.K tg J fp it tn ∧ tn 0 s2.heap ∧ (∀ b ∈ fp, FpOk X pins H' b) ∧ R J H'
def PI (X : Cx) (tg iter : Expr) (wi : TI) : Prop :=
  ∀ (pins : List (Addr × Obj)) (s : Shared) (σ : St) (H : Hp) (R : It → Hp → Prop), Inv X pins σ H s → wi σ H R →
    wpAny (model X.prog X.w) X.A (eval iter X.env) (fun v s1 => wpAny (model X.prog X.w) X.A (pyIter v) (PIE X pins σ tg R) X.xe s1) X.xe s

/-- the step ahead of the store is nothing for an iterator that keeps no tuple -/
theorem go_of {M : Model} {A : Around} {E : Value → Shared → Prop} {s : Shared} {tg : Expr} {it : Addr} {u : Value} {o : Obj} {n : String} {vs : Array Value} {Q : Unit → Shared → Prop} (ho : s.heap.get? it = some o) (hc : o.cls = .type n) (hd : o.data = .fields vs)
    (hn : ["enumerate", "zip", "dict_itemiterator", "dict_reverseitemiterator", "odict_iterator", "itertools.zip_longest", "itertools.pairwise"].contains n = false) (hQ : Q () s) : wpAny M A (letOwnedTupleGo tg (.ref it) u) Q E s := by
  unfold letOwnedTupleGo
  cases tg <;> first
    | exact wpAny_pure hQ
    | (cases u <;> first
        | exact wpAny_pure hQ
        | (refine wpAny_bind (wpAny_load ho ?_)
           rw [hc, hd]
           show wpAny M A (if (["enumerate", "zip", "dict_itemiterator", "dict_reverseitemiterator", "odict_iterator", "itertools.zip_longest", "itertools.pairwise"].contains n && vs[0]? == some (rawInt _)) = true then _ else _) Q E s
           rw [if_neg (by intro h; rw [hn, Bool.false_and] at h; cases h)]
           exact wpAny_pure hQ))

/-- the list at a, as it stands at each turn (a loop may append to it) -/
def Itl (K : PySem.W.Frag) (a : Addr) : It :=
  ⟨fun i H => ∃ xs x, SqL K H a xs ∧ xs[i]? = some x, fun i H x H' => H' = H ∧ ∀ xs, SqL K H a xs → xs[i]? = some x, fun i H => ∃ xs, SqL K H a xs ∧ xs.length ≤ i⟩
/-- lo, lo + 1, .. (n of them) -/
def Itr (lo : Int) (n : Nat) : It := ⟨fun i _ => i < n, fun i H x H' => H' = H ∧ x = .int (lo + i), fun i _ => n ≤ i⟩
theorem turn_list {P : Program} {w : World} {K : PySem.W.Frag} {tg : Expr} (a it : Addr) : Turn P w K tg (Itl K a) [it] it (fun i h => h.IsListIter it a i) where
  mem := by simp
  obj := fun i h st b hb => by
    have e : b = it := by simpa using hb
    subst e
    obtain ⟨o, e, c, d⟩ := st
    exact ⟨o, e, fun v z => by rw [d] at z; cases z⟩
  keep := fun i h h' st k => st.at fun o e => k it (by simp) o e
  item := by
    intro X hP hw hK hc i pins s σ H E I hf st hg
    subst hP hw hK
    obtain ⟨xs, x, hq, hx⟩ := hg
    obtain ⟨its, rv, p, hz⟩ := I.list hq
    obtain ⟨u, hu, ru⟩ := rv.get hx
    obtain ⟨f0, f1, f2, f3, f4, f5⟩ := hf it (by simp)
    refine wpAny_pyNext_list_item st p.isList (x := u) (by simpa using hu) fun h' st' sb => ?_
    have I1 : Inv X pins σ H { s with heap := h' } := I.turned (t' := s.toks) (fun b o hb e => (sb.2 b hb).trans e) f0 f1 f3 f4 f5
    obtain ⟨o, e, c, d⟩ := id st'
    exact ⟨u, rfl, go_of (s := { s with heap := h' }) e c d (by decide) ⟨x, H, I1, ru, ⟨rfl, fun ys hy => by rw [I.list_inj hy hq]; exact hx⟩, st', fun b hb => (hf b hb).1⟩⟩
  done := by
    intro X hP hw hK hc i pins s σ H E I hf st hg
    subst hP hw hK
    obtain ⟨xs, hq, hx⟩ := hg
    obtain ⟨its, rv, p, hz⟩ := I.list hq
    obtain ⟨f0, f1, f2, f3, f4, f5⟩ := hf it (by simp)
    have hl := rv.length
    exact wpAny_pyNext_list_end (I.ok.hd hc) st p.isList (by simp; omega) fun h' eb => ⟨rfl, I.turned (t' := s.toks) (fun b o hb e => eb b o hb e) f0 f1 f3 f4 f5⟩
  self := fun _ _ _ _ _ st h => wpAny_pyIter_listiter st h
theorem turn_range {P : Program} {w : World} {K : PySem.W.Frag} {tg : Expr} (it : Addr) (lo : Int) (n : Nat) : Turn P w K tg (Itr lo n) [it] it (fun i h => IsRangeIter h it (lo + (i : Nat) * 1) ((n : Int) - (i : Nat)) 1) where
  mem := by simp
  obj := fun i h st b hb => by
    have e : b = it := by simpa using hb
    subst e
    exact ⟨_, st, fun v z => by
      have z' : Data.fields _ = Data.cell v := z
      cases z'⟩
  keep := fun i h h' st k => k it (by simp) _ st
  item := by
    intro X hP hw hK hc i pins s σ H E I hf st hg
    subst hP hw hK
    obtain ⟨f0, f1, f2, f3, f4, f5⟩ := hf it (by simp)
    have W := Walks.range (prog := X.prog) (w := X.w) (I.ok.hd hc) it lo 1 n
    refine W.item i s _ _ hg st fun v h' tk hv st' kk => ?_
    obtain ⟨t, rfl⟩ := hv
    have I1 : Inv X pins σ H { s with heap := h', toks := tk } := I.turned (fun b o hb e => kk b o (by simpa using hb) e) f0 f1 f3 f4 f5
    refine ⟨_, rfl, go_of (s := { s with heap := h', toks := tk }) (n := "range_iterator") st' rfl rfl (by decide) ⟨.int (lo + i), H, I1, ⟨t, ?_⟩, ⟨rfl, rfl⟩, st', fun b hb => (hf b hb).1⟩⟩
    rw [Int.mul_one]
  done := by
    intro X hP hw hK hc i pins s σ H E I hf st hg
    subst hP hw hK
    obtain ⟨f0, f1, f2, f3, f4, f5⟩ := hf it (by simp)
    exact wpAny_pyNext_range_end (I.ok.hd hc) st (by have : n ≤ i := hg; omega) fun h' eb => ⟨rfl, I.turned (t' := s.toks) (fun b o hb e => eb b o hb e) f0 f1 f3 f4 f5⟩
  self := fun _ _ _ _ _ st h => wpAny_pyIter_rangeiter st h
end L2

namespace L2
open PySem PySem.Spec PyProof.Rows
section
variable {X : Cx} {tg : Expr}
def iList (K : PySem.W.Frag) (tl : TE) : TI := fun σ H R => tl σ H fun x H1 => ∃ a, x = .ref a ∧ (∃ xs, SqL K H1 a xs) ∧ R (Itl K a) H1
theorem pi_list {l : Expr} {tl : TE} (hl : PE X l tl) : PI X tg l (iList X.K tl) := by
  intro pins s σ H R I h
  refine thn (hl pins s σ H _ I h) fun v s1 ⟨x, H1, I1, r1, q1⟩ => ?_
  obtain ⟨a, e, ⟨xs, hq⟩, q⟩ := q1
  subst e
  cases r1
  obtain ⟨its, rv, p, hz⟩ := I1.list hq
  refine wpAny_pyIter_list p.isList ?_
  refine ⟨s1.heap.objs.size, [s1.heap.objs.size], _, _, H1, rfl, I1.kept (t' := s1.toks) fun b o e => Heap.get?_push_of_some _ e, turn_list a _, ⟨_, Heap.get?_push_size _ rfl, rfl, rfl⟩, fun b hb => ?_, q⟩
  have e : b = s1.heap.objs.size := by simpa using hb
  subst e
  exact I1.fpOk (Nat.le_refl _) (I1.hok.fresh (Nat.le_refl _))
/-- a range object just made, walked -/
theorem range_it {pins : List (Addr × Obj)} {σ : St} {H : Hp} {s : Shared} {R : It → Hp → Prop} {E : Value → Shared → Prop} {lo hi : Int} {t u v : Tok} {tk : Nat} (I : Inv X pins σ H s) (h1 : -(2 ^ 62) ≤ lo) (h2 : lo < 2 ^ 62) (h3 : -(2 ^ 62) ≤ hi) (h4 : hi < 2 ^ 62)
    (q : R (Itr lo (hi - lo).toNat) H) : wpAny (model X.prog X.w) X.A (pyIter (.ref s.heap.objs.size)) (PIE X pins σ tg R) E { s with heap := s.heap.push { cls := .type "range", data := .fields #[.int lo t, .int hi u, .int 1 v] }, toks := tk } := by
  refine wpAny_pyIter_range (IsRange.new ..) (small_one h1 h2 h3 h4) ?_
  have I1 : Inv X pins σ H { s with heap := s.heap.push { cls := .type "range", data := .fields #[.int lo t, .int hi u, .int 1 v] }, toks := tk } := I.kept fun b o e => Heap.get?_push_of_some _ e
  refine ⟨(s.heap.push { cls := .type "range", data := .fields #[.int lo t, .int hi u, .int 1 v] }).objs.size, [(s.heap.push { cls := .type "range", data := .fields #[.int lo t, .int hi u, .int 1 v] }).objs.size], _, _, H, rfl,
    I1.kept (t' := tk) fun b o e => Heap.get?_push_of_some _ e, turn_range _ lo (hi - lo).toNat, ?_, fun b hb => ?_, q⟩
  · have e1 : lo + ((0 : Nat) : Int) * 1 = lo := by simp
    have e2 : (((hi - lo).toNat : Nat) : Int) - ((0 : Nat) : Int) = Builtin.Range.rangeSize lo hi 1 := by rw [rangeSize_one]; split <;> omega
    show IsRangeIter _ _ (lo + ((0 : Nat) : Int) * 1) ((((hi - lo).toNat : Nat) : Int) - ((0 : Nat) : Int)) 1
    rw [e1, e2]
    exact Heap.get?_push_size _ rfl
  · have e : b = (s.heap.push { cls := .type "range", data := .fields #[.int lo t, .int hi u, .int 1 v] }).objs.size := by simpa using hb
    subst e
    exact I1.fpOk (Nat.le_refl _) (I1.hok.fresh (Nat.le_refl _))
def iRng1 (ta : TA) : TI := fun σ H R => ta σ H fun vs H1 => ∃ j : Int, vs = [.int j] ∧ -(2 ^ 62) ≤ j ∧ j < 2 ^ 62 ∧ R (Itr 0 j.toNat) H1
def iRng2 (ta : TA) : TI := fun σ H R => ta σ H fun vs H1 => ∃ i j : Int, vs = [.int i, .int j] ∧ (-(2 ^ 62) ≤ i ∧ i < 2 ^ 62 ∧ -(2 ^ 62) ≤ j ∧ j < 2 ^ 62) ∧ R (Itr i (j - i).toNat) H1
theorem pi_range1 {a : Expr} {ta : TA} {p pos : Pos} (hg : Gl X "range") (hm : X.mg "range" = none) (ha : PA X [a] ta) (hs : starEach [a] X.env = [(false, eval a X.env)] := by rfl) : PI X tg (.Call (.Name "range" p) [a] [] pos) (iRng1 ta) := by
  intro pins s σ H R I h
  refine Call_ (ld_blt I hg hm boot_range (PyProof.Rows.callWith_type1 (thn (ha pos pins s σ H _ I h) fun us s1 ⟨vs, H1, I1, r1, q1⟩ => ?_) hs rfl))
  obtain ⟨j, e, q1, q2, q⟩ := q1
  subst e
  cases r1 with
  | cons r rr =>
    cases rr
    obtain ⟨t, rfl⟩ := r
    exact call_range_1 (range_it I1 (by omega) (by omega) q1 q2 (by simpa using q))
theorem pi_range2 {a b : Expr} {ta : TA} {p pos : Pos} (hg : Gl X "range") (hm : X.mg "range" = none) (ha : PA X [a, b] ta) (hs : starEach [a, b] X.env = [(false, eval a X.env), (false, eval b X.env)] := by rfl) (hs2 : starEach [b] X.env = [(false, eval b X.env)] := by rfl) :
    PI X tg (.Call (.Name "range" p) [a, b] [] pos) (iRng2 ta) := by
  intro pins s σ H R I h
  refine Call_ (ld_blt I hg hm boot_range (PyProof.Rows.callWith_type1 (thn (ha pos pins s σ H _ I h) fun us s1 ⟨vs, H1, I1, r1, q1⟩ => ?_) (by rw [hs, hs2]) (by rw [hs2]; rfl)))
  obtain ⟨i, j, e, ⟨q1, q2, q3, q4⟩, q⟩ := q1
  subst e
  cases r1 with
  | cons r rr =>
    cases rr with
    | cons r' rr =>
      cases rr
      obtain ⟨t, rfl⟩ := r
      obtain ⟨t', rfl⟩ := r'
      exact call_range_2 (range_it I1 q1 q2 q3 q4 q)

/-! ### for -/
/-- W: the invariant by the turn and a measure; N: what the body is to reach -/
def tFor (wi : TI) (g : TG) (tb : TS) : TS := fun D σ H => wi σ H fun J H1 => ∃ W : Nat → Nat → St → Hp → Prop, (∃ m, W 0 m σ H1) ∧ ∀ i m σ H, W i m σ H →
  (J.stop i H ∧ D.nx σ H) ∨ (J.go i H ∧ ∃ N : St → Hp → Prop, (∀ σ' H', N σ' H' → ∃ m', m' < m ∧ W (i + 1) m' σ' H') ∧ ∀ x H', J.yld i H x H' → g x σ H' fun σ2 H2 => tb { D with nx := N, ct := N, bk := D.nx } σ2 H2)
/-- the records at fp as they stand -/
def pinsAt (fp : List Addr) (h : Heap) : List (Addr × Obj) := fp.filterMap fun b => (h.get? b).map fun o => (b, o)
theorem mem_pinsAt {fp : List Addr} {h : Heap} {b : Addr} {o : Obj} (hb : b ∈ fp) (e : h.get? b = some o) : (b, o) ∈ pinsAt fp h := List.mem_filterMap.mpr ⟨b, hb, by rw [e]; rfl⟩
theorem of_pinsAt {fp : List Addr} {h : Heap} {p : Addr × Obj} (hp : p ∈ pinsAt fp h) : p.1 ∈ fp ∧ h.get? p.1 = some p.2 := by
  obtain ⟨b, hb, e⟩ := List.mem_filterMap.mp hp
  cases q : h.get? b with
  | none => rw [q] at e; cases e
  | some o =>
    rw [q] at e
    have e' : (b, o) = p := Option.some.inj e
    subst e'
    exact ⟨hb, q⟩
theorem Inv.pinned {pins : List (Addr × Obj)} {σ : St} {H : Hp} {s : Shared} {fp : List Addr} (I : Inv X pins σ H s) (hf : ∀ b ∈ fp, FpOk X pins H b) (ho : ∀ b ∈ fp, ∃ o, s.heap.get? b = some o ∧ ∀ v, o.data ≠ .cell v) : Inv X (pins ++ pinsAt fp s.heap) σ H s :=
  I.pins_of fun p hp => (List.mem_append.mp hp).elim (fun z => I.pin p (List.mem_append_right _ z)) fun z => by
    obtain ⟨hb, e⟩ := of_pinsAt z
    obtain ⟨f0, f1, f2, _⟩ := hf p.1 hb
    obtain ⟨o, e', d⟩ := ho p.1 hb
    rw [e] at e'; cases e'
    exact ⟨e, f0, f1, f2, d⟩
theorem Inv.unpinned {pins pl : List (Addr × Obj)} {σ : St} {H : Hp} {s : Shared} (I : Inv X (pins ++ pl) σ H s) : Inv X pins σ H s := I.pins_of fun p hp => I.pin p (List.mem_append_right _ (List.mem_append_left _ hp))
theorem ps_for {iter : Expr} {body : List Stmt} {wi : TI} {g : TG} {tb : TS} {pos : Pos} (hp : PassesOwn (model X.prog X.w) X.A X.env X.xe) (hc : X.calm = true) (hi : PI X tg iter wi) (hg : PG X tg g) (hb : PSs X body tb)
    (hs : ∀ x, foldedSetIterable iter X.env x = pure x := by intro _; rfl) : PS X (.For tg iter body [] pos) (tFor wi g tb) := by
  intro pins s σ H D I h
  refine wpAny_For (thn (hi pins s σ H _ I h) fun v s1 h1 => thn h1 fun itv s2 h2 => ?_) hs
  obtain ⟨it, fp, tn, J, H2, e, I2, T, st2, f2, W, ⟨m0, w0⟩, turn⟩ := h2
  subst e
  -- what stays true of the iterator's objects through the loop
  have stat : ∀ {H' : Hp}, (∀ b ∈ fp, H' b = none) → ∀ b ∈ fp, FpOk X pins H' b := fun hn b hb => ⟨hn b hb, (f2 b hb).2⟩
  refine codeAny_forLoop_any (fun n s' => ∃ i σ' H', Inv X pins σ' H' s' ∧ tn i s'.heap ∧ (∀ b ∈ fp, H' b = none) ∧ W i n σ' H') ?_ m0 ⟨0, σ, H2, I2, st2, fun b hb => (f2 b hb).1, w0⟩
  rintro n s3 ⟨i, σ3, H3, I3, st3, fr3, w3⟩
  rcases turn i n σ3 H3 w3 with ⟨stop, qn⟩ | ⟨go, N, hN, step⟩
  · refine wpAny_passesOwn hp (thn (T.done X rfl rfl rfl hc i pins s3 σ3 H3 X.xe I3 (stat fr3) st3 stop) fun r s4 ⟨hr, I4⟩ => ?_)
    subst hr
    exact wpAny_execs_nil ⟨σ3, H3, I4, qn⟩
  · refine wpAny_passesOwn hp (thn (T.item X rfl rfl rfl hc i pins s3 σ3 H3 X.xe I3 (stat fr3) st3 go) fun r s4 ⟨u, hr, h4⟩ => ?_)
    subst hr
    refine wpAny_passesOwn hp (thn h4 fun _ s5 ⟨x, H5, I5, r5, y5, st5, fr5⟩ => ?_)
    have I5' := I5.pinned (stat fr5) (T.obj _ _ st5)
    refine wpAny_passesOwn hp (thn (hg _ s5 σ3 H5 x u _ I5' r5 (step x H5 y5)) fun _ s6 ⟨σ6, H6, I6, q6⟩ => ?_)
    refine wpAny_passesOwn hp (thn (hb _ s6 σ6 H6 _ I6 q6) fun f s7 q7 => ?_)
    have again : ∀ {σ7 : St} {H7 : Hp}, Inv X (pins ++ pinsAt fp s5.heap) σ7 H7 s7 → N σ7 H7 → ∃ m, m < n ∧ ∃ i σ' H', Inv X pins σ' H' s7 ∧ tn i s7.heap ∧ (∀ b ∈ fp, H' b = none) ∧ W i m σ' H' := fun {σ7 H7} I7 n7 => by
      obtain ⟨m', hm, w7⟩ := hN σ7 H7 n7
      refine ⟨m', hm, i + 1, σ7, H7, I7.unpinned, T.keep _ _ _ st5 fun b hb o e => (I7.pin (b, o) (List.mem_append_right _ (List.mem_append_right _ (mem_pinsAt hb e)))).1, fun b hb => ?_, w7⟩
      obtain ⟨o, e, d⟩ := T.obj _ _ st5 b hb
      exact (I7.pin (b, o) (List.mem_append_right _ (List.mem_append_right _ (mem_pinsAt hb e)))).2.1
    cases f with
    | next => obtain ⟨σ7, H7, I7, n7⟩ := q7; exact again I7 n7
    | cont => obtain ⟨σ7, H7, I7, n7⟩ := q7; exact again I7 n7
    | brk => obtain ⟨σ7, H7, I7, q7⟩ := q7; exact ⟨σ7, H7, I7.unpinned, q7⟩
    | ret v => obtain ⟨x7, σ7, H7, I7, r7, q7⟩ := q7; exact ⟨x7, σ7, H7, I7.unpinned, r7, q7⟩
end

/-! ### the forms one uses -/
/-- over a list that the body leaves as it is -/
theorem for_list {K : PySem.W.Frag} {a : Addr} {xs : List V} {g : TG} {tb : TS} {D : Ends} {σ : St} {H : Hp} (Pv : Nat → St → Hp → Prop) (h0 : Pv 0 σ H) (hl : ∀ i σ H, i ≤ xs.length → Pv i σ H → SqL K H a xs)
    (hs : ∀ i x σ H, xs[i]? = some x → Pv i σ H → g x σ H fun σ2 H2 => tb { D with nx := Pv (i + 1), ct := Pv (i + 1), bk := D.nx } σ2 H2) (hd : ∀ σ H, Pv xs.length σ H → D.nx σ H) :
    ∃ W : Nat → Nat → St → Hp → Prop, (∃ m, W 0 m σ H) ∧ ∀ i m σ H, W i m σ H →
      ((Itl K a).stop i H ∧ D.nx σ H) ∨ ((Itl K a).go i H ∧ ∃ N : St → Hp → Prop, (∀ σ' H', N σ' H' → ∃ m', m' < m ∧ W (i + 1) m' σ' H') ∧ ∀ x H', (Itl K a).yld i H x H' → g x σ H' fun σ2 H2 => tb { D with nx := N, ct := N, bk := D.nx } σ2 H2) := by
  refine ⟨fun i m σ H => m = xs.length - i ∧ i ≤ xs.length ∧ Pv i σ H, ⟨xs.length, by simp, Nat.zero_le _, h0⟩, ?_⟩
  rintro i m σ H ⟨rfl, hi, p⟩
  have q := hl i σ H hi p
  by_cases hlt : i < xs.length
  · refine .inr ⟨⟨xs, xs[i], q, by simp [hlt]⟩, Pv (i + 1), fun σ' H' p' => ⟨xs.length - (i + 1), by omega, rfl, hlt, p'⟩, fun x H' y => ?_⟩
    obtain ⟨e, y⟩ := y
    subst e
    exact hs i x σ _ (y xs q) p
  · have e : i = xs.length := by omega
    subst e
    exact .inl ⟨⟨xs, q, Nat.le_refl _⟩, hd σ H p⟩
theorem for_range {lo : Int} {n : Nat} {g : TG} {tb : TS} {D : Ends} {σ : St} {H : Hp} (Pv : Nat → St → Hp → Prop) (h0 : Pv 0 σ H)
    (hs : ∀ i σ H, i < n → Pv i σ H → g (.int (lo + i)) σ H fun σ2 H2 => tb { D with nx := Pv (i + 1), ct := Pv (i + 1), bk := D.nx } σ2 H2) (hd : ∀ σ H, Pv n σ H → D.nx σ H) :
    ∃ W : Nat → Nat → St → Hp → Prop, (∃ m, W 0 m σ H) ∧ ∀ i m σ H, W i m σ H →
      ((Itr lo n).stop i H ∧ D.nx σ H) ∨ ((Itr lo n).go i H ∧ ∃ N : St → Hp → Prop, (∀ σ' H', N σ' H' → ∃ m', m' < m ∧ W (i + 1) m' σ' H') ∧ ∀ x H', (Itr lo n).yld i H x H' → g x σ H' fun σ2 H2 => tb { D with nx := N, ct := N, bk := D.nx } σ2 H2) := by
  refine ⟨fun i m σ H => m = n - i ∧ i ≤ n ∧ Pv i σ H, ⟨n, by simp, Nat.zero_le _, h0⟩, ?_⟩
  rintro i m σ H ⟨rfl, hi, p⟩
  by_cases hlt : i < n
  · refine .inr ⟨hlt, Pv (i + 1), fun σ' H' p' => ⟨n - (i + 1), by omega, rfl, hlt, p'⟩, fun x H' y => ?_⟩
    obtain ⟨e, y⟩ := y
    subst e y
    exact hs i σ _ hlt p
  · have e : i = n := by omega
    subst e
    exact .inl ⟨Nat.le_refl _, hd σ H p⟩
/-- while, by a word and a measure of the state -/
theorem while_by {c : TT} {tb : TS} {D : Ends} {σ : St} {H : Hp} (Pv : St → Hp → Prop) (μ : St → Hp → Nat) (h0 : Pv σ H)
    (hs : ∀ σ H, Pv σ H → c σ H fun b H1 => if b = true then tb { D with nx := fun σ' H' => Pv σ' H' ∧ μ σ' H' < μ σ H, ct := fun σ' H' => Pv σ' H' ∧ μ σ' H' < μ σ H, bk := D.nx } σ H1 else D.nx σ H1)
    (mono : ∀ σ H Q Q', (∀ b H1, Q b H1 → Q' b H1) → c σ H Q → c σ H Q') : tWhile c tb D σ H := by
  refine ⟨fun m σ H => m = μ σ H ∧ Pv σ H, ⟨_, rfl, h0⟩, ?_⟩
  rintro m σ H ⟨rfl, p⟩
  refine mono σ H _ _ (fun b H1 q => ?_) (hs σ H p)
  cases b with
  | true => exact ⟨_, fun σ' H' ⟨p', l⟩ => ⟨_, l, rfl, p'⟩, q⟩
  | false => exact q
end L2

namespace L2
open PySem PySem.Spec PyProof.Rows

abbrev R2 := V → V → Hp → VK → Prop
/-- a two-place operation on values: f is binaryOp op, inplaceOp op or compareOp op -/
def OpR (X : Cx) (f : Value → Value → Sem Value) (r : R2) : Prop :=
  ∀ (pins : List (Addr × Obj)) (s : Shared) (σ : St) (H : Hp) (x y : V) (v u : Value) (Q : VK), Inv X pins σ H s → RelV x v → RelV y u → r x y H Q →
    wpAny (model X.prog X.w) X.A (f v u) (EP X pins σ Q) X.xe s
/-- a one-place operation -/
def UnR (X : Cx) (f : Value → Sem Value) (r : V → Hp → VK → Prop) : Prop :=
  ∀ (pins : List (Addr × Obj)) (s : Shared) (σ : St) (H : Hp) (x : V) (v : Value) (Q : VK), Inv X pins σ H s → RelV x v → r x H Q →
    wpAny (model X.prog X.w) X.A (f v) (EP X pins σ Q) X.xe s
/-- a call of a value that is known (a builtin, a type) with values -/
def CallR (X : Cx) (f : Value) (r : List V → Hp → VK → Prop) : Prop :=
  ∀ (pins : List (Addr × Obj)) (s : Shared) (σ : St) (H : Hp) (xs : List V) (us : List Value) (Q : VK), Inv X pins σ H s → Vals xs us → r xs H Q →
    wpAny (model X.prog X.w) X.A (call f us) (EP X pins σ Q) X.xe s
def tOp (r : R2) (ta tb : TE) : TE := fun σ H Q => ta σ H fun x H1 => tb σ H1 fun y H2 => r x y H2 Q
def tUn (r : V → Hp → VK → Prop) (ta : TE) : TE := fun σ H Q => ta σ H fun x H1 => r x H1 Q
/-- ints in, under C, and a value out -/
def rI (C : Int → Int → Prop) (g : Int → Int → V) : R2 := fun x y H Q => ∃ i j, x = .int i ∧ y = .int j ∧ C i j ∧ Q (g i j) H
def rI0 (g : Int → Int → V) : R2 := fun x y H Q => ∃ i j, x = .int i ∧ y = .int j ∧ Q (g i j) H
def rU (g : Int → V) : V → Hp → VK → Prop := fun x H Q => ∃ i, x = .int i ∧ Q (g i) H

section
variable {X : Cx} {a b c : Expr} {ta tb tc : TE} {pos : Pos}

theorem binT (ha : PE X a ta) (hb : PE X b tb) {pins : List (Addr × Obj)} {s : Shared} {σ : St} {H : Hp} {R : V → V → Hp → Prop} (I : Inv X pins σ H s)
    (h : ta σ H fun x H1 => tb σ H1 fun y H2 => R x y H2) {Q : Value → Shared → Prop} {f : Value → Value → Sem Value}
    (hf : ∀ v u s2 x y H2, Inv X pins σ H2 s2 → RelV x v → RelV y u → R x y H2 → wpAny (model X.prog X.w) X.A (f v u) Q X.xe s2) :
    wpAny (model X.prog X.w) X.A (eval a X.env) (fun v s₁ => wpAny (model X.prog X.w) X.A (eval b X.env) (fun u s₂ => wpAny (model X.prog X.w) X.A (f v u) Q X.xe s₂) X.xe s₁) X.xe s := by
  refine thn (ha pins s σ H _ I h) fun v s1 ⟨x, H1, I1, r1, q1⟩ => ?_
  refine thn (hb pins s1 σ H1 _ I1 q1) fun u s2 ⟨y, H2, I2, r2, q2⟩ => ?_
  exact hf v u s2 x y H2 I2 r1 r2 q2

theorem pe_op {op : Operator} {r : R2} (ho : OpR X (binaryOp op) r) (ha : PE X a ta) (hb : PE X b tb) : PE X (.BinOp a op b pos) (tOp r ta tb) := by
  intro pins s σ H Q I h
  exact wpAny_BinOp (binT ha hb I h fun v u s2 x y H2 I2 rx ry q => ho pins s2 σ H2 x y v u Q I2 rx ry q)
theorem pe_un {op : UnaryOp} {r : V → Hp → VK → Prop} (ho : UnR X (unaryOp op) r) (ha : PE X a ta) : PE X (.UnaryOp op a pos) (tUn r ta) := by
  intro pins s σ H Q I h
  exact UnaryOp_ (thn (ha pins s σ H _ I h) fun v s1 ⟨x, H1, I1, r1, q1⟩ => ho pins s1 σ H1 x v Q I1 r1 q1)
/-! ### ints -/
theorem opI {f : Value → Value → Sem Value} {C : Int → Int → Prop} {g : Int → Int → Int}
    (rule : ∀ (i j : Int) (t u : Tok) (s : Shared) (Q : Value → Shared → Prop) (E : Value → Shared → Prop), C i j → Q (.int (g i j) s.toks) { s with toks := s.toks + 1 } → wpAny (model X.prog X.w) X.A (f (.int i t) (.int j u)) Q E s) :
    OpR X f (rI C fun i j => .int (g i j)) := by
  intro pins s σ H x y v u Q I rx ry h
  obtain ⟨i, j, rfl, rfl, hc, q⟩ := h
  obtain ⟨t, rfl⟩ := rx
  obtain ⟨t', rfl⟩ := ry
  exact rule i j t t' s _ _ hc ⟨.int (g i j), H, I.tok _, ⟨_, rfl⟩, q⟩
theorem opI0 {f : Value → Value → Sem Value} {g : Int → Int → Int}
    (rule : ∀ (i j : Int) (t u : Tok) (s : Shared) (Q : Value → Shared → Prop) (E : Value → Shared → Prop), Q (.int (g i j) s.toks) { s with toks := s.toks + 1 } → wpAny (model X.prog X.w) X.A (f (.int i t) (.int j u)) Q E s) :
    OpR X f (rI0 fun i j => .int (g i j)) := by
  intro pins s σ H x y v u Q I rx ry h
  obtain ⟨i, j, rfl, rfl, q⟩ := h
  obtain ⟨t, rfl⟩ := rx
  obtain ⟨t', rfl⟩ := ry
  exact rule i j t t' s _ _ ⟨.int (g i j), H, I.tok _, ⟨_, rfl⟩, q⟩
theorem opB0 {f : Value → Value → Sem Value} {g : Int → Int → Bool}
    (rule : ∀ (i j : Int) (t u : Tok) (s : Shared) (Q : Value → Shared → Prop) (E : Value → Shared → Prop), Q (.bool (g i j)) s → wpAny (model X.prog X.w) X.A (f (.int i t) (.int j u)) Q E s) :
    OpR X f (rI0 fun i j => .bl (g i j)) := by
  intro pins s σ H x y v u Q I rx ry h
  obtain ⟨i, j, rfl, rfl, q⟩ := h
  obtain ⟨t, rfl⟩ := rx
  obtain ⟨t', rfl⟩ := ry
  exact rule i j t t' s _ _ ⟨.bl (g i j), H, I, rfl, q⟩

theorem op_add : OpR X (binaryOp .Add) (rI0 fun i j => .int (i + j)) := opI0 fun _ _ _ _ _ _ _ q => add_int q
theorem op_sub : OpR X (binaryOp .Sub) (rI0 fun i j => .int (i - j)) := opI0 fun _ _ _ _ _ _ _ q => sub_int q
theorem op_modN : OpR X (binaryOp .Mod) (rI (fun _ j => j ≠ 0) fun i j => .int (i.fmod j)) := opI fun _ _ _ _ _ _ _ hc q => mod_int' hc q
theorem unI {f : Value → Sem Value} {g : Int → Int}
    (rule : ∀ (i : Int) (t : Tok) (s : Shared) (Q : Value → Shared → Prop) (E : Value → Shared → Prop), Q (.int (g i) s.toks) { s with toks := s.toks + 1 } → wpAny (model X.prog X.w) X.A (f (.int i t)) Q E s) :
    UnR X f (rU fun i => .int (g i)) := by
  intro pins s σ H x v Q I rx h
  obtain ⟨i, rfl, q⟩ := h
  obtain ⟨t, rfl⟩ := rx
  exact rule i t s _ _ ⟨.int (g i), H, I.tok _, ⟨_, rfl⟩, q⟩
theorem un_neg : UnR X (unaryOp .USub) (rU fun i => .int (-i)) := unI fun _ _ _ _ _ q => neg_int q
/-! ### bools among ints: n += (a < b) -/
end

/-! ### comparisons -/
/-- the scalars that == tells apart as data does -/
def scal : V → V → Bool
  | .non, .non => true | .non, .int _ => true | .int _, .non => true | .non, .bl _ => true | .bl _, .non => true | .non, .str _ => true | .str _, .non => true
  | .int _, .int _ => true | .bl _, .bl _ => true | .str _, .str _ => true | .byt _, .byt _ => true
  | .int _, .str _ => true | .str _, .int _ => true | .bl _, .str _ => true | .str _, .bl _ => true
  | _, _ => false
def rEq : R2 := fun x y H Q => scal x y = true ∧ Q (.bl (decide (x = y))) H
def rNe : R2 := fun x y H Q => scal x y = true ∧ Q (.bl (!decide (x = y))) H

theorem dec_int {i j : Int} : decide (V.int i = V.int j) = (i == j) := by
  rw [Bool.eq_iff_iff]
  simp
theorem dec_bl {i j : Bool} : decide (V.bl i = V.bl j) = (i == j) := by
  rw [Bool.eq_iff_iff]
  simp
theorem dec_str {i j : Str} : decide (V.str i = V.str j) = (i == j) := by
  rw [Bool.eq_iff_iff]
  simp
theorem dec_byt {i j : Array UInt8} : decide (V.byt i = V.byt j) = (i.toList == j.toList) := by
  rw [Bool.eq_iff_iff]
  cases i
  cases j
  simp

section
variable {X : Cx} {a b c : Expr} {ta tb tc : TE} {pos : Pos}
theorem fin_bl {pins : List (Addr × Obj)} {σ : St} {H : Hp} {s : Shared} {Q : VK} {k k' : Bool} (I : Inv X pins σ H s) (q : Q (.bl k) H) (e : k = k') : EP X pins σ Q (.bool k') s := by
  subst e
  exact ⟨.bl k, H, I, rfl, q⟩
theorem op_eq : OpR X (compareOp .Eq) rEq := by
  intro pins s σ H x y v u Q I rx ry h
  obtain ⟨hs, q⟩ := h
  cases x with
  | non =>
    cases rx
    cases y with
    | non => cases ry; exact PySem.EqNone.eq_none_none (fin_bl I q (by simp))
    | bl j => cases ry; exact PySem.EqNone.eq_none_bool (fin_bl I q (by simp))
    | int j => obtain ⟨t', rfl⟩ := ry; exact PySem.EqNone.eq_none_int (fin_bl I q (by simp))
    | str j => obtain ⟨t', rfl⟩ := ry; exact PySem.EqNone.eq_none_str (fin_bl I q (by simp))
    | _ => exact absurd (show false = true from hs) Bool.false_ne_true
  | bl i =>
    cases rx
    cases y with
    | non => cases ry; exact PySem.EqNone.eq_bool_none (fin_bl I q (by simp))
    | bl j => cases ry; exact eq_bool (fin_bl I q dec_bl)
    | str j => obtain ⟨t', rfl⟩ := ry; exact PySem.EqMixed.eq_bool_str (fin_bl I q (by simp))
    | _ => exact absurd (show false = true from hs) Bool.false_ne_true
  | int i =>
    obtain ⟨t, rfl⟩ := rx
    cases y with
    | non => cases ry; exact PySem.EqNone.eq_int_none (fin_bl I q (by simp))
    | int j => obtain ⟨t', rfl⟩ := ry; exact eq_int (fin_bl I q dec_int)
    | str j => obtain ⟨t', rfl⟩ := ry; exact PySem.EqMixed.eq_int_str (fin_bl I q (by simp))
    | _ => exact absurd (show false = true from hs) Bool.false_ne_true
  | str i =>
    obtain ⟨t, rfl⟩ := rx
    cases y with
    | non => cases ry; exact PySem.EqNone.eq_str_none (fin_bl I q (by simp))
    | bl j => cases ry; exact PySem.EqMixed.eq_str_bool (fin_bl I q (by simp))
    | int j => obtain ⟨t', rfl⟩ := ry; exact PySem.EqMixed.eq_str_int (fin_bl I q (by simp))
    | str j => obtain ⟨t', rfl⟩ := ry; exact eq_str (fin_bl I q dec_str)
    | _ => exact absurd (show false = true from hs) Bool.false_ne_true
  | byt i =>
    obtain ⟨t, rfl⟩ := rx
    cases y with
    | byt j => obtain ⟨t', rfl⟩ := ry; exact PySem.W.eq_bytes (fin_bl I q dec_byt)
    | _ => exact absurd (show false = true from hs) Bool.false_ne_true
  | _ => cases y <;> exact absurd (show false = true from hs) Bool.false_ne_true
theorem op_ne : OpR X (compareOp .NotEq) rNe := by
  intro pins s σ H x y v u Q I rx ry h
  obtain ⟨hs, q⟩ := h
  cases x with
  | non =>
    cases rx
    cases y with
    | non => cases ry; exact PySem.EqNone.ne_none_none (fin_bl I q (by simp))
    | bl j => cases ry; exact PySem.EqNone.ne_none_bool (fin_bl I q (by simp))
    | int j => obtain ⟨t', rfl⟩ := ry; exact PySem.EqNone.ne_none_int (fin_bl I q (by simp))
    | str j => obtain ⟨t', rfl⟩ := ry; exact PySem.EqNone.ne_none_str (fin_bl I q (by simp))
    | _ => exact absurd (show false = true from hs) Bool.false_ne_true
  | bl i =>
    cases rx
    cases y with
    | non => cases ry; exact PySem.EqNone.ne_bool_none (fin_bl I q (by simp))
    | bl j => cases ry; exact ne_bool (fin_bl I q (congrArg not dec_bl))
    | str j => obtain ⟨t', rfl⟩ := ry; exact PySem.EqMixed.ne_bool_str (fin_bl I q (by simp))
    | _ => exact absurd (show false = true from hs) Bool.false_ne_true
  | int i =>
    obtain ⟨t, rfl⟩ := rx
    cases y with
    | non => cases ry; exact PySem.EqNone.ne_int_none (fin_bl I q (by simp))
    | int j => obtain ⟨t', rfl⟩ := ry; exact ne_int (fin_bl I q (congrArg not dec_int))
    | str j => obtain ⟨t', rfl⟩ := ry; exact PySem.EqMixed.ne_int_str (fin_bl I q (by simp))
    | _ => exact absurd (show false = true from hs) Bool.false_ne_true
  | str i =>
    obtain ⟨t, rfl⟩ := rx
    cases y with
    | non => cases ry; exact PySem.EqNone.ne_str_none (fin_bl I q (by simp))
    | bl j => cases ry; exact PySem.EqMixed.ne_str_bool (fin_bl I q (by simp))
    | int j => obtain ⟨t', rfl⟩ := ry; exact PySem.EqMixed.ne_str_int (fin_bl I q (by simp))
    | str j => obtain ⟨t', rfl⟩ := ry; exact ne_str (fin_bl I q (congrArg not dec_str))
    | _ => exact absurd (show false = true from hs) Bool.false_ne_true
  | byt i =>
    obtain ⟨t, rfl⟩ := rx
    cases y with
    | byt j => obtain ⟨t', rfl⟩ := ry; exact PySem.W.ne_bytes (fin_bl I q (congrArg not dec_byt))
    | _ => exact absurd (show false = true from hs) Bool.false_ne_true
  | _ => cases y <;> exact absurd (show false = true from hs) Bool.false_ne_true

theorem op_lt : OpR X (compareOp .Lt) (rI0 fun i j => .bl (decide (i < j))) := opB0 fun _ _ _ _ _ _ _ q => lt_int q
theorem op_le : OpR X (compareOp .LtE) (rI0 fun i j => .bl (decide (i ≤ j))) := opB0 fun _ _ _ _ _ _ _ q => le_int q
theorem op_gt : OpR X (compareOp .Gt) (rI0 fun i j => .bl (decide (j < i))) := opB0 fun _ _ _ _ _ _ _ q => gt_int q
/-- is None, is not None: the right side a value none -/
theorem op_isN : OpR X (compareOp .Is) (fun x y H Q => y = .non ∧ Q (.bl (decide (x = .non))) H) := by
  intro pins s σ H x y v u Q I rx ry h
  obtain ⟨rfl, q⟩ := h
  cases ry
  refine is_none_gen (fin_bl I q ?_)
  cases x <;> first
    | (cases rx; rfl)
    | (obtain ⟨t, rfl⟩ := rx; rfl)
theorem op_notN : OpR X (compareOp .IsNot) (fun x y H Q => y = .non ∧ Q (.bl (!decide (x = .non))) H) := by
  intro pins s σ H x y v u Q I rx ry h
  obtain ⟨rfl, q⟩ := h
  cases ry
  refine isnot_none_gen (fin_bl I q ?_)
  cases x <;> first
    | (cases rx; rfl)
    | (obtain ⟨t, rfl⟩ := rx; rfl)

theorem nomark (b : Expr) {op : CmpOp} (h : op ≠ .In := by decide) (h2 : op ≠ .NotIn := by decide) : behindInMarks op b = false := by
  have e1 : (op == CmpOp.In) = false := by cases op <;> first | rfl | exact absurd rfl h
  have e2 : (op == CmpOp.NotIn) = false := by cases op <;> first | rfl | exact absurd rfl h2
  cases b <;> simp [behindInMarks, e1, e2]
/-- a comparison as a value; hm: nomark b, or (for in, not in) by with_unfolding_all rfl -/
theorem pe_cmpR {op : CmpOp} {r : R2} (ho : OpR X (compareOp op) r) (ha : PE X a ta) (hb : PE X b tb) (hm : behindInMarks op b = false) : PE X (.Compare a [op] [b] pos) (tOp r ta tb) := by
  intro pins s σ H Q I h
  exact wpAny_Compare1 (binT ha hb I h fun v u s2 x y H2 I2 rx ry q => ho pins s2 σ H2 x y v u Q I2 rx ry q) hm
/-- a reading of a value as a test -/
def tTest (t : TE) : TT := fun σ H Q => t σ H fun x H' => ∃ k, x = .bl k ∧ Q k H'
theorem pt_cmpR {op : CmpOp} {r : R2} (ho : OpR X (compareOp op) r) (ha : PE X a ta) (hb : PE X b tb) (hm : behindInMarks op b = false) : PT X (.Compare a [op] [b] pos) (tTest (tOp r ta tb)) := by
  intro pins s σ H Q I h
  refine wpAny_isTrue_Compare1 (thn (ha pins s σ H _ I h) fun v s1 ⟨x, H1, I1, r1, q1⟩ => thn (hb pins s1 σ H1 _ I1 q1) fun u s2 ⟨y, H2, I2, r2, q2⟩ =>
    thn (ho pins s2 σ H2 x y v u _ I2 r1 r2 q2) fun c s3 ⟨z, H3, I3, r3, k, e, q3⟩ => ?_) hm
  subst e
  cases r3
  exact wpAny_truthy_bool ⟨H3, I3, q3⟩
/-! ### truth -/
theorem line63 : (sizeLine : Nat) < 2 ^ 63 := by rw [sizeLine_eq]; decide
/-! ### strs and bytes -/
theorem op_add_str : OpR X (binaryOp .Add) (fun x y H Q => ∃ i j, x = .str i ∧ y = .str j ∧ i.length + j.length ≤ sizeLine ∧ Q (.str (i ++ j)) H) := by
  intro pins s σ H x y v u Q I rx ry h
  obtain ⟨i, j, rfl, rfl, hz, q⟩ := h
  obtain ⟨t, rfl⟩ := rx
  obtain ⟨t', rfl⟩ := ry
  exact add_str (fun t' tk => ⟨.str (i ++ j), H, I.tok _, ⟨_, rfl⟩, q⟩) hz
/-! ### scalar builtins, by CallR -/
theorem vals1 {x : V} {us : List Value} (r : Vals [x] us) : ∃ u, us = [u] ∧ RelV x u := by
  cases r with
  | cons r1 r2 => cases r2; exact ⟨_, rfl, r1⟩
theorem vals2 {x y : V} {us : List Value} (r : Vals [x, y] us) : ∃ u w', us = [u, w'] ∧ RelV x u ∧ RelV y w' := by
  cases r with
  | cons r1 r2 =>
    cases r2 with
    | cons r3 r4 => cases r4; exact ⟨_, _, rfl, r1, r3⟩
end
end L2

namespace L2
open PySem PySem.Spec PyProof.Rows

/-! ### an instance, its attributes a map -/
structure ObjM (h : Heap) (x dx C : Addr) (mA : Str → Option Value) : Prop where
  obj : h.get? x = some (PySem.W.instObj C dx)
  ns : h.Ns1 dx mA
  ne : dx ≠ x

theorem lookIn_ns {h : Heap} {dx : Addr} {mA : Str → Option Value} (n : h.Ns1 dx mA) : ∃ od, h.get? dx = some od ∧ ∀ name, PySem.W.lookIn name od = some (mA name) := by
  obtain ⟨o, es, ep, ho, hd, hk, _, hm⟩ := n
  refine ⟨o, ho, fun name => ?_⟩
  have e := hm name
  unfold nsFind findBy at e
  rw [← Array.find?_toList] at e
  unfold PySem.W.lookIn
  rw [hd]
  dsimp only
  split
  · rename_i y q
    rw [q] at e
    exact congrArg some e
  · rename_i q
    rw [q] at e
    have a : es.toList.any (·.refKey) = false := by
      rw [List.any_eq_false]
      intro y hy
      obtain ⟨z, t, hkey⟩ := hk y (Array.mem_toList_iff.mp hy)
      simp [DictEntry.refKey, hkey]
    have a' : ¬ es.toList.any (·.refKey) = true := by rw [a]; exact Bool.false_ne_true
    rw [if_neg a']
    exact congrArg some e

theorem ObjM.look {h : Heap} {x dx C : Addr} {mA : Str → Option Value} (I : ObjM h x dx C mA) : ∃ od, PySem.W.InstAt h x (PySem.W.instObj C dx) C (some od) ∧ ∀ name, PySem.W.lookIn name od = some (mA name) :=
  let ⟨od, ho, hl⟩ := lookIn_ns I.ns
  ⟨od, ⟨I.obj, rfl, rfl, ho⟩, hl⟩

section
variable {prog : Program} {w : World} {A : Around} {E : Value → Shared → Prop} {s : Shared} {K : PySem.W.Frag} {x dx C f : Addr} {mA : Str → Option Value} {name : Str} {v : Value}

theorem get_map {expr : Bool} {Q : Value → Shared → Prop} (X : K.In s.heap) (I : ObjM s.heap x dx C mA) (hg : PySem.W.plainGet K C name = true) (hh : PySem.W.hasDictIn K C = true)
    (ha : PySem.W.findIn K (.ref C) name = some none) (hv : mA name = some v) (hv' : PySem.W.handedIn v = true) (h : Q v { s with toks := s.toks + 1 }) :
    wpAny (model prog w) A (getAttr (.ref x) name expr) Q E s := by
  obtain ⟨od, J, hl⟩ := I.look
  exact PySem.W.get_value X J (PySem.W.plainGet_of hg).1 (PySem.W.findObj_own hh ha rfl (by rw [hl, hv])) hv' h

theorem get_meth {pl : Sem Bool} {Q : Value × List Value → Shared → Prop} (X : K.In s.heap) (I : ObjM s.heap x dx C mA) (hg : PySem.W.plainGet K C name = true)
    (hf : PySem.W.findIn K (.ref C) name = some (some (.ref f))) (ht : PySem.W.isFn K (.ref f) = true) (hv : mA name = none) (h : Q (.ref f, [.ref x]) s) :
    wpAny (model prog w) A (getMethod (.ref x) name pl) Q E s := by
  obtain ⟨od, J, hl⟩ := I.look
  exact PySem.W.method_fn X J (PySem.W.plainGet_of hg).1 (PySem.W.plainGet_of hg).2 hf (beq_iff_eq.mp ht) (by show (PySem.W.lookIn name od).map (·.isSome) = some false; rw [hl, hv]; rfl) h

theorem set_map {ns : List Str} {Q : Unit → Shared → Prop} (X : K.In s.heap) (I : ObjM s.heap x dx C mA)
    (hs : PySem.W.findIn K (.ref C) "__setattr__" = some (some (.builtin "object.__setattr__"))) (hp : PySem.W.plainOver K C = true) (ht : PySem.W.takerIn K C name = some none) (hh : PySem.W.hasDictIn K C = true)
    (hw : PySem.Within mA ns) (hsz : ns.length ≤ sizeLine)
    (h : ∀ h', ObjM h' x dx C (fun y => if y = name then some v else mA y) → Heap.SameBut dx s.heap h' → Q () { s with heap := h', toks := s.toks + 2 }) :
    wpAny (model prog w) A (setAttr (.ref x) name v) Q E s := by
  obtain ⟨od, J, hl⟩ := I.look
  refine PySem.W.set_plain X J hs (PySem.W.osa_open (s := { s with toks := s.toks + 1 }) (r := none) X J hp ht fun b => ?_)
  obtain ⟨cd, hc, hd'⟩ := PySem.W.any_some hh
  have hx : s.heap.get? x = some ⟨.ref C, some dx, .plain, #[]⟩ := I.obj
  refine wpAny_bind (wpAny_pure (wpAny_bind (wpAny_bind (wpAny_loadPart hx (wpAny_bind (PySem.W.Looks.here (s := { s with toks := s.toks + 1 }) (PySem.W.looks_clsIn X hc) ?_))))))
  rw [hd']
  refine wpAny_pure (a := some dx) (wpAny_bind (wpAny_pure (wpAny_bind ?_)))
  refine wpAny_nsSet1 (s := { s with toks := s.toks + 1 }) I.ns fun h' hn2 hs2 => ?_
  obtain ⟨oD, esD, epD, hoD, hdD, hcD⟩ := hn2.count (PySem.Within.cons name v hw)
  refine wpAny_bind (wpAny_lookBehind hoD (by rw [hdD]; exact pastItsLine_dict (Nat.le_trans hcD (by rw [List.length_cons]; omega))) ?_)
  exact wpAny_pure (h _ ⟨(hs2.2 _ (Ne.symm I.ne)).trans I.obj, hn2, I.ne⟩ hs2)

/-- C(..): the dict at the heap's end, the instance behind it; then its __init__ -/
theorem make_map {R : Result → Shared → Prop} {vs : List Value} {kw : List (Str × Value)} (X : K.In s.heap) (hm : PySem.W.makesIn K C = true)
    (hi : PySem.W.findIn K (.ref C) "__init__" = some (some (.ref f))) (hf : PySem.W.typeIn K (.ref f) = some (.type "function"))
    (h : codeAny (model prog w) (A.under (.builtin "type.__call__" ⟨.ref C :: vs, kw⟩)) (.call (.ref f) ⟨.ref (s.heap.objs.size + 1) :: vs, kw⟩) (PySem.W.InitBack (s.heap.objs.size + 1) R)
      { s with heap := (s.heap.push PySem.W.emptyDict).push (PySem.W.instObj C s.heap.objs.size) }) :
    codeAny (model prog w) A (.call (.ref C) ⟨vs, kw⟩) R s := by
  obtain ⟨hh, g, d, t, os⟩ := s
  exact PySem.W.make_core (PySem.W.makes_of X hm) (PySem.W.looks_findIn X hi) (fun self => PySem.W.bind_fn X self hf) (.inl rfl) h
end

/-! ### the attributes as a list of pairs -/
def putF (f : Str) (v : V) : List (Str × V) → List (Str × V)
  | [] => [(f, v)]
  | (g, x) :: r => if g = f then (g, v) :: r else (g, x) :: putF f v r
theorem lookup_putF (f g : Str) (v : V) : ∀ fs : List (Str × V), (putF f v fs).lookup g = if g = f then some v else fs.lookup g
  | [] => by
    show List.lookup g [(f, v)] = _
    by_cases h : g = f
    · have hb : (g == f) = true := beq_iff_eq.mpr h
      simp only [List.lookup, hb, if_pos h]
    · have hb : (g == f) = false := beq_eq_false_iff_ne.mpr h
      simp only [List.lookup, hb, if_neg h]
  | (k, x) :: r => by
    have ih := lookup_putF f g v r
    rw [show putF f v ((k, x) :: r) = (if k = f then (k, v) :: r else (k, x) :: putF f v r) from rfl]
    by_cases hk : k = f
    · rw [if_pos hk]
      by_cases h : g = k
      · have hb : (g == k) = true := beq_iff_eq.mpr h
        simp only [List.lookup, hb, if_pos (h.trans hk)]
      · have hb : (g == k) = false := beq_eq_false_iff_ne.mpr h
        simp only [List.lookup, hb, if_neg (fun e : g = f => h (e.trans hk.symm))]
    · rw [if_neg hk]
      by_cases h : g = k
      · have hb : (g == k) = true := beq_iff_eq.mpr h
        simp only [List.lookup, hb, if_neg (fun e : g = f => hk (h.symm.trans e))]
      · have hb : (g == k) = false := beq_eq_false_iff_ne.mpr h
        simp only [List.lookup, hb]
        exact ih
theorem keys_putF (f : Str) (v : V) : ∀ fs : List (Str × V), f ∈ (putF f v fs).map (·.1) ∧ ∀ g, g ∈ fs.map (·.1) → g ∈ (putF f v fs).map (·.1)
  | [] => ⟨by simp [putF], fun g h => by simp at h⟩
  | (k, x) :: r => by
    obtain ⟨i1, i2⟩ := keys_putF f v r
    rw [show putF f v ((k, x) :: r) = (if k = f then (k, v) :: r else (k, x) :: putF f v r) from rfl]
    by_cases hk : k = f
    · rw [if_pos hk]
      subst hk
      exact ⟨by simp, fun g h => by simpa using h⟩
    · rw [if_neg hk]
      refine ⟨?_, fun g h => ?_⟩
      · rw [List.map_cons]
        exact List.mem_cons_of_mem _ i1
      · rw [List.map_cons] at h ⊢
        rcases List.mem_cons.mp h with e | e
        · exact List.mem_cons.mpr (.inl e)
        · exact List.mem_cons_of_mem _ (i2 g e)
theorem length_putF (f : Str) (v : V) : ∀ fs : List (Str × V), (putF f v fs).length ≤ fs.length + 1
  | [] => by simp [putF]
  | (k, x) :: r => by
    have ih := length_putF f v r
    rw [show putF f v ((k, x) :: r) = (if k = f then (k, v) :: r else (k, x) :: putF f v r) from rfl]
    by_cases hk : k = f
    · rw [if_pos hk, List.length_cons, List.length_cons]; omega
    · rw [if_neg hk, List.length_cons, List.length_cons]; omega

theorem RelO.some_of {v : V} {o : Option Value} (r : RelO (some v) o) : ∃ u, o = some u ∧ RelV v u := by
  cases o with
  | none => exact (show False from r).elim
  | some u => exact ⟨u, rfl, r⟩
theorem RelO.none_of {o : Option Value} (r : RelO none o) : o = none := by
  cases o with
  | none => rfl
  | some u => exact (show False from r).elim
theorem handed_of {v : V} {u : Value} (r : RelV v u) : PySem.W.handedIn u = true := by
  cases v with
  | non => cases (show u = Value.none from r); rfl
  | bl b => cases (show u = Value.bool b from r); rfl
  | int i => obtain ⟨t, e⟩ := (show ∃ t, u = Value.int i t from r); cases e; rfl
  | str x => obtain ⟨t, e⟩ := (show ∃ t, u = Value.str x t from r); cases e; rfl
  | byt b => obtain ⟨t, e⟩ := (show ∃ t, u = Value.bytes b t from r); cases e; rfl
  | flt b => obtain ⟨t, e⟩ := (show ∃ t, u = Value.float b t from r); cases e; rfl
  | ref a => cases (show u = Value.ref a from r); rfl
  | ty n => cases (show u = Value.type n from r); rfl

section
variable {P : Program} {w : World} {H H' : Hp} {h h' : Heap} {a C dx : Addr} {fs fs' : List (Str × V)}
theorem ins_get (hok : HOk P w H h) (e : H a = some (.ins C dx fs)) : ∃ mA, ObjM h a dx C mA ∧ (∀ f, RelO (fs.lookup f) (mA f)) ∧ PySem.Within mA (fs.map (·.1)) ∧ fs.length ≤ 1000 ∧ H dx = some (.own a) := by
  obtain ⟨d, z, ne, ob, mA, n, r, q⟩ := (show ObjOk P w H h a (.ins C dx fs) from hok a _ e)
  exact ⟨mA, ⟨ob, n, ne⟩, r, q, z, d⟩
end

/-! ### what of the text a class must have -/
structure Cls (K : PySem.W.Frag) (C : Addr) : Prop where
  pg : PySem.W.plainGet K C Str.empty = true
  hd : PySem.W.hasDictIn K C = true
  po : PySem.W.plainOver K C = true
  sa : PySem.W.findIn K (.ref C) "__setattr__" = some (some (.builtin "object.__setattr__"))
theorem Cls.get {K : PySem.W.Frag} {C : Addr} (c : Cls K C) (f : Str) : PySem.W.plainGet K C f = true := c.pg
/-- no class of it has the name -/
def NoAttr (K : PySem.W.Frag) (C : Addr) (f : Str) : Prop := PySem.W.findIn K (.ref C) f = some none
theorem NoAttr.taker {K : PySem.W.Frag} {C : Addr} {f : Str} (n : NoAttr K C f) : PySem.W.takerIn K C f = some none := by
  unfold PySem.W.takerIn
  rw [show PySem.W.findIn K (.ref C) f = some none from n]
  rfl
/-- a method: a plain def of the class or of one above it -/
structure Meth (K : PySem.W.Frag) (C : Addr) (m : Str) (f : Addr) : Prop where
  at_ : PySem.W.findIn K (.ref C) m = some (some (.ref f))
  fn : PySem.W.isFn K (.ref f) = true
  kp : PySem.W.keepIn K (.ref f) = true

section
variable {X : Cx} {pins : List (Addr × Obj)} {σ : St} {H : Hp} {s : Shared} {a C dx : Addr} {fs : List (Str × V)} {f : Str} {v : V} {A : Around} {E : Value → Shared → Prop}

theorem getattr_ok {b : Bool} {Q : Value → Shared → Prop} (I : Inv X pins σ H s) (e : H a = some (.ins C dx fs)) (c : Cls X.K C) (n : NoAttr X.K C f) (l : fs.lookup f = some v)
    (h : ∀ u s', Inv X pins σ H s' → RelV v u → Q u s') : wpAny (model X.prog X.w) A (getAttr (.ref a) f b) Q E s := by
  obtain ⟨mA, O, r, _, _, _⟩ := ins_get I.hok e
  obtain ⟨u, hu, ru⟩ := RelO.some_of (v := v) (o := mA f) (by rw [← l]; exact r f)
  exact get_map I.kIn O (c.get f) c.hd n hu (handed_of ru) (h u _ (I.tok _) ru)

theorem getmeth_ok {m : Str} {g : Addr} {pl : Sem Bool} {Q : Value × List Value → Shared → Prop} (I : Inv X pins σ H s) (e : H a = some (.ins C dx fs)) (c : Cls X.K C) (k : Meth X.K C m g) (l : fs.lookup m = none)
    (h : Q (.ref g, [.ref a]) s) : wpAny (model X.prog X.w) A (getMethod (.ref a) m pl) Q E s := by
  obtain ⟨mA, O, r, _, _, _⟩ := ins_get I.hok e
  have hn : mA m = none := RelO.none_of (by rw [← l]; exact r m)
  exact get_meth I.kIn O (c.get m) k.at_ k.fn hn h

theorem setattr_ok {y : V} {u : Value} {Q : Unit → Shared → Prop} (I : Inv X pins σ H s) (e : H a = some (.ins C dx fs)) (c : Cls X.K C) (n : NoAttr X.K C f) (hl : fs.length < 1000) (ry : RelV y u)
    (h : ∀ s', Inv X pins σ (upd H a (.ins C dx (putF f y fs))) s' → Q () s') : wpAny (model X.prog X.w) A (setAttr (.ref a) f u) Q E s := by
  obtain ⟨mA, O, r, wi, _, ho⟩ := ins_get I.hok e
  have hz : (fs.map (·.1)).length ≤ sizeLine := by rw [List.length_map, sizeLine_eq]; omega
  refine set_map I.kIn O c.sa c.po n.taker c.hd wi hz fun h' O' sb => h _ ?_
  have hd : ∃ o, h'.get? dx = some o := let ⟨o, _, _, e', _⟩ := O'.ns; ⟨o, e'⟩
  refine I.write (x := a) (e := dx) (by rw [e]; exact True.intro) (.inr ho) (fun b q hb z => (sb.2 b hb).trans z) hd ?_
  refine ⟨by rw [upd_ne O.ne]; exact ho, ?_, O.ne, O'.obj, _, O'.ns, fun g => ?_, fun g hg => ?_⟩
  · have := length_putF f y fs; omega
  · show RelO ((putF f y fs).lookup g) (if g = f then some u else mA g)
    rw [lookup_putF]
    by_cases q : g = f
    · rw [if_pos q, if_pos q]; exact ry
    · rw [if_neg q, if_neg q]; exact r g
  · by_cases q : g = f
    · rw [q]; exact (keys_putF f y fs).1
    · refine (keys_putF f y fs).2 g (wi g fun z => hg ?_)
      show (if g = f then some u else mA g) = none
      rw [if_neg q]; exact z

/-- a new instance, tracked, without attributes -/
theorem Inv.made (I : Inv X pins σ H s) : Inv X pins σ (upd (upd H s.heap.objs.size (.own (s.heap.objs.size + 1))) (s.heap.objs.size + 1) (.ins C s.heap.objs.size []))
    { s with heap := (s.heap.push PySem.W.emptyDict).push (PySem.W.instObj C s.heap.objs.size) } := by
  have e1 : (s.heap.push PySem.W.emptyDict).get? s.heap.objs.size = some PySem.W.emptyDict := Heap.get?_push_size s.heap rfl
  have e2 : ((s.heap.push PySem.W.emptyDict).push (PySem.W.instObj C s.heap.objs.size)).get? (s.heap.objs.size + 1) = some (PySem.W.instObj C s.heap.objs.size) := by
    have := Heap.get?_push_size (s.heap.push PySem.W.emptyDict) (o := PySem.W.instObj C s.heap.objs.size) rfl
    rwa [Heap.size_push] at this
  have e3 : (s.heap.push PySem.W.emptyDict).Ns s.heap.objs.size (fun _ => none) := ⟨PySem.W.emptyDict, #[], _, e1, rfl, (fun e he => absurd he (by simp)), fun _ => rfl⟩
  have I1 := I.laid (a := s.heap.objs.size) (o := .own (s.heap.objs.size + 1)) (h' := s.heap.push PySem.W.emptyDict) (t' := s.toks) (fun b u q => Heap.get?_push_of_some _ q) (Nat.le_refl _) ⟨_, e1⟩
  refine I1.laid (a := s.heap.objs.size + 1) (o := .ins C s.heap.objs.size []) (t' := s.toks) (fun b u q => Heap.get?_push_of_some _ q) (Nat.le_of_eq (Heap.size_push _ _)) ?_
  have ne : s.heap.objs.size ≠ s.heap.objs.size + 1 := Nat.ne_of_lt (Nat.lt_succ_self _)
  refine ⟨by rw [upd_ne ne, upd_same], Nat.zero_le _, ne, e2, fun _ => none, (Heap.Ns1.of_empty e3).at fun o q => Heap.get?_push_of_some _ q, fun _ => True.intro, fun y hy => absurd rfl hy⟩

/-- e.f where nothing but the object is asked: through attributeBase (super) and the last hold -/
theorem attr_of {prog : Program} {w : World} {env : Env} {e : Expr} {f : Str} {pos : Pos} {s : Shared} {Q : Value → Shared → Prop} (hb : attributeBase e f env (eval e env) = eval e env)
    (h : wpAny (model prog w) A (eval e env) (fun o s₁ => wpAny (model prog w) A (getAttr o f true) Q E s₁) E s) : wpAny (model prog w) A (eval (.Attribute e f pos) env) Q E s :=
  Attribute_any_ h (by rw [arm_eval_Attribute, hb])
end

/-! ### readings and rules -/
/-- e.f, an attribute of the instance -/
def tFld (K : PySem.W.Frag) (ta : TE) (f : Str) : TE := fun σ H Q => ta σ H fun x H1 => ∃ a C dx fs v, x = .ref a ∧ H1 a = some (.ins C dx fs) ∧ Cls K C ∧ NoAttr K C f ∧ fs.lookup f = some v ∧ Q v H1
/-- e.f = value -/
def sFld (K : PySem.W.Frag) (ta tv : TE) (f : Str) : TS := fun D σ H => tv σ H fun y H1 => ta σ H1 fun x H2 => ∃ a C dx fs, x = .ref a ∧ H2 a = some (.ins C dx fs) ∧ Cls K C ∧ NoAttr K C f ∧ fs.length < 1000 ∧
  D.nx σ (upd H2 a (.ins C dx (putF f y fs)))
section
variable {X : Cx} {o e value : Expr} {f : Str} {pos pos' tpos : Pos} {ta tv : TE}
theorem pe_fld (he : PE X e ta) (hb : attributeBase e f X.env (eval e X.env) = eval e X.env) : PE X (.Attribute e f pos) (tFld X.K ta f) := by
  intro pins s σ H Q I h
  refine attr_of hb (thn (he pins s σ H _ I h) fun u s1 ⟨x, H1, I1, rx, a, C, dx, fs, v, ex, ea, c, n, l, q⟩ => ?_)
  subst ex
  obtain rfl : u = Value.ref a := rx
  exact getattr_ok I1 ea c n l fun u' s2 I2 ru => ⟨v, H1, I2, ru, q⟩
theorem ps_fld (ha : PE X o ta) (hv : PE X value tv) (hs : swapsWith value (some (.Attribute o f pos')) pos.line X.env = pure false) : PS X (.Assign [.Attribute o f pos'] value pos) (sFld X.K ta tv f) := by
  intro pins s σ H D I h
  refine plainObj_wpAny_Assign_Attribute (thn (hv pins s σ H _ I h) fun u s1 ⟨y, H1, I1, ry, q⟩ => thn (ha pins s1 σ H1 _ I1 q) fun ov s2 ⟨x, H2, I2, rx, a, C, dx, fs, ex, ea, c, n, l, q2⟩ => ?_) hs
  subst ex
  obtain rfl : ov = Value.ref a := rx
  exact setattr_ok I2 ea c n l ry fun s3 I3 => ⟨σ, _, I3, q2⟩
end

/-! ### isinstance -/
section
variable {X : Cx} {pins : List (Addr × Obj)} {σ : St} {H : Hp} {s : Shared} {A : Around} {E : Value → Shared → Prop} {Q : Value → Shared → Prop} {c : Value} {b : Bool}
/-- the type of a value, as the fragment's deciders take it; for an instance its class -/
inductive TyOf (K : PySem.W.Frag) (H : Hp) : V → Value → Prop where
  | non : TyOf K H .non (.type "NoneType")
  | bl (x : Bool) : TyOf K H (.bl x) (.type "bool")
  | int (i : Int) : TyOf K H (.int i) (.type "int")
  | str (x : Str) : TyOf K H (.str x) (.type "str")
  | flt (x : UInt64) : TyOf K H (.flt x) (.type "float")
  | lst {a : Addr} {xs : List V} (e : H a = some (.lst xs)) : TyOf K H (.ref a) (.type "list")
  | frz {a : Addr} {o : Obj} {xs : List V} (e : H a = some (.frz o (.lst xs))) : TyOf K H (.ref a) (.type "list")
  | tup {a : Addr} {xs : List V} (e : H a = some (.tup xs)) : TyOf K H (.ref a) (.type "tuple")
  | dK {a : Addr} {kvs : List (Key × V)} (e : H a = some (.dK kvs)) : TyOf K H (.ref a) (.type "dict")
  | dT {a : Addr} {kvs : List (List Key × V)} (e : H a = some (.dT kvs)) : TyOf K H (.ref a) (.type "dict")
  | ins {a C dx : Addr} {fs : List (Str × V)} (e : H a = some (.ins C dx fs)) (cl : Cls K C) (ha : PySem.W.findIn K (.ref C) "__class__" = some (some (.builtin "object.__class__")))
      (hn : PySem.W.specialIn K (.builtin "object.__class__") "__get__" = some (some (.builtin "getset_descriptor.__get__"))) (htk : PySem.W.takesIn K (.builtin "object.__class__") = some true)
      (hm : PySem.W.mroIn K C (.type "object") = some true) : TyOf K H (.ref a) (.ref C)
/-- isinstance(x, c) for one class c, a built-in or an own one: kitOne's answer -/
theorem isinst_ok {x : V} {u t : Value} (I : Inv X pins σ H s) (rx : RelV x u) (ty : TyOf X.K H x t) (e : PySem.W.kitOne X.K t c = some b) (h : ∀ tk, Q (.bool b) { s with toks := tk }) :
    wpAny (model X.prog X.w) A (call (.builtin "isinstance") [u, c]) Q E s := by
  cases ty with
  | non => cases (show u = Value.none from rx); exact PySem.W.kia_one PySem.W.kitx_none I.kIn True.intro e (fun z => nomatch z) h
  | bl y => cases (show u = Value.bool y from rx); exact PySem.W.kia_one PySem.W.kitx_bool I.kIn True.intro e (fun z => nomatch z) h
  | int i => obtain ⟨t, q⟩ := (show ∃ t, u = Value.int i t from rx); cases q; exact PySem.W.kia_one PySem.W.kitx_int I.kIn True.intro e (fun z => nomatch z) h
  | str y => obtain ⟨t, q⟩ := (show ∃ t, u = Value.str y t from rx); cases q; exact PySem.W.kia_one PySem.W.kitx_str I.kIn True.intro e (fun z => nomatch z) h
  | flt y => obtain ⟨t, q⟩ := (show ∃ t, u = Value.float y t from rx); cases q; exact PySem.W.kia_one PySem.W.kitx_float I.kIn True.intro e (fun z => nomatch z) h
  | @lst a xs ea =>
    cases (show u = Value.ref a from rx)
    obtain ⟨_, _, n, _, h1⟩ := (show ObjOk X.prog X.w H s.heap a (.lst xs) from I.hok a _ ea)
    exact PySem.W.kia_one PySem.W.kitx_list I.kIn ⟨_, h1, rfl⟩ e (fun z => nomatch z) h
  | @frz a ob xs ea =>
    cases (show u = Value.ref a from rx)
    obtain ⟨_, _, _, n, _, h1⟩ := (show ObjOk X.prog X.w H s.heap a (.frz ob (.lst xs)) from I.hok a _ ea)
    exact PySem.W.kia_one PySem.W.kitx_list I.kIn ⟨_, h1, rfl⟩ e (fun z => nomatch z) h
  | @tup a xs ea =>
    cases (show u = Value.ref a from rx)
    obtain ⟨_, _, _, p⟩ := (show ObjOk X.prog X.w H s.heap a (.tup xs) from I.hok a _ ea)
    obtain ⟨o, h1, h2, _⟩ := p
    exact PySem.W.kia_one PySem.W.kitx_tuple I.kIn ⟨o, h1, h2⟩ e (fun z => nomatch z) h
  | @dK a kvs ea =>
    cases (show u = Value.ref a from rx)
    obtain ⟨_, _, vs, _, p⟩ := (show ObjOk X.prog X.w H s.heap a (.dK kvs) from I.hok a _ ea)
    obtain ⟨o, es, ep, h1, h2, _⟩ := p
    exact PySem.W.kia_one PySem.W.kitx_dict I.kIn ⟨o, h1, h2.1⟩ e (fun z => nomatch z) h
  | @dT a kvs ea =>
    cases (show u = Value.ref a from rx)
    obtain ⟨_, _, xs, _, o, es, ep, h1, h2, _⟩ := (show ObjOk X.prog X.w H s.heap a (.dT kvs) from I.hok a _ ea)
    exact PySem.W.kia_one PySem.W.kitx_dict I.kIn ⟨o, h1, h2.1⟩ e (fun z => nomatch z) h
  | @ins a C dx fs ea cl ha hn htk hm =>
    cases (show u = Value.ref a from rx)
    obtain ⟨mA, O, _⟩ := ins_get I.hok ea
    obtain ⟨od, J, _⟩ := O.look
    exact PySem.W.kia_one (PySem.W.kitx_own (cl.get _) cl.hd ha hn htk hm) I.kIn J e (fun z => nomatch z) h
end
end L2

namespace L2
open PySem PySem.Spec PyProof.Rows

/-! ### room -/
structure Room (k : Nat) (A : Around) : Prop where
  hd : A.handled = none
  dp : A.depth + 3 * k + 5 < recursionLimit
  un : A.units + 16 * k + 200 < cLine
theorem Room.mono {j k : Nat} {A : Around} (r : Room k A) (h : j ≤ k) : Room j A := ⟨r.hd, by have := r.dp; omega, by have := r.un; omega⟩
theorem Room.deeper {k : Nat} {A : Around} (r : Room (k + 1) A) (env : Env) : Room k (A.deeper env) :=
  ⟨r.hd, by have := r.dp; show A.depth + 1 + 3 * k + 5 < _; omega, by have := r.un; show A.units + 3 + 16 * k + 200 < _; omega⟩
theorem make_depth {A : Around} {C : Addr} {us : List Value} {kw : List (Str × Value)} : (A.under (.builtin "type.__call__" ⟨.ref C :: us, kw⟩)).depth = A.depth + 1 := by
  first | rfl | simp [Around.under, Code.weight, Code.isCreation, Code.isGuard, Code.isCaller, Code.frames, Code.isFrame, guardIds]
theorem make_units {A : Around} {C : Addr} {us : List Value} {kw : List (Str × Value)} : (A.under (.builtin "type.__call__" ⟨.ref C :: us, kw⟩)).units = A.units + 1 := by
  first | rfl | simp [Around.under, Code.cUnits, Code.frames, Code.isFrame]
theorem Room.make {k : Nat} {A : Around} (r : Room (k + 1) A) (C : Addr) (us : List Value) (kw : List (Str × Value)) : Room k (A.under (.builtin "type.__call__" ⟨.ref C :: us, kw⟩)) :=
  ⟨r.hd, by have := r.dp; rw [make_depth]; omega, by have := r.un; rw [make_units]; omega⟩
theorem Room.depth {k : Nat} {A : Around} (r : Room k A) : A.depth < recursionLimit := by have := r.dp; omega
theorem Room.units {k : Nat} {A : Around} (r : Room k A) : A.units + 64 < cLine := by have := r.un; omega
theorem Room.units0 {k : Nat} {A : Around} (r : Room k A) : A.units < cLine := by have := r.un; omega

/-! ### argument lists and displays -/
def tNil : TA := fun _ H Q => Q [] H
def tCons (ta : TE) (tr : TA) : TA := fun σ H Q => ta σ H fun x H1 => tr σ H1 fun xs H2 => Q (x :: xs) H2
section
variable {X : Cx} {e : Expr} {es : List Expr} {te : TE} {t : TA} {pos : Pos}
theorem pa_nil : PA X [] tNil := fun _ _ _ _ H Q I h => Calls.spliced_nil ⟨[], H, I, .nil, h⟩
theorem pa_cons (ha : PE X e te) (hr : PA X es t) (hs : starEach (e :: es) X.env = (false, eval e X.env) :: starEach es X.env := by rfl) : PA X (e :: es) (tCons te t) := by
  intro pos pins s σ H Q I h
  rw [hs]
  show wpAny _ _ (spliced ((false, eval e X.env) :: backTo pos (starEach es X.env))) _ _ s
  refine Calls.spliced_cons (thn (ha pins s σ H _ I h) fun u s1 ⟨x, H1, I1, r1, q1⟩ => ?_)
  exact thn (hr pos pins s1 σ H1 _ I1 q1) fun us s2 ⟨xs, H2, I2, r2, q2⟩ => ⟨x :: xs, H2, I2, .cons r1 r2, q2⟩

/-- a tuple, a list of written items -/
def tTup (t : TA) : TE := fun σ H Q => t σ H fun xs H1 => xs.length ≤ sizeLine ∧ ∀ p, H1 p = none → Q (.ref p) (upd H1 p (.tup xs))
def tLst (t : TA) : TE := fun σ H Q => t σ H fun xs H1 => xs.length ≤ sizeLine ∧ ∀ p, H1 p = none → Q (.ref p) (upd H1 p (.lst xs))
theorem pe_tup {x1} (h : PA X es t) : PE X (.Tuple es x1 pos) (tTup t) := by
  intro pins s σ H Q I hq
  refine wpAny_Tuple_spliced (thn (h pos pins s σ H _ I hq) fun us s1 ⟨xs, H1, I1, r, z, q⟩ => ⟨by rw [← r.length]; exact z, ?_⟩)
  have hf : H1 s1.heap.objs.size = none := I1.hok.fresh (Nat.le_refl _)
  refine ⟨.ref s1.heap.objs.size, upd H1 s1.heap.objs.size (.tup xs), I1.laid (t' := s1.toks) (fun b u e => Heap.get?_push_of_some _ e) (Nat.le_refl _) ?_, rfl, q _ hf⟩
  exact ⟨z, us, r, ⟨_, Heap.get?_push_size _ rfl, rfl, _, rfl⟩⟩
theorem pe_lst (h : PA X es t) : PE X (.List es pos) (tLst t) := by
  intro pins s σ H Q I hq
  refine wpAny_List_spliced (thn (h pos pins s σ H _ I hq) fun us s1 ⟨xs, H1, I1, r, z, q⟩ => ⟨by rw [← r.length]; exact z, ?_⟩)
  have hf : H1 s1.heap.objs.size = none := I1.hok.fresh (Nat.le_refl _)
  refine ⟨.ref s1.heap.objs.size, upd H1 s1.heap.objs.size (.lst xs), I1.laid (t' := s1.toks) (fun b u e => Heap.get?_push_of_some _ e) (Nat.le_refl _) ?_, rfl, q _ hf⟩
  exact ⟨z, us, 0, r, Heap.get?_push_size _ rfl⟩
end

/-! ### what a def promises -/
/-- a def's promise: the bound arguments in the parameters' order, the heap, the wanted end, the wanted exception -/
abbrev Sp := List V → Hp → VK → XK → Prop
/-- how an exception lies behind a call (file 08 gives it): the callers' frames, abstract heap and state ahead of the call, the wish, the exception, the state -/
abbrev CXT := List Env → Hp → Shared → XK → Value → Shared → Prop

/-- the state at a call -/
structure Env0 (P : Program) (w : World) (K : PySem.W.Frag) (mg : Str → Option Value) (base : Heap) (A : Around) (outer : List Env) (s : Shared) (H : Hp) : Prop where
  frames : A.frames = some outer
  mod : Mod K mg base
  bs : ∀ b o, base.get? b = some o → s.heap.get? b = some o ∧ H b = none
  bsz : base.objs.size ≤ s.heap.objs.size
  funs : s.heap.FunFrames base outer
  frf : ∀ b ∈ frs outer, H b = none
  hok : HOk P w H s.heap
  bare : AllBare s.gens
/-- a call's end -/
def CE (outer : List Env) (P : Program) (w : World) (H : Hp) (s : Shared) (Q : VK) (u : Value) (s' : Shared) : Prop :=
  ∃ v H', s'.os = s.os ∧ AllBare s'.gens ∧ Un (frs outer) [] H H' s.heap s'.heap ∧ HOk P w H' s'.heap ∧ RelV v u ∧ Q v H'
def CR (CX : CXT) (outer : List Env) (P : Program) (w : World) (H : Hp) (s : Shared) (Q : VK) (E : XK) (r : Result) (s' : Shared) : Prop :=
  match r with
  | .ok (.ret u) => CE outer P w H s Q u s'
  | .ok _ => False
  | .error e => CX outer H s E e s'
structure FnOk (P : Program) (w : World) (K : PySem.W.Frag) (mg : Str → Option Value) (base : Heap) (CX : CXT) (k : Nat) (f : Addr) (fd : FuncData) (ps : List Str) (sp : Sp) : Prop where
  len : ∀ vs H Q E, sp vs H Q E → vs.length = ps.length
  run : ∀ (A : Around) (outer : List Env) (s : Shared) (H : Hp) (args : Args) (us : List Value) (vs : List V) (Q : VK) (E : XK), Room k A → Env0 P w K mg base A outer s H → BindsTo s fd args (ps.zip us) → Vals vs us → sp vs H Q E →
    codeAny (model P w) A (.call (.ref f) args) (CR CX outer P w H s Q E) s
theorem Env0.make {P : Program} {w : World} {K : PySem.W.Frag} {mg : Str → Option Value} {base : Heap} {A : Around} {outer : List Env} {s : Shared} {H : Hp} (e : Env0 P w K mg base A outer s H) (C : Addr) (us : List Value) (kw : List (Str × Value)) :
    Env0 P w K mg base (A.under (.builtin "type.__call__" ⟨.ref C :: us, kw⟩)) outer s H := ⟨by first | exact e.frames | (simpa [Around.under, Code.envs, Code.isFrame, pushEnvs] using e.frames), e.mod, e.bs, e.bsz, e.funs, e.frf, e.hok, e.bare⟩
section
variable {X : Cx} {pins : List (Addr × Obj)} {σ : St} {H : Hp} {s s' : Shared}
/-- from a body: what a callee wants -/
theorem Inv.env0 (I : Inv X pins σ H s) : Env0 X.prog X.w X.K X.mg X.base X.A X.stack s H :=
  ⟨I.ok.frames, I.ok.mod, I.bs, Nat.le_trans I.ok.bsz I.sz, I.stack, I.stkFree, I.hok, I.bare⟩
/-- behind a call -/
theorem Inv.after {Q : VK} {u : Value} (I : Inv X pins σ H s) (h : CE X.stack X.prog X.w H s Q u s') : EP X pins σ Q u s' := by
  obtain ⟨v, H', os, bare, un, hok, r, q⟩ := h
  obtain ⟨hh, g, d, t, os'⟩ := s'
  obtain rfl : os' = s.os := os
  exact ⟨v, H', I.call (h' := hh) (g' := g) (d' := d) (t' := t) (ch := []) un hok bare (fun b z => absurd z (by simp)), r, q⟩
end

/-! ### calls -/
/-- f(..): the written arguments, then the defaults dvs; E: what is wanted of an exception -/
def tCall (sp : Sp) (dvs : List V) (E : XK) (t : TA) : TE := fun σ H Q => t σ H fun vs H1 => sp (vs ++ dvs) H1 Q E
/-- C(..): a new instance and its dict, then __init__ -/
def tMake (C : Addr) (sp : Sp) (dvs : List V) (E : XK) (t : TA) : TE := fun σ H Q => t σ H fun vs H1 => ∀ x dx, H1 x = none → H1 dx = none → dx ≠ x →
  sp (.ref x :: (vs ++ dvs)) (upd (upd H1 dx (.own x)) x (.ins C dx [])) (fun v H2 => v = .non ∧ Q (.ref x) H2) E

/-- how the parameters are bound: us the positional arguments, kw the keywords' values by name, ds the defaults that fill up -/
def Binds (K : PySem.W.Frag) (fd : FuncData) (ps : List Str) (ds : List Value) : Prop :=
  ∀ (s : Shared) (us : List Value), K.In s.heap → (us ++ ds).length = ps.length → BindsTo s fd ⟨us, []⟩ (ps.zip (us ++ ds))
/-- every parameter is given -/
theorem Binds.all {K : PySem.W.Frag} {fd : FuncData} {ps : List Str} (h : ∀ us : List Value, us.length = ps.length → bindArgs fd ⟨us, []⟩ = pure (ps.zip us)) : Binds K fd ps [] := fun s us _ hl => by
  rw [List.append_nil] at hl ⊢
  exact .of_eq (h us hl)

/-- an exception of a callee reaches what this body wants of exceptions -/
def Passes (CX : CXT) (X : Cx) (E : XK) : Prop := ∀ (pins : List (Addr × Obj)) (σ : St) (H : Hp) (s : Shared) (e : Value) (s' : Shared), Inv X pins σ H s → CX X.stack H s E e s' → X.xe e s'

section
variable {X : Cx} {CX : CXT} {k : Nat} {f C : Addr} {fd : FuncData} {ps : List Str} {sp : Sp} {dvs : List V} {ds : List Value} {E : XK} {x m : Str} {p pos apos : Pos} {e o : Expr} {es : List Expr} {ta : TE} {t : TA}

/-- the callee runs -/
theorem run_fn {pins : List (Addr × Obj)} {σ : St} {H : Hp} {s : Shared} {Q : VK} {us : List Value} {vs : List V} (F : FnOk X.prog X.w X.K X.mg X.base CX k f fd ps sp) (hr : Room k X.A) (hb : Binds X.K fd ps ds) (hd : Vals dvs ds) (hx : Passes CX X E)
    (I : Inv X pins σ H s) (r : Vals vs us) (h : sp (vs ++ dvs) H Q E) : wpAny (model X.prog X.w) X.A (call (.ref f) us) (EP X pins σ Q) X.xe s := by
  have r2 : Vals (vs ++ dvs) (us ++ ds) := r.append hd
  have hl : (us ++ ds).length = ps.length := by rw [← r2.length]; exact F.len _ _ _ _ h
  refine wpAny_call (codeAny_mono (F.run X.A X.stack s H ⟨us, []⟩ (us ++ ds) (vs ++ dvs) Q E hr I.env0 (hb s us I.kIn hl) r2 h) fun r s' hq => ?_)
  cases r with
  | error e => exact hx pins σ H s e s' I hq
  | ok fl =>
    cases fl with
    | ret u => exact I.after hq
    | next => exact False.elim hq
    | brk => exact False.elim hq
    | cont => exact False.elim hq

theorem pe_call (F : FnOk X.prog X.w X.K X.mg X.base CX k f fd ps sp) (hr : Room k X.A) (hg : Gl X x) (hm : X.mg x = some (.ref f)) (hk : PySem.W.keepIn X.K (.ref f) = true) (hb : Binds X.K fd ps ds) (hd : Vals dvs ds) (hx : Passes CX X E)
    (ha : PA X (e :: es) t) (hdb : (x == ("__debug__" : Str)) = false := by decide) (he : starEach (e :: es) X.env = (false, eval e X.env) :: starEach es X.env := by rfl) (hpl : (backTo pos (starEach es X.env)).any (·.1) = false := by rfl) :
    PE X (.Call (.Name x p) (e :: es) [] pos) (tCall sp dvs E t) := by
  intro pins s σ H Q I h
  refine wpAny_Call_Name_kw (ld_glob I hg hm ?_ hdb)
  refine PySem.W.callWith_K (h₀ := X.base) I.ok.mod.kin hk (thn (ha pos pins s σ H _ I h) fun us s1 ⟨vs, H1, I1, r, q⟩ => ⟨I1.kIn, ?_⟩) he hpl
  exact run_fn F hr hb hd hx I1 r q
/-- what a class must have to be made -/
structure Mk (K : PySem.W.Frag) (C f : Addr) : Prop where
  makes : PySem.W.makesIn K C = true
  init : PySem.W.findIn K (.ref C) "__init__" = some (some (.ref f))
  fn : PySem.W.isFn K (.ref f) = true
  kp : PySem.W.keepIn K (.ref C) = true

theorem run_make {pins : List (Addr × Obj)} {σ : St} {H : Hp} {s : Shared} {Q : VK} {us : List Value} {vs : List V} (M : Mk X.K C f) (F : FnOk X.prog X.w X.K X.mg X.base CX k f fd ps sp) (hr : Room (k + 1) X.A) (hb : Binds X.K fd ps ds) (hd : Vals dvs ds)
    (hx : Passes CX X E) (I : Inv X pins σ H s) (r : Vals vs us)
    (h : ∀ x dx, H x = none → H dx = none → dx ≠ x → sp (.ref x :: (vs ++ dvs)) (upd (upd H dx (.own x)) x (.ins C dx [])) (fun v H2 => v = .non ∧ Q (.ref x) H2) E) :
    wpAny (model X.prog X.w) X.A (call (.ref C) us) (EP X pins σ Q) X.xe s := by
  have hq := h (s.heap.objs.size + 1) s.heap.objs.size (I.hok.fresh (Nat.le_succ _)) (I.hok.fresh (Nat.le_refl _)) (Nat.ne_of_lt (Nat.lt_succ_self _))
  have I2 := Inv.made (C := C) I
  have r2 : Vals (V.ref (s.heap.objs.size + 1) :: (vs ++ dvs)) (Value.ref (s.heap.objs.size + 1) :: (us ++ ds)) := .cons rfl (r.append hd)
  have hl : (Value.ref (s.heap.objs.size + 1) :: us ++ ds).length = ps.length := by
    have e := r2.length
    rw [F.len _ _ _ _ hq] at e
    exact e.symm
  refine wpAny_call (make_map (f := f) I.kIn M.makes M.init (beq_iff_eq.mp M.fn) (codeAny_mono (F.run _ X.stack _ _ ⟨Value.ref (s.heap.objs.size + 1) :: us, []⟩ (Value.ref (s.heap.objs.size + 1) :: (us ++ ds)) _ _ E (hr.make C us [])
    (I2.env0.make C us []) (hb _ (Value.ref (s.heap.objs.size + 1) :: us) I2.kIn hl) r2 hq) fun r s' hq' => ?_))
  cases r with
  | error e => exact hx pins σ _ _ e s' I2 hq'
  | ok fl =>
    cases fl with
    | ret u =>
      obtain ⟨v, H', I3, rv, ev, q3⟩ := I2.after hq'
      subst ev
      exact ⟨rv, ⟨V.ref (s.heap.objs.size + 1), H', I3, rfl, q3⟩⟩
    | next => exact False.elim hq'
    | brk => exact False.elim hq'
    | cont => exact False.elim hq'
theorem pe_make0 (M : Mk X.K C f) (F : FnOk X.prog X.w X.K X.mg X.base CX k f fd ps sp) (hr : Room (k + 1) X.A) (hg : Gl X x) (hm : X.mg x = some (.ref C)) (hb : Binds X.K fd ps ds) (hd : Vals dvs ds) (hx : Passes CX X E)
    (hdb : (x == ("__debug__" : Str)) = false := by decide) : PE X (.Call (.Name x p) [] [] pos) (tMake C sp dvs E tNil) := by
  intro pins s σ H Q I h
  refine wpAny_Call_Name_kw (ld_glob I hg hm ?_ hdb)
  exact PySem.W.callWith_K0 I.kIn M.kp (run_make (us := []) M F hr hb hd hx I .nil h)
end

/-! ### keywords -/
section
variable {X : Cx} {CX : CXT} {k : Nat} {f C : Addr} {fd : FuncData} {ps ks : List Str} {sp : Sp} {E : XK} {x m : Str} {p pos apos kpos : Pos} {e o : Expr} {es : List Expr} {kws : List Keyword} {te ta : TE} {t tk : TA} {nm : Option Str}
variable {g : List Value → List Value → List Value} {gV : List V → List V → List V}
end

/-! ### a def's body keeps its promise -/
/-- names: the parameters first -/
structure FnScope (N P : List Str) (sc : Scope) : Prop where
  kind : sc.kind = .function
  co : sc.isCoroutine = false
  gen : sc.isGenerator = false
  nd : N.Nodup
  pre : N.take P.length = P
  par : ∀ x ∈ P, sc.names.lookup x = some .local ∨ sc.names.lookup x = some .cell
  nofree : ∀ y ∈ sc.names, y.2 ≠ .free

theorem bindL_out {kindOf : Str → Option NameKind} {x : Str} : ∀ {binds : List (Str × Value)} {m : Str → Option Value}, (∀ v, (x, v) ∉ binds) → bindL kindOf binds m x = m x
  | [], _, _ => rfl
  | (n, v) :: r, m, h => by
    unfold bindL
    rw [bindL_out fun w hw => h w (List.mem_cons_of_mem _ hw)]
    split
    · have : x ≠ n := by rintro rfl; exact h v List.mem_cons_self
      simp [this]
    · rfl
theorem bindC_out {kindOf : Str → Option NameKind} {x : Str} : ∀ {binds : List (Str × Value)} {m : Str → Option Value}, (∀ v, (x, v) ∉ binds) → bindC kindOf binds m x = m x
  | [], _, _ => rfl
  | (n, v) :: r, m, h => by
    unfold bindC
    rw [bindC_out fun w hw => h w (List.mem_cons_of_mem _ hw)]
    split
    · rfl
    · have : x ≠ n := by rintro rfl; exact h v List.mem_cons_self
      simp [this]
theorem bindL_get {kindOf : Str → Option NameKind} {x : Str} {v : Value} : ∀ {P : List Str} {vs : List Value} {i : Nat} {m : Str → Option Value}, P.Nodup → P[i]? = some x → vs[i]? = some v → kindOf x = some .local →
    bindL kindOf (P.zip vs) m x = some v
  | [], _, _, _, _, h, _, _ => by simp at h
  | _ :: _, [], _, _, _, _, h, _ => by simp at h
  | p :: P, w :: vs, 0, m, nd, h1, h2, hk => by
    simp at h1 h2; subst h1; subst h2
    show bindL kindOf ((p, w) :: P.zip vs) m p = _
    unfold bindL
    rw [bindL_out fun v hv => (List.nodup_cons.mp nd).1 (List.of_mem_zip hv).1, if_pos hk]
    simp
  | p :: P, w :: vs, i + 1, m, nd, h1, h2, hk => by
    show bindL kindOf ((p, w) :: P.zip vs) m x = _
    unfold bindL
    exact bindL_get (i := i) (List.nodup_cons.mp nd).2 (by simpa using h1) (by simpa using h2) hk
theorem bindC_get {kindOf : Str → Option NameKind} {x : Str} {v : Value} : ∀ {P : List Str} {vs : List Value} {i : Nat} {m : Str → Option Value}, P.Nodup → P[i]? = some x → vs[i]? = some v → kindOf x ≠ some .local →
    bindC kindOf (P.zip vs) m x = some v
  | [], _, _, _, _, h, _, _ => by simp at h
  | _ :: _, [], _, _, _, _, h, _ => by simp at h
  | p :: P, w :: vs, 0, m, nd, h1, h2, hk => by
    simp at h1 h2; subst h1; subst h2
    show bindC kindOf ((p, w) :: P.zip vs) m p = _
    unfold bindC
    rw [bindC_out fun v hv => (List.nodup_cons.mp nd).1 (List.of_mem_zip hv).1, if_neg hk]
    simp
  | p :: P, w :: vs, i + 1, m, nd, h1, h2, hk => by
    show bindC kindOf ((p, w) :: P.zip vs) m x = _
    unfold bindC
    exact bindC_get (i := i) (List.nodup_cons.mp nd).2 (by simpa using h1) (by simpa using h2) hk

/-- the names' values at the entry -/
def start (N : List Str) (vs : List V) : St := vs.map some ++ List.replicate (N.length - vs.length) none

/-- the context of a def's body, at its entry; an exception leaves the frame, then lies as CX says -/
def cxOf (CX : CXT) (P : Program) (w : World) (K : PySem.W.Frag) (mg : Str → Option Value) (base : Heap) (N : List Str) (qual : Str) (scope : Scope) (f : Addr) (cd : Value) (A : Around) (outer : List Env) (s : Shared) (H : Hp) (E : XK) : Cx where
  prog := P
  w := w
  K := K
  mg := mg
  base := base
  A := A.deeper (envOfC qual scope s.heap.objs.size f cd)
  N := N
  s₀ := s
  H₀ := H
  env := envOfC qual scope s.heap.objs.size f cd
  outer := outer
  stack := envOfC qual scope s.heap.objs.size f cd :: outer
  ex := []
  calm := true
  fn := fun _ => true
  pn := []
  xe := fun e s' => wpAny (model P w) (A.deeper (envOfC qual scope s.heap.objs.size f cd)) (leaving (envOfC qual scope s.heap.objs.size f cd) e) (fun _ s'' => CX outer H s E e s'') (fun e' s'' => CX outer H s E e' s'') s'

theorem cell_has {sc : Scope} {n : Nat} {x : Str} (h : sc.names.lookup x = some .cell) : ∃ c, (cellsFrom n sc.names []).lookup x = some c := by
  have q := PySem.W.cellsFrom_some sc.names n [] (.inl h)
  exact Option.isSome_iff_exists.mp q

theorem inv_start {CX : CXT} {P : Program} {w : World} {K : PySem.W.Frag} {mg : Str → Option Value} {base : Heap} {N ps : List Str} {qual : Str} {scope : Scope} {f : Addr} {cd : Value} {A : Around} {outer : List Env} {s s1 : Shared} {H : Hp} {E : XK} {us : List Value} {vs : List V}
    (S : FnScope N ps scope) (hd : A.handled = none) (e0 : Env0 P w K mg base A outer s H) (hl : vs.length = ps.length) (r : Vals vs us)
    (x : InCallC s s.heap.objs.size (bindL (envOfC qual scope s.heap.objs.size f cd).kindOf (ps.zip us) fun _ => none) (cellsFrom (s.heap.objs.size + 1) scope.names []) (bindC (envOfC qual scope s.heap.objs.size f cd).kindOf (ps.zip us) fun _ => none) s1) :
    Inv (cxOf CX P w K mg base N qual scope f cd A outer s H E) [] (start N vs) H s1 := by
  have hpl : ps.length ≤ N.length := by have := congrArg List.length S.pre; rw [List.length_take] at this; omega
  obtain ⟨h1, tk, rfl, hk⟩ := x.done
  have noA : ∀ b : Addr, b ∉ (cxOf CX P w K mg base N qual scope f cd A outer s H E).ex := fun b z => absurd (show b ∈ ([] : List Addr) from z) (by simp)
  refine ⟨⟨e0.mod, S.kind, rfl, rfl, Nat.le_refl _, fun y z c h1 h2 => ?_, fun y hy => ?_, fun y c _ h => ?_, fun _ => hd, Around.frames_deeper e0.frames, .inr ⟨rfl, rfl⟩, fun b z => absurd z (noA b), e0.bs, e0.bsz, fun b _ _ => noA b, fun b z => absurd z (noA b), e0.funs, e0.frf⟩,
    rfl, e0.bare, Un.kept hk, ⟨_, x.toInCall.ns, fun i y v h1 h2 h3 => ?_⟩, fun y c h => ⟨_, x.cell y c h⟩, e0.hok.fresh (Nat.le_refl _), fun y c h => ?_, fun p hp => absurd (show p ∈ ([] : List (Addr × Obj)) from hp) (by simp), e0.hok.kept hk, ?_⟩
  · exact name_of_addr x.apart (PySem.mem_of_lookup h1) (PySem.mem_of_lookup h2)
  · have hy : scope.names.lookup y = some .cell ∨ scope.names.lookup y = some .free := hy
    rcases hy with hy | hy
    · exact cell_has hy
    · exact absurd rfl (S.nofree _ (PySem.mem_of_lookup hy))
  · exact Nat.le_of_lt (x.above y c (PySem.mem_of_lookup h))
  · have hi : i < vs.length := by
      unfold start at h2
      by_cases hi : i < vs.length
      · exact hi
      · rw [List.getElem?_append_right (by simpa using hi)] at h2
        rw [List.getElem?_replicate] at h2
        split at h2 <;> cases h2
    have ha : vs[i]? = some v := by
      unfold start at h2
      rw [List.getElem?_append_left (by simpa using hi), List.getElem?_map] at h2
      cases e : vs[i]? with
      | none => rw [e] at h2; cases h2
      | some a => rw [e] at h2; cases h2; rfl
    obtain ⟨u, hu, rv⟩ := r.get ha
    have hp : ps[i]? = some y := by
      rw [← S.pre, List.getElem?_take_of_lt (by omega)]; exact h1
    have ndP : ps.Nodup := by rw [← S.pre]; exact S.nd.sublist (List.take_sublist _ _)
    refine ⟨u, rv, ?_⟩
    rcases S.par y (List.mem_of_getElem? hp) with k | k
    · exact .inl ⟨k, bindL_get ndP hp hu k⟩
    · obtain ⟨c, e⟩ := cell_has (n := s.heap.objs.size + 1) k
      refine .inr ⟨.inl k, c, e, ?_⟩
      have q := x.cell y c e
      rw [bindC_get ndP hp hu (by show scope.names.lookup y ≠ _; rw [k]; decide)] at q
      exact q
  · exact e0.hok.fresh (Nat.le_of_lt (x.above y c (PySem.mem_of_lookup h)))
  · unfold start
    show _ = N.length
    rw [List.length_append, List.length_map, List.length_replicate]
    omega

/-- THE RULE: a def (or a method) of the text, by its body. The body's reading t is chosen for each entry; it is run at the parameters' values -/
theorem fn_of {CX : CXT} {P : Program} {w : World} {K : PySem.W.Frag} {mg : Str → Option Value} {base : Heap} {k : Nat} {f : Addr} {name qual : Str} {params : Arguments} {body : List Stmt} {scope : Scope} {dV kV doc pm cdv ct oc : Value} {an od : Option Addr}
    {osl : Array (Option Value)} {N ps : List Str} {sp : Sp} (lk : K.lookup f = some ⟨oc, od, .func (PySem.W.fnOf name qual params body scope dV kV doc pm an cdv ct), osl⟩) (hcd : PySem.W.codeIn K cdv qual = true) (S : FnScope N ps scope)
    (len : ∀ vs H Q E, sp vs H Q E → vs.length = ps.length)
    (hbody : ∀ (A : Around) (outer : List Env) (s : Shared) (H : Hp) (vs : List V) (Q : VK) (E : XK), Room k (A.deeper (envOfC qual scope s.heap.objs.size f cdv)) → sp vs H Q E →
      ∃ t, PSs (cxOf CX P w K mg base N qual scope f cdv A outer s H E) body t ∧ t { nx := fun _ H' => Q .non H', rt := Q } (start N vs) H) :
    FnOk P w K mg base CX (k + 1) f (PySem.W.fnOf name qual params body scope dV kV doc pm an cdv ct) ps sp := by
  refine ⟨len, fun A outer s H args us vs Q E hr e0 hb r hsp => ?_⟩
  have hl := len _ _ _ _ hsp
  have KX : K.In s.heap := e0.mod.kin.keeps fun b o e => (e0.bs b o e).1
  have lim : s.heap.NoLimit := e0.mod.nolimit.keeps fun b o e => (e0.bs b o e).1
  have hkind : ∀ y ∈ ps.zip us, scope.names.lookup y.1 = some .local ∨ (scope.names.lookup y.1 = some .cell ∧ ((cellsFrom (s.heap.objs.size + 1) scope.names []).lookup y.1).isSome = true) := fun ⟨n, v⟩ hy => by
    rcases S.par n (List.of_mem_zip hy).1 with q | q
    · exact .inl q
    · exact .inr ⟨q, PySem.W.cellsFrom_some _ _ _ (.inl q)⟩
  refine codeAny_call_function hr.depth (KX _ _ lk) rfl S.co S.gen rfl (PySem.W.codeRec_of KX hcd) (hb _ _ _ _ ?_)
  refine wpAny_newFunctionEnv_cells S.kind hkind fun env he s1 x => ?_
  subst he
  refine ⟨lim.keeps x.toInCall.keep, codeAny_func ?_⟩
  obtain ⟨t, ht, hq⟩ := hbody A outer s H vs Q E (hr.deeper _) hsp
  have I : Inv (cxOf CX P w K mg base N qual scope f cdv A outer s H E) [] (start N vs) H s1 := inv_start S hr.hd e0 hl r x
  refine wpAny_mono (ht [] s1 (start N vs) H _ I hq) (fun fl s' hs => ?_) fun e s' hs => hs
  have fin : ∀ {σ' : St} {H' : Hp} {v : V} {u : Value}, Inv (cxOf CX P w K mg base N qual scope f cdv A outer s H E) [] σ' H' s' → RelV v u → Q v H' → CE outer P w H s Q u s' :=
    fun {σ' H' v u} J rv q => ⟨v, H', J.os, J.bare, J.base, J.hok, rv, q⟩
  cases fl with
  | ret u =>
    obtain ⟨v, σ', H', J, rv, q⟩ := hs
    exact fin J rv q
  | next =>
    obtain ⟨σ', H', J, q⟩ := hs
    exact fin (v := V.non) (u := Value.none) J rfl q
  | brk =>
    obtain ⟨_, _, _, q⟩ := hs
    exact False.elim q
  | cont =>
    obtain ⟨_, _, _, q⟩ := hs
    exact False.elim q
end L2

namespace L2
open PySem PySem.Spec PyProof.Rows
section
variable {X : Cx} {x : Str} {p pos : Pos} {e : Expr} {es : List Expr} {t : TA} {id T : String} {r : List V → Hp → VK → Prop}

def tCB (r : List V → Hp → VK → Prop) (t : TA) : TE := fun σ H Q => t σ H fun vs H1 => r vs H1 Q
/-- f(e, ..), f a built-in function -/
theorem pe_callB (hc : CallR X (.builtin id) r) (hg : Gl X x) (hm : X.mg x = none) (hv : bootBuiltins x = some (.builtin id)) (ha : PA X (e :: es) t) (hn : x ≠ "__name__" := by decide) (hdb : (x == ("__debug__" : Str)) = false := by decide)
    (he : starEach (e :: es) X.env = (false, eval e X.env) :: starEach es X.env := by rfl) (hpl : (backTo pos (starEach es X.env)).any (·.1) = false := by rfl) : PE X (.Call (.Name x p) (e :: es) [] pos) (tCB r t) := by
  intro pins s σ H Q I h
  refine wpAny_Call_Name_kw (ld_blt I hg hm hv ?_ hn hdb)
  exact PyProof.Rows.callWith_builtin1 (thn (ha pos pins s σ H _ I h) fun us s1 ⟨vs, H1, I1, r1, q1⟩ => hc pins s1 σ H1 vs us Q I1 r1 q1) he hpl
/-- T(e, ..), T a built-in type -/
theorem pe_callTy (hc : CallR X (.type T) r) (hg : Gl X x) (hm : X.mg x = none) (hv : bootBuiltins x = some (.type T)) (ha : PA X (e :: es) t) (hn : x ≠ "__name__" := by decide) (hdb : (x == ("__debug__" : Str)) = false := by decide)
    (he : starEach (e :: es) X.env = (false, eval e X.env) :: starEach es X.env := by rfl) (hpl : (backTo pos (starEach es X.env)).any (·.1) = false := by rfl) : PE X (.Call (.Name x p) (e :: es) [] pos) (tCB r t) := by
  intro pins s σ H Q I h
  refine wpAny_Call_Name_kw (ld_blt I hg hm hv ?_ hn hdb)
  exact PyProof.Rows.callWith_type1 (thn (ha pos pins s σ H _ I h) fun us s1 ⟨vs, H1, I1, r1, q1⟩ => hc pins s1 σ H1 vs us Q I1 r1 q1) he hpl
end
end L2

namespace HT
open PySem PyProof.Rows

section
open PySem.SeqAt
open PySem.AutoSeq1 (wpAny_loadPart')
open PySem.MeetsSeq PySem.MeetsSeq2 PySem.MeetsSeq3

end

section
variable {prog : Program} {w : World} {A : Around} {E : Value → Shared → Prop} {s : Shared}

/-! ### t[a:b], not the whole -/
/-- a slice's bound as a place among n (d where it is left out) -/
def sIx (n d : Nat) : Option Int → Nat
  | none => d
  | some v => if v < 0 then (v + (n : Int)).toNat else min v.toNat n
end
end HT

namespace L2
open PySem PySem.Spec PyProof.Rows

/-! ### the parts of a slice -/
abbrev TO := St → Hp → (Option Int → Hp → Prop) → Prop
/-- a slice's part (left out, or an int) -/
def PO (X : Cx) (e : Option Expr) (t : TO) : Prop :=
  ∀ (pins : List (Addr × Obj)) (s : Shared) (σ : St) (H : Hp) (Q : Option Int → Hp → Prop), Inv X pins σ H s → t σ H Q →
    wpAny (model X.prog X.w) X.A (evalPart e X.env) (fun u s' => ∃ o H', Inv X pins σ H' s' ∧ IsPart u o ∧ Q o H') X.xe s
def tNoPart : TO := fun _ H Q => Q none H
def tPart (t : TE) : TO := fun σ H Q => t σ H fun x H1 => ∃ i, x = .int i ∧ Q (some i) H1

section
variable {X : Cx} {e : Expr} {te : TE} {lo hi : Option Expr} {tl th : TO} {pos p2 : Pos}

theorem po_none : PO X none tNoPart := by
  intro pins s σ H Q I h
  rw [evalPart_none]
  exact wpAny_pure ⟨none, H, I, .none, h⟩
theorem po_some (h : PE X e te) : PO X (some e) (tPart te) := by
  intro pins s σ H Q I hw
  rw [evalPart_some]
  refine thn (h pins s σ H _ I hw) fun u s1 ⟨x, H1, I1, r1, q1⟩ => ?_
  obtain ⟨i, rfl, q⟩ := q1
  obtain ⟨t, rfl⟩ := r1
  exact ⟨some i, H1, I1, .int i t, q⟩

/-- what a slice of a value is, by values: the slice object stands at sl -/
def SlR (X : Cx) (r : V → Option Int → Option Int → Hp → VK → Prop) : Prop :=
  ∀ (pins : List (Addr × Obj)) (s : Shared) (σ : St) (H : Hp) (x : V) (v vl vu : Value) (lo hi : Option Int) (sl : Addr) (Q : VK), Inv X pins σ H s → RelV x v → s.heap.IsSliceOf sl vl vu .none → IsPart vl lo → IsPart vu hi → r x lo hi H Q →
    ∃ T id, typeLookup (.type T) "__getitem__" = pure (some (.builtin id)) ∧ s.TypeIs v T ∧ wpAny (model X.prog X.w) X.A (getItem v (.ref sl)) (EP X pins σ Q) X.xe s
def tSl (r : V → Option Int → Option Int → Hp → VK → Prop) (te : TE) (tl th : TO) : TE := fun σ H Q => te σ H fun x H1 => tl σ H1 fun l H2 => th σ H2 fun u H3 => r x l u H3 Q
/-- a[lo:hi], any a -/
theorem pe_slice {r : V → Option Int → Option Int → Hp → VK → Prop} (hr : SlR X r) (he : PE X e te) (hl : PO X lo tl) (hu : PO X hi th) : PE X (.Subscript e (.Slice lo hi none p2) pos) (tSl r te tl th) := by
  intro pins s σ H Q I h
  refine Subscript_ (thn (he pins s σ H _ I h) fun v s1 ⟨x, H1, I1, r1, q1⟩ => ?_)
  refine wpAny_Slice (thn (hl pins s1 σ H1 _ I1 q1) fun vl s2 ⟨l, H2, I2, pl, q2⟩ => thn (hu pins s2 σ H2 _ I2 q2) fun vu s3 ⟨u, H3, I3, pu, q3⟩ => ?_)
  rw [evalPart_none]
  refine wpAny_pure ?_
  have I4 : Inv X pins σ H3 { s3 with heap := s3.heap.push { cls := .type "slice", data := .fields #[vl, vu, .none] } } := I3.kept (t' := s3.toks) fun b ob q => Heap.get?_push_of_some _ q
  obtain ⟨T, id, hT, ht, hg⟩ := hr pins { s3 with heap := s3.heap.push { cls := .type "slice", data := .fields #[vl, vu, .none] } } σ H3 x v vl vu l u s3.heap.objs.size Q I4 r1 (Heap.IsSliceOf.new ..) pl pu q3
  show wpAny (model X.prog X.w) X.A (subscriptTail e (.Slice lo hi none p2) v (.ref s3.heap.objs.size)) (EP X pins σ Q) X.xe { s3 with heap := s3.heap.push { cls := .type "slice", data := .fields #[vl, vu, .none] } }
  exact tail_any (ops := [.ref s3.heap.objs.size, v]) ht hT hg (by with_unfolding_all rfl)

/-- the items of xs[lo:hi] -/
def cutV (xs : List V) (lo hi : Option Int) : List V := (xs.drop (HT.sIx xs.length 0 lo)).take (HT.sIx xs.length xs.length hi - HT.sIx xs.length 0 lo)
theorem cutV_length (xs : List V) (lo hi : Option Int) : (cutV xs lo hi).length ≤ xs.length := by
  unfold cutV
  rw [List.length_take, List.length_drop]
  omega
/-! ### t < u, t + u -/
end
end L2

namespace L2
open PySem PySem.Spec PyProof.Rows

/-! ### places -/
/-- the place that an index of any sign means -/
def ixN (n : Nat) (i : Int) : Option Nat := if 0 ≤ i then (if i < n then some i.toNat else none) else if -(n : Int) ≤ i then some (i + n).toNat else none
def atI {α : Type} (xs : List α) (i : Int) : Option α := (ixN xs.length i).bind fun j => xs[j]?
theorem ixN_seq {n : Nat} {i : Int} {j : Nat} (h : ixN n i = some j) : seqIndex? i n = some j ∧ j < n ∧ -(n : Int) ≤ i ∧ i < n := by
  unfold ixN at h
  by_cases h0 : 0 ≤ i
  · rw [if_pos h0] at h
    by_cases h1 : i < n
    · rw [if_pos h1] at h
      have e : i.toNat = j := Option.some.inj h
      exact ⟨by rw [seqIndex_of h0 h1, e], by omega, by omega, h1⟩
    · rw [if_neg h1] at h; cases h
  · rw [if_neg h0] at h
    by_cases h1 : -(n : Int) ≤ i
    · rw [if_pos h1] at h
      have e : (i + n).toNat = j := Option.some.inj h
      exact ⟨by rw [seqIndex_neg (by omega) h1, e], by omega, h1, by omega⟩
    · rw [if_neg h1] at h; cases h
theorem atI_get {α : Type} {xs : List α} {i : Int} {v : α} (h : atI xs i = some v) : ∃ j, seqIndex? i xs.length = some j ∧ xs[j]? = some v ∧ j < xs.length ∧ -(xs.length : Int) ≤ i ∧ i < xs.length := by
  unfold atI at h
  cases e : ixN xs.length i with
  | none => rw [e] at h; cases h
  | some j =>
    rw [e] at h
    obtain ⟨h1, h2, h3, h4⟩ := ixN_seq e
    exact ⟨j, h1, h, h2, h3, h4⟩
theorem atI_nat {α : Type} {xs : List α} {j : Nat} {v : α} (h : xs[j]? = some v) : atI xs (j : Int) = some v := by
  have hj : j < xs.length := (List.getElem?_eq_some_iff.mp h).1
  have e : ixN xs.length (j : Int) = some j := by
    unfold ixN
    rw [if_pos (by omega), if_pos (by omega)]; simp
  unfold atI; rw [e]; exact h
/-! ### what may be subscripted -/
/-- what stands as an index of a plain subscript -/
def PlainIx (b : Expr) : Prop := ∀ o i, subscripted b false o i = operate [o, i] (getItem o i)
/-- a subscript by values -/
def IxR (X : Cx) (r : R2) : Prop :=
  ∀ (value slice : Expr) (pins : List (Addr × Obj)) (s : Shared) (σ : St) (H : Hp) (x y : V) (v u : Value) (Q : VK), Inv X pins σ H s → RelV x v → RelV y u → r x y H Q →
    subscripted slice false v u = operate [v, u] (getItem v u) → wpAny (model X.prog X.w) X.A (subscriptTail value slice v u) (EP X pins σ Q) X.xe s
/-- a call of a builtin's method by values: the receiver, the arguments -/
def MtR (X : Cx) (id : String) (r : V → List V → Hp → VK → Prop) : Prop :=
  ∀ (pins : List (Addr × Obj)) (s : Shared) (σ : St) (H : Hp) (x : V) (xs : List V) (v : Value) (us : List Value) (Q : VK), Inv X pins σ H s → RelV x v → Vals xs us → r x xs H Q →
    wpAny (model X.prog X.w) X.A (call (.builtin id) (v :: us)) (EP X pins σ Q) X.xe s
section
variable {X : Cx} {a b : Expr} {ta tb : TE} {pos : Pos}
/-- a[b] -/
theorem pe_ix {r : R2} (hr : IxR X r) (ha : PE X a ta) (hb : PE X b tb) (hs : PlainIx b) : PE X (.Subscript a b pos) (tOp r ta tb) := by
  intro pins s σ H Q I h
  exact Subscript_ (binT ha hb I h fun v u s2 x y H2 I2 rx ry q => hr a b pins s2 σ H2 x y v u Q I2 rx ry q (hs _ _))

def rIxL (K : PySem.W.Frag) : R2 := fun x y H Q => ∃ p xs i v, x = .ref p ∧ y = .int i ∧ SqL K H p xs ∧ atI xs i = some v ∧ Q v H
def rIxT (K : PySem.W.Frag) : R2 := fun x y H Q => ∃ p xs i v, x = .ref p ∧ y = .int i ∧ SqT K H p xs ∧ atI xs i = some v ∧ Q v H
def rIxS : R2 := fun x y H Q => ∃ z i c, x = .str z ∧ y = .int i ∧ z.length ≤ sizeLine ∧ atI z.cps.toList i = some c ∧ Q (.str ⟨#[c]⟩) H
theorem ix_list : IxR X (rIxL X.K) := by
  intro value slice pins s σ H x y v u Q I rx ry h hs
  obtain ⟨p, xs, i, z, rfl, rfl, hq, he, q⟩ := h
  cases rx
  obtain ⟨t, rfl⟩ := ry
  obtain ⟨its, r, pl, hz⟩ := I.list hq
  obtain ⟨j, h1, h2, h3, h4, h5⟩ := atI_get he
  obtain ⟨w, ew, rw'⟩ := r.get h2
  have hl := r.length
  have hn := line63
  have fin : EP X pins σ Q w s := ⟨z, H, I, rw', q⟩
  by_cases h0 : 0 ≤ i
  · have hj : i.toNat = j := by
      rw [seqIndex_of h0 h5] at h1
      exact Option.some.inj h1
    exact item_listR pl.isList h0 (by omega) (by rw [hj]; simpa using ew) fin hs
  · have hj : (i + (its.toArray.size : Int)).toNat = j := by
      rw [seqIndex_neg (by omega) h4] at h1
      rw [List.size_toArray, ← hl]
      exact Option.some.inj h1
    exact subscriptTail_builtinR (x := w) pl.isList.typeIs slot_list_getitem.lookup
      (wpAny_getItem_list_neg (Q := fun r s' => r = w ∧ EP X pins σ Q r s') pl.isList (by omega) (by rw [List.size_toArray] <;> omega) (by omega) (by rw [hj]; simpa using ew) ⟨rfl, fin⟩) hs
theorem ix_tup : IxR X (rIxT X.K) := by
  intro value slice pins s σ H x y v u Q I rx ry h hs
  obtain ⟨p, xs, i, z, rfl, rfl, hq, he, q⟩ := h
  cases rx
  obtain ⟨t, rfl⟩ := ry
  obtain ⟨its, r, pl, hz⟩ := I.tuple hq
  obtain ⟨j, h1, h2, h3, h4, h5⟩ := atI_get he
  obtain ⟨w, ew, rw'⟩ := r.get h2
  have hl := r.length
  have hn := line63
  have fin : EP X pins σ Q w s := ⟨z, H, I, rw', q⟩
  exact subscriptTail_builtinR (x := w) pl.typeIs slot_tuple_getitem.lookup
    (getItem_tuple (j := j) (Q := fun r s' => r = w ∧ EP X pins σ Q r s') pl (by omega) (by omega) (by rw [List.size_toArray, ← hl]; exact h1) (by simpa using ew) ⟨rfl, fin⟩) hs
theorem ix_str : IxR X rIxS := by
  intro value slice pins s σ H x y v u Q I rx ry h hs
  obtain ⟨z, i, c, rfl, rfl, hz, he, q⟩ := h
  obtain ⟨t, rfl⟩ := rx
  obtain ⟨t', rfl⟩ := ry
  obtain ⟨j, h1, h2, h3, h4, h5⟩ := atI_get he
  have hl : z.cps.toList.length = z.length := by simp [Str.length]
  rw [hl] at h1 h4 h5
  have hn := line63
  exact tail_any (typeIs_str s z t) slot_str_getitem.lookup (getItem_str (c := c) (by
    have e1 : decide (i < -(2 ^ 63 : Int)) = false := decide_eq_false (by omega)
    have e2 : decide (i ≥ 2 ^ 63) = false := decide_eq_false (by omega)
    rw [e1, e2, Bool.or_false]) (by rw [h1]; simpa using h2) ⟨.str ⟨#[c]⟩, H, I.tok _, ⟨_, rfl⟩, q⟩) hs
/-! ### xs[i] = v, any sign -/
/-! ### slices -/
theorem slice_bounds (lo hi : Option Int) (n : Nat) : (sliceBounds lo hi none n).1 = ((HT.sIx n 0 lo : Nat) : Int) ∧ (sliceBounds lo hi none n).2.1 = ((HT.sIx n n hi : Nat) : Int) ∧ (sliceBounds lo hi none n).2.2 = 1 := by
  refine ⟨?_, ?_, rfl⟩
  · cases lo with
    | none => simp [sliceBounds, HT.sIx]
    | some i =>
      simp only [sliceBounds, HT.sIx, Option.getD_none, show (1 : Int) > 0 by decide, if_true]
      by_cases h : i < 0
      · simp only [h, if_true] <;> omega
      · simp only [h, if_false] <;> omega
  · cases hi with
    | none => simp [sliceBounds, HT.sIx]
    | some i =>
      simp only [sliceBounds, HT.sIx, Option.getD_none, show (1 : Int) > 0 by decide, if_true]
      by_cases h : i < 0
      · simp only [h, if_true] <;> omega
      · simp only [h, if_false] <;> omega
theorem slicePick_cut (its : List Value) (lo hi : Option Int) : slicePick its.toArray lo hi none = ((its.drop (HT.sIx its.length 0 lo)).take (HT.sIx its.length its.length hi - HT.sIx its.length 0 lo)).toArray := by
  obtain ⟨h1, h2, h3⟩ := slice_bounds lo hi its.toArray.size
  unfold slicePick
  rw [h1, h2, h3]
  simp only [sliceRange_one, pick_run, List.size_toArray] <;> rfl
/-- xs[lo:hi] of a list: a new list -/
def rSlL (K : PySem.W.Frag) : V → Option Int → Option Int → Hp → VK → Prop := fun x lo hi H Q => ∃ a xs, x = .ref a ∧ SqL K H a xs ∧ ∀ p, H p = none → Q (.ref p) (upd H p (.lst (cutV xs lo hi)))
theorem sl_list : SlR X (rSlL X.K) := by
  intro pins s σ H x v vl vu lo hi sl Q I rx hs pl pu h
  obtain ⟨a, xs, rfl, hx, q⟩ := h
  cases rx
  obtain ⟨its, r, ht, hz⟩ := I.list hx
  have hlen := r.length
  refine ⟨"list", _, slot_list_getitem.lookup, ht.isList.typeIs, ?_⟩
  refine wpAny_getItem_list_slice ht.isList hs pl pu .none (by simp) ?_ (by rw [List.size_toArray] <;> omega)
  rw [slicePick_cut, ← hlen]
  refine ⟨.ref s.heap.objs.size, _, I.laid (t' := s.toks) (o := .lst (cutV xs lo hi)) (fun b ob q => Heap.get?_push_of_some _ q) (Nat.le_refl _) ?_, rfl, q _ (I.hok.fresh (Nat.le_refl _))⟩
  exact ⟨Nat.le_trans (cutV_length xs lo hi) hz, _, 0, (r.drop (HT.sIx xs.length 0 lo)).take (HT.sIx xs.length xs.length hi - HT.sIx xs.length 0 lo), Heap.get?_push_size _ rfl⟩

/-! ### in, not in: flat items -/
def flatV : V → Bool
  | .non => true
  | .bl _ => true
  | .int _ => true
  | .str _ => true
  | _ => false
/-- == of flat values -/
def eqV : V → V → Bool
  | .non, .non => true
  | .bl a, .bl b => a == b
  | .bl a, .int b => (if a then 1 else 0) == b
  | .int a, .bl b => a == (if b then 1 else 0)
  | .int a, .int b => a == b
  | .str a, .str b => a == b
  | _, _ => false
theorem eqAt_V {A : Around} {s : Shared} {y x : V} {u v : Value} (ry : RelV y u) (rx : RelV x v) (fy : flatV y = true) (fx : flatV x = true) : SeqAt.EqAt A s u v (eqV y x) := by
  cases y with
  | non =>
    cases ry
    cases x with
    | non => cases rx; exact SeqAt.EqAt.same _
    | bl b => cases rx; exact SeqAt.EqAt.none_bool b
    | int b => obtain ⟨t, rfl⟩ := rx; exact SeqAt.EqAt.none_int b t
    | str b => obtain ⟨t, rfl⟩ := rx; exact SeqAt.EqAt.none_str b t
    | _ => exact absurd (show false = true from fx) Bool.false_ne_true
  | bl a =>
    cases ry
    cases x with
    | non => cases rx; exact SeqAt.EqAt.bool_none a
    | bl b => cases rx; exact SeqAt.EqAt.bool_bool a b
    | int b => obtain ⟨t, rfl⟩ := rx; exact SeqAt.EqAt.bool_int a b t
    | str b => obtain ⟨t, rfl⟩ := rx; exact SeqAt.EqAt.bool_str a b t
    | _ => exact absurd (show false = true from fx) Bool.false_ne_true
  | int a =>
    obtain ⟨t', rfl⟩ := ry
    cases x with
    | non => cases rx; exact SeqAt.EqAt.int_none a t'
    | bl b => cases rx; exact SeqAt.EqAt.int_bool a t' b
    | int b => obtain ⟨t, rfl⟩ := rx; exact SeqAt.EqAt.int_int a t' b t
    | str b => obtain ⟨t, rfl⟩ := rx; exact SeqAt.EqAt.int_str a t' b t
    | _ => exact absurd (show false = true from fx) Bool.false_ne_true
  | str a =>
    obtain ⟨t', rfl⟩ := ry
    cases x with
    | non => cases rx; exact SeqAt.EqAt.str_none a t'
    | bl b => cases rx; exact SeqAt.EqAt.str_bool a t' b
    | int b => obtain ⟨t, rfl⟩ := rx; exact SeqAt.EqAt.str_int a t' b t
    | str b => obtain ⟨t, rfl⟩ := rx; exact SeqAt.EqAt.str_str a t' b t
    | _ => exact absurd (show false = true from fx) Bool.false_ne_true
  | _ => exact absurd (show false = true from fy) Bool.false_ne_true
/-- the items' answers, read off the values (a value's own answer does not lean on its token) -/
def eqU (x : V) (u : Value) : Bool := match u with
  | .none => eqV .non x
  | .bool b => eqV (.bl b) x
  | .int i _ => eqV (.int i) x
  | .str z _ => eqV (.str z) x
  | _ => false
theorem eqU_of {x y : V} {u : Value} (r : RelV y u) (f : flatV y = true) : eqU x u = eqV y x := by
  cases y with
  | non => cases r; rfl
  | bl b => cases r; rfl
  | int i => obtain ⟨t, rfl⟩ := r; rfl
  | str z => obtain ⟨t, rfl⟩ := r; rfl
  | _ => exact absurd (show false = true from f) Bool.false_ne_true
theorem any_eqU {x : V} : ∀ {xs : List V} {us : List Value}, Vals xs us → xs.all flatV = true → us.any (eqU x) = xs.any fun y => eqV y x
  | _, _, .nil, _ => rfl
  | y :: xs, u :: us, .cons r t, f => by
    rw [List.all_cons, Bool.and_eq_true] at f
    rw [List.any_cons, List.any_cons, eqU_of r f.1, any_eqU t f.2]
theorem mem_eqAt {A : Around} {s : Shared} {x : V} {v : Value} (rx : RelV x v) (fx : flatV x = true) : ∀ {xs : List V} {us : List Value}, Vals xs us → xs.all flatV = true → ∀ u ∈ us, SeqAt.EqAt A s u v (eqU x u)
  | _, _, .nil, _ => fun u hu => by cases hu
  | y :: xs, u :: us, .cons r t, f => fun u' hu => by
    rw [List.all_cons, Bool.and_eq_true] at f
    rcases List.mem_cons.mp hu with rfl | hu
    · rw [eqU_of r f.1]; exact eqAt_V r rx f.1 fx
    · exact mem_eqAt rx fx t f.2 u' hu
def inV (x : V) (xs : List V) : Bool := xs.any fun y => eqV y x
/-- x in a list or tuple of flat items -/
def rIn (K : PySem.W.Frag) (neg : Bool) : R2 := fun x y H Q => ∃ p xs, y = .ref p ∧ (SqL K H p xs ∨ SqT K H p xs) ∧ flatV x = true ∧ xs.all flatV = true ∧ Q (.bl (if neg then !inV x xs else inV x xs)) H
theorem op_in_seq : OpR X (compareOp .In) (rIn X.K false) := by
  intro pins s σ H x y v u Q I rx ry h
  obtain ⟨p, xs, rfl, hq, fx, fs, q⟩ := h
  cases ry
  rcases hq with hq | hq
  · obtain ⟨its, r, pl, hz⟩ := I.list hq
    refine SeqAt.in_listAt (eqU x) pl.isList (fun w hw => mem_eqAt rx fx r fs w (by simpa using hw)) ⟨.bl _, H, I, rfl, ?_⟩
    rw [show its.toArray.any (eqU x) = its.any (eqU x) by simp, any_eqU r fs]
    exact q
  · obtain ⟨its, r, pl, hz⟩ := I.tuple hq
    refine SeqAt.in_tupleAt (eqU x) pl (fun w hw => mem_eqAt rx fx r fs w (by simpa using hw)) ⟨.bl _, H, I, rfl, ?_⟩
    rw [show its.toArray.any (eqU x) = its.any (eqU x) by simp, any_eqU r fs]
    exact q
theorem op_notIn_str : OpR X (compareOp .NotIn) (fun x y H Q => ∃ i j, x = .str i ∧ y = .str j ∧ Q (.bl (!(!(Builtin.Str.occurrences j i 0 j.length 1).isEmpty))) H) := by
  intro pins s σ H x y v u Q I rx ry h
  obtain ⟨i, j, rfl, rfl, q⟩ := h
  obtain ⟨t, rfl⟩ := rx
  obtain ⟨t', rfl⟩ := ry
  exact notIn_str ⟨.bl _, H, I, rfl, q⟩

/-! ### len, list(x), tuple(x) of any list or tuple that is read -/
theorem call_len_seq : CallR X (.builtin "len") (fun xs H Q => ∃ p ys, xs = [.ref p] ∧ (SqL X.K H p ys ∨ SqT X.K H p ys) ∧ Q (.int ys.length) H) := by
  intro pins s σ H xs us Q I r h
  obtain ⟨p, ys, rfl, hq, q⟩ := h
  obtain ⟨u, rfl, rx⟩ := vals1 r
  cases rx
  have hn := line63
  rcases hq with hq | hq
  · obtain ⟨its, r', pl, hz⟩ := I.list hq
    have hlen := r'.length
    exact Calls.call_len_list pl.isList (by simp only [List.size_toArray] <;> omega) ⟨.int ys.length, H, I.tok _, ⟨s.toks + 1, by rw [List.size_toArray, hlen]⟩, q⟩
  · obtain ⟨its, r', pl, hz⟩ := I.tuple hq
    have hlen := r'.length
    exact len_tuple pl (by simp only [List.size_toArray] <;> omega) ⟨.int ys.length, H, I.tok _, ⟨s.toks + 1, by rw [List.size_toArray, hlen]⟩, q⟩
theorem call_len_str : CallR X (.builtin "len") (fun xs H Q => ∃ z, xs = [.str z] ∧ z.length ≤ sizeLine ∧ Q (.int z.length) H) := by
  intro pins s σ H xs us Q I r h
  obtain ⟨z, rfl, hz, q⟩ := h
  obtain ⟨u, rfl, t, rfl⟩ := vals1 r
  have hn := line63
  exact len_str (by omega) ⟨.int z.length, H, I.tok _, ⟨_, rfl⟩, q⟩
/-! ### the call of a builtin's method: o.m(..) -/
/-- the value is of that builtin type -/
def tyV (K : PySem.W.Frag) (T : String) (x : V) (H : Hp) : Prop := match x with
  | .str _ => T = "str"
  | .int _ => T = "int"
  | .ref p => (T = "list" ∧ ∃ xs, SqL K H p xs) ∨ (T = "tuple" ∧ ∃ o, K.lookup p = some o ∧ o.cls = .type "tuple" ∧ o.dict = none) ∨
      (T = "dict" ∧ ((∃ kvs, H p = some (.dK kvs)) ∨ ∃ kvs, H p = some (.dT kvs))) ∨ (T = "set" ∧ ∃ S n, H p = some (.set S n))
  | _ => False
theorem tyV_is {pins : List (Addr × Obj)} {σ : St} {H : Hp} {s : Shared} {T : String} {x : V} {v : Value} (I : Inv X pins σ H s) (r : RelV x v) (ty : tyV X.K T x H) :
    s.TypeIs v T ∧ ∀ a, v = .ref a → ∃ ob, s.heap.get? a = some ob ∧ ob.dict = none := by
  cases x with
  | str z =>
    obtain ⟨t, rfl⟩ := r
    cases (show T = "str" from ty)
    exact ⟨typeIs_str s z t, fun _ e => nomatch e⟩
  | int i =>
    obtain ⟨t, rfl⟩ := r
    cases (show T = "int" from ty)
    exact ⟨typeIs_int s i t, fun _ e => nomatch e⟩
  | ref p =>
    cases r
    rcases ty with ⟨rfl, xs, hq⟩ | ⟨rfl, o, hk, hc, hd⟩ | ⟨rfl, hk⟩ | ⟨rfl, S, n, hk⟩
    · obtain ⟨its, _, pl, _⟩ := I.list hq
      refine ⟨pl.isList.typeIs, fun a e => ?_⟩
      cases e
      obtain ⟨o, n, e, c, hd, _⟩ := pl
      exact ⟨o, e, hd⟩
    · refine ⟨⟨o, I.kIn p o hk, hc⟩, fun a e => ?_⟩
      cases e
      exact ⟨o, I.kIn _ o hk, hd⟩
    · have z : ∃ o, s.heap.get? p = some o ∧ o.ExactDict := by
        rcases hk with ⟨kvs, hk⟩ | ⟨kvs, hk⟩
        · obtain ⟨_, _, _, _, o, _, _, e, ex, _⟩ := I.hok p _ hk
          exact ⟨o, e, ex⟩
        · obtain ⟨_, _, _, _, o, _, _, e, ex, _⟩ := I.hok p _ hk
          exact ⟨o, e, ex⟩
      obtain ⟨o, e, ex⟩ := z
      refine ⟨⟨o, e, ex.1⟩, fun a e2 => ?_⟩
      cases e2
      exact ⟨o, e, ex.2.1⟩
    · obtain ⟨o, _, _, _, e, ex, _⟩ := I.hok p _ hk
      refine ⟨⟨o, e, ex.1⟩, fun a e2 => ?_⟩
      cases e2
      exact ⟨o, e, ex.2.1⟩
  | _ => exact False.elim ty
def tBM0 (K : PySem.W.Frag) (T : String) (r : V → List V → Hp → VK → Prop) (to : TE) : TE := fun σ H Q => to σ H fun x H1 => tyV K T x H1 ∧ r x [] H1 Q
def tBM (K : PySem.W.Frag) (T : String) (r : V → List V → Hp → VK → Prop) (to : TE) (t : TA) : TE := fun σ H Q => to σ H fun x H1 => tyV K T x H1 ∧ t σ H1 fun xs H2 => r x xs H2 Q
variable {o e : Expr} {es : List Expr} {to : TE} {t : TA} {name : Str} {apos cpos : Pos} {T id : String} {r : V → List V → Hp → VK → Prop}
theorem pe_bm0 (pa : PlainAttrs T) (slot : Slot T name id) (hty : typeOf (.builtin id) = pure (.type "method_descriptor")) (hm : MtR X id r) (ho : PE X o to)
    (hbase : attributeBase o name X.env (eval o X.env) = eval o X.env := by rfl) (hline : (apos.endLine == cpos.line) = true := by rfl) : PE X (.Call (.Attribute o name apos) [] [] cpos) (tBM0 X.K T r to) := by
  intro pins s σ H Q I h
  refine wpAny_Call_method0_late hbase hline (thn (ho pins s σ H _ I h) fun v s1 ⟨x, H1, I1, r1, ty, q1⟩ => ?_)
  obtain ⟨h1, h2⟩ := tyV_is I1 r1 ty
  exact ⟨T, id, pa, slot, hty, h1, h2, Calls.callWith_builtin rfl (PySem.evalArgs_none (hm pins s1 σ H1 x [] v [] Q I1 r1 .nil q1))⟩
theorem pe_bm (pa : PlainAttrs T) (slot : Slot T name id) (hty : typeOf (.builtin id) = pure (.type "method_descriptor")) (hm : MtR X id r) (ho : PE X o to) (ha : PA X (e :: es) t)
    (hbase : attributeBase o name X.env (eval o X.env) = eval o X.env := by rfl)
    (hfew : ((backTo cpos (starEach (e :: es) X.env)).all (fun x => !x.1) && (backToKw cpos (keywordEach [] X.env)).all (fun x => x.1.isSome)
      && decide ((e :: es).length + ([] : List Keyword).length + (if ([] : List Keyword).isEmpty then 0 else 1) < 30)) = true := by rfl)
    (hline : (apos.endLine == cpos.line) = true := by rfl) (hs : starEach (e :: es) X.env = (false, eval e X.env) :: starEach es X.env := by rfl) (hplain : (backTo cpos (starEach es X.env)).any (·.1) = false := by rfl) :
    PE X (.Call (.Attribute o name apos) (e :: es) [] cpos) (tBM X.K T r to t) := by
  intro pins s σ H Q I h
  refine wpAny_Call_method_late hbase hfew hline rfl (thn (ho pins s σ H _ I h) fun v s1 ⟨x, H1, I1, r1, ty, q1⟩ => ?_)
  obtain ⟨h1, h2⟩ := tyV_is I1 r1 ty
  refine ⟨T, id, pa, slot, hty, h1, h2, ?_⟩
  have hA := ha cpos pins s1 σ H1 _ I1 q1
  rw [hs] at hA ⊢
  refine Calls.callWith_builtin (by show (false || (backTo cpos (starEach es X.env)).any (·.1)) = false; rw [hplain] <;> rfl) (Calls.evalArgs_plain ?_)
  exact thn hA fun us s2 ⟨vs, H2, I2, r2, q2⟩ => hm pins s2 σ H2 x vs v us Q I2 r1 r2 q2
/- xs.append(e), list.index on a module's tuple .. are MtR facts of 06m -/
end
end L2

namespace L2
open PySem PySem.Spec PyProof.Rows

def MtM (X : Cx) (id : String) (r : V → List V → Hp → VK → Prop) : Prop :=
  ∀ (pins : List (Addr × Obj)) (s : Shared) (σ : St) (H : Hp) (x : V) (xs : List V) (v : Value) (us : List Value) (Q : VK), Inv X pins σ H s → RelV x v → Vals xs us → r x xs H Q →
    wpAny (model X.prog X.w) X.A (call (.builtin id) (v :: us)) (EP X pins σ Q) X.xe s

/-! ### lists of values -/
theorem Vals.one : ∀ {x : V} {us : List Value}, Vals [x] us → ∃ u, us = [u] ∧ RelV x u
  | _, _, .cons r .nil => ⟨_, rfl, r⟩
theorem Vals.zero : ∀ {us : List Value}, Vals [] us → us = []
  | _, .nil => rfl
theorem Vals.dropLast {xs : List V} {us : List Value} (h : Vals xs us) : Vals xs.dropLast us.dropLast := by
  induction h with
  | nil => exact .nil
  | cons r t ih =>
    cases t with
    | nil => exact .nil
    | cons q t' => exact .cons r ih
theorem erase_last {α : Type} (l : List α) : l.eraseIdx (l.length - 1) = l.dropLast := by
  induction l with
  | nil => rfl
  | cons a r ih =>
    cases r with
    | nil => rfl
    | cons b r =>
      have e : (a :: b :: r).length - 1 = ((b :: r).length - 1) + 1 := by
        have h1 : (a :: b :: r).length = r.length + 2 := rfl
        have h2 : (b :: r).length = r.length + 1 := rfl
        omega
      rw [e, List.eraseIdx_cons_succ, ih]
      all_goals rfl
section
variable {X : Cx} {pins : List (Addr × Obj)} {σ : St} {H : Hp} {s : Shared} {l b : Addr} {xs ys zs : List V}

/-! ### the two steps: a tracked list is rewritten, a new list is laid -/
theorem Inv.lset {its its' : List Value} {n : Nat} {f : Array Value → Array Value} {t' : Nat} (I : Inv X pins σ H s) (hH : H l = some (.lst xs))
    (e : s.heap.get? l = some { cls := .type "list", data := .seq its.toArray n }) (hf : f its.toArray = its'.toArray) (hv : Vals ys its') (hz : ys.length ≤ sizeLine) :
    Inv X pins σ (upd H l (.lst ys)) { s with heap := s.heap.update l (Obj.mapSeq f), toks := t' } := by
  have q := PySem.IsL.update e f
  rw [hf] at q
  refine I.write (x := l) (e := l) (by rw [hH]; exact trivial) (.inl rfl) (fun b' u hb hu => (Heap.get?_update_other s.heap (Obj.mapSeq f) (Ne.symm hb)).trans hu) ⟨_, q⟩ ?_
  exact ⟨hz, its', _, hv, q⟩
theorem Inv.lnew {its : List Value} {t' : Nat} (I : Inv X pins σ H s) (hv : Vals ys its) (hz : ys.length ≤ sizeLine) :
    Inv X pins σ (upd H s.heap.objs.size (.lst ys)) { s with heap := s.heap.push { cls := .type "list", data := .seq its.toArray }, toks := t' } :=
  I.laid (fun _ _ q => Heap.get?_push_of_some _ q) (Nat.le_refl _) ⟨hz, its, 0, hv, Heap.get?_push_size _ rfl⟩
theorem Inv.fresh (I : Inv X pins σ H s) : H s.heap.objs.size = none := I.hok.fresh (Nat.le_refl _)
theorem Inv.lstM (I : Inv X pins σ H s) (hH : H l = some (.lst xs)) : xs.length ≤ sizeLine ∧ ∃ (its : List Value) (n : Nat), Vals xs its ∧ xs.length = its.length ∧ s.heap.get? l = some { cls := .type "list", data := .seq its.toArray n } := by
  obtain ⟨z, its, n, r, e⟩ := I.hok l _ hH
  exact ⟨z, its, n, r, r.length, e⟩

end

section
variable {X : Cx}

/-! ### methods -/
def rAppend : V → List V → Hp → VK → Prop := fun x vs H Q => ∃ l xs y, x = .ref l ∧ vs = [y] ∧ H l = some (.lst xs) ∧ xs.length < sizeLine ∧ Q .non (upd H l (.lst (xs ++ [y])))
theorem mt_append : MtM X "list.append" rAppend := by
  intro pins s σ H x vs v us Q I rx rv h
  obtain ⟨l, xs, y, rfl, rfl, hH, hz, q⟩ := h
  cases rx
  obtain ⟨u, rfl, ru⟩ := rv.one
  obtain ⟨z, its, n, r, hl, e⟩ := I.lstM hH
  refine call_meets F.slot_list_append ⟨_, e, rfl⟩ F.entry_list_append (F.args_list_append_2 _ _) (PySem.list_append l its.toArray n u (by rw [List.size_toArray]; omega)) ⟨e, ?_⟩
  refine ⟨.non, _, I.lset (its' := its ++ [u]) hH e (by simp) (r.append (.cons ru .nil)) ?_, rfl, q⟩
  rw [List.length_append, List.length_singleton]
  omega

def rPop : V → List V → Hp → VK → Prop := fun x vs H Q => ∃ l xs y, x = .ref l ∧ vs = [] ∧ H l = some (.lst xs) ∧ xs[xs.length - 1]? = some y ∧ Q y (upd H l (.lst xs.dropLast))
theorem mt_pop : MtM X "list.pop" rPop := by
  intro pins s σ H x vs v us Q I rx rv h
  obtain ⟨l, xs, y, rfl, rfl, hH, hy, q⟩ := h
  cases rx
  have hus := rv.zero
  subst hus
  obtain ⟨z, its, n, r, hl, e⟩ := I.lstM hH
  obtain ⟨u, hu, ru⟩ := r.get hy
  have hy' : its.toArray[its.toArray.size - 1]? = some u := by
    show its.toArray[its.length - 1]? = some u
    rw [← Array.getElem?_toList, ← hl]
    exact hu
  refine call_meets F.slot_list_pop ⟨_, e, rfl⟩ F.entry_list_pop (F.args_list_pop_1 _) (MeetsSeq.list_pop_last l its.toArray n u hy' (by rw [List.size_toArray]; omega)) ⟨e, ?_⟩
  refine ⟨y, _, I.lset (its' := its.dropLast) hH e ?_ r.dropLast ?_, ru, q⟩
  · show its.toArray.eraseIdxIfInBounds (its.toArray.size - 1) = its.dropLast.toArray
    rw [List.size_toArray, List.eraseIdxIfInBounds_toArray, erase_last]
  · rw [List.length_dropLast]
    omega

/-! ### list + list, list += list, list * int -/
def rCat : R2 := fun x y H Q => ∃ l b xs zs, x = .ref l ∧ y = .ref b ∧ H l = some (.lst xs) ∧ H b = some (.lst zs) ∧ xs.length + zs.length ≤ sizeLine ∧ ∀ p, H p = none → Q (.ref p) (upd H p (.lst (xs ++ zs)))
theorem op_cat : OpR X (binaryOp .Add) rCat := by
  intro pins s σ H x y v u Q I rx ry h
  obtain ⟨l, b, xs, zs, rfl, rfl, hH, hB, hz, q⟩ := h
  cases rx
  cases ry
  obtain ⟨z, its, n, r, hl, e⟩ := I.lstM hH
  obtain ⟨z2, its2, n2, r2, hl2, e2⟩ := I.lstM hB
  refine PySem.P.add_list e e2 ?_ (by rw [List.size_toArray, List.size_toArray]; omega)
  have ea : its.toArray ++ its2.toArray = (its ++ its2).toArray := by simp
  rw [ea]
  exact ⟨.ref _, _, I.lnew (t' := s.toks) (r.append r2) (by rw [List.length_append]; omega), rfl, q _ I.fresh⟩
/-! ### del xs[i] -/
end

/-! ### xs[a:b] = ys -/
section
variable {prog : Program} {w : World} {A : Around} {E : Value → Shared → Prop} {s : Shared}
end

section
variable {X : Cx}
end
end L2

namespace L2
open PySem PySem.Spec PyProof.Rows

/-! ### lists of pairs as tables -/
section
variable {κ : Type} [DecidableEq κ]
def valV (kvs : List (κ × V)) (k : κ) : Option V := (kvs.find? fun kv => decide (kv.1 = k)).map (·.2)
/-- in its place, or at the end -/
def putK (kvs : List (κ × V)) (k : κ) (v : V) : List (κ × V) :=
  if (kvs.any fun kv => decide (kv.1 = k)) = true then kvs.map (fun kv => if kv.1 = k then (kv.1, v) else kv) else kvs ++ [(k, v)]
theorem valV_pos {p : κ × V} {r : List (κ × V)} {k : κ} (e : p.1 = k) : valV (p :: r) k = some p.2 := by simp [valV, List.find?_cons, e]
theorem valV_neg {p : κ × V} {r : List (κ × V)} {k : κ} (e : ¬ p.1 = k) : valV (p :: r) k = valV r k := by simp [valV, List.find?_cons, e]
theorem valV_any (k : κ) : ∀ kvs : List (κ × V), (kvs.any fun kv => decide (kv.1 = k)) = (valV kvs k).isSome
  | [] => rfl
  | p :: r => by
    rw [List.any_cons]
    by_cases e : p.1 = k
    · simp only [valV_pos e, decide_eq_true e, Bool.true_or, Option.isSome_some]
    · rw [valV_neg e, decide_eq_false e, Bool.false_or]; exact valV_any k r
theorem length_putK (kvs : List (κ × V)) (k : κ) (v : V) : (putK kvs k v).length ≤ kvs.length + 1 := by
  unfold putK
  split
  · rw [List.length_map]; omega
  · rw [List.length_append, List.length_cons, List.length_nil]; omega
theorem putK_new {kvs : List (κ × V)} {k : κ} (v : V) (h : valV kvs k = none) : putK kvs k v = kvs ++ [(k, v)] := by
  unfold putK
  rw [valV_any, h]
  exact if_neg (by decide)

theorem RelO.isSome_eq {o : Option V} {u : Option Value} (r : RelO o u) : o.isSome = u.isSome := by
  cases o with
  | none => cases u with
    | none => rfl
    | some _ => exact (show False from r).elim
  | some _ => cases u with
    | none => exact (show False from r).elim
    | some _ => rfl
theorem RelO.getD {o : Option V} {u : Option Value} {d : V} {d' : Value} (r : RelO o u) (rd : RelV d d') : RelV (o.getD d) (u.getD d') := by
  cases o with
  | none => cases u with
    | none => exact rd
    | some _ => exact (show False from r).elim
  | some _ => cases u with
    | none => exact (show False from r).elim
    | some _ => exact r

/-- raw tables of the same keys -/
theorem KV.val {kvs : List (κ × V)} {vs : List (κ × Value)} (r : KV kvs vs) (k : κ) : RelO (valV kvs k) (valueAt vs k) := by
  unfold KV at r
  induction r with
  | nil => exact True.intro
  | @cons p q ps qs h t ih =>
    obtain ⟨h1, h2⟩ := h
    by_cases e : p.1 = k
    · have e' : q.1 = k := h1.symm.trans e
      have b : valueAt (q :: qs) k = some q.2 := by simp [valueAt, List.find?_cons, e']
      rw [valV_pos e, b]; exact h2
    · have e' : ¬ q.1 = k := fun z => e (h1.trans z)
      have b : valueAt (q :: qs) k = valueAt qs k := by simp [valueAt, List.find?_cons, e']
      rw [valV_neg e, b]; exact ih
theorem KV.any {kvs : List (κ × V)} {vs : List (κ × Value)} (r : KV kvs vs) (k : κ) : (kvs.any fun kv => decide (kv.1 = k)) = vs.any fun kv => decide (kv.1 = k) := by
  unfold KV at r
  induction r with
  | nil => rfl
  | cons h t ih => rw [List.any_cons, List.any_cons, ih, h.1]
theorem KV.repl {kvs : List (κ × V)} {vs : List (κ × Value)} (r : KV kvs vs) (k : κ) {y : V} {u : Value} (ry : RelV y u) :
    KV (kvs.map fun kv => if kv.1 = k then (kv.1, y) else kv) (vs.map fun kv => if kv.1 = k then (kv.1, u) else kv) := by
  unfold KV at r ⊢
  induction r with
  | nil => exact .nil
  | @cons p q ps qs h t ih =>
    rw [List.map_cons, List.map_cons]
    refine .cons ?_ ih
    obtain ⟨h1, h2⟩ := h
    by_cases e : p.1 = k
    · rw [if_pos e, if_pos (h1.symm.trans e)]; exact ⟨h1, ry⟩
    · rw [if_neg e, if_neg (fun z => e (h1.trans z))]; exact ⟨h1, h2⟩
theorem KV.put {kvs : List (κ × V)} {vs : List (κ × Value)} (r : KV kvs vs) (k : κ) {y : V} {u : Value} (ry : RelV y u) : KV (putK kvs k y) (stored vs k u) := by
  unfold putK stored
  rw [r.any k]
  by_cases e : (vs.any fun kv => decide (kv.1 = k)) = true
  · rw [if_pos e, if_pos e]; exact r.repl k ry
  · rw [if_neg e, if_neg e]; exact Paired.snoc r ⟨rfl, ry⟩
theorem KV.length {kvs : List (κ × V)} {vs : List (κ × Value)} (r : KV kvs vs) : kvs.length = vs.length := Paired.length r
end


/-! ### a tracked dict, its keys ints and texts or tuples of these -/
theorem kV_is {P : Program} {w : World} {k : Key} {u : Value} (r : RelV (kV k) u) : (mixKind P w).is k u = true := by
  cases k with
  | inl i => obtain ⟨t, e⟩ := (show ∃ t, u = Value.int i t from r); subst e; exact mixKind_int P w i t
  | inr x => obtain ⟨t, e⟩ := (show ∃ t, u = Value.str x t from r); subst e; exact mixKind_str P w x t
theorem items_are {P : Program} {w : World} : ∀ {ks : List Key} {us : List Value}, Vals (ks.map kV) us → ItemsAre (mixKind P w) ks us
  | [], _, r => by rw [List.map_nil] at r; cases r; exact .nil
  | k :: ks, _, r => by
    rw [List.map_cons] at r
    cases r with
    | cons h t => exact .cons (kV_is h) (items_are t)

/-- raw entries of a dict with tuple keys -/
abbrev KT (H : Hp) : List (List Key × V) → List (List Key × Addr × Value) → Prop := Paired fun p q => p.1 = q.1 ∧ H q.2.1 = some (.tup (p.1.map kV)) ∧ RelV p.2 q.2.2
theorem KT.val {H : Hp} {kvs : List (List Key × V)} {xs : List (List Key × Addr × Value)} (r : KT H kvs xs) (k : List Key) : RelO (valV kvs k) ((atKey xs k).map (·.2)) := by
  induction r with
  | nil => exact True.intro
  | @cons p q ps qs h t ih =>
    obtain ⟨h1, _, h2⟩ := h
    by_cases e : p.1 = k
    · have e' : q.1 = k := h1.symm.trans e
      have b : atKey (q :: qs) k = some q.2 := by simp [atKey, List.find?_cons, e']
      rw [valV_pos e, b]; exact h2
    · have e' : ¬ q.1 = k := fun z => e (h1.trans z)
      have b : atKey (q :: qs) k = atKey qs k := by simp [atKey, List.find?_cons, e']
      rw [valV_neg e, b]; exact ih
theorem KT.repl {H : Hp} {kvs : List (List Key × V)} {xs : List (List Key × Addr × Value)} (r : KT H kvs xs) (k : List Key) {y : V} {u : Value} (ry : RelV y u) :
    KT H (kvs.map fun kv => if kv.1 = k then (kv.1, y) else kv) (xs.map (putAt k u)) := by
  induction r with
  | nil => exact .nil
  | @cons p q ps qs h t ih =>
    rw [List.map_cons, List.map_cons]
    refine .cons ?_ ih
    obtain ⟨h1, h2, h3⟩ := h
    unfold putAt
    by_cases e : p.1 = k
    · rw [if_pos e, if_pos (h1.symm.trans e)]; exact ⟨h1, h2, ry⟩
    · rw [if_neg e, if_neg (fun z => e (h1.trans z))]; exact ⟨h1, h2, h3⟩
theorem KT.put {H : Hp} {kvs : List (List Key × V)} {xs : List (List Key × Addr × Value)} (r : KT H kvs xs) (k : List Key) {b : Addr} {y : V} {u : Value} (hb : H b = some (.tup (k.map kV))) (ry : RelV y u) :
    KT H (putK kvs k y) (storedH xs k b u) := by
  have e : (kvs.any fun kv => decide (kv.1 = k)) = (atKey xs k).isSome := by
    rw [valV_any, (r.val k).isSome_eq, Option.isSome_map]
  unfold putK storedH
  rw [e]
  by_cases q : (atKey xs k).isSome = true
  · rw [if_pos q, if_pos q]; exact r.repl k ry
  · rw [if_neg q, if_neg q]; exact Paired.snoc r ⟨rfl, hb, ry⟩
theorem KT.keeps {H H' : Hp} {kvs : List (List Key × V)} {xs : List (List Key × Addr × Value)} (r : KT H kvs xs) (ht : ∀ b ys, H b = some (.tup ys) → H' b = some (.tup ys)) : KT H' kvs xs :=
  Paired.mapP r fun _ _ z => ⟨z.1, ht _ _ z.2.1, z.2.2⟩

section
variable {P : Program} {w : World} {H : Hp} {h : Heap} {a : Addr}
theorem rd_of {u : HO} (ok : HOk P w H h) (e : Rd H a u) : ObjOk P w H h a u := e.ok ok
theorem dk_rd {kvs : List (Key × V)} (ok : HOk P w H h) (e : Rd H a (.dK kvs)) : kvs.length ≤ sizeLine ∧ (a == sysModules) = false ∧ ∃ vs, KV kvs vs ∧ h.DictOf (mixKind P w) a vs :=
  show ObjOk P w H h a (.dK kvs) from rd_of ok e
theorem dk_of {kvs : List (Key × V)} (ok : HOk P w H h) (e : H a = some (.dK kvs)) : kvs.length ≤ sizeLine ∧ (a == sysModules) = false ∧ ∃ vs, KV kvs vs ∧ h.DictOf (mixKind P w) a vs := dk_rd ok (.inl e)
/-- a tracked tuple of ints and texts is a key -/
theorem key_of {ks : List Key} (ok : HOk P w H h) (e : H a = some (.tup (ks.map kV))) : (tupleKind (mixKind P w)).is h ks a := by
  obtain ⟨_, its, r, o, h1, h2, n, h3⟩ := (show ObjOk P w H h a (.tup (ks.map kV)) from ok a _ e)
  exact ⟨o, its.toArray, n, h1, h2, h3, by simpa using items_are r⟩
theorem dt_rd {kvs : List (List Key × V)} (ok : HOk P w H h) (e : Rd H a (.dT kvs)) : kvs.length ≤ sizeLine ∧ (a == sysModules) = false ∧
    ∃ xs, KT H kvs xs ∧ h.DictOfH (tupleKind (mixKind P w)) a xs := by
  obtain ⟨z, y, xs, r, o, es, ep, h1, h2, h3, h4, h5⟩ := (show ObjOk P w H h a (.dT kvs) from rd_of ok e)
  refine ⟨z, y, xs, r, o, es, ep, h1, h2, h3, h4, fun x hx => ?_, h5⟩
  have all : ∀ {l : List (List Key × V)} {m : List (List Key × Addr × Value)}, KT H l m → ∀ x ∈ m, (tupleKind (mixKind P w)).is h x.1 x.2.1 := by
    intro l m q
    induction q with
    | nil => intro x hx; exact nomatch hx
    | @cons p q ps qs hq t ih =>
      intro x hx
      rcases List.mem_cons.mp hx with e | hx
      · subst e
        exact key_of ok (by rw [← hq.1]; exact hq.2.1)
      · exact ih x hx
  exact all r x hx
theorem dt_of {kvs : List (List Key × V)} (ok : HOk P w H h) (e : H a = some (.dT kvs)) : kvs.length ≤ sizeLine ∧ (a == sysModules) = false ∧
    ∃ xs, KT H kvs xs ∧ h.DictOfH (tupleKind (mixKind P w)) a xs := dt_rd ok (.inl e)
end

/-- what the dict at a holds at the key y -/
def DGet (H : Hp) (a : Addr) (y : V) (r : Option V) : Prop :=
  (∃ kvs k, Rd H a (.dK kvs) ∧ y = kV k ∧ r = valV kvs k) ∨ ∃ kvs k b, Rd H a (.dT kvs) ∧ y = .ref b ∧ H b = some (.tup (k.map kV)) ∧ r = valV kvs k
/-- the heap behind a[y] = v -/
def DPut (H : Hp) (a : Addr) (y v : V) (H' : Hp) : Prop :=
  (∃ kvs k, H a = some (.dK kvs) ∧ y = kV k ∧ kvs.length < sizeLine ∧ H' = upd H a (.dK (putK kvs k v))) ∨
  ∃ kvs k b, H a = some (.dT kvs) ∧ y = .ref b ∧ H b = some (.tup (k.map kV)) ∧ kvs.length < sizeLine ∧ H' = upd H a (.dT (putK kvs k v))
theorem DGet.k {H : Hp} {a : Addr} {kvs : List (Key × V)} {k : Key} (e : H a = some (.dK kvs)) : DGet H a (kV k) (valV kvs k) := .inl ⟨kvs, k, .inl e, rfl, rfl⟩
theorem DPut.k {H : Hp} {a : Addr} {kvs : List (Key × V)} {k : Key} {v : V} (e : H a = some (.dK kvs)) (hl : kvs.length < sizeLine) : DPut H a (kV k) v (upd H a (.dK (putK kvs k v))) := .inl ⟨kvs, k, e, rfl, hl, rfl⟩
section
variable {X : Cx} {pins : List (Addr × Obj)} {σ : St} {H : Hp} {s : Shared} {a : Addr} {y v : V} {u r : Value} {o : Option V} {A : Around} {E : Value → Shared → Prop}

theorem Inv.big (I : Inv X pins σ H s) : sysModules < s.heap.objs.size := by
  have h : mainGlobals < s.heap.objs.size := (I.mod.glob.keeps I.bk).lt
  exact Nat.lt_trans (by decide) h

/-- d[y], there -/
theorem d_getItem {Q : Value → Shared → Prop} (hu : A.units + 1 < cLine) (I : Inv X pins σ H s) (g : DGet H a y (some v)) (ry : RelV y u) (h : ∀ w' s', Inv X pins σ H s' → RelV v w' → Q w' s') :
    wpAny (model X.prog X.w) A (getItem (.ref a) u) Q E s := by
  rcases g with ⟨kvs, k, e, ey, l⟩ | ⟨kvs, k, b, e, ey, eb, l⟩
  · subst ey
    obtain ⟨z, hd, vs, rel, dd⟩ := dk_rd I.hok e
    obtain ⟨w', hw, rw'⟩ := RelO.some_of (v := v) (o := valueAt vs k) (by rw [l]; exact rel.val k)
    exact wpAny_getItem_of (kV_is ry) dd.mapOf hw (h w' _ (I.tok _) rw')
  · subst ey
    cases (show u = Value.ref b from ry)
    obtain ⟨z, hd, xs, rel, dd⟩ := dt_rd I.hok e
    obtain ⟨w', hw, rw'⟩ := RelO.some_of (v := v) (o := (atKey xs k).map (·.2)) (by rw [l]; exact rel.val k)
    obtain ⟨p, hp, hp2⟩ := Option.map_eq_some_iff.mp hw
    refine wpAny_getItem_heap (tupleKind_room_in1 hu) (key_of I.hok eb) dd hp ?_
    rw [hp2]
    exact h w' _ (I.tok _) rw'
/-- y in d -/
theorem d_in {Q : Value → Shared → Prop} (hu : A.units + 1 < cLine) (I : Inv X pins σ H s) (g : DGet H a y o) (ry : RelV y u) (h : ∀ s', Inv X pins σ H s' → Q (.bool o.isSome) s') :
    wpAny (model X.prog X.w) A (compareOp .In u (.ref a)) Q E s := by
  rcases g with ⟨kvs, k, e, ey, l⟩ | ⟨kvs, k, b, e, ey, eb, l⟩
  · subst ey
    obtain ⟨z, hd, vs, rel, dd⟩ := dk_rd I.hok e
    refine wpAny_in_of (kV_is ry) hd dd.mapOf ?_
    rw [← (rel.val k).isSome_eq, ← l]
    exact h _ (I.tok _)
  · subst ey
    cases (show u = Value.ref b from ry)
    obtain ⟨z, hd, xs, rel, dd⟩ := dt_rd I.hok e
    refine wpAny_in_heap (tupleKind_room_in1 hu) (key_of I.hok eb) hd dd ?_
    have q := (rel.val k).isSome_eq
    rw [Option.isSome_map] at q
    rw [← q, ← l]
    exact h _ (I.tok _)
theorem d_notIn {Q : Value → Shared → Prop} (hu : A.units + 1 < cLine) (I : Inv X pins σ H s) (g : DGet H a y o) (ry : RelV y u) (h : ∀ s', Inv X pins σ H s' → Q (.bool (!o.isSome)) s') :
    wpAny (model X.prog X.w) A (compareOp .NotIn u (.ref a)) Q E s := by
  rcases g with ⟨kvs, k, e, ey, l⟩ | ⟨kvs, k, b, e, ey, eb, l⟩
  · subst ey
    obtain ⟨z, hd, vs, rel, dd⟩ := dk_rd I.hok e
    refine wpAny_notIn_of (kV_is ry) hd dd.mapOf ?_
    rw [← (rel.val k).isSome_eq, ← l]
    exact h _ (I.tok _)
  · subst ey
    cases (show u = Value.ref b from ry)
    obtain ⟨z, hd, xs, rel, dd⟩ := dt_rd I.hok e
    refine wpAny_notIn_heap (tupleKind_room_in1 hu) (key_of I.hok eb) hd dd ?_
    have q := (rel.val k).isSome_eq
    rw [Option.isSome_map] at q
    rw [← q, ← l]
    exact h _ (I.tok _)
/-- a dict's object is replaced -/
theorem d_write {h' : Heap} {t' : Nat} {ob : HO} (I : Inv X pins σ H s) (mu : Mut (H a)) (hs : Heap.SameBut a s.heap h') (he : ∃ q, h'.get? a = some q) (new : ObjOk X.prog X.w (upd H a ob) h' a ob) :
    Inv X pins σ (upd H a ob) { s with heap := h', toks := t' } :=
  I.write (x := a) (e := a) mu (.inl rfl) (fun b q hb z => (hs.2 b hb).trans z) he new
theorem dk_new {P : Program} {w : World} {H' : Hp} {h' : Heap} {kvs : List (Key × V)} {vs : List (Key × Value)} (z : kvs.length ≤ sizeLine) (hd : (a == sysModules) = false) (rel : KV kvs vs) (dd : h'.DictOf (mixKind P w) a vs) :
    ObjOk P w H' h' a (.dK kvs) := ⟨z, hd, vs, rel, dd⟩
/-- d[y] = v -/
theorem d_setItem {H' : Hp} {Q : Unit → Shared → Prop} (hu : A.units + 1 < cLine) (I : Inv X pins σ H s) (g : DPut H a y v H') (ry : RelV y u) (rv : RelV v r) (h : ∀ s', Inv X pins σ H' s' → Q () s') :
    wpAny (model X.prog X.w) A (setItem (.ref a) u r) Q E s := by
  rcases g with ⟨kvs, k, e, ey, l, eH⟩ | ⟨kvs, k, b, e, ey, eb, l, eH⟩
  · subst ey eH
    obtain ⟨z, hd, vs, rel, dd⟩ := dk_of I.hok e
    have hz : vs.length ≤ sizeLine := by rw [← rel.length]; exact z
    have hl : (putK kvs k v).length ≤ sizeLine := by have := length_putK kvs k v; omega
    refine wpAny_setItem_pairs (hsz := hz) (kV_is ry) dd fun h' dd' hs => h _ ?_
    have he : ∃ q, h'.get? a = some q := let ⟨q, _, _, hq, _⟩ := dd'; ⟨q, hq⟩
    exact d_write I (by rw [e]; exact True.intro) hs he (dk_new hl hd (rel.put k rv) dd')
  · subst ey eH
    cases (show u = Value.ref b from ry)
    obtain ⟨z, hd, xs, rel, dd⟩ := dt_of I.hok e
    have hz : xs.length ≤ sizeLine := by rw [← Paired.length rel]; exact z
    have hl : (putK kvs k v).length ≤ sizeLine := by have := length_putK kvs k v; omega
    refine wpAny_setItem_heap (hsz := hz) (tupleKind_room_in1 hu) (key_of I.hok eb) dd fun h' dd' hs => h _ ?_
    obtain ⟨q, es, ep, hq, h2, h3, h4, _, h5⟩ := dd'
    refine d_write I (by rw [e]; exact True.intro) hs ⟨q, hq⟩ ⟨hl, hd, _, (rel.put k eb rv).keeps fun c ys ec => ?_, q, es, ep, hq, h2, h3, h4, h5⟩
    rw [upd_ne (ne_of ec e (fun z => nomatch z))]
    exact ec
end

section
variable {X : Cx} {pins : List (Addr × Obj)} {σ : St} {H : Hp} {s : Shared} {a : Addr} {kvs : List (Key × V)} {k : Key} {u : Value} {A : Around} {E : Value → Shared → Prop}
/-- len(d) -/
theorem d_len {Q : Value → Shared → Prop} (I : Inv X pins σ H s) (e : Rd H a (.dK kvs)) (h : ∀ t s', Inv X pins σ H s' → Q (.int kvs.length t) s') : wpAny (model X.prog X.w) A (call (.builtin "len") [.ref a]) Q E s := by
  obtain ⟨z, hd, vs, rel, dd⟩ := dk_rd I.hok e
  refine call_len_dict hd dd (by rw [← rel.length]; rw [sizeLine_eq] at z; omega) ?_
  rw [← rel.length]
  exact h _ _ (I.tok _)
end


/-! ### readings and rules -/
/-- the element of a subscription, not a slice -/
def NoSl (i : Expr) : Prop := ∀ ov iv, subscripted i false ov iv = operate [ov, iv] (getItem ov iv)
theorem subD_of {prog : Program} {w : World} {A : Around} {E : Value → Shared → Prop} {s : Shared} {env : Env} {value slice : Expr} {pos : Pos} {T id : String} {Q : Value → Shared → Prop}
    (hl : typeLookup (.type T) "__getitem__" = pure (some (.builtin id))) (hs : NoSl slice)
    (h : wpAny (model prog w) A (eval value env) (fun o s₁ => wpAny (model prog w) A (eval slice env) (fun i s₂ => s₂.TypeIs o T ∧ wpAny (model prog w) A (getItem o i) Q E s₂) E s₁) E s) :
    wpAny (model prog w) A (eval (.Subscript value slice pos) env) Q E s := by
  refine Subscript_ (wpAny_mono h (fun o s₁ h₁ => wpAny_mono h₁ (fun i s₂ h₂ => ?_) fun _ _ x => x) fun _ _ x => x)
  obtain ⟨hT, h₂⟩ := h₂
  unfold subscriptTail
  refine wpAny_bind ?_
  rw [getitemInPython_of_ne hT.not_modules]
  refine wpAny_bind (wpAny_specialOf hT hl ?_)
  have fin : wpAny (model prog w) A (subscripted slice false o i) (fun r s₃ => wpAny (model prog w) A (letTemporaryGo value o r >>= fun _ => pure r) Q E s₃) E s₂ := by
    rw [hs o i]
    exact wpAny_operating (wpAny_mono h₂ (fun r s₃ h₃ => wpAny_bind (wpAny_letTemporaryGo (wpAny_pure h₃))) fun _ _ x => x)
  first
    | exact wpAny_pure (wpAny_bind fin)
    | exact wpAny_bind (wpAny_pure (wpAny_bind fin))
    | exact wpAny_bind fin

theorem dict_typeIs {X : Cx} {pins : List (Addr × Obj)} {σ : St} {H : Hp} {s : Shared} {a : Addr} {y : V} {o : Option V} (I : Inv X pins σ H s) (g : DGet H a y o) : s.TypeIs (.ref a) "dict" := by
  rcases g with ⟨kvs, k, e, _, _⟩ | ⟨kvs, k, b, e, _, _, _⟩
  · obtain ⟨_, _, vs, _, dd⟩ := dk_rd I.hok e
    exact dd.typeIs
  · obtain ⟨_, _, xs, _, dd⟩ := dt_rd I.hok e
    exact dd.typeIs
/-- d[y] -/
def tDGet (td ty : TE) : TE := fun σ H Q => td σ H fun x H1 => ty σ H1 fun y H2 => ∃ a v, x = .ref a ∧ DGet H2 a y (some v) ∧ Q v H2
/-- y in d, y not in d -/
def tDIn (ty td : TE) : TE := fun σ H Q => ty σ H fun y H1 => td σ H1 fun x H2 => ∃ a o, x = .ref a ∧ DGet H2 a y o ∧ Q (.bl o.isSome) H2
def tDNotIn (ty td : TE) : TE := fun σ H Q => ty σ H fun y H1 => td σ H1 fun x H2 => ∃ a o, x = .ref a ∧ DGet H2 a y o ∧ Q (.bl (!o.isSome)) H2
/-- d[y] = v -/
def sDPut (td ty tv : TE) : TS := fun D σ H => tv σ H fun v H1 => td σ H1 fun x H2 => ty σ H2 fun y H3 => ∃ a H4, x = .ref a ∧ DPut H3 a y v H4 ∧ D.nx σ H4
section
variable {X : Cx} {o i e value : Expr} {pos pos' tpos : Pos} {td ty tv : TE}
theorem pe_dget (hu : X.A.units + 1 < cLine) (ho : PE X o td) (hi : PE X i ty) (hs : NoSl i) : PE X (.Subscript o i pos) (tDGet td ty) := by
  intro pins s σ H Q I h
  refine subD_of PySem.F.slot_dict_getitem.lookup hs (thn (ho pins s σ H _ I h) fun u s1 ⟨x, H1, I1, rx, q1⟩ => thn (hi pins s1 σ H1 _ I1 q1) fun iv s2 ⟨y, H2, I2, ry, a, v, ex, g, q2⟩ => ?_)
  subst ex
  obtain rfl : u = Value.ref a := rx
  exact ⟨dict_typeIs I2 g, d_getItem hu I2 g ry fun w' s3 I3 rw' => ⟨v, H2, I3, rw', q2⟩⟩
theorem pc_din (hu : X.A.units + 1 < cLine) (hi : PE X i ty) (ho : PE X o td) : PC X .In i o (tDIn ty td) := by
  intro pins s σ H Q I h
  refine thn (hi pins s σ H _ I h) fun iv s1 ⟨y, H1, I1, ry, q1⟩ => thn (ho pins s1 σ H1 _ I1 q1) fun u s2 ⟨x, H2, I2, rx, a, ov, ex, g, q2⟩ => ?_
  subst ex
  obtain rfl : u = Value.ref a := rx
  exact d_in hu I2 g ry fun s3 I3 => ⟨.bl ov.isSome, H2, I3, rfl, q2⟩
theorem pc_dnotin (hu : X.A.units + 1 < cLine) (hi : PE X i ty) (ho : PE X o td) : PC X .NotIn i o (tDNotIn ty td) := by
  intro pins s σ H Q I h
  refine thn (hi pins s σ H _ I h) fun iv s1 ⟨y, H1, I1, ry, q1⟩ => thn (ho pins s1 σ H1 _ I1 q1) fun u s2 ⟨x, H2, I2, rx, a, ov, ex, g, q2⟩ => ?_
  subst ex
  obtain rfl : u = Value.ref a := rx
  exact d_notIn hu I2 g ry fun s3 I3 => ⟨.bl (!ov.isSome), H2, I3, rfl, q2⟩
theorem ps_dput (hu : X.A.units + 1 < cLine) (ho : PE X o td) (hi : PE X i ty) (hv : PE X value tv) (hs : swapsWith value (some (.Subscript o i pos')) pos.line X.env = pure false) :
    PS X (.Assign [.Subscript o i pos'] value pos) (sDPut td ty tv) := by
  intro pins s σ H D I h
  refine wpAny_Assign_Subscript (thn (hv pins s σ H _ I h) fun r s1 ⟨v, H1, I1, rv, q1⟩ => thn (ho pins s1 σ H1 _ I1 q1) fun u s2 ⟨x, H2, I2, rx, q2⟩ => thn (hi pins s2 σ H2 _ I2 q2) fun iv s3 ⟨y, H3, I3, ry, a, H4, ex, g, q3⟩ => ?_) hs
  subst ex
  obtain rfl : u = Value.ref a := rx
  exact d_setItem hu I3 g ry rv fun s4 I4 => ⟨σ, H4, I4, q3⟩
end


/-! ### displays -/
theorem dk_empty {P : Program} {w : World} {H : Hp} (h : Heap) (hb : sysModules < h.objs.size) : ObjOk P w H (h.push { cls := .type "dict", data := .dict #[] }) h.objs.size (.dK []) :=
  ⟨Nat.zero_le _, beq_eq_false_iff_ne.mpr (Ne.symm (Nat.ne_of_lt hb)), [], .nil, Heap.DictOf.new h⟩
/-- {}, to be a dict of the kind that is wanted -/
def tDNewK : TE := fun _ H Q => ∀ p, H p = none → Q (.ref p) (upd H p (.dK []))
section
variable {X : Cx} {pos : Pos}
theorem pe_dnewK : PE X (.Dict [] [] pos) tDNewK := fun pins s σ H Q I h =>
  wpAny_Dict_empty ⟨.ref s.heap.objs.size, _, I.laid (a := s.heap.objs.size) (o := .dK []) (t' := s.toks) (fun _ _ q => Heap.get?_push_of_some _ q) (Nat.le_refl _) (dk_empty s.heap I.big), rfl, h _ (I.hok.fresh (Nat.le_refl _))⟩
end

/-- the pairs of a display, from the left -/
def tPairs : List (TE × TE) → St → Hp → (List (V × V) → Hp → Prop) → Prop
  | [], _, H, Q => Q [] H
  | (tk, tv) :: r, σ, H, Q => tk σ H fun x H1 => tv σ H1 fun y H2 => tPairs r σ H2 fun ps H3 => Q ((x, y) :: ps) H3
abbrev VV : List (V × V) → List (Value × Value) → Prop := Paired fun p q => RelV p.1 q.1 ∧ RelV p.2 q.2
def PPs (X : Cx) (pos : Pos) (keys : List (Option Expr)) (values : List Expr) (trs : List (TE × TE)) : Prop :=
  ∀ (pins : List (Addr × Obj)) (s : Shared) (σ : St) (H : Hp) (Q : List (V × V) → Hp → Prop), Inv X pins σ H s → tPairs trs σ H Q →
    wpAny (model X.prog X.w) X.A (evalPairs (pairTrees keys values X.env pos)) (fun vs s' => ∃ ps H', Inv X pins σ H' s' ∧ VV ps vs ∧ Q ps H') X.xe s
theorem pps_nil {X : Cx} {pos : Pos} : PPs X pos [] [] [] := fun pins s σ H Q I h => pairTrees_nil_walk ⟨[], H, I, .nil, h⟩
theorem pps_cons {X : Cx} {pos : Pos} {k v : Expr} {ks : List (Option Expr)} {vs : List Expr} {tk tv : TE} {trs : List (TE × TE)} (hk : PE X k tk) (hv : PE X v tv) (hr : PPs X pos ks vs trs) :
    PPs X pos (some k :: ks) (v :: vs) ((tk, tv) :: trs) := fun pins s σ H Q I h =>
  pairTrees_cons_walk (thn (hk pins s σ H _ I h) fun u s1 ⟨x, H1, I1, rx, q1⟩ => thn (hv pins s1 σ H1 _ I1 q1) fun w2 s2 ⟨y, H2, I2, ry, q2⟩ =>
    thn (hr pins s2 σ H2 _ I2 q2) fun ws s3 ⟨ps, H3, I3, rel, q3⟩ => ⟨(x, y) :: ps, H3, I3, .cons ⟨rx, ry⟩ rel, q3⟩)

def mergeK (kvs more : List (Key × V)) : List (Key × V) := more.foldl (fun acc kv => putK acc kv.1 kv.2) kvs
theorem KV.merge : ∀ {more : List (Key × V)} {rs : List (Key × Value)} {kvs : List (Key × V)} {vs : List (Key × Value)}, KV more rs → KV kvs vs → KV (mergeK kvs more) (merged vs rs) := by
  intro more rs kvs vs r
  unfold KV at r
  induction r generalizing kvs vs with
  | nil => intro q; exact q
  | @cons p q ps qs h t ih =>
    intro r0
    have e : KV (putK kvs p.1 p.2) (stored vs q.1 q.2) := by
      have := r0.put p.1 h.2
      rw [← h.1]; exact this
    exact ih e
theorem length_mergeK : ∀ (more kvs : List (Key × V)), (mergeK kvs more).length ≤ kvs.length + more.length
  | [], kvs => by show kvs.length ≤ kvs.length + 0; omega
  | p :: r, kvs => by
    have h1 := length_mergeK r (putK kvs p.1 p.2)
    have h2 := length_putK kvs p.1 p.2
    show (mergeK (putK kvs p.1 p.2) r).length ≤ _
    rw [List.length_cons]; omega
theorem carries_of {P : Program} {w : World} : ∀ {kvs : List (Key × V)} {ws : List (Value × Value)}, VV (kvs.map fun kv => (kV kv.1, kv.2)) ws → ∃ rs, Carries (mixKind P w) ws rs ∧ KV kvs rs
  | [], _, r => by rw [List.map_nil] at r; cases r; exact ⟨[], True.intro, .nil⟩
  | p :: kvs, _, r => by
    rw [List.map_cons] at r
    cases r with
    | @cons a b as bs h t =>
      obtain ⟨rs, c, q⟩ := carries_of (P := P) (w := w) t
      obtain ⟨b1, b2⟩ := b
      exact ⟨(p.1, b2) :: rs, ⟨kV_is h.1, rfl, c⟩, .cons ⟨rfl, h.2⟩ q⟩
/-- {k: v, ..} with keys ints and texts; the new dict stands empty while the pairs are made -/
def tDisp (trs : List (TE × TE)) : TE := fun σ H Q => ∀ p, H p = none → tPairs trs σ (upd H p (.dK [])) fun ps H2 => H2 p = some (.dK []) ∧ ∃ kvs : List (Key × V), ps = kvs.map (fun kv => (kV kv.1, kv.2)) ∧ kvs.length ≤ 15 ∧ Q (.ref p) (upd H2 p (.dK (mergeK [] kvs)))
theorem pe_disp {X : Cx} {pos : Pos} {keys : List (Option Expr)} {values : List Expr} {trs : List (TE × TE)} (h : PPs X pos keys values trs) (hall : keys.all (·.isSome) = true) (hl : keys.length = values.length) (h0 : keys ≠ [])
    (h15 : keys.length ≤ 15) : PE X (.Dict keys values pos) (tDisp trs) := by
  intro pins s σ H Q I q
  have hn := I.hok.fresh (Nat.le_refl s.heap.objs.size)
  have I1 := I.laid (a := s.heap.objs.size) (o := .dK []) (h' := s.heap.push { cls := .type "dict", data := .dict #[] }) (t' := s.toks) (fun _ _ q => Heap.get?_push_of_some _ q) (Nat.le_refl _) (dk_empty s.heap I.big)
  refine wpAny_Dict_walk (knd := mixKind X.prog X.w) hall hl h0 h15 (thn (h pins _ σ _ _ I1 (q _ hn)) fun ws s2 ⟨ps, H2, I2, rel, e, kvs, ep, lk, q2⟩ => ?_)
  subst ep
  obtain ⟨rs, c, rk⟩ := carries_of (P := X.prog) (w := X.w) rel
  obtain ⟨z, hd, vs0, r0, dd⟩ := dk_of I2.hok e
  cases r0
  refine ⟨rs, c, dd, fun h' dd' hs => ⟨.ref s.heap.objs.size, _, ?_, rfl, q2⟩⟩
  have hz : (mergeK [] kvs).length ≤ sizeLine := by
    have h1 := length_mergeK kvs []
    rw [List.length_nil] at h1
    rw [sizeLine_eq]; omega
  have he : ∃ q, h'.get? s.heap.objs.size = some q := let ⟨q, _, _, hq, _⟩ := dd'; ⟨q, hq⟩
  exact d_write I2 (by rw [e]; exact True.intro) hs he (dk_new hz hd (rk.merge .nil) dd')


/-! ### methods -/
structure M2 (X : Cx) (o : Expr) (m : Str) (apos : Pos) (e f : Expr) (cpos : Pos) : Prop where
  base : attributeBase o m X.env (eval o X.env) = eval o X.env
  few : ((backTo cpos (starEach [e, f] X.env)).all (fun x => !x.1) && (backToKw cpos (keywordEach [] X.env)).all (fun x => x.1.isSome)
    && decide (([e, f] : List Expr).length + ([] : List Keyword).length + (if ([] : List Keyword).isEmpty then 0 else 1) < 30)) = true
  line : (apos.endLine == cpos.line) = true
  trees : backTo cpos (starEach [e, f] X.env) = [(false, eval e X.env), (false, eval f X.env)]

/-- a is a dict, whatever its keys -/
def IsD (H : Hp) (a : Addr) : Prop := (∃ kvs, Rd H a (.dK kvs)) ∨ ∃ kvs, Rd H a (.dT kvs)
theorem isD_at {X : Cx} {pins : List (Addr × Obj)} {σ : St} {H : Hp} {s : Shared} {a : Addr} (I : Inv X pins σ H s) (d : IsD H a) :
    s.TypeIs (.ref a) "dict" ∧ (∀ b, Value.ref a = .ref b → ∃ ob, s.heap.get? b = some ob ∧ ob.dict = none) ∧ (a == sysModules) = false := by
  rcases d with ⟨kvs, e⟩ | ⟨kvs, e⟩
  · obtain ⟨_, hd, vs, _, dd⟩ := dk_rd I.hok e
    refine ⟨dd.typeIs, fun b q => ?_, hd⟩
    cases q
    obtain ⟨ob, _, _, h1, h2, _⟩ := dd
    exact ⟨ob, h1, h2.2.1⟩
  · obtain ⟨_, hd, xs, _, dd⟩ := dt_rd I.hok e
    refine ⟨dd.typeIs, fun b q => ?_, hd⟩
    cases q
    obtain ⟨ob, _, _, h1, h2, _⟩ := dd
    exact ⟨ob, h1, h2.2.1⟩

section
variable {X : Cx} {pins : List (Addr × Obj)} {σ : St} {H : Hp} {s : Shared} {a : Addr} {y d : V} {u r : Value} {o : Option V} {A : Around} {E : Value → Shared → Prop}
/-- d.get(y, x) -/
theorem d_get2 {Q : Value → Shared → Prop} (hu : A.units + 1 < cLine) (I : Inv X pins σ H s) (g : DGet H a y o) (ry : RelV y u) (rd : RelV d r) (h : ∀ w' s', Inv X pins σ H s' → RelV (o.getD d) w' → Q w' s') :
    wpAny (model X.prog X.w) A (call (.builtin "dict.get") [.ref a, u, r]) Q E s := by
  rcases g with ⟨kvs, k, e, ey, l⟩ | ⟨kvs, k, b, e, ey, eb, l⟩
  · subst ey
    obtain ⟨z, hd, vs, rel, dd⟩ := dk_rd I.hok e
    refine call_meetsIn PySem.F.slot_dict_get dd.typeIs PySem.F.entry_dict_get (PySem.F.args_dict_get_3 _ _ _) (meets_dict_get_default (mixKind X.prog X.w) a (kV_is ry) hd r) ⟨_, dd.mapOf, h _ _ (I.tok _) ?_⟩
    rw [l]
    exact (rel.val k).getD rd
  · subst ey
    cases (show u = Value.ref b from ry)
    obtain ⟨z, hd, xs, rel, dd⟩ := dt_rd I.hok e
    refine call_meetsIn PySem.F.slot_dict_get dd.typeIs PySem.F.entry_dict_get (PySem.F.args_dict_get_3 _ _ _) (meetsH_dict_get_default (tupleKind (mixKind X.prog X.w)) a b hd r) ⟨tupleKind_room_in1 hu, k, xs, key_of I.hok eb, dd, h _ _ (I.tok _) ?_⟩
    rw [l]
    exact (rel.val k).getD rd
end

def tDGet2 (td ty tx : TE) : TE := fun σ H Q => td σ H fun x H1 => ∃ a, x = .ref a ∧ IsD H1 a ∧ ty σ H1 fun y H2 => tx σ H2 fun z H3 => ∃ o, DGet H3 a y o ∧ Q (o.getD z) H3
section
variable {X : Cx} {o e f : Expr} {apos cpos : Pos} {td ty tx : TE}
theorem pe_dget2 (hu : X.A.units + 1 < cLine) (ho : PE X o td) (he : PE X e ty) (hf : PE X f tx) (m : M2 X o "get" apos e f cpos) : PE X (.Call (.Attribute o "get" apos) [e, f] [] cpos) (tDGet2 td ty tx) := by
  intro pins s σ H Q I h
  refine wpAny_Call_method m.base m.few m.line PySem.F.plainAttrs_dict PySem.F.slot_dict_get PySem.F.type_dict_get (thn (ho pins s σ H _ I h) fun u s1 ⟨x, H1, I1, rx, a, ex, d, q1⟩ => ?_)
  subst ex
  obtain rfl : u = Value.ref a := rx
  obtain ⟨t1, t2, _⟩ := isD_at I1 d
  refine ⟨t1, t2, ?_⟩
  rw [m.trees]
  refine Calls.callWith_builtin rfl (Calls.evalArgs_plain (Calls.spliced_cons (thn (he pins s1 σ H1 _ I1 q1) fun iv s2 ⟨y, H2, I2, ry, q2⟩ =>
    Calls.spliced_cons (thn (hf pins s2 σ H2 _ I2 q2) fun fv s3 ⟨z, H3, I3, rz, ov, g, q3⟩ => Calls.spliced_nil ?_))))
  exact d_get2 hu I3 g ry rz fun w' s4 I4 rw' => ⟨_, H3, I4, rw', q3⟩
end

/-! ### dict(d): a copy -/
section
variable {X : Cx} {pins : List (Addr × Obj)} {σ : St} {H : Hp} {s : Shared} {a : Addr} {kvs : List (Key × V)} {A : Around} {E : Value → Shared → Prop}
end


section
variable {X : Cx} {pins : List (Addr × Obj)} {σ : St} {H : Hp} {s : Shared} {a : Addr} {y : V} {u : Value} {A : Around} {E : Value → Shared → Prop}
end
end L2

namespace Att
open PySem PySem.W PySem.Calls PyProof.Rows

/-! ### the script -/
theorem ints_of_wellAll {P : Params} {h : Heap} : ∀ (ns : List Int) (vs : List Value), WellAll P h vs (ns.map WData.int) → IntsAre vs ns := by
  intro ns
  induction ns with
  | nil =>
    intro vs w
    rw [List.map_nil] at w
    cases w
    exact .nil
  | cons n ns ih =>
    intro vs w
    rw [List.map_cons] at w
    cases w with
    | cons a b =>
      cases a
      exact .cons _ _ (ih _ b)

theorem script_of {l : OpenLaw} {n : Nat} (hn : l.most = some n) {P : Params} {h : Heap} {args : List WData} {vals : List Value}
    (hpre : l.row.toRowW.claim.pre args = true) (hwl : WellAll P h vals args) :
    ∃ a vs ns, vals = [Value.ref a] ∧ args = [WData.list (ns.map WData.int)] ∧ h.get? a = some { cls := .type "list", data := .seq vs.toArray } ∧ IntsAre vs ns ∧ ns.length ≤ n := by
  have hsh : WShape.hasAll [] args [.list .int] = true := (pre_splitW hpre).1
  have hc : l.pre.holds [] { args := args } = true := (pre_splitW hpre).2
  obtain ⟨d, r, rfl, h1, h2⟩ := hasAllW_cons hsh
  obtain rfl := hasAllW_nil h2
  obtain ⟨xs, rfl, h3⟩ := hasW_list h1
  obtain ⟨ns, rfl⟩ := items_int h3
  have hlen : ns.length ≤ n := by
    unfold OpenLaw.pre at hc
    have h4 : (WTm.not (.lt (.lit (.int (n : Int))) (.len (.arg 0)))).holds [] { args := [.list (ns.map .int)] } = true := by
      have h4 := (holds_andW hc).1
      rw [hn] at h4
      exact h4
    have h5 := condW_of h4 (w_not (w_lt w_lit (w_len_list (w_arg rfl))))
    rw [List.length_map] at h5
    refine Nat.le_of_not_lt fun q => ?_
    have q' : (n : Int) < ((ns.length : Nat) : Int) := by omega
    first
      | (rw [decide_eq_true q'] at h5; exact absurd h5 (by decide))
      | (simp at h5; omega)
  cases hwl with
  | cons w1 w2 =>
    cases w2
    cases w1 with
    | list ho hall => exact ⟨_, _, ns, rfl, rfl, ho, ints_of_wellAll ns _ hall, hlen⟩

theorem post_true (l : OpenLaw) (args : List WData) : l.row.toRowW.claim.post args (.bool true) args = true :=
  postW_of (r := l.row.toRowW) (X := (true == true))
    (show WShape.has [] (.bool true) .bool = true by first | rfl | decide | simp [WShape.has, WShape.arms, WShape.armsAll])
    (show (WTm.eq .res (.lit (.bool true))).value [] { args := args, res := some (.bool true), after := args } = some (.bool (true == true)) from w_eq_bool (w_res rfl) w_lit) rfl

/-! ### the attachment: holds_open's last premise (the goal 'hc' behind k_head) from a wpAny of the law's body -/
/-- the same from a codeAny of the CALL (for a layer whose function contracts speak of calls) -/
theorem attach_call {l : OpenLaw} {n : Nat} {q : Program} {loose : List Str} {XP : (Str → Option Value) → Heap → Prop} {YP : World → Heap → Prop} {d : DefRec}
    (hn : l.most = some n) (hdf : d.params.defaults = [])
    (call : ∀ (w : World) (s₀ s₁ : Shared) (mg mb : Str → Option Value) (fa : Addr) (o : Obj) (pm cd doc : Value) (a : Addr) (vs : List Value) (ns : List Int),
      Ground q loose [] XP w s₀ mg mb s₁.heap → YP w s₁.heap →
      s₁.heap.get? fa = some o → o.data = .func (docDef d.name d.params d.body d.scope pm cd doc) → s₁.heap.CodeRec cd d.name → mg d.name = some (.ref fa) →
      s₁.heap.get? a = some { cls := .type "list", data := .seq vs.toArray } → IntsAre vs ns → ns.length ≤ n → s₁.gens = #[] →
      codeAny (model l.prog w) callerA (.call (.ref fa) ⟨[.ref a], []⟩) (fun r s' => r = .ok (.ret (.bool true)) ∧ OldK s₁.heap s'.heap ∧ s'.os = s₁.os ∧ AllBare s'.gens) s₁) :
    WalkO q loose XP YP l.row.toRowW d [] (fun f vs => PySem.call f vs) := by
  intro w s₀ s₁ mg mb G Y fa o pm cd doc dV kV ho hd hcd hD hmg hg args vals as hpre hlay hrd hwl hlo
  obtain rfl : dV = .none := Dflts.none hD hdf
  obtain rfl : kV = .none := Dflts.noKw hD
  obtain ⟨a, vs, ns, rfl, rfl, hobj, hints, hlen⟩ := script_of hn hpre hwl
  refine enter_call (codeAny_mono (call w s₀ s₁ mg mb fa o pm cd doc a vs ns G Y ho (fd_plain hd) hcd hmg hobj hints hlen hg) fun r s' hq => ?_)
  obtain ⟨rfl, h2, h3, h4⟩ := hq
  exact ⟨.inl ⟨.bool true, .bool true, [], rfl, fun _ => rfl, .bool true, post_true l _, fun _ => ⟨List.Pairwise.nil, fun _ hm => (nomatch hm)⟩⟩, h2, h3, h4⟩

/-! ### rules over ANY heap (no ledger) from facts about the written part K: the library's own take a ledger (News) for what they write -/
section
variable {prog : Program} {w : World} {A : Around} {E : Value → Shared → Prop} {s : Shared} {K : Frag}

/-! the whole heap as the ledger: makes every rule that writes through a ledger a rule over any heap -/
end
end Att

namespace L2
open PySem PySem.Spec PyProof.Rows

theorem vals_ints : ∀ {vs : List Value} {ns : List Int}, IntsAre vs ns → Vals (ns.map V.int) vs
  | _, _, .nil => .nil
  | _, _, .cons n t h => .cons ⟨t, rfl⟩ (vals_ints h)

/-- nothing is tracked but the script, known to the object (or it is an object of the module) -/
def Only (H : Hp) : Prop := ∀ b, H b = none ∨ ∃ o xs, H b = some (.frz o (.lst xs))

/-- THE HEAD: the law's promise, at the heap behind the top. F, the promise of the law's def, may use that base is part of the heap (so K.In base, base.Ns mainGlobals mg stand in Mod) -/
theorem law_call {P : Program} {w : World} {K : PySem.W.Frag} {mg mb : Str → Option Value} {CX : CXT} {k : Nat} {fa a : Addr} {fd : FuncData} {x : Str} {sp : Sp} {s₁ : Shared} {vs : List Value} {ns : List Int}
    (KX : K.In s₁.heap) (hns : s₁.heap.Ns mainGlobals mg) (hb : s₁.heap.Ns builtinsNs mb) (hbb : ∀ x : Str, x ≠ "__name__" → mb x = bootBuiltins x) (hlim : s₁.heap.NoLimit) (hg : s₁.gens = #[])
    (ha : s₁.heap.get? a = some { cls := .type "list", data := .seq vs.toArray }) (hi : IntsAre vs ns) (hl : ns.length ≤ sizeLine) (hr : Room k callerA)
    (F : ∀ base : Heap, K.In base → base.Ns mainGlobals mg → FnOk P w K mg base CX k fa fd [x] sp) (hbind : ∀ (s : Shared) (u : Value), BindsTo s fd ⟨[u], []⟩ [(x, u)])
    (hsp : ∀ H : Hp, Only H → SqL K H a (ns.map V.int) → sp [.ref a] H (fun v _ => v = .bl true) fun _ _ _ => False)
    (hCX : ∀ H e s', CX [] H s₁ (fun _ _ _ => False) e s' → False) :
    codeAny (model P w) callerA (.call (.ref fa) ⟨[.ref a], []⟩) (fun r s' => r = .ok (.ret (.bool true)) ∧ OldK s₁.heap s'.heap ∧ s'.os = s₁.os ∧ AllBare s'.gens) s₁ := by
  have rv := vals_ints hi
  have lenV := hi.length
  -- from an abstract heap in which nothing but the script may be tracked
  have core : ∀ H : Hp, Only H → SqL K H a (ns.map V.int) → HOk P w H s₁.heap → (∀ b, H b ≠ none → b = a) → (H a ≠ none → K.lookup a = none) →
      codeAny (model P w) callerA (.call (.ref fa) ⟨[.ref a], []⟩) (fun r s' => r = .ok (.ret (.bool true)) ∧ OldK s₁.heap s'.heap ∧ s'.os = s₁.os ∧ AllBare s'.gens) s₁ := by
    intro H hO hS hok hA hK
    have base_of : ∀ {b : Addr} {o : Obj}, s₁.heap.get? b = some o → H b = none → (hidT s₁.heap H).get? b = some o := fun e n => hidT_get e n
    have noA : ∀ {b : Addr} {o : Obj} {es : Array DictEntry} {ep : Nat}, s₁.heap.get? b = some o → o.data = .dict es ep → H b = none := fun {b o es ep} e d => by
      cases q : H b with
      | none => rfl
      | some u =>
        have e' : b = a := hA b (by rw [q]; simp)
        subst e'
        rw [ha] at e; cases e
        have d' : Data.seq vs.toArray _ = Data.dict es ep := d
        cases d'
    have nsK : ∀ {b : Addr} {m : Str → Option Value}, s₁.heap.Ns b m → (hidT s₁.heap H).Ns b m := fun {b m} ⟨o, es, ep, e, d, r⟩ => ⟨o, es, ep, base_of e (noA e d), d, r⟩
    have hKb : K.In (hidT s₁.heap H) := fun b o e => base_of (KX b o e) (by
      cases q : H b with
      | none => rfl
      | some u =>
        have e' : b = a := hA b (by rw [q]; simp)
        subst e'
        rw [hK (by rw [q]; simp)] at e; cases e)
    have hM : Mod K mg (hidT s₁.heap H) := ⟨hKb, nsK hns, ⟨mb, nsK hb, hbb⟩, let ⟨mc, h1, h2⟩ := hlim; ⟨mc, nsK h1, h2⟩⟩
    have e0 : Env0 P w K mg (hidT s₁.heap H) callerA [] s₁ H := ⟨rfl, hM, fun b o e => of_hidT e, Nat.le_of_eq (hidT_size _ _), trivial, fun b hb => absurd (show b ∈ ([] : List Addr) from hb) (by simp), hok, .of_eq hg⟩
    refine codeAny_mono ((F _ hKb (nsK hns)).run callerA [] s₁ H ⟨[.ref a], []⟩ [.ref a] [.ref a] _ _ hr e0 (hbind s₁ (.ref a)) (.cons rfl .nil) (hsp H hO hS)) fun r s' h => ?_
    cases r with
    | error e => exact (hCX H e s' h).elim
    | ok fl =>
      cases fl with
      | next => exact False.elim h
      | brk => exact False.elim h
      | cont => exact False.elim h
      | ret u =>
        obtain ⟨v, H', os, bare, un, hok', r', q⟩ := h
        have q' : v = .bl true := q
        subst q'
        obtain rfl : u = Value.bool true := r'
        refine ⟨rfl, OldK.of_keep fun b o e => ?_, os, bare⟩
        cases q : H b with
        | none => exact un.keep b o e q (by intro z; exact absurd (show b ∈ ([] : List Addr) from z) (by simp)) (by simp)
        | some u =>
          rcases hO b with z | ⟨ob, xs, z⟩
          · rw [q] at z; cases z
          · have z2 := un.frzs b ob _ z
            obtain ⟨e1, _⟩ := hok b _ z
            obtain ⟨e2, _⟩ := hok' b _ z2
            rw [e] at e1; cases e1
            exact e2
  cases hk : K.lookup a with
  | some o =>
    -- the script is one of the module's own objects
    have e := KX a o hk
    rw [ha] at e
    cases e
    refine core (fun _ => none) (fun _ => .inl rfl) (.inr ⟨_, vs.toArray, _, hk, rfl, rfl, rfl, by rw [List.size_toArray, lenV]; exact hl, by simpa using rv⟩) (fun b u z => by have z' : (none : Option HO) = some u := z; cases z') (fun b z => absurd rfl z) fun z => absurd rfl z
  | none =>
    refine core (fun b => if b = a then some (.frz { cls := .type "list", data := .seq vs.toArray } (.lst (ns.map V.int))) else none) (fun b => ?_) (.inl (.inr ⟨{ cls := .type "list", data := .seq vs.toArray }, if_pos rfl⟩)) (fun b u z => ?_) (fun b z => ?_) fun _ => hk
    · by_cases hb : b = a
      · exact .inr ⟨_, _, if_pos hb⟩
      · exact .inl (if_neg hb)
    · by_cases hb : b = a
      · have z' := (if_pos hb).symm.trans z
        cases z'
        subst hb
        exact ⟨ha, by rw [List.length_map]; exact hl, vs, _, rv, ha⟩
      · have z' := (if_neg hb).symm.trans z
        cases z'
    · by_cases hb : b = a
      · exact hb
      · exact absurd (if_neg hb) z
end L2

namespace L2
open PySem PySem.Spec PyProof.Rows

/-- the goal that k_head leaves (case hc), from the law's promise. F gives the function object fd (K's own) once, then the promise over every base -/
theorem walk_of {l : PySem.W.OpenLaw} {n k : Nat} {q : Program} {loose : List Str} {XP : (Str → Option Value) → Heap → Prop} {YP : World → Heap → Prop} {d : DefRec} {K : Params → PySem.W.Frag} {CX : World → CXT} {sp : World → Sp} {x : Str}
    (hn : l.most = some n) (hn2 : n ≤ sizeLine) (hdf : d.params.defaults = []) (hr : Room k callerA)
    (hY : ∀ (w : World) (h : Heap), YP w h → (K w.params).In h)
    (F : ∀ (w : World) (mg : Str → Option Value) (fa : Addr) (h : Heap), (K w.params).In h → h.Ns mainGlobals mg → mg d.name = some (.ref fa) →
      ∃ fd : FuncData, (∀ (s : Shared) (u : Value), BindsTo s fd ⟨[u], []⟩ [(x, u)]) ∧
        ∀ base : Heap, (K w.params).In base → base.Ns mainGlobals mg → FnOk l.prog w (K w.params) mg base (CX w) k fa fd [x] (sp w))
    (hsp : ∀ (w : World) (H : Hp) (a : Addr) (ns : List Int), ns.length ≤ n → Only H → SqL (K w.params) H a (ns.map V.int) → sp w [.ref a] H (fun v _ => v = .bl true) fun _ _ _ => False)
    (hCX : ∀ (w : World) (H : Hp) (s : Shared) (e : Value) (s' : Shared), CX w [] H s (fun _ _ _ => False) e s' → False) :
    PySem.W.WalkO q loose XP YP l.row.toRowW d [] (fun f vs => PySem.call f vs) := by
  refine Att.attach_call hn hdf fun w s₀ s₁ mg mb fa o pm cd doc a vs ns G Y ho hd hcd hmg hobj hints hlen hg => ?_
  have KX := hY w _ Y
  obtain ⟨fd, hb, hF⟩ := F w mg fa _ KX G.T.g hmg
  exact law_call KX G.T.g G.T.b G.T.builtins G.T.nolimit hg hobj hints (Nat.le_trans hlen hn2) hr hF hb (fun H hO hS => hsp w H a ns hlen hO hS) fun H e s' => hCX w H s₁ e s'
end L2

/- THE LAST THEOREM (shape; LID, My.* are yours):
   My.Adr: a structure of the addresses that your layer names (classes, functions); My.Txt K t: a structure (Prop) of the equations over K;
   My.txt_mk : {K} {implicit addresses ..} (e1 : nsIn K mainGlobals "law" = some (some (.ref f))) (e2 : K.lookup f = some ⟨oc, od, .func (fnOf "law" "law" params body scope dV kV doc pm an cdv ct), sl⟩) (e3 : codeIn K cdv "law" = true) .. : ∃ t, My.Txt K t

set_option maxRecDepth 100000 in
set_option maxHeartbeats 0 in
theorem PySem.Challenge.cw_LID_holds : PySem.Challenge.rw_LID.Holds := by
  w_on; o_law; k_head; (case hw => w_witness2)
  k_fill
  refine L2.walk_of (l := PySem.Challenge.rw_LID) (n := 63) (k := 40) (x := "script") (CX := fun w => ..) (sp := fun _ => My.sp_law) rfl (by decide) rfl ⟨rfl, by decide, by decide⟩ (fun w h Y => PySem.W.kIn_of Y) ?F ?S ?C
  case F =>
    intro w mg fa h KX G hmg
    have T : ∃ t, My.Txt (L2.KOf KX) t := by
      dsimp only [L2.KOf]                          -- K must stand as «<heap const> w.params» for k_is
      refine' My.txt_mk ?e1 ?e2 ?e3 ..
      (case e1 => PySem.W.k_is)                    -- in the order: a name -> its address -> its object -> its parts
      (case e2 => PySem.W.k_is)
      ..
    obtain ⟨t, T⟩ := T
    have e0 := hmg.symm.trans (PySem.W.mg_of KX G T.law)
    cases e0                                       -- fa is the law's own address
    exact ⟨_, fun s u => .of_eq rfl, fun base kb nb => My.law_fn T kb nb⟩     -- if «.of_eq rfl» comes too early: refine' ⟨_, ?b, fun base kb nb => My.law_fn T kb nb⟩; exact fun s u => .of_eq rfl
  case S => exact fun w H a ns hl hO hS => ..
  case C => exact ..
(the tactic k_is has no namespace: write k_is) -/

/-! SHORT WORDS over the layer: a def of the text, its body, what a loop and a test want. -/
namespace L2
open PySem PySem.Spec PyProof.Rows

/-! ### the text by places -/
def defArgs (s : Stmt) : Arguments := match s with
  | .FunctionDef _ a _ _ _ _ _ _ _ _ => a
  | _ => { posonlyargs := [], args := [], vararg := none, kwonlyargs := [], kw_defaults := [], kwarg := none, defaults := [] }
def defBody (s : Stmt) : List Stmt := match s with
  | .FunctionDef _ _ b _ _ _ _ _ _ _ => b
  | _ => []
def defScope (s : Stmt) : Scope := match s with
  | .FunctionDef _ _ _ _ _ _ sc _ _ _ => sc
  | _ => { kind := .function, names := [], isGenerator := false, isCoroutine := false }

/-! ### no exception leaves a def -/
abbrev CX0 : CXT := fun _ _ _ _ _ _ => False
abbrev E0 : XK := fun _ _ _ => False
theorem pass0 {X : Cx} : Passes CX0 X E0 := fun _ _ _ _ _ _ _ h => h.elim

/-! ### a def (or method) of the text as it stands behind the top -/
section
variable {P : Program} {w : World} {K : PySem.W.Frag} {mg : Str → Option Value} {base : Heap}
end
theorem hu_of {A : Around} {k : Nat} (hr : Room k A) : A.units + 1 < cLine := Nat.lt_of_le_of_lt (Nat.add_le_add_left (by decide : 1 ≤ 64) _) hr.units
/-! ### expressions in short: the name that stands in the i-th slot -/
section
variable {X : Cx}
theorem pv (i : Nat) {x : Str} {pos : Pos} (hN : X.N[i]? = some x := by rfl) (hv : Vis X.env.scope x := by first | exact Or.inl rfl | exact Or.inr (Or.inl rfl) | exact Or.inr (Or.inr rfl)) (hd : (x == ("__debug__" : Str)) = false := by decide)
    (hcd : (x == ("__classdict__" : Str)) = false := by decide) : PE X (.Name x pos) (tVar i) := pe_var hN hv hd hcd
end

/-! ### tests -/
theorem iteF {A B : Prop} (h : B) : if false = true then A else B := by
  rw [if_neg Bool.false_ne_true]
  exact h
theorem iteT {A B : Prop} (h : A) : if true = true then A else B := by
  rw [if_pos rfl]
  exact h
/-! ### heaps -/
/-- all that was tracked is as it was -/
def Same (H H' : Hp) : Prop := ∀ b o, H b = some o → H' b = some o
theorem Same.refl (H : Hp) : Same H H := fun _ _ h => h
theorem Same.trans {H H1 H2 : Hp} (a : Same H H1) (b : Same H1 H2) : Same H H2 := fun c o h => b c o (a c o h)
theorem Same.free {H H' : Hp} (e : Same H H') {l : Addr} (h : H' l = Option.none) : H l = Option.none := by
  cases q : H l with
  | none => rfl
  | some o =>
    rw [e l o q] at h
    cases h
theorem Same.seq {K : PySem.W.Frag} {H H' : Hp} {a : Addr} {xs : List V} (e : Same H H') (h : SqL K H a xs) : SqL K H' a xs := by
  rcases h with (h | ⟨o, h⟩) | h
  · exact .inl (.inl (e _ _ h))
  · exact .inl (.inr ⟨o, e _ _ h⟩)
  · exact .inr h

end L2
set_option Elab.async false
set_option linter.all false
set_option maxRecDepth 100000
namespace L2
open PySem PySem.Spec PyProof.Rows
section
variable {X : Cx}
theorem op_mulB : OpR X (binaryOp .Mult) (rI (fun i j => IntMulOk i j) fun i j => .int (i * j)) := opI fun _ _ _ _ _ _ _ hc q => mul_int q hc
theorem op_fdivB : OpR X (binaryOp .FloorDiv) (rI (fun i j => j ≠ 0 ∧ Builtin.divisionGoesByPylong i j = false) fun i j => .int (i.fdiv j)) := opI fun _ _ _ _ _ _ _ hc q => floordiv_int hc.1 q (.inl hc.2)
end
end L2
set_option Elab.async false
set_option linter.all false
set_option maxRecDepth 100000
namespace Sw
open PySem
/-! ### sizes -/
def Bd (n : Nat) (x : Int) : Prop := x.natAbs < 2 ^ n
theorem Bd.mul {m n : Nat} {x y : Int} (h : Bd m x) (g : Bd n y) : Bd (m + n) (x * y) := by
  unfold Bd at *
  rw [Int.natAbs_mul, Nat.pow_add]
  exact Nat.mul_lt_mul_of_lt_of_le h (Nat.le_of_lt g) (Nat.lt_of_le_of_lt (Nat.zero_le _) g)
theorem Bd.add {k : Nat} {x y : Int} (h : Bd k x) (g : Bd k y) : Bd (k + 1) (x + y) := by
  unfold Bd at *
  rw [Nat.pow_succ]
  generalize 2 ^ k = p at h g ⊢
  omega
theorem Bd.ok {m n : Nat} {x y : Int} (h : Bd m x) (g : Bd n y) (e : m + n ≤ 134217728 := by decide) : IntMulOk x y :=
  IntMulOk.of_le (intBits_le_iff.mpr h) (intBits_le_iff.mpr g) e
/-! ### divisors -/
/-! ### fractions -/
end Sw
set_option Elab.async false
set_option linter.all false
set_option maxRecDepth 100000
namespace L2
open PySem
end L2
namespace Sw
open PySem L2
theorem dT {p A B : Prop} [Decidable p] (h : p) (a : A) : if decide p = true then A else B := by rw [if_pos (decide_eq_true h)]; exact a
theorem dF {p A B : Prop} [Decidable p] (h : ¬ p) (b : B) : if decide p = true then A else B := by rw [if_neg (by simp [h])]; exact b
theorem d2 {p A B : Prop} [Decidable p] (h1 : p → A) (h2 : ¬ p → B) : if decide p = true then A else B := by
  by_cases h : p
  · exact dT h (h1 h)
  · exact dF h (h2 h)
theorem nF {p A B : Prop} [Decidable p] (h : p) (b : B) : if (!decide p) = true then A else B := by rw [if_neg (by simp [h])]; exact b
theorem vi {a b : Int} (h : a = b) : V.int a = V.int b := by rw [h]
theorem vj {a b : Int} (h : V.int a = V.int b) : a = b := by cases h; rfl
theorem d2I {a b : Int} {A B : Prop} (h1 : a = b → A) (h2 : a ≠ b → B) : if decide (V.int a = V.int b) = true then A else B := d2 (fun h => h1 (vj h)) fun h => h2 fun e => h (vi e)
section
variable {X : Cx} {k j : Nat} {x : Str} {ps : List Str} {sp : Sp} {p pos : Pos} {e : Expr} {es : List Expr} {t : TA}
end
/-! ### promises -/
def spCell (K : PySem.W.Frag) : Sp := fun vs H Q _ => ∃ (a : Addr) (ns : List Int) (k : Int), vs = [.ref a, .int k] ∧ SqL K H a (ns.map V.int) ∧ 0 ≤ k ∧ ∀ v : Int, Q (.int v) H
def spLaw (K : PySem.W.Frag) : Sp := fun vs H Q _ => ∃ (a : Addr) (ns : List Int), vs = [.ref a] ∧ SqL K H a (ns.map V.int) ∧ ns.length ≤ 63 ∧ ∀ H', Q (.bl true) H'
theorem cell_ok {ns : List Int} {k : Int} (h0 : 0 ≤ k) (h : k < (((ns.map V.int).length : Nat) : Int)) : ∃ v : Int, atI (ns.map V.int) k = some (.int v) := by
  rw [List.length_map] at h
  have hk : k.toNat < ns.length := by omega
  have ek : k = ((k.toNat : Nat) : Int) := by omega
  have q : atI (ns.map V.int) ((k.toNat : Nat) : Int) = some (.int ns[k.toNat]) := atI_nat (by rw [List.getElem?_map, List.getElem?_eq_getElem hk] <;> rfl)
  rw [← ek] at q
  exact ⟨_, q⟩
end Sw
set_option Elab.async false
set_option linter.all false
set_option maxRecDepth 100000
namespace Sw
open PySem L2
theorem cut {t u : TS} {D : Ends} {σ : L2.St} {H : Hp} (I : L2.St → Hp → Prop) (h1 : ∀ N : L2.St → Hp → Prop, (∀ σ H, I σ H → N σ H) → t { D with nx := N } σ H) (h2 : ∀ σ H, I σ H → u D σ H) : tSeq t u D σ H := h1 _ h2
theorem same_new {H : Hp} {p : Addr} (h : H p = none) (o : HO) : Same H (upd H p o) := fun b u q => by rw [upd_ne (ne_of_none q h)]; exact q
end Sw
set_option Elab.async false
set_option linter.all false
set_option maxRecDepth 100000
namespace Sw
open PySem L2
structure FunD (K : PySem.W.Frag) (x qual : Str) (st : Stmt) (dV : Value) (f : Addr) (fd : FuncData) : Prop where
  ex : ∃ (oc : Value) (od : Option Addr) (kV doc pm : Value) (an : Option Addr) (cdv ct : Value) (osl : Array (Option Value)),
    fd = PySem.W.fnOf x qual (defArgs st) (defBody st) (defScope st) dV kV doc pm an cdv ct ∧ K.lookup f = some ⟨oc, od, .func fd, osl⟩ ∧ PySem.W.codeIn K cdv qual = true
  kp : PySem.W.keepIn K (.ref f) = true
section
variable {P : Program} {w : World} {K : PySem.W.Frag} {mg : Str → Option Value} {base : Heap}
theorem FunD.ok {x qual : Str} {st : Stmt} {dV : Value} {f : Addr} {fd : FuncData} {N ps : List Str} {k : Nat} {sp : Sp} (F : FunD K x qual st dV f fd) (S : FnScope N ps (defScope st)) (len : ∀ vs H Q E, sp vs H Q E → vs.length = ps.length)
    (hbody : ∀ (cdv : Value) (A : Around) (outer : List Env) (s : Shared) (H : Hp) (vs : List V) (Q : VK) (E : XK), Room k (A.deeper (PyProof.Rows.envOfC qual (defScope st) s.heap.objs.size f cdv)) → sp vs H Q E →
      ∃ t, PSs (cxOf CX0 P w K mg base N qual (defScope st) f cdv A outer s H E).nox (defBody st) t ∧ t { nx := fun _ H' => Q .non H', rt := Q } (start N vs) H) : FnOk P w K mg base CX0 (k + 1) f fd ps sp := by
  obtain ⟨oc, od, kV, doc, pm, an, cdv, ct, osl, rfl, lk, hcd⟩ := F.ex
  refine fn_of lk hcd S len fun A outer s H vs Q E hr hsp => ?_
  obtain ⟨t, h, q⟩ := hbody cdv A outer s H vs Q E hr hsp
  exact ⟨t, h.nox, q⟩
theorem FunD.binds0 {x qual : Str} {st : Stmt} {dV : Value} {f : Addr} {fd : FuncData} {ps : List Str} (F : FunD K x qual st dV f fd)
    (h : ∀ (kV doc pm : Value) (an : Option Addr) (cdv ct : Value) (us : List Value), us.length = ps.length → bindArgs (PySem.W.fnOf x qual (defArgs st) (defBody st) (defScope st) dV kV doc pm an cdv ct) ⟨us, []⟩ = pure (ps.zip us)) : Binds K fd ps [] := by
  obtain ⟨oc, od, kV, doc, pm, an, cdv, ct, osl, rfl, lk, hcd⟩ := F.ex
  exact .all (h kV doc pm an cdv ct)
theorem funD_mk {x qual : Str} {st : Stmt} {f : Addr} {oc dV : Value} {od an : Option Addr} {osl : Array (Option Value)} {kV doc pm cdv ct : Value} (l : K.lookup f = some ⟨oc, od, .func (PySem.W.fnOf x qual (defArgs st) (defBody st) (defScope st) dV kV doc pm an cdv ct), osl⟩)
    (c : PySem.W.codeIn K cdv qual = true) (k : PySem.W.keepIn K (.ref f) = true) : FunD K x qual st dV f (PySem.W.fnOf x qual (defArgs st) (defBody st) (defScope st) dV kV doc pm an cdv ct) := ⟨⟨oc, od, kV, doc, pm, an, cdv, ct, osl, rfl, l, c⟩, k⟩
end
section
variable {X : Cx} {k j : Nat} {x : Str} {ps : List Str} {sp : Sp} {p pos : Pos} {e : Expr} {es : List Expr} {t : TA} {dvs : List V}
end
/-! ### the mathematics of sums -/
end Sw
set_option Elab.async false
set_option linter.all false
set_option maxRecDepth 100000
namespace XH
open PySem
/-! ### what a frame's note and the flight of an exception change -/
structure Mv (fs ch : List Addr) (h h' : Heap) : Prop where
  keep : ∀ b o, b ∉ fs → b ∉ ch → h.get? b = some o → h'.get? b = some o
  slot : ∀ b o, b ∈ fs → b ∉ ch → h.get? b = some o → ∃ sl, h'.get? b = some { o with slots := sl }
  there : ∀ b o, h.get? b = some o → ∃ o', h'.get? b = some o'
theorem Mv.refl (fs ch : List Addr) (h : Heap) : Mv fs ch h h := ⟨fun _ _ _ _ q => q, fun _ o _ _ q => ⟨o.slots, q⟩, fun _ o q => ⟨o, q⟩⟩
theorem Mv.trans {fs c1 c2 ch : List Addr} {h h1 h2 : Heap} (x : Mv fs c1 h h1) (y : Mv fs c2 h1 h2) (k1 : ∀ b, b ∈ c1 → b ∈ ch) (k2 : ∀ b, b ∈ c2 → b ∈ ch) : Mv fs ch h h2 where
  keep := fun b o hf hc q => y.keep b o hf (fun z => hc (k2 b z)) (x.keep b o hf (fun z => hc (k1 b z)) q)
  slot := fun b o hf hc q => by
    obtain ⟨sl, q1⟩ := x.slot b o hf (fun z => hc (k1 b z)) q
    obtain ⟨sl2, q2⟩ := y.slot b _ hf (fun z => hc (k2 b z)) q1
    exact ⟨sl2, q2⟩
  there := fun b o q => by
    obtain ⟨o1, q1⟩ := x.there b o q
    exact y.there b o1 q1
/-- the note in an exception's traceback: none yet, or an entry in such a flight -/
inductive XSt where
  | new
  | fl (v : Value)
def XSt.Is (F : Addr → Prop) (h : Heap) (e : Addr) (vs : Array Value) : XSt → Prop
  | .new => vs[1]? = some .none
  | .fl v => ∃ T oT ts, vs[1]? = some (.ref T) ∧ F T ∧ T ≠ e ∧ h.get? T = some oT ∧ oT.data = .fields ts ∧ ts[3]? = some v
/-- room for its entries, and it came with no other one handled -/
def Fz (vs : Array Value) : Prop := 1 < vs.size ∧ vs[2]? = some .none
theorem Fz.set {vs : Array Value} (h : Fz vs) (v : Value) : Fz (vs.setIfInBounds 1 v) := ⟨by simpa using h.1, by rw [Array.getElem?_setIfInBounds]; simp [h.2]⟩
structure XO (F : Addr → Prop) (h : Heap) (e : Addr) (cls : Value) (dx : Option Addr) (st : XSt) : Prop where
  ex : ∃ oe vs, h.get? e = some oe ∧ oe.cls = cls ∧ oe.dict = dx ∧ oe.data = .fields vs ∧ Fz vs ∧ st.Is F h e vs
  fr : F e
theorem XO.mono {F G : Addr → Prop} {h : Heap} {e : Addr} {cls : Value} {dx : Option Addr} {st : XSt} (x : XO F h e cls dx st) (k : ∀ b, F b → G b) : XO G h e cls dx st := by
  obtain ⟨⟨oe, vs, a, b, c, d, f, g⟩, fr⟩ := x
  refine ⟨⟨oe, vs, a, b, c, d, f, ?_⟩, k _ fr⟩
  cases st with
  | new => exact g
  | fl v =>
    obtain ⟨T, oT, ts, g1, g2, g3⟩ := g
    exact ⟨T, oT, ts, g1, k _ g2, g3⟩
theorem mapf_dict (o : Obj) (f : Array Value → Array Value) : (o.mapFields f).dict = o.dict := by
  obtain ⟨c, d, dt, sl⟩ := o
  cases dt <;> rfl
section
variable {M : Model} {A : Around} {E : Value → Shared → Prop} {s : Shared}
theorem entry_ok {base : Heap} {env : Env} {outer : List Env} {L e : Addr} {oe : Obj} {vs : Array Value} {head : Value} {had : Bool} {Q : Unit → Shared → Prop}
    (hfr : A.frames = some (env :: outer)) (hl : s.heap.FunFrames base (env :: outer)) (hf : env.frame = some L) (he : s.heap.get? e = some oe) (hd : oe.data = .fields vs) (hsz : 1 < vs.size)
    (h : ∀ h' T, Mv ((env :: outer).filterMap (·.frame)) [e] s.heap h' → s.heap.get? T = none → T ≠ e → h'.get? e = some (oe.mapFields (·.setIfInBounds 1 (.ref T))) →
      (∃ oT ts, h'.get? T = some oT ∧ oT.data = .fields ts ∧ ts[3]? = some (rawInt L)) → Q () { s with heap := h' }) :
    wpAny M A (do let a ← frameOf env; let pl ← entryPlaceOf L had; let b ← EntryCells.newEntry head a .none (rawInt L) .none pl; setField (.ref e) 1 b) Q E s := by
  have hne : e ∉ (env :: outer).filterMap (·.frame) := by
    intro hm
    obtain ⟨_, o, ho, hnf⟩ := hl.mem hm
    rw [he] at ho
    cases ho
    exact hnf vs hd
  apply wpAny_bind
  apply wpAny_frameOf_fun hfr hl hf
  intro h1 hs
  apply wpAny_bind
  apply wpAny_entryPlaceOf
  intro pl hpl
  unfold EntryCells.newEntry newFields
  apply wpAny_bind
  refine wpAny_newObj_type ?_ (hpl.sizeOk5 ..)
  have e1 : h1.get? e = some oe := (hs.2.1 e hne).trans he
  generalize hob : ({ cls := .type "traceback", dict := none, data := .fields ([head, .ref L, .none, rawInt L, .none] ++ (if pl.isEmpty then List.replicate 6 Value.none else pl)).toArray } : Obj) = ob
  have e2 := Heap.get?_push_of_some (h := h1) ob e1
  refine wpAny_setField e2 hd hsz ?_
  have hTe : h1.objs.size ≠ e := Nat.ne_of_gt (Heap.lt_size e1)
  have d3 := Obj.data_mapFields hd (·.setIfInBounds 1 (Value.ref h1.objs.size))
  have e3 := Heap.get?_update_self (Obj.mapFields (·.setIfInBounds 1 (Value.ref h1.objs.size))) e2 (Obj.isFreed_of_fields d3)
  have kp : ∀ b o, b ≠ e → h1.get? b = some o → ((h1.push ob).update e (Obj.mapFields (·.setIfInBounds 1 (Value.ref h1.objs.size)))).get? b = some o := by
    intro b o hb q
    rw [Heap.get?_update_other _ _ (Ne.symm hb)]
    exact Heap.get?_push_of_some _ q
  have t3 : ((h1.push ob).update e (Obj.mapFields (·.setIfInBounds 1 (Value.ref h1.objs.size)))).get? h1.objs.size = some ob := by
    rw [Heap.get?_update_other _ _ (Ne.symm hTe)]
    exact Heap.get?_push_size h1 (by rw [← hob]; rfl)
  refine h _ h1.objs.size ⟨?_, ?_, ?_⟩ ?_ hTe e3 ?_
  · intro b o hb hc q
    exact kp b o (fun z => hc (by rw [z]; exact List.mem_singleton.mpr rfl)) ((hs.2.1 b hb).trans q)
  · intro b o hb hc q
    obtain ⟨sl, q1⟩ := hs.2.2 b o q
    exact ⟨sl, kp b _ (fun z => hc (by rw [z]; exact List.mem_singleton.mpr rfl)) q1⟩
  · intro b o q
    by_cases hb : b = e
    · subst hb
      exact ⟨_, e3⟩
    · obtain ⟨sl, q1⟩ := hs.2.2 b o q
      exact ⟨_, kp b _ hb q1⟩
  · exact Heap.get?_none_of_le (by rw [hs.1]; exact Nat.le_refl _)
  · subst hob
    refine ⟨_, _, t3, rfl, ?_⟩
    rcases hpl with rfl | ⟨_, _, _, _, _, _, _, rfl⟩ <;> simp
theorem flight_ok {F : Addr → Prop} {e : Addr} {cls v : Value} {dx fl : Option Addr} {Q : Unit → Shared → Prop} (x : XO F s.heap e cls dx (.fl v))
    (h : ∀ h' T, F T → Mv [] [T] s.heap h' → XO F h' e cls dx (.fl (fl.elim .none fun f => rawInt f)) → Q () { s with heap := h' }) : wpAny M A (setFlight (.ref e) fl) Q E s := by
  obtain ⟨⟨oe, vs, he, hc, hdx, hd, hsz, T, oT, ts, h1, hF, hTe, hT, hdT, h3⟩, fr⟩ := x
  have z3 : 3 < ts.size := (Array.getElem?_eq_some_iff.mp h3).1
  have oth : ∀ b, b ≠ T → (s.heap.update T (Obj.mapFields (·.setIfInBounds 3 (fl.elim Value.none fun f => rawInt f)))).get? b = s.heap.get? b := fun b hb => Heap.get?_update_other _ _ (Ne.symm hb)
  have t4 := Heap.get?_update_self (Obj.mapFields (·.setIfInBounds 3 (fl.elim Value.none fun f => rawInt f))) hT (Obj.isFreed_of_fields (Obj.data_mapFields hdT _))
  unfold setFlight
  apply wpAny_bind
  apply wpAny_field he hd h1
  rw [if_pos (by simp)]
  apply wpAny_setField hT hdT z3
  refine h _ T hF ⟨?_, fun b o hb => absurd hb (by simp), ?_⟩ ⟨⟨oe, vs, (oth e (Ne.symm hTe)).trans he, hc, hdx, hd, hsz, T, _, _, h1, hF, hTe, t4, Obj.data_mapFields hdT _, by simp [z3]⟩, fr⟩
  · intro b o _ hb q
    exact (oth b (fun z => hb (by rw [z]; exact List.mem_singleton.mpr rfl))).trans q
  · intro b o q
    by_cases hb : b = T
    · subst hb
      exact ⟨_, t4⟩
    · exact ⟨o, (oth b hb).trans q⟩
theorem note_ok {F : Addr → Prop} {base : Heap} {env : Env} {outer : List Env} {L e : Addr} {cls : Value} {dx : Option Addr} {st : XSt} {Q : Unit → Shared → Prop}
    (hfr : A.frames = some (env :: outer)) (hl : s.heap.FunFrames base (env :: outer)) (hf : env.frame = some L) (x : XO F s.heap e cls dx st)
    (h : ∀ h' ch, (∀ b ∈ ch, F b) → Mv ((env :: outer).filterMap (·.frame)) ch s.heap h' → XO (fun b => F b ∨ s.heap.get? b = none) h' e cls dx (.fl (rawInt L)) → Q () { s with heap := h' }) : wpAny M A (noteFrame (.ref e) env) Q E s := by
  obtain ⟨⟨oe, vs, he, hc, hdx, hd, hsz, hst⟩, fr⟩ := x
  unfold noteFrame
  simp only [hf]
  cases st with
  | new =>
    apply wpAny_bind
    apply wpAny_field he hd hst
    rw [if_neg (by decide)]
    refine entry_ok hfr hl hf he hd hsz.1 fun h' T mv tn tne he' ⟨oT, ts, hT, hdT, h3⟩ => ?_
    refine h h' [e] (fun b hb => by rw [List.mem_singleton.mp hb]; exact fr) mv ⟨⟨_, _, he', ?_, ?_, Obj.data_mapFields hd _, hsz.set _, T, oT, ts, by simp [hsz.1], .inr tn, tne, hT, hdT, h3⟩, .inl fr⟩
    · rw [Obj.cls_mapFields]; exact hc
    · rw [mapf_dict]; exact hdx
  | fl v =>
    obtain ⟨T, oT, ts, h1, hF, hTe, hT, hdT, h3⟩ := hst
    have z3 : 3 < ts.size := (Array.getElem?_eq_some_iff.mp h3).1
    apply wpAny_bind
    apply wpAny_field he hd h1
    rw [if_pos (by simp)]
    apply wpAny_bind
    apply wpAny_field hT hdT h3
    by_cases hv : (v == rawInt L) = true
    · rw [if_pos hv]
      have ev : v = rawInt L := beq_iff_eq.mp hv
      subst ev
      refine wpAny_pure (h s.heap [] (fun b hb => absurd hb (by simp)) (.refl ..) ⟨⟨oe, vs, he, hc, hdx, hd, hsz, T, oT, ts, h1, .inl hF, hTe, hT, hdT, h3⟩, .inl fr⟩)
    · rw [if_neg hv]
      apply wpAny_bind
      apply wpAny_setField hT hdT z3
      have oth : ∀ b, b ≠ T → (s.heap.update T (Obj.mapFields (·.setIfInBounds 3 Value.none))).get? b = s.heap.get? b := fun b hb => Heap.get?_update_other _ _ (Ne.symm hb)
      have t4 := Heap.get?_update_self (Obj.mapFields (·.setIfInBounds 3 Value.none)) hT (Obj.isFreed_of_fields (Obj.data_mapFields hdT _))
      have nrec : ∀ b o, s.heap.get? b = some o → (∀ vs, o.data ≠ .fields vs) → b ≠ T := by
        intro b o hb hn z
        rw [z, hT] at hb
        cases hb
        exact hn ts hdT
      have mv1 : Mv ((env :: outer).filterMap (·.frame)) [T] s.heap (s.heap.update T (Obj.mapFields (·.setIfInBounds 3 Value.none))) := by
        refine ⟨fun b o _ hb q => (oth b (fun z => hb (by rw [z]; exact List.mem_singleton.mpr rfl))).trans q, fun b o _ hb q => ⟨o.slots, (oth b (fun z => hb (by rw [z]; exact List.mem_singleton.mpr rfl))).trans q⟩, fun b o q => ?_⟩
        by_cases hb : b = T
        · subst hb
          exact ⟨_, t4⟩
        · exact ⟨o, (oth b hb).trans q⟩
      refine entry_ok (s := { s with heap := s.heap.update T (Obj.mapFields (·.setIfInBounds 3 Value.none)) }) hfr (hl.of_keeps fun b o hb hn => ⟨o, (oth b (nrec b o hb hn)).trans hb, rfl⟩) hf ((oth e (Ne.symm hTe)).trans he) hd hsz.1 fun h' T2 mv tn tne he' ⟨oT2, ts2, hT2, hdT2, h32⟩ => ?_
      refine h h' [T, e] ?_ (mv1.trans mv (fun b hb => by simp at hb; simp [hb]) (fun b hb => by simp at hb; simp [hb])) ⟨⟨_, _, he', ?_, ?_, Obj.data_mapFields hd _, hsz.set _, T2, oT2, ts2, by simp [hsz.1], .inr ?_, tne, hT2, hdT2, h32⟩, .inl fr⟩
      · intro b hb
        simp at hb
        rcases hb with rfl | rfl
        · exact hF
        · exact fr
      · rw [Obj.cls_mapFields]; exact hc
      · rw [mapf_dict]; exact hdx
      · cases q : s.heap.get? T2 with
        | none => rfl
        | some o =>
          obtain ⟨o', q'⟩ := mv1.there T2 o q
          rw [q'] at tn
          cases tn
end
end XH
set_option Elab.async false
set_option linter.all false
set_option maxRecDepth 100000
namespace L2
open PySem PySem.Spec PyProof.Rows XH
/-! ### an exception behind a call, in flight: it and its notes are untracked, and were not there ahead of the call -/
structure CXat (P : Program) (w : World) (outer : List Env) (H : Hp) (s : Shared) (a : Addr) (H' : Hp) (cls : Value) (dx : Option Addr) (st : XSt) (s' : Shared) : Prop where
  os : s'.os = s.os
  bare : AllBare s'.gens
  un : Un (frs outer) [] H H' s.heap s'.heap
  hok : HOk P w H' s'.heap
  xo : XO (fun b => s.heap.get? b = none ∧ H' b = none) s'.heap a cls dx st
def CX1 (P : Program) (w : World) : CXT := fun outer H s E e s' => ∃ a H' cls dx st, e = .ref a ∧ CXat P w outer H s a H' cls dx st s' ∧ E cls dx H'
section
variable {P : Program} {w : World} {H H' : Hp} {h h' h0 : Heap} {fs ch : List Addr} {a : Addr} {o : HO}
theorem ObjOk.there (x : ObjOk P w H h a o) : ∃ u, h.get? a = some u := by
  cases o with
  | lst xs => obtain ⟨_, _, _, _, e⟩ := x; exact ⟨_, e⟩
  | tup xs => obtain ⟨_, _, _, _, e, _⟩ := x; exact ⟨_, e⟩
  | dK kvs => obtain ⟨_, _, _, _, _, _, _, e, _⟩ := x; exact ⟨_, e⟩
  | dT kvs => obtain ⟨_, _, _, _, _, _, _, e, _⟩ := x; exact ⟨_, e⟩
  | set S n => obtain ⟨_, _, _, _, e, _⟩ := x; exact ⟨_, e⟩
  | ins C dx fs => obtain ⟨_, _, _, e, _⟩ := x; exact ⟨_, e⟩
  | own y => exact x
  | xd fs => obtain ⟨_, ⟨_, _, _, e, _⟩, _⟩ := x; exact ⟨_, e⟩
  | rng lo hi => obtain ⟨_, _, _, e⟩ := x; exact ⟨_, e⟩
  | frz ob u => obtain ⟨e, _⟩ := x; exact ⟨_, e⟩
  | tbl ps => exact ⟨_, show h.get? a = some _ from x⟩
  | met f y => exact ⟨_, show h.get? a = some _ from x⟩
  | ext φ => obtain ⟨_, ⟨_, e⟩, _⟩ := x; exact ⟨_, e⟩
theorem HOk.none_of (k : HOk P w H h) (q : h.get? a = none) : H a = none := by
  cases r : H a with
  | none => rfl
  | some o =>
    obtain ⟨u, e⟩ := (k a o r).there
    rw [q] at e
    cases e
theorem un_mv (u : Un fs [] H H' h0 h) (m : Mv fs ch h h') (hc : ∀ b ∈ ch, h0.get? b = none) : Un fs [] H H' h0 h' where
  keep := fun b o q n hb hx => m.keep b o hb (fun z => by rw [hc b z] at q; cases q) (u.keep b o q n hb hx)
  slot := fun b o q n hb hx => by
    obtain ⟨sl, q1⟩ := u.slot b o q n hb hx
    obtain ⟨sl2, q2⟩ := m.slot b _ hb (fun z => by rw [hc b z] at q; cases q) q1
    exact ⟨sl2, q2⟩
  free := u.free
  there := fun b o q hx => by
    obtain ⟨o1, q1⟩ := u.there b o q hx
    exact m.there b o1 q1
  tups := u.tups
  frzs := u.frzs
  tbls := u.tbls
theorem hok_mv (k : HOk P w H h) (m : Mv fs ch h h') (hc : ∀ b ∈ ch, H b = none) (hf : ∀ b ∈ fs, H b = none) : HOk P w H h' := fun a o e =>
  (k a o e).stay (fun b u hb q => by
    have t : H b ≠ none := by
      rcases hb with z | z
      · rw [z, e]; exact fun y => nomatch y
      · rw [z]; exact fun y => nomatch y
    exact m.keep b u (fun z => t (hf b z)) (fun z => t (hc b z)) q) (fun _ q => q) fun _ _ q => q
theorem _root_.XH.Mv.wider (m : Mv [] ch h h') : Mv fs ch h h' := ⟨fun b o _ hc q => m.keep b o (by simp) hc q, fun b o _ hc q => ⟨o.slots, m.keep b o (by simp) hc q⟩, m.there⟩
theorem funs_un {base : Heap} (u : Un fs [] H H' h h') : ∀ {l : List Env}, h.FunFrames base l → (∀ b ∈ frs l, b ∈ fs ∧ H b = none) → h'.FunFrames base l
  | [], _, _ => trivial
  | env :: r, ⟨hk, ⟨L, o, hf, hn, ho, hd⟩, hr⟩, hs => by
    have hL : L ∈ frs (env :: r) := by unfold frs; rw [List.filterMap_cons, hf]; exact List.mem_cons_self
    obtain ⟨sl, e⟩ := u.slot L o ho (hs L hL).2 (hs L hL).1 (by simp)
    exact ⟨hk, ⟨L, _, hf, hn, e, hd⟩, funs_un u hr fun b hb => hs b (by unfold frs; rw [List.filterMap_cons, hf]; exact List.mem_cons_of_mem _ hb)⟩
end
section
variable {P : Program} {w : World} {H H' : Hp} {s s' : Shared} {a L : Addr} {cls v : Value} {dx : Option Addr} {st : XSt} {env : Env} {outer : List Env} {base : Heap} {M : Model} {A : Around} {Z : Value → Shared → Prop} {Q : Unit → Shared → Prop}
theorem CXat.frees (c : CXat P w outer H s a H' cls dx st s') (hl : s.heap.FunFrames base outer) (hH : ∀ b ∈ frs outer, H b = none) : ∀ b ∈ frs outer, H' b = none := fun b hb => by
  obtain ⟨_, o, ho, _⟩ := hl.mem hb
  exact c.un.free b o ho (hH b hb) (by simp)
theorem CXat.note (c : CXat P w (env :: outer) H s a H' cls dx st s') (hfr : A.frames = some (env :: outer)) (hf : env.frame = some L) (hl : s.heap.FunFrames base (env :: outer)) (hH : ∀ b ∈ frs (env :: outer), H b = none)
    (h : ∀ s'', CXat P w (env :: outer) H s a H' cls dx (.fl (rawInt L)) s'' → Q () s'') : wpAny M A (noteFrame (.ref a) env) Q Z s' := by
  refine note_ok hfr (funs_un c.un hl fun b hb => ⟨hb, hH b hb⟩) hf c.xo fun h' ch hch mv x => h _ ?_
  refine ⟨c.os, c.bare, un_mv c.un mv fun b hb => (hch b hb).1, hok_mv c.hok mv (fun b hb => (hch b hb).2) (c.frees hl hH), x.mono ?_⟩
  rintro b (q | q)
  · exact q
  · refine ⟨?_, c.hok.none_of q⟩
    cases r : s.heap.get? b with
    | none => rfl
    | some o =>
      obtain ⟨o', r'⟩ := c.un.there b o r (by simp)
      rw [r'] at q
      cases q
theorem CXat.flight {fl : Option Addr} (c : CXat P w outer H s a H' cls dx (.fl v) s') (hl : s.heap.FunFrames base outer) (hH : ∀ b ∈ frs outer, H b = none)
    (h : ∀ s'', CXat P w outer H s a H' cls dx (.fl (fl.elim .none fun f => rawInt f)) s'' → Q () s'') : wpAny M A (setFlight (.ref a) fl) Q Z s' := by
  refine flight_ok c.xo fun h' T hT mv x => h _ ⟨c.os, c.bare, un_mv c.un mv.wider fun b hb => ?_, hok_mv c.hok (mv.wider (fs := frs outer)) (fun b hb => ?_) (c.frees hl hH), x⟩
  · rw [List.mem_singleton.mp hb]; exact hT.1
  · rw [List.mem_singleton.mp hb]; exact hT.2
end
/-- what is wanted of an exception in a body: E speaks of the names, its class, its dict, the heap -/
def XS (X : Cx) (E : St → XK) : Value → Shared → Prop := fun e s' => ∃ σ H0 s0, Inv X [] σ H0 s0 ∧ CX1 X.prog X.w X.stack H0 s0 (E σ) e s'
def PassX (X : Cx) (E : St → XK) : Prop := ∀ (pins : List (Addr × Obj)) (σ : St) (H : Hp) (s : Shared) (e : Value) (s' : Shared), Inv X pins σ H s → CX1 X.prog X.w X.stack H s (E σ) e s' → X.xe e s'
theorem passX {X : Cx} {E : St → XK} : PassX (X.wish (XS X E)) E := fun pins σ H s e s' I c => ⟨σ, H, s, I.unwish.pins_of (fun p hp => absurd hp (by simp)), c⟩
def tCallX (sp : Sp) (dvs : List V) (E : St → XK) (t : TA) : TE := fun σ H Q => t σ H fun vs H1 => sp (vs ++ dvs) H1 Q (E σ)
section
variable {X : Cx} {k : Nat} {f C : Addr} {fd : FuncData} {ps : List Str} {sp : Sp} {dvs : List V} {ds : List Value} {E : St → XK} {x m : Str} {p pos apos : Pos} {e o : Expr} {es : List Expr} {ta : TE} {t : TA}
theorem run_fnX {pins : List (Addr × Obj)} {σ : St} {H : Hp} {s : Shared} {Q : VK} {us : List Value} {vs : List V} (F : FnOk X.prog X.w X.K X.mg X.base (CX1 X.prog X.w) k f fd ps sp) (hr : Room k X.A) (hb : Binds X.K fd ps ds) (hd : Vals dvs ds) (hx : PassX X E)
    (I : Inv X pins σ H s) (r : Vals vs us) (h : sp (vs ++ dvs) H Q (E σ)) : wpAny (model X.prog X.w) X.A (call (.ref f) us) (EP X pins σ Q) X.xe s := by
  have r2 : Vals (vs ++ dvs) (us ++ ds) := r.append hd
  have hl : (us ++ ds).length = ps.length := by rw [← r2.length]; exact F.len _ _ _ _ h
  refine wpAny_call (codeAny_mono (F.run X.A X.stack s H ⟨us, []⟩ (us ++ ds) (vs ++ dvs) Q (E σ) hr I.env0 (hb s us I.kIn hl) r2 h) fun r s' hq => ?_)
  cases r with
  | error e => exact hx pins σ H s e s' I hq
  | ok fl =>
    cases fl with
    | ret u => exact I.after hq
    | next => exact False.elim hq
    | brk => exact False.elim hq
    | cont => exact False.elim hq
theorem pe_callX (F : FnOk X.prog X.w X.K X.mg X.base (CX1 X.prog X.w) k f fd ps sp) (hr : Room k X.A) (hg : Gl X x) (hm : X.mg x = some (.ref f)) (hk : PySem.W.keepIn X.K (.ref f) = true) (hb : Binds X.K fd ps ds) (hd : Vals dvs ds) (hx : PassX X E)
    (ha : PA X (e :: es) t) (hdb : (x == ("__debug__" : Str)) = false := by decide) (he : starEach (e :: es) X.env = (false, eval e X.env) :: starEach es X.env := by rfl) (hpl : (backTo pos (starEach es X.env)).any (·.1) = false := by rfl) :
    PE X (.Call (.Name x p) (e :: es) [] pos) (tCallX sp dvs E t) := by
  intro pins s σ H Q I h
  refine wpAny_Call_Name_kw (ld_glob I hg hm ?_ hdb)
  refine PySem.W.callWith_K (h₀ := X.base) I.ok.mod.kin hk (thn (ha pos pins s σ H _ I h) fun us s1 ⟨vs, H1, I1, r, q⟩ => ⟨I1.kIn, ?_⟩) he hpl
  exact run_fnX F hr hb hd hx I1 r q
end
theorem PSs.toX {X : Cx} {E' : Value → Shared → Prop} {st : List Stmt} {t : TS} (h : PSs (X.wish E') st t) (k : ∀ e s, E' e s → X.xe e s) : PSs X st t := fun pins s σ H D I hw =>
  wpAny_mono (h pins s σ H D (I.wish _) hw) (fun _ _ q => q.unwish) fun e s z => k e s z
section
variable {P : Program} {w : World} {K : PySem.W.Frag} {mg : Str → Option Value} {base : Heap}
theorem leave_ok {N : List Str} {qual : Str} {scope : Scope} {f : Addr} {cd : Value} {A : Around} {outer : List Env} {s : Shared} {H : Hp} {E : XK} {e : Value} {s' : Shared}
    (h : XS (cxOf (CX1 P w) P w K mg base N qual scope f cd A outer s H E) (fun _ => E) e s') : (cxOf (CX1 P w) P w K mg base N qual scope f cd A outer s H E).xe e s' := by
  obtain ⟨σ, H0, s0, I, a, H', cls, dx, st, rfl, c, hE⟩ := h
  show wpAny (model P w) (A.deeper (envOfC qual scope s.heap.objs.size f cd)) (leaving (envOfC qual scope s.heap.objs.size f cd) (.ref a)) (fun _ s'' => CX1 P w outer H s E (.ref a) s'') (fun e' s'' => CX1 P w outer H s E e' s'') s'
  unfold leaving
  apply wpAny_bind
  refine c.note (L := s.heap.objs.size) I.ok.frames rfl I.stack I.stkFree fun s1 c1 => ?_
  refine c1.flight I.stack I.stkFree fun s2 c2 => ?_
  have J := I.call' c2.os c2.un c2.hok c2.bare (fun b z => absurd z (by simp))
  refine ⟨a, H', cls, dx, _, rfl, ⟨J.os, c2.bare, J.base, c2.hok, c2.xo.mono fun b q => ⟨?_, q.2⟩⟩, hE⟩
  cases r : s.heap.get? b with
  | none => rfl
  | some o =>
    obtain ⟨o', r'⟩ := I.base.there b o r (fun z => absurd (show b ∈ ([] : List Addr) from z) (by simp))
    rw [q.1] at r'
    cases r'
/-- THE RULE for a def that may refuse -/
theorem fn_ofX {k : Nat} {f : Addr} {name qual : Str} {params : Arguments} {body : List Stmt} {scope : Scope} {dV kV doc pm cdv ct oc : Value} {an od : Option Addr}
    {osl : Array (Option Value)} {N ps : List Str} {sp : Sp} (lk : K.lookup f = some ⟨oc, od, .func (PySem.W.fnOf name qual params body scope dV kV doc pm an cdv ct), osl⟩) (hcd : PySem.W.codeIn K cdv qual = true) (S : FnScope N ps scope)
    (len : ∀ vs H Q E, sp vs H Q E → vs.length = ps.length)
    (hbody : ∀ (A : Around) (outer : List Env) (s : Shared) (H : Hp) (vs : List V) (Q : VK) (E : XK), Room k (A.deeper (envOfC qual scope s.heap.objs.size f cdv)) → sp vs H Q E →
      ∃ t, PSs ((cxOf (CX1 P w) P w K mg base N qual scope f cdv A outer s H E).wish (XS (cxOf (CX1 P w) P w K mg base N qual scope f cdv A outer s H E) fun _ => E)) body t ∧ t { nx := fun _ H' => Q .non H', rt := Q } (start N vs) H) :
    FnOk P w K mg base (CX1 P w) (k + 1) f (PySem.W.fnOf name qual params body scope dV kV doc pm an cdv ct) ps sp := by
  refine fn_of lk hcd S len fun A outer s H vs Q E hr hsp => ?_
  obtain ⟨t, h, q⟩ := hbody A outer s H vs Q E hr hsp
  exact ⟨t, h.toX fun e s' z => leave_ok z, q⟩
/-- a promise under which it refuses nothing -/
theorem FnOk.noraise {k : Nat} {f : Addr} {fd : FuncData} {ps : List Str} {sp sp0 : Sp} (F : FnOk P w K mg base (CX1 P w) k f fd ps sp) (h : ∀ vs H Q E, sp0 vs H Q E → sp vs H Q E0) : FnOk P w K mg base CX0 k f fd ps sp0 :=
  ⟨fun vs H Q E q => F.len vs H Q E0 (h _ _ _ _ q), fun A outer s H args us vs Q E hr he hb hv hs => codeAny_mono (F.run A outer s H args us vs Q E0 hr he hb hv (h _ _ _ _ hs)) fun r s' hq => by
    cases r with
    | error e => obtain ⟨_, _, _, _, _, _, _, z⟩ := hq; exact z.elim
    | ok fl => cases fl <;> exact hq⟩
end
/-! ### try -/
abbrev Cx.tried (X : Cx) (pins : List (Addr × Obj)) : Cx := { X with pn := X.pn ++ pins }
abbrev Cx.suite (X : Cx) (pins : List (Addr × Obj)) (a : Addr) : Cx := { X with A := X.A.mark (some (.ref a)), calm := false, pn := X.pn ++ pins, xe := fun _ _ => False }
/-- an exception that was caught or made, tracked -/
def excB (n : Bool) (a : Addr) (cls : Value) (dx : Option Addr) : HO := .ext fun h => ∃ ox vs, h.get? a = some ox ∧ ox.cls = cls ∧ ox.dict = dx ∧ ox.data = .fields vs ∧ vs[2]? = some .none ∧ (n = true → 1 < vs.size ∧ vs[1]? = some .none)
abbrev excO := excB false
theorem excB_ok {P : Program} {w : World} {H : Hp} {h : Heap} {n : Bool} {a : Addr} {cls : Value} {dx : Option Addr} {ox : Obj} {vs : Array Value} (h1 : h.get? a = some ox) (h2 : ox.cls = cls) (h3 : ox.dict = dx) (h4 : ox.data = .fields vs) (h6 : vs[2]? = some .none) (h5 : n = true → 1 < vs.size ∧ vs[1]? = some .none) : ObjOk P w H h a (excB n a cls dx) :=
  ⟨⟨ox, vs, h1, h2, h3, h4, h6, h5⟩, ⟨ox, h1⟩, fun _ _ ⟨oy, ws, q, r⟩ kp => ⟨oy, ws, kp _ q, r⟩⟩
abbrev TH := Ends → St → Value → Option Addr → Hp → Addr → Prop
def PH (X : Cx) (hs : List ExceptHandler) (th : TH) : Prop :=
  ∀ (pins : List (Addr × Obj)) (σ : St) (H0 : Hp) (s0 : Shared) (D : Ends) (a : Addr) (H' : Hp) (cls v : Value) (dx : Option Addr) (s' : Shared), Inv X pins σ H0 s0 → CXat X.prog X.w X.stack H0 s0 a H' cls dx (.fl v) s' → th D σ cls dx H' a →
    wpAny (model X.prog X.w) X.A (handleBy (.ref a) X.env hs) (SP X pins D) X.xe s'
section
variable {X : Cx} {pins : List (Addr × Obj)} {σ : St} {H H' : Hp} {s s' : Shared}
theorem Inv.tried (I : Inv X pins σ H s) : Inv (X.tried pins) [] σ H s :=
  ⟨⟨I.ok.mod, I.ok.kind, I.ok.glob, I.ok.blt, I.ok.above, I.ok.inj, I.ok.has, I.ok.cab, I.ok.hd, I.ok.frames, I.ok.stk, I.ok.exf, I.ok.bs, I.ok.bsz, I.ok.noex, I.ok.exfs, I.ok.funs, I.ok.frf⟩,
    I.os, I.bare, I.base, I.loc, I.cell, I.free, I.freeC, fun p hp => I.pin p (by simpa using hp), I.hok, I.len⟩
theorem Inv.untried (I : Inv (X.tried pins) [] σ H s) : Inv X pins σ H s :=
  ⟨⟨I.ok.mod, I.ok.kind, I.ok.glob, I.ok.blt, I.ok.above, I.ok.inj, I.ok.has, I.ok.cab, I.ok.hd, I.ok.frames, I.ok.stk, I.ok.exf, I.ok.bs, I.ok.bsz, I.ok.noex, I.ok.exfs, I.ok.funs, I.ok.frf⟩,
    I.os, I.bare, I.base, I.loc, I.cell, I.free, I.freeC, fun p hp => I.pin p (by simpa using hp), I.hok, I.len⟩
theorem Inv.insuite (I : Inv X pins σ H s) (a : Addr) : Inv (X.suite pins a) [] σ H s :=
  ⟨⟨I.ok.mod, I.ok.kind, I.ok.glob, I.ok.blt, I.ok.above, I.ok.inj, I.ok.has, I.ok.cab, fun z => (Bool.noConfusion z), I.ok.frames, I.ok.stk, I.ok.exf, I.ok.bs, I.ok.bsz, I.ok.noex, I.ok.exfs, I.ok.funs, I.ok.frf⟩,
    I.os, I.bare, I.base, I.loc, I.cell, I.free, I.freeC, fun p hp => I.pin p (by simpa using hp), I.hok, I.len⟩
theorem Inv.outsuite {a : Addr} (ok : X.Ok) (I : Inv (X.suite pins a) [] σ H s) : Inv X pins σ H s :=
  ⟨ok, I.os, I.bare, I.base, I.loc, I.cell, I.free, I.freeC, fun p hp => I.pin p (by simpa using hp), I.hok, I.len⟩
/-- a name that goes -/
theorem Inv.unbound {n : Str} {i : Nat} {h' : Heap} {m : Str → Option Value} {v : Option Value} {t' : Nat} (I : Inv X pins σ H s) (hi : X.N[i]? = some n) (hN : X.N.Nodup)
    (hm : ∀ (j : Nat) (x : Str) (v : V), X.N[j]? = some x → σ[j]? = some (some v) → Vis X.env.scope x → ∃ u, RelV v u ∧ Look X.env s.heap m x u)
    (hn : h'.Ns X.env.locals (fun x => if x = n then v else m x)) (hs : Heap.SameBut X.env.locals s.heap h') : Inv X pins (σ.set i none) H { s with heap := h', toks := t' } := by
  obtain ⟨m0, hn0, _⟩ := id I.loc
  obtain ⟨oL, _, _, hoL, _⟩ := id hn0
  have cne := I.cne
  have low : ∀ b o, X.s₀.heap.get? b = some o → b ≠ X.env.locals := fun b o e => Nat.ne_of_lt (Nat.lt_of_lt_of_le (Heap.lt_size e) I.ok.above)
  refine ⟨I.ok, I.os, I.bare, ⟨fun b o e n hb hx => ?_, fun b o e n hb hx => ?_, I.base.free, fun b o e hx => ?_, I.base.tups, I.base.frzs, I.base.tbls⟩, ⟨_, hn, fun j y v' e1 e2 e3 => ?_⟩, fun y c e => ?_, I.free, I.freeC, fun p hp => ?_, fun b ob e => ?_, by simpa using I.len⟩
  · exact (hs.2 b (low b o e)).trans (I.base.keep b o e n hb hx)
  · obtain ⟨sl, e1⟩ := I.base.slot b o e n hb hx
    exact ⟨sl, (hs.2 b (low b o e)).trans e1⟩
  · obtain ⟨o', e1⟩ := I.base.there b o e hx
    exact ⟨o', (hs.2 b (low b o e)).trans e1⟩
  · by_cases hj : j = i
    · subst hj
      rw [List.getElem?_set] at e2
      simp at e2
    · rw [List.getElem?_set_ne (Ne.symm hj)] at e2
      obtain ⟨u', r', q⟩ := hm j y v' e1 e2 e3
      refine ⟨u', r', ?_⟩
      rcases q with ⟨k, e⟩ | ⟨k, c, e, z⟩
      · refine .inl ⟨k, ?_⟩
        have : y ≠ n := fun e => hj (nodup_ix hN e1 (e ▸ hi))
        simp [this, e]
      · exact .inr ⟨k, c, e, z.sameBut hs (cne y c e)⟩
  · obtain ⟨w', z⟩ := I.cell y c e
    exact ⟨w', z.sameBut hs (cne y c e)⟩
  · obtain ⟨e, n, ne, nf, d⟩ := I.pin p hp
    exact ⟨(hs.2 p.1 ne).trans e, n, ne, nf, d⟩
  · refine (I.hok b ob e).stay (fun c w' hc q => (hs.2 c ?_).trans q) (fun _ q => q) fun _ _ q => q
    rintro rfl
    rcases hc with rfl | hc
    · rw [I.free] at e; cases e
    · rw [I.free] at hc; cases hc
/-- the exception is tracked from here on -/
theorem un_track {fs : List Addr} {h0 h : Heap} {a : Addr} {o : HO} (u : Un fs [] H H' h0 h) (n0 : h0.get? a = none) (na : H' a = none) : Un fs [] H (upd H' a o) h0 h where
  keep := u.keep
  slot := u.slot
  free := fun b ob q n hx => by
    have : b ≠ a := fun z => by rw [z, n0] at q; cases q
    rw [upd_ne this]
    exact u.free b ob q n hx
  there := u.there
  tups := fun b xs e => by
    have q := u.tups b xs e
    rw [upd_ne (ne_of_none q na)]
    exact q
  frzs := fun b o' w' e => by
    have q := u.frzs b o' w' e
    rw [upd_ne (ne_of_none q na)]
    exact q
  tbls := fun b ps e => by
    obtain ⟨mo, q⟩ := u.tbls b ps e
    exact ⟨mo, by rw [upd_ne (ne_of_none q na)]; exact q⟩
theorem hok_track {P : Program} {w : World} {h : Heap} {a : Addr} {o : HO} (k : HOk P w H h) (na : H a = none) (new : ObjOk P w (upd H a o) h a o) : HOk P w (upd H a o) h := fun b u e => by
  by_cases hb : b = a
  · subst hb; rw [upd_same] at e; cases e; exact new
  · rw [upd_ne hb] at e
    exact (k b u e).stay (fun c v _ q => q) (fun c q => by rw [upd_ne (ne_of_none q na)]; exact q) fun c xs q => by rw [upd_ne (ne_of_none q na)]; exact q
theorem CXat.caughtN {a : Addr} {cls : Value} {dx : Option Addr} (I : Inv X pins σ H s) (c : CXat X.prog X.w X.stack H s a H' cls dx .new s') : Inv X pins σ (upd H' a (excB true a cls dx)) s' := by
  obtain ⟨⟨oe, vs, he, hc, hd, hda, hz, hn⟩, n0, na⟩ := c.xo
  refine I.call' c.os (un_track c.un n0 na) (hok_track c.hok na (excB_ok he hc hd hda hz.2 fun _ => ⟨hz.1, hn⟩)) c.bare fun b z => absurd z (by simp)
theorem CXat.caught {a : Addr} {cls : Value} {dx : Option Addr} {st : XSt} (I : Inv X pins σ H s) (c : CXat X.prog X.w X.stack H s a H' cls dx st s') : Inv X pins σ (upd H' a (excO a cls dx)) s' := by
  obtain ⟨⟨oe, vs, he, hc, hd, hda, hz, _⟩, n0, na⟩ := c.xo
  refine I.call' c.os (un_track c.un n0 na) (hok_track c.hok na (excB_ok he hc hd hda hz.2 fun z => nomatch z)) c.bare fun b z => absurd z (by simp)
end
section
variable {X : Cx} {body : List Stmt} {h₀ : ExceptHandler} {hs : List ExceptHandler} {pos : Pos} {th : TH}
def tTry (tb : (St → XK) → TS) (th : TH) : TS := fun D σ H => tb (fun σ' cls dx H' => ∀ a, H' a = none → th D σ' cls dx H' a) D σ H
theorem SP.untried {pins : List (Addr × Obj)} {E : Value → Shared → Prop} {D : Ends} {f : Flow} {s' : Shared} (h : SP ((X.tried pins).wish E) [] D f s') : SP X pins D f s' := by
  cases f with
  | next => obtain ⟨σ', H', I, q⟩ := h; exact ⟨σ', H', I.unwish.untried, q⟩
  | brk => obtain ⟨σ', H', I, q⟩ := h; exact ⟨σ', H', I.unwish.untried, q⟩
  | cont => obtain ⟨σ', H', I, q⟩ := h; exact ⟨σ', H', I.unwish.untried, q⟩
  | ret u => obtain ⟨v, σ', H', I, r, q⟩ := h; exact ⟨v, σ', H', I.unwish.untried, r, q⟩
theorem ps_try {tb : (St → XK) → TS} (hstk : X.stack = X.env :: X.outer) (hfm : X.env.frame = some X.env.locals)
    (hb : ∀ (pins : List (Addr × Obj)) (E : St → XK), PSs ((X.tried pins).wish (XS (X.tried pins) E)) body (tb E)) (hh : PH X (h₀ :: hs) th) : PS X (.Try body (h₀ :: hs) [] [] pos) (tTry tb th) := by
  intro pins s σ H D I h
  refine wpAny_Try_except ?_
  refine wpAny_mono (hb pins _ [] s σ H D (I.tried.wish _) h) (fun f s1 q => ?_) fun e s1 hx => ?_
  · have q := q.untried
    cases f with
    | next => exact wpAny_execs_nil q
    | brk => exact q
    | cont => exact q
    | ret u => exact q
  · obtain ⟨σ', H0, s0, I0, a, H', cls, dx, st, rfl, c, hE⟩ := hx
    have c' : CXat X.prog X.w (X.env :: X.outer) H0 s0 a H' cls dx st s1 := hstk ▸ c
    have J := I0.untried
    have fr : X.A.frames = some (X.env :: X.outer) := by rw [← hstk]; exact J.ok.frames
    have st1 : s0.heap.FunFrames X.base (X.env :: X.outer) := by rw [← hstk]; exact J.stack
    have sf : ∀ b ∈ frs (X.env :: X.outer), H0 b = none := by rw [← hstk]; exact J.stkFree
    refine c'.note fr hfm st1 sf fun s2 c2 => ?_
    refine c2.flight st1 sf fun s3 c3 => ?_
    exact hh pins σ' H0 s0 D a H' cls _ dx s3 J (hstk ▸ c3) (hE a c3.xo.fr.2)
theorem ph_nil : PH X [] (fun _ _ _ _ _ _ => False) := fun _ _ _ _ _ _ _ _ _ _ _ _ _ h => h.elim
end
/-- what an except clause asks of its class -/
structure XT (K : PySem.W.Frag) (C : Addr) : Prop where
  ty : PySem.W.typeIn K (.ref C) = some (.type "type")
  cl : (PySem.W.clsIn K C).isSome = true
  ex : PySem.W.subIn K (.ref C) (.type "BaseException") = some true
theorem looks_isType {K : PySem.W.Frag} {M : Model} {h : Heap} {C : Addr} (X : K.In h) (e : (PySem.W.clsIn K C).isSome = true) : PySem.W.Looks M h (isType (.ref C)) true := by
  unfold PySem.W.clsIn at e
  split at e
  · rename_i ho
    intro A' Q' E' s' k q
    unfold isType loadHead
    exact wpAny_bind (wpAny_loadPart (k _ _ (X _ _ ho)) (wpAny_pure q))
  · cases e
end L2
set_option Elab.async false
set_option linter.all false
set_option maxRecDepth 100000
namespace L2
open PySem PySem.Spec PyProof.Rows XH
structure XG (K : PySem.W.Frag) (C : Addr) : Prop where
  ga : PySem.W.findIn K (.ref C) "__getattribute__" = some (some (.builtin "BaseException.__getattribute__"))
  gt : PySem.W.findIn K (.ref C) "__getattr__" = some none
  be : PySem.W.mroIn K C (.type "BaseException") = some true
section
variable {prog : Program} {w : World} {A : Around} {E : Value → Shared → Prop} {K : PySem.W.Frag} {h : Heap} {g : Array GenState} {d : Drawn} {t : Nat} {os : OsState} {x C : Addr} {ox : Obj} {od : Option Obj} {name : Str}
open PySem.W in
theorem exc_check {nameV : Value} {Q : Unit → Shared → Prop} (X : K.In h) (I : InstAt h x ox C od) (G : XG K C) (hq : Q () ⟨h, g, d, t, os⟩) :
    wpAny (model prog w) A (checkBuiltinCall "BaseException.__getattribute__" ⟨[.ref x, nameV], []⟩) Q E ⟨h, g, d, t, os⟩ := by
  have hk : builtinKind "BaseException.__getattribute__" = some .slot := by decide +kernel
  have hs : splitId "BaseException.__getattribute__" = some ("BaseException", "__getattribute__") := by decide +kernel
  have l0 := I.type (M := model prog w)
  have l1 := looks_mroIn (M := model prog w) X G.be
  have ha := F.args_bexc_ga (.ref x) nameV
  have l2 : Looks (model prog w) h (isInstance (.ref x) (.type "BaseException")) true := l0.andThen l1
  simp only [checkBuiltinCall, hk, hs]
  refine wpAny_bind ?_
  unfold isInstance
  have hx := I.at_
  have hc := I.cls
  repeat (first | (with_reducible refine wpAny_loadPart_at hx ?_; rw [hc]) | with_reducible refine l1.at ?_ | wp_step)
  exact hq
open PySem.W in
theorem exc_entry_value {tk : Tok} {v : Value} {Q : Fin → Shared → Prop} (X : K.In h) (I : InstAt h x ox C od) (hf : findObj K C od name = some (.value v)) (hq : Q (.done (.ret v)) ⟨h, g, d, t, os⟩) :
    wpAny (model prog w) A (Builtin.«object.__getattribute__» ⟨[.ref x, .str name tk], []⟩) Q E ⟨h, g, d, t, os⟩ := by
  have l0 := I.type (M := model prog w)
  have l1 := looks_find (M := model prog w) X I hf
  unfold Builtin.«object.__getattribute__»
  refine wpAny_bind (wpAny_pure (wpAny_bind (wpAny_pure (wpAny_bind (l0.at (wpAny_bind (l1.at ?_)))))))
  exact wpAny_pure hq
open PySem.W in
theorem exc_entry_bind {tk : Tok} {gv a : Value} {Q : Fin → Shared → Prop} (X : K.In h) (I : InstAt h x ox C od) (hf : findObj K C od name = some (.bind gv a))
    (hq : wpAny (model prog w) A (call gv [a, .ref x, .ref C]) (fun v s' => Q (.done (.ret v)) s') E ⟨h, g, d, t, os⟩) :
    wpAny (model prog w) A (Builtin.«object.__getattribute__» ⟨[.ref x, .str name tk], []⟩) Q E ⟨h, g, d, t, os⟩ := by
  have l0 := I.type (M := model prog w)
  have l1 := looks_find (M := model prog w) X I hf
  unfold Builtin.«object.__getattribute__»
  refine wpAny_bind (wpAny_pure (wpAny_bind (wpAny_pure (wpAny_bind (l0.at (wpAny_bind (l1.at ?_)))))))
  show wpAny _ _ (holding [a] (call gv [a, .ref x, .ref C]) >>= ret) _ _ _
  exact wpAny_bind (wpAny_holding (wpAny_mono hq (fun v s' z => wpAny_pure z) fun _ _ z => z))
open PySem.W in
theorem exc_by {tk : Tok} {fill expr : Bool} {Q : Value → Shared → Prop} (X : K.In h) (I : InstAt h x ox C od) (G : XG K C)
    (hq : ∀ A' : Around, wpAny (model prog w) A' (Builtin.«object.__getattribute__» ⟨[.ref x, .str name tk], []⟩) (fun fin s' => match fin with | .done (.ret v) => wpAny (model prog w) A (handedOut v) Q E s' | _ => False) (fun _ _ => False) ⟨h, g, d, t, os⟩) :
    wpAny (model prog w) A (getAttrBy (.ref x) (.str name tk) fill expr) Q E ⟨h, g, d, t, os⟩ := by
  have l0 := I.type (M := model prog w)
  have l1 := looks_findIn (M := model prog w) X G.ga
  have l2 := looks_findIn (M := model prog w) X G.gt
  have fb := F.attrBase_ValueError
  have f3 := fb.ga.bind (.ref x)
  unfold getAttrBy
  refine wpAny_holding (wpAny_bind (l0.at (wpAny_bind (l1.at ?_))))
  have hx2 : (Value.builtin "BaseException.__getattribute__" == Value.builtin "object.__getattribute__") = false := by decide +kernel
  simp only [hx2, Bool.and_false, Bool.false_eq_true, if_false]
  unfold getAttrByItsOwn hookBefore
  refine wpAny_bind ?_
  rw [if_pos (show onTheHeap (.ref C) = true from rfl)]
  refine l2.at ?_
  refine wpAny_bind (wpAny_attempt (wpAny_holding ?_))
  unfold callGetattribute
  rw [if_neg (by cases expr <;> exact Bool.false_ne_true)]
  unfold boundAndCalled
  refine wpAny_bind (wpAny_of_eq f3 ?_)
  refine wpAny_call (codeAny_call_builtin fb.ga.plain F.entry_bexc_ga (exc_check X I G (wpAny_mono (hq _) (fun fin s' z => ?_) fun _ _ z => z.elim)))
  rcases fin with (_ | _ | _ | _) | _ <;> first | exact z.elim | exact z
end
end L2
set_option Elab.async false
set_option linter.all false
set_option maxRecDepth 100000
namespace L2
open PySem PySem.Spec PyProof.Rows XH
section
variable {prog : Program} {w : World} {A : Around} {E : Value → Shared → Prop} {K : PySem.W.Frag}
theorem matches_ok {h : Heap} {g : Array GenState} {d : Drawn} {t : Nat} {os : OsState} {e C C' : Addr} {oe : Obj} {b : Bool} {Q : Bool → Shared → Prop} (KX : K.In h) (he : h.get? e = some oe) (hc : oe.cls = .ref C) (T : XT K C')
    (hsub : PySem.W.subIn K (.ref C) (.ref C') = some b) (hq : Q b ⟨h, g, d, t, os⟩) : wpAny (model prog w) A (excMatches (.ref e) (.ref C')) Q E ⟨h, g, d, t, os⟩ := by
  have l1 := PySem.W.looks_typeIn (M := model prog w) KX T.ty
  have l2 := PySem.W.looks_subIn (M := model prog w) KX T.ex
  have l3 := PySem.W.looks_subIn (M := model prog w) KX hsub
  have l4 := looks_isType (M := model prog w) KX T.cl
  have l5 : PySem.W.Looks (model prog w) h (isInstance (.ref C') (.type "tuple")) false := l1.andThen (PySem.W.Looks.of_pure tc_notTuple)
  have l6 : PySem.W.Looks (model prog w) h (isExcClass (.ref C')) true := by
    unfold isExcClass
    refine l4.andThen ?_
    exact l2
  unfold excMatches
  repeat (first | with_reducible refine wpAny_bind (l5.at ?_) | with_reducible refine wpAny_bind (l6.at ?_) | with_reducible refine wpAny_bind (l3.at ?_) | (with_reducible refine wpAny_loadPart_at he ?_; rw [hc]) | wp_step)
  cases b <;> (wp_walk; exact hq)
end
/-- a name that goes behind its suite -/
def offE (i : Nat) (D : Ends) : Ends := { nx := fun σ H => D.nx (σ.set i none) H, rt := D.rt, bk := fun σ H => D.bk (σ.set i none) H, ct := fun σ H => D.ct (σ.set i none) H }
def tHno (K : PySem.W.Frag) (C' : Addr) (t : TS) (r : TH) : TH := fun D σ cls dx H a => ∃ C b, cls = .ref C ∧ PySem.W.subIn K (.ref C) (.ref C') = some b ∧
  if b = true then t D σ (upd H a (excO a cls dx)) else r D σ cls dx H a
section
variable {X : Cx} {x n : Str} {np pos : Pos} {b0 : Stmt} {suite : List Stmt} {rest : List ExceptHandler} {i : Nat} {C' : Addr} {t : TS} {th : TH}
theorem gone_ok {pins : List (Addr × Obj)} {a : Addr} {D : Ends} {f : Flow} {s : Shared} {M : Model} {A : Around} {E : Value → Shared → Prop} (ok : X.Ok) (hN : X.N.Nodup) (hi : X.N[i]? = some n) (hloc : X.env.scope.names.lookup n = some .local)
    (q : SP (X.suite pins a) [] (offE i D) f s) : wpAny M A (do bindName X.env n .none; unbindBehindTheSuite X.env n pos) (fun _ s' => SP X pins D f s') E s := by
  have hcls : (X.env.scope.kind == .class || (X.env.scope.kind == .module && X.env.locals != X.env.globals)) = false := by rw [ok.kind]; rfl
  cases f with
  | next =>
    obtain ⟨σ, H, I, q⟩ := q
    have J := I.outsuite ok
    obtain ⟨m, hn, hl⟩ := id J.loc
    exact wpAny_nameGoes_keeps hloc hn hcls fun h' v hn' hs => ⟨_, H, J.unbound hi hN hl hn' hs, q⟩
  | brk =>
    obtain ⟨σ, H, I, q⟩ := q
    have J := I.outsuite ok
    obtain ⟨m, hn, hl⟩ := id J.loc
    exact wpAny_nameGoes_keeps hloc hn hcls fun h' v hn' hs => ⟨_, H, J.unbound hi hN hl hn' hs, q⟩
  | cont =>
    obtain ⟨σ, H, I, q⟩ := q
    have J := I.outsuite ok
    obtain ⟨m, hn, hl⟩ := id J.loc
    exact wpAny_nameGoes_keeps hloc hn hcls fun h' v hn' hs => ⟨_, H, J.unbound hi hN hl hn' hs, q⟩
  | ret u =>
    obtain ⟨v, σ, H, I, r, q⟩ := q
    have J := I.outsuite ok
    obtain ⟨m, hn, hl⟩ := id J.loc
    exact wpAny_nameGoes_keeps hloc hn hcls fun h' v' hn' hs => ⟨v, _, H, J.unbound hi hN hl hn' hs, r, q⟩
theorem SP.outsuite {pins : List (Addr × Obj)} {a : Addr} {D : Ends} {f : Flow} {s : Shared} (ok : X.Ok) (h : SP (X.suite pins a) [] D f s) : SP X pins D f s := by
  cases f with
  | next => obtain ⟨σ', H', I, q⟩ := h; exact ⟨σ', H', I.outsuite ok, q⟩
  | brk => obtain ⟨σ', H', I, q⟩ := h; exact ⟨σ', H', I.outsuite ok, q⟩
  | cont => obtain ⟨σ', H', I, q⟩ := h; exact ⟨σ', H', I.outsuite ok, q⟩
  | ret u => obtain ⟨v, σ', H', I, r, q⟩ := h; exact ⟨v, σ', H', I.outsuite ok, r, q⟩
theorem ph_no (T : XT X.K C') (hg : Gl X x) (hm : X.mg x = some (.ref C'))
    (hs : ∀ (pins : List (Addr × Obj)) (a : Addr), PSs (X.suite pins a) (b0 :: suite) t) (hrest : PH X rest th) (hd : (x == ("__debug__" : Str)) = false := by decide) :
    PH X (.ExceptHandler (some (.Name x np)) none (b0 :: suite) pos :: rest) (tHno X.K C' t th) := by
  intro pins σ H0 s0 D a H' cls v dx s' I c h
  obtain ⟨C, b, rfl, hsub, h⟩ := h
  have J : Inv X pins σ H' s' := I.call' c.os c.un c.hok c.bare (fun b z => absurd z (by simp))
  obtain ⟨oe, vs, he, hc, _, _, _⟩ := c.xo.ex
  refine wpAny_handleBy_cons (codeAny_handlers_test (ld_glob (X := X.suite pins a) (J.insuite a) hg hm ?_ hd)) (by intro q; cases q)
  have KX := J.kIn
  obtain ⟨hh, g, d, tk, os⟩ := s'
  refine matches_ok KX he hc T hsub ?_
  cases b with
  | false => exact hrest pins σ H0 s0 D a H' _ v dx _ I c h
  | true =>
    refine codeAny_handlers_suite ?_
    refine c.flight I.stack I.stkFree fun s2 c2 => ?_
    have J2 := (c2.caught I).insuite a
    refine wpAny_mono (hs pins a [] s2 _ _ _ J2 h) (fun f s4 q => ?_) fun _ _ z => z.elim
    exact q.outsuite I.ok
/-- an exception that passes a loop of this body -/
theorem own_XS {E : St → XK} (hstk : X.stack = X.env :: X.outer) (hfm : X.env.frame = some X.env.locals) : PassesOwn (model X.prog X.w) X.A X.env (XS X E) := by
  intro e s1 hx
  obtain ⟨σ', H0, s0, J, a, H', cls, dx, st, rfl, c, hE⟩ := hx
  have c' : CXat X.prog X.w (X.env :: X.outer) H0 s0 a H' cls dx st s1 := hstk ▸ c
  have fr : X.A.frames = some (X.env :: X.outer) := by rw [← hstk]; exact J.ok.frames
  have st1 : s0.heap.FunFrames X.base (X.env :: X.outer) := by rw [← hstk]; exact J.stack
  have sf : ∀ b ∈ frs (X.env :: X.outer), H0 b = none := by rw [← hstk]; exact J.stkFree
  unfold notedBy
  refine c'.note fr hfm st1 sf fun s2 c2 => ?_
  unfold cameBackBy
  obtain ⟨oe, vs, he, _, _, hd, _, T, _, _, h1, _⟩ := c2.xo.ex
  apply wpAny_bind
  apply wpAny_field he hd h1
  rw [if_neg (by simp)]
  refine c2.flight st1 sf fun s3 c3 => ?_
  exact ⟨σ', H0, s0, J, a, H', cls, dx, _, rfl, hstk ▸ c3, hE⟩
end
/-! ### raise -/
def bmV : List Value := [.type "ValueError", .type "Exception", .type "BaseException", .type "object"]
theorem exc_of {K : PySem.W.Frag} {h : Heap} {C : Addr} {bmB : List Value} {nw : String} (X : K.In h) (q : PySem.W.excIn K C bmB nw = true) :
    ∃ bm N nm qn bs hdct sn sub ab col dd k0 k1 k2 k3 k5 mN, h.get? C = some (excClassObj nm qn C N bs bm hdct sn sub ab col dd k0 k1 k2 k3 k5 nw) ∧ h.Ns N mN ∧ mN "__init__" = none ∧ OwnTail h bmB bm := by
  unfold PySem.W.excIn at q
  split at q
  · rename_i dd cd sl ho
    split at q
    · rename_i C' bm k0 k1 k2 k3 n k5 hm hs
      simp only [Bool.and_eq_true, beq_iff_eq, Bool.not_eq_true'] at q
      obtain ⟨⟨⟨⟨⟨e1, e2⟩, hdel⟩, ht⟩, hok⟩, hni⟩ := q
      subst e1 e2
      obtain ⟨nm, bs, mro, ns, qn, hd, sn, sub, ab, col, del⟩ := cd
      dsimp only at hm hdel hok hni
      subst hm hdel
      obtain ⟨l⟩ := sl
      have hl : l = [k0, k1, k2, k3, some (.builtin n), k5] := hs
      subst hl
      exact ⟨bm, ns, nm, qn, bs, hd, sn, sub, ab, col, dd, k0, k1, k2, k3, k5, _, X _ _ ho, .of_isNs (PySem.W.isNs_of_in X hok), PySem.W.nsMap_none_of_in X hok hni, PySem.W.tail_of_in X ht⟩
    · cases q
  · cases q
def tRaise (C : Addr) (E : St → XK) (t : TA) : TS := fun _ σ H => t σ H fun vs H1 => vs.length ≤ sizeLine ∧ E σ (.ref C) none H1
section
variable {X : Cx} {x : Str} {np cpos pos : Pos} {e₀ : Expr} {rest : List Expr} {C : Addr} {t : TA} {E : St → XK}
theorem made_cx {pins : List (Addr × Obj)} {σ : St} {H : Hp} {s : Shared} {h' : Heap} {e : Addr} {us : List Value} (I : Inv X pins σ H s) (mk : Heap.MadeExcOf s.heap h' e (.ref C) us) : CXat X.prog X.w X.stack H s e H (.ref C) none .new { s with heap := h' } := by
  obtain ⟨t, ht, _, _⟩ := mk.there
  exact ⟨rfl, I.bare, Un.kept mk.keeps, I.hok.kept mk.keeps, ⟨⟨_, _, ht, rfl, rfl, rfl, ⟨by show 1 < 6; decide, rfl⟩, rfl⟩, mk.new, I.hok.none_of mk.new⟩⟩
theorem ps_raise (q : PySem.W.excIn X.K C bmV "ValueError.__new__" = true) (hg : Gl X x) (hm : X.mg x = some (.ref C)) (hc : X.calm = true) (hp : PassX X E) (ha : PA X (e₀ :: rest) t) (hd : (x == ("__debug__" : Str)) = false := by decide)
    (he : starEach (e₀ :: rest) X.env = (false, eval e₀ X.env) :: starEach rest X.env := by rfl) (hpl : (backTo cpos (starEach rest X.env)).any (·.1) = false := by rfl) :
    PS X (.Raise (some (.Call (.Name x np) (e₀ :: rest) [] cpos)) none pos) (tRaise C E t) := by
  intro pins s σ H D I h
  obtain ⟨bm, N, nm, qn, bs, hdct, sn, sub, ab, col, dd, k0, k1, k2, k3, k5, mN, hC, hN, hni, TL⟩ := exc_of I.ok.mod.kin q
  have F := PySem.F.excBase_ValueError
  have W := ha cpos pins s σ H _ I h
  refine wpAny_Raise_call_subT (C := C) (nm := nm) (q := qn) (N := N) (bs := bs) (bm := bm) (hdct := hdct) (sn := sn) (sub := sub) (ab := ab) (col := col) (dd := dd) (k0 := k0) (k1 := k1) (k2 := k2) (k3 := k3) (k5 := k5) (mN := mN)
    F (TL.hasType F.hasBase) (I.ok.hd hc) (by rw [he]; exact hpl) hni (ld_glob I hg hm ⟨rfl, ?_⟩ hd)
  rw [he] at W ⊢
  refine Calls.evalArgs_plain (thn W fun us s2 ⟨vs, H1, I1, r, hl, z⟩ => ⟨rfl, by rw [← r.length]; exact hl, I1.bk _ _ hC, hN.keeps I1.bk, TL.keeps I1.bk, fun h' e mk => ?_⟩)
  exact hp pins σ H1 s2 _ _ I1 ⟨e, H1, .ref C, none, .new, rfl, made_cx I1 mk, z⟩
end
/-! ### isinstance of an exception -/
structure XI (K : PySem.W.Frag) (C : Addr) : Prop where
  gg : XG K C
  cl : (PySem.W.clsIn K C).isSome = true
  at_ : PySem.W.findIn K (.ref C) "__class__" = some (some (.builtin "object.__class__"))
  gt : PySem.W.specialIn K (.builtin "object.__class__") "__get__" = some (some (.builtin "getset_descriptor.__get__"))
  tk : PySem.W.takesIn K (.builtin "object.__class__") = some true
  ob : PySem.W.mroIn K C (.type "object") = some true
theorem findObj_cls {K : PySem.W.Frag} {C : Addr} {od : Option Obj} (x : XI K C) : PySem.W.findObj K C od "__class__" = some (.bind (.builtin "getset_descriptor.__get__") (.builtin "object.__class__")) := by
  obtain ⟨cd, hc⟩ := Option.isSome_iff_exists.mp x.cl
  unfold PySem.W.findObj
  rw [hc, Option.bind_some, x.at_, Option.bind_some]
  simp [x.gt, x.tk]
theorem kitx_exc {K : PySem.W.Frag} {a C : Addr} (x : XI K C) : PySem.W.KitX K (.ref a) (.ref C) (fun h => ∃ ox od, PySem.W.InstAt h a ox C od) where
  ty := fun _ _ _ ⟨_, _, I⟩ => I.type
  it := fun _ _ X _ => looks_isType X x.cl
  ne := fun h tp dd its n sl X htp => by
    refine Bool.eq_false_iff.mpr fun q => ?_
    have e : C = tp := Value.ref.inj (beq_iff_eq.mp q)
    subst e
    have c := x.cl
    unfold PySem.W.clsIn at c
    split at c
    · rename_i ho
      have z := (X _ _ ho).symm.trans htp
      cases z
    · cases c
  ca := fun {_ _ _ _ _ s} X I k => by
    obtain ⟨ox, od, I⟩ := I
    obtain ⟨hh, g, d, t, os⟩ := s
    unfold getAttr? getAttrBy?
    refine wpAny_bind (wpAny_mkText (wpAny_bind (wpAny_attempt (exc_by (h := hh) X I x.gg fun A' => exc_entry_bind X I (findObj_cls x) ?_))))
    exact wpAny_call (PySem.W.class_get (s := ⟨hh, g, d, t + 1, os⟩) (ox := ox) (od := od) X I x.ob (PySem.W.handed_on rfl (wpAny_pure k)))
def XDict (H : Hp) (dx : Option Addr) : Prop := match dx with
  | none => True
  | some d => ∃ fs, H d = some (.xd fs)
theorem inst_of {X : Cx} {pins : List (Addr × Obj)} {σ : St} {H : Hp} {s : Shared} {a C : Addr} {n : Bool} {dx : Option Addr} (I : Inv X pins σ H s) (e : H a = some (excB n a (.ref C) dx)) (d : XDict H dx) : ∃ ox od, PySem.W.InstAt s.heap a ox C od := by
  obtain ⟨⟨ox, vs, h1, h2, h3, h4, _⟩, _⟩ := (show ObjOk X.prog X.w H s.heap a (excB n a (.ref C) dx) from I.hok a _ e)
  have nc : PySem.W.notCls ox = true := by unfold PySem.W.notCls; rw [h4]
  cases dx with
  | none => exact ⟨ox, none, h1, h2, nc, by rw [h3]; trivial⟩
  | some d' =>
    obtain ⟨fs, hd⟩ := d
    obtain ⟨mA, ⟨o, es, ep, e', _⟩, _⟩ := (show ObjOk X.prog X.w H s.heap d' (.xd fs) from I.hok d' _ hd)
    exact ⟨ox, some o, h1, h2, nc, by rw [h3]; exact e'⟩
/-- the answer for a class of the text, for one of Python's own -/
inductive XIs (K : PySem.W.Frag) (C : Addr) : V → Bool → Prop where
  | own {D : Addr} {b : Bool} (h : PySem.W.kitOne K (.ref C) (.ref D) = some b) : XIs K C (.ref D) b
  | ty {T : String} {b : Bool} (h : PySem.W.kitOne K (.ref C) (.type T) = some b) : XIs K C (.ty T) b
theorem call_isiX {X : Cx} {K : PySem.W.Frag} (hK : X.K = K) : CallR X (.builtin "isinstance") (fun xs H Q => ∃ a C dx c b, xs = [.ref a, c] ∧ (∃ n, H a = some (excB n a (.ref C) dx)) ∧ XDict H dx ∧ XI K C ∧ XIs K C c b ∧ Q (.bl b) H) := by
  subst hK
  intro pins s σ H xs us Q I r h
  obtain ⟨a, C, dx, c, b, rfl, ⟨n, e⟩, d, xi, xs, q⟩ := h
  obtain ⟨u, w', rfl, e1, e2⟩ := vals2 r
  cases e1
  cases xs with
  | own h =>
    cases e2
    exact PySem.W.kia_one (kitx_exc xi) I.kIn (inst_of I e d) h (fun z => nomatch z) fun tk => ⟨.bl b, H, I.tok tk, rfl, q⟩
  | ty h =>
    cases e2
    exact PySem.W.kia_one (kitx_exc xi) I.kIn (inst_of I e d) h (fun z => nomatch z) fun tk => ⟨.bl b, H, I.tok tk, rfl, q⟩
end L2
set_option Elab.async false
set_option linter.all false
set_option maxRecDepth 100000
namespace L2
open PySem PySem.Spec PyProof.Rows XH
/-! ### list comprehensions -/
abbrev Cx.block (X : Cx) (scope : Scope) (cl : List (Str × Addr)) (C : Addr) (N : List Str) (own : Str) (fp : List Addr) (s : Shared) (H : Hp) : Cx :=
  { X with env := compEnvC scope cl C X.env, N := N, s₀ := s, H₀ := H, outer := X.stack, stack := X.stack, ex := fp, fn := fun y => y == own, pn := [], xe := fun _ _ => False }
/-- what a comprehension's scope must have; ys: the names it takes from around, at the slots js there -/
structure CompOk (X : Cx) (scope : Scope) (cl : List (Str × Addr)) (own : Str) (ys : List Str) (js : List Nat) : Prop where
  clos : closureFor scope X.env = pure cl
  nocell : (scope.names.all fun p => !(p.2 == .cell)) = true
  kind : scope.kind = .function
  loc : (scope.names.all fun p => !(p.2 == .local) || scope.names.lookup p.1 == some .local) = true
  ownL : scope.names.lookup own = some .local
  sub : ∀ p ∈ cl, X.env.cells.lookup p.1 = some p.2
  has : ((relabel scope X.env).names.all fun p => !(p.2 == .cell || p.2 == .free) || (cl.lookup p.1).isSome) = true
  noown : cl.lookup own = none
  nd : (own :: ys).Nodup
  at_ : ∀ (i : Nat) (y : Str), ys[i]? = some y → ∃ j : Nat, js[i]? = some j ∧ X.N[j]? = some y ∧ (X.env.scope.names.lookup y = some .cell ∨ X.env.scope.names.lookup y = some .free) ∧ ((relabel scope X.env).names.lookup y = some .cell ∨ (relabel scope X.env).names.lookup y = some .free)
  len : js.length = ys.length
def freesOf (js : List Nat) (σ : St) : St := js.map fun j => (σ[j]?).getD none
def compR (js : List Nat) (te : TE) (σ : St) (Q : VK) : It → Hp → Prop := fun J H1 => ∀ p, H1 p = none → ∃ W : Nat → Nat → List V → Hp → Prop, (∃ m, W 0 m [] (upd H1 p (.lst []))) ∧
  ∀ i m ys H2, W i m ys H2 → H2 p = some (.lst ys) ∧ ((J.stop i H2 ∧ Q (.ref p) H2) ∨ (J.go i H2 ∧ ys.length < sizeLine ∧ ∀ x H3, J.yld i H2 x H3 → te (some x :: freesOf js σ) H3 fun y H4 => H4 p = some (.lst ys) ∧ ∃ m', m' < m ∧ W (i + 1) m' (ys ++ [y]) (upd H4 p (.lst (ys ++ [y])))))
def tComp (wi : TI) (js : List Nat) (te : TE) : TE := fun σ H Q => wi σ H (compR js te σ Q)
theorem lookup_all {α : Type} {f : Str × α → Bool} {x : Str} {a : α} : ∀ {l : List (Str × α)}, l.all f = true → l.lookup x = some a → f (x, a) = true := by
  intro l h e
  exact List.all_eq_true.mp h _ (PySem.mem_of_lookup e)
section
variable {prog : Program} {w : World} {A : Around} {R : Result → Shared → Prop} {s : Shared}
theorem compLoop_own {elt target iter : Expr} {scope : Scope} {pos : Pos} {it acc : Value} {env : Env} (I : Nat → Shared → Prop)
    (turn : ∀ n s, I n s → wpAny (model prog w) A (pyNext it) (fun r s1 => match r with
      | none => R (.ok .next) s1
      | some v => wpAny (model prog w) A (letOwnedTupleGo target it v) (fun _ s2 => wpAny (model prog w) A (assign target env v) (fun _ s3 => wpAny (model prog w) A (eval elt env) (fun x s4 =>
          wpAny (model prog w) A (call (.builtin "list.append") [acc, x]) (fun _ s5 => ∃ m, m < n ∧ I m s5) (fun _ _ => False) s4) (fun _ _ => False) s3) (fun _ _ => False) s2) (fun _ _ => False) s1) (fun _ _ => False) s)
    (n : Nat) (h : I n s) : codeAny (model prog w) A (.compLoop (.ListComp elt [⟨target, iter, [], 0⟩] scope pos) 0 it acc env) R s := by
  apply codeAny_loop rfl I ?_ n h
  intro n s hI
  show wpAny _ _ ((compTurn (.ListComp elt [⟨target, iter, [], 0⟩] scope pos) 0 it acc env).onRaise _) _ _ s
  apply wpAny_noted
  rw [compTurn_list1]
  apply wpAny_bind
  apply wpAny_standAt
  apply wpAny_bind
  refine wpAny_mono (turn n s hI) (fun r s1 h1 => ?_) fun _ _ z => z.elim
  cases r with
  | none => exact wpAny_pure h1
  | some v =>
    apply wpAny_bind
    refine wpAny_mono h1 (fun _ s2 h2 => ?_) fun _ _ z => z.elim
    apply wpAny_bind
    refine wpAny_mono h2 (fun _ s3 h3 => ?_) fun _ _ z => z.elim
    apply wpAny_bind
    apply wpAny_bind
    refine wpAny_mono h3 (fun x s4 h4 => ?_) fun _ _ z => z.elim
    apply wpAny_bind
    refine wpAny_mono h4 (fun _ s5 h5 => ?_) fun _ _ z => z.elim
    exact wpAny_pure (wpAny_pure ⟨rfl, h5⟩)
end
section
variable {X : Cx} {scope : Scope} {cl : List (Str × Addr)} {own : Str} {ys : List Str} {js : List Nat} {fp : List Addr} {pins : List (Addr × Obj)} {σ : St} {H : Hp} {s s4 : Shared}
theorem block_start {h1 : Heap} (ok : CompOk X scope cl own ys js) (I : Inv X pins σ H s) (hf : ∀ b ∈ fp, FpOk X pins H b) (hlt : ∀ b ∈ fp, b < s.heap.objs.size) (hns : h1.Ns s.heap.objs.size (fun _ => none))
    (hk : ∀ b o, s.heap.get? b = some o → h1.get? b = some o) (tk : Nat) :
    Inv (X.block scope cl s.heap.objs.size (own :: ys) own fp s H) [] (none :: freesOf js σ) H { s with heap := h1, toks := tk } := by
  have sub : ∀ y c, cl.lookup y = some c → X.env.cells.lookup y = some c := fun y c e => ok.sub (y, c) (PySem.mem_of_lookup e)
  refine ⟨⟨I.ok.mod, ok.kind, I.ok.glob, I.ok.blt, Nat.le_refl _, fun x y c e1 e2 => I.ok.inj x y c (sub x c e1) (sub y c e2), fun x hx => ?_, fun x c e1 e2 => ?_, I.ok.hd, I.ok.frames, .inl rfl, fun b hb => ⟨Nat.ne_of_lt (hlt b hb), fun x c e => (hf b hb).2.2.2.2.1 x c (sub x c e)⟩,
    I.bs, Nat.le_trans I.ok.bsz I.sz, fun b o e hb => ?_, fun b hb z => ?_, I.stack, I.stkFree⟩, rfl, I.bare, Un.kept hk, ⟨_, hns, fun i y v e1 e2 e3 => ?_⟩, fun y c e => ?_, I.hok.fresh (Nat.le_refl _), fun y c e => I.freeC y c (sub y c e), fun p hp => absurd (show p ∈ ([] : List (Addr × Obj)) from hp) (by simp), I.hok.kept hk, ?_⟩
  · have hx' : (relabel scope X.env).names.lookup x = some .cell ∨ (relabel scope X.env).names.lookup x = some .free := hx
    rcases hx' with z | z
    · have q := lookup_all ok.has z
      simp only [beq_self_eq_true, Bool.true_or, Bool.not_true, Bool.false_or] at q
      exact Option.isSome_iff_exists.mp q
    · have q := lookup_all ok.has z
      simp only [beq_self_eq_true, Bool.or_true, Bool.not_true, Bool.false_or] at q
      exact Option.isSome_iff_exists.mp q
  · have e1' : (x == own) = true := e1
    have e : x = own := beq_iff_eq.mp e1'
    have e2' : cl.lookup x = some c := e2
    rw [e, ok.noown] at e2'
    cases e2'
  · rcases (hf b hb).2.2.2.1 with z | z
    · exact I.ok.noex b o e z
    · exact absurd (Nat.lt_of_lt_of_le (Heap.lt_size (I.ok.bs b o e).1) z) (Nat.lt_irrefl _)
  · rcases List.mem_cons.mp (I.stkSub b z) with q | q
    · exact (hf b hb).2.1 q
    · exact (hf b hb).2.2.1 q
  · cases i with
    | zero => cases e2
    | succ i =>
      have e1' : ys[i]? = some y := e1
      obtain ⟨j, hj, hN, hX, hc⟩ := ok.at_ i y e1'
      have e2' : (freesOf js σ)[i]? = some (some v) := e2
      unfold freesOf at e2'
      rw [List.getElem?_map, hj] at e2'
      have hs : σ[j]? = some (some v) := by
        cases q : σ[j]? with
        | none => rw [Option.map_some, q] at e2'; cases e2'
        | some o => rw [Option.map_some, q] at e2'; exact e2'
      obtain ⟨m, hn, hl⟩ := I.loc
      obtain ⟨u, r, l⟩ := hl j y v hN hs (hX.elim (fun z => .inr (.inl z)) fun z => .inr (.inr z))
      refine ⟨u, r, .inr ⟨hc, ?_⟩⟩
      rcases l with ⟨k, _⟩ | ⟨k, c, hcl, hcell⟩
      · have k' : X.env.scope.names.lookup y = some .local := k
        rcases hX with z | z <;> (rw [z] at k'; cases k')
      · have ex : ∃ c', cl.lookup y = some c' := by
          rcases hc with z | z
          · have q := lookup_all ok.has z
            simp only [beq_self_eq_true, Bool.true_or, Bool.not_true, Bool.false_or] at q
            exact Option.isSome_iff_exists.mp q
          · have q := lookup_all ok.has z
            simp only [beq_self_eq_true, Bool.or_true, Bool.not_true, Bool.false_or] at q
            exact Option.isSome_iff_exists.mp q
        obtain ⟨c', hc'⟩ := ex
        have e := sub y c' hc'
        rw [hcl] at e
        cases e
        obtain ⟨oc, hoc, hd⟩ := hcell
        exact ⟨c, hc', oc, hk _ _ hoc, hd⟩
  · obtain ⟨v, oc, hoc, hd⟩ := I.cell y c (sub y c e)
    exact ⟨v, oc, hk _ _ hoc, hd⟩
  · show (none :: freesOf js σ).length = (own :: ys).length
    simp [freesOf, ok.len]
theorem block_end {H' : Hp} {h' : Heap} {σ' : St} (I : Inv X pins σ H s) (hf : ∀ b ∈ fp, FpOk X pins H b) (J : Inv (X.block scope cl s.heap.objs.size (own :: ys) own fp s H) [] σ' H' s4) (hs : Heap.SameBut s.heap.objs.size s4.heap h') :
    Inv X pins σ H' { s4 with heap := h' } := by
  have low : ∀ b o, s.heap.get? b = some o → b ≠ s.heap.objs.size := fun b o e => Nat.ne_of_lt (Heap.lt_size e)
  have B := J.base
  have u : Un (frs X.stack) fp H H' s.heap h' := {
    keep := fun b o q n hb hx => (hs.2 b (low b o q)).trans (B.keep b o q n hb hx)
    slot := fun b o q n hb hx => by
      obtain ⟨sl, e⟩ := B.slot b o q n hb hx
      exact ⟨sl, (hs.2 b (low b o q)).trans e⟩
    free := B.free
    there := fun b o q hx => by
      obtain ⟨o', e⟩ := B.there b o q hx
      exact ⟨o', (hs.2 b (low b o q)).trans e⟩
    tups := B.tups
    frzs := B.frzs
    tbls := B.tbls }
  have hn : H' s.heap.objs.size = none := J.free
  have hk : HOk X.prog X.w H' h' := fun a o e => (J.hok a o e).stay (fun b v hb q => (hs.2 b (by
    intro z
    rcases hb with z' | z'
    · rw [← z', z, hn] at e; cases e
    · rw [z, hn] at z'; cases z')).trans q) (fun _ q => q) fun _ _ q => q
  exact I.call' (s' := { s4 with heap := h' }) (ch := fp) J.os u hk J.bare fun b hb => ⟨(hf b hb).2.2.2.1, (hf b hb).2.1, (hf b hb).2.2.2.2.1, (hf b hb).2.2.2.2.2⟩
end
section
variable {X : Cx} {scope : Scope} {cl : List (Str × Addr)} {own : Str} {ys : List Str} {js : List Nat} {elt iter : Expr} {px pos : Pos} {wi : TI} {te : TE}
theorem pe_comp (hc : X.calm = true) (ok : CompOk X scope cl own ys js) (hi : PI X (.Name own px) iter wi)
    (he : ∀ (C : Addr) (fp : List Addr) (s : Shared) (H : Hp), PE (X.block scope cl C (own :: ys) own fp s H) elt te)
    (hs : ∀ x, foldedSetIterable iter X.env x = pure x := by intro _; rfl) : PE X (.ListComp elt [⟨.Name own px, iter, [], 0⟩] scope pos) (tComp wi js te) := by
  intro pins s σ H Q I h
  rw [eval_ListComp]
  have ncell : ∀ y ∈ scope.names, y.2 ≠ .cell := fun y hy z => by
    have q := List.all_eq_true.mp ok.nocell y hy
    rw [z] at q
    simp at q
  have nloc : ∀ y ∈ scope.names, y.2 = .local → scope.names.lookup y.1 = some .local := fun y hy z => by
    have q := List.all_eq_true.mp ok.loc y hy
    rw [z] at q
    simpa using q
  refine wpAny_comprehension_free (use := none) rfl hs ok.clos ok.kind nloc (thn (hi pins s σ H _ I h) fun v s1 h1 => thn h1 fun itv s2 h2 => ?_)
  obtain ⟨it, fp, tn, J, H2, rfl, I2, T, st2, f2, q2⟩ := h2
  obtain ⟨W, ⟨m0, w0⟩, turn⟩ := q2 s2.heap.objs.size (I2.hok.fresh (Nat.le_refl _))
  refine wpAny_newObj_type (wpAny_newFunctionEnv ncell (by intro y hy; simp at hy) (fun h1 hns hsb => ?_) ok.kind)
  have I3 := I2.laid (a := s2.heap.objs.size) (o := .lst []) (h' := s2.heap.push { cls := .type "list", dict := none, data := .seq ([] : List Value).toArray }) (t' := s2.toks) (fun b u q => Heap.get?_push_of_some _ q) (Nat.le_refl _)
    ⟨Nat.zero_le _, [], 0, .nil, Heap.get?_push_size _ rfl⟩
  have fpo : ∀ b ∈ fp, b < s2.heap.objs.size := fun b hb => by
    obtain ⟨o, e, _⟩ := T.obj 0 _ st2 b hb
    exact Heap.lt_size e
  have f3 : ∀ b ∈ fp, FpOk X pins (upd H2 s2.heap.objs.size (.lst [])) b := fun b hb => ⟨by rw [upd_ne (Nat.ne_of_lt (fpo b hb))]; exact (f2 b hb).1, (f2 b hb).2⟩
  generalize hs3 : ({ s2 with heap := s2.heap.push { cls := .type "list", dict := none, data := .seq ([] : List Value).toArray }, toks := s2.toks } : Shared) = s3 at I3
  have e3 : s3.heap = s2.heap.push { cls := .type "list", dict := none, data := .seq ([] : List Value).toArray } := by rw [← hs3]
  have lt3 : ∀ b ∈ fp, b < s3.heap.objs.size := fun b hb => by rw [e3, Heap.size_push]; exact Nat.lt_succ_of_lt (fpo b hb)
  dsimp only at hns hsb ⊢
  rw [← e3] at hns hsb
  have hk : ∀ b o, s3.heap.get? b = some o → h1.get? b = some o := fun b o e => hsb.extBut b o (Nat.ne_of_lt (Heap.lt_size e)) (Heap.get?_push_of_some _ e)
  have J0 := block_start (h1 := h1) ok I3 f3 lt3 hns hk (s2.toks + 0)
  have t0 : tn 0 h1 := T.keep 0 _ _ st2 fun b hb o e => hk b o (by rw [e3]; exact Heap.get?_push_of_some _ e)
  have fpB : ∀ {H' : Hp}, (∀ b ∈ fp, H' b = none) → ∀ b ∈ fp, FpOk (X.block scope cl s3.heap.objs.size (own :: ys) own fp s3 (upd H2 s2.heap.objs.size (.lst []))) [] H' b := fun {H'} hn b hb =>
    ⟨hn b hb, Nat.ne_of_lt (lt3 b hb), fun z => (List.mem_cons.mp (I3.stkSub b z)).elim (f3 b hb).2.1 (f3 b hb).2.2.1, .inl hb, fun x c e => (f3 b hb).2.2.2.2.1 x c (ok.sub (x, c) (PySem.mem_of_lookup e)), fun p hp => absurd (show p ∈ ([] : List (Addr × Obj)) from hp) (by simp)⟩
  have loop : codeAny (model X.prog X.w) X.A (.compLoop (.ListComp elt [⟨.Name own px, iter, [], 0⟩] scope pos) 0 (.ref it) (.ref s2.heap.objs.size) (compEnvC scope cl s3.heap.objs.size X.env))
      (compPost (model X.prog X.w) X.A X.xe none (EP X pins σ Q) (.ref s2.heap.objs.size) s3.heap.objs.size) { s3 with heap := h1, toks := s2.toks + 0 } := by
    refine compLoop_own (fun n s' => ∃ i zs o0 H', Inv (X.block scope cl s3.heap.objs.size (own :: ys) own fp s3 (upd H2 s2.heap.objs.size (.lst []))) [] (o0 :: freesOf js σ) H' s' ∧ tn i s'.heap ∧ (∀ b ∈ fp, H' b = none) ∧ W i n zs H') ?_ m0
      ⟨0, [], none, _, J0, t0, fun b hb => (f3 b hb).1, w0⟩
    rintro n s5 ⟨i, zs, o0, H5, I5, t5, n5, w5⟩
    obtain ⟨hD, hw⟩ := turn i n zs H5 w5
    rcases hw with ⟨stop, qn⟩ | ⟨go, hz, step⟩
    · refine thn (T.done (X.block scope cl s3.heap.objs.size (own :: ys) own fp s3 (upd H2 s2.heap.objs.size (.lst []))) rfl rfl rfl hc i [] s5 _ H5 (fun _ _ => False) I5 (fpB n5) t5 stop) fun r s6 ⟨hr, I6⟩ => ?_
      subst hr
      obtain ⟨m, hn, _⟩ := id I6.loc
      exact ⟨m, hn, fun h' hs' => ⟨V.ref s2.heap.objs.size, H5, block_end I3 f3 I6 hs', rfl, qn⟩⟩
    · refine thn (T.item (X.block scope cl s3.heap.objs.size (own :: ys) own fp s3 (upd H2 s2.heap.objs.size (.lst []))) rfl rfl rfl hc i [] s5 _ H5 (fun _ _ => False) I5 (fpB n5) t5 go) fun r s6 ⟨u, hr, h6⟩ => ?_
      subst hr
      refine thn h6 fun _ s7 ⟨x, H7, I7, r7, y7, t7, n7⟩ => ?_
      have I7' := I7.pinned (fpB n7) (T.obj _ _ t7)
      have hst := step x H7 y7
      have own' : (relabel scope X.env).names.lookup own = some .local := lookup_relabel_local ok.ownL
      refine thn (pg_name (X := X.block scope cl s3.heap.objs.size (own :: ys) own fp s3 (upd H2 s2.heap.objs.size (.lst []))) (i := 0) (x := own) (pos := px) ok.nd rfl (.inl own') (.inr own') _ s7 _ H7 x u (fun σ' H' => σ' = some x :: freesOf js σ ∧ H' = H7) I7' r7 ⟨rfl, rfl⟩) fun _ s8 ⟨σ8, H8, I8, e8, eH8⟩ => ?_
      subst e8 eH8
      refine thn (he _ _ _ _ _ s8 _ H8 _ I8 hst) fun yv s9 ⟨y, H9, I9, r9, hD9, m', hm, w9⟩ => ?_
      refine thn (mt_append _ s9 _ H9 (.ref s2.heap.objs.size) [y] (.ref s2.heap.objs.size) [yv] (fun _ H' => H' = upd H9 s2.heap.objs.size (.lst (zs ++ [y]))) I9 rfl (.cons r9 .nil) ⟨_, zs, y, rfl, rfl, hD9, hz, rfl⟩) fun _ s10 ⟨_, H10, I10, _, e10⟩ => ?_
      subst e10
      refine ⟨m', hm, i + 1, zs ++ [y], some x, _, I10.unpinned, T.keep _ _ _ t7 fun b hb o e => (I10.pin (b, o) (List.mem_append_right _ (List.mem_append_right _ (mem_pinsAt hb e)))).1, fun b hb => ?_, w9⟩
      obtain ⟨o, e, d⟩ := T.obj _ _ t7 b hb
      exact (I10.pin (b, o) (List.mem_append_right _ (List.mem_append_right _ (mem_pinsAt hb e)))).2.1
  subst hs3
  exact codeAny_compStart_list loop (T.self _ 0 _ _ _ t0 loop)
end
end L2
set_option Elab.async false
set_option linter.all false
set_option maxRecDepth 100000
namespace L2
open PySem PySem.Spec PyProof.Rows XH PySem.Builtin PySem.Builtin.ObjectAttr
/-! ### an own refusal's __init__: its field -/
/-- the classes above it, as a store asks -/
structure XA (K : PySem.W.Frag) (C S : Addr) : Prop where
  sa : PySem.W.findIn K (.ref C) "__setattr__" = some (some (.builtin "object.__setattr__"))
  mro : (PySem.W.clsIn K C).map (·.mro) = some (.ref C :: .ref S :: bmV)
  dct : PySem.W.hasDictIn K C = true
  ob : PySem.W.mroIn K C (.type "object") = some true
theorem refuse_V (self : Value) (C S : Addr) : refuseLoop self "__setattr__" (.ref C :: .ref S :: bmV) = pure () := by
  rw [refuseLoop_ref, refuseLoop_ref]
  kernel_rfl
section
variable {prog : Program} {w : World} {A : Around} {E : Value → Shared → Prop} {s : Shared} {K : PySem.W.Frag} {x C S : Addr} {ox : Obj} {od : Option Obj} {name : Str} {v : Value}
open PySem.W in
theorem osa_exc {R : Result → Shared → Prop} {tk : Tok} (X : K.In s.heap) (I : InstAt s.heap x ox C od) (N : XA K C S) (hn : findIn K (.ref C) name = some none)
    (h : wpAny (model prog w) A.in1 (storeInOwnDict (.ref x) (.ref C) (.str name tk) name v false) (fun fin s' => match fin with | .done f => R (.ok f) s' | .again c' => c'.quiet = true ∧ codeAny (model prog w) A c' R s') (fun e s' => R (.error e) s') s) :
    codeAny (model prog w) A (.call (.builtin "object.__setattr__") ⟨[.ref x, .str name tk, v], []⟩) R s := by
  have so := PySem.F.store_object
  obtain ⟨cd, hc, hm⟩ := Option.map_eq_some_iff.mp N.mro
  have sub : Looks (model prog w) s.heap (isInstance (.ref x) (.type "object")) true := I.type.andThen (looks_mroIn X N.ob)
  have lm : Looks (model prog w) s.heap (mroOf (.ref C)) cd.mro := (looks_clsIn X hc).andThen .now
  have ck : ∀ {A' : Around} {Q' : Unit → Shared → Prop} {E' : Value → Shared → Prop}, Q' () s → wpAny (model prog w) A' (checkBuiltinCall "object.__setattr__" ⟨[.ref x, .str name tk, v], []⟩) Q' E' s := fun {A' Q' E'} q =>
    check_slot (M := model prog w) (A := A') (E := E') (s := s) (i := "object.__setattr__") (owner := "object") (n := "__setattr__") (self := .ref x) (rest := [.str name tk, v]) (kw := []) (Q := Q') so.kind so.split sub (so.args (.ref x) (.str name tk) v) q
  refine codeAny_call_builtin so.slot.plain so.entry (ck ?_)
  rw [osa_eq, refuse_eq]
  refine wpAny_bind (wpAny_bind (I.type.here ?_))
  refine wpAny_bind (lm.here ?_)
  rw [hm, refuse_V]
  refine wpAny_pure (wpAny_bind ?_)
  refine I.type.here (wpAny_bind ?_)
  refine (looks_findIn X hn).here (wpAny_bind (wpAny_pure ?_))
  exact h
open PySem.W in
theorem set_exc {vs : Array Value} {Q : Unit → Shared → Prop} (X : K.In s.heap) (he : s.heap.get? x = some ox) (hc : ox.cls = .ref C) (hdx : ox.dict = none) (hda : ox.data = .fields vs) (N : XA K C S) (hn : findIn K (.ref C) name = some none)
    (h : ∀ h', (∀ b o, b ≠ x → s.heap.get? b = some o → h'.get? b = some o) → h'.get? x = some { ox with dict := some s.heap.objs.size } → h'.Ns1 s.heap.objs.size (fun y => if y = name then some v else none) →
      Q () { s with heap := h', toks := s.toks + 2 }) : wpAny (model prog w) A (setAttr (.ref x) name v) Q E s := by
  have I : InstAt s.heap x ox C none := ⟨he, hc, by unfold notCls; rw [hda], by rw [hdx]; trivial⟩
  apply set_plain X I N.sa
  have I2 : InstAt ({ s with toks := s.toks + 1 } : Shared).heap x ox C none := I
  apply osa_exc (s := { s with toks := s.toks + 1 }) X I2 N hn
  obtain ⟨cd, hcd, hd⟩ := any_some N.dct
  obtain ⟨oc, odi, oda, osl⟩ := ox
  dsimp only at hc hdx hda
  subst hc hdx hda
  refine wpAny_bind (wpAny_pure (wpAny_bind (wpAny_bind (wpAny_loadPart he ?_))))
  refine wpAny_bind (Looks.here (s := { s with toks := s.toks + 1 }) (looks_clsIn X hcd) ?_)
  rw [hd]
  show wpAny _ _ (alloc { cls := .type "dict", data := .dict #[] } >>= fun d => update x (fun o => { o with dict := some d }) >>= fun _ => dictMade (.ref C) x d) _ _ _
  refine wpAny_bind (wpAny_alloc ?_)
  have lt := Heap.lt_size he
  have hne : x ≠ s.heap.objs.size := Nat.ne_of_lt lt
  have he1 := Heap.get?_push_of_some (h := s.heap) { cls := .type "dict", data := .dict #[] } he
  have e1 : (s.heap.push PySem.W.emptyDict).get? s.heap.objs.size = some PySem.W.emptyDict := Heap.get?_push_size s.heap rfl
  have e2 : (s.heap.push PySem.W.emptyDict).Ns s.heap.objs.size (fun _ => none) := ⟨PySem.W.emptyDict, #[], _, e1, rfl, (fun e he => absurd he (by simp)), fun _ => rfl⟩
  refine wpAny_bind (wpAny_update he1 ?_)
  refine wpAny_pure ?_
  have up : ∀ b, b ≠ x → ((s.heap.push PySem.W.emptyDict).update x (fun o => { o with dict := some s.heap.objs.size })).get? b = (s.heap.push PySem.W.emptyDict).get? b := fun b hb => Heap.get?_update_other _ _ (Ne.symm hb)
  have e3 : ((s.heap.push PySem.W.emptyDict).update x (fun o => { o with dict := some s.heap.objs.size })).Ns1 s.heap.objs.size (fun _ => none) := (Heap.Ns1.of_empty e2).at fun o q => (up _ (Ne.symm hne)).trans q
  have e4 : ((s.heap.push PySem.W.emptyDict).update x (fun o => { o with dict := some s.heap.objs.size })).get? x = some ⟨.ref C, some s.heap.objs.size, .fields vs, osl⟩ := Heap.get?_update_self _ he1 rfl
  refine wpAny_bind (wpAny_pure (wpAny_bind ?_))
  refine wpAny_nsSet1 (s := ⟨(s.heap.push PySem.W.emptyDict).update x (fun o => { o with dict := some s.heap.objs.size }), s.gens, s.drawn, s.toks + 1, s.os⟩) e3 fun h' hn2 hs2 => ?_
  obtain ⟨oD, esD, epD, hoD, hdD, hcD⟩ := hn2.count (ns := [name]) (PySem.Within.cons (ns := []) name v (fun y hy => absurd rfl hy))
  refine wpAny_bind (wpAny_lookBehind hoD (by rw [hdD]; exact pastItsLine_dict (Nat.le_trans hcD (by show 1 ≤ sizeLine + 1; decide))) ?_)
  refine wpAny_pure (h h' (fun b o hb q => ?_) ((hs2.2 x hne).trans e4) hn2)
  have hbd : b ≠ s.heap.objs.size := Nat.ne_of_lt (Heap.lt_size q)
  exact (hs2.2 b hbd).trans ((up b hb).trans (Heap.get?_push_of_some _ q))
end
/-- self.f = e in the __init__ of an own refusal -/
def sFldX (K : PySem.W.Frag) (ta tv : TE) (f : Str) : TS := fun D σ H => tv σ H fun y H1 => ta σ H1 fun x H2 => ∃ a C S n, x = .ref a ∧ H2 a = some (excB n a (.ref C) none) ∧ XA K C S ∧ PySem.W.findIn K (.ref C) f = some none ∧
  ∀ d, H2 d = none → D.nx σ (upd (upd H2 d (.xd [(f, y)])) a (excB n a (.ref C) (some d)))
section
variable {X : Cx} {o value : Expr} {f : Str} {pos pos' : Pos} {ta tv : TE}
theorem setx_ok {pins : List (Addr × Obj)} {σ : St} {H : Hp} {s : Shared} {a C S : Addr} {y : V} {u : Value} {n : Bool} {A : Around} {E : Value → Shared → Prop} {Q : Unit → Shared → Prop} (I : Inv X pins σ H s) (e : H a = some (excB n a (.ref C) none)) (N : XA X.K C S)
    (hn : PySem.W.findIn X.K (.ref C) f = some none) (ry : RelV y u) (h : ∀ d s', H d = none → Inv X pins σ (upd (upd H d (.xd [(f, y)])) a (excB n a (.ref C) (some d))) s' → Q () s') :
    wpAny (model X.prog X.w) A (setAttr (.ref a) f u) Q E s := by
  obtain ⟨⟨ox, vs, h1, h2, h3, h4, h6, h5⟩, _⟩ := (show ObjOk X.prog X.w H s.heap a (excB n a (.ref C) none) from I.hok a _ e)
  refine set_exc I.kIn h1 h2 h3 h4 N hn fun h' kp ha hd => ?_
  have nd : H s.heap.objs.size = none := I.hok.fresh (Nat.le_refl _)
  have ad : a ≠ s.heap.objs.size := ne_of_none e nd
  refine h s.heap.objs.size _ nd ?_
  have ne : ∀ b o, H b = some o → b ≠ s.heap.objs.size := fun b o q => ne_of_none q nd
  have nea : ∀ b, H b = none → b ≠ a := fun b q z => by rw [z, e] at q; cases q
  refine I.un (t' := s.toks + 2) (h' := h') ⟨?_, ?_, ?_, ?_, ?_, ?_, ?_⟩ ?_
  · intro b o q n hb _
    exact kp b o (nea b n) q
  · intro b o q n hb _
    exact ⟨o.slots, kp b o (nea b n) q⟩
  · intro b o q n _
    rw [upd_ne (nea b n), upd_ne (Nat.ne_of_lt (Heap.lt_size q))]
    exact n
  · intro b o q _
    by_cases hb : b = a
    · subst hb
      exact ⟨_, ha⟩
    · exact ⟨o, kp b o hb q⟩
  · intro b xs q
    have hb : b ≠ a := ne_of q e (by intro z; cases z)
    rw [upd_ne hb, upd_ne (ne b _ q)]
    exact q
  · intro b o' u' q
    have hb : b ≠ a := ne_of q e (by intro z; cases z)
    rw [upd_ne hb, upd_ne (ne b _ q)]
    exact q
  · intro b ps q
    have hb : b ≠ a := ne_of q e (by intro z; cases z)
    exact ⟨#[], by rw [upd_ne hb, upd_ne (ne b _ q), q]; simp⟩
  · intro b ob q
    by_cases hb : b = a
    · subst hb
      rw [upd_same] at q
      cases q
      exact excB_ok ha h2 rfl h4 h6 h5
    · rw [upd_ne hb] at q
      by_cases hbd : b = s.heap.objs.size
      · subst hbd
        rw [upd_same] at q
        cases q
        refine ⟨_, hd, fun g => ?_⟩
        show RelO (List.lookup g [(f, y)]) (if g = f then some u else none)
        by_cases hg : g = f
        · subst hg
          rw [if_pos rfl]
          simp only [List.lookup, beq_self_eq_true]
          exact ry
        · rw [if_neg hg]
          have : (g == f) = false := beq_eq_false_iff_ne.mpr hg
          simp only [List.lookup, this]
          trivial
      · rw [upd_ne hbd] at q
        refine (I.hok b ob q).stay (fun c v hc z => kp c v (fun y => ?_) z) (fun c z => ?_) fun c xs z => ?_
        · rcases hc with z' | z'
          · exact hb (z'.symm.trans y)
          · rw [y, e] at z'; cases z'
        · have hc : c ≠ a := ne_of z e (by intro z; cases z)
          rw [upd_ne hc, upd_ne (ne c _ z)]
          exact z
        · have hc : c ≠ a := ne_of z e (by intro z; cases z)
          rw [upd_ne hc, upd_ne (ne c _ z)]
          exact z
end
end L2
set_option Elab.async false
set_option linter.all false
set_option maxRecDepth 100000
namespace L2
open PySem PySem.Spec PyProof.Rows XH
section
variable {X : Cx} {o e value : Expr} {f : Str} {pos pos' : Pos} {ta tv : TE}
theorem ps_fldX {K : PySem.W.Frag} (hK : X.K = K) (ha : PE X o ta) (hv : PE X value tv) (hs : swapsWith value (some (.Attribute o f pos')) pos.line X.env = pure false) : PS X (.Assign [.Attribute o f pos'] value pos) (sFldX K ta tv f) := by
  subst hK
  intro pins s σ H D I h
  refine plainObj_wpAny_Assign_Attribute (thn (hv pins s σ H _ I h) fun u s1 ⟨y, H1, I1, ry, q⟩ => thn (ha pins s1 σ H1 _ I1 q) fun ov s2 ⟨x, H2, I2, rx, a, C, S, nb, ex, ea, n, hn, q2⟩ => ?_) hs
  subst ex
  obtain rfl : ov = Value.ref a := rx
  exact setx_ok I2 ea n hn ry fun d s3 nd I3 => ⟨σ, _, I3, q2 d nd⟩
/-- e.f of a refusal that has the field -/
structure XF (K : PySem.W.Frag) (C : Addr) (f : Str) : Prop where
  gg : XG K C
  dct : PySem.W.hasDictIn K C = true
  no : PySem.W.findIn K (.ref C) f = some none
def tFldX (K : PySem.W.Frag) (ta : TE) (f : Str) : TE := fun σ H Q => ta σ H fun x H1 => ∃ a C d fs v n, x = .ref a ∧ H1 a = some (excB n a (.ref C) (some d)) ∧ H1 d = some (.xd fs) ∧ XF K C f ∧ fs.lookup f = some v ∧ Q v H1
theorem pe_fldX {K : PySem.W.Frag} (hK : X.K = K) (he : PE X e ta) (hb : attributeBase e f X.env (eval e X.env) = eval e X.env) : PE X (.Attribute e f pos) (tFldX K ta f) := by
  subst hK
  intro pins s σ H Q I h
  refine attr_of hb (thn (he pins s σ H _ I h) fun ov s1 ⟨x, H1, I1, rx, a, C, d, fs, v, nb, ex, ea, ed, n, l, q⟩ => ?_)
  subst ex
  obtain rfl : ov = Value.ref a := rx
  obtain ⟨⟨ox, vs, h1, h2, h3, h4, _⟩, _⟩ := (show ObjOk X.prog X.w H1 s1.heap a (excB nb a (.ref C) (some d)) from I1.hok a _ ea)
  obtain ⟨mA, ns, rel⟩ := (show ObjOk X.prog X.w H1 s1.heap d (.xd fs) from I1.hok d _ ed)
  obtain ⟨od, hod, lk⟩ := lookIn_ns ns
  obtain ⟨u, hu, ru⟩ := RelO.some_of (v := v) (o := mA f) (by rw [← l]; exact rel f)
  have J : PySem.W.InstAt s1.heap a ox C (some od) := ⟨h1, h2, by unfold PySem.W.notCls; rw [h4], by rw [h3]; exact hod⟩
  have KX := I1.kIn
  have I2 := I1.tok (s1.toks + 1)
  obtain ⟨hh, g, dr, t, os⟩ := s1
  unfold getAttr
  refine wpAny_bind (wpAny_mkText (exc_by (h := hh) KX J n.gg fun A' => exc_entry_value KX J (PySem.W.findObj_own n.dct n.no rfl (by rw [lk, hu])) ?_))
  exact PySem.W.handed_on (handed_of ru) ⟨v, H1, I2, ru, q⟩
end
/-! ### a refusal with an __init__ is made -/
theorem ns_some {K : PySem.W.Frag} {h : Heap} {N : Addr} {mg : Str → Option Value} {n : Str} {v : Value} (X : K.In h) (G : h.Ns N mg) (e : PySem.W.nsIn K N n = some (some v)) : mg n = some v := by
  obtain ⟨o, es, ep, ho, hd, _, hf⟩ := G
  unfold PySem.W.nsIn at e
  split at e
  · rename_i q
    have z := X _ _ q
    rw [ho] at z
    cases z
    cases hd
    split at e
    · rename_i he
      cases e
      rw [← hf]
      unfold nsFind findBy
      rw [← Array.find?_toList, he]
      rfl
    · split at e <;> cases e
  · cases e
structure XCi (K : PySem.W.Frag) (C f : Addr) : Prop where
  ex : ∃ bm N nm q bs hdct sn sub ab col dd k0 k1 k2 k3 k5, K.lookup C = some (excClassObj nm q C N bs bm hdct sn sub ab col dd k0 k1 k2 k3 k5 "ValueError.__new__") ∧ PySem.W.nsOkIn K N = true ∧ PySem.W.nsIn K N "__init__" = some (some (.ref f)) ∧ PySem.W.tailIn K bmV bm = true
  fn : PySem.W.typeIn K (.ref f) = some (.type "function")
  kp : PySem.W.keepIn K (.ref C) = true
section
variable {prog : Program} {w : World} {A : Around} {E : Value → Shared → Prop} {h : Heap} {g : Array GenState} {d : Drawn} {t : Nat} {os : OsState}
variable {nm q : Str} {C N : Addr} {bs bm : List Value} {hdct : Bool} {sn : List Str} {sub : List Value} {ab : Bool} {col : Option Bool} {dd : Option Addr} {k0 k1 k2 k3 k5 : Option Value}
theorem type_call_init {mN : Str → Option Value} {rest : List Value} {fI : Addr} {oI : Obj} {Q : Fin → Shared → Prop} (tl : OwnTail h bmV bm)
    (cl : h.get? C = some (excClassObj nm q C N bs bm hdct sn sub ab col dd k0 k1 k2 k3 k5 "ValueError.__new__")) (nn : h.Ns N mN) (ni : mN "__init__" = some (.ref fI)) (gI : h.get? fI = some oI) (cI : oI.cls = .type "function")
    (kq : ∀ h' e, Heap.MadeExcOf h h' e (.ref C) rest → wpAny (model prog w) A (call (.ref fI) (.ref e :: rest)) (fun r s' => r = .none ∧ Q (.done (.ret (.ref e))) s') E ⟨h', g, d, t, os⟩) (lr : rest.length ≤ sizeLine) :
    wpAny (model prog w) A (Builtin.«type.__call__» ⟨.ref C :: rest, []⟩) Q E ⟨h, g, d, t, os⟩ := by
  have FV := PySem.F.excBase_ValueError
  repeat (first | with_reducible refine wpAny_loadPart_at cl ?_ | with_reducible refine wpAny_madeBy_exc cl ?_ | wp_step)
  refine codeAny_call_builtin_code (Code.quiet_builtin _ FV.quiet) (wpAny_check_new_subT FV tl cl ?_)
  refine codeAny_exc_new_subT FV tl cl ?_ lr
  show wpAny _ _ _ _ _ _
  generalize hp : (h.push { cls := .type "tuple", data := .seq rest.toArray }).push { cls := .ref C, data := .fields #[.ref h.objs.size, .none, .none, .none, .bool false, .none] } = h2
  have kp : ∀ b o, h.get? b = some o → h2.get? b = some o := fun b o z => by rw [← hp]; exact Heap.get?_push_of_some _ (Heap.get?_push_of_some _ z)
  have ge : h2.get? (h.objs.size + 1) = some { cls := .ref C, data := .fields #[.ref h.objs.size, .none, .none, .none, .bool false, .none] } := by rw [← hp]; heap_get
  have gt : h2.get? h.objs.size = some { cls := .type "tuple", data := .seq rest.toArray } := by rw [← hp]; exact Heap.get?_push_of_some _ (Heap.get?_push_at rfl rfl)
  have cl2 := kp _ _ cl
  have nn2 : h2.Ns N mN := nn.keeps kp
  have self : (Value.ref C :: bm).contains (.ref C) = true := by simp
  unfold isInstance
  repeat (first | with_reducible refine wpAny_loadPart_at ge ?_ | (with_reducible refine wpAny_isSubtype_exc cl2 ?_; rw [self]) | wp_step)
  show wpAny _ _ (typeLookup (.ref C) _) _ _ _
  refine wpAny_typeLookup_tail cl2 nn2 (tl.keeps kp) FV.mroIs FV.init.lookup ?_
  rw [ni]
  refine wpAny_holding (wpAny_bind ?_)
  unfold bindSpecial
  refine wpAny_bind (wpAny_typeOf (T := "function") ⟨_, kp _ _ gI, cI⟩ ?_)
  rw [if_pos (by decide)]
  refine wpAny_pure (wpAny_bind ?_)
  refine wpAny_mono (kq h2 (h.objs.size + 1) ⟨kp, Heap.get?_none_of_le (Nat.le_succ _), h.objs.size, ge, Heap.get?_none_of_le (Nat.le_refl _), gt⟩) (fun r s' hr => ?_) fun _ _ z => z
  obtain ⟨rfl, z⟩ := hr
  wp_walk
  exact z
theorem call_init {mN : Str → Option Value} {rest : List Value} {fI : Addr} {oI : Obj} {Q : Value → Shared → Prop} (tl : OwnTail h bmV bm)
    (cl : h.get? C = some (excClassObj nm q C N bs bm hdct sn sub ab col dd k0 k1 k2 k3 k5 "ValueError.__new__")) (nn : h.Ns N mN) (ni : mN "__init__" = some (.ref fI)) (gI : h.get? fI = some oI) (cI : oI.cls = .type "function")
    (kq : ∀ h' e, Heap.MadeExcOf h h' e (.ref C) rest → wpAny (model prog w) (A.under (.builtin "type.__call__" ⟨.ref C :: rest, []⟩)) (call (.ref fI) (.ref e :: rest)) (fun r s' => r = .none ∧ Q (.ref e) s') E ⟨h', g, d, t, os⟩) (lr : rest.length ≤ sizeLine) :
    wpAny (model prog w) A (call (.ref C) rest) Q E ⟨h, g, d, t, os⟩ := by
  have a1 := tc_lookup
  have a2 := tc_bind (.ref C)
  have ty : (⟨h, g, d, t, os⟩ : Shared).TypeIs (.ref C) "type" := ⟨_, cl, rfl⟩
  refine wpAny_call (codeAny_of_tree ?_)
  show wpAny _ _ (callAny (.ref C) _) _ _ _
  repeat (any_goals (first | assumption | with_reducible refine wpAny_loadPart_at cl ?_ | wp_step))
  refine ⟨rfl, ?_⟩
  refine codeAny_call_builtin_at (Code.quiet_builtin _ (by decide +kernel)) entry_typeCall (wpAny_check_type_call_sub cl ?_)
  exact type_call_init tl cl nn ni gI cI (fun h' e mk => kq h' e mk) lr
end
section
variable {X : Cx} {x : Str} {p pos : Pos} {e : Expr} {es : List Expr} {C fI : Addr} {t : TA} {k : Nat} {fd : FuncData} {ps : List Str} {sp : Sp}
theorem run_init {pins : List (Addr × Obj)} {σ : St} {H : Hp} {s : Shared} {Q : Value → Shared → Prop} {us : List Value} {vs : List V} {E : Value → Shared → Prop} {R : Addr → Hp → Prop} (M : XCi X.K C fI) (F : FnOk X.prog X.w X.K X.mg X.base CX0 k fI fd ps sp) (hr : Room (k + 1) X.A) (hb : Binds X.K fd ps [])
    (I : Inv X pins σ H s) (r : Vals vs us) (lr : vs.length ≤ sizeLine) (h : ∀ a, H a = none → sp (.ref a :: vs) (upd H a (excB true a (.ref C) none)) (fun v H2 => v = .non ∧ R a H2) E0)
    (hq : ∀ a h' H2 s2, Heap.MadeExcOf s.heap h' a (.ref C) us → s2.os = s.os → AllBare s2.gens → Un (frs X.stack) [] H H2 s.heap s2.heap → HOk X.prog X.w H2 s2.heap → R a H2 → Q (.ref a) s2) :
    wpAny (model X.prog X.w) X.A (call (.ref C) us) Q E s := by
  obtain ⟨bm, N, nm, qn, bs, hdct, sn, sub, ab, col, dd, k0, k1, k2, k3, k5, lk, ok, ini, tl⟩ := M.ex
  have KX := I.kIn
  have lr' : us.length ≤ sizeLine := by rw [← r.length]; exact lr
  have fn := M.fn
  unfold PySem.W.typeIn at fn
  obtain ⟨oI, gI, cI⟩ := Option.map_eq_some_iff.mp fn
  have nn : s.heap.Ns N (s.heap.nsMap N) := .of_isNs (PySem.W.isNs_of_in KX ok)
  have key := fun h' a (mk : Heap.MadeExcOf s.heap h' a (.ref C) us) => (made_cx I mk).caughtN I
  have un := fun h' a (mk : Heap.MadeExcOf s.heap h' a (.ref C) us) => un_track (o := excB true a (.ref C) none) (Un.kept (fs := frs X.stack) (ex := []) (H := H) mk.keeps) mk.new (I.hok.none_of mk.new)
  obtain ⟨hh, g, d, tk, os⟩ := s
  refine call_init (PySem.W.tail_of_in KX tl) (KX _ _ lk) nn (ns_some KX nn ini) (KX _ _ gI) cI (fun h' a mk => ?_) lr'
  have I2 := key h' a mk
  have na : H a = none := I.hok.none_of mk.new
  have hs := h a na
  have r2 : Vals (V.ref a :: vs) (Value.ref a :: us) := .cons rfl r
  have hl : (Value.ref a :: us ++ []).length = ps.length := by
    rw [List.append_nil, ← r2.length]
    exact F.len _ _ _ _ hs
  have hb' := hb ⟨h', g, d, tk, os⟩ (Value.ref a :: us) I2.kIn hl
  rw [List.append_nil] at hb'
  refine wpAny_call (codeAny_mono (F.run _ X.stack _ _ ⟨Value.ref a :: us, []⟩ (Value.ref a :: us) _ _ E0 (hr.make C us []) (I2.env0.make C us []) hb' r2 hs) fun rr s' hq' => ?_)
  cases rr with
  | error z => exact hq'.elim
  | ok fl =>
    cases fl with
    | ret u =>
      obtain ⟨v, H2, os', bare, un2, hok, rv, ev, q2⟩ := hq'
      subst ev
      exact ⟨rv, hq a h' H2 s' mk os' bare ((un h' a mk).trans un2) hok q2⟩
    | next => exact False.elim hq'
    | brk => exact False.elim hq'
    | cont => exact False.elim hq'
end
end L2
set_option Elab.async false
set_option linter.all false
set_option maxRecDepth 100000
namespace L2
open PySem PySem.Spec PyProof.Rows XH
section
variable {M : Model} {A : Around} {E : Value → Shared → Prop} {env : Env}
variable {nm q : Str} {C N : Addr} {bs bm : List Value} {hdct : Bool} {sn : List Str} {sub : List Value} {ab : Bool} {col : Option Bool} {dd : Option Addr} {k0 k1 k2 k3 k5 : Option Value} {nw : String}
theorem raise_any {s : Shared} {x : Sem Value} {Q : Flow → Shared → Prop} (hb : bm.contains (.type "BaseException") = true) (hh : A.handled = none)
    (h : wpAny M A x (fun v s1 => ∃ e dx ws sl, v = .ref e ∧ s1.heap.get? C = some (excClassObj nm q C N bs bm hdct sn sub ab col dd k0 k1 k2 k3 k5 nw) ∧ s1.heap.get? e = some ⟨.ref C, dx, .fields ws, sl⟩ ∧ ws[1]? = some .none ∧ E (.ref e) s1) E s) :
    wpAny M A (raiseStmt env (some x) none) Q E s := by
  have cb : (Value.ref C :: bm).contains (.type "BaseException") = true := by rw [List.contains_cons, hb, Bool.or_true]
  unfold raiseStmt
  apply wpAny_bind
  refine wpAny_mono h (fun v s1 h1 => ?_) fun _ _ z => z
  obtain ⟨e, dx, ws, sl, rfl, cl, ge, n1, he⟩ := h1
  obtain ⟨hp, g, d, tk, os⟩ := s1
  repeat (first | with_reducible refine wpAny_loadPart_at ge ?_ | with_reducible refine wpAny_loadPart_at cl ?_ | (with_reducible refine wpAny_isSubtype_exc cl ?_; rw [cb]) | wp_step)
  rw [n1]
  refine wpAny_pure ?_
  rw [if_neg (by decide)]
  exact wpAny_pure (wpAny_raiseNew_none hh he)
end
def del (H : Hp) (a : Addr) : Hp := fun b => if b = a then none else H b
theorem del_ne {H : Hp} {a b : Addr} (h : b ≠ a) : del H a b = H b := if_neg h
theorem del_same {H : Hp} {a : Addr} : del H a a = none := if_pos rfl
theorem un_del {fs : List Addr} {H H2 : Hp} {h0 h : Heap} {a : Addr} (u : Un fs [] H H2 h0 h) (na : H a = none) : Un fs [] H (del H2 a) h0 h where
  keep := u.keep
  slot := u.slot
  free := fun b o q n hx => by
    by_cases hb : b = a
    · rw [hb, del_same]
    · rw [del_ne hb]; exact u.free b o q n hx
  there := u.there
  tups := fun b xs e => by rw [del_ne (ne_of_none e na)]; exact u.tups b xs e
  frzs := fun b o w e => by rw [del_ne (ne_of_none e na)]; exact u.frzs b o w e
  tbls := fun b ps e => by rw [del_ne (ne_of_none e na)]; exact u.tbls b ps e
theorem hok_del {P : Program} {w : World} {H : Hp} {h : Heap} {a : Addr} {φ : Heap → Prop} (k : HOk P w H h) (e : H a = some (.ext φ)) : HOk P w (del H a) h := fun b o q => by
  by_cases hb : b = a
  · rw [hb, del_same] at q; cases q
  · rw [del_ne hb] at q
    refine (k b o q).stay (fun c v _ z => z) (fun c z => ?_) fun c xs z => ?_
    · rw [del_ne (ne_of z e (by intro y; cases y))]; exact z
    · rw [del_ne (ne_of z e (by intro y; cases y))]; exact z
def tRaiseI (C : Addr) (sp : Sp) (E : St → XK) (t : TA) : TS := fun _ σ H => t σ H fun vs H1 => vs.length ≤ sizeLine ∧ ∀ a, H1 a = none → sp (.ref a :: vs) (upd H1 a (excB true a (.ref C) none)) (fun v H2 => v = .non ∧ ∃ d, H2 a = some (excB true a (.ref C) (some d)) ∧ E σ (.ref C) (some d) (del H2 a)) E0
section
variable {X : Cx} {x : Str} {np cpos pos : Pos} {e₀ : Expr} {rest : List Expr} {C fI : Addr} {t : TA} {k : Nat} {fd : FuncData} {ps : List Str} {sp : Sp} {E : St → XK}
theorem ps_raiseI (M : XCi X.K C fI) (F : FnOk X.prog X.w X.K X.mg X.base CX0 k fI fd ps sp) (hr : Room (k + 1) X.A) (hg : Gl X x) (hm : X.mg x = some (.ref C)) (hb : Binds X.K fd ps []) (hc : X.calm = true) (hp : PassX X E) (ha : PA X (e₀ :: rest) t) (hd : (x == ("__debug__" : Str)) = false := by decide)
    (he : starEach (e₀ :: rest) X.env = (false, eval e₀ X.env) :: starEach rest X.env := by rfl) (hpl : (backTo cpos (starEach rest X.env)).any (·.1) = false := by rfl) :
    PS X (.Raise (some (.Call (.Name x np) (e₀ :: rest) [] cpos)) none pos) (tRaiseI C sp E t) := by
  intro pins s σ H D I h
  obtain ⟨bm, N, nm, qn, bs, hdct, sn, sub, ab, col, dd, k0, k1, k2, k3, k5, lk, ok, ini, tl⟩ := M.ex
  have bb : bm.contains (.type "BaseException") = true := (PySem.W.tail_of_in I.kIn tl).hasType PySem.F.excBase_ValueError.hasBase
  have body : wpAny (model X.prog X.w) X.A (eval (.Call (.Name x np) (e₀ :: rest) [] cpos) X.env) (fun v s1 => ∃ e dx ws sl, v = .ref e ∧ s1.heap.get? C = some (excClassObj nm qn C N bs bm hdct sn sub ab col dd k0 k1 k2 k3 k5 "ValueError.__new__") ∧ s1.heap.get? e = some ⟨.ref C, dx, .fields ws, sl⟩ ∧ ws[1]? = some .none ∧ X.xe (.ref e) s1) X.xe s := by
    refine wpAny_Call_Name_kw (ld_glob I hg hm ?_ hd)
    refine PySem.W.callWith_K (h₀ := X.base) I.ok.mod.kin M.kp (thn (ha cpos pins s σ H _ I h) fun us s1 ⟨vs, H1, I1, r, lr, q⟩ => ⟨I1.kIn, ?_⟩) he hpl
    refine run_init M F hr hb I1 r lr q fun a h' H2 s2 mk os bare un hok q2 => ?_
    obtain ⟨d, ed, hE⟩ := q2
    have I2 := I1.call' os un hok bare (fun b z => absurd z (by simp))
    obtain ⟨⟨ox, ws, g1, g2, g3, g4, g6, g5⟩, _⟩ := (show ObjOk X.prog X.w H2 s2.heap a (excB true a (.ref C) (some d)) from hok a _ ed)
    have na := I1.hok.none_of mk.new
    obtain ⟨oc, odx, oda, osl⟩ := ox
    dsimp only at g2 g3 g4
    subst g2 g3 g4
    refine ⟨a, some d, ws, osl, rfl, I2.kIn _ _ lk, g1, (g5 rfl).2, hp pins σ H1 s1 _ _ I1 ⟨a, del H2 a, .ref C, some d, .new, rfl, ⟨os, bare, un_del un na, hok_del hok ed, ⟨⟨_, ws, g1, rfl, rfl, rfl, ⟨(g5 rfl).1, g6⟩, (g5 rfl).2⟩, mk.new, del_same⟩⟩, hE⟩⟩
  rw [arm_exec_Raise]
  apply wpAny_bind
  apply wpAny_standAt
  refine raise_any (C := C) (nm := nm) (q := qn) (N := N) (bs := bs) (bm := bm) (hdct := hdct) (sn := sn) (sub := sub) (ab := ab) (col := col) (dd := dd) (k0 := k0) (k1 := k1) (k2 := k2) (k3 := k3) (k5 := k5) (nw := "ValueError.__new__") bb (I.ok.hd hc) ?_
  apply wpAny_bind
  refine wpAny_mono body (fun v s1 h1 => ?_) fun _ _ z => z
  apply wpAny_bind
  apply wpAny_standAt
  exact wpAny_pure h1
end
end L2
set_option Elab.async false
set_option linter.all false
set_option maxRecDepth 100000
namespace L2
open PySem PySem.Spec PyProof.Rows XH
/-! ### within an except suite, and in what is called there -/
section
variable {prog : Program} {w : World} {A : Around} {E : Value → Shared → Prop} {s : Shared}
end
/-! ### iterators under a handled exception -/
section
variable {X : Cx} {tg : Expr} {hd : Option Value}
end
section
variable {X : Cx} {scope : Scope} {cl : List (Str × Addr)} {own : Str} {ys : List Str} {js : List Nat} {elt iter : Expr} {px pos : Pos} {wi : TI} {te : TE} {hd : Option Value}
end
/-! ### an except suite whose reading knows the exception -/
def tHasA (K : PySem.W.Frag) (C' : Addr) (i : Nat) (t : Addr → TS) (r : TH) : TH := fun D σ cls dx H a => ∃ C b, cls = .ref C ∧ PySem.W.subIn K (.ref C) (.ref C') = some b ∧
  if b = true then t a (offE i D) (σ.set i (some (.ref a))) (upd H a (excO a cls dx)) else r D σ cls dx H a
section
variable {X : Cx} {x n : Str} {np pos : Pos} {b0 : Stmt} {suite : List Stmt} {rest : List ExceptHandler} {i : Nat} {C' : Addr} {tA : Addr → TS} {th : TH}
theorem ph_asA (T : XT X.K C') (hg : Gl X x) (hm : X.mg x = some (.ref C')) (hN : X.N.Nodup) (hi : X.N[i]? = some n) (hloc : X.env.scope.names.lookup n = some .local)
    (hs : ∀ (pins : List (Addr × Obj)) (a : Addr), PSs (X.suite pins a) (b0 :: suite) (tA a)) (hrest : PH X rest th) (hd : (x == ("__debug__" : Str)) = false := by decide) :
    PH X (.ExceptHandler (some (.Name x np)) (some n) (b0 :: suite) pos :: rest) (tHasA X.K C' i tA th) := by
  intro pins σ H0 s0 D a H' cls v dx s' I c h
  obtain ⟨C, b, rfl, hsub, h⟩ := h
  have J : Inv X pins σ H' s' := I.call' c.os c.un c.hok c.bare (fun b z => absurd z (by simp))
  obtain ⟨oe, vs, he, hc, _, _, _⟩ := c.xo.ex
  refine wpAny_handleBy_cons (codeAny_handlers_test (ld_glob (X := X.suite pins a) (J.insuite a) hg hm ?_ hd)) (by intro q; cases q)
  have KX := J.kIn
  obtain ⟨hh, g, d, tk, os⟩ := s'
  refine matches_ok KX he hc T hsub ?_
  cases b with
  | false => exact hrest pins σ H0 s0 D a H' _ v dx _ I c h
  | true =>
    refine codeAny_handlers_suite_as ?_
    refine c.flight I.stack I.stkFree fun s2 c2 => ?_
    have J2 := (c2.caught I).insuite a
    refine store_ok (X := X.suite pins a) (v := V.ref a) J2 hN hi (.inl hloc) (show RelV (V.ref a) (Value.ref a) from rfl) (fun s3 I3 => ?_) (.inr hloc)
    refine wpAny_mono (hs pins a [] s3 _ _ _ I3 h) (fun f s4 q => ?_) fun _ _ z => z.elim
    exact gone_ok I.ok hN hi hloc q
end
/-! ### calls, whatever is handled -/
structure RoomH (hd : Option Value) (k : Nat) (A : Around) : Prop where
  hd : A.handled = hd
  dp : A.depth + 3 * k + 5 < recursionLimit
  un : A.units + 16 * k + 200 < cLine
theorem RoomH.mono {hd : Option Value} {j k : Nat} {A : Around} (r : RoomH hd k A) (h : j ≤ k) : RoomH hd j A := ⟨r.hd, by have := r.dp; omega, by have := r.un; omega⟩
theorem RoomH.deeper {hd : Option Value} {k : Nat} {A : Around} (r : RoomH hd (k + 1) A) (env : Env) : RoomH hd k (A.deeper env) :=
  ⟨r.hd, by have := r.dp; show A.depth + 1 + 3 * k + 5 < _; omega, by have := r.un; show A.units + 3 + 16 * k + 200 < _; omega⟩
theorem RoomH.depth {hd : Option Value} {k : Nat} {A : Around} (r : RoomH hd k A) : A.depth < recursionLimit := by have := r.dp; omega
theorem Room.h {k : Nat} {A : Around} (r : Room k A) : RoomH none k A := ⟨r.hd, r.dp, r.un⟩
theorem Room.suite {k : Nat} {A : Around} (r : Room k A) (v : Value) : RoomH (some v) k (A.mark (some v)) := ⟨rfl, r.dp, r.un⟩
structure FnH (hd : Option Value) (P : Program) (w : World) (K : PySem.W.Frag) (mg : Str → Option Value) (base : Heap) (k : Nat) (f : Addr) (fd : FuncData) (ps : List Str) (sp : Sp) : Prop where
  len : ∀ vs H Q E, sp vs H Q E → vs.length = ps.length
  run : ∀ (A : Around) (outer : List Env) (s : Shared) (H : Hp) (args : Args) (us : List Value) (vs : List V) (Q : VK) (E : XK), RoomH hd k A → Env0 P w K mg base A outer s H → BindsTo s fd args (ps.zip us) → Vals vs us → sp vs H Q E →
    codeAny (model P w) A (.call (.ref f) args) (CR CX0 outer P w H s Q E) s
section
variable {P : Program} {w : World} {K : PySem.W.Frag} {mg : Str → Option Value} {base : Heap} {hd : Option Value}
theorem FnH.calm {k : Nat} {f : Addr} {fd : FuncData} {ps : List Str} {sp : Sp} (F : FnH none P w K mg base k f fd ps sp) : FnOk P w K mg base CX0 k f fd ps sp :=
  ⟨F.len, fun A outer s H args us vs Q E hr => F.run A outer s H args us vs Q E hr.h⟩
def cxH (hd : Option Value) (P : Program) (w : World) (K : PySem.W.Frag) (mg : Str → Option Value) (base : Heap) (N : List Str) (qual : Str) (scope : Scope) (f : Addr) (cd : Value) (A : Around) (outer : List Env) (s : Shared) (H : Hp) (E : XK) : Cx :=
  { cxOf CX0 P w K mg base N qual scope f cd A outer s H E with calm := hd.isNone }
theorem inv_startH {N ps : List Str} {qual : Str} {scope : Scope} {f : Addr} {cd : Value} {A : Around} {outer : List Env} {s s1 : Shared} {H : Hp} {E : XK} {us : List Value} {vs : List V}
    (S : FnScope N ps scope) (hA : A.handled = hd) (e0 : Env0 P w K mg base A outer s H) (hl : vs.length = ps.length) (r : Vals vs us)
    (x : InCallC s s.heap.objs.size (bindL (envOfC qual scope s.heap.objs.size f cd).kindOf (ps.zip us) fun _ => none) (cellsFrom (s.heap.objs.size + 1) scope.names []) (bindC (envOfC qual scope s.heap.objs.size f cd).kindOf (ps.zip us) fun _ => none) s1) :
    Inv (cxH hd P w K mg base N qual scope f cd A outer s H E) [] (start N vs) H s1 := by
  have e0' : Env0 P w K mg base { A with handled := none } outer s H := ⟨e0.frames, e0.mod, e0.bs, e0.bsz, e0.funs, e0.frf, e0.hok, e0.bare⟩
  have I := inv_start (CX := CX0) (E := E) S (A := { A with handled := none }) rfl e0' hl r x
  have hh : (cxH hd P w K mg base N qual scope f cd A outer s H E).calm = true → (cxH hd P w K mg base N qual scope f cd A outer s H E).A.handled = none := fun z => by
    cases hd with
    | none => exact hA
    | some v => cases (show false = true from z)
  exact ⟨⟨I.ok.mod, I.ok.kind, I.ok.glob, I.ok.blt, I.ok.above, I.ok.inj, I.ok.has, I.ok.cab, hh, I.ok.frames, I.ok.stk, I.ok.exf, I.ok.bs, I.ok.bsz, I.ok.noex, I.ok.exfs, I.ok.funs, I.ok.frf⟩,
    I.os, I.bare, I.base, I.loc, I.cell, I.free, I.freeC, I.pin, I.hok, I.len⟩
theorem fn_ofH {k : Nat} {f : Addr} {name qual : Str} {params : Arguments} {body : List Stmt} {scope : Scope} {dV kV doc pm cdv ct oc : Value} {an od : Option Addr}
    {osl : Array (Option Value)} {N ps : List Str} {sp : Sp} (lk : K.lookup f = some ⟨oc, od, .func (PySem.W.fnOf name qual params body scope dV kV doc pm an cdv ct), osl⟩) (hcd : PySem.W.codeIn K cdv qual = true) (S : FnScope N ps scope)
    (len : ∀ vs H Q E, sp vs H Q E → vs.length = ps.length)
    (hbody : ∀ (A : Around) (outer : List Env) (s : Shared) (H : Hp) (vs : List V) (Q : VK) (E : XK), RoomH hd k (A.deeper (envOfC qual scope s.heap.objs.size f cdv)) → sp vs H Q E →
      ∃ t, PSs (cxH hd P w K mg base N qual scope f cdv A outer s H E) body t ∧ t { nx := fun _ H' => Q .non H', rt := Q } (start N vs) H) :
    FnH hd P w K mg base (k + 1) f (PySem.W.fnOf name qual params body scope dV kV doc pm an cdv ct) ps sp := by
  refine ⟨len, fun A outer s H args us vs Q E hr e0 hb r hsp => ?_⟩
  have hl := len _ _ _ _ hsp
  have KX : K.In s.heap := e0.mod.kin.keeps fun b o e => (e0.bs b o e).1
  have lim : s.heap.NoLimit := e0.mod.nolimit.keeps fun b o e => (e0.bs b o e).1
  have hkind : ∀ y ∈ ps.zip us, scope.names.lookup y.1 = some .local ∨ (scope.names.lookup y.1 = some .cell ∧ ((cellsFrom (s.heap.objs.size + 1) scope.names []).lookup y.1).isSome = true) := fun ⟨n, v⟩ hy => by
    rcases S.par n (List.of_mem_zip hy).1 with q | q
    · exact .inl q
    · exact .inr ⟨q, PySem.W.cellsFrom_some _ _ _ (.inl q)⟩
  refine codeAny_call_function hr.depth (KX _ _ lk) rfl S.co S.gen rfl (PySem.W.codeRec_of KX hcd) (hb _ _ _ _ ?_)
  refine wpAny_newFunctionEnv_cells S.kind hkind fun env he s1 x => ?_
  subst he
  refine ⟨lim.keeps x.toInCall.keep, codeAny_func ?_⟩
  obtain ⟨t, ht, hq⟩ := hbody A outer s H vs Q E (hr.deeper _) hsp
  have I : Inv (cxH hd P w K mg base N qual scope f cdv A outer s H E) [] (start N vs) H s1 := inv_startH S hr.hd e0 hl r x
  refine wpAny_mono (ht [] s1 (start N vs) H _ I hq) (fun fl s' hs => ?_) fun e s' hs => hs
  have fin : ∀ {σ' : St} {H' : Hp} {v : V} {u : Value}, Inv (cxH hd P w K mg base N qual scope f cdv A outer s H E) [] σ' H' s' → RelV v u → Q v H' → CE outer P w H s Q u s' :=
    fun {σ' H' v u} J rv q => ⟨v, H', J.os, J.bare, J.base, J.hok, rv, q⟩
  cases fl with
  | ret u =>
    obtain ⟨v, σ', H', J, rv, q⟩ := hs
    exact fin J rv q
  | next =>
    obtain ⟨σ', H', J, q⟩ := hs
    exact fin (v := V.non) (u := Value.none) J rfl q
  | brk =>
    obtain ⟨_, _, _, q⟩ := hs
    exact False.elim q
  | cont =>
    obtain ⟨_, _, _, q⟩ := hs
    exact False.elim q
end
section
variable {X : Cx} {k : Nat} {f : Addr} {fd : FuncData} {ps : List Str} {sp : Sp} {dvs : List V} {ds : List Value} {x : Str} {p pos : Pos} {e : Expr} {es : List Expr} {t : TA} {hd : Option Value}
theorem run_fnH {pins : List (Addr × Obj)} {σ : St} {H : Hp} {s : Shared} {Q : VK} {us : List Value} {vs : List V} (F : FnH hd X.prog X.w X.K X.mg X.base k f fd ps sp) (hr : RoomH hd k X.A) (hb : Binds X.K fd ps ds) (hv : Vals dvs ds)
    (I : Inv X pins σ H s) (r : Vals vs us) (h : sp (vs ++ dvs) H Q E0) : wpAny (model X.prog X.w) X.A (call (.ref f) us) (EP X pins σ Q) X.xe s := by
  have r2 : Vals (vs ++ dvs) (us ++ ds) := r.append hv
  have hl : (us ++ ds).length = ps.length := by rw [← r2.length]; exact F.len _ _ _ _ h
  refine wpAny_call (codeAny_mono (F.run X.A X.stack s H ⟨us, []⟩ (us ++ ds) (vs ++ dvs) Q E0 hr I.env0 (hb s us I.kIn hl) r2 h) fun r s' hq => ?_)
  cases r with
  | error e => exact False.elim hq
  | ok fl =>
    cases fl with
    | ret u => exact I.after hq
    | next => exact False.elim hq
    | brk => exact False.elim hq
    | cont => exact False.elim hq
theorem pe_callH (F : FnH hd X.prog X.w X.K X.mg X.base k f fd ps sp) (hr : RoomH hd k X.A) (hg : Gl X x) (hm : X.mg x = some (.ref f)) (hk : PySem.W.keepIn X.K (.ref f) = true) (hb : Binds X.K fd ps ds) (hv : Vals dvs ds)
    (ha : PA X (e :: es) t) (hdb : (x == ("__debug__" : Str)) = false := by decide) (he : starEach (e :: es) X.env = (false, eval e X.env) :: starEach es X.env := by rfl) (hpl : (backTo pos (starEach es X.env)).any (·.1) = false := by rfl) :
    PE X (.Call (.Name x p) (e :: es) [] pos) (tCall sp dvs E0 t) := by
  intro pins s σ H Q I h
  refine wpAny_Call_Name_kw (ld_glob I hg hm ?_ hdb)
  refine PySem.W.callWith_K (h₀ := X.base) I.ok.mod.kin hk (thn (ha pos pins s σ H _ I h) fun us s1 ⟨vs, H1, I1, r, q⟩ => ⟨I1.kIn, ?_⟩) he hpl
  exact run_fnH F hr hb hv I1 r q
end
end L2
set_option Elab.async false
set_option linter.all false
set_option maxRecDepth 100000
namespace Sw
open PySem L2 XH
/-- a def as its callers see it -/
structure Dx (P : Program) (w : World) (K : PySem.W.Frag) (mg : Str → Option Value) (base : Heap) (CX : CXT) (k : Nat) (x : Str) (ps : List Str) (dvs : List V) (sp : Sp) where
  f : Addr
  fd : FuncData
  ok : FnOk P w K mg base CX k f fd ps sp
  m : mg x = some (.ref f)
  q : PySem.W.keepIn K (.ref f) = true
  b : Binds K fd ps []
  bd : ∃ ds, Binds K fd ps ds ∧ Vals dvs ds
def Dx.calm {P : Program} {w : World} {K : PySem.W.Frag} {mg : Str → Option Value} {base : Heap} {k : Nat} {x : Str} {ps : List Str} {dvs : List V} {sp sp0 : Sp} (D : Dx P w K mg base (CX1 P w) k x ps dvs sp) (h : ∀ vs H Q E, sp0 vs H Q E → sp vs H Q E0) : Dx P w K mg base CX0 k x ps dvs sp0 :=
  ⟨D.f, D.fd, D.ok.noraise h, D.m, D.q, D.b, D.bd⟩
section
variable {X : Cx} {k j : Nat} {x : Str} {ps : List Str} {sp : Sp} {p pos : Pos} {e : Expr} {es : List Expr} {t : TA} {dvs : List V} {E : St → XK}
theorem pcall0 (D : Dx X.prog X.w X.K X.mg X.base CX0 k x ps dvs sp) (hr : Room j X.A) (hk : k ≤ j) (hg : Gl X x) (ha : PA X (e :: es) t) (hdb : (x == ("__debug__" : Str)) = false := by decide)
    (he : starEach (e :: es) X.env = (false, eval e X.env) :: starEach es X.env := by rfl) (hpl : (backTo pos (starEach es X.env)).any (·.1) = false := by rfl) :
    PE X (.Call (.Name x p) (e :: es) [] pos) (tCall sp [] E0 t) :=
  pe_call D.ok (hr.mono hk) hg D.m D.q D.b .nil pass0 ha hdb he hpl
theorem pcall1 (D : Dx X.prog X.w X.K X.mg X.base (CX1 X.prog X.w) k x ps dvs sp) (hr : Room j X.A) (hk : k ≤ j) (hg : Gl X x) (hx : PassX X E) (ha : PA X (e :: es) t) (hdb : (x == ("__debug__" : Str)) = false := by decide)
    (he : starEach (e :: es) X.env = (false, eval e X.env) :: starEach es X.env := by rfl) (hpl : (backTo pos (starEach es X.env)).any (·.1) = false := by rfl) :
    PE X (.Call (.Name x p) (e :: es) [] pos) (tCallX sp [] E t) :=
  pe_callX D.ok (hr.mono hk) hg D.m D.q D.b .nil hx ha hdb he hpl
end
theorem FunD.okX {P : Program} {w : World} {K : PySem.W.Frag} {mg : Str → Option Value} {base : Heap} {x qual : Str} {st : Stmt} {dV : Value} {f : Addr} {fd : FuncData} {N ps : List Str} {k : Nat} {sp : Sp} (F : FunD K x qual st dV f fd) (S : FnScope N ps (defScope st)) (len : ∀ vs H Q E, sp vs H Q E → vs.length = ps.length)
    (hbody : ∀ (cdv : Value) (A : Around) (outer : List Env) (s : Shared) (H : Hp) (vs : List V) (Q : VK) (E : XK), Room k (A.deeper (PyProof.Rows.envOfC qual (defScope st) s.heap.objs.size f cdv)) → sp vs H Q E →
      ∃ t, PSs ((cxOf (CX1 P w) P w K mg base N qual (defScope st) f cdv A outer s H E).wish (XS (cxOf (CX1 P w) P w K mg base N qual (defScope st) f cdv A outer s H E) fun _ => E)) (defBody st) t ∧ t { nx := fun _ H' => Q .non H', rt := Q } (start N vs) H) : FnOk P w K mg base (CX1 P w) (k + 1) f fd ps sp := by
  obtain ⟨oc, od, kV, doc, pm, an, cdv, ct, osl, rfl, lk, hcd⟩ := F.ex
  exact fn_ofX lk hcd S len fun A outer s H vs Q E hr hsp => hbody cdv A outer s H vs Q E hr hsp
end Sw
set_option Elab.async false
set_option linter.all false
set_option maxRecDepth 100000
namespace Sw
open PySem L2 XH
end Sw
set_option Elab.async false
set_option linter.all false
set_option maxRecDepth 100000
namespace L2
open PySem PySem.Spec PyProof.Rows XH
theorem call_isiT {X : Cx} {K : PySem.W.Frag} (hK : X.K = K) : CallR X (.builtin "isinstance") (fun xs H Q => ∃ x t T b, xs = [x, .ty T] ∧ TyOf K H x t ∧ PySem.W.kitOne K t (.type T) = some b ∧ Q (.bl b) H) := by
  subst hK
  intro pins s σ H xs us Q I r h
  obtain ⟨x, t, T, b, rfl, ty, e, q⟩ := h
  obtain ⟨u, w', rfl, e1, e2⟩ := vals2 r
  cases e2
  exact isinst_ok I e1 ty e fun tk => ⟨.bl b, H, I.tok tk, rfl, q⟩
end L2
namespace Sw
open PySem L2 XH
/-! ### whatever is handed in: is it a whole number, is it a fraction -/
section
variable {K : PySem.W.Frag} {H : Hp}
theorem ty_same {H' : Hp} (g : Same H H') {x : V} {t : Value} (h : TyOf K H x t) : TyOf K H' x t := by
  cases h with
  | non => exact .non
  | bl b => exact .bl b
  | int i => exact .int i
  | str x => exact .str x
  | flt x => exact .flt x
  | lst e => exact .lst (g _ _ e)
  | frz e => exact .frz (g _ _ e)
  | tup e => exact .tup (g _ _ e)
  | dK e => exact .dK (g _ _ e)
  | dT e => exact .dT (g _ _ e)
  | ins e c a n k m => exact .ins (g _ _ e) c a n k m
end
end Sw
set_option Elab.async false
set_option linter.all false
set_option maxRecDepth 100000
namespace L2
open PySem PySem.Spec PyProof.Rows XH
/-- a truth, a number, a text -/
def Smp : V → Prop
  | .bl _ => True
  | .int _ => True
  | .str _ => True
  | _ => False
theorem eqat_smp {A : Around} {s : Shared} {v : V} {u w : Value} (h : Smp v) (r1 : RelV v u) (r2 : RelV v w) : SeqAt.EqAt A s u w true := by
  cases v with
  | bl b =>
    cases r1
    cases r2
    have z := SeqAt.EqAt.bool_bool (A := A) (s := s) b b
    rw [beq_self_eq_true] at z
    exact z
  | int i =>
    obtain ⟨t, rfl⟩ := r1
    obtain ⟨t', rfl⟩ := r2
    have z := SeqAt.EqAt.int_int (A := A) (s := s) i t i t'
    rw [beq_self_eq_true] at z
    exact z
  | str i =>
    obtain ⟨t, rfl⟩ := r1
    obtain ⟨t', rfl⟩ := r2
    have z := SeqAt.EqAt.str_str (A := A) (s := s) i t i t'
    rw [beq_self_eq_true] at z
    exact z
  | _ => exact absurd h (fun z => z)
theorem vals_eqat {A : Around} {s : Shared} : ∀ {zs : List V} {us ws : List Value}, (∀ z ∈ zs, Smp z) → Vals zs us → Vals zs ws → ∀ j (h1 : j < us.length) (h2 : j < ws.length), SeqAt.EqAt A s us[j] ws[j] true
  | _, _, _, _, .nil, .nil, j, h1, _ => absurd h1 (by simp)
  | _, _, _, hs, .cons r1 _, .cons r2 _, 0, _, _ => eqat_smp (hs _ (List.mem_cons_self)) r1 r2
  | _, _, _, hs, .cons _ t1, .cons _ t2, j + 1, h1, h2 => vals_eqat (fun z hz => hs z (List.mem_cons_of_mem _ hz)) t1 t2 j (by simpa using h1) (by simpa using h2)
theorem op_eqS {X : Cx} (hu : X.A.units < cLine) : OpR X (compareOp .Eq) (fun x y H Q => ∃ a b zs, x = .ref a ∧ y = .ref b ∧ SqL X.K H a zs ∧ SqL X.K H b zs ∧ (∀ z ∈ zs, Smp z) ∧ Q (.bl true) H) := by
  intro pins s σ H x y v u Q I rx ry h
  obtain ⟨a, b, zs, rfl, rfl, h1, h2, hs, hq⟩ := h
  cases rx
  cases ry
  obtain ⟨i1, r1, p1, _⟩ := I.list h1
  obtain ⟨i2, r2, p2, _⟩ := I.list h2
  refine SeqAt.eq_listAt (e := fun _ => true) p1.isList p2.isList (by simp [← r1.length, ← r2.length]) hu (fun j g1 g2 => ?_) ?_
  · exact vals_eqat (A := X.A.in1) (s := s) hs r1 r2 j (by simpa using g1) (by simpa using g2)
  · exact ⟨.bl true, H, I, by show Value.bool _ = Value.bool _; simp, hq⟩
end L2
set_option Elab.async false
set_option linter.all false
set_option maxRecDepth 100000
namespace L2
open PySem PySem.Spec PyProof.Rows XH
/-! ### a text, walked sign by sign -/
def Its (x : Str) : It := ⟨fun i _ => i < x.cps.size, fun i H v H' => H' = H ∧ ∃ c, x.cps[i]? = some c ∧ v = .str ⟨#[c]⟩, fun i _ => i = x.cps.size⟩
theorem turn_str {P : Program} {w : World} {K : PySem.W.Frag} {tg : Expr} {ty : String} (hty : ty = "str_ascii_iterator" ∨ ty = "str_iterator") (it : Addr) (x : Str) (t : Tok) : Turn P w K tg (Its x) [it] it (fun i h => h.IsStrIter it ty x t i) where
  mem := by simp
  obj := fun i h st b hb => by
    have e : b = it := by simpa using hb
    subst e
    obtain ⟨o, e, c, d⟩ := st
    exact ⟨o, e, fun v z => by rw [d] at z; cases z⟩
  keep := fun i h h' st k => by
    obtain ⟨o, e, c, d⟩ := st
    exact ⟨o, k it (by simp) o e, c, d⟩
  item := by
    intro X hP hw hK hc i pins s σ H E I hf st hg
    subst hP hw hK
    obtain ⟨f0, f1, f2, f3, f4, f5⟩ := hf it (by simp)
    have W : Walks X.prog X.w X.A it [it] [it] x.cps.size (SignAt x) (fun i h => h.IsStrIter it ty x t i) := by
      rcases hty with rfl | rfl
      · exact Walks.strAscii (I.ok.hd hc) it x t
      · exact Walks.strWide (I.ok.hd hc) it x t
    refine W.item i s _ _ hg st fun v h' tk hv st' kk => ?_
    obtain ⟨c, u, hc', rfl⟩ := hv
    have I1 : Inv X pins σ H { s with heap := h', toks := tk } := I.turned (fun b o hb e => kk b o (by simpa using hb) e) f0 f1 f3 f4 f5
    obtain ⟨o, e, c1, d1⟩ := id st'
    refine ⟨_, rfl, go_of (s := { s with heap := h', toks := tk }) (n := ty) e c1 d1 (by rcases hty with rfl | rfl <;> decide) ⟨.str ⟨#[c]⟩, H, I1, ⟨u, rfl⟩, ⟨rfl, c, hc', rfl⟩, st', fun b hb => (hf b hb).1⟩⟩
  done := by
    intro X hP hw hK hc i pins s σ H E I hf st hg
    subst hP hw hK
    obtain ⟨f0, f1, f2, f3, f4, f5⟩ := hf it (by simp)
    have W : Walks X.prog X.w X.A it [it] [it] x.cps.size (SignAt x) (fun i h => h.IsStrIter it ty x t i) := by
      rcases hty with rfl | rfl
      · exact Walks.strAscii (I.ok.hd hc) it x t
      · exact Walks.strWide (I.ok.hd hc) it x t
    have hg' : i = x.cps.size := hg
    subst hg'
    exact W.done s _ _ st fun h' tk kk => ⟨rfl, I.turned (fun b o hb e => kk b o (by simpa using hb) e) f0 f1 f3 f4 f5⟩
  self := fun _ _ _ _ _ st h => by
    rcases hty with rfl | rfl
    · exact wpAny_pyIter_striter_ascii st h
    · exact wpAny_pyIter_striter_wide st h
def iStr (tl : TE) : TI := fun σ H R => tl σ H fun x H1 => ∃ z, x = .str z ∧ R (Its z) H1
section
variable {X : Cx} {tg : Expr}
theorem pi_str {l : Expr} {tl : TE} (hl : PE X l tl) : PI X tg l (iStr tl) := by
  intro pins s σ H R I h
  refine thn (hl pins s σ H _ I h) fun v s1 ⟨x, H1, I1, r1, q1⟩ => ?_
  obtain ⟨z, rfl, q⟩ := q1
  obtain ⟨t, rfl⟩ := r1
  have fin : ∀ {ty : String} {o : Obj}, (ty = "str_ascii_iterator" ∨ ty = "str_iterator") → (s1.heap.push o).IsStrIter s1.heap.objs.size ty z t 0 → PIE X pins σ tg R (.ref s1.heap.objs.size) { s1 with heap := s1.heap.push o } := fun {ty o} hty st => by
    refine ⟨s1.heap.objs.size, [s1.heap.objs.size], _, _, H1, rfl, I1.kept (t' := s1.toks) fun b o e => Heap.get?_push_of_some _ e, turn_str hty _ z t, st, fun b hb => ?_, q⟩
    have e : b = s1.heap.objs.size := by simpa using hb
    subst e
    exact I1.fpOk (Nat.le_refl _) (I1.hok.fresh (Nat.le_refl _))
  cases ha : z.cps.all (· < 128)
  · exact wpAny_pyIter_wide ha (fin (.inr rfl) ⟨_, Heap.get?_push_size _ rfl, rfl, rfl⟩)
  · exact wpAny_pyIter_ascii ha (fin (.inl rfl) ⟨_, Heap.get?_push_size _ rfl, rfl, rfl⟩)
end
/-- for, over a text -/
theorem for_str {z : Str} {g : TG} {tb : TS} {D : Ends} {σ : St} {H : Hp} (Pv : Nat → St → Hp → Prop) (h0 : Pv 0 σ H)
    (hs : ∀ i c σ H, z.cps[i]? = some c → Pv i σ H → g (.str ⟨#[c]⟩) σ H fun σ2 H2 => tb { D with nx := Pv (i + 1), ct := Pv (i + 1), bk := D.nx } σ2 H2) (hd : ∀ σ H, Pv z.cps.size σ H → D.nx σ H) :
    ∃ W : Nat → Nat → St → Hp → Prop, (∃ m, W 0 m σ H) ∧ ∀ i m σ H, W i m σ H →
      ((Its z).stop i H ∧ D.nx σ H) ∨ ((Its z).go i H ∧ ∃ N : St → Hp → Prop, (∀ σ' H', N σ' H' → ∃ m', m' < m ∧ W (i + 1) m' σ' H') ∧ ∀ x H', (Its z).yld i H x H' → g x σ H' fun σ2 H2 => tb { D with nx := N, ct := N, bk := D.nx } σ2 H2) := by
  refine ⟨fun i m σ H => m = z.cps.size - i ∧ i ≤ z.cps.size ∧ Pv i σ H, ⟨z.cps.size, by simp, Nat.zero_le _, h0⟩, ?_⟩
  rintro i m σ H ⟨rfl, hi, p⟩
  by_cases hlt : i < z.cps.size
  · refine .inr ⟨hlt, Pv (i + 1), fun σ' H' p' => ⟨z.cps.size - (i + 1), by omega, rfl, hlt, p'⟩, fun x H' y => ?_⟩
    obtain ⟨e, c, hc, rfl⟩ := y
    subst e
    exact hs i c σ _ hc p
  · have e : i = z.cps.size := by omega
    subst e
    exact .inl ⟨rfl, hd σ H p⟩
/-! ### x[lo:hi] of a text -/
def cutS (x : Str) (lo hi : Option Int) : Str := ⟨((x.cps.toList.drop (HT.sIx x.length 0 lo)).take (HT.sIx x.length x.length hi - HT.sIx x.length 0 lo)).toArray⟩
theorem sIdx (lo hi : Option Int) (n : Nat) : Builtin.Str.strSliceIndices lo hi 1 n = (List.range (HT.sIx n n hi - HT.sIx n 0 lo)).map (HT.sIx n 0 lo + ·) := by
  have h1 : (match lo with | none => (0 : Int) | some i => max 0 (min (if i < 0 then i + (n : Int) else i) n)) = ((HT.sIx n 0 lo : Nat) : Int) := by
    cases lo with
    | none => simp [HT.sIx]
    | some i =>
      simp only [HT.sIx]
      by_cases h : i < 0
      · simp only [h, if_true] <;> omega
      · simp only [h, if_false] <;> omega
  have h2 : (match hi with | none => (n : Int) | some i => max 0 (min (if i < 0 then i + (n : Int) else i) n)) = ((HT.sIx n n hi : Nat) : Int) := by
    cases hi with
    | none => simp [HT.sIx]
    | some i =>
      simp only [HT.sIx]
      by_cases h : i < 0
      · simp only [h, if_true] <;> omega
      · simp only [h, if_false] <;> omega
  rw [← sliceRange_one, ← h1, ← h2]
  cases lo <;> cases hi <;> rfl
theorem cutS_picked (x : Str) (l u : Option (Int × Tok)) : (⟨((slicePicked x l u none).filterMap (x.cps[·]?)).toArray⟩ : Str) = cutS x (l.map (·.1)) (u.map (·.1)) := by
  show (⟨((Builtin.Str.strSliceIndices (l.map (·.1)) (u.map (·.1)) 1 x.length).filterMap (x.cps[·]?)).toArray⟩ : Str) = _
  rw [sIdx, pick_run]
  rfl
theorem cutS_length (x : Str) (lo hi : Option Int) : (cutS x lo hi).length ≤ x.length := by
  show ((x.cps.toList.drop _).take _).toArray.size ≤ x.cps.size
  rw [List.size_toArray, List.length_take, List.length_drop]
  simp only [Array.length_toList]
  omega
theorem cutS_whole (x : Str) (l u : Option (Int × Tok)) (h : (slicePicked x l u none).length = x.length) : cutS x (l.map (·.1)) (u.map (·.1)) = x := by
  have h' : (Builtin.Str.strSliceIndices (l.map (·.1)) (u.map (·.1)) 1 x.length).length = x.length := h
  rw [sIdx, List.length_map, List.length_range] at h'
  have hs : HT.sIx x.length x.length (u.map (·.1)) ≤ x.length ∨ x.length < HT.sIx x.length x.length (u.map (·.1)) := by omega
  have hu : HT.sIx x.length x.length (u.map (·.1)) ≤ x.length := by
    cases u with
    | none => exact Nat.le_refl _
    | some p =>
      show (if p.1 < 0 then (p.1 + (x.length : Int)).toNat else min p.1.toNat x.length) ≤ x.length
      by_cases hp : p.1 < 0
      · rw [if_pos hp]; omega
      · rw [if_neg hp]; omega
  unfold cutS
  by_cases hx : x.length = 0
  · have e : x.cps.toList = [] := by
      have : x.cps.toList.length = 0 := by rw [Array.length_toList]; exact hx
      exact List.eq_nil_of_length_eq_zero this
    rw [e, List.drop_nil, List.take_nil]
    obtain ⟨c⟩ := x
    have e' : c = #[] := Array.toList_inj.mp (by simpa using e)
    rw [e']
  · have h0 : HT.sIx x.length 0 (l.map (·.1)) = 0 := by omega
    rw [h0, List.drop_zero, List.take_of_length_le (by rw [Array.length_toList]; show x.length ≤ _; omega)]
theorem part_of {v : Value} {o : Option Int} (p : IsPart v o) : ∃ l : Option (Int × Tok), partValue l = v ∧ l.map (·.1) = o := by
  cases p with
  | none => exact ⟨none, rfl, rfl⟩
  | int i t => exact ⟨some (i, t), rfl, rfl⟩
theorem sl_str {X : Cx} : SlR X (fun x lo hi H Q => ∃ z, x = .str z ∧ z.length ≤ sizeLine ∧ Q (.str (cutS z lo hi)) H) := by
  intro pins s σ H x v vl vu lo hi sl Q I rx hs pl pu h
  obtain ⟨z, rfl, hz, q⟩ := h
  obtain ⟨t, rfl⟩ := rx
  obtain ⟨l, rfl, rfl⟩ := part_of pl
  obtain ⟨u, rfl, rfl⟩ := part_of pu
  refine ⟨"str", _, slot_str_getitem.lookup, typeIs_str s z t, ?_⟩
  refine wpAny_getItem_str_slice (l := l) (u := u) (st := none) hs rfl ?_
  unfold sliceMade
  by_cases hw : (slicePicked z l u none).length = z.length
  · rw [if_pos (by simp [hw])]
    refine ⟨.str (cutS z (l.map (·.1)) (u.map (·.1))), H, I, ⟨t, by rw [cutS_whole z l u hw]⟩, q⟩
  · rw [if_neg (by simp [hw])]
    rw [cutS_picked]
    exact ⟨Nat.le_trans (cutS_length _ _ _) hz, .str (cutS z (l.map (·.1)) (u.map (·.1))), H, I.tok _, ⟨_, rfl⟩, q⟩
/-! ### methods of texts -/
end L2
set_option Elab.async false
set_option linter.all false
set_option maxRecDepth 100000
namespace Sw
open PySem L2 XH PyProof.Rows
/-! ### defs that are called from a handler too, and refusals' __init__ -/
structure DxH (hd : Option Value) (P : Program) (w : World) (K : PySem.W.Frag) (mg : Str → Option Value) (base : Heap) (k : Nat) (x : Str) (ps : List Str) (sp : Sp) where
  f : Addr
  fd : FuncData
  ok : FnH hd P w K mg base k f fd ps sp
  m : mg x = some (.ref f)
  q : PySem.W.keepIn K (.ref f) = true
  b : Binds K fd ps []
def DxH.calm {P : Program} {w : World} {K : PySem.W.Frag} {mg : Str → Option Value} {base : Heap} {k : Nat} {x : Str} {ps : List Str} {sp : Sp} (D : DxH none P w K mg base k x ps sp) : Dx P w K mg base CX0 k x ps [] sp :=
  ⟨D.f, D.fd, D.ok.calm, D.m, D.q, D.b, ⟨[], D.b, .nil⟩⟩
structure DxI (P : Program) (w : World) (K : PySem.W.Frag) (mg : Str → Option Value) (base : Heap) (k : Nat) (C : Addr) (ps : List Str) (sp : Sp) where
  f : Addr
  fd : FuncData
  ok : FnOk P w K mg base CX0 k f fd ps sp
  ci : XCi K C f
  b : Binds K fd ps []
section
variable {X : Cx} {k j : Nat} {x : Str} {ps : List Str} {sp : Sp} {p np pos cpos : Pos} {e : Expr} {es : List Expr} {t : TA} {hd : Option Value} {C : Addr} {E : L2.St → XK}
theorem pcallH (D : DxH hd X.prog X.w X.K X.mg X.base k x ps sp) (hr : RoomH hd j X.A) (hk : k ≤ j) (hg : Gl X x) (ha : PA X (e :: es) t) (hdb : (x == ("__debug__" : Str)) = false := by decide)
    (he : starEach (e :: es) X.env = (false, eval e X.env) :: starEach es X.env := by rfl) (hpl : (backTo pos (starEach es X.env)).any (·.1) = false := by rfl) :
    PE X (.Call (.Name x p) (e :: es) [] pos) (tCall sp [] E0 t) :=
  pe_callH D.ok (hr.mono hk) hg D.m D.q D.b .nil ha hdb he hpl
theorem praiseI (D : DxI X.prog X.w X.K X.mg X.base k C ps sp) (hr : Room j X.A) (hk : k + 1 ≤ j) (hg : Gl X x) (hm : X.mg x = some (.ref C)) (hc : X.calm = true) (hp : PassX X E) (ha : PA X (e :: es) t) (hdb : (x == ("__debug__" : Str)) = false := by decide)
    (he : starEach (e :: es) X.env = (false, eval e X.env) :: starEach es X.env := by rfl) (hpl : (backTo cpos (starEach es X.env)).any (·.1) = false := by rfl) :
    PS X (.Raise (some (.Call (.Name x np) (e :: es) [] cpos)) none pos) (tRaiseI C sp E t) :=
  ps_raiseI D.ci D.ok (hr.mono hk) hg hm D.b hc hp ha hdb he hpl
end
theorem FunD.okH {hd : Option Value} {P : Program} {w : World} {K : PySem.W.Frag} {mg : Str → Option Value} {base : Heap} {x qual : Str} {st : Stmt} {dV : Value} {f : Addr} {fd : FuncData} {N ps : List Str} {k : Nat} {sp : Sp} (F : FunD K x qual st dV f fd) (S : FnScope N ps (defScope st)) (len : ∀ vs H Q E, sp vs H Q E → vs.length = ps.length)
    (hbody : ∀ (cdv : Value) (A : Around) (outer : List Env) (s : Shared) (H : Hp) (vs : List V) (Q : VK) (E : XK), RoomH hd k (A.deeper (envOfC qual (defScope st) s.heap.objs.size f cdv)) → sp vs H Q E →
      ∃ t, PSs (cxH hd P w K mg base N qual (defScope st) f cdv A outer s H E) (defBody st) t ∧ t { nx := fun _ H' => Q .non H', rt := Q } (start N vs) H) : FnH hd P w K mg base (k + 1) f fd ps sp := by
  obtain ⟨oc, od, kV, doc, pm, an, cdv, ct, osl, rfl, lk, hcd⟩ := F.ex
  exact fn_ofH lk hcd S len fun A outer s H vs Q E hr hsp => hbody cdv A outer s H vs Q E hr hsp
theorem sUpd {H H' : Hp} {p : Addr} (g : Same H H') (h : H p = none) (o : HO) : Same H (upd H' p o) := fun b u q => by
  rw [upd_ne (ne_of_none q h)]
  exact g b u q
def CompAt (X : Cx) (scope : Scope) (ys : List Str) (js : List Nat) : Prop := ∀ (i : Nat) (y : Str), ys[i]? = some y → ∃ j : Nat, js[i]? = some j ∧ X.N[j]? = some y ∧ (X.env.scope.names.lookup y = some .cell ∨ X.env.scope.names.lookup y = some .free) ∧ ((relabel scope X.env).names.lookup y = some .cell ∨ (relabel scope X.env).names.lookup y = some .free)
theorem atn {X : Cx} {scope : Scope} : CompAt X scope [] [] := fun i y h => by simp at h
theorem atc {X : Cx} {scope : Scope} {ys : List Str} {js : List Nat} {y : Str} {j : Nat} (t : CompAt X scope ys js) (h1 : X.N[j]? = some y := by rfl) (h2 : X.env.scope.names.lookup y = some .cell ∨ X.env.scope.names.lookup y = some .free := by first | exact Or.inl rfl | exact Or.inr rfl)
    (h3 : (relabel scope X.env).names.lookup y = some .cell ∨ (relabel scope X.env).names.lookup y = some .free := by first | exact Or.inl rfl | exact Or.inr rfl) : CompAt X scope (y :: ys) (j :: js) := fun i z h => by
  cases i with
  | zero =>
    cases h
    exact ⟨j, rfl, h1, h2, h3⟩
  | succ i => exact t i z h
/-- the names that a comprehension takes from around -/
inductive Subs (X : Cx) : List (Str × Addr) → Prop where
  | nil : Subs X []
  | cons {y : Str} {c : Addr} {cl : List (Str × Addr)} (h : X.env.cells.lookup y = some c) (t : Subs X cl) : Subs X ((y, c) :: cl)
theorem Subs.all {X : Cx} {cl : List (Str × Addr)} (h : Subs X cl) : ∀ p ∈ cl, X.env.cells.lookup p.1 = some p.2 := by
  induction h with
  | nil => intro p hp; simp at hp
  | cons h _ ih =>
    intro p hp
    rcases List.mem_cons.mp hp with e | e
    · rw [e]; exact h
    · exact ih p e
theorem cok {X : Cx} {scope : Scope} {cl : List (Str × Addr)} {own : Str} {ys : List Str} {js : List Nat} (a : CompAt X scope ys js) (s : Subs X cl) (nd : (own :: ys).Nodup) (len : js.length = ys.length) (clos : closureFor scope X.env = pure cl) (nocell : (scope.names.all fun p => !(p.2 == .cell)) = true) (kind : scope.kind = .function)
    (loc : (scope.names.all fun p => !(p.2 == .local) || scope.names.lookup p.1 == some .local) = true) (ownL : scope.names.lookup own = some .local) (has : ((relabel scope X.env).names.all fun p => !(p.2 == .cell || p.2 == .free) || (cl.lookup p.1).isSome) = true) (noown : cl.lookup own = none) : CompOk X scope cl own ys js :=
  ⟨clos, nocell, kind, loc, ownL, s.all, has, noown, nd, a, len⟩
/-! ### the sixteen refusals -/
def IsX (H : Hp) (a C : Addr) (dx : Option Addr) : Prop := (∃ n, H a = some (excB n a (.ref C) dx)) ∧ XDict H dx
section
variable {K : PySem.W.Frag} {cs : List Addr} {S C D : Addr} {i j : Nat}
end
def spInit (C : Addr) (f : Str) : Sp := fun vs H Q _ => ∃ a y n, vs = [.ref a, y] ∧ H a = some (excB n a (.ref C) none) ∧ ∀ d, H d = none → Q .non (L2.upd (L2.upd H d (.xd [(f, y)])) a (excB n a (.ref C) (some d)))
theorem init_of {H : Hp} {Q : VK} {a C : Addr} {f : Str} {y : V} (na : H a = none) (h : ∀ d H2, Same H H2 → H2 a = some (excB true a (.ref C) (some d)) → H2 d = some (.xd [(f, y)]) → d ≠ a → Same H (del H2 a) → del H2 a d = some (.xd [(f, y)]) → Q .non H2) {E : XK} :
    spInit C f [.ref a, y] (L2.upd H a (excB true a (.ref C) none)) Q E := by
  refine ⟨a, y, true, rfl, upd_same, fun d hd => ?_⟩
  have ne : d ≠ a := by
    intro z
    rw [z, upd_same] at hd
    cases hd
  have nd : H d = none := by rwa [upd_ne ne] at hd
  have g : Same H (L2.upd (L2.upd (L2.upd H a (excB true a (.ref C) none)) d (.xd [(f, y)])) a (excB true a (.ref C) (some d))) := sUpd (sUpd (sUpd (fun _ _ q => q) na _) nd _) na _
  have e2 : L2.upd (L2.upd (L2.upd H a (excB true a (.ref C) none)) d (.xd [(f, y)])) a (excB true a (.ref C) (some d)) d = some (.xd [(f, y)]) := by rw [upd_ne ne, upd_same]
  exact h d _ g upd_same e2 ne (fun b o q => by rw [del_ne (ne_of_none q na)]; exact g b o q) (by rw [del_ne ne]; exact e2)
end Sw
set_option Elab.async false
set_option linter.all false
set_option maxRecDepth 100000
namespace Sw
open PySem PySem.NumText
/-! ### the figures of a number -/
/-! ### a number of a text -/
/-! ### a text cut at a sign -/
/-! ### what is read -/
end Sw
set_option Elab.async false
set_option linter.all false
set_option maxRecDepth 100000
namespace L2
open PySem PySem.Spec PyProof.Rows XH
section
variable {X : Cx} {a b e o : Expr} {es : List Expr} {t te to : TE} {ta : TA} {pos apos cpos : Pos} {x y : Str}
/-! ### a text with numbers and texts put in -/
/-! ### int(text), max(list), values of the file's top -/
theorem pe_globS {z : Str} {p : Pos} (hg : Gl X x) (h : ∃ t, X.mg x = some (.str z t)) (hd : (x == ("__debug__" : Str)) = false := by decide) : PE X (.Name x p) (tC (.str z)) := by
  obtain ⟨t, h⟩ := h
  exact pe_glob hg h ⟨t, rfl⟩ hd
theorem pe_globI {i : Int} {p : Pos} (hg : Gl X x) (h : ∃ t, X.mg x = some (.int i t)) (hd : (x == ("__debug__" : Str)) = false := by decide) : PE X (.Name x p) (tC (.int i)) := by
  obtain ⟨t, h⟩ := h
  exact pe_glob hg h ⟨t, rfl⟩ hd
/-! ### tuples of numbers that are alike -/
/-! ### a list walked in a comprehension -/
/-! ### split -/
/-! ### replace: the two texts must be made behind something else -/
end
end L2
set_option Elab.async false
set_option linter.all false
set_option maxRecDepth 100000
namespace L2
open PySem PySem.Spec PyProof.Rows XH
/-! ### a dict, walked key by key; while it is walked it is known to the object -/
def Itd (a : Addr) (o : Obj) (kvs : List (Key × V)) : It :=
  ⟨fun i H => H a = some (.frz o (.dK kvs)) ∧ i < kvs.length, fun i H v H' => H' = H ∧ ∃ k x, kvs[i]? = some (k, x) ∧ v = kV k, fun i H => H a = some (.frz o (.dK kvs)) ∧ i = kvs.length⟩
theorem is_kV {P : Program} {w : World} {k : Key} {u : Value} (h : (mixKind P w).is k u = true) : RelV (kV k) u := by
  rcases keyIs_shape h with ⟨i, t, rfl, rfl⟩ | ⟨x, t, rfl, rfl⟩
  · exact ⟨t, rfl⟩
  · exact ⟨t, rfl⟩
theorem kv_at {κ : Type} : ∀ {kvs : List (κ × V)} {vs : List (κ × Value)} (r : KV kvs vs) (i : Nat) {k : κ} {x : V}, kvs[i]? = some (k, x) → ∃ u, vs[i]? = some (k, u) ∧ RelV x u
  | _, _, .nil, i, k, x, h => by simp at h
  | _, _, .cons (b := q) r t, 0, k, x, h => by
    simp at h
    subst h
    obtain ⟨q1, q2⟩ := q
    have e : k = q1 := r.1
    subst e
    exact ⟨q2, by simp, r.2⟩
  | _, _, .cons r t, i + 1, k, x, h => by
    obtain ⟨u, e, rx⟩ := kv_at t i (by simpa using h)
    exact ⟨u, by simpa using e, rx⟩
theorem frz_dict {X : Cx} {pins : List (Addr × Obj)} {σ : St} {H : Hp} {s : Shared} {a : Addr} {o : Obj} {kvs : List (Key × V)} {es0 : Array DictEntry} {ep : Nat} (I : Inv X pins σ H s) (h : H a = some (.frz o (.dK kvs))) (hd : o.data = .dict es0 ep) :
    ∃ vs, KV kvs vs ∧ s.heap.DictAt (mixKind X.prog X.w) a vs ep := by
  obtain ⟨ho, z, y, vs, rel, ob, es, ep', e, c, d, rest⟩ := (show ObjOk X.prog X.w H s.heap a (.frz o (.dK kvs)) from I.hok a _ h)
  rw [ho] at e
  cases e
  have e2 : ep' = ep := by rw [hd] at d; cases d; rfl
  subst e2
  exact ⟨vs, rel, o, es, ho, c, d, rest⟩
theorem turn_dict {P : Program} {w : World} {K : PySem.W.Frag} {tg : Expr} (it a : Addr) (o : Obj) (kvs : List (Key × V)) {es0 : Array DictEntry} {ep : Nat} (hd : o.data = .dict es0 ep) : Turn P w K tg (Itd a o kvs) [it] it (fun i h => h.IsKeyIter it a i kvs.length ep) where
  mem := by simp
  obj := fun i h st b hb => by
    have e : b = it := by simpa using hb
    subst e
    obtain ⟨o, e, c, d⟩ := st
    exact ⟨o, e, fun v z => by rw [d] at z; cases z⟩
  keep := fun i h h' st k => by
    obtain ⟨o, e, c, d⟩ := st
    exact ⟨o, k it (by simp) o e, c, d⟩
  item := by
    intro X hP hw hK hc i pins s σ H E I hf st hg
    subst hP hw hK
    obtain ⟨f0, f1, f2, f3, f4, f5⟩ := hf it (by simp)
    obtain ⟨hz, hlt⟩ := hg
    obtain ⟨vs, rel, D⟩ := frz_dict I hz hd
    obtain ⟨⟨k, x⟩, hx⟩ : ∃ p, kvs[i]? = some p := ⟨kvs[i], List.getElem?_eq_getElem hlt⟩
    obtain ⟨u, hu, _⟩ := kv_at rel i hx
    have st' := st
    rw [rel.length] at st'
    refine wpAny_pyNext_dict_item st' D hu fun key h' hkey hit' hs' => ?_
    rw [← rel.length] at hit'
    have I1 : Inv X pins σ H { s with heap := h', toks := s.toks } := I.turned (fun b ob hb e => hs'.extBut b ob hb e) f0 f1 f3 f4 f5
    obtain ⟨oi, ei, ci, di⟩ := id hit'
    exact ⟨_, rfl, go_of (s := { s with heap := h' }) (n := "dict_keyiterator") ei ci di (by decide) ⟨kV k, H, I1, is_kV hkey, ⟨rfl, k, x, hx, rfl⟩, hit', fun b hb => (hf b hb).1⟩⟩
  done := by
    intro X hP hw hK hc i pins s σ H E I hf st hg
    subst hP hw hK
    obtain ⟨f0, f1, f2, f3, f4, f5⟩ := hf it (by simp)
    obtain ⟨hz, rfl⟩ := hg
    obtain ⟨vs, rel, D⟩ := frz_dict I hz hd
    rw [rel.length] at st
    refine wpAny_pyNext_dict_end (I.ok.hd hc) st D (by simp) fun h' he' => ⟨rfl, I.turned (t' := s.toks) (fun b ob hb e => he' b ob hb e) f0 f1 f3 f4 f5⟩
  self := fun _ _ _ _ _ st h => wpAny_pyIter_keyiter st h
/-- nothing of the kind was known there at the entry -/
def NF (X : Cx) (a : Addr) : Prop := ∀ o u, X.H₀ a ≠ some (.frz o u)
theorem Inv.nf {X : Cx} {pins : List (Addr × Obj)} {σ : St} {H : Hp} {s : Shared} {a : Addr} {kvs : List (Key × V)} (I : Inv X pins σ H s) (h : H a = some (.dK kvs)) : NF X a := fun o u e => by
  have := I.base.frzs a o u e
  rw [h] at this
  cases this
theorem Inv.freeze {X : Cx} {pins : List (Addr × Obj)} {σ : St} {H : Hp} {s : Shared} {a : Addr} {kvs : List (Key × V)} {o : Obj} (I : Inv X pins σ H s) (h : H a = some (.dK kvs)) (ho : s.heap.get? a = some o) : Inv X pins σ (upd H a (.frz o (.dK kvs))) s := by
  refine I.un (H' := upd H a (.frz o (.dK kvs))) (h' := s.heap) (t' := s.toks) ⟨fun b ob q n _ _ => q, fun b ob q n _ _ => ⟨ob.slots, q⟩, fun b ob q n _ => ?_, fun b ob q _ => ⟨ob, q⟩, fun b xs q => ?_, fun b ob u q => ?_, fun b ps q => ⟨#[], ?_⟩⟩ ?_
  · rw [upd_ne (fun z => by subst z; rw [h] at n; cases n)]; exact n
  · rw [upd_ne (fun z => by subst z; rw [h] at q; cases q)]; exact q
  · rw [upd_ne (fun z => by subst z; rw [h] at q; cases q)]; exact q
  · rw [upd_ne (fun z => by subst z; rw [h] at q; cases q), q]; simp
  · intro b u q
    by_cases hb : b = a
    · subst hb
      rw [upd_same] at q
      cases q
      exact ⟨ho, (I.hok b _ h).stay (fun _ _ _ q => q) (fun c q => by rw [upd_ne (fun z => by subst z; rw [h] at q; cases q)]; exact q) fun c xs q => by rw [upd_ne (fun z => by subst z; rw [h] at q; cases q)]; exact q⟩
    · rw [upd_ne hb] at q
      exact (I.hok b _ q).stay (fun _ _ _ q => q) (fun c q => by rw [upd_ne (fun z => by subst z; rw [h] at q; cases q)]; exact q) fun c xs q => by rw [upd_ne (fun z => by subst z; rw [h] at q; cases q)]; exact q
theorem Inv.thaw {X : Cx} {pins : List (Addr × Obj)} {σ : St} {H : Hp} {s : Shared} {a : Addr} {kvs : List (Key × V)} {o : Obj} (I : Inv X pins σ H s) (h : H a = some (.frz o (.dK kvs))) (nf : NF X a) : Inv X pins σ (upd H a (.dK kvs)) s := by
  have hn : ∀ {b : Addr} {u : HO}, H b = some u → (∀ o' v, u ≠ .frz o' v) → upd H a (.dK kvs) b = some u := fun {b u} q n => by
    rw [upd_ne (fun z => by subst z; rw [h] at q; cases q; exact n _ _ rfl)]; exact q
  have hf : ∀ {b : Addr}, H b = none → upd H a (.dK kvs) b = none := fun {b} n => by
    rw [upd_ne (fun z => by subst z; rw [h] at n; cases n)]; exact n
  refine ⟨I.ok, I.os, I.bare, ⟨I.base.keep, I.base.slot, fun b ob q n hx => hf (I.base.free b ob q n hx), I.base.there, fun b xs q => hn (I.base.tups b xs q) (fun _ _ z => nomatch z), fun b ob u q => ?_, fun b ps q => ?_⟩, I.loc, I.cell, hf I.free, fun y c e => hf (I.freeC y c e), fun p hp => ?_, ?_, I.len⟩
  · have q' := I.base.frzs b ob u q
    rw [upd_ne (fun z => by subst z; exact nf _ _ q)]
    exact q'
  · obtain ⟨more, q'⟩ := I.base.tbls b ps q
    exact ⟨more, hn q' (fun _ _ z => nomatch z)⟩
  · obtain ⟨p1, p2, p3⟩ := I.pin p hp
    exact ⟨p1, hf p2, p3⟩
  · intro b u q
    by_cases hb : b = a
    · subst hb
      rw [upd_same] at q
      cases q
      obtain ⟨_, q2⟩ := (show ObjOk X.prog X.w H s.heap b (.frz o (.dK kvs)) from I.hok b _ h)
      exact ObjOk.stay (o := .dK kvs) q2 (fun _ _ _ q => q) (fun c q => hn q (fun _ _ z => nomatch z)) fun c xs q => hn q (fun _ _ z => nomatch z)
    · rw [upd_ne hb] at q
      exact (I.hok b _ q).stay (fun _ _ _ q => q) (fun c q => hn q (fun _ _ z => nomatch z)) fun c xs q => hn q (fun _ _ z => nomatch z)
def iDict (X : Cx) (tl : TE) : TI := fun σ H R => tl σ H fun x H1 => ∃ a kvs, x = .ref a ∧ H1 a = some (.dK kvs) ∧ ∀ o, NF X a → R (Itd a o kvs) (upd H1 a (.frz o (.dK kvs)))
section
variable {X : Cx} {tg : Expr}
theorem pi_dict {l : Expr} {tl : TE} (hl : PE X l tl) : PI X tg l (iDict X tl) := by
  intro pins s σ H R I h
  refine thn (hl pins s σ H _ I h) fun v s1 ⟨x, H1, I1, r1, q1⟩ => ?_
  obtain ⟨a, kvs, rfl, hk, q⟩ := q1
  cases r1
  obtain ⟨z, y, vs, rel, ob, es, ep, e, c, d, rest⟩ := (show ObjOk X.prog X.w H1 s1.heap a (.dK kvs) from I1.hok a _ hk)
  have D : s1.heap.DictAt (mixKind X.prog X.w) a vs ep := ⟨ob, es, e, c, d, rest⟩
  have I2 := I1.freeze hk e
  refine wpAny_pyIter_dict y D ?_
  refine ⟨s1.heap.objs.size, [s1.heap.objs.size], _, _, _, rfl, I2.kept (t' := s1.toks) fun b o e => Heap.get?_push_of_some _ e, turn_dict _ a ob kvs d, ⟨_, Heap.get?_push_size _ rfl, rfl, by rw [rel.length]; rfl⟩, fun b hb => ?_, q ob (I1.nf hk)⟩
  have e : b = s1.heap.objs.size := by simpa using hb
  subst e
  exact I2.fpOk (Nat.le_refl _) (I2.hok.fresh (Nat.le_refl _))
end
def unf (X : Cx) (P : Hp → Prop) (H : Hp) : Prop := ∃ a o kvs, H a = some (.frz o (.dK kvs)) ∧ NF X a ∧ P (upd H a (.dK kvs))
def unfD (X : Cx) (D : Ends) : Ends := { nx := fun σ => unf X (D.nx σ), bk := fun σ => unf X (D.bk σ), ct := fun σ => unf X (D.ct σ), rt := fun v => unf X (D.rt v) }
/-- a loop over a dict -/
theorem ps_unf {X : Cx} {st : Stmt} {t : TS} (h : PS X st t) : PS X st (fun D σ H => t (unfD X D) σ H) := by
  intro pins s σ H D I q
  refine thn (h pins s σ H _ I q) fun f s1 q1 => ?_
  cases f with
  | next =>
    obtain ⟨σ', H', I', a, o, kvs, e, nf, p⟩ := q1
    exact ⟨σ', _, I'.thaw e nf, p⟩
  | brk =>
    obtain ⟨σ', H', I', a, o, kvs, e, nf, p⟩ := q1
    exact ⟨σ', _, I'.thaw e nf, p⟩
  | cont =>
    obtain ⟨σ', H', I', a, o, kvs, e, nf, p⟩ := q1
    exact ⟨σ', _, I'.thaw e nf, p⟩
  | ret u =>
    obtain ⟨v, σ', H', I', r, a, o, kvs, e, nf, p⟩ := q1
    exact ⟨v, σ', _, I'.thaw e nf, r, p⟩
/-- for, over a dict -/
theorem for_dict {a : Addr} {o : Obj} {kvs : List (Key × V)} {g : TG} {tb : TS} {D : Ends} {σ : St} {H : Hp} (Pv : Nat → St → Hp → Prop) (h0 : Pv 0 σ H) (hz : ∀ i σ H, i ≤ kvs.length → Pv i σ H → H a = some (.frz o (.dK kvs)))
    (hs : ∀ i k x σ H, kvs[i]? = some (k, x) → Pv i σ H → g (kV k) σ H fun σ2 H2 => tb { D with nx := Pv (i + 1), ct := Pv (i + 1), bk := D.nx } σ2 H2) (hd : ∀ σ H, Pv kvs.length σ H → D.nx σ H) :
    ∃ W : Nat → Nat → St → Hp → Prop, (∃ m, W 0 m σ H) ∧ ∀ i m σ H, W i m σ H →
      ((Itd a o kvs).stop i H ∧ D.nx σ H) ∨ ((Itd a o kvs).go i H ∧ ∃ N : St → Hp → Prop, (∀ σ' H', N σ' H' → ∃ m', m' < m ∧ W (i + 1) m' σ' H') ∧ ∀ x H', (Itd a o kvs).yld i H x H' → g x σ H' fun σ2 H2 => tb { D with nx := N, ct := N, bk := D.nx } σ2 H2) := by
  refine ⟨fun i m σ H => m = kvs.length - i ∧ i ≤ kvs.length ∧ Pv i σ H, ⟨kvs.length, by simp, Nat.zero_le _, h0⟩, ?_⟩
  rintro i m σ H ⟨rfl, hi, p⟩
  by_cases hlt : i < kvs.length
  · refine .inr ⟨⟨hz i σ H hi p, hlt⟩, Pv (i + 1), fun σ' H' p' => ⟨kvs.length - (i + 1), by omega, rfl, hlt, p'⟩, fun x H' y => ?_⟩
    obtain ⟨e, k, v, hk, rfl⟩ := y
    subst e
    exact hs i k v σ _ hk p
  · have e : i = kvs.length := by omega
    subst e
    exact .inl ⟨⟨hz _ σ H hi p, rfl⟩, hd σ H p⟩
end L2
set_option Elab.async false
set_option linter.all false
set_option maxRecDepth 100000
namespace L2
open PySem PySem.Spec PyProof.Rows XH
/-! ### list comprehensions with one test -/
def compIR (js : List Nat) (tc : TT) (te : TE) (σ : St) (Q : VK) : It → Hp → Prop := fun J H1 => ∀ p, H1 p = none → ∃ W : Nat → Nat → List V → Hp → Prop, (∃ m, W 0 m [] (upd H1 p (.lst []))) ∧
  ∀ i m ys H2, W i m ys H2 → H2 p = some (.lst ys) ∧ ((J.stop i H2 ∧ Q (.ref p) H2) ∨ (J.go i H2 ∧ ys.length < sizeLine ∧ ∀ x H3, J.yld i H2 x H3 → tc (some x :: freesOf js σ) H3 fun b H4 =>
    if b = true then te (some x :: freesOf js σ) H4 fun y H5 => H5 p = some (.lst ys) ∧ ∃ m', m' < m ∧ W (i + 1) m' (ys ++ [y]) (upd H5 p (.lst (ys ++ [y]))) else ∃ m', m' < m ∧ W (i + 1) m' ys H4))
def tCompIf (wi : TI) (js : List Nat) (tc : TT) (te : TE) : TE := fun σ H Q => wi σ H (compIR js tc te σ Q)
section
variable {prog : Program} {w : World} {A : Around} {R : Result → Shared → Prop} {s : Shared}
theorem compLoop_if {elt target iter cond : Expr} {scope : Scope} {pos : Pos} {it acc : Value} {env : Env} (I : Nat → Shared → Prop)
    (turn : ∀ n s, I n s → wpAny (model prog w) A (pyNext it) (fun r s1 => match r with
      | none => R (.ok .next) s1
      | some v => wpAny (model prog w) A (letOwnedTupleGo target it v) (fun _ s2 => wpAny (model prog w) A (assign target env v) (fun _ s3 => wpAny (model prog w) A (isTrue cond env (eval cond env)) (fun ok s4 =>
          if ok = true then wpAny (model prog w) A (eval elt env) (fun x s5 => wpAny (model prog w) A (call (.builtin "list.append") [acc, x]) (fun _ s6 => ∃ m, m < n ∧ I m s6) (fun _ _ => False) s5) (fun _ _ => False) s4
          else ∃ m, m < n ∧ I m s4) (fun _ _ => False) s3) (fun _ _ => False) s2) (fun _ _ => False) s1) (fun _ _ => False) s)
    (n : Nat) (h : I n s) : codeAny (model prog w) A (.compLoop (.ListComp elt [⟨target, iter, [cond], 0⟩] scope pos) 0 it acc env) R s := by
  apply codeAny_loop rfl I ?_ n h
  intro n s hI
  show wpAny _ _ ((compTurn (.ListComp elt [⟨target, iter, [cond], 0⟩] scope pos) 0 it acc env).onRaise _) _ _ s
  apply wpAny_noted
  rw [compTurn_list]
  apply wpAny_bind
  apply wpAny_standAt
  apply wpAny_bind
  refine wpAny_mono (turn n s hI) (fun r s1 h1 => ?_) fun _ _ z => z.elim
  cases r with
  | none => exact wpAny_pure h1
  | some v =>
    apply wpAny_bind
    refine wpAny_mono h1 (fun _ s2 h2 => ?_) fun _ _ z => z.elim
    apply wpAny_bind
    refine wpAny_mono h2 (fun _ s3 h3 => ?_) fun _ _ z => z.elim
    apply wpAny_bind
    refine wpAny_mono (wpAny_tests_one h3) (fun ok s4 h4 => ?_) fun _ _ z => z.elim
    cases ok with
    | true =>
      apply wpAny_bind
      apply wpAny_bind
      refine wpAny_mono h4 (fun x s5 h5 => ?_) fun _ _ z => z.elim
      apply wpAny_bind
      refine wpAny_mono h5 (fun _ s6 h6 => ?_) fun _ _ z => z.elim
      exact wpAny_pure (wpAny_pure ⟨rfl, h6⟩)
    | false =>
      have h4' : ∃ m, m < n ∧ I m s4 := h4
      exact wpAny_pure ⟨rfl, h4'⟩
end
section
variable {X : Cx} {scope : Scope} {cl : List (Str × Addr)} {own : Str} {ys : List Str} {js : List Nat} {elt iter cond : Expr} {px pos : Pos} {wi : TI} {te : TE} {tc : TT}
end
end L2
set_option Elab.async false
set_option linter.all false
set_option maxRecDepth 100000
namespace L2
open PySem PySem.Spec PyProof.Rows XH
/-! ### setdefault -/
section
variable {X : Cx}
theorem mt_setdef : MtR X "dict.setdefault" (fun x vs H Q => ∃ a kvs k v, x = .ref a ∧ vs = [kV k, v] ∧ H a = some (.dK kvs) ∧ kvs.length < sizeLine ∧ (∀ w, valV kvs k = some w → Q w H) ∧ (valV kvs k = none → Q v (upd H a (.dK (putK kvs k v))))) := by
  intro pins s σ H x vs v us Q I rx rv h
  obtain ⟨a, kvs, k, y, rfl, rfl, hk, hz, q1, q2⟩ := h
  cases rx
  obtain ⟨u, w', rfl, ru, rw'⟩ := vals2 rv
  obtain ⟨z, hS, ws, rel, D⟩ := dk_of I.hok hk
  refine call_meetsIn F.slot_dict_setdefault D.typeIs F.entry_dict_setdefault (F.args_dict_setdefault_3 _ _ _) (kt_meets_setdefault (mixKind X.prog X.w) a (kV_is ru) hS w') ⟨ws, D, by rw [← rel.length]; exact z, fun v' hv => ?_, fun hn h' D' hs' => ?_⟩
  · have r := rel.val k
    rw [hv] at r
    cases e : valV kvs k with
    | none => rw [e] at r; exact r.elim
    | some y' =>
      rw [e] at r
      exact ⟨y', H, I.tok _, r, q1 y' e⟩
  · have r := rel.val k
    rw [hn] at r
    have e : valV kvs k = none := by
      cases e : valV kvs k with
      | none => rfl
      | some y' => rw [e] at r; exact r.elim
    obtain ⟨od, _, _, ho, _⟩ := id D'
    refine ⟨y, _, d_write I (by rw [hk]; trivial) hs' ⟨od, ho⟩ (dk_new (by have := length_putK kvs k y; omega) hS (rel.put k rw') D'), rw', q2 e⟩
end
/-! ### dicts that are alike -/
section
variable {prog : Program} {w : World} {κ : Type} [DecidableEq κ] {knd : KeyKind prog w κ} {A : Around} {E : Value → Shared → Prop} {s : Shared}
end
end L2
set_option Elab.async false
set_option linter.all false
set_option maxRecDepth 100000
namespace L2
open PySem PySem.Spec PyProof.Rows XH
/-! ### list(reversed(xs)) -/
theorem lri_len : typeLookup (.type "list_reverseiterator") "__len__" = pure none := by
  rw [typeLookup_type, builtinLookup_eq_fast]
  kernel_rfl
theorem lri_hint : typeLookup (.type "list_reverseiterator") "__length_hint__" = pure (some (.builtin "list_reverseiterator.__length_hint__")) := by
  rw [typeLookup_type, builtinLookup_eq_fast]
  kernel_rfl
section
variable {prog : Program} {w : World} {A : Around} {R : Result → Shared → Prop} {s : Shared} {I l S : Addr} {items : Array Value}
abbrev RevP (items : Array Value) : Nat → Value → Prop := fun i v => items[items.size - 1 - i]? = some v
theorem rev_extend (hh : A.in1.handled = none) (hlI : l ≠ I) (hSI : S ≠ I) (hSl : S ≠ l) (res : Value) (c : Nat) (hit : s.heap.IsRevIter I l ((items.size : Int) - 1)) (hl : s.heap.IsList l items)
    (hS : s.heap.get? S = some { cls := .type "list", data := .seq #[] c }) (hn : items.size ≤ sizeLine)
    (fin : ∀ s' acc c', Moved [S, I] (fun a b => b = a) s s' → s'.heap.get? S = some { cls := .type "list", dict := none, data := .seq acc c', slots := #[] } → ItemsOf (RevP items) acc items.size → R (.ok (.ret res)) s') :
    wpAny (model prog w) A.in1 (Builtin.List.listExtendWith (.ref S) (.ref I) res)
      (fun fin s' => match fin with | .done f => R (.ok f) s' | .again c' => c'.quiet = true ∧ codeAny (model prog w) A c' R s') (fun e s' => R (.error e) s') s := by
  have ty : s.TypeIs (.ref I) "list_reverseiterator" := hit.typeIs
  have ns : Builtin.List.listSameRef (.ref S) (.ref I) = false := by
    simp [Builtin.List.listSameRef, hSI]
  unfold Builtin.List.listExtendWith
  apply wpAny_bind
  apply wpAny_typeOf ty
  rw [if_neg (by rw [ns]; decide)]
  apply wpAny_bind
  apply wpAny_pyIter_revIter hit
  apply wpAny_bind
  apply wpAny_holding
  unfold Builtin.List.listLengthHint
  apply wpAny_bind
  apply wpAny_specialOf ty lri_len
  show wpAny _ _ (specialOf (Value.ref I) (Str.ofString "__length_hint__") >>= _) _ _ s
  apply wpAny_bind
  apply wpAny_specialOf ty lri_hint
  generalize hid : ("list_reverseiterator.__length_hint__" : String) = id0
  wp_delta
  rw [show splitId id0 = some ("list_reverseiterator", "__length_hint__") from by subst hid; decide +kernel]
  subst hid
  apply wpAny_bind
  refine wpAny_isInstance (b := true) ty (by rw [isSubtype_type]; kernel_rfl) ?_
  apply wpAny_pure
  rw [if_neg (by decide)]
  have W := (Walks.listRev (prog := prog) (w := w) hh I l hlI items).toS
  have out : S ∉ [I, l] := by
    simp only [List.mem_cons, List.not_mem_nil, or_false, not_or]
    exact ⟨hSI, hSl⟩
  have st : (0 : Nat) ≤ items.size ∧ s.heap.IsRevIter I l ((items.size : Int) - 1 - ((0 : Nat) : Int)) ∧ s.heap.IsList l items := ⟨Nat.zero_le _, by simpa using hit, hl⟩
  apply wpAny_pure
  refine ⟨plainId_quiet PySem.F.plain_extend_loop _, ?_⟩
  exact codeAny_extend_loopS W hn S out res items.size 0 s #[] c rfl (Nat.zero_le _) st hS (ItemsOf.nil _) fin
theorem list_rev {E : Value → Shared → Prop} {Q : Value → Shared → Prop} (hh : A.handled = none) (hlI : l ≠ I) (hit : s.heap.IsRevIter I l ((items.size : Int) - 1)) (hl : s.heap.IsList l items) (hn : items.size ≤ sizeLine)
    (fin : ∀ h' tk acc c', (∀ b o, b ≠ I → s.heap.get? b = some o → h'.get? b = some o) → h'.get? s.heap.objs.size = some { cls := .type "list", dict := none, data := .seq acc c', slots := #[] } → ItemsOf (RevP items) acc items.size → Q (.ref s.heap.objs.size) { s with heap := h', toks := tk }) :
    wpAny (model prog w) A (call (.type "list") [.ref I]) Q E s := by
  have lI : I < s.heap.objs.size := by
    obtain ⟨o, e, _⟩ := hit
    exact Heap.lt_size e
  have ll : l < s.heap.objs.size := by
    obtain ⟨o, e, _⟩ := hl
    exact Heap.lt_size e
  refine callType_codes (Q₁ := fun v s1 => v = .ref s.heap.objs.size ∧ s1 = { s with heap := s.heap.push { cls := .type "list", data := .seq #[] } }) PySem.F.called_list (PySem.F.typeCall_list_1 _) PySem.F.entry_list_init (code_list_new _ ⟨rfl, rfl⟩) ?_
  rintro v s1 ⟨rfl, rfl⟩
  have e0 : (s.heap.push { cls := .type "list", data := .seq #[] }).get? s.heap.objs.size = some { cls := .type "list", data := .seq #[] } := Heap.get?_push_size _ rfl
  refine ⟨⟨_, e0, rfl⟩, PySem.F.args_list_init_2 _ _, ?_⟩
  show wpAny _ _ (Builtin.List.listItems (.ref s.heap.objs.size) >>= fun old => Builtin.List.listUpdate (.ref s.heap.objs.size) (fun _ => #[]) >>= fun _ => letGo old.toList.reverse >>= fun _ => Builtin.List.listExtendWith (.ref s.heap.objs.size) (.ref I) .none) _ _ _
  apply wpAny_bind
  unfold Builtin.List.listItems
  apply wpAny_bind
  apply wpAny_seqItems e0 rfl
  apply wpAny_pure
  show wpAny _ _ (updateSeq s.heap.objs.size (fun _ => #[]) >>= fun _ => letGo (#[] : Array Value).toList.reverse >>= fun _ => Builtin.List.listExtendWith (.ref s.heap.objs.size) (.ref I) .none) _ _ _
  apply wpAny_bind
  apply wpAny_updateSeq e0 rfl
  have e1 := Heap.get?_update_self (Obj.mapSeq (fun _ => (#[] : Array Value))) e0 rfl
  have old : ∀ b o, b ≠ s.heap.objs.size → s.heap.get? b = some o → ((s.heap.push { cls := .type "list", data := .seq #[] }).update s.heap.objs.size (Obj.mapSeq (fun _ => (#[] : Array Value)))).get? b = some o := fun b o hb e =>
    (Heap.get?_update_other _ _ (Ne.symm hb)).trans (Heap.get?_push_of_some _ e)
  apply wpAny_bind
  apply wpAny_letGo
  refine rev_extend (A := A.in1) (by simpa using hh) hlI (Nat.ne_of_gt lI) (Nat.ne_of_gt ll) .none _ ?_ ?_ e1 hn fun s' acc c' mv eS it => ?_
  · obtain ⟨o, e, z⟩ := hit
    exact ⟨o, old _ _ (Nat.ne_of_lt lI) e, z⟩
  · obtain ⟨o, e, z⟩ := hl
    exact ⟨o, old _ _ (Nat.ne_of_lt ll) e, z⟩
  · obtain ⟨h', g', d', tk', os'⟩ := s'
    have eg : g' = s.gens := mv.gens
    have ed : d' = s.drawn := mv.drawn
    have eo : os' = s.os := mv.os
    subst eg ed eo
    refine ⟨rfl, fin h' tk' acc c' (fun b o hb e => ?_) eS it⟩
    refine mv.heap b o ?_ (old b o (Nat.ne_of_lt (Heap.lt_size e)) e)
    simp only [List.mem_cons, List.not_mem_nil, or_false, not_or]
    exact ⟨Nat.ne_of_lt (Heap.lt_size e), hb⟩
end
theorem vals_rev : ∀ {xs : List V} {us : List Value}, Vals xs us → Vals xs.reverse us.reverse
  | _, _, .nil => .nil
  | _, _, .cons r t => by
    rw [List.reverse_cons, List.reverse_cons]
    exact (vals_rev t).append (.cons r .nil)
theorem items_rev {us : List Value} {acc : Array Value} (h : ItemsOf (RevP us.toArray) acc us.toArray.size) : acc.toList = us.reverse := by
  obtain ⟨h1, h2⟩ := h
  refine List.ext_getElem? fun i => ?_
  by_cases hi : i < acc.size
  · have e := h2 i acc[i] (Array.getElem?_eq_getElem hi)
    rw [Array.getElem?_toList, Array.getElem?_eq_getElem hi, List.getElem?_reverse (by simpa [h1] using hi)]
    simpa using e.symm
  · rw [List.getElem?_eq_none (by simpa using hi), List.getElem?_eq_none (by rw [List.length_reverse]; simp [h1] at hi; omega)]
def tRev (K : PySem.W.Frag) (te : TE) : TE := fun σ H Q => te σ H fun x H1 => ∃ a xs, x = .ref a ∧ SqL K H1 a xs ∧ ∀ l, H1 l = none → Q (.ref l) (upd H1 l (.lst xs.reverse))
section
variable {X : Cx} {e : Expr} {te : TE} {p1 p2 pos pos2 : Pos}
theorem pe_listRev (hc : X.calm = true) (g1 : Gl X "list") (m1 : X.mg "list" = none) (g2 : Gl X "reversed") (m2 : X.mg "reversed" = none) (b1 : bootBuiltins "list" = some (.type "list")) (b2 : bootBuiltins "reversed" = some (.type "reversed")) (he : PE X e te)
    (hs : starEach [e] X.env = [(false, eval e X.env)] := by rfl) :
    PE X (.Call (.Name "list" p1) [.Call (.Name "reversed" p2) [e] [] pos2] [] pos) (tRev X.K te) := by
  intro pins s σ H Q I h
  apply wpAny_Call_Name_kw
  refine ld_blt I g1 m1 b1 ?_ (by decide) (by decide)
  refine PyProof.Rows.callWith_type1 ?_ rfl rfl
  refine Calls.spliced_cons (x := eval (.Call (.Name "reversed" p2) [e] [] pos2) X.env) (rest := []) ?_
  apply wpAny_Call_Name_kw
  refine ld_blt I g2 m2 b2 ?_ (by decide) (by decide)
  refine PyProof.Rows.callWith_type1 ?_ hs rfl
  rw [hs]
  refine Calls.spliced_cons (x := eval e X.env) (rest := []) (thn (he pins s σ H _ I h) fun v s1 ⟨x, H1, I1, r1, a, xs, ex, hq, q⟩ => ?_)
  subst ex
  cases r1
  apply Calls.spliced_nil
  obtain ⟨its, rv, pl, hz⟩ := I1.list hq
  have hli : s1.heap.IsList a its.toArray := pl.isList
  have alt : a < s1.heap.objs.size := by
    obtain ⟨o, eo, _⟩ := id hli
    exact Heap.lt_size eo
  apply call_reversed_list hli
  apply Calls.spliced_nil
  have I2 : Inv X pins σ H1 { s1 with heap := s1.heap.push (revObj a ((its.toArray.size : Int) - 1)), toks := s1.toks } := I1.kept fun b o e => Heap.get?_push_of_some _ e
  have sz : its.toArray.size = xs.length := by rw [List.size_toArray, rv.length]
  refine list_rev (l := a) (items := its.toArray) (I.ok.hd hc) (Nat.ne_of_lt alt) ⟨_, Heap.get?_push_size _ rfl, rfl, rfl⟩ (hli.push _) (by rw [sz]; exact hz) fun h' tk acc c' kp eL itm => ?_
  have er := items_rev itm
  have sl : s1.heap.objs.size ≤ (s1.heap.push (revObj a ((its.toArray.size : Int) - 1))).objs.size := by
    rw [Heap.size_push]
    exact Nat.le_succ _
  refine ⟨.ref _, _, I1.laid (a := (s1.heap.push (revObj a ((its.toArray.size : Int) - 1))).objs.size) (o := .lst xs.reverse) (h' := h') (t' := tk) (fun b o eo => kp b o (Nat.ne_of_lt (Heap.lt_size eo)) (Heap.get?_push_of_some _ eo)) sl ?_, rfl, q _ (I1.hok.fresh sl)⟩
  refine ⟨by rw [List.length_reverse]; exact hz, acc.toList, c', by rw [er]; exact vals_rev rv, ?_⟩
  rw [Array.toArray_toList]
  exact eL
end
end L2
set_option Elab.async false
set_option linter.all false
set_option maxRecDepth 100000
namespace L2
open PySem PySem.Spec PyProof.Rows XH
/-! ### set(xs) of texts and numbers that are all unlike -/
section
variable {prog : Program} {w : World} {A : Around} {R : Result → Shared → Prop} {I : Addr} {fp wr : List Addr} {G : Array GenState → Array GenState → Prop} {n : Nat} {P : Nat → Value → Prop} {St : Nat → Shared → Prop}
end
section
variable {prog : Program} {w : World} {A : Around} {E : Value → Shared → Prop} {s : Shared}
end
end L2
namespace L2
open PySem PySem.Spec PyProof.Rows XH
/-! ### len(set(xs)) -/
section
variable {X : Cx} {e : Expr} {te : TE} {p1 p2 pos pos2 : Pos}
end
end L2
set_option Elab.async false
set_option linter.all false
set_option maxRecDepth 100000
namespace So
open PySem PyProof.Rows
def gallop' : Bool → Keyed → Array Keyed → Nat → Nat → Nat → StateT SortSt Sem (Option Nat) := sortPriv% PySem.Builtin.gallop
def mergeLo' : Array Keyed → Array Keyed → StateT SortSt Sem (Array Keyed) := sortPriv% PySem.Builtin.mergeLo
def mergeHi' : Array Keyed → Array Keyed → StateT SortSt Sem (Array Keyed) := sortPriv% PySem.Builtin.mergeHi
/-- the key of an entry -/
def kk (κ : KeyKind) (p : Keyed) : κ.α := (κ.keyOf p.1).getD κ.dflt
def Kd (κ : KeyKind) (p : Keyed) : Prop := ∃ a, κ.keyOf p.1 = some a
/-- what a comparison answers, by the keys -/
def LtS (prog : Program) (w : World) (A : Around) (E : Value → Shared → Prop) (s : Shared) (κ : KeyKind) (kd : SortKind) : Prop := ∀ (st : SortSt) (x y : Keyed) (Q : Option Bool → SortSt → Prop), kindOf st = kd → Kd κ x → Kd κ y → Q (some (κ.blt (kk κ x) (kk κ y))) st → wpS (model prog w) A E s (lt' x y) Q st
section
variable {prog : Program} {w : World} {A : Around} {E : Value → Shared → Prop} {s : Shared} {κ : KeyKind} {kd : SortKind}
theorem wpS_open {α β : Type} {st : SortSt} {x : StateT SortSt Sem α} {f : α → StateT SortSt Sem β} {Q : β → SortSt → Prop} (h : wpS (model prog w) A E s (x >>= f) Q st) : wpS (model prog w) A E s (x >>= f) Q st := h
theorem wpS_lt (hO : LtS prog w A E s κ kd) {st : SortSt} {x y : Keyed} {Q : Option Bool → SortSt → Prop} (hk : kindOf st = kd) (hx : Kd κ x) (hy : Kd κ y) (h : Q (some (κ.blt (kk κ x) (kk κ y))) st) : wpS (model prog w) A E s (lt' x y) Q st := hO st x y Q hk hx hy h
theorem wpS_elem {st : SortSt} {arr : Array Keyed} {i : Nat} {p : Keyed} {Q : Keyed → SortSt → Prop} (e : arr[i]? = some p) (h : Q p st) : wpS (model prog w) A E s (elem' arr i) Q st := by
  rw [elem'_eq, e]
  exact wpS_pure h
def bq (κ : KeyKind) (left : Bool) (key x : Keyed) : Bool := if left = true then κ.blt (kk κ x) (kk κ key) else !κ.blt (kk κ key) (kk κ x)
theorem wpS_beyond (hO : LtS prog w A E s κ kd) {st : SortSt} {arr : Array Keyed} {i : Nat} {left : Bool} {key x : Keyed} {Q : Option Bool → SortSt → Prop} (hk : kindOf st = kd) (e : arr[i]? = some x) (hx : Kd κ x) (hy : Kd κ key) (h : Q (some (bq κ left key x)) st) :
    wpS (model prog w) A E s (elem' arr i >>= fun x => if left = true then lt' x key else lt' key x >>= fun r => pure (Option.map (fun x => !x) r)) Q st := by
  refine wpS_bind (wpS_elem e ?_)
  cases left with
  | true =>
    rw [if_pos rfl]
    exact wpS_lt hO hk hx hy h
  | false =>
    rw [if_neg (by decide)]
    exact wpS_bind (wpS_lt hO hk hy hx (wpS_pure h))
theorem wpS_gallop (hO : LtS prog w A E s κ kd) {st : SortSt} {left : Bool} {key : Keyed} {arr : Array Keyed} {base n hint : Nat} {Q : Option Nat → SortSt → Prop} (hk : kindOf st = kd) (hy : Kd κ key) (f : Nat → Bool)
    (seg : ∀ i, i < n → ∃ x, arr[base + i]? = some x ∧ Kd κ x ∧ bq κ left key x = f i) (anti : ∀ i j, i ≤ j → j < n → f j = true → f i = true) (hh : hint < n)
    (h : ∀ k, k ≤ n → (∀ i, i < k → f i = true) → (∀ i, k ≤ i → i < n → f i = false) → Q (some k) st) : wpS (model prog w) A E s (gallop' left key arr base n hint) Q st := by
  have bey : ∀ {i : Nat} {Q : Option Bool → SortSt → Prop}, i < n → Q (some (f i)) st → wpS (model prog w) A E s (elem' arr (base + i) >>= fun x => if left = true then lt' x key else lt' key x >>= fun r => pure (Option.map (fun x => !x) r)) Q st := fun {i Q} hi hq => by
    obtain ⟨x, e, hx, hf⟩ := seg i hi
    exact wpS_beyond hO hk e hx hy (by rw [hf]; exact hq)
  have anti' : ∀ i j, i ≤ j → j < n → f i = false → f j = false := fun i j hij hj hf => by
    cases hc : f j with
    | false => rfl
    | true => rw [anti i j hij hj hc] at hf; cases hf
  unfold gallop'
  refine wpS_open ?_
  dsimp only
  refine wpS_bind (bey hh ?_)
  dsimp only
  cases hf : f hint with
  | true =>
    rw [if_pos rfl]
    refine wpS_bind (wpS_mono (wpS_forRange (I := fun x c st' => st' = st ∧ ∃ l o, c = (none, l, o) ∧ hint + l < n ∧ f (hint + l) = true ∧ l < o ∧ x + 1 ≤ o)
      (Q := fun c st' => st' = st ∧ ∃ l o, c = (none, l, o) ∧ hint + l < n ∧ f (hint + l) = true ∧ l < o ∧ (n - hint ≤ o ∨ f (hint + o) = false)) ?s1 ?e1 ⟨rfl, 0, 1, rfl, hh, hf, by omega, by omega⟩) ?p1)
    case e1 =>
      rintro c st' ⟨rfl, l, o, rfl, h1, h2, h3, h4⟩
      exact ⟨rfl, l, o, rfl, h1, h2, h3, .inl (by omega)⟩
    case s1 =>
      rintro x c st' _ hx ⟨rfl, l, o, rfl, h1, h2, h3, h4⟩
      dsimp only
      by_cases c : o ≥ n - hint
      · rw [if_pos c]
        exact wpS_pure ⟨rfl, l, o, rfl, h1, h2, h3, .inl c⟩
      · rw [if_neg c]
        refine wpS_bind (bey (by omega) ?_)
        dsimp only
        cases hg : f (hint + o) with
        | true => exact wpS_pure ⟨rfl, o, 2 * o + 1, rfl, by omega, hg, by omega, by omega⟩
        | false => exact wpS_pure ⟨rfl, l, o, rfl, h1, h2, h3, .inr hg⟩
    case p1 =>
      rintro c st' ⟨rfl, l, o, rfl, h1, h2, h3, h4⟩
      dsimp only
      refine wpS_bind (wpS_mono (wpS_forRange (I := fun x c st'' => st'' = st' ∧ ∃ l o, c = (none, l, o) ∧ l ≤ o ∧ o ≤ n ∧ (∀ i, i < l → f i = true) ∧ (∀ i, o ≤ i → i < n → f i = false) ∧ o - l + x ≤ n)
        (Q := fun c st'' => st'' = st' ∧ ∃ k, c = (none, k, k) ∧ k ≤ n ∧ (∀ i, i < k → f i = true) ∧ (∀ i, k ≤ i → i < n → f i = false)) ?s2 ?e2 ⟨rfl, _, _, rfl, by omega, by omega, fun i hi => anti i (hint + l) (by omega) h1 h2, fun i hi hn => ?q2, by omega⟩) ?p2)
      case q2 =>
        rcases h4 with h4 | h4
        · omega
        · exact anti' (hint + o) i (by omega) hn h4
      case e2 =>
        rintro c st'' ⟨rfl, l, o, rfl, g1, g2, g3, g4, g5⟩
        have : l = o := by omega
        subst this
        exact ⟨rfl, l, rfl, g2, g3, g4⟩
      case s2 =>
        rintro x c st'' _ hx ⟨rfl, l, o, rfl, g1, g2, g3, g4, g5⟩
        dsimp only
        by_cases c : l ≥ o
        · rw [if_pos c]
          have : l = o := by omega
          subst this
          exact wpS_pure ⟨rfl, l, rfl, g2, g3, g4⟩
        · rw [if_neg c]
          refine wpS_bind (bey (by omega) ?_)
          dsimp only
          cases hg : f (l + (o - l) / 2) with
          | true => exact wpS_pure ⟨rfl, _, _, rfl, by omega, g2, fun i hi => anti i _ (by omega) (by omega) hg, g4, by omega⟩
          | false => exact wpS_pure ⟨rfl, _, _, rfl, by omega, by omega, g3, fun i hi hn => anti' _ i (by omega) hn hg, by omega⟩
      case p2 =>
        rintro c st'' ⟨rfl, k, rfl, g1, g2, g3⟩
        exact wpS_pure (h k g1 g2 g3)
  | false =>
    rw [if_neg (by decide)]
    refine wpS_bind (wpS_mono (wpS_forRange (I := fun x c st' => st' = st ∧ ∃ l o, c = (none, l, o) ∧ l ≤ hint ∧ f (hint - l) = false ∧ l < o ∧ x + 1 ≤ o)
      (Q := fun c st' => st' = st ∧ ∃ l o, c = (none, l, o) ∧ l ≤ hint ∧ f (hint - l) = false ∧ l < o ∧ (hint + 1 ≤ o ∨ f (hint - o) = true)) ?us1 ?ue1 ⟨rfl, 0, 1, rfl, by omega, hf, by omega, by omega⟩) ?up1)
    case ue1 =>
      rintro c st' ⟨rfl, l, o, rfl, h1, h2, h3, h4⟩
      exact ⟨rfl, l, o, rfl, h1, h2, h3, .inl (by omega)⟩
    case us1 =>
      rintro x c st' _ hx ⟨rfl, l, o, rfl, h1, h2, h3, h4⟩
      dsimp only
      by_cases c : o ≥ hint + 1
      · rw [if_pos c]
        exact wpS_pure ⟨rfl, l, o, rfl, h1, h2, h3, .inl c⟩
      · rw [if_neg c]
        refine wpS_bind (bey (by omega) ?_)
        dsimp only
        cases hg : f (hint - o) with
        | false => exact wpS_pure ⟨rfl, o, 2 * o + 1, rfl, by omega, hg, by omega, by omega⟩
        | true => exact wpS_pure ⟨rfl, l, o, rfl, h1, h2, h3, .inr hg⟩
    case up1 =>
      rintro c st' ⟨rfl, l, o, rfl, h1, h2, h3, h4⟩
      dsimp only
      refine wpS_bind (wpS_mono (wpS_forRange (I := fun x c st'' => st'' = st' ∧ ∃ l o, c = (none, l, o) ∧ l ≤ o ∧ o ≤ n ∧ (∀ i, i < l → f i = true) ∧ (∀ i, o ≤ i → i < n → f i = false) ∧ o - l + x ≤ n)
        (Q := fun c st'' => st'' = st' ∧ ∃ k, c = (none, k, k) ∧ k ≤ n ∧ (∀ i, i < k → f i = true) ∧ (∀ i, k ≤ i → i < n → f i = false)) ?us2 ?ue2 ⟨rfl, _, _, rfl, by omega, by omega, fun i hi => ?uq2, fun i hi hn => anti' _ i hi hn h2, by omega⟩) ?up2)
      case uq2 =>
        rcases h4 with h4 | h4
        · omega
        · exact anti i (hint - o) (by omega) (by omega) h4
      case ue2 =>
        rintro c st'' ⟨rfl, l, o, rfl, g1, g2, g3, g4, g5⟩
        have : l = o := by omega
        subst this
        exact ⟨rfl, l, rfl, g2, g3, g4⟩
      case us2 =>
        rintro x c st'' _ hx ⟨rfl, l, o, rfl, g1, g2, g3, g4, g5⟩
        dsimp only
        by_cases c : l ≥ o
        · rw [if_pos c]
          have : l = o := by omega
          subst this
          exact wpS_pure ⟨rfl, l, rfl, g2, g3, g4⟩
        · rw [if_neg c]
          refine wpS_bind (bey (by omega) ?_)
          dsimp only
          cases hg : f (l + (o - l) / 2) with
          | true => exact wpS_pure ⟨rfl, _, _, rfl, by omega, g2, fun i hi => anti i _ (by omega) (by omega) hg, g4, by omega⟩
          | false => exact wpS_pure ⟨rfl, _, _, rfl, by omega, by omega, g3, fun i hi hn => anti' _ i (by omega) hn hg, by omega⟩
      case up2 =>
        rintro c st'' ⟨rfl, k, rfl, g1, g2, g3⟩
        exact wpS_pure (h k g1 g2 g3)
end
end So
set_option Elab.async false
set_option linter.all false
set_option maxRecDepth 100000
namespace So
open PySem PyProof.Rows
def setG (st : SortSt) (g : Nat) : SortSt := SortSt.mk' (kindOf st) (arrOf st) (pendingOf st) g (failedOf st)
def setMinGallop' : Nat → StateT SortSt Sem Unit := sortPriv% PySem.Builtin.setMinGallop
def GEq (st st' : SortSt) : Prop := kindOf st' = kindOf st ∧ arrOf st' = arrOf st ∧ pendingOf st' = pendingOf st ∧ failedOf st' = failedOf st
theorem GEq.refl (st : SortSt) : GEq st st := ⟨rfl, rfl, rfl, rfl⟩
theorem GEq.set {st st' : SortSt} (h : GEq st st') (g : Nat) : GEq st (setG st' g) := ⟨h.1, h.2.1, h.2.2.1, h.2.2.2⟩
/-- not behind -/
def Lq (κ : KeyKind) (p q : Keyed) : Prop := κ.kle (kk κ p) (kk κ q)
section
variable {κ : KeyKind} {kd : SortKind} {a b out : Array Keyed} {ia ib : Nat}
structure Mg (κ : KeyKind) (a b out : Array Keyed) (ia ib : Nat) : Prop where
  perm : (out.toList ++ (a.toList.drop ia ++ b.toList.drop ib)).Perm (a.toList ++ b.toList)
  srt : out.toList.Pairwise (Lq κ)
  lea : ∀ x ∈ out.toList, ∀ y ∈ a.toList.drop ia, Lq κ x y
  leb : ∀ x ∈ out.toList, ∀ y ∈ b.toList.drop ib, Lq κ x y
def MFin (κ : KeyKind) (a b r : Array Keyed) : Prop := r.toList.Perm (a.toList ++ b.toList) ∧ r.toList.Pairwise (Lq κ)
theorem Mg.pushB (h : Mg κ a b out ia ib) (sb : b.toList.Pairwise (Lq κ)) {y : Keyed} (e : b[ib]? = some y) (hy : ∀ z ∈ a.toList.drop ia, Lq κ y z) : Mg κ a b (out.push y) ia (ib + 1) := by
  have e' : b.toList[ib]? = some y := by simpa using e
  have dr : b.toList.drop ib = y :: b.toList.drop (ib + 1) := by
    obtain ⟨l, g⟩ := List.getElem?_eq_some_iff.mp e'
    rw [List.drop_eq_getElem_cons l, g]
  have sb' : (y :: b.toList.drop (ib + 1)).Pairwise (Lq κ) := by rw [← dr]; exact sb.drop
  have sb2 := List.pairwise_cons.mp sb'
  have lb := h.leb
  have pm := h.perm
  rw [dr] at lb pm
  refine ⟨?_, ?_, ?_, ?_⟩
  · rw [Array.toList_push, List.append_assoc]
    refine List.Perm.trans (List.Perm.append_left _ ?_) pm
    show (y :: (List.drop ia a.toList ++ List.drop (ib + 1) b.toList)).Perm _
    exact (List.perm_middle).symm
  · rw [Array.toList_push, List.pairwise_append]
    refine ⟨h.srt, by simp, fun x hx z hz => ?_⟩
    simp at hz
    rw [hz]
    exact lb x hx y (by simp)
  · intro x hx z hz
    rw [Array.toList_push] at hx
    rcases List.mem_append.mp hx with k | k
    · exact h.lea x k z hz
    · simp at k
      rw [k]
      exact hy z hz
  · intro x hx z hz
    rw [Array.toList_push] at hx
    rcases List.mem_append.mp hx with k | k
    · exact lb x k z (by simp [hz])
    · simp at k
      rw [k]
      exact sb2.1 z hz
theorem Mg.runA (h : Mg κ a b out ia ib) (sa : a.toList.Pairwise (Lq κ)) {k : Nat} (hy : ∀ x ∈ (a.toList.drop ia).take k, ∀ z ∈ b.toList.drop ib, Lq κ x z) : Mg κ a b (out ++ a.extract ia (ia + k)) (ia + k) ib := by
  have ex : (a.extract ia (ia + k)).toList = (a.toList.drop ia).take k := by
    rw [Array.toList_extract, List.extract_eq_take_drop, Nat.add_sub_cancel_left]
  have dr : a.toList.drop ia = (a.toList.drop ia).take k ++ a.toList.drop (ia + k) := by
    rw [← List.drop_drop, List.take_append_drop]
  have sa' : ((a.toList.drop ia).take k ++ a.toList.drop (ia + k)).Pairwise (Lq κ) := by rw [← dr]; exact sa.drop
  have sa2 := List.pairwise_append.mp sa'
  have la := h.lea
  have pm := h.perm
  rw [dr] at la pm
  refine ⟨?_, ?_, ?_, ?_⟩
  · rw [Array.toList_append, ex]
    simpa [List.append_assoc] using pm
  · rw [Array.toList_append, ex, List.pairwise_append]
    exact ⟨h.srt, sa2.1, fun x hx z hz => la x hx z (by simp [hz])⟩
  · intro x hx z hz
    rw [Array.toList_append, ex] at hx
    rcases List.mem_append.mp hx with k | k
    · exact la x k z (by simp [hz])
    · exact sa2.2.2 x k z hz
  · intro x hx z hz
    rw [Array.toList_append, ex] at hx
    rcases List.mem_append.mp hx with k | k
    · exact h.leb x k z hz
    · exact hy x k z hz
theorem Mg.pushA (h : Mg κ a b out ia ib) (sa : a.toList.Pairwise (Lq κ)) {x : Keyed} (e : a[ia]? = some x) (hy : ∀ z ∈ b.toList.drop ib, Lq κ x z) : Mg κ a b (out.push x) (ia + 1) ib := by
  have e' : a.toList[ia]? = some x := by simpa using e
  have dr : a.toList.drop ia = x :: a.toList.drop (ia + 1) := by
    obtain ⟨l, g⟩ := List.getElem?_eq_some_iff.mp e'
    rw [List.drop_eq_getElem_cons l, g]
  have q := h.runA sa (k := 1) (by
    rw [dr]
    intro u hu
    simp at hu
    rw [hu]
    exact hy)
  have ex : out ++ a.extract ia (ia + 1) = out.push x := by
    apply Array.toList_inj.mp
    rw [Array.toList_append, Array.toList_push, Array.toList_extract, List.extract_eq_take_drop, Nat.add_sub_cancel_left, dr]
    rfl
  rw [ex] at q
  exact q
theorem Mg.runB (h : Mg κ a b out ia ib) (sb : b.toList.Pairwise (Lq κ)) {k : Nat} (hy : ∀ x ∈ (b.toList.drop ib).take k, ∀ z ∈ a.toList.drop ia, Lq κ x z) : Mg κ a b (out ++ b.extract ib (ib + k)) ia (ib + k) := by
  have ex : (b.extract ib (ib + k)).toList = (b.toList.drop ib).take k := by
    rw [Array.toList_extract, List.extract_eq_take_drop, Nat.add_sub_cancel_left]
  have dr : b.toList.drop ib = (b.toList.drop ib).take k ++ b.toList.drop (ib + k) := by
    rw [← List.drop_drop, List.take_append_drop]
  have sb' : ((b.toList.drop ib).take k ++ b.toList.drop (ib + k)).Pairwise (Lq κ) := by rw [← dr]; exact sb.drop
  have sb2 := List.pairwise_append.mp sb'
  have lb := h.leb
  have pm := h.perm
  rw [dr] at lb pm
  refine ⟨?_, ?_, ?_, ?_⟩
  · rw [Array.toList_append, ex]
    refine List.Perm.trans ?_ pm
    rw [List.append_assoc]
    refine List.Perm.append_left _ ?_
    rw [← List.append_assoc, ← List.append_assoc]
    exact List.Perm.append_right _ List.perm_append_comm
  · rw [Array.toList_append, ex, List.pairwise_append]
    exact ⟨h.srt, sb2.1, fun x hx z hz => lb x hx z (by simp [hz])⟩
  · intro x hx z hz
    rw [Array.toList_append, ex] at hx
    rcases List.mem_append.mp hx with k | k
    · exact h.lea x k z hz
    · exact hy x k z hz
  · intro x hx z hz
    rw [Array.toList_append, ex] at hx
    rcases List.mem_append.mp hx with k | k
    · exact lb x k z (by simp [hz])
    · exact sb2.2.2 x k z hz
theorem Mg.done (h : Mg κ a b out ia ib) (sa : a.toList.Pairwise (Lq κ)) (sb : b.toList.Pairwise (Lq κ)) (c : a.size ≤ ia ∨ b.size ≤ ib) : MFin κ a b (out ++ a.extract ia ++ b.extract ib) := by
  have xa : (a.extract ia).toList = a.toList.drop ia := by
    rw [Array.toList_extract, List.extract_eq_take_drop, List.take_of_length_le (by simp)]
  have xb : (b.extract ib).toList = b.toList.drop ib := by
    rw [Array.toList_extract, List.extract_eq_take_drop, List.take_of_length_le (by simp)]
  refine ⟨?_, ?_⟩
  · rw [Array.toList_append, Array.toList_append, xa, xb, List.append_assoc]
    exact h.perm
  · rw [Array.toList_append, Array.toList_append, xa, xb, List.append_assoc, List.pairwise_append, List.pairwise_append]
    refine ⟨h.srt, ⟨sa.drop, sb.drop, fun x hx z hz => ?_⟩, fun x hx z hz => ?_⟩
    · rcases c with c | c
      · rw [List.drop_of_length_le (by simpa using c)] at hx
        simp at hx
      · rw [List.drop_of_length_le (by simpa using c)] at hz
        simp at hz
    · rcases List.mem_append.mp hz with k | k
      · exact h.lea x hx z k
      · exact h.leb x hx z k
theorem Mg.lastA (h : Mg κ a b out ia ib) (sa : a.toList.Pairwise (Lq κ)) (sb : b.toList.Pairwise (Lq κ)) (hl : ∀ y ∈ b.toList, ∀ x ∈ a.toList.drop (a.size - 1), Lq κ y x) (c : ia + 1 = a.size) : MFin κ a b (out ++ b.extract ib ++ a.extract ia) := by
  have xa : (a.extract ia).toList = a.toList.drop ia := by
    rw [Array.toList_extract, List.extract_eq_take_drop, List.take_of_length_le (by simp)]
  have xb : (b.extract ib).toList = b.toList.drop ib := by
    rw [Array.toList_extract, List.extract_eq_take_drop, List.take_of_length_le (by simp)]
  have ca : a.size - 1 = ia := by omega
  rw [ca] at hl
  refine ⟨?_, ?_⟩
  · rw [Array.toList_append, Array.toList_append, xa, xb, List.append_assoc]
    exact List.Perm.trans (List.Perm.append_left _ List.perm_append_comm) h.perm
  · rw [Array.toList_append, Array.toList_append, xa, xb, List.append_assoc, List.pairwise_append, List.pairwise_append]
    refine ⟨h.srt, ⟨sb.drop, sa.drop, fun x hx z hz => hl x (List.mem_of_mem_drop hx) z hz⟩, fun x hx z hz => ?_⟩
    rcases List.mem_append.mp hz with k | k
    · exact h.leb x hx z k
    · exact h.lea x hx z k
/-- what stands behind a place is not ahead of what stands there -/
theorem drop_le {xs : Array Keyed} (sx : xs.toList.Pairwise (Lq κ)) {i : Nat} {x y : Keyed} (e : xs[i]? = some x) (h : Lq κ y x) : ∀ z ∈ xs.toList.drop i, Lq κ y z := by
  have e' : xs.toList[i]? = some x := by simpa using e
  have dr : xs.toList.drop i = x :: xs.toList.drop (i + 1) := by
    obtain ⟨l, g⟩ := List.getElem?_eq_some_iff.mp e'
    rw [List.drop_eq_getElem_cons l, g]
  have sx' : (x :: xs.toList.drop (i + 1)).Pairwise (Lq κ) := by rw [← dr]; exact sx.drop
  have sx2 := List.pairwise_cons.mp sx'
  intro z hz
  rw [dr] at hz
  rcases List.mem_cons.mp hz with k | k
  · rw [k]; exact h
  · exact KeyOrd.kle_trans h (sx2.1 z k)
theorem srt_at {xs : Array Keyed} (sx : xs.toList.Pairwise (Lq κ)) {i j : Nat} {x y : Keyed} (hij : i ≤ j) (e1 : xs[i]? = some x) (e2 : xs[j]? = some y) : Lq κ x y := by
  refine drop_le sx e1 (KeyOrd.kle_refl _) y ?_
  have e' : xs.toList[j]? = some y := by simpa using e2
  have : (xs.toList.drop i)[j - i]? = some y := by
    rw [List.getElem?_drop, ← e']
    congr 1
    omega
  exact List.mem_of_getElem? this
end
end So
set_option Elab.async false
set_option linter.all false
set_option maxRecDepth 100000
namespace So
open PySem PyProof.Rows
section
variable {prog : Program} {w : World} {A : Around} {E : Value → Shared → Prop} {s : Shared} {κ : KeyKind} {kd : SortKind}
theorem wpS_setG {st : SortSt} {g : Nat} {Q : Unit → SortSt → Prop} (h : Q () (setG st g)) : wpS (model prog w) A E s (setMinGallop' g) Q st := wpS_modify (f := fun st => setG st g) h
theorem wpS_rule {st : SortSt} {r : String} {Q : Unit → SortSt → Prop} (h : Q () st) : wpS (model prog w) A E s (liftM (rule r) : StateT SortSt Sem Unit) Q st := wpS_lift (wpAny_rule ⟨rfl, h⟩)
/-- the place that a key has in what stands from a place on: right of all that are not behind it -/
theorem wpS_gallopR (hO : LtS prog w A E s κ kd) {st : SortSt} {key : Keyed} {arr : Array Keyed} {base hint n : Nat} {Q : Option Nat → SortSt → Prop} (hk : kindOf st = kd) (hy : Kd κ key) (ka : ∀ x ∈ arr.toList, Kd κ x) (sa : arr.toList.Pairwise (Lq κ)) (hn : base + n ≤ arr.size) (hh : hint < n)
    (h : ∀ k, k ≤ n → (∀ i x, i < k → arr[base + i]? = some x → Lq κ x key) → (∀ i x, k ≤ i → i < n → arr[base + i]? = some x → Lq κ key x) → Q (some k) st) : wpS (model prog w) A E s (gallop' false key arr base n hint) Q st := by
  have get : ∀ i, i < n → ∃ x, arr[base + i]? = some x ∧ Kd κ x := fun i hi => by
    have l : base + i < arr.size := by omega
    exact ⟨arr[base + i], Array.getElem?_eq_getElem l, ka _ (by simp)⟩
  refine wpS_gallop hO hk hy (fun i => match arr[base + i]? with | some x => bq κ false key x | none => false) (fun i hi => ?_) (fun i j hij hj hf => ?_) hh (fun k hk h1 h2 => h k hk (fun i x hi e => ?_) (fun i x hi hn e => ?_))
  · obtain ⟨x, e, kx⟩ := get i hi
    exact ⟨x, e, kx, by rw [e]⟩
  · obtain ⟨x, e, _⟩ := get i (by omega)
    obtain ⟨y, e2, _⟩ := get j hj
    try dsimp only at hf ⊢
    rw [e]
    rw [e2] at hf
    have l := srt_at sa (show base + i ≤ base + j by omega) e e2
    have hf' : (!κ.blt (kk κ key) (kk κ y)) = true := hf
    show (!κ.blt (kk κ key) (kk κ x)) = true
    have f1 : κ.blt (kk κ key) (kk κ y) = false := by simpa using hf'
    have f2 : κ.blt (kk κ key) (kk κ x) = false := KeyOrd.kle_trans l f1
    rw [f2]
    rfl
  · have q := h1 i hi
    try dsimp only at q
    rw [e] at q
    have q' : (!κ.blt (kk κ key) (kk κ x)) = true := q
    show κ.blt (kk κ key) (kk κ x) = false
    simpa using q'
  · have q := h2 i hi hn
    try dsimp only at q
    rw [e] at q
    have q' : (!κ.blt (kk κ key) (kk κ x)) = false := q
    exact KeyOrd.kle_of_klt (show κ.blt (kk κ key) (kk κ x) = true by simpa using q')
/-- left of all that are not ahead of it -/
theorem wpS_gallopL (hO : LtS prog w A E s κ kd) {st : SortSt} {key : Keyed} {arr : Array Keyed} {base hint n : Nat} {Q : Option Nat → SortSt → Prop} (hk : kindOf st = kd) (hy : Kd κ key) (ka : ∀ x ∈ arr.toList, Kd κ x) (sa : arr.toList.Pairwise (Lq κ)) (hn : base + n ≤ arr.size) (hh : hint < n)
    (h : ∀ k, k ≤ n → (∀ i x, i < k → arr[base + i]? = some x → Lq κ x key) → (∀ i x, k ≤ i → i < n → arr[base + i]? = some x → Lq κ key x) → Q (some k) st) : wpS (model prog w) A E s (gallop' true key arr base n hint) Q st := by
  have get : ∀ i, i < n → ∃ x, arr[base + i]? = some x ∧ Kd κ x := fun i hi => by
    have l : base + i < arr.size := by omega
    exact ⟨arr[base + i], Array.getElem?_eq_getElem l, ka _ (by simp)⟩
  refine wpS_gallop hO hk hy (fun i => match arr[base + i]? with | some x => bq κ true key x | none => false) (fun i hi => ?_) (fun i j hij hj hf => ?_) hh (fun k hk h1 h2 => h k hk (fun i x hi e => ?_) (fun i x hi hn e => ?_))
  · obtain ⟨x, e, kx⟩ := get i hi
    exact ⟨x, e, kx, by rw [e]⟩
  · obtain ⟨x, e, _⟩ := get i (by omega)
    obtain ⟨y, e2, _⟩ := get j hj
    try dsimp only at hf ⊢
    rw [e]
    rw [e2] at hf
    have l := srt_at sa (show base + i ≤ base + j by omega) e e2
    exact KeyOrd.klt_of_kle_of_klt l hf
  · have q := h1 i hi
    try dsimp only at q
    rw [e] at q
    exact KeyOrd.kle_of_klt q
  · have q := h2 i hi hn
    try dsimp only at q
    rw [e] at q
    exact q
theorem take_le {xs : Array Keyed} {key : Keyed} {base k : Nat} (h : ∀ i x, i < k → xs[base + i]? = some x → Lq κ x key) : ∀ x ∈ (xs.toList.drop base).take k, Lq κ x key := fun x hx => by
  obtain ⟨i, hi⟩ := List.mem_iff_getElem?.mp hx
  have il : i < k := by
    have := (List.getElem?_eq_some_iff.mp hi).1
    rw [List.length_take] at this
    omega
  rw [List.getElem?_take_of_lt il, List.getElem?_drop] at hi
  exact h i x il (by simpa using hi)
/-- a pair of lists under way: not yet at an end -/
structure Go (κ : KeyKind) (a b : Array Keyed) (m : Nat) (out : Array Keyed) (ia ib : Nat) : Prop where
  mg : Mg κ a b out ia ib
  la : ia + 1 < a.size
  lb : ib < b.size
  far : m ≤ ia + ib
theorem wpS_mergeLo (hO : LtS prog w A E s κ kd) {st : SortSt} {a b : Array Keyed} {Q : Array Keyed → SortSt → Prop} (hk : kindOf st = kd) (ka : ∀ x ∈ a.toList, Kd κ x) (kb : ∀ x ∈ b.toList, Kd κ x)
    (sa : a.toList.Pairwise (Lq κ)) (sb : b.toList.Pairwise (Lq κ)) (na : 0 < a.size) (nb : 0 < b.size) (h0 : ∀ x y, a[0]? = some x → b[0]? = some y → Lq κ y x) (hl : ∀ y ∈ b.toList, ∀ x ∈ a.toList.drop (a.size - 1), Lq κ y x)
    (h : ∀ r st', MFin κ a b r → GEq st st' → Q r st') : wpS (model prog w) A E s (mergeLo' a b) Q st := by
  have getA : ∀ {i : Nat}, i < a.size → ∃ x, a[i]? = some x ∧ Kd κ x := fun {i} hi => ⟨a[i], Array.getElem?_eq_getElem hi, ka _ (by simp)⟩
  have getB : ∀ {i : Nat}, i < b.size → ∃ x, b[i]? = some x ∧ Kd κ x := fun {i} hi => ⟨b[i], Array.getElem?_eq_getElem hi, kb _ (by simp)⟩
  obtain ⟨x0, ex0, kx0⟩ := getA na
  obtain ⟨y0, ey0, ky0⟩ := getB nb
  have M0 : Mg κ a b #[] 0 0 := ⟨by simp, by simp, by simp, by simp⟩
  have M1 : Mg κ a b #[y0] 0 1 := M0.pushB sb ey0 (drop_le sa ex0 (h0 _ _ ex0 ey0))
  unfold mergeLo'
  refine wpS_open ?_
  try dsimp only
  refine wpS_bind (wpS_rule (wpS_bind (wpS_elem ey0 ?_)))
  by_cases c1 : 1 = b.size
  · rw [if_pos (beq_iff_eq.mpr c1)]
    exact wpS_pure (h _ _ (M1.done sa sb (.inr (by omega))) (.refl _))
  rw [if_neg (fun z => c1 (beq_iff_eq.mp z))]
  by_cases c2 : 0 + 1 = a.size
  · rw [if_pos (beq_iff_eq.mpr c2)]
    exact wpS_pure (h _ _ (M1.lastA sa sb hl (by omega)) (.refl _))
  rw [if_neg (fun z => c2 (beq_iff_eq.mp z))]
  refine wpS_bind (wpS_get ?_)
  try dsimp only
  refine wpS_bind (wpS_mono (wpS_forRange
    (I := fun x c st' => GEq st st' ∧ ∃ out ia ib g, c = (none, out, ia, ib, g) ∧ Go κ a b (x + 1) out ia ib)
    (Q := fun c st' => GEq st st' ∧ ∃ r q, c = (some r, q) ∧ MFin κ a b r) ?s1 ?e1 ⟨.refl _, _, _, _, _, rfl, ⟨M1, by omega, by omega, by omega⟩⟩) ?p1)
  case e1 =>
    rintro c st' ⟨ge, out, ia, ib, g, rfl, go⟩
    have := go.la
    have := go.lb
    have := go.far
    omega
  case p1 =>
    rintro c st' ⟨ge, r, q, rfl, f⟩
    exact wpS_pure (h _ _ f ge)
  case s1 =>
    rintro x c st1 _ hx ⟨ge, out, ia, ib, g, rfl, go⟩
    have hk1 : kindOf st1 = kd := ge.1.trans hk
    try dsimp only
    refine wpS_bind (wpS_mono (wpS_forRange
      (I := fun x' c st' => st' = st1 ∧ ∃ out ia ib ac bc, c = (none, out, ia, ib, ac, bc) ∧ Go κ a b (x + 1 + x') out ia ib)
      (Q := fun c st' => st' = st1 ∧ ((∃ r q, c = (some r, q) ∧ MFin κ a b r) ∨ ∃ out ia ib ac bc, c = (none, out, ia, ib, ac, bc) ∧ Go κ a b (x + 1 + 1) out ia ib)) ?s2 ?e2 ⟨rfl, _, _, _, _, _, rfl, go⟩) ?p2)
    case e2 =>
      rintro c st' ⟨_, out, ia, ib, ac, bc, rfl, go⟩
      have := go.la
      have := go.lb
      have := go.far
      omega
    case s2 =>
      rintro x' c st' _ hx' ⟨rfl, out, ia, ib, ac, bc, rfl, go⟩
      have l1 := go.la
      have l2 := go.lb
      have l3 := go.far
      obtain ⟨xa, exa, kxa⟩ := getA (show ia < a.size by omega)
      obtain ⟨yb, eyb, kyb⟩ := getB l2
      try dsimp only
      refine wpS_bind (wpS_elem eyb (wpS_bind (wpS_elem exa (wpS_bind (wpS_lt hO hk1 kyb kxa ?_)))))
      try dsimp only
      cases cc : κ.blt (kk κ yb) (kk κ xa) with
      | true =>
        rw [if_pos rfl]
        have M2 := go.mg.pushB sb eyb (drop_le sa exa (KeyOrd.kle_of_klt cc))
        refine wpS_bind (wpS_elem eyb ?_)
        by_cases d1 : ib + 1 = b.size
        · rw [if_pos (beq_iff_eq.mpr d1)]
          exact wpS_pure ⟨rfl, .inl ⟨_, _, rfl, M2.done sa sb (.inr (by omega))⟩⟩
        rw [if_neg (fun z => d1 (beq_iff_eq.mp z))]
        by_cases d2 : bc + 1 ≥ g
        · rw [if_pos d2]
          exact wpS_pure ⟨rfl, .inr ⟨_, _, _, _, _, rfl, ⟨M2, l1, by omega, by omega⟩⟩⟩
        · rw [if_neg d2]
          exact wpS_pure ⟨rfl, _, _, _, _, _, rfl, ⟨M2, l1, by omega, by omega⟩⟩
      | false =>
        rw [if_neg (by decide)]
        have M2 := go.mg.pushA sa exa (drop_le sb eyb cc)
        refine wpS_bind (wpS_elem exa ?_)
        by_cases d1 : ia + 1 + 1 = a.size
        · rw [if_pos (beq_iff_eq.mpr d1)]
          exact wpS_pure ⟨rfl, .inl ⟨_, _, rfl, M2.lastA sa sb hl d1⟩⟩
        rw [if_neg (fun z => d1 (beq_iff_eq.mp z))]
        by_cases d2 : ac + 1 ≥ g
        · rw [if_pos d2]
          exact wpS_pure ⟨rfl, .inr ⟨_, _, _, _, _, rfl, ⟨M2, by omega, l2, by omega⟩⟩⟩
        · rw [if_neg d2]
          exact wpS_pure ⟨rfl, _, _, _, _, _, rfl, ⟨M2, by omega, l2, by omega⟩⟩
    case p2 =>
      rintro c st' ⟨rfl, ⟨r, q, rfl, f⟩ | ⟨out, ia, ib, ac, bc, rfl, go⟩⟩
      · exact wpS_pure ⟨ge, _, _, rfl, f⟩
      try dsimp only
      refine wpS_bind (wpS_rule ?_)
      refine wpS_bind (wpS_mono (wpS_forRange
        (I := fun x' c st' => GEq st st' ∧ ∃ out ia ib g ac bc, c = (none, out, ia, ib, g, ac, bc) ∧ Go κ a b (x + 1 + 1 + x') out ia ib)
        (Q := fun c st' => GEq st st' ∧ ((∃ r q, c = (some r, q) ∧ MFin κ a b r) ∨ ∃ out ia ib g ac bc, c = (none, out, ia, ib, g, ac, bc) ∧ Go κ a b (x + 1 + 1) out ia ib)) ?s3 ?e3 ⟨ge, _, _, _, _, _, _, rfl, go⟩) ?p3)
      case e3 =>
        rintro c st' ⟨_, out, ia, ib, g, ac, bc, rfl, go⟩
        have := go.la
        have := go.lb
        have := go.far
        omega
      case p3 =>
        rintro c st' ⟨ge, ⟨r, q, rfl, f⟩ | ⟨out, ia, ib, g, ac, bc, rfl, go⟩⟩
        · exact wpS_pure ⟨ge, _, _, rfl, f⟩
        · exact wpS_bind (wpS_setG (wpS_pure ⟨ge.set _, _, _, _, _, rfl, go⟩))
      case s3 =>
        rintro x' c st2 _ hx' ⟨ge2, out, ia, ib, g, ac, bc, rfl, go⟩
        have l1 := go.la
        have l2 := go.lb
        have l3 := go.far
        try dsimp only
        obtain ⟨yb, eyb, kyb⟩ := getB l2
        by_cases cg : g > 1
        all_goals
          first
            | rw [if_pos cg]
            | rw [if_neg cg]
          refine wpS_bind (wpS_setG (wpS_bind (wpS_elem eyb (wpS_bind (wpS_gallopR hO (ge2.1.trans hk) kyb ka sa (by omega) (by omega) fun k hkn p1 p2 => ?_)))))
          try dsimp only
          have ge3 := ge2.set (st' := st2)
          by_cases ck : k > 0
          · rw [if_pos ck]
            have M1 := go.mg.runA sa (k := k) (fun u hu z hz => drop_le sb eyb (take_le p1 u hu) z hz)
            by_cases d1 : ia + k + 1 = a.size
            · rw [if_pos (beq_iff_eq.mpr d1)]
              exact wpS_pure ⟨ge3 _, .inl ⟨_, _, rfl, M1.lastA sa sb hl d1⟩⟩
            rw [if_neg (fun z => d1 (beq_iff_eq.mp z))]
            by_cases d2 : ia + k = a.size
            · rw [if_pos (beq_iff_eq.mpr d2)]
              exact wpS_pure ⟨ge3 _, .inl ⟨_, _, rfl, M1.done sa sb (.inl (by omega))⟩⟩
            rw [if_neg (fun z => d2 (beq_iff_eq.mp z))]
            obtain ⟨xa, exa, kxa⟩ := getA (show ia + k < a.size by omega)
            have M2 := M1.pushB sb eyb (drop_le sa exa (p2 k xa (by omega) (by omega) exa))
            refine wpS_bind (wpS_elem eyb ?_)
            by_cases d3 : ib + 1 = b.size
            · rw [if_pos (beq_iff_eq.mpr d3)]
              exact wpS_pure ⟨ge3 _, .inl ⟨_, _, rfl, M2.done sa sb (.inr (by omega))⟩⟩
            rw [if_neg (fun z => d3 (beq_iff_eq.mp z))]
            refine wpS_bind (wpS_elem exa (wpS_bind (wpS_gallopL hO (ge2.1.trans hk) kxa kb sb (by omega) (by omega) fun k1 hk1n r1 r2 => ?_)))
            try dsimp only
            by_cases ck1 : k1 > 0
            · rw [if_pos ck1]
              have M3 := M2.runB sb (k := k1) (fun u hu z hz => drop_le sa exa (take_le r1 u hu) z hz)
              by_cases d4 : ib + 1 + k1 = b.size
              · rw [if_pos (beq_iff_eq.mpr d4)]
                exact wpS_pure ⟨ge3 _, .inl ⟨_, _, rfl, M3.done sa sb (.inr (by omega))⟩⟩
              rw [if_neg (fun z => d4 (beq_iff_eq.mp z))]
              obtain ⟨y2, ey2, ky2⟩ := getB (show ib + 1 + k1 < b.size by omega)
              have M4 := M3.pushA sa exa (drop_le sb ey2 (r2 k1 y2 (by omega) (by omega) ey2))
              refine wpS_bind (wpS_elem exa ?_)
              by_cases d5 : ia + k + 1 + 1 = a.size
              · rw [if_pos (beq_iff_eq.mpr d5)]
                exact wpS_pure ⟨ge3 _, .inl ⟨_, _, rfl, M4.lastA sa sb hl d5⟩⟩
              rw [if_neg (fun z => d5 (beq_iff_eq.mp z))]
              split
              · exact wpS_pure ⟨ge3 _, .inr ⟨_, _, _, _, _, _, rfl, ⟨M4, by omega, by omega, by omega⟩⟩⟩
              · exact wpS_pure ⟨ge3 _, _, _, _, _, _, _, rfl, ⟨M4, by omega, by omega, by omega⟩⟩
            · rw [if_neg ck1]
              obtain ⟨y2, ey2, ky2⟩ := getB (show ib + 1 < b.size by omega)
              have M4 := M2.pushA sa exa (drop_le sb ey2 (r2 0 y2 (by omega) (by omega) ey2))
              refine wpS_bind (wpS_elem exa ?_)
              by_cases d5 : ia + k + 1 + 1 = a.size
              · rw [if_pos (beq_iff_eq.mpr d5)]
                exact wpS_pure ⟨ge3 _, .inl ⟨_, _, rfl, M4.lastA sa sb hl d5⟩⟩
              rw [if_neg (fun z => d5 (beq_iff_eq.mp z))]
              split
              · exact wpS_pure ⟨ge3 _, .inr ⟨_, _, _, _, _, _, rfl, ⟨M4, by omega, by omega, by omega⟩⟩⟩
              · exact wpS_pure ⟨ge3 _, _, _, _, _, _, _, rfl, ⟨M4, by omega, by omega, by omega⟩⟩
          · rw [if_neg ck]
            obtain ⟨xa, exa, kxa⟩ := getA (show ia < a.size by omega)
            have M2 := go.mg.pushB sb eyb (drop_le sa exa (p2 0 xa (by omega) (by omega) exa))
            refine wpS_bind (wpS_elem eyb ?_)
            by_cases d3 : ib + 1 = b.size
            · rw [if_pos (beq_iff_eq.mpr d3)]
              exact wpS_pure ⟨ge3 _, .inl ⟨_, _, rfl, M2.done sa sb (.inr (by omega))⟩⟩
            rw [if_neg (fun z => d3 (beq_iff_eq.mp z))]
            refine wpS_bind (wpS_elem exa (wpS_bind (wpS_gallopL hO (ge2.1.trans hk) kxa kb sb (by omega) (by omega) fun k1 hk1n r1 r2 => ?_)))
            try dsimp only
            by_cases ck1 : k1 > 0
            · rw [if_pos ck1]
              have M3 := M2.runB sb (k := k1) (fun u hu z hz => drop_le sa exa (take_le r1 u hu) z hz)
              by_cases d4 : ib + 1 + k1 = b.size
              · rw [if_pos (beq_iff_eq.mpr d4)]
                exact wpS_pure ⟨ge3 _, .inl ⟨_, _, rfl, M3.done sa sb (.inr (by omega))⟩⟩
              rw [if_neg (fun z => d4 (beq_iff_eq.mp z))]
              obtain ⟨y2, ey2, ky2⟩ := getB (show ib + 1 + k1 < b.size by omega)
              have M4 := M3.pushA sa exa (drop_le sb ey2 (r2 k1 y2 (by omega) (by omega) ey2))
              refine wpS_bind (wpS_elem exa ?_)
              by_cases d5 : ia + 1 + 1 = a.size
              · rw [if_pos (beq_iff_eq.mpr d5)]
                exact wpS_pure ⟨ge3 _, .inl ⟨_, _, rfl, M4.lastA sa sb hl d5⟩⟩
              rw [if_neg (fun z => d5 (beq_iff_eq.mp z))]
              split
              · exact wpS_pure ⟨ge3 _, .inr ⟨_, _, _, _, _, _, rfl, ⟨M4, by omega, by omega, by omega⟩⟩⟩
              · exact wpS_pure ⟨ge3 _, _, _, _, _, _, _, rfl, ⟨M4, by omega, by omega, by omega⟩⟩
            · rw [if_neg ck1]
              obtain ⟨y2, ey2, ky2⟩ := getB (show ib + 1 < b.size by omega)
              have M4 := M2.pushA sa exa (drop_le sb ey2 (r2 0 y2 (by omega) (by omega) ey2))
              refine wpS_bind (wpS_elem exa ?_)
              by_cases d5 : ia + 1 + 1 = a.size
              · rw [if_pos (beq_iff_eq.mpr d5)]
                exact wpS_pure ⟨ge3 _, .inl ⟨_, _, rfl, M4.lastA sa sb hl d5⟩⟩
              rw [if_neg (fun z => d5 (beq_iff_eq.mp z))]
              split
              · exact wpS_pure ⟨ge3 _, .inr ⟨_, _, _, _, _, _, rfl, ⟨M4, by omega, by omega, by omega⟩⟩⟩
              · exact wpS_pure ⟨ge3 _, _, _, _, _, _, _, rfl, ⟨M4, by omega, by omega, by omega⟩⟩
end
end So
set_option Elab.async false
set_option linter.all false
set_option maxRecDepth 100000
namespace So
open PySem PyProof.Rows
section
variable {κ : KeyKind} {kd : SortKind} {a b out : Array Keyed} {na nb : Nat}
structure Mh (κ : KeyKind) (a b out : Array Keyed) (na nb : Nat) : Prop where
  perm : (a.toList.take na ++ (b.toList.take nb ++ out.toList.reverse)).Perm (a.toList ++ b.toList)
  srt : out.toList.reverse.Pairwise (Lq κ)
  gea : ∀ x ∈ out.toList, ∀ y ∈ a.toList.take na, Lq κ y x
  geb : ∀ x ∈ out.toList, ∀ y ∈ b.toList.take nb, Lq κ y x
theorem Mh.runA (h : Mh κ a b out na nb) (sa : a.toList.Pairwise (Lq κ)) {k : Nat} (hk : k ≤ na) (hy : ∀ x ∈ (a.toList.take na).drop k, ∀ z ∈ b.toList.take nb, Lq κ z x) : Mh κ a b (out ++ (a.extract k na).reverse) k nb := by
  have ex : (a.extract k na).toList = (a.toList.take na).drop k := by
    rw [Array.toList_extract, List.extract_eq_take_drop, List.drop_take]
  have dr : a.toList.take na = a.toList.take k ++ (a.toList.take na).drop k := by
    have e := (List.take_append_drop k (a.toList.take na)).symm
    rw [List.take_take, Nat.min_eq_left hk] at e
    exact e
  have sa' : (a.toList.take k ++ (a.toList.take na).drop k).Pairwise (Lq κ) := by rw [← dr]; exact sa.take
  have sa2 := List.pairwise_append.mp sa'
  have to : (out ++ (a.extract k na).reverse).toList = out.toList ++ ((a.toList.take na).drop k).reverse := by rw [Array.toList_append, Array.toList_reverse, ex]
  have tr : (out ++ (a.extract k na).reverse).toList.reverse = (a.toList.take na).drop k ++ out.toList.reverse := by rw [to, List.reverse_append, List.reverse_reverse]
  have ga := h.gea
  have pm := h.perm
  rw [dr] at pm
  have ga' : ∀ x ∈ out.toList, ∀ y ∈ (a.toList.take k ++ (a.toList.take na).drop k), Lq κ y x := by rw [← dr]; exact ga
  refine ⟨?_, ?_, ?_, ?_⟩
  · rw [tr]
    refine List.Perm.trans ?_ pm
    rw [List.append_assoc]
    refine List.Perm.append_left _ ?_
    rw [← List.append_assoc, ← List.append_assoc]
    exact List.Perm.append_right _ List.perm_append_comm
  · rw [tr, List.pairwise_append]
    exact ⟨sa2.2.1, h.srt, fun x hx z hz => ga' z (by simpa using hz) x (List.mem_append_right _ hx)⟩
  · intro x hx z hz
    rw [to] at hx
    rcases List.mem_append.mp hx with c | c
    · exact ga' x c z (List.mem_append_left _ hz)
    · exact sa2.2.2 z hz x (List.mem_reverse.mp c)
  · intro x hx z hz
    rw [to] at hx
    rcases List.mem_append.mp hx with c | c
    · exact h.geb x c z hz
    · exact hy x (List.mem_reverse.mp c) z hz
theorem Mh.runB (h : Mh κ a b out na nb) (sb : b.toList.Pairwise (Lq κ)) {k : Nat} (hk : k ≤ nb) (hy : ∀ x ∈ (b.toList.take nb).drop k, ∀ z ∈ a.toList.take na, Lq κ z x) : Mh κ a b (out ++ (b.extract k nb).reverse) na k := by
  have ex : (b.extract k nb).toList = (b.toList.take nb).drop k := by
    rw [Array.toList_extract, List.extract_eq_take_drop, List.drop_take]
  have dr : b.toList.take nb = b.toList.take k ++ (b.toList.take nb).drop k := by
    have e := (List.take_append_drop k (b.toList.take nb)).symm
    rw [List.take_take, Nat.min_eq_left hk] at e
    exact e
  have sb' : (b.toList.take k ++ (b.toList.take nb).drop k).Pairwise (Lq κ) := by rw [← dr]; exact sb.take
  have sb2 := List.pairwise_append.mp sb'
  have to : (out ++ (b.extract k nb).reverse).toList = out.toList ++ ((b.toList.take nb).drop k).reverse := by rw [Array.toList_append, Array.toList_reverse, ex]
  have tr : (out ++ (b.extract k nb).reverse).toList.reverse = (b.toList.take nb).drop k ++ out.toList.reverse := by rw [to, List.reverse_append, List.reverse_reverse]
  have pm := h.perm
  rw [dr] at pm
  have gb' : ∀ x ∈ out.toList, ∀ y ∈ (b.toList.take k ++ (b.toList.take nb).drop k), Lq κ y x := by rw [← dr]; exact h.geb
  refine ⟨?_, ?_, ?_, ?_⟩
  · rw [tr]
    refine List.Perm.trans ?_ pm
    rw [List.append_assoc]
  · rw [tr, List.pairwise_append]
    exact ⟨sb2.2.1, h.srt, fun x hx z hz => gb' z (by simpa using hz) x (List.mem_append_right _ hx)⟩
  · intro x hx z hz
    rw [to] at hx
    rcases List.mem_append.mp hx with c | c
    · exact h.gea x c z hz
    · exact hy x (List.mem_reverse.mp c) z hz
  · intro x hx z hz
    rw [to] at hx
    rcases List.mem_append.mp hx with c | c
    · exact gb' x c z (List.mem_append_left _ hz)
    · exact sb2.2.2 z hz x (List.mem_reverse.mp c)
theorem one_ex {xs : Array Keyed} {n : Nat} {x : Keyed} (e : xs[n]? = some x) : xs.extract n (n + 1) = #[x] ∧ (xs.toList.take (n + 1)).drop n = [x] := by
  have e' : xs.toList[n]? = some x := by simpa using e
  obtain ⟨l, g⟩ := List.getElem?_eq_some_iff.mp e'
  have q : (xs.toList.take (n + 1)).drop n = [x] := by
    rw [List.drop_take, Nat.add_sub_cancel_left, List.drop_eq_getElem_cons l, g]
    rfl
  refine ⟨?_, q⟩
  apply Array.toList_inj.mp
  rw [Array.toList_extract, List.extract_eq_take_drop, ← List.drop_take, q]
theorem Mh.pushA (h : Mh κ a b out (na + 1) nb) (sa : a.toList.Pairwise (Lq κ)) {x : Keyed} (e : a[na]? = some x) (hy : ∀ z ∈ b.toList.take nb, Lq κ z x) : Mh κ a b (out.push x) na nb := by
  have q := h.runA sa (k := na) (by omega) (by
    rw [(one_ex e).2]
    intro u hu
    simp at hu
    rw [hu]
    exact hy)
  rw [(one_ex e).1] at q
  have ex : out ++ (#[x] : Array Keyed).reverse = out.push x := by
    apply Array.toList_inj.mp
    simp
  rw [ex] at q
  exact q
theorem Mh.pushB (h : Mh κ a b out na (nb + 1)) (sb : b.toList.Pairwise (Lq κ)) {x : Keyed} (e : b[nb]? = some x) (hy : ∀ z ∈ a.toList.take na, Lq κ z x) : Mh κ a b (out.push x) na nb := by
  have q := h.runB sb (k := nb) (by omega) (by
    rw [(one_ex e).2]
    intro u hu
    simp at hu
    rw [hu]
    exact hy)
  rw [(one_ex e).1] at q
  have ex : out ++ (#[x] : Array Keyed).reverse = out.push x := by
    apply Array.toList_inj.mp
    simp
  rw [ex] at q
  exact q
theorem Mh.popA (h : Mh κ a b out na nb) (sa : a.toList.Pairwise (Lq κ)) (hn : 0 < na) {x : Keyed} (e : a[na - 1]? = some x) (hy : ∀ z ∈ b.toList.take nb, Lq κ z x) : Mh κ a b (out.push x) (na - 1) nb := by
  have en : na = na - 1 + 1 := by omega
  rw [en] at h
  exact h.pushA sa e hy
theorem Mh.popB (h : Mh κ a b out na nb) (sb : b.toList.Pairwise (Lq κ)) (hn : 0 < nb) {x : Keyed} (e : b[nb - 1]? = some x) (hy : ∀ z ∈ a.toList.take na, Lq κ z x) : Mh κ a b (out.push x) na (nb - 1) := by
  have en : nb = nb - 1 + 1 := by omega
  rw [en] at h
  exact h.pushB sb e hy
theorem ext0 (xs : Array Keyed) (n : Nat) : (xs.extract 0 n).toList = xs.toList.take n := by
  rw [Array.toList_extract, List.extract_eq_take_drop]
  simp
theorem Mh.done (h : Mh κ a b out na nb) (sa : a.toList.Pairwise (Lq κ)) (sb : b.toList.Pairwise (Lq κ)) (c : na = 0 ∨ nb = 0) : MFin κ a b (a.extract 0 na ++ b.extract 0 nb ++ out.reverse) := by
  refine ⟨?_, ?_⟩
  · rw [Array.toList_append, Array.toList_append, ext0, ext0, Array.toList_reverse, List.append_assoc]
    exact h.perm
  · rw [Array.toList_append, Array.toList_append, ext0, ext0, Array.toList_reverse, List.append_assoc, List.pairwise_append, List.pairwise_append]
    refine ⟨sa.take, ⟨sb.take, h.srt, fun x hx z hz => h.geb z (List.mem_reverse.mp hz) x hx⟩, fun x hx z hz => ?_⟩
    rcases List.mem_append.mp hz with k | k
    · rcases c with c | c
      · rw [c] at hx; simp at hx
      · rw [c] at k; simp at k
    · exact h.gea z (List.mem_reverse.mp k) x hx
theorem Mh.firstB (h : Mh κ a b out na nb) (sa : a.toList.Pairwise (Lq κ)) (sb : b.toList.Pairwise (Lq κ)) (hf : ∀ x ∈ b.toList.take 1, ∀ z ∈ a.toList, Lq κ x z) (c : nb = 1) : MFin κ a b (b.extract 0 nb ++ a.extract 0 na ++ out.reverse) := by
  subst c
  refine ⟨?_, ?_⟩
  · rw [Array.toList_append, Array.toList_append, ext0, ext0, Array.toList_reverse]
    have pm := h.perm
    rw [← List.append_assoc] at pm
    exact List.Perm.trans (List.Perm.append_right _ List.perm_append_comm) pm
  · rw [Array.toList_append, Array.toList_append, ext0, ext0, Array.toList_reverse, List.append_assoc, List.pairwise_append, List.pairwise_append]
    refine ⟨sb.take, ⟨sa.take, h.srt, fun x hx z hz => h.gea z (List.mem_reverse.mp hz) x hx⟩, fun x hx z hz => ?_⟩
    rcases List.mem_append.mp hz with k | k
    · exact hf x hx z (List.mem_of_mem_take k)
    · exact h.geb z (List.mem_reverse.mp k) x hx
theorem take_at {xs : Array Keyed} {n : Nat} {z : Keyed} (h : z ∈ xs.toList.take n) : ∃ i, i < n ∧ xs[i]? = some z := by
  obtain ⟨i, hi⟩ := List.mem_iff_getElem?.mp h
  have il := (List.getElem?_eq_some_iff.mp hi).1
  rw [List.length_take] at il
  rw [List.getElem?_take_of_lt (by omega)] at hi
  exact ⟨i, by omega, by simpa using hi⟩
theorem mid_at {xs : Array Keyed} {n k : Nat} {z : Keyed} (h : z ∈ (xs.toList.take n).drop k) : ∃ i, k ≤ i ∧ i < n ∧ xs[i]? = some z := by
  obtain ⟨i, hi⟩ := List.mem_iff_getElem?.mp h
  rw [List.getElem?_drop] at hi
  obtain ⟨j, hj, e⟩ : ∃ j, j = k + i ∧ (xs.toList.take n)[j]? = some z := ⟨_, rfl, hi⟩
  have il := (List.getElem?_eq_some_iff.mp e).1
  rw [List.length_take] at il
  rw [List.getElem?_take_of_lt (by omega)] at e
  exact ⟨j, by omega, by omega, by simpa using e⟩
theorem take_to1 {xs : Array Keyed} (sx : xs.toList.Pairwise (Lq κ)) {n : Nat} {x y : Keyed} (hn : 0 < n) (e : xs[n - 1]? = some x) (h : Lq κ x y) : ∀ z ∈ xs.toList.take n, Lq κ z y := fun z hz => by
  obtain ⟨i, hi, ez⟩ := take_at hz
  exact KeyOrd.kle_trans (srt_at sx (by omega) ez e) h
end
structure Gh (κ : KeyKind) (a b : Array Keyed) (m : Nat) (out : Array Keyed) (na nb : Nat) : Prop where
  mh : Mh κ a b out na nb
  la : 0 < na
  lb : 1 < nb
  ha : na ≤ a.size
  hb : nb ≤ b.size
  far : na + nb + m ≤ a.size + b.size
section
variable {prog : Program} {w : World} {A : Around} {E : Value → Shared → Prop} {s : Shared} {κ : KeyKind} {kd : SortKind}
theorem wpS_mergeHi (hO : LtS prog w A E s κ kd) {st : SortSt} {a b : Array Keyed} {Q : Array Keyed → SortSt → Prop} (hk : kindOf st = kd) (ka : ∀ x ∈ a.toList, Kd κ x) (kb : ∀ x ∈ b.toList, Kd κ x)
    (sa : a.toList.Pairwise (Lq κ)) (sb : b.toList.Pairwise (Lq κ)) (pa : 0 < a.size) (pb : 0 < b.size) (h0 : ∀ x ∈ b.toList.take 1, ∀ z ∈ a.toList, Lq κ x z) (hl : ∀ y ∈ b.toList, ∀ x, a[a.size - 1]? = some x → Lq κ y x)
    (h : ∀ r st', MFin κ a b r → GEq st st' → Q r st') : wpS (model prog w) A E s (mergeHi' a b) Q st := by
  have getA : ∀ {i : Nat}, i < a.size → ∃ x, a[i]? = some x ∧ Kd κ x := fun {i} hi => ⟨a[i], Array.getElem?_eq_getElem hi, ka _ (by simp)⟩
  have getB : ∀ {i : Nat}, i < b.size → ∃ x, b[i]? = some x ∧ Kd κ x := fun {i} hi => ⟨b[i], Array.getElem?_eq_getElem hi, kb _ (by simp)⟩
  obtain ⟨x0, ex0, kx0⟩ := getA (show a.size - 1 < a.size by omega)
  have M0 : Mh κ a b #[] (a.size - 1 + 1) b.size := ⟨by
    rw [List.take_of_length_le (by simp; omega), List.take_of_length_le (by simp)]
    simp, by simp, by simp, by simp⟩
  have M1 : Mh κ a b #[x0] (a.size - 1) b.size := M0.pushA sa ex0 (fun z hz => hl z (List.mem_of_mem_take hz) x0 ex0)
  unfold mergeHi'
  refine wpS_open ?_
  try dsimp only
  refine wpS_bind (wpS_rule (wpS_bind (wpS_elem ex0 ?_)))
  by_cases c1 : a.size - 1 = 0
  · rw [if_pos (beq_iff_eq.mpr c1)]
    exact wpS_pure (h _ _ (M1.done sa sb (.inl c1)) (.refl _))
  rw [if_neg (fun z => c1 (beq_iff_eq.mp z))]
  by_cases c2 : b.size = 1
  · rw [if_pos (beq_iff_eq.mpr c2)]
    exact wpS_pure (h _ _ (M1.firstB sa sb h0 c2) (.refl _))
  rw [if_neg (fun z => c2 (beq_iff_eq.mp z))]
  refine wpS_bind (wpS_get ?_)
  try dsimp only
  refine wpS_bind (wpS_mono (wpS_forRange
    (I := fun x c st' => GEq st st' ∧ ∃ out na nb g, c = (none, na, nb, out, g) ∧ Gh κ a b (x + 1) out na nb)
    (Q := fun c st' => GEq st st' ∧ ∃ r q, c = (some r, q) ∧ MFin κ a b r) ?s1 ?e1 ⟨.refl _, _, _, _, _, rfl, ⟨M1, by omega, by omega, by omega, by omega, by omega⟩⟩) ?p1)
  case e1 =>
    rintro c st' ⟨ge, out, na, nb, g, rfl, go⟩
    have := go.la
    have := go.lb
    have := go.far
    omega
  case p1 =>
    rintro c st' ⟨ge, r, q, rfl, f⟩
    exact wpS_pure (h _ _ f ge)
  case s1 =>
    rintro x c st1 _ hx ⟨ge, out, na, nb, g, rfl, go⟩
    have hk1 : kindOf st1 = kd := ge.1.trans hk
    try dsimp only
    refine wpS_bind (wpS_mono (wpS_forRange
      (I := fun x' c st' => st' = st1 ∧ ∃ out na nb ac bc, c = (none, na, nb, out, ac, bc) ∧ Gh κ a b (x + 1 + x') out na nb)
      (Q := fun c st' => st' = st1 ∧ ((∃ r q, c = (some r, q) ∧ MFin κ a b r) ∨ ∃ out na nb ac bc, c = (none, na, nb, out, ac, bc) ∧ Gh κ a b (x + 1 + 1) out na nb)) ?s2 ?e2 ⟨rfl, _, _, _, _, _, rfl, go⟩) ?p2)
    case e2 =>
      rintro c st' ⟨_, out, na, nb, ac, bc, rfl, go⟩
      have := go.la
      have := go.lb
      have := go.far
      omega
    case s2 =>
      rintro x' c st' _ hx' ⟨rfl, out, na, nb, ac, bc, rfl, go⟩
      have l1 := go.la
      have l2 := go.lb
      have l3 := go.far
      have l4 := go.ha
      have l5 := go.hb
      obtain ⟨xa, exa, kxa⟩ := getA (show na - 1 < a.size by omega)
      obtain ⟨yb, eyb, kyb⟩ := getB (show nb - 1 < b.size by omega)
      try dsimp only
      refine wpS_bind (wpS_elem eyb (wpS_bind (wpS_elem exa (wpS_bind (wpS_lt hO hk1 kyb kxa ?_)))))
      try dsimp only
      cases cc : κ.blt (kk κ yb) (kk κ xa) with
      | true =>
        rw [if_pos rfl]
        have M2 := go.mh.popA sa l1 exa (take_to1 sb (by omega) eyb (KeyOrd.kle_of_klt cc))
        refine wpS_bind (wpS_elem exa ?_)
        by_cases d1 : na - 1 = 0
        · rw [if_pos (beq_iff_eq.mpr d1)]
          exact wpS_pure ⟨rfl, .inl ⟨_, _, rfl, M2.done sa sb (.inl d1)⟩⟩
        rw [if_neg (fun z => d1 (beq_iff_eq.mp z))]
        by_cases d2 : ac + 1 ≥ g
        · rw [if_pos d2]
          exact wpS_pure ⟨rfl, .inr ⟨_, _, _, _, _, rfl, ⟨M2, by omega, l2, by omega, l5, by omega⟩⟩⟩
        · rw [if_neg d2]
          exact wpS_pure ⟨rfl, _, _, _, _, _, rfl, ⟨M2, by omega, l2, by omega, l5, by omega⟩⟩
      | false =>
        rw [if_neg (by decide)]
        have M2 := go.mh.popB sb (by omega) eyb (take_to1 sa l1 exa cc)
        refine wpS_bind (wpS_elem eyb ?_)
        by_cases d1 : nb - 1 = 1
        · rw [if_pos (beq_iff_eq.mpr d1)]
          exact wpS_pure ⟨rfl, .inl ⟨_, _, rfl, M2.firstB sa sb h0 d1⟩⟩
        rw [if_neg (fun z => d1 (beq_iff_eq.mp z))]
        by_cases d2 : bc + 1 ≥ g
        · rw [if_pos d2]
          exact wpS_pure ⟨rfl, .inr ⟨_, _, _, _, _, rfl, ⟨M2, l1, by omega, l4, by omega, by omega⟩⟩⟩
        · rw [if_neg d2]
          exact wpS_pure ⟨rfl, _, _, _, _, _, rfl, ⟨M2, l1, by omega, l4, by omega, by omega⟩⟩
    case p2 =>
      rintro c st' ⟨rfl, ⟨r, q, rfl, f⟩ | ⟨out, na, nb, ac, bc, rfl, go⟩⟩
      · exact wpS_pure ⟨ge, _, _, rfl, f⟩
      try dsimp only
      refine wpS_bind (wpS_rule ?_)
      refine wpS_bind (wpS_mono (wpS_forRange
        (I := fun x' c st' => GEq st st' ∧ ∃ out na nb g ac bc, c = (none, na, nb, out, g, ac, bc) ∧ Gh κ a b (x + 1 + 1 + x') out na nb)
        (Q := fun c st' => GEq st st' ∧ ((∃ r q, c = (some r, q) ∧ MFin κ a b r) ∨ ∃ out na nb g ac bc, c = (none, na, nb, out, g, ac, bc) ∧ Gh κ a b (x + 1 + 1) out na nb)) ?s3 ?e3 ⟨ge, _, _, _, _, _, _, rfl, go⟩) ?p3)
      case e3 =>
        rintro c st' ⟨_, out, na, nb, g, ac, bc, rfl, go⟩
        have := go.la
        have := go.lb
        have := go.far
        omega
      case p3 =>
        rintro c st' ⟨ge, ⟨r, q, rfl, f⟩ | ⟨out, na, nb, g, ac, bc, rfl, go⟩⟩
        · exact wpS_pure ⟨ge, _, _, rfl, f⟩
        · exact wpS_bind (wpS_setG (wpS_pure ⟨ge.set _, _, _, _, _, rfl, go⟩))
      case s3 =>
        rintro x' c st2 _ hx' ⟨ge2, out, na, nb, g, ac, bc, rfl, go⟩
        have l1 := go.la
        have l2 := go.lb
        have l3 := go.far
        have l4 := go.ha
        have l5 := go.hb
        try dsimp only
        obtain ⟨yb, eyb, kyb⟩ := getB (show nb - 1 < b.size by omega)
        have z0 : ∀ i : Nat, 0 + i = i := fun i => Nat.zero_add i
        by_cases cg : g > 1
        all_goals
          first
            | rw [if_pos cg]
            | rw [if_neg cg]
          refine wpS_bind (wpS_setG (wpS_bind (wpS_elem eyb (wpS_bind (wpS_gallopR hO (ge2.1.trans hk) kyb ka sa (by omega) (by omega) fun k hkn p1 p2 => ?_)))))
          simp only [z0] at p1 p2
          try dsimp only
          have ge3 := ge2.set (st' := st2)
          have pA : ∀ z ∈ a.toList.take k, Lq κ z yb := fun z hz => by
            obtain ⟨i, hi, ez⟩ := take_at hz
            exact p1 i z hi ez
          by_cases ck : na - k > 0
          · rw [if_pos ck]
            have M1 := go.mh.runA sa (k := k) hkn (fun u hu z hz => by
              obtain ⟨i, h1, h2, e⟩ := mid_at hu
              exact take_to1 sb (by omega) eyb (p2 i u h1 h2 e) z hz)
            by_cases d1 : k = 0
            · rw [if_pos (beq_iff_eq.mpr d1)]
              exact wpS_pure ⟨ge3 _, .inl ⟨_, _, rfl, M1.done sa sb (.inl d1)⟩⟩
            rw [if_neg (fun z => d1 (beq_iff_eq.mp z))]
            have M2 := M1.popB sb (by omega) eyb pA
            refine wpS_bind (wpS_elem eyb ?_)
            by_cases d3 : nb - 1 = 1
            · rw [if_pos (beq_iff_eq.mpr d3)]
              exact wpS_pure ⟨ge3 _, .inl ⟨_, _, rfl, M2.firstB sa sb h0 d3⟩⟩
            rw [if_neg (fun z => d3 (beq_iff_eq.mp z))]
            obtain ⟨xa, exa, kxa⟩ := getA (show k - 1 < a.size by omega)
            refine wpS_bind (wpS_elem exa (wpS_bind (wpS_gallopL hO (ge2.1.trans hk) kxa kb sb (by omega) (by omega) fun k1 hk1n r1 r2 => ?_)))
            simp only [z0] at r1 r2
            try dsimp only
            have pB : ∀ z ∈ b.toList.take k1, Lq κ z xa := fun z hz => by
              obtain ⟨i, hi, ez⟩ := take_at hz
              exact r1 i z hi ez
            by_cases ck1 : nb - 1 - k1 > 0
            · rw [if_pos ck1]
              have M3 := M2.runB sb (k := k1) hk1n (fun u hu z hz => by
                obtain ⟨i, h1, h2, e⟩ := mid_at hu
                exact take_to1 sa (by omega) exa (r2 i u h1 h2 e) z hz)
              by_cases d4 : k1 = 1
              · rw [if_pos (beq_iff_eq.mpr d4)]
                exact wpS_pure ⟨ge3 _, .inl ⟨_, _, rfl, M3.firstB sa sb h0 d4⟩⟩
              rw [if_neg (fun z => d4 (beq_iff_eq.mp z))]
              by_cases d6 : k1 = 0
              · rw [if_pos (beq_iff_eq.mpr d6)]
                exact wpS_pure ⟨ge3 _, .inl ⟨_, _, rfl, M3.done sa sb (.inr d6)⟩⟩
              rw [if_neg (fun z => d6 (beq_iff_eq.mp z))]
              have M4 := M3.popA sa (by omega) exa pB
              refine wpS_bind (wpS_elem exa ?_)
              by_cases d5 : k - 1 = 0
              · rw [if_pos (beq_iff_eq.mpr d5)]
                exact wpS_pure ⟨ge3 _, .inl ⟨_, _, rfl, M4.done sa sb (.inl d5)⟩⟩
              rw [if_neg (fun z => d5 (beq_iff_eq.mp z))]
              split
              · exact wpS_pure ⟨ge3 _, .inr ⟨_, _, _, _, _, _, rfl, ⟨M4, by omega, by omega, by omega, by omega, by omega⟩⟩⟩
              · exact wpS_pure ⟨ge3 _, _, _, _, _, _, _, rfl, ⟨M4, by omega, by omega, by omega, by omega, by omega⟩⟩
            · rw [if_neg ck1]
              have ek : k1 = nb - 1 := by omega
              have M4 := M2.popA sa (by omega) exa (by rw [← ek]; exact pB)
              refine wpS_bind (wpS_elem exa ?_)
              by_cases d5 : k - 1 = 0
              · rw [if_pos (beq_iff_eq.mpr d5)]
                exact wpS_pure ⟨ge3 _, .inl ⟨_, _, rfl, M4.done sa sb (.inl d5)⟩⟩
              rw [if_neg (fun z => d5 (beq_iff_eq.mp z))]
              split
              · exact wpS_pure ⟨ge3 _, .inr ⟨_, _, _, _, _, _, rfl, ⟨M4, by omega, by omega, by omega, by omega, by omega⟩⟩⟩
              · exact wpS_pure ⟨ge3 _, _, _, _, _, _, _, rfl, ⟨M4, by omega, by omega, by omega, by omega, by omega⟩⟩
          · rw [if_neg ck]
            have ekn : k = na := by omega
            have M2 := go.mh.popB sb (by omega) eyb (by rw [← ekn]; exact pA)
            refine wpS_bind (wpS_elem eyb ?_)
            by_cases d3 : nb - 1 = 1
            · rw [if_pos (beq_iff_eq.mpr d3)]
              exact wpS_pure ⟨ge3 _, .inl ⟨_, _, rfl, M2.firstB sa sb h0 d3⟩⟩
            rw [if_neg (fun z => d3 (beq_iff_eq.mp z))]
            obtain ⟨xa, exa, kxa⟩ := getA (show na - 1 < a.size by omega)
            refine wpS_bind (wpS_elem exa (wpS_bind (wpS_gallopL hO (ge2.1.trans hk) kxa kb sb (by omega) (by omega) fun k1 hk1n r1 r2 => ?_)))
            simp only [z0] at r1 r2
            try dsimp only
            have pB : ∀ z ∈ b.toList.take k1, Lq κ z xa := fun z hz => by
              obtain ⟨i, hi, ez⟩ := take_at hz
              exact r1 i z hi ez
            by_cases ck1 : nb - 1 - k1 > 0
            · rw [if_pos ck1]
              have M3 := M2.runB sb (k := k1) hk1n (fun u hu z hz => by
                obtain ⟨i, h1, h2, e⟩ := mid_at hu
                exact take_to1 sa (by omega) exa (r2 i u h1 h2 e) z hz)
              by_cases d4 : k1 = 1
              · rw [if_pos (beq_iff_eq.mpr d4)]
                exact wpS_pure ⟨ge3 _, .inl ⟨_, _, rfl, M3.firstB sa sb h0 d4⟩⟩
              rw [if_neg (fun z => d4 (beq_iff_eq.mp z))]
              by_cases d6 : k1 = 0
              · rw [if_pos (beq_iff_eq.mpr d6)]
                exact wpS_pure ⟨ge3 _, .inl ⟨_, _, rfl, M3.done sa sb (.inr d6)⟩⟩
              rw [if_neg (fun z => d6 (beq_iff_eq.mp z))]
              have M4 := M3.popA sa (by omega) exa pB
              refine wpS_bind (wpS_elem exa ?_)
              by_cases d5 : na - 1 = 0
              · rw [if_pos (beq_iff_eq.mpr d5)]
                exact wpS_pure ⟨ge3 _, .inl ⟨_, _, rfl, M4.done sa sb (.inl d5)⟩⟩
              rw [if_neg (fun z => d5 (beq_iff_eq.mp z))]
              split
              · exact wpS_pure ⟨ge3 _, .inr ⟨_, _, _, _, _, _, rfl, ⟨M4, by omega, by omega, by omega, by omega, by omega⟩⟩⟩
              · exact wpS_pure ⟨ge3 _, _, _, _, _, _, _, rfl, ⟨M4, by omega, by omega, by omega, by omega, by omega⟩⟩
            · rw [if_neg ck1]
              have ek : k1 = nb - 1 := by omega
              have M4 := M2.popA sa (by omega) exa (by rw [← ek]; exact pB)
              refine wpS_bind (wpS_elem exa ?_)
              by_cases d5 : na - 1 = 0
              · rw [if_pos (beq_iff_eq.mpr d5)]
                exact wpS_pure ⟨ge3 _, .inl ⟨_, _, rfl, M4.done sa sb (.inl d5)⟩⟩
              rw [if_neg (fun z => d5 (beq_iff_eq.mp z))]
              split
              · exact wpS_pure ⟨ge3 _, .inr ⟨_, _, _, _, _, _, rfl, ⟨M4, by omega, by omega, by omega, by omega, by omega⟩⟩⟩
              · exact wpS_pure ⟨ge3 _, _, _, _, _, _, _, rfl, ⟨M4, by omega, by omega, by omega, by omega, by omega⟩⟩
end
end So
set_option Elab.async false
set_option linter.all false
set_option maxRecDepth 100000
namespace So
open PySem PyProof.Rows
section
variable {prog : Program} {w : World} {A : Around} {E : Value → Shared → Prop} {s : Shared} {κ : KeyKind} {kd : SortKind}
/-- the place of a key in a sorted stretch -/
theorem wpS_gallopS (hO : LtS prog w A E s κ kd) {st : SortSt} {left : Bool} {key : Keyed} {arr : Array Keyed} {P X S : List Keyed} {hint : Nat} {Q : Option Nat → SortSt → Prop} (hk : kindOf st = kd) (hy : Kd κ key) (ka : ∀ x ∈ arr.toList, Kd κ x) (e : arr.toList = P ++ (X ++ S)) (sx : X.Pairwise (Lq κ)) (hh : hint < X.length)
    (h : ∀ X1 X2, X = X1 ++ X2 → (∀ x ∈ X1, Lq κ x key) → (∀ x ∈ X2, Lq κ key x) → Q (some X1.length) st) : wpS (model prog w) A E s (gallop' left key arr P.length X.length hint) Q st := by
  have at_ : ∀ i, i < X.length → arr[P.length + i]? = X[i]? := fun i hi => by
    have : arr.toList[P.length + i]? = X[i]? := by
      rw [e, List.getElem?_append_right (by omega), Nat.add_sub_cancel_left, List.getElem?_append_left hi]
    simpa using this
  have get : ∀ i, i < X.length → ∃ x, X[i]? = some x ∧ Kd κ x := fun i hi => ⟨X[i], List.getElem?_eq_getElem hi, ka _ (by rw [e]; simp)⟩
  have mono : ∀ {i j : Nat} {x y : Keyed}, i ≤ j → X[i]? = some x → X[j]? = some y → Lq κ x y := fun {i j x y} hij h1 h2 => by
    rcases Nat.lt_or_ge i j with c | c
    · obtain ⟨l1, g1⟩ := List.getElem?_eq_some_iff.mp h1
      obtain ⟨l2, g2⟩ := List.getElem?_eq_some_iff.mp h2
      have := List.pairwise_iff_getElem.mp sx i j l1 l2 c
      rw [g1, g2] at this
      exact this
    · have : i = j := by omega
      subst this
      rw [h1] at h2
      cases h2
      exact KeyOrd.kle_refl _
  refine wpS_gallop hO hk hy (fun i => match X[i]? with | some x => bq κ left key x | none => false) (fun i hi => ?_) (fun i j hij hj hf => ?_) hh (fun k hkn h1 h2 => ?_)
  · obtain ⟨x, ex, kx⟩ := get i hi
    exact ⟨x, (at_ i hi).trans ex, kx, by rw [ex]⟩
  · obtain ⟨x, ex, _⟩ := get i (by omega)
    obtain ⟨y, ey, _⟩ := get j hj
    try dsimp only at hf ⊢
    rw [ex]
    rw [ey] at hf
    have l := mono hij ex ey
    cases left with
    | true => exact KeyOrd.klt_of_kle_of_klt l hf
    | false =>
      have hf' : (!κ.blt (kk κ key) (kk κ y)) = true := hf
      have f1 : κ.blt (kk κ key) (kk κ y) = false := by simpa using hf'
      have f2 : κ.blt (kk κ key) (kk κ x) = false := KeyOrd.kle_trans l f1
      show (!κ.blt (kk κ key) (kk κ x)) = true
      rw [f2]
      rfl
  · have tl : (X.take k).length = k := by rw [List.length_take]; omega
    have q := h (X.take k) (X.drop k) (List.take_append_drop k X).symm (fun x hx => ?_) (fun x hx => ?_)
    · rw [tl] at q
      exact q
    · obtain ⟨i, hi⟩ := List.mem_iff_getElem?.mp hx
      have il := (List.getElem?_eq_some_iff.mp hi).1
      rw [tl] at il
      rw [List.getElem?_take_of_lt il] at hi
      have q := h1 i il
      try dsimp only at q
      rw [hi] at q
      cases left with
      | true => exact KeyOrd.kle_of_klt q
      | false =>
        have q' : (!κ.blt (kk κ key) (kk κ x)) = true := q
        show κ.blt (kk κ key) (kk κ x) = false
        simpa using q'
    · obtain ⟨i, hi⟩ := List.mem_iff_getElem?.mp hx
      rw [List.getElem?_drop] at hi
      have il := (List.getElem?_eq_some_iff.mp hi).1
      have q := h2 (k + i) (by omega) il
      try dsimp only at q
      rw [hi] at q
      cases left with
      | true => exact q
      | false =>
        have q' : (!κ.blt (kk κ key) (kk κ x)) = false := q
        exact KeyOrd.kle_of_klt (show κ.blt (kk κ key) (kk κ x) = true by simpa using q')
end
/-- a stretch written anew -/
theorem writes (P : Nat) : ∀ (l : List Keyed) (c : Nat) (arr : Array Keyed), P + c + l.length ≤ arr.size →
    ((l.zipIdx c).foldl (fun (a : Array Keyed) (q : Keyed × Nat) => a.setIfInBounds (P + q.2) q.1) arr).toList = arr.toList.take (P + c) ++ l ++ arr.toList.drop (P + c + l.length)
  | [], c, arr, h => by simp
  | x :: l, c, arr, h => by
    have hl : P + c < arr.size := by simp at h; omega
    rw [List.zipIdx_cons, List.foldl_cons, writes P l (c + 1) _ (by rw [Array.size_setIfInBounds]; simp at h ⊢; omega)]
    have e : (arr.setIfInBounds (P + c) x).toList = arr.toList.set (P + c) x := by simp
    dsimp only
    rw [e]
    have e1 : P + (c + 1) = P + c + 1 := by omega
    rw [e1]
    have hl' : P + c < arr.toList.length := by simpa using hl
    have t1 : (arr.toList.set (P + c) x).take (P + c + 1) = arr.toList.take (P + c) ++ [x] := by
      rw [List.take_succ, List.take_set_of_le (Nat.le_refl _), List.getElem?_set_self hl']
      rfl
    have t2 : (arr.toList.set (P + c) x).drop (P + c + 1 + l.length) = arr.toList.drop (P + c + (x :: l).length) := by
      rw [List.drop_set_of_lt (by omega)]
      congr 1
      simp
      omega
    rw [t1, t2]
    simp
theorem z_sort {κ : KeyKind} {X1 X2 Y1 Y2 r : List Keyed} (sx : (X1 ++ X2).Pairwise (Lq κ)) (sy : (Y1 ++ Y2).Pairwise (Lq κ)) (h1 : ∀ x ∈ X1, ∀ y ∈ Y1 ++ Y2, Lq κ x y) (h2 : ∀ x ∈ X1 ++ X2, ∀ y ∈ Y2, Lq κ x y) (pr : r.Perm (X2 ++ Y1)) (sr : r.Pairwise (Lq κ)) : (X1 ++ (r ++ Y2)).Pairwise (Lq κ) := by
  have x := List.pairwise_append.mp sx
  have y := List.pairwise_append.mp sy
  rw [List.pairwise_append, List.pairwise_append]
  refine ⟨x.1, ⟨sr, y.2.1, fun u hu v hv => ?_⟩, fun u hu v hv => ?_⟩
  · rcases List.mem_append.mp (pr.mem_iff.mp hu) with k | k
    · exact h2 u (List.mem_append_right _ k) v hv
    · exact y.2.2 u k v hv
  · rcases List.mem_append.mp hv with k | k
    · rcases List.mem_append.mp (pr.mem_iff.mp k) with k | k
      · exact x.2.2 u hu v k
      · exact h1 u hu v (List.mem_append_left _ k)
    · exact h1 u hu v (List.mem_append_right _ k)
theorem z_perm {X1 X2 Y1 Y2 r : List Keyed} (pr : r.Perm (X2 ++ Y1)) : (X1 ++ (r ++ Y2)).Perm ((X1 ++ X2) ++ (Y1 ++ Y2)) := by
  have : (X1 ++ X2) ++ (Y1 ++ Y2) = X1 ++ ((X2 ++ Y1) ++ Y2) := by simp
  rw [this]
  exact List.Perm.append_left _ (List.Perm.append_right _ pr)
theorem wpS_set {M : Model} {A : Around} {E : Value → Shared → Prop} {s : Shared} {σ : Type} {st st' : σ} {Q : PUnit → σ → Prop} (h : Q ⟨⟩ st') : wpS M A E s (set st' : StateT σ Sem PUnit) Q st := by
  unfold wpS
  rw [StateT.run_set]
  exact wpAny_pure ⟨rfl, h⟩
section
variable {prog : Program} {w : World} {A : Around} {E : Value → Shared → Prop} {s : Shared} {κ : KeyKind} {kd : SortKind}
theorem wpS_mergeAt (hO : LtS prog w A E s κ kd) {st : SortSt} {i : Nat} {P X Y S : List Keyed} {pa pb : Nat} {Q : Bool → SortSt → Prop} (hk : kindOf st = kd) (hf : failedOf st = none) (ka : ∀ x ∈ (arrOf st).toList, Kd κ x)
    (e : (arrOf st).toList = P ++ (X ++ (Y ++ S))) (sx : X.Pairwise (Lq κ)) (sy : Y.Pairwise (Lq κ)) (nx : 0 < X.length) (ny : 0 < Y.length)
    (p1 : (pendingOf st)[i]? = some (P.length, X.length, pa)) (p2 : (pendingOf st)[i + 1]? = some (P.length + X.length, Y.length, pb))
    (h : ∀ st' Z, Z.Perm (X ++ Y) → Z.Pairwise (Lq κ) → kindOf st' = kd → failedOf st' = none → (arrOf st').toList = P ++ (Z ++ S) → pendingOf st' = ((pendingOf st).setIfInBounds i (P.length, X.length + Y.length, pa)).eraseIdxIfInBounds (i + 1) → Q true st') :
    wpS (model prog w) A E s (mergeAt' i) Q st := by
  unfold mergeAt'
  refine wpS_open ?_
  try dsimp only
  have ix : ∀ {U V : List Keyed} {v : Keyed}, (arrOf st).toList = U ++ v :: V → (arrOf st)[U.length]? = some v := fun {U V v} q => by
    have : (arrOf st).toList[U.length]? = some v := by rw [q]; simp
    simpa using this
  have sub : ∀ {U V W : List Keyed}, (arrOf st).toList = U ++ (V ++ W) → ((arrOf st).extract U.length (U.length + V.length)).toList = V := fun {U V W} q => by
    rw [Array.toList_extract, List.extract_eq_take_drop, q]
    simp
  obtain ⟨y0, Y', rfl⟩ : ∃ y0 Y', Y = y0 :: Y' := by
    cases Y with
    | nil => simp at ny
    | cons y Y => exact ⟨y, Y, rfl⟩
  have sy' := List.pairwise_cons.mp sy
  have ey : (arrOf st)[P.length + X.length]? = some y0 := by
    have := ix (U := P ++ X) (V := Y' ++ S) (v := y0) (by rw [e]; simp)
    rwa [List.length_append] at this
  have mem : ∀ x ∈ X ++ (y0 :: Y'), x ∈ (arrOf st).toList := fun x hx => by
    rw [e]
    rcases List.mem_append.mp hx with k | k
    · simp [k]
    · simp at k ⊢
      rcases k with k | k
      · simp [k]
      · simp [k]
  refine wpS_bind (wpS_get ?_)
  rw [p1, p2]
  try dsimp only
  refine wpS_bind (wpS_set (wpS_bind (wpS_elem ey (wpS_bind (wpS_gallopS (P := P) (X := X) (S := (y0 :: Y') ++ S) hO hk (ka _ (mem y0 (by simp))) ka e sx nx fun X1 X2 eX q1 q2 => ?_)))))
  try dsimp only
  subst eX
  have lx : (X1 ++ X2).length = X1.length + X2.length := List.length_append
  have leY : ∀ {x : Keyed}, Lq κ x y0 → ∀ y ∈ y0 :: Y', Lq κ x y := fun {x} l y hy => by
    rcases List.mem_cons.mp hy with k | k
    · rw [k]; exact l
    · exact KeyOrd.kle_trans l (sy'.1 y k)
  by_cases c1 : (X1 ++ X2).length - X1.length = 0
  · rw [if_pos (beq_iff_eq.mpr c1)]
    have x2 : X2 = [] := List.eq_nil_of_length_eq_zero (by omega)
    subst x2
    refine wpS_pure (h _ ((X1 ++ []) ++ (y0 :: Y')) (List.Perm.refl _) ?_ hk hf (by rw [show arrOf _ = arrOf st from rfl, e]; simp) rfl)
    rw [List.pairwise_append]
    exact ⟨sx, sy, fun x hx y hy => leY (q1 x (by simpa using hx)) y hy⟩
  rw [if_neg (fun z => c1 (beq_iff_eq.mp z))]
  obtain ⟨X3, xl, rfl⟩ : ∃ X3 xl, X2 = X3 ++ [xl] := by
    rcases List.eq_nil_or_concat X2 with z | ⟨a, b, z⟩
    · subst z; simp at c1
    · exact ⟨a, b, by rw [z, List.concat_eq_append]⟩
  have lx3 : (X3 ++ [xl]).length = X3.length + 1 := by simp
  have exl : (arrOf st)[P.length + X1.length + ((X1 ++ (X3 ++ [xl])).length - X1.length) - 1]? = some xl := by
    have := ix (U := P ++ (X1 ++ X3)) (V := (y0 :: Y') ++ S) (v := xl) (by rw [e]; simp)
    rw [List.length_append, List.length_append] at this
    rw [← this]
    congr 1
    omega
  have lexl : ∀ x ∈ X1 ++ (X3 ++ [xl]), Lq κ x xl := fun x hx => by
    have q : ((X1 ++ X3) ++ [xl]).Pairwise (Lq κ) := by rw [List.append_assoc]; exact sx
    have q' := List.pairwise_append.mp q
    rw [← List.append_assoc] at hx
    rcases List.mem_append.mp hx with k | k
    · exact q'.2.2 x k xl (by simp)
    · simp at k
      rw [k]
      exact KeyOrd.kle_refl _
  have g2 := fun (st2 : SortSt) (hk2 : kindOf st2 = kd) (Q2 : Option Nat → SortSt → Prop) hh => wpS_gallopS (prog := prog) (w := w) (A := A) (E := E) (s := s) (st := st2) (left := true) (key := xl) (arr := arrOf st) (P := P ++ (X1 ++ (X3 ++ [xl]))) (X := y0 :: Y') (S := S) (hint := (y0 :: Y').length - 1) (Q := Q2) hO hk2 (ka _ (mem xl (by simp))) ka (by rw [e]; simp) sy (by simp) hh
  rw [show (P ++ (X1 ++ (X3 ++ [xl]))).length = P.length + (X1 ++ (X3 ++ [xl])).length from List.length_append] at g2
  refine wpS_bind (wpS_elem exl (wpS_bind (g2 _ (by exact hk) _ fun Y1 Y2 eY r1 r2 => ?_)))
  try dsimp only
  have l2 : ∀ x ∈ X1 ++ (X3 ++ [xl]), ∀ y ∈ Y2, Lq κ x y := fun x hx y hy => KeyOrd.kle_trans (lexl x hx) (r2 y hy)
  by_cases c2 : Y1.length = 0
  · rw [if_pos (beq_iff_eq.mpr c2)]
    have y1 : Y1 = [] := List.eq_nil_of_length_eq_zero c2
    subst y1
    have eY' : Y2 = y0 :: Y' := by simpa using eY.symm
    refine wpS_pure (h _ ((X1 ++ (X3 ++ [xl])) ++ (y0 :: Y')) (List.Perm.refl _) ?_ hk hf (by rw [show arrOf _ = arrOf st from rfl, e]; simp) rfl)
    rw [List.pairwise_append]
    exact ⟨sx, sy, fun x hx y hy => l2 x hx y (by rw [eY']; exact hy)⟩
  rw [if_neg (fun z => c2 (beq_iff_eq.mp z))]
  have xx : ((arrOf st).extract (P.length + X1.length) (P.length + (X1 ++ (X3 ++ [xl])).length)).toList = X3 ++ [xl] := by
    have := sub (U := P ++ X1) (V := X3 ++ [xl]) (W := (y0 :: Y') ++ S) (by rw [e]; simp)
    rw [List.length_append] at this
    have l : P.length + (X1 ++ (X3 ++ [xl])).length = P.length + X1.length + (X3 ++ [xl]).length := by rw [List.length_append]; omega
    rw [l]
    exact this
  have yy : ((arrOf st).extract (P.length + (X1 ++ (X3 ++ [xl])).length) (P.length + (X1 ++ (X3 ++ [xl])).length + Y1.length)).toList = Y1 := by
    have := sub (U := P ++ (X1 ++ (X3 ++ [xl]))) (V := Y1) (W := Y2 ++ S) (by rw [e, eY]; simp)
    rw [List.length_append] at this
    exact this
  generalize (arrOf st).extract (P.length + X1.length) (P.length + (X1 ++ (X3 ++ [xl])).length) = ax at xx ⊢
  generalize (arrOf st).extract (P.length + (X1 ++ (X3 ++ [xl])).length) (P.length + (X1 ++ (X3 ++ [xl])).length + Y1.length) = ay at yy ⊢
  have sX := List.pairwise_append.mp sx
  have sY : (Y1 ++ Y2).Pairwise (Lq κ) := by rw [← eY]; exact sy
  have sY1 := (List.pairwise_append.mp sY).1
  have kX : ∀ x ∈ ax.toList, Kd κ x := fun x hx => by
    rw [xx] at hx
    exact ka x (mem x (List.mem_append_left _ (List.mem_append_right _ hx)))
  have kY : ∀ x ∈ ay.toList, Kd κ x := fun x hx => by
    rw [yy] at hx
    exact ka x (mem x (by rw [eY]; simp [hx]))
  have zx : ax.size = X3.length + 1 := by
    have := congrArg List.length xx
    simpa using this
  have zy : ay.size = Y1.length := by
    have := congrArg List.length yy
    simpa using this
  have y1c : ∃ Y3, Y1 = y0 :: Y3 := by
    cases Y1 with
    | nil => simp at c2
    | cons y Y3 =>
      have : y0 = y := by
        have := congrArg List.head? eY
        simpa using this
      exact ⟨Y3, by rw [this]⟩
  obtain ⟨Y3, eY3⟩ := y1c
  have last : ∀ y ∈ ay.toList, Lq κ y xl := fun y hy => r1 y (by rw [← yy]; exact hy)
  have axl : ∀ x, ax[ax.size - 1]? = some x → x = xl := fun x hx => by
    have hx' : ax.toList[ax.size - 1]? = some x := by simpa using hx
    rw [xx, zx, Nat.add_sub_cancel, List.getElem?_append_right (Nat.le_refl _)] at hx'
    simpa using hx'.symm
  have fin : ∀ (r : Array Keyed) (st2 : SortSt), MFin κ ax ay r → kindOf st2 = kd → failedOf st2 = none → arrOf st2 = arrOf st → pendingOf st2 = ((pendingOf st).setIfInBounds i (P.length, (X1 ++ (X3 ++ [xl])).length + (y0 :: Y').length, pa)).eraseIdxIfInBounds (i + 1) →
      Q true (SortSt.mk' (kindOf st2) (List.foldl (fun (a : Array Keyed) (x : Keyed × Nat) => a.setIfInBounds (P.length + X1.length + x.snd) x.fst) (arrOf st2) r.toList.zipIdx) (pendingOf st2) (gallopOf st2) (failedOf st2)) := by
    rintro r st2 ⟨pr, sr⟩ h1 h2 h3 h4
    rw [xx, yy] at pr
    have rl : r.toList.length = X3.length + 1 + Y1.length := by
      rw [pr.length_eq]
      simp
      omega
    refine h _ (X1 ++ (r.toList ++ Y2)) ?_ (z_sort sx sY (fun x hx y hy => leY (q1 x hx) y (by rw [eY]; exact hy)) l2 pr sr) h1 h2 ?_ h4
    · rw [eY]
      exact z_perm pr
    · show (List.foldl (fun (a : Array Keyed) (x : Keyed × Nat) => a.setIfInBounds (P.length + X1.length + x.snd) x.fst) (arrOf st2) r.toList.zipIdx).toList = _
      rw [h3]
      have sz : (arrOf st).size = P.length + X1.length + (X3.length + 1) + (Y1.length + Y2.length) + S.length := by
        have := congrArg List.length e
        rw [eY] at this
        simp at this
        omega
      have w := writes (P.length + X1.length) r.toList 0 (arrOf st) (by rw [rl]; omega)
      rw [w, rl, e, eY]
      have t : P ++ (X1 ++ (X3 ++ [xl]) ++ (Y1 ++ Y2 ++ S)) = (P ++ X1) ++ ((X3 ++ [xl] ++ Y1) ++ (Y2 ++ S)) := by simp
      rw [t]
      have l1 : P.length + X1.length + 0 = (P ++ X1).length := by simp
      have l3 : P.length + X1.length + 0 + (X3.length + 1 + Y1.length) = (P ++ X1).length + (X3 ++ [xl] ++ Y1).length := by simp; omega
      have d : ∀ (A B C : List Keyed), (A ++ (B ++ C)).drop (A.length + B.length) = C := fun A B C => by rw [← List.append_assoc, ← List.length_append, List.drop_left]
      rw [l3, l1, d, List.take_left]
      simp
  by_cases c3 : (X1 ++ (X3 ++ [xl])).length - X1.length ≤ Y1.length
  · rw [if_pos c3]
    refine wpS_bind (wpS_mergeLo hO (by exact hk) kX kY (by rw [xx]; exact sX.2.1) (by rw [yy]; exact sY1) (by omega) (by omega) (fun x y hx hy => ?_) (fun y hy x hx => ?_) fun r st2 mf ge => ?_)
    · have hx' : ax.toList[0]? = some x := by simpa using hx
      have hy' : ay.toList[0]? = some y := by simpa using hy
      rw [yy, eY3] at hy'
      simp at hy'
      rw [← hy']
      rw [xx] at hx'
      exact q2 x (List.mem_of_getElem? hx')
    · rw [xx, zx, Nat.add_sub_cancel, List.drop_left'] at hx
      · simp at hx
        rw [hx]
        exact last y hy
      · rfl
    · refine wpS_bind (wpS_modify (wpS_bind (wpS_get (wpS_pure ?_))))
      have f := fin r st2 mf (ge.1.trans hk) (ge.2.2.2.trans hf) ge.2.1 ge.2.2.1
      have fl : failedOf st2 = none := ge.2.2.2.trans hf
      show Q ((failedOf st2).isNone) _
      rw [fl]
      exact f
  · rw [if_neg c3]
    refine wpS_bind (wpS_mergeHi hO (by exact hk) kX kY (by rw [xx]; exact sX.2.1) (by rw [yy]; exact sY1) (by omega) (by omega) (fun x hx z hz => ?_) (fun y hy x hx => ?_) fun r st2 mf ge => ?_)
    · rw [yy, eY3] at hx
      simp at hx
      rw [hx]
      rw [xx] at hz
      exact q2 z hz
    · rw [axl x hx]
      exact last y hy
    · refine wpS_bind (wpS_modify (wpS_bind (wpS_get (wpS_pure ?_))))
      have f := fin r st2 mf (ge.1.trans hk) (ge.2.2.2.trans hf) ge.2.1 ge.2.2.1
      have fl : failedOf st2 = none := ge.2.2.2.trans hf
      show Q ((failedOf st2).isNone) _
      rw [fl]
      exact f
end
end So
set_option Elab.async false
set_option linter.all false
set_option maxRecDepth 100000
namespace So
open PySem PyProof.Rows
section
variable {prog : Program} {w : World} {A : Around} {E : Value → Shared → Prop} {s : Shared} {κ : KeyKind} {kd : SortKind}
theorem at_R {arr : Array Keyed} {P R : List Keyed} (e : arr.toList = P ++ R) {i : Nat} {x : Keyed} (h : R[i]? = some x) : arr[P.length + i]? = some x := by
  have : arr.toList[P.length + i]? = some x := by rw [e, List.getElem?_append_right (by omega), Nat.add_sub_cancel_left]; exact h
  simpa using this
theorem wpS_ltR (hO : LtS prog w A E s κ kd) {st : SortSt} {P R : List Keyed} {i j i' j' : Nat} {x y : Keyed} {Q : Option Bool → SortSt → Prop} (hk : kindOf st = kd) (ka : ∀ x ∈ R, Kd κ x) (e : (arrOf st).toList = P ++ R)
    (hi : R[i]? = some x) (hj : R[j]? = some y) (ei : i' = P.length + i) (ej : j' = P.length + j) (h : Q (some (κ.blt (kk κ x) (kk κ y))) st) : wpS (model prog w) A E s (ltAt' i' j') Q st := by
  subst ei ej
  rw [ltAt'_eq]
  refine wpS_bind (wpS_get ?_)
  exact wpS_bind (wpS_elem (at_R e hi) (wpS_bind (wpS_elem (at_R e hj) (wpS_lt hO hk (ka x (List.mem_of_getElem? hi)) (ka y (List.mem_of_getElem? hj)) h))))
theorem take_snoc {R : List Keyed} {n : Nat} {x : Keyed} (h : R[n]? = some x) : R.take (n + 1) = R.take n ++ [x] := by
  rw [List.take_succ, h]
  rfl
/-- a rising stretch grows -/
theorem rise {R : List Keyed} {n : Nat} {x y : Keyed} (h1 : 1 ≤ n) (hs : (R.take n).Pairwise (Lq κ)) (hy : R[n - 1]? = some y) (hx : R[n]? = some x) (l : Lq κ y x) : (R.take (n + 1)).Pairwise (Lq κ) := by
  have e1 : R.take n = R.take (n - 1) ++ [y] := by
    have := take_snoc hy
    rwa [show n - 1 + 1 = n by omega] at this
  rw [take_snoc hx, List.pairwise_append]
  refine ⟨hs, by simp, fun u hu v hv => ?_⟩
  simp at hv
  rw [hv]
  rw [e1] at hu hs
  rcases List.mem_append.mp hu with k | k
  · exact KeyOrd.kle_trans ((List.pairwise_append.mp hs).2.2 u k y (by simp)) l
  · simp at k
    rw [k]
    exact l
theorem wpS_asc {st : SortSt} {R : List Keyed} {n0 N : Nat} (hN : N = R.length) {body : Nat → Option (Option Nat) × Nat → StateT SortSt Sem (ForInStep (Option (Option Nat) × Nat))} {Q : Option (Option Nat) × Nat → SortSt → Prop} (h1 : 1 ≤ n0) (hn : n0 ≤ R.length) (hs : (R.take n0).Pairwise (Lq κ))
    (hb : ∀ n x y (i : Nat) (Q' : ForInStep (Option (Option Nat) × Nat) → SortSt → Prop), 1 ≤ n → R[n]? = some x → R[n - 1]? = some y → (κ.blt (kk κ x) (kk κ y) = true → Q' (.done (none, n)) st) → (κ.blt (kk κ x) (kk κ y) = false → Q' (.yield (none, n + 1)) st) → wpS (model prog w) A E s (body i (none, n)) Q' st)
    (h : ∀ n, n0 ≤ n → n ≤ R.length → (R.take n).Pairwise (Lq κ) → (n = R.length ∨ ∃ x y, R[n]? = some x ∧ R[n - 1]? = some y ∧ κ.blt (kk κ x) (kk κ y) = true) → Q (none, n) st) : wpS (model prog w) A E s (forIn [n0:N] (none, n0) body) Q st := by
  subst hN
  refine wpS_forRange (I := fun i c st' => st' = st ∧ c = (none, i) ∧ n0 ≤ i ∧ (R.take i).Pairwise (Lq κ)) ?_ ?_ ⟨rfl, rfl, Nat.le_refl _, hs⟩
  · rintro i c st' hi1 hi2 ⟨rfl, rfl, h3, h4⟩
    have ex := List.getElem?_eq_getElem hi2
    have ey := List.getElem?_eq_getElem (show i - 1 < R.length by omega)
    refine hb i _ _ i _ (by omega) ex ey (fun c => h i h3 (by omega) h4 (.inr ⟨_, _, ex, ey, c⟩)) (fun c => ⟨rfl, rfl, by omega, rise (by omega) h4 ey ex c⟩)
  · rintro c st' ⟨rfl, rfl, h3, h4⟩
    rw [Nat.max_eq_right hn] at h3 h4 ⊢
    exact h _ h3 (Nat.le_refl _) h4 (.inl rfl)
theorem mirror_list {arr : Array Keyed} {P D S : List Keyed} (e : arr.toList = P ++ (D ++ S)) : (mirror arr P.length (P.length + D.length) ((P.length + D.length - P.length) / 2)).toList = P ++ (D.reverse ++ S) := by
  have sz : arr.size = P.length + (D.length + S.length) := by
    have := congrArg List.length e
    simpa using this
  apply List.ext_getElem?
  intro k
  have q := getElem?_mirror_all (xs := arr) (i := P.length) (j := P.length + D.length) (by omega) k
  have q' : (mirror arr P.length (P.length + D.length) ((P.length + D.length - P.length) / 2)).toList[k]? = (mirror arr P.length (P.length + D.length) ((P.length + D.length - P.length) / 2))[k]? := by simp
  have ga : ∀ i, arr[i]? = (P ++ (D ++ S))[i]? := fun i => by rw [← e, Array.getElem?_toList]
  rw [q', q, ga, ga]
  by_cases c : P.length ≤ k ∧ k < P.length + D.length
  · rw [if_pos c, List.getElem?_append_right (by omega), List.getElem?_append_left (by omega), List.getElem?_append_right (by omega), List.getElem?_append_left (by rw [List.length_reverse]; omega), List.getElem?_reverse (by omega)]
    congr 1
    omega
  · rw [if_neg c]
    by_cases c2 : k < P.length
    · rw [List.getElem?_append_left c2, List.getElem?_append_left c2]
    · rw [List.getElem?_append_right (by omega), List.getElem?_append_right (by omega), List.getElem?_append_right (by omega), List.getElem?_append_right (by rw [List.length_reverse]; omega), List.length_reverse]
structure Kp (st st' : SortSt) : Prop where
  kind : kindOf st' = kindOf st
  failed : failedOf st' = failedOf st
  pend : pendingOf st' = pendingOf st
/-- keys that do not rise -/
def NI (κ : KeyKind) (L : List Keyed) (n : Nat) : Prop := ((L.map (kk κ)).take n).Pairwise fun a b => κ.blt a b = false
theorem NI.snoc {L : List Keyed} {n : Nat} {x y : Keyed} (h1 : 1 ≤ n) (h : NI κ L n) (hy : L[n - 1]? = some y) (hx : L[n]? = some x) (l : κ.blt (kk κ y) (kk κ x) = false) : NI κ L (n + 1) := by
  have ey : (L.map (kk κ))[n - 1]? = some (kk κ y) := by rw [List.getElem?_map, hy]; rfl
  have ex : (L.map (kk κ))[n]? = some (kk κ x) := by rw [List.getElem?_map, hx]; rfl
  unfold NI at h ⊢
  have e1 : (L.map (kk κ)).take n = (L.map (kk κ)).take (n - 1) ++ [kk κ y] := by
    have := List.take_succ (l := L.map (kk κ)) (i := n - 1)
    rw [show n - 1 + 1 = n by omega, ey] at this
    exact this
  have e2 : (L.map (kk κ)).take (n + 1) = (L.map (kk κ)).take n ++ [kk κ x] := by
    rw [List.take_succ, ex]
    rfl
  rw [e2, List.pairwise_append]
  refine ⟨h, by simp, fun u hu v hv => ?_⟩
  simp at hv
  rw [hv]
  rw [e1] at hu h
  rcases List.mem_append.mp hu with k | k
  · have q := (List.pairwise_append.mp h).2.2 u k (kk κ y) (by simp)
    exact KeyOrd.kle_trans (O := κ.toKeyOrd) l q
  · simp at k
    rw [k]
    exact l
theorem NI.falls {L : List Keyed} {n : Nat} (h : NI κ L n) : (L.take n).Pairwise (fun p q => Lq κ q p) := by
  unfold NI at h
  rw [← List.map_take, List.pairwise_map] at h
  exact h
/-- the last ones ahead of the place n are alike -/
def Eqs (κ : KeyKind) (L : List Keyed) (n m : Nat) : Prop := ∃ (D1 D2 S : List Keyed) (a : κ.α), L = D1 ++ (D2 ++ S) ∧ D1.length + D2.length = n ∧ D2.length = m + 1 ∧ ∀ x ∈ D2, kk κ x = a
theorem alike_rev {D : List Keyed} {a : κ.α} (h : ∀ x ∈ D, kk κ x = a) : D.reverse.map (kk κ) = D.map (kk κ) := by
  have e1 : D.map (kk κ) = List.replicate D.length a := List.eq_replicate_iff.mpr ⟨by simp, fun b hb => by
    obtain ⟨x, hx, rfl⟩ := List.mem_map.mp hb
    exact h x hx⟩
  have e2 : D.reverse.map (kk κ) = List.replicate D.length a := List.eq_replicate_iff.mpr ⟨by simp, fun b hb => by
    obtain ⟨x, hx, rfl⟩ := List.mem_map.mp hb
    exact h x (List.mem_reverse.mp hx)⟩
  rw [e1, e2]
/-- a stretch of alike ones turned about -/
theorem wpS_turn {st : SortSt} {P L : List Keyed} {n m i j : Nat} {Q : Unit → SortSt → Prop} (e : (arrOf st).toList = P ++ L) (q : Eqs κ L n m) (ei : i = P.length + n - (m + 1)) (ej : j = P.length + n)
    (h : ∀ st' L', Kp st st' → (arrOf st').toList = P ++ L' → L'.Perm L → L'.map (kk κ) = L.map (kk κ) → (∀ k, n ≤ k → L'[k]? = L[k]?) → Q () st') : wpS (model prog w) A E s (reverseSlice' i j) Q st := by
  obtain ⟨D1, D2, S, a, rfl, l1, l2, al⟩ := q
  refine wpS_reverse ?_
  have er : (arrOf st).toList = (P ++ D1) ++ (D2 ++ S) := by rw [e]; simp
  have em := mirror_list er
  have i1 : i = (P ++ D1).length := by rw [List.length_append]; omega
  have j1 : j = (P ++ D1).length + D2.length := by rw [List.length_append]; omega
  rw [i1, j1]
  refine h (setArr st (mirror (arrOf st) (P ++ D1).length ((P ++ D1).length + D2.length) (((P ++ D1).length + D2.length - (P ++ D1).length) / 2))) (D1 ++ (D2.reverse ++ S)) ⟨rfl, rfl, rfl⟩ ?_ ?_ ?_ fun k hk => ?_
  · rw [← List.append_assoc]
    exact em
  · exact List.Perm.append_left _ (List.Perm.append_right _ (List.reverse_perm _))
  · simp only [List.map_append]
    rw [alike_rev al]
  · rw [List.getElem?_append_right (by omega), List.getElem?_append_right (by rw [List.length_reverse]; omega), List.getElem?_append_right (by omega), List.getElem?_append_right (by omega), List.length_reverse]
theorem Kp.trans {a b c : SortSt} (h1 : Kp a b) (h2 : Kp b c) : Kp a c := ⟨h2.kind.trans h1.kind, h2.failed.trans h1.failed, h2.pend.trans h1.pend⟩
theorem eqs_one {L : List Keyed} {n : Nat} (h : n < L.length) : Eqs κ L (n + 1) 0 := by
  refine ⟨L.take n, [L[n]], L.drop (n + 1), kk κ L[n], ?_, by rw [List.length_take]; simp; omega, rfl, fun x hx => by simp at hx; rw [hx]⟩
  have := List.drop_eq_getElem_cons h
  rw [List.singleton_append, ← this, List.take_append_drop]
theorem Eqs.more {L : List Keyed} {n m : Nat} {x y : Keyed} (h : Eqs κ L n m) (hy : L[n - 1]? = some y) (hx : L[n]? = some x) (e : kk κ x = kk κ y) : Eqs κ L (n + 1) (m + 1) := by
  obtain ⟨D1, D2, S, a, rfl, l1, l2, al⟩ := h
  have my : y ∈ D2 := by
    rw [List.getElem?_append_right (by omega), List.getElem?_append_left (by omega)] at hy
    exact List.mem_of_getElem? hy
  rw [List.getElem?_append_right (by omega), List.getElem?_append_right (by omega)] at hx
  have z : n - D1.length - D2.length = 0 := by omega
  rw [z] at hx
  cases S with
  | nil => simp at hx
  | cons s S =>
    simp at hx
    subst hx
    refine ⟨D1, D2 ++ [s], S, a, by simp, by simp; omega, by simp; omega, fun u hu => ?_⟩
    rcases List.mem_append.mp hu with k | k
    · exact al u k
    · simp at k
      rw [k, e]
      exact al y my
theorem wpS_back {st st6 : SortSt} {P L R : List Keyed} {n : Nat} {f : Unit → StateT SortSt Sem (Option Nat)} {Q : Option Nat → SortSt → Prop} (kp : Kp st st6) (e : (arrOf st6).toList = P ++ L) (pr : L.Perm R) (hn : n ≤ R.length) (ni : NI κ L n)
    (h : ∀ st7 M, Kp st st7 → (arrOf st7).toList = P ++ M → M.Perm R → (M.take n).Pairwise (Lq κ) → wpS (model prog w) A E s (f ()) Q st7) : wpS (model prog w) A E s (reverseSlice' P.length (P.length + n) >>= f) Q st6 := by
  have tl : (L.take n).length = n := by rw [List.length_take, pr.length_eq]; omega
  have er : (arrOf st6).toList = P ++ (L.take n ++ L.drop n) := by rw [List.take_append_drop]; exact e
  have em := mirror_list er
  rw [tl] at em
  refine wpS_bind (wpS_reverse (h _ ((L.take n).reverse ++ L.drop n) ⟨kp.kind, kp.failed, kp.pend⟩ em ?_ ?_))
  · refine List.Perm.trans (List.Perm.append_right _ (List.reverse_perm _)) ?_
    rw [List.take_append_drop]
    exact pr
  · rw [List.take_left' (by rw [List.length_reverse, tl]), List.pairwise_reverse]
    exact ni.falls
theorem wpS_countAt (hO : LtS prog w A E s κ kd) {st : SortSt} {P R : List Keyed} {Q : Option Nat → SortSt → Prop} (hk : kindOf st = kd) (ka : ∀ x ∈ R, Kd κ x) (e : (arrOf st).toList = P ++ R) (hR : 1 ≤ R.length)
    (h : ∀ st' X S, Kp st st' → (arrOf st').toList = P ++ (X ++ S) → X.Pairwise (Lq κ) → (X ++ S).Perm R → 1 ≤ X.length → Q (some X.length) st') : wpS (model prog w) A E s (countRun' P.length R.length) Q st := by
  have got : ∀ n, 1 ≤ n → n ≤ R.length → (R.take n).Pairwise (Lq κ) → Q (some n) st := fun n h1 h2 h3 => by
    have q := h st (R.take n) (R.drop n) ⟨rfl, rfl, rfl⟩ (by rw [List.take_append_drop]; exact e) h3 (by rw [List.take_append_drop]) (by rw [List.length_take]; omega)
    rwa [List.length_take, Nat.min_eq_left h2] at q
  unfold countRun'
  refine wpS_open ?_
  try dsimp only
  refine wpS_bind (wpS_asc (κ := κ) (R := R) rfl (Nat.le_refl 1) hR ?_ (fun n x y i Q' h1 hx hy ht hf => ?_) fun n h1 h2 h3 h4 => ?_)
  · cases R with
    | nil => simp
    | cons => simp
  · refine wpS_bind (wpS_ltR hO hk ka e hx hy rfl (by omega) ?_)
    cases c : κ.blt (kk κ x) (kk κ y) with
    | true => exact wpS_pure (ht c)
    | false => exact wpS_pure (hf c)
  try dsimp only
  by_cases c1 : n = R.length
  · rw [if_pos (beq_iff_eq.mpr c1)]
    exact wpS_pure (got n h1 h2 h3)
  rw [if_neg (fun z => c1 (beq_iff_eq.mp z))]
  rcases h4 with h4 | ⟨x, y, hx, hy, lt⟩
  · exact absurd h4 c1
  have nl : n < R.length := by omega
  have all : ∀ (i j : Nat) (u v : Keyed), i ≤ j → j < n → R[i]? = some u → R[j]? = some v → Lq κ u v := fun i j u v hij hj hu hv => by
    rcases Nat.lt_or_ge i j with c | c
    · obtain ⟨l1, g1⟩ := List.getElem?_eq_some_iff.mp hu
      obtain ⟨l2, g2⟩ := List.getElem?_eq_some_iff.mp hv
      have q := List.pairwise_iff_getElem.mp h3 i j (by rw [List.length_take]; omega) (by rw [List.length_take]; omega) c
      rw [List.getElem_take, List.getElem_take, g1, g2] at q
      exact q
    · have : i = j := by omega
      subst this
      rw [hu] at hv
      cases hv
      exact KeyOrd.kle_refl _
  by_cases c2 : n > 1
  case' pos =>
    rw [if_pos c2]
    obtain ⟨x0, hx0⟩ : ∃ x, R[0]? = some x := ⟨_, List.getElem?_eq_getElem (by omega)⟩
    refine wpS_bind (wpS_ltR hO hk ka e hx0 hy rfl (by omega) ?_)
    try dsimp only
    cases rose : κ.blt (kk κ x0) (kk κ y) with
    | true => exact wpS_pure (got n h1 h2 h3)
    | false => ?_
    try dsimp only
    rw [if_neg (by decide)]
    have al : ∀ z ∈ R.take n, kk κ z = kk κ x0 := fun z hz => by
      obtain ⟨k, hk'⟩ := List.mem_iff_getElem?.mp hz
      have kn : k < n := by
        have := (List.getElem?_eq_some_iff.mp hk').1
        rw [List.length_take] at this
        omega
      rw [List.getElem?_take_of_lt kn] at hk'
      have a1 := all 0 k x0 z (by omega) kn hx0 hk'
      have a2 := all k (n - 1) z y (by omega) (by omega) hk' hy
      exact KeyOrd.kle_antisymm (O := κ.toKeyOrd) (KeyOrd.kle_trans (O := κ.toKeyOrd) a2 rose) a1
    have eq0 : Eqs κ R n (n - 1) := ⟨[], R.take n, R.drop n, kk κ x0, by simp, by rw [List.length_take]; simp; omega, by rw [List.length_take]; omega, al⟩
    have ni0 : NI κ R n := by
      unfold NI
      rw [← List.map_take]
      refine List.pairwise_map.mpr (List.Pairwise.imp_of_mem (R := fun _ _ => True) (fun {u v} hu hv _ => ?_) (List.pairwise_of_forall fun _ _ => trivial))
      rw [al u hu, al v hv]
      exact κ.irrefl _
    have ni1 : NI κ R (n + 1) := ni0.snoc h1 hy hx (KeyOrd.kle_of_klt lt)
    refine wpS_bind (wpS_turn (κ := κ) e eq0 (by omega) rfl fun st1 L0 kp1 e1 p1 m1 _ => ?_)
    have niL : NI κ L0 (n + 1) := by
      unfold NI at ni1 ⊢
      rw [m1]
      exact ni1
  case' neg =>
    rw [if_neg c2]
    have n1 : n = 1 := by omega
    have ni1 : NI κ R (n + 1) := by
      refine NI.snoc h1 ?_ hy hx (KeyOrd.kle_of_klt lt)
      rw [n1]
      unfold NI
      cases R with
      | nil => simp
      | cons => simp
    have kp1 : Kp st st := ⟨rfl, rfl, rfl⟩
    have e1 := e
    have p1 := List.Perm.refl R
    have niL := ni1
  all_goals
    refine wpS_bind (wpS_rule ?_)
    have n2 : 2 ≤ n + 1 := by omega
    refine wpS_bind (wpS_mono (wpS_forRange (I := fun i c st' => ∃ L m, c = (none, i, m) ∧ Kp st st' ∧ (arrOf st').toList = P ++ L ∧ L.Perm R ∧ NI κ L i ∧ Eqs κ L i m ∧ 2 ≤ i)
      (Q := fun c st' => ∃ n' L m, c = (none, n', m) ∧ Kp st st' ∧ (arrOf st').toList = P ++ L ∧ L.Perm R ∧ NI κ L n' ∧ Eqs κ L n' m ∧ 2 ≤ n' ∧ n' ≤ R.length) ?ds ?de ⟨_, 0, rfl, kp1, e1, p1, niL, ?i0, n2⟩) ?dp)
    case i0 =>
      exact eqs_one (by rw [p1.length_eq]; omega)
    case de =>
      rintro c st' ⟨L, m, rfl, kp, eL, pL, ni, eq, g1⟩
      have : max (n + 1) R.length = R.length := by omega
      rw [this] at ni eq g1 ⊢
      exact ⟨_, L, m, rfl, kp, eL, pL, ni, eq, g1, Nat.le_refl _⟩
    case ds =>
      rintro i c st' hi1 hi2 ⟨L, m, rfl, kp, eL, pL, ni, eq, g1⟩
      have hi3 : i < L.length := by rw [pL.length_eq]; exact hi2
      have ex := List.getElem?_eq_getElem hi3
      have ey := List.getElem?_eq_getElem (show i - 1 < L.length by omega)
      have kL : ∀ x ∈ L, Kd κ x := fun x hx => ka x (pL.mem_iff.mp hx)
      have hk' := kp.kind.trans hk
      try dsimp only
      refine wpS_bind (wpS_ltR hO hk' kL eL ex ey rfl (by omega) ?_)
      try dsimp only
      cases c : κ.blt (kk κ L[i]) (kk κ L[i - 1]) with
      | true =>
        rw [if_pos rfl]
        by_cases hm : m > 0
        · rw [if_pos hm]
          refine wpS_bind (wpS_turn (κ := κ) eL eq rfl rfl fun st6 L6 kp6 e6 p6 m6 g6 => wpS_pure ⟨L6, 0, rfl, kp.trans kp6, e6, p6.trans pL, ?_, eqs_one (by rw [p6.length_eq]; omega), by omega⟩)
          have := ni.snoc (by omega) ey ex (KeyOrd.kle_of_klt c)
          unfold NI at this ⊢
          rw [m6]
          exact this
        · rw [if_neg hm]
          exact wpS_pure ⟨L, 0, rfl, kp, eL, pL, ni.snoc (by omega) ey ex (KeyOrd.kle_of_klt c), eqs_one (by omega), by omega⟩
      | false =>
        rw [if_neg (by decide)]
        refine wpS_bind (wpS_ltR hO hk' kL eL ey ex (by omega) rfl ?_)
        try dsimp only
        cases c' : κ.blt (kk κ L[i - 1]) (kk κ L[i]) with
        | true => exact wpS_pure ⟨i, L, m, rfl, kp, eL, pL, ni, eq, g1, by omega⟩
        | false => exact wpS_pure ⟨L, m + 1, rfl, kp, eL, pL, ni.snoc (by omega) ey ex c', eq.more ey ex (κ.total _ _ c c'), by omega⟩
    case dp =>
      rintro c st' ⟨n', L, m, rfl, kp, eL, pL, ni, eq, g1, g2⟩
      try dsimp only
      by_cases hm : m > 0
      case' pos =>
        rw [if_pos hm]
        refine wpS_bind (wpS_turn (κ := κ) eL eq rfl rfl fun st6 L6 kp6' e6 p6' m6 g6 => ?_)
        have kp6 := kp.trans kp6'
        have p6 := p6'.trans pL
        have ni6 : NI κ L6 n' := by
          unfold NI at ni ⊢
          rw [m6]
          exact ni
      case' neg =>
        rw [if_neg hm]
        have kp6 := kp
        have e6 := eL
        have p6 := pL
        have ni6 := ni
      all_goals
        refine wpS_back (κ := κ) kp6 e6 p6 g2 ni6 fun st7 M kp7 e7 p7 s7 => ?_
        have rl := p7.length_eq
        have kM : ∀ x ∈ M, Kd κ x := fun x hx => ka x (p7.mem_iff.mp hx)
        refine wpS_bind (wpS_asc (κ := κ) (R := M) rl.symm (by omega) (by omega) s7 (fun m x y i Q' h1 hx hy ht hf => ?_) fun m h1 h2 h3 _ => ?_)
        · try dsimp only
          refine wpS_bind (wpS_ltR hO (kp7.kind.trans hk) kM e7 hx hy rfl (by omega) ?_)
          cases c : κ.blt (kk κ x) (kk κ y) with
          | true => exact wpS_pure (ht c)
          | false => exact wpS_pure (hf c)
        · have q := h st7 (M.take m) (M.drop m) kp7 (by rw [List.take_append_drop]; exact e7) h3 (by rw [List.take_append_drop]; exact p7) (by rw [List.length_take]; omega)
          rw [List.length_take, Nat.min_eq_left h2] at q
          exact wpS_pure q
end
end So
set_option Elab.async false
set_option linter.all false
set_option maxRecDepth 100000
namespace So
open PySem PyProof.Rows
theorem bubble_list {arr : Array Keyed} {B V W : List Keyed} {x : Keyed} (e : arr.toList = B ++ (V ++ x :: W)) : (bubble arr (B.length + V.length) V.length).toList = B ++ (x :: (V ++ W)) := by
  have sz : arr.size = B.length + (V.length + (W.length + 1)) := by
    have := congrArg List.length e
    simpa using this
  apply List.ext_getElem?
  intro k
  have q := getElem?_bubble (xs := arr) (src := B.length + V.length) (by omega) V.length (by omega) k
  rw [Nat.add_sub_cancel] at q
  have ga : ∀ i, arr[i]? = (B ++ (V ++ x :: W))[i]? := fun i => by rw [← e, Array.getElem?_toList]
  rw [Array.getElem?_toList, q, ga, ga, ga]
  by_cases c1 : k = B.length
  · rw [if_pos c1]
    subst c1
    simp
  rw [if_neg c1]
  by_cases c2 : B.length < k ∧ k ≤ B.length + V.length
  · rw [if_pos c2, List.getElem?_append_right (by omega), List.getElem?_append_left (by omega), List.getElem?_append_right (by omega)]
    have : k - B.length = (k - 1 - B.length) + 1 := by omega
    rw [this, List.getElem?_cons_succ, List.getElem?_append_left (by omega)]
  rw [if_neg c2]
  by_cases c3 : k < B.length
  · rw [List.getElem?_append_left c3, List.getElem?_append_left c3]
  · rw [List.getElem?_append_right (by omega), List.getElem?_append_right (by omega), List.getElem?_append_right (by omega)]
    have e1 : k - B.length - V.length = (k - B.length - V.length - 1) + 1 := by omega
    have e2 : k - B.length = (k - B.length - 1) + 1 := by omega
    rw [e1, List.getElem?_cons_succ, e2, List.getElem?_cons_succ, List.getElem?_append_right (by omega)]
    congr 1
    omega
section
variable {prog : Program} {w : World} {A : Around} {E : Value → Shared → Prop} {s : Shared} {κ : KeyKind} {kd : SortKind}
theorem wpS_binAt (hO : LtS prog w A E s κ kd) {st : SortSt} {P D S : List Keyed} {ok n : Nat} {Q : Bool → SortSt → Prop} (hn : n = D.length) (hk : kindOf st = kd) (ka : ∀ x ∈ D, Kd κ x) (e : (arrOf st).toList = P ++ (D ++ S)) (h1 : 1 ≤ ok) (h2 : ok ≤ D.length) (hs : (D.take ok).Pairwise (Lq κ))
    (h : ∀ st' X, Kp st st' → (arrOf st').toList = P ++ (X ++ S) → X.Pairwise (Lq κ) → X.Perm D → Q true st') : wpS (model prog w) A E s (binarySort' P.length n ok) Q st := by
  subst hn
  unfold binarySort'
  refine wpS_open ?_
  try dsimp only
  have mx : max ok 1 = ok := by omega
  rw [mx]
  refine wpS_bind (wpS_mono (wpS_forRange (I := fun k c st' => c = (none, ()) ∧ Kp st st' ∧ ∃ X, (arrOf st').toList = P ++ (X ++ S) ∧ X.Perm D ∧ (X.take k).Pairwise (Lq κ))
    (Q := fun c st' => c = (none, ()) ∧ Kp st st' ∧ ∃ X, (arrOf st').toList = P ++ (X ++ S) ∧ X.Perm D ∧ X.Pairwise (Lq κ)) ?s1 ?e1 ⟨rfl, ⟨rfl, rfl, rfl⟩, D, e, List.Perm.refl _, hs⟩) ?p1)
  case e1 =>
    rintro c st' ⟨rfl, kp, X, eX, pX, sX⟩
    rw [Nat.max_eq_right h2, List.take_of_length_le (by rw [pX.length_eq]; exact Nat.le_refl _)] at sX
    exact ⟨rfl, kp, X, eX, pX, sX⟩
  case p1 =>
    rintro c st' ⟨rfl, kp, X, eX, pX, sX⟩
    exact wpS_pure (h st' X kp eX sX pX)
  case s1 =>
    rintro k c st' hk1 hk2 ⟨rfl, kp, X, eX, pX, sX⟩
    have xl := pX.length_eq
    have kaX : ∀ x ∈ X ++ S, x ∈ X → Kd κ x := fun x _ hx => ka x (pX.mem_iff.mp hx)
    have hkx : k < X.length := by omega
    have ex := List.getElem?_eq_getElem hkx
    generalize X[k] = x at ex
    have eX' : (arrOf st').toList = P ++ X ++ S := by rw [eX, List.append_assoc]
    have lt : ∀ {i : Nat} {y : Keyed} {Q' : Option Bool → SortSt → Prop}, X[i]? = some y → Q' (some (κ.blt (kk κ x) (kk κ y))) st' → wpS (model prog w) A E s (ltAt' (P.length + k) (P.length + i)) Q' st' := fun {i y Q'} hy hq => by
      have il := (List.getElem?_eq_some_iff.mp hy).1
      rw [ltAt'_eq]
      refine wpS_bind (wpS_get ?_)
      exact wpS_bind (wpS_elem (at_R eX (by rw [List.getElem?_append_left hkx]; exact ex)) (wpS_bind (wpS_elem (at_R eX (by rw [List.getElem?_append_left il]; exact hy)) (wpS_lt hO (kp.kind.trans hk) (ka x (pX.mem_iff.mp (List.mem_of_getElem? ex))) (ka y (pX.mem_iff.mp (List.mem_of_getElem? hy))) hq))))
    have mono : ∀ {i j : Nat} {u v : Keyed}, i ≤ j → j < k → X[i]? = some u → X[j]? = some v → Lq κ u v := fun {i j u v} hij hj hu hv => by
      rcases Nat.lt_or_ge i j with c | c
      · obtain ⟨l1, g1⟩ := List.getElem?_eq_some_iff.mp hu
        obtain ⟨l2, g2⟩ := List.getElem?_eq_some_iff.mp hv
        have q := List.pairwise_iff_getElem.mp sX i j (by rw [List.length_take]; omega) (by rw [List.length_take]; omega) c
        rw [List.getElem_take, List.getElem_take, g1, g2] at q
        exact q
      · have : i = j := by omega
        subst this
        rw [hu] at hv
        cases hv
        exact KeyOrd.kle_refl _
    try dsimp only
    refine wpS_bind (wpS_mono (wpS_forRange (I := fun i c st'' => st'' = st' ∧ ∃ l r, c = (none, l, r) ∧ l ≤ r ∧ r ≤ k ∧ (∀ j u, j < l → X[j]? = some u → Lq κ u x) ∧ (∀ j u, r ≤ j → j < k → X[j]? = some u → Lq κ x u) ∧ r - l + i ≤ k)
      (Q := fun c st'' => st'' = st' ∧ ∃ l, c = (none, l, l) ∧ l ≤ k ∧ (∀ j u, j < l → X[j]? = some u → Lq κ u x) ∧ (∀ j u, l ≤ j → j < k → X[j]? = some u → Lq κ x u)) ?s2 ?e2 ⟨rfl, 0, k, rfl, by omega, by omega, fun j u z => absurd z (by omega), fun j u z z' => absurd z' (by omega), by omega⟩) ?p2)
    case e2 =>
      rintro c st'' ⟨rfl, l, r, rfl, a1, a2, a3, a4, a5⟩
      have : l = r := by omega
      subst this
      exact ⟨rfl, l, rfl, a2, a3, a4⟩
    case s2 =>
      rintro i c st'' _ hi ⟨rfl, l, r, rfl, a1, a2, a3, a4, a5⟩
      try dsimp only
      by_cases c : l ≥ r
      · rw [if_pos c]
        have : l = r := by omega
        subst this
        exact wpS_pure ⟨rfl, l, rfl, a2, a3, a4⟩
      · rw [if_neg c]
        have ml : (l + r) / 2 < X.length := by omega
        have em := List.getElem?_eq_getElem ml
        refine wpS_bind (lt em ?_)
        try dsimp only
        cases cc : κ.blt (kk κ x) (kk κ X[(l + r) / 2]) with
        | true => exact wpS_pure ⟨rfl, _, _, rfl, by omega, by omega, a3, fun j u hj hj2 hu => KeyOrd.kle_trans (KeyOrd.kle_of_klt cc) (mono hj hj2 em hu), by omega⟩
        | false => exact wpS_pure ⟨rfl, _, _, rfl, by omega, by omega, fun j u hj hu => KeyOrd.kle_trans (mono (show j ≤ (l + r) / 2 by omega) (by omega) hu em) cc, a4, by omega⟩
    case p2 =>
      rintro c st'' ⟨rfl, l, rfl, a2, a3, a4⟩
      try dsimp only
      have eX2 : X = X.take l ++ ((X.take k).drop l ++ x :: X.drop (k + 1)) := by
        obtain ⟨l1, g1⟩ := List.getElem?_eq_some_iff.mp ex
        have d1 : X.drop k = x :: X.drop (k + 1) := by rw [List.drop_eq_getElem_cons l1, g1]
        have t1 : X.take k = X.take l ++ (X.take k).drop l := by
          have q := (List.take_append_drop l (X.take k)).symm
          rw [List.take_take, Nat.min_eq_left a2] at q
          exact q
        rw [← d1, ← List.append_assoc, ← t1, List.take_append_drop]
      have lv : ((X.take k).drop l).length = k - l := by rw [List.length_drop, List.length_take]; omega
      have lu : (X.take l).length = l := by rw [List.length_take]; omega
      have mU : ∀ u ∈ X.take l, Lq κ u x := fun u hu => by
        obtain ⟨j, hj⟩ := List.mem_iff_getElem?.mp hu
        have jl := (List.getElem?_eq_some_iff.mp hj).1
        rw [lu] at jl
        rw [List.getElem?_take_of_lt jl] at hj
        exact a3 j u jl hj
      have mV : ∀ u ∈ (X.take k).drop l, Lq κ x u := fun u hu => by
        obtain ⟨j, hj⟩ := List.mem_iff_getElem?.mp hu
        have jl := (List.getElem?_eq_some_iff.mp hj).1
        rw [lv] at jl
        rw [List.getElem?_drop, List.getElem?_take_of_lt (by omega)] at hj
        exact a4 (l + j) u (by omega) (by omega) hj
      have sUV : (X.take l ++ (X.take k).drop l).Pairwise (Lq κ) := by
        have q := (List.take_append_drop l (X.take k)).symm
        rw [List.take_take, Nat.min_eq_left a2] at q
        rw [← q]
        exact sX
      generalize X.take l = U at *
      generalize (X.take k).drop l = V at *
      generalize X.drop (k + 1) = W at *
      subst eX2
      have eb : (arrOf st'').toList = (P ++ U) ++ (V ++ x :: (W ++ S)) := by rw [eX]; simp
      have bl := bubble_list eb
      have l1 : (P ++ U).length + V.length = P.length + k := by rw [List.length_append]; omega
      rw [l1] at bl
      have l2 : P.length + k - (P.length + l) = V.length := by omega
      have sp := List.pairwise_append.mp sUV
      refine wpS_bind ?_
      show wpS _ _ _ _ (moveDown' (P.length + k) (P.length + l)) _ _
      rw [moveDown'_eq]
      refine wpS_modify (wpS_pure ⟨rfl, ⟨kp.kind, kp.failed, kp.pend⟩, U ++ (x :: (V ++ W)), ?_, ?_, ?_⟩)
      · show (bubble (arrOf st'') (P.length + k) (P.length + k - (P.length + l))).toList = _
        rw [l2, bl]
        simp
      · refine List.Perm.trans (List.Perm.append_left _ ?_) pX
        exact (List.perm_middle).symm
      · have t : U ++ (x :: (V ++ W)) = (U ++ x :: V) ++ W := by simp
        rw [t, List.take_left' (by simp; omega), List.pairwise_append, List.pairwise_cons]
        refine ⟨sp.1, ⟨mV, sp.2.1⟩, fun u hu v hv => ?_⟩
        rcases List.mem_cons.mp hv with c | c
        · rw [c]; exact mU u hu
        · exact sp.2.2 u hu v c
end
end So
set_option Elab.async false
set_option linter.all false
set_option maxRecDepth 100000
namespace So
open PySem PyProof.Rows
/-! ### the runs that wait -/
def Pd (κ : KeyKind) : Nat → List (Nat × Nat × Nat) → List (List Keyed) → Prop
  | _, [], [] => True
  | a, p :: ps, r :: rs => p.1 = a ∧ p.2.1 = r.length ∧ 1 ≤ r.length ∧ r.Pairwise (Lq κ) ∧ Pd κ (a + r.length) ps rs
  | _, _, _ => False
section
variable {κ : KeyKind} {kd : SortKind}
theorem Pd.len : ∀ {a : Nat} {ps : List (Nat × Nat × Nat)} {rs : List (List Keyed)}, Pd κ a ps rs → ps.length = rs.length
  | _, [], [], _ => rfl
  | _, _ :: _, _ :: _, h => by simp [Pd.len h.2.2.2.2]
  | _, [], _ :: _, h => h.elim
  | _, _ :: _, [], h => h.elim
theorem Pd.snoc : ∀ {a : Nat} {ps : List (Nat × Nat × Nat)} {rs : List (List Keyed)} {p : Nat × Nat × Nat} {r : List Keyed}, Pd κ a ps rs → p.1 = a + rs.flatten.length → p.2.1 = r.length → 1 ≤ r.length → r.Pairwise (Lq κ) → Pd κ a (ps ++ [p]) (rs ++ [r])
  | _, [], [], p, r, _, h1, h2, h3, h4 => ⟨by simpa using h1, h2, h3, h4, trivial⟩
  | a, q :: ps, u :: rs, p, r, h, h1, h2, h3, h4 => ⟨h.1, h.2.1, h.2.2.1, h.2.2.2.1, Pd.snoc h.2.2.2.2 (by rw [h1]; simp; omega) h2 h3 h4⟩
  | _, [], _ :: _, _, _, h, _, _, _, _ => h.elim
  | _, _ :: _, [], _, _, h, _, _, _, _ => h.elim
theorem Pd.big : ∀ {a : Nat} {ps : List (Nat × Nat × Nat)} {rs : List (List Keyed)}, Pd κ a ps rs → rs.length ≤ rs.flatten.length
  | _, [], [], _ => by simp
  | _, _ :: _, r :: rs, h => by
    have := Pd.big h.2.2.2.2
    have := h.2.2.1
    rw [List.flatten_cons, List.length_append, List.length_cons]
    omega
  | _, [], _ :: _, h => h.elim
  | _, _ :: _, [], h => h.elim
/-- the power of a run is no matter -/
theorem Pd.modify (f : Nat × Nat × Nat → Nat × Nat × Nat) (hf : ∀ x, (f x).1 = x.1 ∧ (f x).2.1 = x.2.1) : ∀ {a : Nat} {ps : List (Nat × Nat × Nat)} {rs : List (List Keyed)} (i : Nat), Pd κ a ps rs → Pd κ a (ps.modify i f) rs
  | _, [], [], i, h => by cases i <;> exact h
  | _, p :: ps, r :: rs, 0, h => by
    rw [List.modify_zero_cons]
    exact ⟨(hf p).1.trans h.1, (hf p).2.trans h.2.1, h.2.2⟩
  | _, p :: ps, r :: rs, i + 1, h => by
    rw [List.modify_succ_cons]
    exact ⟨h.1, h.2.1, h.2.2.1, h.2.2.2.1, Pd.modify f hf i h.2.2.2.2⟩
  | _, [], _ :: _, _, h => h.elim
  | _, _ :: _, [], _, h => h.elim
/-- two runs beside one another become one -/
theorem Pd.two : ∀ {a : Nat} {ps : List (Nat × Nat × Nat)} {rs : List (List Keyed)} {i : Nat}, Pd κ a ps rs → i + 1 < rs.length →
    ∃ RL X Y RT pa pb, rs = RL ++ X :: Y :: RT ∧ RL.length = i ∧ ps[i]? = some (a + RL.flatten.length, X.length, pa) ∧ ps[i + 1]? = some (a + RL.flatten.length + X.length, Y.length, pb) ∧ 1 ≤ X.length ∧ 1 ≤ Y.length ∧ X.Pairwise (Lq κ) ∧ Y.Pairwise (Lq κ) ∧
      ∀ Z : List Keyed, Z.length = X.length + Y.length → Z.Pairwise (Lq κ) → Pd κ a ((ps.set i (a + RL.flatten.length, X.length + Y.length, pa)).eraseIdx (i + 1)) (RL ++ Z :: RT)
  | _, [], [], i, _, hi => by simp at hi
  | a, p :: q :: ps, X :: Y :: rs, 0, h, _ => by
    obtain ⟨h1, h2, h3, h4, h5, h6, h7, h8, h9⟩ := h
    refine ⟨[], X, Y, rs, p.2.2, q.2.2, rfl, rfl, ?_, ?_, h3, h7, h4, h8, fun Z hz sz => ?_⟩
    · simp
      rw [← h1, ← h2]
    · simp
      rw [← h5, ← h6]
    · refine ⟨by simp, hz.symm, by omega, sz, ?_⟩
      have : a + Z.length = a + X.length + Y.length := by omega
      rw [this]
      simpa using h9
  | a, [p], X :: Y :: rs, _, h, _ => h.2.2.2.2.elim
  | a, p :: ps, r :: rs, i + 1, h, hi => by
    obtain ⟨RL, X, Y, RT, pa, pb, e1, e2, e3, e4, e5, e6, e7, e8, e9⟩ := Pd.two (i := i) h.2.2.2.2 (by simpa using hi)
    refine ⟨r :: RL, X, Y, RT, pa, pb, by rw [e1]; rfl, by simp [e2], ?_, ?_, e5, e6, e7, e8, fun Z hz sz => ?_⟩
    · simpa [Nat.add_assoc] using e3
    · simpa [Nat.add_assoc] using e4
    · have q := e9 Z hz sz
      refine ⟨h.1, h.2.1, h.2.2.1, h.2.2.2.1, ?_⟩
      simpa [Nat.add_assoc] using q
  | _, _ :: _, [_], 0, _, hi => by simp at hi
  | _, [], _ :: _, _, h, _ => h.elim
  | _, _ :: _, [], _, h, _ => h.elim
end
structure Sv (kd : SortKind) (κ : KeyKind) (a0 : List Keyed) (st : SortSt) (rs : List (List Keyed)) (rest : List Keyed) : Prop where
  kind : kindOf st = kd
  failed : failedOf st = none
  arr : (arrOf st).toList = rs.flatten ++ rest
  pd : Pd κ 0 (pendingOf st).toList rs
  perm : (rs.flatten ++ rest).Perm a0
section
variable {prog : Program} {w : World} {A : Around} {E : Value → Shared → Prop} {s : Shared} {κ : KeyKind} {kd : SortKind}
theorem Sv.size {a0 : List Keyed} {st : SortSt} {rs : List (List Keyed)} {rest : List Keyed} (h : Sv kd κ a0 st rs rest) : (pendingOf st).size = rs.length := by
  have := h.pd.len
  simpa using this
theorem wpS_step (hO : LtS prog w A E s κ kd) {a0 : List Keyed} {st : SortSt} {rs : List (List Keyed)} {rest : List Keyed} {i : Nat} {Q : Bool → SortSt → Prop} (k0 : ∀ x ∈ a0, Kd κ x) (h : Sv kd κ a0 st rs rest) (hi : i + 1 < rs.length)
    (q : ∀ st' rs', Sv kd κ a0 st' rs' rest → rs'.length + 1 = rs.length → rs'.flatten.length = rs.flatten.length → Q true st') : wpS (model prog w) A E s (mergeAt' i) Q st := by
  obtain ⟨RL, X, Y, RT, pa, pb, e1, e2, e3, e4, e5, e6, e7, e8, e9⟩ := h.pd.two hi
  simp only [Nat.zero_add] at e3 e4 e9
  have ea : (arrOf st).toList = RL.flatten ++ (X ++ (Y ++ (RT.flatten ++ rest))) := by rw [h.arr, e1]; simp
  refine wpS_mergeAt hO h.kind h.failed (fun x hx => k0 x (h.perm.mem_iff.mp (by rw [← h.arr]; exact hx))) ea e7 e8 e5 e6 (by simpa using e3) (by simpa using e4) fun st' Z pz sz hk hf ha hp => ?_
  have zl : Z.length = X.length + Y.length := by rw [pz.length_eq, List.length_append]
  refine q st' (RL ++ Z :: RT) ⟨hk, hf, by rw [ha]; simp, ?_, ?_⟩ (by rw [e1]; simp; omega) (by rw [e1]; simp; omega)
  · rw [hp]
    have := e9 Z zl sz
    simpa using this
  · refine List.Perm.trans ?_ h.perm
    rw [e1]
    have t1 : (RL ++ Z :: RT).flatten ++ rest = RL.flatten ++ (Z ++ (RT.flatten ++ rest)) := by simp
    have t2 : (RL ++ X :: Y :: RT).flatten ++ rest = RL.flatten ++ ((X ++ Y) ++ (RT.flatten ++ rest)) := by simp
    rw [t1, t2]
    exact List.Perm.append_left _ (List.Perm.append_right _ pz)
end
end So
set_option Elab.async false
set_option linter.all false
set_option maxRecDepth 100000
namespace So
open PySem PyProof.Rows
section
variable {prog : Program} {w : World} {A : Around} {E : Value → Shared → Prop} {s : Shared} {κ : KeyKind} {kd : SortKind}
theorem wpS_runs (hO : LtS prog w A E s κ kd) {a0 : List Keyed} {st : SortSt} {Q : Unit → SortSt → Prop} (hk : kindOf st = kd) (hf : failedOf st = none) (hp : pendingOf st = #[]) (ha : (arrOf st).toList = a0) (k0 : ∀ x ∈ a0, Kd κ x)
    (h : ∀ st', (arrOf st').toList.Perm a0 → failedOf st' = none → (arrOf st').toList.Pairwise (Lq κ) → Q () st') : wpS (model prog w) A E s sortRuns' Q st := by
  have S0 : Sv kd κ a0 st [] a0 := ⟨hk, hf, by simpa using ha, by rw [hp]; trivial, by simp⟩
  have sz : (arrOf st).size = a0.length := by rw [← ha]; simp
  unfold sortRuns'
  refine wpS_open ?_
  refine wpS_bind (wpS_get ?_)
  dsimp only
  rw [sz]
  generalize (sortPriv% PySem.Builtin.minRun) a0.length a0.length 0 = mr
  refine wpS_bind (wpS_mono (wpS_forRange (I := fun x c st' => ∃ rs rest, c = (none, rs.flatten.length) ∧ Sv kd κ a0 st' rs rest ∧ x ≤ rs.flatten.length)
    (Q := fun c st' => ∃ rs lo, c = (none, lo) ∧ Sv kd κ a0 st' rs []) ?s1 ?e1 ⟨[], a0, rfl, S0, by simp⟩) ?p1)
  case e1 =>
    rintro c st' ⟨rs, rest, rfl, sv, hx⟩
    have l := sv.perm.length_eq
    rw [List.length_append] at l
    have : rest = [] := List.eq_nil_of_length_eq_zero (by omega)
    subst this
    exact ⟨rs, _, rfl, sv⟩
  case p1 =>
    rintro c st' ⟨rs, lo, rfl, sv⟩
    try dsimp only
    refine wpS_bind (wpS_mono (wpS_forRange (I := fun x c st' => c = (none, ()) ∧ ∃ rs, Sv kd κ a0 st' rs [] ∧ rs.length + x ≤ a0.length)
      (Q := fun c st' => c = (none, ()) ∧ ∃ rs, Sv kd κ a0 st' rs [] ∧ rs.length ≤ 1) ?s4 ?e4 ⟨rfl, rs, sv, ?i4⟩) ?p4)
    case i4 =>
      have b := sv.pd.big
      have l := sv.perm.length_eq
      rw [List.length_append] at l
      simp only [List.length_nil, Nat.add_zero] at l ⊢
      omega
    case e4 =>
      rintro c st'' ⟨rfl, rs, sv, hx⟩
      exact ⟨rfl, rs, sv, by omega⟩
    case p4 =>
      rintro c st'' ⟨rfl, rs, sv, hl⟩
      refine wpS_pure (h st'' ?_ sv.failed ?_)
      · rw [sv.arr]
        exact sv.perm
      · rw [sv.arr]
        have pd := sv.pd
        cases rs with
        | nil => simp
        | cons r rs =>
          have : rs = [] := List.eq_nil_of_length_eq_zero (by rw [List.length_cons] at hl; omega)
          subst this
          cases hq : (pendingOf st'').toList with
          | nil => rw [hq] at pd; exact pd.elim
          | cons p ps =>
            rw [hq] at pd
            simpa using pd.2.2.2.1
    case s4 =>
      rintro x c st'' _ hx ⟨rfl, rs, sv, hl⟩
      refine wpS_bind (wpS_get ?_)
      have ps := sv.size
      by_cases c1 : (pendingOf st'').size ≤ 1
      · rw [if_pos c1]
        exact wpS_pure ⟨rfl, rs, sv, by omega⟩
      · rw [if_neg c1]
        refine wpS_bind (wpS_step hO k0 sv ?_ fun st3 rs3 sv3 l3 _ => ?_)
        · have gen : ∀ b : Bool, (if b = true then (pendingOf st'').size - 2 - 1 else (pendingOf st'').size - 2) + 1 < rs.length := fun b => by
            cases b with
            | true => rw [if_pos rfl]; omega
            | false => rw [if_neg (by decide)]; omega
          exact gen _
        · exact wpS_pure ⟨rfl, rs3, sv3, by omega⟩
  case s1 =>
    rintro x c st1 _ hx ⟨rs, rest, rfl, sv, hxl⟩
    have l := sv.perm.length_eq
    rw [List.length_append] at l
    try dsimp only
    by_cases c1 : rs.flatten.length ≥ a0.length
    · rw [if_pos c1]
      have : rest = [] := List.eq_nil_of_length_eq_zero (by omega)
      subst this
      exact wpS_pure ⟨rs, _, rfl, sv⟩
    rw [if_neg c1]
    have kR : ∀ x ∈ rest, Kd κ x := fun x hx => k0 x (sv.perm.mem_iff.mp (by simp [hx]))
    have rl : a0.length - rs.flatten.length = rest.length := by omega
    rw [rl]
    refine wpS_bind (wpS_countAt hO sv.kind kR sv.arr (by omega) fun st3 X3 S3 kp3 e3 s3 p3 l3 => ?_)
    try dsimp only
    have fin : ∀ (n : Nat) (st4 : SortSt) (rs4 : List (List Keyed)) (X S : List Keyed), 1 ≤ X.length → n = X.length → X.Pairwise (Lq κ) → kindOf st4 = kd → failedOf st4 = none → (arrOf st4).toList = rs4.flatten ++ (X ++ S) → Pd κ 0 (pendingOf st4).toList rs4 → rs4.flatten.length = rs.flatten.length → (rs4.flatten ++ (X ++ S)).Perm a0 →
        ∃ rs' rest', ((none : Option Unit), rs.flatten.length + n) = (none, rs'.flatten.length) ∧ Sv kd κ a0 (setPending st4 ((pendingOf st4).push (rs.flatten.length, n, 0))) rs' rest' ∧ x + 1 ≤ rs'.flatten.length := by
      intro n st4 rs4 X S lX hn sX hk4 hf4 e4 pd4 fl pr
      subst hn
      have fl2 : (rs4 ++ [X]).flatten.length = rs.flatten.length + X.length := by
        rw [List.flatten_append, List.length_append, fl]
        simp
      refine ⟨rs4 ++ [X], S, by rw [fl2], ⟨hk4, hf4, by show (arrOf st4).toList = _; rw [e4]; simp, ?_, by simpa using pr⟩, by omega⟩
      show Pd κ 0 ((pendingOf st4).push (rs.flatten.length, X.length, 0)).toList (rs4 ++ [X])
      rw [Array.toList_push]
      exact pd4.snoc (by simp only [Nat.zero_add]; exact fl.symm) rfl lX sX
    have sv3 : Sv kd κ a0 st3 rs (X3 ++ S3) := ⟨kp3.kind.trans sv.kind, kp3.failed.trans sv.failed, e3, by rw [kp3.pend]; exact sv.pd, List.Perm.trans (List.Perm.append_left _ p3) sv.perm⟩
    by_cases cm : X3.length < mr
    case' pos =>
      rw [if_pos cm]
      have fl : min rest.length mr ≤ (X3 ++ S3).length := by rw [p3.length_eq]; omega
      have lx : X3.length ≤ min rest.length mr := by
        have := p3.length_eq
        rw [List.length_append] at this
        omega
      refine wpS_bind (wpS_rule (wpS_bind (wpS_binAt hO (P := rs.flatten) (D := (X3 ++ S3).take (min rest.length mr)) (S := (X3 ++ S3).drop (min rest.length mr)) (by rw [List.length_take]; omega) sv3.kind (fun x hx => kR x (p3.mem_iff.mp (List.mem_of_mem_take hx))) (by rw [List.take_append_drop]; exact e3) l3 (by rw [List.length_take]; omega) (by rw [List.take_take, Nat.min_eq_left lx, List.take_left]; exact s3) fun st4 X4 kp4 e4 s4 p4 => ?_)))
      have l4 : min rest.length mr = X4.length := by rw [p4.length_eq, List.length_take]; omega
      have sv4 : Sv kd κ a0 st4 rs (X4 ++ (X3 ++ S3).drop (min rest.length mr)) := ⟨kp4.kind.trans sv3.kind, kp4.failed.trans sv3.failed, e4, by rw [kp4.pend]; exact sv3.pd, by
        refine List.Perm.trans (List.Perm.append_left _ (List.Perm.append_right _ p4)) ?_
        rw [List.take_append_drop]
        exact sv3.perm⟩
      have l5 : 1 ≤ X4.length := by omega
      simp only [Bool.not_true, Bool.false_eq_true, if_false]
      generalize min rest.length mr = n at l4 sv4 ⊢
      generalize (X3 ++ S3).drop n = S4 at sv4 ⊢
    case' neg =>
      rw [if_neg cm]
      have l4 : X3.length = X3.length := rfl
      have sv4 := sv3
      have s4 := s3
      have l5 := l3
    all_goals
      refine wpS_bind (wpS_get ?_)
      split
      · refine wpS_bind (wpS_mono (wpS_forRange (I := fun _ c st' => c = (none, ()) ∧ ∃ rs', Sv kd κ a0 st' rs' _ ∧ rs'.flatten.length = rs.flatten.length) (Q := fun c st' => c = (none, ()) ∧ ∃ rs', Sv kd κ a0 st' rs' _ ∧ rs'.flatten.length = rs.flatten.length) ?_ (fun _ _ z => z) ⟨rfl, rs, sv4, rfl⟩) ?_)
        · rintro y c st5 _ _ ⟨rfl, rs5, sv5, f5⟩
          refine wpS_bind (wpS_get ?_)
          have ps := sv5.size
          by_cases cp : (pendingOf st5).size > 1
          · rw [if_pos cp]
            split
            · split
              · exact wpS_pure ⟨rfl, rs5, sv5, f5⟩
              · refine wpS_bind (wpS_step hO k0 sv5 (by show (pendingOf st5).size - 2 + 1 < rs5.length; omega) fun st6 rs6 sv6 _ f6 => ?_)
                exact wpS_pure ⟨rfl, rs6, sv6, f6.trans f5⟩
            · exact wpS_pure ⟨rfl, rs5, sv5, f5⟩
          · rw [if_neg cp]
            exact wpS_pure ⟨rfl, rs5, sv5, f5⟩
        · rintro c st5 ⟨rfl, rs5, sv5, f5⟩
          try dsimp only
          refine wpS_bind (wpS_modify (wpS_bind (wpS_modify (wpS_pure ?_))))
          exact fin _ (setPending st5 ((pendingOf st5).modify ((pendingOf st5).size - 1) fun x => (x.fst, x.2.fst, _))) rs5 _ _ l5 l4 s4 sv5.kind sv5.failed sv5.arr (by
            show Pd κ 0 ((pendingOf st5).modify _ _).toList rs5
            rw [Array.toList_modify]
            refine Pd.modify _ ?_ _ sv5.pd
            exact fun x => ⟨rfl, rfl⟩) f5 sv5.perm
      · exact wpS_bind (wpS_modify (wpS_pure (fin _ _ rs _ _ l5 l4 s4 sv4.kind sv4.failed sv4.arr sv4.pd rfl sv4.perm)))
end
end So
set_option Elab.async false
set_option linter.all false
set_option maxRecDepth 100000
namespace So
open PySem PyProof.Rows
section
variable {prog : Program} {w : World} {A : Around} {E : Value → Shared → Prop} {s : Shared} {κ : KeyKind}
theorem KK_at {xs : Array Keyed} {i : Nat} {p : Keyed} (e : xs[i]? = some p) : KK κ xs i = kk κ p := by
  unfold KK kk
  rw [e]
theorem sortedTo_of {xs : Array Keyed} (sx : xs.toList.Pairwise (Lq κ)) : SortedToK κ xs xs.size := fun i j hij hj => by
  have e1 := Array.getElem?_eq_getElem (show i < xs.size by omega)
  have e2 := Array.getElem?_eq_getElem hj
  rw [KK_at e1, KK_at e2]
  exact srt_at sx hij e1 e2
theorem LtS.of_one (hO : κ.OneLt) : LtS prog w A E s κ oneType' := by
  intro st x y Q hk hx hy h
  obtain ⟨a, ha⟩ := hx
  obtain ⟨b, hb⟩ := hy
  have e1 : kk κ x = a := by unfold kk; rw [ha]; rfl
  have e2 : kk κ y = b := by unfold kk; rw [hb]; rfl
  rw [e1, e2] at h
  rw [lt'_eq]
  refine wpS_bind (wpS_get ?_)
  rw [hk, keyLt'_oneType]
  refine wpS_bind (wpS_lift (wpAny_attempt (hO prog w A _ s x.1 y.1 a b ha hb ⟨rfl, ?_⟩)))
  exact wpS_pure h
theorem sort_any (hO : κ.OneLt) {a : Addr} {vs : List Value} {n : Nat} {P : Fin → Shared → Prop} (ho : s.heap.get? a = some (seqObj "list" vs.toArray n))
    (h0 : KeysOf κ (pairsOf vs)) (dist : (pairsOf vs).toList.Pairwise (fun p q => kk κ p ≠ kk κ q)) (hkk : ∀ v₁ v₂ rest, vs = v₁ :: v₂ :: rest → keyKind' (v₁ :: v₂ :: rest).toArray = pure oneType') (hz : vs.length ≤ sizeLine)
    (h : ∀ st' : SortSt, (arrOf st').Perm (pairsOf vs) → SortedToK κ (arrOf st') (pairsOf vs).size → P (.done (.ret .none)) { s with heap := sortedHeap s.heap a vs ((arrOf st').map (·.2)) }) :
    wpAny (model prog w) A (Builtin.«list.sort» ⟨[.ref a], []⟩) P E s := by
  rcases Nat.lt_or_ge vs.length 64 with c | c
  · exact list_sort_treeK hO ho h0 hkk c h
  obtain ⟨v₁, v₂, rest, rfl⟩ : ∃ v₁ v₂ rest, vs = v₁ :: v₂ :: rest := by
    match vs, c with
    | [], c => simp at c
    | [_], c => simp at c
    | v₁ :: v₂ :: rest, _ => exact ⟨v₁, v₂, rest, rfl⟩
  rw [list_sort_plain]
  have ha : a < s.heap.objs.size := Heap.lt_size ho
  refine wpAny_bind (listItems_at ho rfl ?_)
  refine wpAny_bind (listUpdate_at ho rfl ?_)
  obtain ⟨e1, ho1⟩ : ∃ e1, (s.heap.update a (Obj.mapSeq fun _ => #[])).get? a = some (seqObj "list" #[] e1) := ⟨_, get?_update_seq ho (fun _ => #[])⟩
  refine wpAny_bind (seqEpoch_at ho1 rfl (wpAny_bind (wpAny_newTuple (wpAny_bind (wpAny_newList (wpAny_holding ?_))))))
  have ho6 : (((s.heap.update a (Obj.mapSeq fun _ => #[])).push (seqObj "tuple" (v₁ :: v₂ :: rest).toArray 0)).push (seqObj "list" #[] 0)).get? a = some (seqObj "list" #[] e1) := by
    rw [Heap.get?_push_ne _ _ _ (by rw [size_push', Heap.size_update]; exact Nat.ne_of_lt (Nat.lt_succ_of_lt ha)), Heap.get?_push_ne _ _ _ (by rw [Heap.size_update]; exact Nat.ne_of_lt ha)]
    exact ho1
  show wpAny (model prog w) A _ P E { s with heap := ((s.heap.update a (Obj.mapSeq fun _ => #[])).push (seqObj "tuple" (v₁ :: v₂ :: rest).toArray 0)).push (seqObj "list" #[] 0) }
  dsimp only
  have h2 : ¬ (v₁ :: v₂ :: rest).toArray.size < 2 := by simp
  rw [if_neg h2, if_neg h2, hkk _ _ _ rfl]
  refine wpAny_bind (wpAny_pure ?_)
  refine wpAny_bind (wpAny_mono (wpS_runs (κ := κ) (LtS.of_one hO) (a0 := (pairsOf (v₁ :: v₂ :: rest)).toList) (st := SortSt.mk' oneType' ((v₁ :: v₂ :: rest).toArray.zip (v₁ :: v₂ :: rest).toArray) #[] 7 none)
    (Q := fun _ st' => (arrOf st').Perm (pairsOf (v₁ :: v₂ :: rest)) ∧ failedOf st' = none ∧ SortedToK κ (arrOf st') (pairsOf (v₁ :: v₂ :: rest)).size)
    rfl rfl rfl rfl (fun x hx => h0 x hx) fun st' pr fl sr => ⟨Array.perm_iff_toList_perm.mpr pr, fl, ?_⟩) ?_ fun _ _ e => e)
  · have q := sortedTo_of sr
    have z : (arrOf st').size = (pairsOf (v₁ :: v₂ :: rest)).size := by
      have := pr.length_eq
      simpa using this
    rw [← z]
    exact q
  rintro ⟨⟨⟩, st'⟩ s' ⟨rfl, hp, hf, hs⟩
  dsimp only
  refine wpAny_bind (seqEpoch_at ho6 rfl ?_)
  refine wpAny_bind (listUpdate_at ho6 rfl ?_ (hsz2 := by refine Nat.le_trans (Nat.le_of_eq ((Array.size_map ..).trans (hp.size_eq.trans (pairsOf_size _)))) (Nat.le_succ_of_le hz)))
  rw [hf]
  simp only [bne_self_eq_false, Bool.false_eq_true, if_false]
  exact wpAny_pure (h st' hp hs)
end
end So
set_option Elab.async false
set_option linter.all false
set_option maxRecDepth 100000
namespace Sw
open PySem L2 XH PySem.NumText
/-! ### texts and their signs -/
def sL (z : Str) : List Nat := z.cps.toList
def mkS (l : List Nat) : Str := ⟨l.toArray⟩
theorem sL_len (z : Str) : (sL z).length = z.length := by simp [sL, Str.length]
theorem sL_app (x y : Str) : sL (x ++ y) = sL x ++ sL y := by
  show (x.cps ++ y.cps).toList = _
  rw [Array.toList_append]
  rfl
theorem in_one (z : Str) (c : Nat) : (!(Builtin.Str.occurrences z (mkS [c]) 0 z.length 1).isEmpty) = decide (c ∈ sL z) := StrLaws.found_one z c
/-! ### a text split at a sign -/
/-! ### promises -/
end Sw
namespace Sw
open PySem L2 XH PySem.NumText
theorem nnT {b : Bool} {A B : Prop} (h1 : b = false → A) (h2 : b = true → B) : if (!b) = true then A else B := by
  cases b with
  | false => exact iteT (h1 rfl)
  | true => exact iteF (h2 rfl)
end Sw
namespace Sw
open PySem L2 XH PySem.NumText
end Sw
namespace Sw
open PySem L2 XH PySem.NumText
end Sw
namespace Sw
open PySem L2 XH PySem.NumText
theorem atI_in {xs : List V} {i : Int} (h0 : 0 ≤ i) (h : i < (xs.length : Int)) : ∃ v ∈ xs, atI xs i = some v := by
  have hk : i.toNat < xs.length := by omega
  have ek : i = ((i.toNat : Nat) : Int) := by omega
  refine ⟨xs[i.toNat], List.getElem_mem hk, ?_⟩
  have q : atI xs ((i.toNat : Nat) : Int) = some xs[i.toNat] := atI_nat (List.getElem?_eq_getElem hk)
  rw [← ek] at q
  exact q
theorem atI_inN {xs : List Nat} {i : Int} (h0 : 0 ≤ i) (h : i < (xs.length : Int)) : ∃ v, atI xs i = some v := by
  have hk : i.toNat < xs.length := by omega
  have ek : i = ((i.toNat : Nat) : Int) := by omega
  refine ⟨xs[i.toNat], ?_⟩
  have q : atI xs ((i.toNat : Nat) : Int) = some xs[i.toNat] := atI_nat (List.getElem?_eq_getElem hk)
  rw [← ek] at q
  exact q
end Sw
namespace Sw
open PySem L2 XH PySem.NumText
end Sw
set_option Elab.async false
set_option linter.all false
set_option maxRecDepth 100000
namespace L2
open PySem PySem.Spec PyProof.Rows XH
theorem call_lenK {X : Cx} : CallR X (.builtin "len") (fun xs H Q => ∃ a kvs, xs = [.ref a] ∧ Rd H a (.dK kvs) ∧ Q (.int kvs.length) H) := by
  intro pins s σ H xs us Q I r h
  obtain ⟨a, kvs, rfl, e, q⟩ := h
  obtain ⟨u, rfl, r1⟩ := vals1 r
  cases r1
  exact d_len I e fun t s' I' => ⟨.int kvs.length, H, I', ⟨t, rfl⟩, q⟩
end L2
namespace Sw
open PySem L2
/-! ### what parts lead to -/
/-- y can be come to from x by pairs -/
inductive Led (ps : List (Str × Str)) (x : Str) : Str → Prop where
  | self : Led ps x x
  | step {y z : Str} : Led ps x y → (y, z) ∈ ps → Led ps x z
theorem Led.closed {ps : List (Str × Str)} {x y : Str} {S : Str → Prop} (hx : S x) (hc : ∀ a b, S a → (a, b) ∈ ps → S b) (l : Led ps x y) : S y := by
  induction l with
  | self => exact hx
  | step _ m ih => exact hc _ _ ih m
/-! ### dicts with one value for all keys -/
def mapK (ks : List Str) (v : V) : List (Key × V) := ks.map fun y => (.inr y, v)
def addS (ks : List Str) (y : Str) : List Str := if y ∈ ks then ks else ks ++ [y]
theorem mapK_len (ks : List Str) (v : V) : (mapK ks v).length = ks.length := List.length_map _
theorem mapK_any (ks : List Str) (v : V) (y : Str) : ((mapK ks v).any fun kv => decide (kv.1 = (.inr y : Key))) = decide (y ∈ ks) := by
  unfold mapK
  rw [Bool.eq_iff_iff]
  simp
theorem mapK_val (ks : List Str) (v : V) (y : Str) : valV (mapK ks v) (.inr y) = if y ∈ ks then some v else none := by
  induction ks with
  | nil => rfl
  | cons k ks ih =>
    by_cases e : k = y
    · subst e
      rw [if_pos (by simp)]
      exact valV_pos rfl
    · have n : ¬ ((.inr k : Key) = .inr y) := fun z => e (Sum.inr.inj z)
      have h : valV (mapK (k :: ks) v) (.inr y) = valV (mapK ks v) (.inr y) := valV_neg n
      rw [h, ih]
      simp [Ne.symm e, show ¬ y = k from fun z => e z.symm]
theorem mapK_put (ks : List Str) (v : V) (y : Str) : putK (mapK ks v) (.inr y) v = mapK (addS ks y) v := by
  unfold putK addS
  rw [mapK_any]
  by_cases h : y ∈ ks
  · rw [if_pos (decide_eq_true h), if_pos h]
    unfold mapK
    rw [List.map_map]
    refine List.map_congr_left fun z hz => ?_
    show (if (.inr z : Key) = .inr y then ((.inr z : Key), v) else (.inr z, v)) = _
    split <;> rfl
  · rw [if_neg (by simpa using h), if_neg h]
    unfold mapK
    simp
theorem mem_addS {ks : List Str} {y z : Str} : z ∈ addS ks y ↔ z ∈ ks ∨ z = y := by
  unfold addS
  split
  · rename_i h
    constructor
    · exact .inl
    · rintro (k | rfl)
      · exact k
      · exact h
  · simp
theorem addS_nodup {ks : List Str} {y : Str} (h : ks.Nodup) : (addS ks y).Nodup := by
  unfold addS
  split
  · exact h
  · rename_i n
    rw [List.nodup_append]
    refine ⟨h, by simp, ?_⟩
    intro a ha b hb
    simp at hb
    subst hb
    exact fun e => n (e ▸ ha)
theorem addS_len (ks : List Str) (y : Str) : ks.length ≤ (addS ks y).length ∧ ((addS ks y).length = ks.length → y ∈ ks) ∧ (addS ks y).length ≤ ks.length + 1 := by
  unfold addS
  split
  · rename_i h
    exact ⟨Nat.le_refl _, fun _ => h, Nat.le_succ _⟩
  · simp
/-! ### how many of a list are not yet there -/
def lack (l ks : List Str) : Nat := (l.filter fun y => !decide (y ∈ ks)).length
theorem lack_le (l : List Str) {ks ks' : List Str} (h : ∀ y ∈ ks, y ∈ ks') : lack l ks' ≤ lack l ks := by
  unfold lack
  induction l with
  | nil => exact Nat.le_refl _
  | cons a l ih =>
    by_cases h1 : a ∈ ks
    · simp [h1, h a h1, ih]
    · by_cases h2 : a ∈ ks'
      · simp [h1, h2]; omega
      · simp [h1, h2]; omega
theorem lack_le_len (l ks : List Str) : lack l ks ≤ l.length := List.length_filter_le _ _
theorem lack_lt {l ks ks' : List Str} {y : Str} (h : ∀ z ∈ ks, z ∈ ks') (yl : y ∈ l) (n : y ∉ ks) (y' : y ∈ ks') : lack l ks' < lack l ks := by
  unfold lack
  induction l with
  | nil => simp at yl
  | cons a l ih =>
    have le := lack_le l h
    unfold lack at le
    by_cases e : a = y
    · subst e
      simp [n, y']
      omega
    · have yl' : y ∈ l := by
        rcases List.mem_cons.mp yl with z | z
        · exact absurd z.symm e
        · exact z
      have ih := ih yl'
      by_cases h1 : a ∈ ks
      · simp [h1, h a h1]; exact ih
      · by_cases h2 : a ∈ ks'
        · simp [h1, h2]; omega
        · simp [h1, h2]; exact ih
theorem addS_room {l ks : List Str} {y : Str} (yl : y ∈ l) : (addS ks y).length + lack l (addS ks y) ≤ ks.length + lack l ks := by
  by_cases h : y ∈ ks
  · unfold addS
    rw [if_pos h]
    exact Nat.le_refl _
  · have lt := lack_lt (ks' := addS ks y) (fun z hz => mem_addS.mpr (.inl hz)) yl h (mem_addS.mpr (.inr rfl))
    have := (addS_len ks y).2.2
    omega
/-! ### a list of pairs -/
structure PL (H : Hp) (l : Addr) (ps : List (Str × Str)) : Prop where
  ex : ∃ as : List Addr, as.length = ps.length ∧ H l = some (.lst (as.map V.ref)) ∧ ∀ (i : Nat) (a : Addr) (p : Str × Str), as[i]? = some a → ps[i]? = some p → H a = some (.tup [.str p.1, .str p.2])
theorem PL.same {H H' : Hp} {l : Addr} {ps : List (Str × Str)} (h : PL H l ps) (g : Same H H') : PL H' l ps := by
  obtain ⟨as, h1, h2, h3⟩ := h.ex
  exact ⟨as, h1, g _ _ h2, fun i a p e1 e2 => g _ _ (h3 i a p e1 e2)⟩
def spLed : Sp := fun vs H Q _ => ∃ (l : Addr) (good : Str) (ps : List (Str × Str)), vs = [.ref l, .str good] ∧ PL H l ps ∧ ps.length ≤ 1000 ∧
  ∀ (d : Addr) (H' : Hp) (ks : List Str), Same H H' → H' d = some (.dK (mapK ks (.bl true))) → ks.Nodup → (∀ y, y ∈ ks ↔ Led ps good y) → Q (.ref d) H'
end Sw
namespace Sw
open PySem L2
def lettT : Str := "abcdefghijklmnopqrstuvwxyz"
theorem lett_at {i : Int} (h0 : 0 ≤ i) (h : i < 26) : ∃ c, atI lettT.cps.toList i = some c := by
  refine atI_inN h0 ?_
  have e : lettT.cps.toList.length = 26 := by decide
  rw [e]
  exact h
end Sw
set_option Elab.async false
set_option linter.all false
set_option maxRecDepth 100000
namespace Sw
open PySem L2
/-! ### parts as a dict of dicts -/
def rowsAdd : List (Str × List Str) → Str → Str → List (Str × List Str)
  | [], x, y => [(x, [y])]
  | (a, ys) :: r, x, y => if a = x then (a, addS ys y) :: r else (a, ys) :: rowsAdd r x y
def InRow (rows : List (Str × List Str)) (x y : Str) : Prop := ∃ ys, (x, ys) ∈ rows ∧ y ∈ ys
theorem inRow_cons {a : Str} {ys : List Str} {r : List (Str × List Str)} {x y : Str} : InRow ((a, ys) :: r) x y ↔ (a = x ∧ y ∈ ys) ∨ InRow r x y := by
  constructor
  · rintro ⟨zs, h, k⟩
    rcases List.mem_cons.mp h with e | e
    · cases e; exact .inl ⟨rfl, k⟩
    · exact .inr ⟨zs, e, k⟩
  · rintro (⟨rfl, k⟩ | ⟨zs, h, k⟩)
    · exact ⟨ys, by simp, k⟩
    · exact ⟨zs, by simp [h], k⟩
theorem rowsAdd_in : ∀ (rows : List (Str × List Str)) (x y a b : Str), InRow (rowsAdd rows x y) a b ↔ InRow rows a b ∨ (a = x ∧ b = y)
  | [], x, y, a, b => by
    simp only [rowsAdd, inRow_cons]
    constructor
    · rintro (⟨rfl, k⟩ | ⟨_, h, _⟩)
      · exact .inr ⟨rfl, by simpa using k⟩
      · simp at h
    · rintro (⟨_, h, _⟩ | ⟨rfl, rfl⟩)
      · simp at h
      · exact .inl ⟨rfl, by simp⟩
  | (c, ys) :: r, x, y, a, b => by
    have ih := rowsAdd_in r x y a b
    unfold rowsAdd
    by_cases e : c = x
    · subst e
      rw [if_pos rfl, inRow_cons, inRow_cons, mem_addS]
      constructor
      · rintro (⟨rfl, k | rfl⟩ | h)
        · exact .inl (.inl ⟨rfl, k⟩)
        · exact .inr ⟨rfl, rfl⟩
        · exact .inl (.inr h)
      · rintro ((⟨rfl, k⟩ | h) | ⟨rfl, rfl⟩)
        · exact .inl ⟨rfl, .inl k⟩
        · exact .inr h
        · exact .inl ⟨rfl, .inr rfl⟩
    · rw [if_neg e, inRow_cons, inRow_cons, ih]
      constructor
      · rintro (h | h | h)
        · exact .inl (.inl h)
        · exact .inl (.inr h)
        · exact .inr h
      · rintro ((h | h) | h)
        · exact .inl h
        · exact .inr (.inl h)
        · exact .inr (.inr h)
theorem rowsAdd_keys : ∀ (rows : List (Str × List Str)) (x y : Str), (rowsAdd rows x y).map (·.1) = addS (rows.map (·.1)) x
  | [], x, y => by simp [rowsAdd, addS]
  | (c, ys) :: r, x, y => by
    have ih := rowsAdd_keys r x y
    unfold rowsAdd
    by_cases e : c = x
    · subst e
      rw [if_pos rfl]
      simp [addS]
    · rw [if_neg e]
      simp only [List.map_cons, ih]
      unfold addS
      have e' : ¬ x = c := fun z => e z.symm
      simp only [List.mem_cons, e', false_or]
      split <;> rfl
theorem rowsAdd_small {n : Nat} : ∀ {rows : List (Str × List Str)} (x y : Str), rows.length ≤ n → (∀ p ∈ rows, p.2.length ≤ n ∧ p.2.Nodup) → (rowsAdd rows x y).length ≤ n + 1 ∧ ∀ p ∈ rowsAdd rows x y, p.2.length ≤ n + 1 ∧ p.2.Nodup := by
  intro rows x y h1 h2
  have hl : (rowsAdd rows x y).length ≤ rows.length + 1 := by
    have := congrArg List.length (rowsAdd_keys rows x y)
    rw [List.length_map] at this
    have k := (addS_len (rows.map (·.1)) x).2.2
    rw [List.length_map] at k
    omega
  refine ⟨by omega, ?_⟩
  clear hl h1
  induction rows with
  | nil =>
    intro p hp
    simp [rowsAdd] at hp
    subst hp
    simp
  | cons a r ih =>
    obtain ⟨c, ys⟩ := a
    have ih := ih fun p hp => h2 p (by simp [hp])
    have hc := h2 (c, ys) (by simp)
    intro p hp
    unfold rowsAdd at hp
    split at hp
    · rcases List.mem_cons.mp hp with rfl | k
      · have := (addS_len ys y).2.2
        exact ⟨Nat.le_trans this (by have := hc.1; simp at this ⊢; omega), addS_nodup hc.2⟩
      · have := h2 p (by simp [k])
        exact ⟨by omega, this.2⟩
    · rcases List.mem_cons.mp hp with rfl | k
      · exact ⟨by have := hc.1; simp at this ⊢; omega, hc.2⟩
      · exact ih p k
structure RowsOk (rows : List (Str × List Str)) (ps : List (Str × Str)) : Prop where
  mem : ∀ a b, InRow rows a b ↔ (a, b) ∈ ps
  keys : (rows.map (·.1)).Nodup
  few : rows.length ≤ ps.length
  small : ∀ p ∈ rows, p.2.length ≤ ps.length ∧ p.2.Nodup
theorem RowsOk.nil : RowsOk [] [] := ⟨fun a b => ⟨fun ⟨_, h, _⟩ => by simp at h, fun h => by simp at h⟩, by simp, by simp, fun p hp => by simp at hp⟩
theorem RowsOk.add {rows : List (Str × List Str)} {ps : List (Str × Str)} (h : RowsOk rows ps) (p : Str × Str) : RowsOk (rowsAdd rows p.1 p.2) (ps ++ [p]) := by
  obtain ⟨k1, k2⟩ := rowsAdd_small p.1 p.2 h.few h.small
  refine ⟨fun a b => ?_, by rw [rowsAdd_keys]; exact addS_nodup h.keys, by simpa using k1, fun q hq => by simpa using k2 q hq⟩
  rw [rowsAdd_in, h.mem]
  obtain ⟨p1, p2⟩ := p
  simp
/-! ### as it lies in the heap -/
def DRows (H : Hp) : List (Str × List Str) → List Addr → Prop
  | [], [] => True
  | (_, ys) :: rows, r :: rs => H r = some (.dK (mapK ys (.bl true))) ∧ DRows H rows rs
  | _, _ => False
def topK : List (Str × List Str) → List Addr → List (Key × V)
  | (x, _) :: rows, r :: rs => (.inr x, .ref r) :: topK rows rs
  | _, _ => []
theorem DRows.len {H : Hp} : ∀ {rows : List (Str × List Str)} {rs : List Addr}, DRows H rows rs → rs.length = rows.length ∧ (topK rows rs).length = rows.length
  | [], [], _ => ⟨rfl, rfl⟩
  | _ :: _, _ :: _, h => by
    have := DRows.len h.2
    exact ⟨by simp [this.1], by simp [topK, this.2]⟩
  | [], _ :: _, h => h.elim
  | _ :: _, [], h => h.elim
theorem DRows.same {H H' : Hp} (g : Same H H') : ∀ {rows : List (Str × List Str)} {rs : List Addr}, DRows H rows rs → DRows H' rows rs
  | [], [], _ => trivial
  | _ :: _, _ :: _, h => ⟨g _ _ h.1, DRows.same g h.2⟩
  | [], _ :: _, h => h.elim
  | _ :: _, [], h => h.elim
theorem DRows.other {H : Hp} {a : Addr} {o : HO} : ∀ {rows : List (Str × List Str)} {rs : List Addr}, DRows H rows rs → a ∉ rs → DRows (upd H a o) rows rs
  | [], [], _, _ => trivial
  | _ :: _, r :: _, h, n => ⟨by rw [upd_ne (fun e => n (by simp [e]))]; exact h.1, DRows.other h.2 fun k => n (by simp [k])⟩
  | [], _ :: _, h, _ => h.elim
  | _ :: _, [], h, _ => h.elim
theorem DRows.at_some {H : Hp} {x y : Str} {w : V} : ∀ {rows : List (Str × List Str)} {rs : List Addr}, DRows H rows rs → rs.Nodup → valV (topK rows rs) (.inr x) = some w →
    ∃ r ys, w = .ref r ∧ r ∈ rs ∧ (x, ys) ∈ rows ∧ H r = some (.dK (mapK ys (.bl true))) ∧ DRows (upd H r (.dK (mapK (addS ys y) (.bl true)))) (rowsAdd rows x y) rs ∧ topK (rowsAdd rows x y) rs = topK rows rs
  | [], [], _, _, e => by cases e
  | (c, ys) :: rows, r :: rs, h, nd, e => by
    by_cases z : c = x
    · subst z
      have e' : valV (topK ((c, ys) :: rows) (r :: rs)) (.inr c) = some (.ref r) := valV_pos rfl
      rw [e'] at e
      cases e
      refine ⟨r, ys, rfl, by simp, by simp, h.1, ?_, ?_⟩
      · unfold rowsAdd
        rw [if_pos rfl]
        exact ⟨upd_same, h.2.other (List.nodup_cons.mp nd).1⟩
      · unfold rowsAdd
        rw [if_pos rfl]
        rfl
    · have n : ¬ ((.inr c : Key) = .inr x) := fun q => z (Sum.inr.inj q)
      have e' : valV (topK ((c, ys) :: rows) (r :: rs)) (.inr x) = valV (topK rows rs) (.inr x) := valV_neg n
      rw [e'] at e
      obtain ⟨r', ys', rfl, hr, hm, hH, hD, hT⟩ := DRows.at_some (y := y) h.2 (List.nodup_cons.mp nd).2 e
      refine ⟨r', ys', rfl, by simp [hr], by simp [hm], hH, ?_, ?_⟩
      · unfold rowsAdd
        rw [if_neg z]
        refine ⟨?_, hD⟩
        rw [upd_ne]
        · exact h.1
        · intro q
          exact (List.nodup_cons.mp nd).1 (q ▸ hr)
      · unfold rowsAdd
        rw [if_neg z]
        show _ :: _ = _ :: _
        rw [hT]
  | [], _ :: _, h, _, _ => h.elim
  | _ :: _, [], h, _, _ => h.elim
theorem DRows.at_none {H : Hp} {x y : Str} {p : Addr} : ∀ {rows : List (Str × List Str)} {rs : List Addr}, DRows H rows rs → valV (topK rows rs) (.inr x) = none →
    rowsAdd rows x y = rows ++ [(x, [y])] ∧ topK (rows ++ [(x, [y])]) (rs ++ [p]) = topK rows rs ++ [(.inr x, .ref p)] ∧ ∀ b, ¬ InRow rows x b
  | [], [], _, _ => ⟨rfl, rfl, fun b ⟨_, h, _⟩ => by simp at h⟩
  | (c, ys) :: rows, r :: rs, h, e => by
    have z : ¬ c = x := fun z => by
      subst z
      have e' : valV (topK ((c, ys) :: rows) (r :: rs)) (.inr c) = some (.ref r) := valV_pos rfl
      rw [e'] at e
      cases e
    have n : ¬ ((.inr c : Key) = .inr x) := fun q => z (Sum.inr.inj q)
    have e' : valV (topK ((c, ys) :: rows) (r :: rs)) (.inr x) = valV (topK rows rs) (.inr x) := valV_neg n
    rw [e'] at e
    obtain ⟨h1, h2, h3⟩ := DRows.at_none (y := y) (p := p) h.2 e
    refine ⟨?_, ?_, fun b hb => ?_⟩
    · unfold rowsAdd
      rw [if_neg z, h1]
      rfl
    · exact congrArg (((.inr c : Key), V.ref r) :: ·) h2
    · rcases inRow_cons.mp hb with ⟨q, _⟩ | k
      · exact z q
      · exact h3 b k
  | [], _ :: _, h, _ => h.elim
  | _ :: _, [], h, _ => h.elim
theorem DRows.snoc {H : Hp} {x : Str} {ys : List Str} {p : Addr} (e : H p = some (.dK (mapK ys (.bl true)))) : ∀ {rows : List (Str × List Str)} {rs : List Addr}, DRows H rows rs → DRows H (rows ++ [(x, ys)]) (rs ++ [p])
  | [], [], _ => ⟨e, trivial⟩
  | _ :: _, _ :: _, h => ⟨h.1, DRows.snoc e h.2⟩
  | [], _ :: _, h => h.elim
  | _ :: _, [], h => h.elim
structure DD (H : Hp) (d : Addr) (rows : List (Str × List Str)) : Prop where
  ex : ∃ rs : List Addr, DRows H rows rs ∧ H d = some (.dK (topK rows rs)) ∧ rs.Nodup ∧ d ∉ rs
theorem DD.same {H H' : Hp} {d : Addr} {rows : List (Str × List Str)} (h : DD H d rows) (g : Same H H') : DD H' d rows := by
  obtain ⟨rs, h1, h2, h3, h4⟩ := h.ex
  exact ⟨rs, h1.same g, g _ _ h2, h3, h4⟩
end Sw
set_option Elab.async false
set_option linter.all false
set_option maxRecDepth 100000
namespace Sw
open PySem L2
/-! ### all that is in a good, each with the one ahead of it -/
def optV : Option Str → V
  | none => .non
  | some p => .str p
def aheadK (es : List (Str × Option Str)) : List (Key × V) := es.map fun e => (.inr e.1, optV e.2)
def keysA (es : List (Str × Option Str)) : List Str := es.map (·.1)
theorem aheadK_len (es : List (Str × Option Str)) : (aheadK es).length = (keysA es).length := by simp [aheadK, keysA]
theorem ahead_val : ∀ (es : List (Str × Option Str)) (b : Str), (valV (aheadK es) (.inr b)).isSome = decide (b ∈ keysA es)
  | [], b => by simp [aheadK, keysA, valV]
  | (c, o) :: es, b => by
    by_cases e : c = b
    · subst e
      have : valV (aheadK ((c, o) :: es)) (.inr c) = some (optV o) := valV_pos rfl
      rw [this]
      simp [keysA]
    · have n : ¬ ((.inr c : Key) = .inr b) := fun z => e (Sum.inr.inj z)
      have h : valV (aheadK ((c, o) :: es)) (.inr b) = valV (aheadK es) (.inr b) := valV_neg n
      rw [h, ahead_val es b]
      have e' : ¬ b = c := fun z => e z.symm
      show decide (b ∈ keysA es) = decide (b ∈ c :: keysA es)
      rw [decide_eq_decide]
      simp [e']
theorem ahead_none {es : List (Str × Option Str)} {b : Str} (h : b ∉ keysA es) : valV (aheadK es) (.inr b) = none := by
  have := ahead_val es b
  rw [decide_eq_false h] at this
  cases e : valV (aheadK es) (.inr b) with
  | none => rfl
  | some => rw [e] at this; cases this
theorem ahead_put {es : List (Str × Option Str)} {b nm : Str} (h : b ∉ keysA es) : putK (aheadK es) (.inr b) (.str nm) = aheadK (es ++ [(b, some nm)]) := by
  rw [putK_new _ (ahead_none h)]
  simp [aheadK, optV]
theorem ahead_at {es : List (Str × Option Str)} (nd : (keysA es).Nodup) {i : Nat} {y : Str} {o : Option Str} (h : es[i]? = some (y, o)) : valV (aheadK es) (.inr y) = some (optV o) := by
  induction es generalizing i with
  | nil => simp at h
  | cons e es ih =>
    obtain ⟨c, oc⟩ := e
    cases i with
    | zero =>
      simp at h
      obtain ⟨rfl, rfl⟩ := h
      exact valV_pos rfl
    | succ i =>
      have hm : y ∈ keysA es := List.mem_map.mpr ⟨(y, o), List.mem_of_getElem? (by simpa using h), rfl⟩
      have nd' := List.nodup_cons.mp nd
      have n : ¬ ((.inr c : Key) = .inr y) := fun z => nd'.1 (by rw [Sum.inr.inj z]; exact hm)
      have hv : valV (aheadK ((c, oc) :: es)) (.inr y) = valV (aheadK es) (.inr y) := valV_neg n
      rw [hv]
      exact ih nd'.2 (by simpa using h)
structure ABase (ps : List (Str × Str)) (good : Str) (es : List (Str × Option Str)) : Prop where
  first : es[0]? = some (good, none)
  nd : (keysA es).Nodup
  led : ∀ y ∈ keysA es, Led ps good y
  par : ∀ (i : Nat) (y : Str) (o : Option Str), es[i]? = some (y, o) → (o = none → i = 0) ∧ ∀ p, o = some p → (p, y) ∈ ps ∧ ∃ j o', j < i ∧ es[j]? = some (p, o')
  room : (keysA es).length + lack (ps.map (·.2)) (keysA es) ≤ 1001
theorem ABase.start (ps : List (Str × Str)) (good : Str) (few : ps.length ≤ 1000) : ABase ps good [(good, none)] where
  first := rfl
  nd := by simp [keysA]
  led := fun y hy => by simp [keysA] at hy; subst hy; exact .self
  par := fun i y o h => by
    cases i with
    | zero => simp at h; exact ⟨fun _ => rfl, fun p hp => by rw [← h.2] at hp; cases hp⟩
    | succ i => simp at h
  room := by
    have := lack_le_len (ps.map (·.2)) (keysA [(good, none)])
    rw [List.length_map] at this
    show 1 + _ ≤ _
    omega
theorem keysA_snoc (es : List (Str × Option Str)) (b : Str) (o : Option Str) : keysA (es ++ [(b, o)]) = keysA es ++ [b] := by simp [keysA]
theorem ABase.add {ps : List (Str × Str)} {good : Str} {es : List (Str × Option Str)} (h : ABase ps good es) {nm b : Str} (hn : nm ∈ keysA es) (hb : b ∉ keysA es) (hp : (nm, b) ∈ ps) : ABase ps good (es ++ [(b, some nm)]) where
  first := by
    rw [List.getElem?_append_left]
    · exact h.first
    · exact (List.getElem?_eq_some_iff.mp h.first).1
  nd := by
    rw [keysA_snoc, List.nodup_append]
    refine ⟨h.nd, by simp, ?_⟩
    intro u hu v hv
    simp at hv
    subst hv
    exact fun z => hb (z ▸ hu)
  led := fun y hy => by
    rw [keysA_snoc] at hy
    rcases List.mem_append.mp hy with k | k
    · exact h.led y k
    · simp at k
      subst k
      exact .step (h.led nm hn) hp
  par := fun i y o hi => by
    by_cases c : i < es.length
    · rw [List.getElem?_append_left c] at hi
      obtain ⟨h1, h2⟩ := h.par i y o hi
      refine ⟨h1, fun p e => ?_⟩
      obtain ⟨k1, j, o', jl, ej⟩ := h2 p e
      exact ⟨k1, j, o', jl, by rw [List.getElem?_append_left (by omega)]; exact ej⟩
    · rw [List.getElem?_append_right (by omega)] at hi
      have e0 : i - es.length = 0 := by
        rcases Nat.eq_zero_or_pos (i - es.length) with z | z
        · exact z
        · rw [List.getElem?_eq_none (by simp; omega)] at hi; cases hi
      rw [e0] at hi
      simp at hi
      obtain ⟨rfl, rfl⟩ := hi
      refine ⟨(fun z => nomatch z), fun p e => ?_⟩
      cases e
      obtain ⟨q, hq, rfl⟩ := List.mem_map.mp hn
      obtain ⟨j, hj⟩ := List.mem_iff_getElem?.mp hq
      have jl := (List.getElem?_eq_some_iff.mp hj).1
      exact ⟨hp, j, q.2, by omega, by rw [List.getElem?_append_left jl]; exact hj⟩
  room := by
    have := addS_room (ks := keysA es) (show b ∈ ps.map (·.2) from List.mem_map.mpr ⟨_, hp, rfl⟩)
    have e : addS (keysA es) b = keysA es ++ [b] := if_neg hb
    rw [e] at this
    rw [keysA_snoc]
    exact Nat.le_trans this h.room
theorem ABase.good {ps : List (Str × Str)} {good : Str} {es : List (Str × Option Str)} (h : ABase ps good es) : good ∈ keysA es := List.mem_map.mpr ⟨(good, none), List.mem_of_getElem? h.first, rfl⟩
theorem same_upd {H H' : Hp} (g : Same H H') (a : Addr) (o : HO) : Same (upd H a o) (upd H' a o) := fun b u e => by
  by_cases z : b = a
  · subst z
    rw [upd_same] at e ⊢
    exact e
  · rw [upd_ne z] at e ⊢
    exact g b u e
theorem mapK_at {ys : List Str} {v x : V} {i : Nat} {k : Key} (h : (mapK ys v)[i]? = some (k, x)) : ∃ b, ys[i]? = some b ∧ k = .inr b := by
  unfold mapK at h
  rw [List.getElem?_map] at h
  cases e : ys[i]? with
  | none => rw [e] at h; cases h
  | some b => rw [e] at h; cases h; exact ⟨b, rfl, rfl⟩
structure AheadOk (ps : List (Str × Str)) (good : Str) (es : List (Str × Option Str)) : Prop where
  base : ABase ps good es
  all : ∀ y, y ∈ keysA es ↔ Led ps good y
def spAhead : Sp := fun vs H Q _ => ∃ (d : Addr) (good : Str) (rows : List (Str × List Str)) (ps : List (Str × Str)), vs = [.ref d, .str good] ∧ DD H d rows ∧ RowsOk rows ps ∧ ps.length ≤ 1000 ∧
  ∀ (ah : Addr) (H' : Hp) (es : List (Str × Option Str)), Same H H' → H' ah = some (.dK (aheadK es)) → AheadOk ps good es → Q (.ref ah) H'
/-- the row of a name -/
theorem row_of {H : Hp} {rows : List (Str × List Str)} {rs : List Addr} {ps : List (Str × Str)} {x : Str} (dr : DRows H rows rs) (nd : rs.Nodup) (ok : RowsOk rows ps) :
    (valV (topK rows rs) (.inr x) = none ∧ ∀ b, (x, b) ∉ ps) ∨ ∃ r ys, valV (topK rows rs) (.inr x) = some (.ref r) ∧ r ∈ rs ∧ H r = some (.dK (mapK ys (.bl true))) ∧ ys.length ≤ ps.length ∧ ys.Nodup ∧ ∀ b, b ∈ ys ↔ (x, b) ∈ ps := by
  cases e : valV (topK rows rs) (.inr x) with
  | none =>
    refine .inl ⟨rfl, fun b hb => ?_⟩
    exact (dr.at_none (y := x) (p := 0) e).2.2 b ((ok.mem x b).mpr hb)
  | some w =>
    obtain ⟨r, ys, rfl, hr, hm, hH, _, _⟩ := dr.at_some (y := x) nd e
    refine .inr ⟨r, ys, rfl, hr, hH, (ok.small _ hm).1, (ok.small _ hm).2, fun b => ?_⟩
    rw [← ok.mem]
    constructor
    · exact fun h => ⟨ys, hm, h⟩
    · rintro ⟨zs, hz, hb⟩
      have : zs = ys := by
        have inj : ∀ {l : List (Str × List Str)}, (l.map (·.1)).Nodup → ∀ {a b c}, (a, b) ∈ l → (a, c) ∈ l → b = c := by
          intro l
          induction l with
          | nil => intro _ a b c h; simp at h
          | cons p l ih =>
            intro nd a b c h1 h2
            have nd' := List.nodup_cons.mp nd
            rcases List.mem_cons.mp h1 with e1 | e1
            · rcases List.mem_cons.mp h2 with e2 | e2
              · rw [← e1] at e2; cases e2; rfl
              · exact absurd (List.mem_map.mpr ⟨(a, c), e2, by rw [← e1]⟩) nd'.1
            · rcases List.mem_cons.mp h2 with e2 | e2
              · exact absurd (List.mem_map.mpr ⟨(a, b), e1, by rw [← e2]⟩) nd'.1
              · exact ih nd'.2 e1 e2
        exact inj ok.keys hz hm
      rw [← this]
      exact hb
end Sw
set_option Elab.async false
set_option linter.all false
set_option maxRecDepth 100000
namespace Sw
open PySem L2
/-! ### a way down, kept from its end -/
structure Way (ps : List (Str × Str)) (good goal : Str) (c : List Str) : Prop where
  first : c[0]? = some good
  last : c.getLast? = some goal
  nd : c.Nodup
  pair : ∀ (i : Nat) (a b : Str), c[i]? = some a → c[i + 1]? = some b → (a, b) ∈ ps
  alone : goal = good → c = [good]
  few : c.length ≤ 1001
structure Back (ps : List (Str × Str)) (good goal : Str) (es : List (Str × Option Str)) (rc : List Str) (o : Option Str) : Prop where
  nd : rc.Nodup
  pair : ∀ (i : Nat) (a b : Str), rc[i]? = some a → rc[i + 1]? = some b → (b, a) ∈ ps
  first : rc.head? = some goal ∨ (rc = [] ∧ o = some goal)
  nxt : ∀ y, o = some y → ∃ (i : Nat) (oy : Option Str), es[i]? = some (y, oy) ∧ (∀ x ∈ rc, ∃ (j : Nat) (ox : Option Str), i < j ∧ es[j]? = some (x, ox)) ∧ (∀ a, rc.getLast? = some a → (y, a) ∈ ps) ∧ rc.length + i < es.length
  fin : o = none → rc.getLast? = some good
  alone : goal = good → rc = [] ∨ (rc = [good] ∧ o = none)
  few : rc.length ≤ es.length
theorem keysA_at {es : List (Str × Option Str)} {i : Nat} {y : Str} {o : Option Str} (h : es[i]? = some (y, o)) : (keysA es)[i]? = some y := by
  unfold keysA
  rw [List.getElem?_map, h]
  rfl
theorem nd_at {xs : List Str} (nd : xs.Nodup) {i j : Nat} {y : Str} (h1 : xs[i]? = some y) (h2 : xs[j]? = some y) : i = j := by
  obtain ⟨l1, e1⟩ := List.getElem?_eq_some_iff.mp h1
  obtain ⟨l2, e2⟩ := List.getElem?_eq_some_iff.mp h2
  exact (List.getElem_inj nd).mp (e1.trans e2.symm)
theorem ABase.at {ps : List (Str × Str)} {good : Str} {es : List (Str × Option Str)} (h : ABase ps good es) {i j : Nat} {y : Str} {o o' : Option Str} (h1 : es[i]? = some (y, o)) (h2 : es[j]? = some (y, o')) : i = j :=
  nd_at h.nd (keysA_at h1) (keysA_at h2)
theorem Back.start {ps : List (Str × Str)} {good goal : Str} {es : List (Str × Option Str)} (hg : goal ∈ keysA es) : Back ps good goal es [] (some goal) where
  nd := List.nodup_nil
  pair := fun i a b h => by simp at h
  first := .inr ⟨rfl, rfl⟩
  nxt := fun y e => by
    cases e
    obtain ⟨p, hp, rfl⟩ := List.mem_map.mp hg
    obtain ⟨i, hi⟩ := List.mem_iff_getElem?.mp hp
    refine ⟨i, p.2, hi, by simp, by simp, ?_⟩
    have := (List.getElem?_eq_some_iff.mp hi).1
    simpa using this
  fin := fun e => nomatch e
  alone := fun _ => .inl rfl
  few := by simp
theorem Back.step {ps : List (Str × Str)} {good goal : Str} {es : List (Str × Option Str)} (ab : ABase ps good es) {rc : List Str} {y : Str} {oy : Option Str} {i : Nat} (h : Back ps good goal es rc (some y)) (hi : es[i]? = some (y, oy)) : Back ps good goal es (rc ++ [y]) oy := by
  obtain ⟨i', oy', h1, h2, h3, h4⟩ := h.nxt y rfl
  obtain rfl := ab.at hi h1
  have par := ab.par i y oy hi
  have ny : y ∉ rc := fun m => by
    obtain ⟨j, ox, lt, e⟩ := h2 y m
    have := ab.at hi e
    omega
  refine ⟨?_, ?_, ?_, ?_, ?_, ?_, ?_⟩
  · rw [List.nodup_append]
    refine ⟨h.nd, by simp, ?_⟩
    intro u hu v hv
    simp at hv
    subst hv
    exact fun z => ny (z ▸ hu)
  · intro k a b ha hb
    by_cases c : k + 1 < rc.length
    · rw [List.getElem?_append_left (by omega)] at ha
      rw [List.getElem?_append_left c] at hb
      exact h.pair k a b ha hb
    · have kl : k + 1 < (rc ++ [y]).length := (List.getElem?_eq_some_iff.mp hb).1
      simp at kl
      have ke : k + 1 = rc.length := by omega
      rw [List.getElem?_append_right (by omega), ke] at hb
      simp at hb
      subst hb
      rw [List.getElem?_append_left (by omega)] at ha
      refine h3 a ?_
      rw [List.getLast?_eq_getElem?, ← ha]
      congr 1
      omega
  · rcases h.first with k | ⟨rfl, k⟩
    · left
      cases rc with
      | nil => simp at k
      | cons z zs => simpa using k
    · cases k
      left
      rfl
  · intro p e
    obtain ⟨hp, j, o', jl, ej⟩ := par.2 p e
    refine ⟨j, o', ej, ?_, ?_, ?_⟩
    · intro x hx
      rcases List.mem_append.mp hx with k | k
      · obtain ⟨j2, ox, lt, e2⟩ := h2 x k
        exact ⟨j2, ox, by omega, e2⟩
      · simp at k
        subst k
        exact ⟨i, oy, jl, hi⟩
    · intro a ha
      simp at ha
      subst ha
      exact hp
    · simp
      omega
  · intro e
    have i0 := par.1 e
    subst i0
    rw [ab.first] at hi
    cases hi
    simp
  · intro e
    subst e
    rcases h.alone rfl with rfl | ⟨_, k⟩
    · rcases h.first with k | ⟨_, k⟩
      · simp at k
      · cases k
        right
        have := ab.at hi ab.first
        subst this
        rw [ab.first] at hi
        cases hi
        exact ⟨rfl, rfl⟩
    · cases k
  · simp
    omega
theorem Back.way {ps : List (Str × Str)} {good goal : Str} {es : List (Str × Option Str)} (ab : ABase ps good es) {rc : List Str} (h : Back ps good goal es rc none) : Way ps good goal rc.reverse where
  first := by
    have := h.fin rfl
    rw [← List.head?_eq_getElem?, List.head?_reverse]
    exact this
  last := by
    rw [List.getLast?_reverse]
    rcases h.first with k | ⟨_, k⟩
    · exact k
    · cases k
  nd := by
    unfold List.Nodup
    rw [List.pairwise_reverse]
    exact h.nd.imp fun n => Ne.symm n
  pair := fun i a b ha hb => by
    have l : i + 1 < rc.reverse.length := (List.getElem?_eq_some_iff.mp hb).1
    rw [List.length_reverse] at l
    rw [List.getElem?_reverse (by omega)] at ha hb
    refine h.pair (rc.length - 1 - (i + 1)) b a hb ?_
    rw [← ha]
    congr 1
    omega
  alone := fun e => by
    rcases h.alone e with k | ⟨k, _⟩
    · subst k
      have := h.fin rfl
      simp at this
    · rw [k]
      rfl
  few := by
    rw [List.length_reverse]
    have := h.few
    have r := ab.room
    have l : (keysA es).length = es.length := by simp [keysA]
    omega
def optIx (es : List (Str × Option Str)) : Option (Option V) → Nat
  | some (some (.str y)) => (keysA es).idxOf y + 1
  | _ => 0
theorem optIx_at {ps : List (Str × Str)} {good : Str} {es : List (Str × Option Str)} (ab : ABase ps good es) {i : Nat} {y : Str} {o : Option Str} (h : es[i]? = some (y, o)) : optIx es (some (some (.str y))) = i + 1 := by
  show (keysA es).idxOf y + 1 = i + 1
  have hk := keysA_at h
  obtain ⟨l, e⟩ := List.getElem?_eq_some_iff.mp hk
  rw [← e, ab.nd.idxOf_getElem]
theorem optIx_lt {ps : List (Str × Str)} {good : Str} {es : List (Str × Option Str)} (ab : ABase ps good es) {i : Nat} {y : Str} {o : Option Str} (h : es[i]? = some (y, o)) : optIx es (some (some (optV o))) < optIx es (some (some (.str y))) := by
  rw [optIx_at ab h]
  cases o with
  | none => exact Nat.succ_pos _
  | some p =>
    obtain ⟨_, j, o', jl, ej⟩ := (ab.par i y _ h).2 p rfl
    show optIx es (some (some (.str p))) < _
    rw [optIx_at ab ej]
    omega
def spTo : Sp := fun vs H Q _ => ∃ (ah : Addr) (goal good : Str) (ps : List (Str × Str)) (es : List (Str × Option Str)), vs = [.ref ah, .str goal] ∧ H ah = some (.dK (aheadK es)) ∧ ABase ps good es ∧ goal ∈ keysA es ∧
  ∀ (l : Addr) (H' : Hp) (c : List Str), Same H H' → H' l = some (.lst (c.map V.str)) → Way ps good goal c → Q (.ref l) H'
end Sw
set_option Elab.async false
set_option linter.all false
set_option maxRecDepth 100000
namespace L2
open PySem PySem.Spec PyProof.Rows XH
section
variable {X : Cx} {scope : Scope} {cl : List (Str × Addr)} {own : Str} {ys : List Str} {js : List Nat} {elt iter cond : Expr} {px pos : Pos} {wi : TI} {te : TE} {tc : TT}
theorem ps_compIf {i : Nat} {y : Str} {py spos : Pos} (hN : X.N.Nodup) (hi' : X.N[i]? = some y) (hy : X.env.scope.names.lookup y = some .local) (hc : X.calm = true) (ok : CompOk X scope cl own ys js) (hi : PI X (.Name own px) iter wi)
    (hq : ∀ (C : Addr) (fp : List Addr) (s : Shared) (H : Hp), PT (X.block scope cl C (own :: ys) own fp s H) cond tc)
    (he : ∀ (C : Addr) (fp : List Addr) (s : Shared) (H : Hp), PE (X.block scope cl C (own :: ys) own fp s H) elt te)
    (hsw : swapsWith (.ListComp elt [⟨.Name own px, iter, [cond], 0⟩] scope pos) (some (.Name y py)) spos.line X.env = pure true := by rfl) (hs : ∀ x, foldedSetIterable iter X.env x = pure x := by intro _; rfl) :
    PS X (.Assign [.Name y py] (.ListComp elt [⟨.Name own px, iter, [cond], 0⟩] scope pos) spos) (tAsg (tCompIf wi js tc te) (gName i)) := by
  intro pins s σ H D I h
  have ncell : ∀ y ∈ scope.names, y.2 ≠ .cell := fun y hy z => by
    have q := List.all_eq_true.mp ok.nocell y hy
    rw [z] at q
    simp at q
  have nloc : ∀ y ∈ scope.names, y.2 = .local → scope.names.lookup y.1 = some .local := fun y hy z => by
    have q := List.all_eq_true.mp ok.loc y hy
    rw [z] at q
    simpa using q
  show wpAny _ _ (exec _ X.env) _ _ _
  rw [exec_Assign_Name_used _ _ _ _ hsw]
  refine wpAny_bind (wpAny_standAt (wpAny_bind ?_))
  show wpAny _ X.A (do let _ ← comprehension (.ListComp elt [⟨.Name own px, iter, [cond], 0⟩] scope pos) scope X.env _ (newList []) false (eval iter X.env) (some (assign (.Name y py) X.env))) _ _ s
  refine wpAny_bind (wpAny_mono (wpAny_comprehension_free (use := some (assign (.Name y py) X.env)) (Q := fun _ s' => SP X pins D .next s') rfl hs ok.clos ok.kind nloc (thn (hi pins s σ H _ I h) fun v s1 h1 => thn h1 fun itv s2 h2 => ?_)) (fun _ s' hq => wpAny_pure (wpAny_pure hq)) fun _ _ e => e)
  obtain ⟨it, fp, tn, J, H2, rfl, I2, T, st2, f2, q2⟩ := h2
  obtain ⟨W, ⟨m0, w0⟩, turn⟩ := q2 s2.heap.objs.size (I2.hok.fresh (Nat.le_refl _))
  refine wpAny_newObj_type (wpAny_newFunctionEnv ncell (by intro y hy; simp at hy) (fun h1 hns hsb => ?_) ok.kind)
  have I3 := I2.laid (a := s2.heap.objs.size) (o := .lst []) (h' := s2.heap.push { cls := .type "list", dict := none, data := .seq ([] : List Value).toArray }) (t' := s2.toks) (fun b u q => Heap.get?_push_of_some _ q) (Nat.le_refl _)
    ⟨Nat.zero_le _, [], 0, .nil, Heap.get?_push_size _ rfl⟩
  have fpo : ∀ b ∈ fp, b < s2.heap.objs.size := fun b hb => by
    obtain ⟨o, e, _⟩ := T.obj 0 _ st2 b hb
    exact Heap.lt_size e
  have f3 : ∀ b ∈ fp, FpOk X pins (upd H2 s2.heap.objs.size (.lst [])) b := fun b hb => ⟨by rw [upd_ne (Nat.ne_of_lt (fpo b hb))]; exact (f2 b hb).1, (f2 b hb).2⟩
  generalize hs3 : ({ s2 with heap := s2.heap.push { cls := .type "list", dict := none, data := .seq ([] : List Value).toArray }, toks := s2.toks } : Shared) = s3 at I3
  have e3 : s3.heap = s2.heap.push { cls := .type "list", dict := none, data := .seq ([] : List Value).toArray } := by rw [← hs3]
  have lt3 : ∀ b ∈ fp, b < s3.heap.objs.size := fun b hb => by rw [e3, Heap.size_push]; exact Nat.lt_succ_of_lt (fpo b hb)
  dsimp only at hns hsb ⊢
  rw [← e3] at hns hsb
  have hk : ∀ b o, s3.heap.get? b = some o → h1.get? b = some o := fun b o e => hsb.extBut b o (Nat.ne_of_lt (Heap.lt_size e)) (Heap.get?_push_of_some _ e)
  have J0 := block_start (h1 := h1) ok I3 f3 lt3 hns hk (s2.toks + 0)
  have t0 : tn 0 h1 := T.keep 0 _ _ st2 fun b hb o e => hk b o (by rw [e3]; exact Heap.get?_push_of_some _ e)
  have fpB : ∀ {H' : Hp}, (∀ b ∈ fp, H' b = none) → ∀ b ∈ fp, FpOk (X.block scope cl s3.heap.objs.size (own :: ys) own fp s3 (upd H2 s2.heap.objs.size (.lst []))) [] H' b := fun {H'} hn b hb =>
    ⟨hn b hb, Nat.ne_of_lt (lt3 b hb), fun z => (List.mem_cons.mp (I3.stkSub b z)).elim (f3 b hb).2.1 (f3 b hb).2.2.1, .inl hb, fun x c e => (f3 b hb).2.2.2.2.1 x c (ok.sub (x, c) (PySem.mem_of_lookup e)), fun p hp => absurd (show p ∈ ([] : List (Addr × Obj)) from hp) (by simp)⟩
  have loop : codeAny (model X.prog X.w) X.A (.compLoop (.ListComp elt [⟨.Name own px, iter, [cond], 0⟩] scope pos) 0 (.ref it) (.ref s2.heap.objs.size) (compEnvC scope cl s3.heap.objs.size X.env))
      (compPost (model X.prog X.w) X.A X.xe (some (assign (.Name y py) X.env)) (fun _ s' => SP X pins D .next s') (.ref s2.heap.objs.size) s3.heap.objs.size) { s3 with heap := h1, toks := s2.toks + 0 } := by
    refine compLoop_if (fun n s' => ∃ i zs o0 H', Inv (X.block scope cl s3.heap.objs.size (own :: ys) own fp s3 (upd H2 s2.heap.objs.size (.lst []))) [] (o0 :: freesOf js σ) H' s' ∧ tn i s'.heap ∧ (∀ b ∈ fp, H' b = none) ∧ W i n zs H') ?_ m0
      ⟨0, [], none, _, J0, t0, fun b hb => (f3 b hb).1, w0⟩
    rintro n s5 ⟨i, zs, o0, H5, I5, t5, n5, w5⟩
    obtain ⟨hD, hw⟩ := turn i n zs H5 w5
    rcases hw with ⟨stop, qn⟩ | ⟨go, hz, step⟩
    · refine thn (T.done (X.block scope cl s3.heap.objs.size (own :: ys) own fp s3 (upd H2 s2.heap.objs.size (.lst []))) rfl rfl rfl hc i [] s5 _ H5 (fun _ _ => False) I5 (fpB n5) t5 stop) fun r s6 ⟨hr, I6⟩ => ?_
      subst hr
      obtain ⟨m, hn, _⟩ := id I6.loc
      have J : Inv X pins σ H5 s6 := block_end (h' := s6.heap) I3 f3 I6 (Heap.SameBut.refl _ _)
      have fC := I3.fpOk (Nat.le_refl _) (show H5 s3.heap.objs.size = none from I6.free)
      obtain ⟨k0, k1, k2, k3, k4, k5⟩ := fC
      show wpAny _ X.A (assign (.Name y py) X.env (.ref s2.heap.objs.size)) _ _ _
      refine wpAny_assign_Name (store_ok2 (v := .ref s2.heap.objs.size) J hN hi' (.inl hy) rfl (fun s7 I7 hsb => ?_) (.inr hy))
      obtain ⟨a', sb, ha⟩ := hsb
      have ne : s3.heap.objs.size ≠ a' := by
        rcases ha with z | z
        · rw [z]; exact k1
        · exact fun w => k4 _ _ z w.symm
      exact ⟨m, hn.sameBut sb ne, fun h' hs' => ⟨_, H5, I7.turned (t' := s7.toks) (fun b o hb e => (hs'.2 b hb).trans e) k0 k1 k3 k4 k5, qn⟩⟩
    · refine thn (T.item (X.block scope cl s3.heap.objs.size (own :: ys) own fp s3 (upd H2 s2.heap.objs.size (.lst []))) rfl rfl rfl hc i [] s5 _ H5 (fun _ _ => False) I5 (fpB n5) t5 go) fun r s6 ⟨u, hr, h6⟩ => ?_
      subst hr
      refine thn h6 fun _ s7 ⟨x, H7, I7, r7, y7, t7, n7⟩ => ?_
      have I7' := I7.pinned (fpB n7) (T.obj _ _ t7)
      have hst := step x H7 y7
      have own' : (relabel scope X.env).names.lookup own = some .local := lookup_relabel_local ok.ownL
      refine thn (pg_name (X := X.block scope cl s3.heap.objs.size (own :: ys) own fp s3 (upd H2 s2.heap.objs.size (.lst []))) (i := 0) (x := own) (pos := px) ok.nd rfl (.inl own') (.inr own') _ s7 _ H7 x u (fun σ' H' => σ' = some x :: freesOf js σ ∧ H' = H7) I7' r7 ⟨rfl, rfl⟩) fun _ s8 ⟨σ8, H8, I8, e8, eH8⟩ => ?_
      subst e8 eH8
      refine thn (hq _ _ _ _ _ s8 _ H8 _ I8 hst) fun ok s9 ⟨H9, I9, h9⟩ => ?_
      have frame : ∀ {s' : Shared} {H' : Hp}, Inv (X.block scope cl s3.heap.objs.size (own :: ys) own fp s3 (upd H2 s2.heap.objs.size (.lst []))) ([] ++ pinsAt fp s7.heap) (some x :: freesOf js σ) H' s' → tn (i + 1) s'.heap ∧ ∀ b ∈ fp, H' b = none := fun {s' H'} I' =>
        ⟨T.keep _ _ _ t7 fun b hb o e => (I'.pin (b, o) (List.mem_append_right _ (List.mem_append_right _ (mem_pinsAt hb e)))).1, fun b hb => by
          obtain ⟨o, e, d⟩ := T.obj _ _ t7 b hb
          exact (I'.pin (b, o) (List.mem_append_right _ (List.mem_append_right _ (mem_pinsAt hb e)))).2.1⟩
      cases ok with
      | true =>
        refine thn (he _ _ _ _ _ s9 _ H9 _ I9 h9) fun yv s10 ⟨y, H10, I10, r10, hD10, m', hm, w10⟩ => ?_
        refine thn (mt_append _ s10 _ H10 (.ref s2.heap.objs.size) [y] (.ref s2.heap.objs.size) [yv] (fun _ H' => H' = upd H10 s2.heap.objs.size (.lst (zs ++ [y]))) I10 rfl (.cons r10 .nil) ⟨_, zs, y, rfl, rfl, hD10, hz, rfl⟩) fun _ s11 ⟨_, H11, I11, _, e11⟩ => ?_
        subst e11
        exact ⟨m', hm, i + 1, zs ++ [y], some x, _, I11.unpinned, (frame I11).1, (frame I11).2, w10⟩
      | false =>
        obtain ⟨m', hm, w10⟩ := h9
        exact ⟨m', hm, i + 1, zs, some x, _, I9.unpinned, (frame I9).1, (frame I9).2, w10⟩
  subst hs3
  exact codeAny_compStart_list loop (T.self _ 0 _ _ _ t0 loop)
end
end L2
set_option Elab.async false
set_option linter.all false
set_option maxRecDepth 100000
namespace L2
open PySem PySem.Spec PyProof.Rows XH
theorem op_inK {X : Cx} {K : PySem.W.Frag} (h : X.K = K) : OpR X (compareOp .In) (rIn K false) := by
  subst h
  exact op_in_seq
/-! ### x == [] -/
theorem op_eqNil {X : Cx} (hu : X.A.units < cLine) : OpR X (compareOp .Eq) (fun x y H Q => ∃ a b zs, x = .ref a ∧ y = .ref b ∧ SqL X.K H a zs ∧ SqL X.K H b [] ∧ Q (.bl zs.isEmpty) H) := by
  intro pins s σ H x y v u Q I rx ry h
  obtain ⟨a, b, zs, rfl, rfl, h1, h2, hq⟩ := h
  cases rx
  cases ry
  obtain ⟨i1, r1, p1, _⟩ := I.list h1
  obtain ⟨i2, r2, p2, _⟩ := I.list h2
  cases r2
  cases zs with
  | nil =>
    cases r1
    refine SeqAt.eq_listAt (e := fun _ => true) p1.isList p2.isList rfl hu (fun j g1 g2 => absurd g1 (by simp)) ?_
    exact ⟨.bl true, H, I, by show Value.bool _ = Value.bool _; simp, hq⟩
  | cons z zs =>
    cases r1 with
    | cons r rr =>
      refine SeqAt.eq_list_lengthsAt p1.isList p2.isList (by simp) hu ?_
      exact ⟨.bl false, H, I, rfl, hq⟩
/-! ### comprehensions with a test that changes nothing -/
theorem compIf_dict {a : Addr} {o : Obj} {kvs : List (Key × V)} {js : List Nat} {tc : TT} {σ : L2.St} {H1 : Hp} {Q : VK} (pr : Key → Bool) (hf : H1 a = some (.frz o (.dK kvs))) (hz : kvs.length ≤ sizeLine)
    (step : ∀ (i : Nat) (k : Key) (x : V), kvs[i]? = some (k, x) → ∀ H3, Same H1 H3 → ∀ R : Bool → Hp → Prop, R (pr k) H3 → tc (some (kV k) :: freesOf js σ) H3 R)
    (fin : ∀ p H', Same H1 H' → H' p = some (.lst ((kvs.filter fun e => pr e.1).map fun e => kV e.1)) → Q (.ref p) H') : compIR js tc (tVar 0) σ Q (Itd a o kvs) H1 := by
  intro p hp
  refine ⟨fun i m ys H2 => i ≤ kvs.length ∧ m = kvs.length - i ∧ ys = ((kvs.take i).filter fun e => pr e.1).map (fun e => kV e.1) ∧ Same H1 H2 ∧ H2 p = some (.lst ys), ⟨kvs.length, Nat.zero_le _, rfl, rfl, Sw.same_new hp _, upd_same⟩, ?_⟩
  rintro i m ys H2 ⟨hi, rfl, rfl, g, e⟩
  refine ⟨e, ?_⟩
  have f2 := g _ _ hf
  by_cases hin : i < kvs.length
  · refine .inr ⟨⟨f2, hin⟩, ?_, fun x H3 hy => ?_⟩
    · have := List.length_filter_le (fun e : Key × V => pr e.1) (kvs.take i)
      rw [List.length_map]
      rw [List.length_take] at this
      omega
    obtain ⟨rfl, k, v, hk, rfl⟩ := hy
    have tk : ((kvs.take (i + 1)).filter fun e => pr e.1) = ((kvs.take i).filter fun e => pr e.1) ++ (if pr k = true then [(k, v)] else []) := by
      rw [List.take_succ, hk, List.filter_append]
      congr 1
      simp [List.filter_cons]
    refine step i k v hk H3 g _ ?_
    cases hpr : pr k with
    | true =>
      rw [hpr, if_pos rfl] at tk
      rw [if_pos rfl]
      exact ⟨_, rfl, e, kvs.length - (i + 1), by omega, hin, rfl, by rw [tk, List.map_append]; rfl, Sw.sUpd g hp _, upd_same⟩
    | false =>
      rw [hpr, if_neg (by decide), List.append_nil] at tk
      rw [if_neg (by decide)]
      exact ⟨kvs.length - (i + 1), by omega, hin, rfl, by rw [tk], g, e⟩
  · have e2 : i = kvs.length := by omega
    subst e2
    refine .inl ⟨⟨f2, rfl⟩, fin p H2 g ?_⟩
    rw [e, List.take_of_length_le (Nat.le_refl _)]
theorem compIf_list {K : PySem.W.Frag} {a : Addr} {xs : List V} {js : List Nat} {tc : TT} {σ : L2.St} {H1 : Hp} {Q : VK} (pr : V → Bool) (hS : SqL K H1 a xs) (hz : xs.length ≤ sizeLine)
    (step : ∀ x ∈ xs, ∀ H3, Same H1 H3 → ∀ R : Bool → Hp → Prop, R (pr x) H3 → tc (some x :: freesOf js σ) H3 R)
    (fin : ∀ p H', Same H1 H' → H' p = some (.lst (xs.filter pr)) → Q (.ref p) H') : compIR js tc (tVar 0) σ Q (Itl K a) H1 := by
  intro p hp
  refine ⟨fun i m ys H2 => i ≤ xs.length ∧ m = xs.length - i ∧ ys = (xs.take i).filter pr ∧ Same H1 H2 ∧ H2 p = some (.lst ys), ⟨xs.length, Nat.zero_le _, rfl, rfl, Sw.same_new hp _, upd_same⟩, ?_⟩
  rintro i m ys H2 ⟨hi, rfl, rfl, g, e⟩
  refine ⟨e, ?_⟩
  have S2 := g.seq hS
  by_cases hin : i < xs.length
  · refine .inr ⟨⟨xs, xs[i], S2, List.getElem?_eq_getElem hin⟩, ?_, fun x H3 hy => ?_⟩
    · have := List.length_filter_le pr (xs.take i)
      rw [List.length_take] at this
      omega
    obtain ⟨rfl, hx⟩ := hy
    have ex := hx xs S2
    have tk : (xs.take (i + 1)).filter pr = (xs.take i).filter pr ++ (if pr x = true then [x] else []) := by
      rw [List.take_succ, ex, List.filter_append]
      congr 1
      simp [List.filter_cons]
    refine step x (List.mem_of_getElem? ex) H3 g _ ?_
    cases hpr : pr x with
    | true =>
      rw [hpr, if_pos rfl] at tk
      rw [if_pos rfl]
      exact ⟨_, rfl, e, xs.length - (i + 1), by omega, hin, rfl, by rw [tk], Sw.sUpd g hp _, upd_same⟩
    | false =>
      rw [hpr, if_neg (by decide), List.append_nil] at tk
      rw [if_neg (by decide)]
      exact ⟨xs.length - (i + 1), by omega, hin, rfl, by rw [tk], g, e⟩
  · have e2 : i = xs.length := by omega
    subst e2
    refine .inl ⟨⟨xs, S2, Nat.le_refl _⟩, fin p H2 g ?_⟩
    rw [e, List.take_of_length_le (Nat.le_refl _)]
end L2
namespace Sw
open PySem L2 PyProof.Rows
/-! ### dicts of dicts that are alike -/
theorem paired_at {α β : Type} {F : α → β → Prop} : ∀ {l : List α} {m : List β}, Paired F l m → ∀ {i : Nat} {b : β}, m[i]? = some b → ∃ a, l[i]? = some a ∧ F a b
  | _, _, .nil, i, b, h => by simp at h
  | _, _, .cons r t, 0, b, h => by simp at h; subst h; exact ⟨_, rfl, r⟩
  | _, _, .cons r t, i + 1, b, h => by
    obtain ⟨a, h1, h2⟩ := paired_at t (i := i) (by simpa using h)
    exact ⟨a, by simpa using h1, h2⟩
/-! ### a way down to one of the goals -/
structure Goals (H : Hp) (l : Addr) (gs : List Str) : Prop where
  seq : H l = some (.lst (gs.map V.str))
  few : gs.length ≤ 10
def inS (gs : List Str) : Key → Bool
  | .inr y => decide (y ∈ gs)
  | _ => false
theorem found_eq (gs : List Str) : ∀ es : List (Str × Option Str), (((aheadK es).filter fun e => inS gs e.1).map fun e => kV e.1) = ((keysA es).filter fun y => decide (y ∈ gs)).map V.str
  | [] => rfl
  | (c, o) :: es => by
    have ih := found_eq gs es
    show ((((.inr c, optV o) :: aheadK es).filter fun e => inS gs e.1).map fun e => kV e.1) = (((c :: keysA es).filter fun y => decide (y ∈ gs)).map V.str)
    by_cases h : c ∈ gs
    · rw [List.filter_cons_of_pos (by show decide (c ∈ gs) = true; exact decide_eq_true h), List.filter_cons_of_pos (by exact decide_eq_true h), List.map_cons, List.map_cons, ih]
      rfl
    · rw [List.filter_cons_of_neg (by show ¬ decide (c ∈ gs) = true; simp [h]), List.filter_cons_of_neg (by simp [h]), ih]
theorem inV_str (x : Str) (gs : List Str) : inV (.str x) (gs.map V.str) = decide (x ∈ gs) := by
  unfold inV
  rw [Bool.eq_iff_iff]
  simp [eqV]
theorem flat_strs (gs : List Str) : (gs.map V.str).all flatV = true := by
  rw [List.all_eq_true]
  intro x hx
  obtain ⟨y, _, rfl⟩ := List.mem_map.mp hx
  rfl
def spWayDown : Sp := fun vs H Q _ => ∃ (d lg : Addr) (good : Str) (rows : List (Str × List Str)) (ps : List (Str × Str)) (gs : List Str), vs = [.ref d, .str good, .ref lg] ∧ DD H d rows ∧ RowsOk rows ps ∧ ps.length ≤ 1000 ∧ Goals H lg gs ∧
  (∀ (H' : Hp), Same H H' → (∀ g ∈ gs, ¬ Led ps good g) → Q .non H') ∧
  ∀ (l : Addr) (H' : Hp) (c : List Str) (goal : Str), Same H H' → H' l = some (.lst (c.map V.str)) → Way ps good goal c → goal ∈ gs → Led ps good goal → (good ∈ gs → goal = good) → Q (.ref l) H'
end Sw
set_option Elab.async false
set_option linter.all false
set_option maxRecDepth 100000
namespace Sw
open PySem L2 PyProof.Rows
theorem PL.snoc {H : Hp} {l a : Addr} {ps : List (Str × Str)} {x y : Str} (h : PL H l ps) (ha : H a = some (.tup [.str x, .str y])) :
    ∃ xs, H l = some (.lst xs) ∧ xs.length = ps.length ∧ PL (upd H l (.lst (xs ++ [.ref a]))) l (ps ++ [(x, y)]) := by
  obtain ⟨as, h1, h2, h3⟩ := h.ex
  have keep : ∀ {b : Addr} {zs : List V} {o : HO}, H b = some (.tup zs) → (upd H l o) b = some (.tup zs) := fun {b zs o} hb => by
    rw [upd_ne (fun z => by subst z; rw [h2] at hb; cases hb)]
    exact hb
  refine ⟨_, h2, by simp [h1], as ++ [a], by simp [h1], by rw [upd_same, List.map_append]; rfl, fun i b p e1 e2 => ?_⟩
  by_cases hi : i < as.length
  · rw [List.getElem?_append_left hi] at e1
    rw [List.getElem?_append_left (by omega)] at e2
    exact keep (h3 i b p e1 e2)
  · rw [List.getElem?_append_right (by omega)] at e1
    rw [List.getElem?_append_right (by omega)] at e2
    have h0 : i - as.length = 0 := by
      rcases Nat.eq_zero_or_pos (i - as.length) with q | q
      · exact q
      · rw [List.getElem?_eq_none (by simp; omega)] at e1; cases e1
    rw [h0] at e1
    rw [show i - ps.length = 0 by omega] at e2
    simp at e1 e2
    subst e1
    rw [← e2]
    exact keep ha
theorem str_at {zs : List Str} {i : Int} (h0 : 0 ≤ i) (h : i < (zs.length : Int)) : ∃ z ∈ zs, atI (zs.map V.str) i = some (.str z) := by
  obtain ⟨v, hv, e⟩ := atI_in (xs := zs.map V.str) h0 (by rw [List.length_map]; exact h)
  obtain ⟨z, hz, rfl⟩ := List.mem_map.mp hv
  exact ⟨z, hz, e⟩
theorem dQ {p : Prop} [Decidable p] (h : p) {Q : V → Prop} (q : Q (.bl true)) : Q (.bl (decide p)) := by rw [decide_eq_true h]; exact q
theorem atI_end {xs : List V} {v : V} (h : xs.getLast? = some v) : atI xs (-1) = some v := by
  rw [List.getLast?_eq_getElem?] at h
  have l := (List.getElem?_eq_some_iff.mp h).1
  have ix : ixN xs.length (-1) = some (xs.length - 1) := by
    unfold ixN
    rw [if_neg (by decide)]
    first
      | (rw [if_pos (by omega)]; congr 1; omega)
      | (simp; omega)
  unfold atI
  rw [ix]
  exact h
end Sw
set_option Elab.async false
set_option linter.all false
set_option maxRecDepth 100000
namespace L2
open PySem PySem.Spec PyProof.Rows XH Sw So
theorem strs_of : ∀ {acc : List Value} {ks : List Str}, acc.length = ks.length → (∀ (j : Nat) (v : Value), acc[j]? = some v → ∃ y t, ks[j]? = some y ∧ v = .str y t) → StrsAre acc ks
  | [], [], _, _ => .nil
  | v :: acc, k :: ks, hl, h => by
    obtain ⟨y, t, e, rfl⟩ := h 0 v rfl
    simp at e
    subst e
    exact .cons _ _ (strs_of (by simpa using hl) fun j u hu => h (j + 1) u (by simpa using hu))
  | [], _ :: _, hl, _ => by simp at hl
  | _ :: _, [], hl, _ => by simp at hl
theorem vals_of_strs : ∀ {us : List Value} {ks : List Str}, StrsAre us ks → Vals (ks.map V.str) us
  | _, _, .nil => .nil
  | _, _, .cons y t h => .cons ⟨t, rfl⟩ (vals_of_strs h)
theorem strs_dist : ∀ {vs : List Value} {ks : List Str}, StrsAre vs ks → ks.Nodup → (pairsOf vs).toList.Pairwise (fun p q => kk strKind p ≠ kk strKind q) := by
  intro vs ks h nd
  rw [pairsOf_toList]
  have key : ∀ {vs : List Value} {ks : List Str}, StrsAre vs ks → ks.Nodup → (vs.zip vs).Pairwise (fun p q => kk strKind p ≠ kk strKind q) ∧ ∀ p ∈ vs.zip vs, ∃ y ∈ ks, kk strKind p = y.cps.toList := by
    intro vs ks h
    induction h with
    | nil => exact fun _ => ⟨by simp, by simp⟩
    | cons y t h ih =>
      intro nd
      have nd' := List.nodup_cons.mp nd
      obtain ⟨i1, i2⟩ := ih nd'.2
      refine ⟨List.pairwise_cons.mpr ⟨fun q hq e => ?_, i1⟩, fun p hp => ?_⟩
      · obtain ⟨z, hz, ez⟩ := i2 q hq
        have e' : y.cps.toList = z.cps.toList := e.trans ez
        have : y = z := by
          cases y; cases z
          congr 1
          exact Array.toList_inj.mp e'
        exact nd'.1 (this ▸ hz)
      · rcases List.mem_cons.mp hp with e | e
        · subst e
          exact ⟨y, by simp, rfl⟩
        · obtain ⟨z, hz, ez⟩ := i2 p e
          exact ⟨z, by simp [hz], ez⟩
  exact (key h nd).1
/-- what a source gives, collected into a list that is laid anew -/
theorem collect_src {prog : Program} {w : World} {A : Around} {E : Value → Shared → Prop} {s : Shared} {T : String} {r d : Addr} {n : Nat} {P : Nat → Value → Prop} {OK : Heap → Prop} {R : List Value → Shared → Prop} (K : PySem.W.KdlSrc prog w T r d n P OK) (hh : A.handled = none) (hok : OK s.heap) (hn : n ≤ sizeLine)
    (h : ∀ (h' : Heap) (tk : Nat) (acc : Array Value), s.heap.objs.size < h'.objs.size → (∀ b o, s.heap.get? b = some o → h'.get? b = some o) → PySem.ItemsOf P acc n → R acc.toList { s with heap := h', toks := tk }) :
    wpAny (model prog w) A (collect (.ref r)) R E s := by
  have hlt := K.there _ hok
  unfold collect
  refine wpAny_bind (wpAny_runValue (codeAny_builtin entry_proto_collect' ?_))
  rw [Around.under_plainId PySem.F.plain_proto_collect _]
  show wpAny _ A.in1 (newList [] >>= fun l => again (.builtin "list.__iadd__" ⟨[l, .ref r], []⟩)) _ _ s
  refine wpAny_bind (wpAny_newObj_type (wpAny_pure ⟨plainId_quiet PySem.F.plain_list_iadd _, codeAny_builtin entry_list_iadd' ?_⟩))
  rw [Around.under_plainId PySem.F.plain_list_iadd _]
  have fresh : (s.heap.push { cls := .type "list", data := .seq ([] : List Value).toArray }).get? s.heap.objs.size = some { cls := .type "list", data := .seq #[] } := Heap.get?_push_size _ rfl
  show wpAny _ A.in1 (Builtin.List.listExtendWith (.ref s.heap.objs.size) (.ref r) (.ref s.heap.objs.size)) _ _ _
  have key := PySem.W.kdl_extend (A := A) (s := { s with heap := s.heap.push { cls := .type "list", data := .seq ([] : List Value).toArray } })
    (R := fun (q : Result) (s' : Shared) => ∃ (h' : Heap) (tk : Nat) (acc : Array Value) (c : Nat), q = .ok (.ret (.ref s.heap.objs.size)) ∧ s' = { s with heap := h', toks := tk } ∧ (∀ b o, s.heap.get? b = some o → h'.get? b = some o) ∧ h'.get? s.heap.objs.size = some { cls := .type "list", dict := none, data := .seq acc c, slots := #[] } ∧ PySem.ItemsOf P acc n)
    K hh (K.keep _ _ hok fun b _ o e => Heap.get?_push_of_some _ e) s.heap.objs.size (Nat.ne_of_gt hlt.1) (Nat.ne_of_gt hlt.2) (.ref s.heap.objs.size) 0 fresh
    (fun h' tk acc c hk hS ha => ⟨h', tk, acc, c, rfl, rfl, fun b o e => hk b o (Nat.ne_of_lt (Heap.lt_size e)) (Heap.get?_push_of_some _ e), hS, ha⟩) hn
  have fin : ∀ {h' : Heap} {tk c : Nat} {acc : Array Value}, (∀ b o, s.heap.get? b = some o → h'.get? b = some o) → h'.get? s.heap.objs.size = some { cls := .type "list", dict := none, data := .seq acc c, slots := #[] } → PySem.ItemsOf P acc n → R acc.toList { s with heap := h', toks := tk } :=
    fun {h' tk c acc} hk hS ha => h h' tk acc (Heap.lt_size hS) hk ha
  refine wpAny_mono key (fun f s' x => ?_) fun e s' x => ?_
  · cases f with
    | done f =>
      obtain ⟨h', tk, acc, c, e, rfl, hk, hS, ha⟩ := x
      cases e
      show wpAny _ A (load s.heap.objs.size >>= _) _ _ _
      exact wpAny_bind (wpAny_load hS (wpAny_pure (fin hk hS ha)))
    | again c₁ =>
      refine ⟨x.1, codeAny_mono x.2 fun q s₂ y => ?_⟩
      obtain ⟨h', tk, acc, c, rfl, rfl, hk, hS, ha⟩ := y
      show wpAny _ A (load s.heap.objs.size >>= _) _ _ _
      exact wpAny_bind (wpAny_load hS (wpAny_pure (fin hk hS ha)))
  · obtain ⟨_, _, _, _, e', _⟩ := x
    cases e'
/-- sorted(d): the texts that are a dict's keys -/
theorem call_sortD {X : Cx} (hc : X.calm = true) : CallR X (.builtin "sorted") (fun xs H Q => ∃ d ks kvs, xs = [.ref d] ∧ H d = some (.dK kvs) ∧ kvs.map (·.1) = ks.map (fun y => (.inr y : Key)) ∧ ks.Nodup ∧
    ∀ p ys, H p = none → ys.Perm ks → sortedS ys = true → Q (.ref p) (upd H p (.lst (ys.map V.str)))) := by
  intro pins s σ H xs us Q I r h
  obtain ⟨d, ks, kvs, rfl, hk, ek, nd, q⟩ := h
  obtain ⟨u, rfl, ru⟩ := vals1 r
  cases ru
  obtain ⟨z, hS, ws, rel, D⟩ := dk_of I.hok hk
  obtain ⟨ep, hat⟩ := D.dictAt
  have lw : ws.length = ks.length := by
    rw [← rel.length]
    have := congrArg List.length ek
    simpa using this
  refine Calls.call_function_entry kind_sorted plain_sorted entry_sorted (args_sorted1 _) ?_
  unfold Builtin.«sorted»
  refine wpAny_bind (m := checkCount "sorted" 1 1 _) (wpAny_pure ?_)
  refine wpAny_bind (collect_src (A := X.A.in1) (PySem.W.kdl_dict (knd := mixKind X.prog X.w) (kvs := ws) (ep := ep) hS) (I.ok.hd hc) hat (by rw [← rel.length]; exact z) fun h' tk acc hlt hkp hacc => ?_)
  have la : acc.toList.length = ks.length := by rw [Array.length_toList, hacc.1, lw]
  have SA : StrsAre acc.toList ks := strs_of la fun j v hv => by
    obtain ⟨k, x, e1, e2⟩ := hacc.2 j v (by rw [← Array.getElem?_toList]; exact hv)
    obtain ⟨⟨k', v'⟩, e3, rfl, _⟩ := paired_at rel e1
    have e4 : (kvs.map (·.1))[j]? = some k' := by rw [List.getElem?_map, e3]; rfl
    rw [ek, List.getElem?_map] at e4
    cases e5 : ks[j]? with
    | none => rw [e5] at e4; cases e4
    | some y =>
      rw [e5] at e4
      cases e4
      obtain ⟨t, ht⟩ := is_kV e2
      exact ⟨y, t, rfl, ht⟩
  refine wpAny_bind (wpAny_newList ?_ (by rw [la, ← lw, ← rel.length]; exact z))
  have hoL : (h'.push (seqObj "list" acc.toList.toArray 0)).get? h'.objs.size = some (seqObj "list" acc.toList.toArray 0) := Heap.get?_push_size _ rfl
  refine wpAny_bind (wpAny_holding (wpAny_call_entry slot_list_sort ⟨_, hoL, rfl⟩ entry_list_sort (sort_any strKind_oneLt hoL SA.keysOf (strs_dist SA nd) (fun v₁ v₂ rest e => keyKind_strs (by rw [← e]; exact SA)) (by rw [la, ← lw, ← rel.length]; exact z) fun st' hp hs => ⟨_, rfl, ?_⟩) (args_list_sort _)))
  obtain ⟨ys, h1, h2, h3⟩ := sorted_out_str SA hp hs
  have sl : s.heap.objs.size ≤ h'.objs.size := Nat.le_of_lt hlt
  refine wpAny_pure ⟨_, rfl, .ref h'.objs.size, _, I.laid (a := h'.objs.size) (o := .lst (ys.map V.str)) (h' := sortedHeap (h'.push (seqObj "list" acc.toList.toArray 0)) h'.objs.size acc.toList ((arrOf st').map (·.2))) (t' := tk) (fun b o eo => ?_) sl ?_, rfl, q _ ys (I.hok.fresh sl) h2 h3⟩
  · have eo' := hkp b o eo
    have bl := Heap.lt_size eo'
    rw [sortedHeap_old (Nat.ne_of_lt bl) (by rw [size_push']; exact Nat.lt_succ_of_lt bl)]
    exact Heap.get?_push_of_some _ eo'
  · obtain ⟨e, he⟩ := sortedHeap_at (out := (arrOf st').map (·.2)) hoL
    refine ⟨by rw [List.length_map, h2.length_eq, ← lw, ← rel.length]; exact z, ((arrOf st').map (·.2)).toList, e, vals_of_strs h1, ?_⟩
    rw [Array.toArray_toList]
    exact he
end L2
set_option Elab.async false
set_option linter.all false
set_option maxRecDepth 100000
namespace So
open PySem PySem.Spec PyProof.Rows
/-- not behind, of texts -/
def leS (x y : Str) : Prop := ¬ (y.cps.toList < x.cps.toList)
theorem leS_trans {x y z : Str} (h1 : leS x y) (h2 : leS y z) : leS x z := fun h => by
  unfold leS at h1 h2
  exact h1 (List.lt_of_le_of_lt (List.not_lt.mp h2) h)
theorem leS_anti {x y : Str} (h1 : leS x y) (h2 : leS y x) : x = y := by
  have e := List.le_antisymm (List.not_lt.mp h1) (List.not_lt.mp h2)
  cases x; cases y
  congr 1
  exact Array.toList_inj.mp e
theorem rising_pw : ∀ (r : List Str) (x : Str), risingS x r = true → (x :: r).Pairwise leS
  | [], x, _ => by simp
  | y :: r, x, h => by
    unfold risingS at h
    have h' : ltCps y.cps.toList x.cps.toList = false ∧ risingS y r = true := by
      simpa [Bool.and_eq_true] using h
    have ih := rising_pw r y h'.2
    have xy : leS x y := by
      have := h'.1
      rw [ltCps_eq] at this
      exact of_decide_eq_false this
    refine List.pairwise_cons.mpr ⟨fun z hz => ?_, ih⟩
    rcases List.mem_cons.mp hz with e | e
    · rw [e]; exact xy
    · exact leS_trans xy ((List.pairwise_cons.mp ih).1 z e)
theorem sorted_pw {l : List Str} (h : sortedS l = true) : l.Pairwise leS := by
  cases l with
  | nil => simp
  | cons x r => exact rising_pw r x h
/-- of the same texts there is one sorted list -/
theorem sorted_uniq {l m : List Str} (h1 : sortedS l = true) (h2 : sortedS m = true) (p : l.Perm m) : l = m :=
  List.Perm.eq_of_pairwise (fun a b _ _ ha hb => leS_anti ha hb) (sorted_pw h1) (sorted_pw h2) p
end So
set_option Elab.async false
set_option linter.all false
set_option maxRecDepth 100000
namespace L2
open PySem PySem.Spec PyProof.Rows XH
/-! ### set(xs) of texts, alike or unlike: what lies in it, and that it can be walked -/
theorem orStandIn_led (t : SetTable) (n : Nat) : (t.orStandIn n).led = t.led := by
  unfold SetTable.orStandIn
  by_cases h : t.fits n = true
  · rw [if_pos h]
  · rw [if_neg h]; rfl
theorem layNew_led (t : SetTable) (es : Array (Int × Value)) (h : Int) (x : Value) : (layNew t es h x).2.1.led = t.led := by
  cases e : t.freeSlot h with
  | none => simp only [layNew, e]; rfl
  | some r =>
    obtain ⟨slot, d⟩ := r
    simp only [layNew, e]
    rw [orStandIn_led]
    rfl
theorem relaid_kept {t t' : SetTable} {hs : Array Int} {n : Nat} {order : Array Nat} (e : t.relaid hs n = some (t', order)) : t'.led = t.led ∧ t'.plain = t.plain := by
  unfold SetTable.relaid SetTable.laid at e
  obtain ⟨o, _, e2⟩ := Option.bind_eq_some_iff.mp e
  simp only [pure, Option.some.injEq, Prod.mk.injEq] at e2
  rw [← e2.1]
  exact ⟨rfl, rfl⟩
theorem relayAll_led (t : SetTable) (es : Array (Int × Value)) (n : Nat) : (relayAll t es n).2.1.led = t.led := by
  cases e : t.relaid (es.map (·.1)) n with
  | none => simp only [relayAll, e]; rfl
  | some r =>
    obtain ⟨t', order⟩ := r
    simp only [relayAll, e]
    by_cases c : (coversAll order es.size && t'.fits (order.filterMap (es[·]?)).size) = true
    · rw [if_pos c]; exact (relaid_kept e).1
    · rw [if_neg c]; rfl
theorem relayAll_plain (t : SetTable) (es : Array (Int × Value)) (n : Nat) (h : t.plain = false) : (relayAll t es n).2.1.plain = false := by
  cases e : t.relaid (es.map (·.1)) n with
  | none => simp only [relayAll, e]; rfl
  | some r =>
    obtain ⟨t', order⟩ := r
    simp only [relayAll, e]
    by_cases c : (coversAll order es.size && t'.fits (order.filterMap (es[·]?)).size) = true
    · rw [if_pos c]; exact (relaid_kept e).2.trans h
    · rw [if_neg c]; rfl
def strOf : Value → Str
  | .str y _ => y
  | _ => default
/-- one thing of a set of texts -/
def TxE (prog : Program) (w : World) (e : Int × Value) : Prop := ∃ y t, e = ((mixKind prog w).hash (.inr y), .str y t)
/-- a set of texts at a: just ys, in some order -/
def TxS (prog : Program) (w : World) (h : Heap) (a : Addr) (ys : List Str) : Prop :=
  ∃ o es ep t, h.get? a = some o ∧ o.ExactSet ∧ o.data = .set es ep t ∧ (∀ e ∈ es.toList, TxE prog w e) ∧ (es.toList.map fun e => strOf e.2).Perm ys ∧ es.size < scanBound ∧ t.fits es.size = true ∧
    (w.params.followText "set-order" = false → t.led = true) ∧ (es.size ≠ 0 → t.plain = false)
theorem te_is {prog : Program} {w : World} {y : Str} {t : Tok} : (mixKind prog w).is (.inr y) (.str y t) = true := kV_is (k := .inr y) ⟨t, rfl⟩
theorem te_elems {prog : Program} {w : World} {l : List (Int × Value)} (h : ∀ e ∈ l, TxE prog w e) : ElemsOf (mixKind prog w) l := fun e he => by
  obtain ⟨y, t, rfl⟩ := h e he
  exact ⟨⟨.inr y, te_is, rfl⟩, rfl⟩
def insT (ys : List Str) (y : Str) : List Str := if y ∈ ys then ys else ys ++ [y]
section
variable {prog : Program} {w : World} {A : Around} {E : Value → Shared → Prop} {s : Shared}
theorem ts_mem {h : Heap} {a : Addr} {ys : List Str} {es : Array (Int × Value)} (te : ∀ e ∈ es.toList, TxE prog w e) (pm : (es.toList.map fun e => strOf e.2).Perm ys) (y : Str) :
    (∃ e ∈ es.toList, (mixKind prog w).is (.inr y) e.2 = true) ↔ y ∈ ys := by
  rw [← pm.mem_iff, List.mem_map]
  constructor
  · rintro ⟨e, he, q⟩
    obtain ⟨z, t, rfl⟩ := te e he
    obtain ⟨t', e'⟩ := is_kV q
    cases e'
    exact ⟨_, he, rfl⟩
  · rintro ⟨e, he, q⟩
    obtain ⟨z, t, rfl⟩ := te e he
    cases q
    exact ⟨_, he, te_is⟩
theorem ts_tail {g : Bool → Sem Unit} (hg : ∀ (b : Bool) (s₁ : Shared) (Q' : Unit → Shared → Prop), Q' () s₁ → wpAny (model prog w) A (g b) Q' E s₁)
    {a : Addr} {o : Obj} {es : Array (Int × Value)} {ep : Nat} {t : SetTable} (ho : s.heap.get? a = some o) (hex : o.ExactSet) (hd : o.data = .set es ep t)
    {es1 : Array (Int × Value)} {t2 : SetTable} {ys : List Str} (te : ∀ e ∈ es1.toList, TxE prog w e) (pm : (es1.toList.map fun e => strOf e.2).Perm ys)
    (hb1 : es1.size < scanBound) (hf2 : t2.fits es1.size = true) (ld : w.params.followText "set-order" = false → t2.led = true) (pl : t2.plain = false) {wasDummy : Bool} {R : Option Bool → Shared → Prop}
    (h : ∀ h', Heap.SameBut a s.heap h' → TxS prog w h' a ys → R (some true) { s with heap := h' }) :
    wpAny (model prog w) A (do
        storeSet a es1 t2
        if (!wasDummy && t2.tooFull) = true then do
            g (relayAll t2 es1 (SetTable.grown es1.size)).2.2
            storeSet a (relayAll t2 es1 (SetTable.grown es1.size)).1 (relayAll t2 es1 (SetTable.grown es1.size)).2.1
            pure (some true)
          else pure (some true)) R E s := by
  refine wpAny_bind (wpAny_storeSet_of ho hd ?_ (fits_of_scanBound hb1))
  obtain ⟨ho1, _⟩ := SetOf_store (knd := mixKind prog w) (S' := fun k => decide (∃ e ∈ es1.toList, (mixKind prog w).is k e.2 = true)) ho hex hd (te_elems te) (fun k => by simp) hb1 hf2
  have hsb1 := Heap.SameBut.update s.heap a (Obj.putSet es1 t2)
  split
  · have hp := relayAll_perm t2 es1 (SetTable.grown es1.size)
    have hfr := relayAll_fits t2 es1 (SetTable.grown es1.size)
    have hl := relayAll_led t2 es1 (SetTable.grown es1.size)
    have hpl := relayAll_plain t2 es1 (SetTable.grown es1.size) pl
    generalize hRl : relayAll t2 es1 (SetTable.grown es1.size) = Rl at hp hfr hl hpl ⊢
    obtain ⟨es2, t3, gave2⟩ := Rl
    dsimp only at hp hfr hl hpl ⊢
    have te2 : ∀ e ∈ es2.toList, TxE prog w e := fun e he => te e (hp.mem_iff.mp he)
    have hsz : es2.size = es1.size := by rw [← Array.length_toList, hp.length_eq, Array.length_toList]
    have hb2 : es2.size < scanBound := by rw [hsz]; exact hb1
    refine wpAny_bind (hg _ _ _ ?_)
    refine wpAny_bind (wpAny_storeSet_of ho1 rfl ?_ (fits_of_scanBound hb2))
    obtain ⟨ho2, _⟩ := SetOf_store (knd := mixKind prog w) (S' := fun k => decide (∃ e ∈ es2.toList, (mixKind prog w).is k e.2 = true)) ho1 hex rfl (te_elems te2) (fun k => by simp) hb2 hfr
    exact wpAny_pure (h _ (hsb1.trans (Heap.SameBut.update _ a _)) ⟨_, es2, _, t3, ho2, hex, rfl, te2, (hp.map _).trans pm, hb2, hfr, fun b => hl.trans (ld b), fun _ => hpl⟩)
  · exact wpAny_pure (h _ hsb1 ⟨_, es1, _, t2, ho1, hex, rfl, te, pm, hb1, hf2, ld, fun _ => pl⟩)
theorem ts_add {a : Addr} {ys : List Str} {y : Str} {tk : Tok} {Q : Bool → Shared → Prop} (hS : TxS prog w s.heap a ys) (room : ys.length + 1 < scanBound)
    (h : ∀ h', Heap.SameBut a s.heap h' → TxS prog w h' a (insT ys y) → ∀ b, Q b { s with heap := h' }) :
    wpAny (model prog w) A (setAddHashed a (.str y tk) ((mixKind prog w).hash (.inr y))) Q E s := by
  obtain ⟨o, es, ep, t, ho, hex, hd, te, pm, hb, hf, ld, pl⟩ := hS
  have hel := te_elems te
  have hsz : es.size = ys.length := by rw [← Array.length_toList, ← List.length_map (fun e : Int × Value => strOf e.2), pm.length_eq]
  unfold setAddHashed setAddHashedIn
  refine wpAny_holding (wpAny_bind (wpAny_setState_of ho hd hf ?_))
  dsimp only
  rw [byScan_of (knd := mixKind prog w) (x := .str y tk) rfl hb hel]
  simp only [↓reduceIte]
  unfold setAddByScan
  refine wpAny_bind ?_
  refine wpAny_bind (wpAny_rule ?_)
  refine wpAny_bind (wpAny_setScan_of (knd := mixKind prog w) (k := .inr y) te_is ho hd hf hel ?_)
  cases hr : List.findIdx? (fun e => (mixKind prog w).is (.inr y) e.2) es.toList with
  | some j =>
    dsimp only
    obtain ⟨hj, hpj, _⟩ := List.findIdx?_eq_some_iff_getElem.mp hr
    have hm : y ∈ ys := (ts_mem (h := s.heap) (a := a) te pm y).mp ⟨es.toList[j], List.getElem_mem hj, hpj⟩
    refine wpAny_pure (wpAny_pure ?_)
    have e : s = { s with heap := s.heap } := by cases s; rfl
    rw [e]
    refine h s.heap (Heap.SameBut.refl a s.heap) ?_ _
    rw [insT, if_pos hm]
    exact ⟨o, es, ep, t, ho, hex, hd, te, pm, hb, hf, ld, pl⟩
  | none =>
    dsimp only
    have hm : y ∉ ys := fun hm => by
      obtain ⟨e, he, q⟩ := (ts_mem (h := s.heap) (a := a) te pm y).mpr hm
      have := List.findIdx?_eq_none_iff.mp hr e he
      rw [q] at this
      cases this
    have hgw : ∀ (b : Bool) {s₁ : Shared} {Q' : Unit → Shared → Prop}, Q' () s₁ → wpAny (model prog w) A (match b with | true => rule "set.scan.the-table-gave-way" | false => pure ()) Q' E s₁ :=
      fun b s₁ Q' hq => by cases b <;> first | exact wpAny_pure hq | exact wpAny_rule hq
    have hperm := layNew_perm t es ((mixKind prog w).hash (.inr y)) (.str y tk)
    have hfits := layNew_fits t es ((mixKind prog w).hash (.inr y)) (.str y tk)
    have hled := layNew_led t es ((mixKind prog w).hash (.inr y)) (.str y tk)
    generalize hL : layNew t es ((mixKind prog w).hash (.inr y)) (.str y tk) = L at hperm hfits hled ⊢
    obtain ⟨es1, t1, wasDummy, gave⟩ := L
    dsimp only at hperm hfits hled ⊢
    rw [Array.toList_push] at hperm
    have te1 : ∀ e ∈ es1.toList, TxE prog w e := fun e he => by
      rcases List.mem_append.mp (hperm.mem_iff.mp he) with q | q
      · exact te e q
      · rw [List.mem_singleton.mp q]; exact ⟨y, tk, rfl⟩
    have pm1 : (es1.toList.map fun e => strOf e.2).Perm (insT ys y) := by
      rw [insT, if_neg hm]
      refine (hperm.map _).trans ?_
      rw [List.map_append]
      exact pm.append_right _
    have hb1' : es1.size < scanBound := by
      rw [← Array.length_toList, hperm.length_eq, List.length_append, Array.length_toList, hsz]
      exact room
    refine wpAny_bind (hgw _ ?_)
    split
    · refine wpAny_bind ?_
      rw [hashByValue_scannable 8 (x := .str y tk) rfl]
      refine wpAny_pure ?_
      refine ts_tail ?_ ho hex hd te1 pm1 hb1' ?_ ?_ ?_ ?_
      · intro b s₁ Q' hq; cases b <;> first | exact wpAny_pure hq | exact wpAny_rule hq
      · exact SetTable.fits_plain_off hfits
      · exact fun b => hled.trans (ld b)
      · rfl
      · intro h' hsb hS'; dsimp only; exact wpAny_pure (h h' hsb hS' _)
    · rename_i np
      refine wpAny_bind (wpAny_pure ?_)
      simp only [↓reduceIte]
      refine ts_tail ?_ ho hex hd te1 pm1 hb1' hfits ?_ ?_ ?_
      · intro b s₁ Q' hq; cases b <;> first | exact wpAny_pure hq | exact wpAny_rule hq
      · exact fun b => hled.trans (ld b)
      · simpa using np
      · intro h' hsb hS'; dsimp only; exact wpAny_pure (h h' hsb hS' _)
end
end L2
set_option Elab.async false
set_option linter.all false
set_option maxRecDepth 100000
namespace L2
open PySem PySem.Spec PyProof.Rows XH
def ddT (xs : List Str) (i : Nat) : List Str := (xs.take i).foldl insT []
theorem ddT_succ {xs : List Str} {i : Nat} {y : Str} (h : xs[i]? = some y) : ddT xs (i + 1) = insT (ddT xs i) y := by
  unfold ddT
  rw [List.take_add_one, h, Option.toList_some, List.foldl_append]
  rfl
theorem insT_len (ys : List Str) (y : Str) : (insT ys y).length ≤ ys.length + 1 := by
  unfold insT
  split
  · omega
  · simp
theorem ddT_len (xs : List Str) : ∀ i, (ddT xs i).length ≤ i
  | 0 => by simp [ddT]
  | i + 1 => by
    have ih := ddT_len xs i
    cases h : xs[i]? with
    | none =>
      have : xs.take (i + 1) = xs.take i := by rw [List.take_add_one, h]; simp
      unfold ddT at ih ⊢
      rw [this]
      omega
    | some y =>
      rw [ddT_succ h]
      have := insT_len (ddT xs i) y
      omega
theorem insT_nodup {ys : List Str} (y : Str) (h : ys.Nodup) : (insT ys y).Nodup := by
  unfold insT
  split
  · exact h
  · rename_i n
    exact List.nodup_append.mpr ⟨h, by simp, fun a ha b hb e => n (by rw [List.mem_singleton] at hb; rw [← hb, ← e]; exact ha)⟩
theorem insT_mem {ys : List Str} {y z : Str} : z ∈ insT ys y ↔ z ∈ ys ∨ z = y := by
  unfold insT
  split
  · rename_i h
    exact ⟨.inl, fun h' => h'.elim id fun e => e ▸ h⟩
  · simp
theorem foldl_insT_nodup : ∀ (xs ys : List Str), ys.Nodup → (xs.foldl insT ys).Nodup
  | [], _, h => h
  | x :: xs, ys, h => foldl_insT_nodup xs _ (insT_nodup x h)
theorem foldl_insT_mem {z : Str} : ∀ (xs ys : List Str), z ∈ xs.foldl insT ys ↔ z ∈ ys ∨ z ∈ xs
  | [], ys => by simp
  | x :: xs, ys => by
    rw [List.foldl_cons, foldl_insT_mem xs, insT_mem, List.mem_cons, or_assoc]
section
variable {prog : Program} {w : World} {A : Around} {R : Result → Shared → Prop} {I : Addr} {fp wr : List Addr} {G : Array GenState → Array GenState → Prop} {n : Nat} {P : Nat → Value → Prop} {St : Nat → Shared → Prop}
theorem set_loopT (W : WalksS prog w A.in1 I fp wr G n P St) (S : Addr) (out : S ∉ fp) (xs : List Str) (hv : ∀ i v, P i v → ∃ y t, xs[i]? = some y ∧ v = .str y t)
    (hn : n ≤ xs.length) (hb : n + 1 < scanBound) : ∀ (m i : Nat) (s : Shared), n - i = m → i ≤ n → St i s → TxS prog w s.heap S (ddT xs i) →
      (∀ s', Moved (S :: wr) G s s' → TxS prog w s'.heap S (ddT xs n) → R (.ok (.ret .none)) s') → codeAny (model prog w) A (.builtin "set.update.loop" ⟨[.ref S, .ref I], []⟩) R s := by
  have nw : S ∉ wr := fun h => out (W.sub _ h)
  have up : ∀ b ∈ wr, b ∈ S :: wr := fun b hb => .tail _ hb
  have stay : ∀ {s1 s2 : Shared} {ys : List Str}, TxS prog w s1.heap S ys → Moved wr G s1 s2 → TxS prog w s2.heap S ys := by
    rintro s1 s2 ys ⟨o, es, ep, t, ho, z⟩ mv
    exact ⟨o, es, ep, t, mv.heap S _ nw ho, z⟩
  intro m
  induction m with
  | zero =>
    intro i s hm hi st hS fin
    have e : i = n := by omega
    subst e
    apply codeAny_builtin F.entry_set_update_loop
    rw [Around.under_plainId F.plain_set_update_loop _]
    show wpAny _ _ (pyNext (.ref I) >>= _) _ _ s
    apply wpAny_bind
    refine W.done s _ _ st fun s' mv => ?_
    exact wpAny_pure (fin s' (mv.mono up) (stay hS mv))
  | succ m ih =>
    intro i s hm hi st hS fin
    have lt : i < n := by omega
    apply codeAny_builtin F.entry_set_update_loop
    rw [Around.under_plainId F.plain_set_update_loop _]
    show wpAny _ _ (pyNext (.ref I) >>= _) _ _ s
    apply wpAny_bind
    refine W.item i s _ _ lt st fun v s' pv st' mv => ?_
    obtain ⟨y, tk, ey, rfl⟩ := hv i v pv
    show wpAny _ _ (holding [.str y tk] (setAdd S (.str y tk)) >>= _) _ _ s'
    apply wpAny_bind
    apply wpAny_holding
    unfold setAdd
    apply wpAny_holding
    apply wpAny_bind
    refine (mixKind prog w).pyHash (k := .inr y) te_is ?_
    have rm : (ddT xs i).length + 1 < scanBound := by
      have := ddT_len xs i
      omega
    refine ts_add (s := { s' with toks := s'.toks + 1 }) (show TxS prog w s'.heap S (ddT xs i) from stay hS mv) rm fun h' same S2 b => ?_
    rw [← ddT_succ ey] at S2
    apply wpAny_pure
    refine ⟨plainId_quiet F.plain_set_update_loop _, ih (i + 1) _ (by omega) lt (W.frame _ s' _ _ st' (Nat.le_succ _) fun b hb o e => ?_) S2 fun s'' mv2 S4 => ?_⟩
    · exact (same.2 b fun z => out (z ▸ hb)).trans e
    · exact fin s'' (Moved.trans W.gtrans ((mv.mono up).then_heap (Nat.le_succ _) fun b o hb e => (same.2 b fun z => hb (z ▸ List.mem_cons_self)).trans e) mv2) S4
end
section
variable {prog : Program} {w : World} {A : Around} {E : Value → Shared → Prop} {s : Shared}
/-- a set made anew is led, unless the order is by the text -/
theorem code_set_newL (a : Value) {Q₁ : Value → Shared → Prop}
    (h : ∀ led : Bool, (w.params.followText "set-order" = false → led = true) → Q₁ (.ref s.heap.objs.size) { s with heap := s.heap.push { cls := .type "set", dict := none, data := .set #[] 0 (.fresh 0 0 led) } }) :
    codeAny (model prog w) A (.call (.builtin "set.__new__") ⟨[.type "set", a], []⟩) (wants Q₁ E) s := by
  refine codeAny_of_tree ?_
  show wpAny _ A.in1 (do checkBuiltinCall "set.__new__" ⟨[.type "set", a], []⟩; again (.builtin "set.__new__" ⟨[.type "set", a], []⟩)) _ _ s
  refine wpAny_bind (wpAny_of_eq (F.newCall_set_1 a) (wpAny_pure ⟨plainId_quiet F.plain_set_new _, codeAny_builtin F.entry_set_new ?_⟩))
  rw [Around.under_plainId F.plain_set_new _]
  unfold Builtin.«set.__new__» Builtin.Frozenset.newClass
  have hsub := sub_set_self
  obtain ⟨hp, g, d, tk, os⟩ := s
  dsimp only
  wp_walk
  refine wpAny_askSetting (wpAny_pure ?_)
  dsimp only
  simp only [newObj]
  refine wpAny_bind (wpAny_alloc (wpAny_pure ?_))
  refine wpAny_pure (h _ fun e => ?_)
  show (!(model prog w).w.params.followText "set-order") = true
  rw [show (model prog w).w = w from rfl, e]
  rfl
set_option maxHeartbeats 3200000 in
theorem set_listT {l : Addr} {items : Array Value} {xs : List Str} {Q : Value → Shared → Prop} (hh : A.handled = none) (hl : s.heap.IsList l items) (hv : ∀ (i : Nat) (v : Value), items[i]? = some v → ∃ (y : Str) (t : Tok), xs[i]? = some y ∧ v = Value.str y t)
    (hn : items.size = xs.length) (hb : items.size + 1 < scanBound)
    (fin : ∀ (h' : Heap) (tk : Nat), TxS prog w h' s.heap.objs.size (ddT xs items.size) → (∀ b o, b < s.heap.objs.size → s.heap.get? b = some o → h'.get? b = some o) → Q (.ref s.heap.objs.size) { s with heap := h', toks := tk }) :
    wpAny (model prog w) A (call (.type "set") [.ref l]) Q E s := by
  obtain ⟨c0, tl0, mro⟩ := F.called_set.mro
  have made := F.called_set.made
  have subt := F.called_set.sub
  apply wpAny_call
  apply codeAny_of_tree
  show wpAny _ _ (callAny (.type "set") _) _ _ _
  apply wpAny_pure
  refine ⟨Code.quiet_builtin _ (by decide +kernel), codeAny_builtin F.entry_type_call ?_⟩
  rw [Around.under_plain (weight_type_call_type "set" [.ref l] []) rfl]
  have nt := F.called_set.notType
  have cc := F.called_set.canCreate
  have tc := F.typeCall_set_1 (.ref l)
  repeat any_goals first | assumption | wp_step
  refine codeAny_mono (code_set_newL (.ref l) (E := E) (Q₁ := fun v s1 => ∃ led : Bool, (w.params.followText "set-order" = false → led = true) ∧ v = .ref s.heap.objs.size ∧ s1 = { s with heap := s.heap.push { cls := .type "set", dict := none, data := .set #[] 0 (.fresh 0 0 led) } }) fun led eld => ⟨led, eld, rfl, rfl⟩) fun r s1 hr => ?_
  cases r with
  | error e => exact hr
  | ok fl =>
    cases fl with
    | ret v =>
      obtain ⟨led, eld, rfl, rfl⟩ := hr
      have e0 : (s.heap.push { cls := .type "set", dict := none, data := .set #[] 0 (.fresh 0 0 led) }).get? s.heap.objs.size = some { cls := .type "set", dict := none, data := .set #[] 0 (.fresh 0 0 led) } := Heap.get?_push_size _ rfl
      have tS : Shared.TypeIs { s with heap := s.heap.push { cls := .type "set", dict := none, data := .set #[] 0 (.fresh 0 0 led) } } (.ref s.heap.objs.size) "set" := ⟨_, e0, rfl⟩
      have lk := F.called_set.init.lookup
      have bd := F.called_set.init.bind (.ref s.heap.objs.size)
      repeat any_goals first | assumption | wp_step
      refine codeAny_mono (codeAny_call_builtin (R := wants (fun r s2 => r = .none ∧ ∃ h' tk, s2 = { s with heap := h', toks := tk } ∧ TxS prog w h' s.heap.objs.size (ddT xs items.size) ∧ ∀ b o, b < s.heap.objs.size → s.heap.get? b = some o → h'.get? b = some o) E) F.called_set.init.plain F.entry_set_init (check_set_init_1 tS ?_)) fun r2 s2 hr2 => ?_
      · obtain ⟨⟨lc, ld, lx, ls⟩, hol, hcl, nl, hdl⟩ := hl
        simp only at hcl hdl
        subst hcl hdl
        have el : (s.heap.push { cls := .type "set", dict := none, data := .set #[] 0 (.fresh 0 0 led) }).get? l = some { cls := .type "list", dict := ld, data := .seq items nl, slots := ls } := Heap.get?_push_of_some _ hol
        have n1 := F.sub_list_set
        have n2 := F.sub_list_frozenset
        have n3 : (Value.type "list" == Value.type "dict") = false := by decide
        have il : (s.heap.push { cls := .type "set", dict := none, data := .set #[] 0 (.fresh 0 0 led) }).IsList l items := ⟨_, el, rfl, nl, rfl⟩
        unfold Builtin.«set.__init__» noKeywords Builtin.Frozenset.updateFrom
        generalize hit : pyIter = PI
        wp_walk
        subst hit
        apply wpAny_pyIter_list il
        apply wpAny_bind
        apply wpAny_runValue
        have ll : l < s.heap.objs.size := Heap.lt_size hol
        have h3 : A.in1.in1.in1.handled = none := by simpa using hh
        have nI : l ≠ (s.heap.push { cls := .type "set", dict := none, data := .set #[] 0 (.fresh 0 0 led) }).objs.size := by
          rw [Heap.size_push]
          exact Nat.ne_of_lt (Nat.lt_succ_of_lt ll)
        have out : s.heap.objs.size ∉ [(s.heap.push { cls := .type "set", dict := none, data := .set #[] 0 (.fresh 0 0 led) }).objs.size, l] := by
          rw [Heap.size_push]
          simp only [List.mem_cons, not_or]
          exact ⟨Nat.ne_of_lt (Nat.lt_succ_self _), Nat.ne_of_gt ll, List.not_mem_nil⟩
        refine set_loopT ((Walks.list h3 _ l nI items).toS) s.heap.objs.size out xs hv (Nat.le_of_eq hn) hb items.size 0 _ rfl (Nat.zero_le _) ⟨⟨_, Heap.get?_push_size _ rfl, rfl, rfl⟩, il.push _⟩ ?_ ?_
        · have e1 : ((s.heap.push { cls := .type "set", dict := none, data := .set #[] 0 (.fresh 0 0 led) }).push { cls := .type "list_iterator", data := .fields #[.ref l, .int 0 0] }).get? s.heap.objs.size = some { cls := .type "set", dict := none, data := .set #[] 0 (.fresh 0 0 led) } :=
            Heap.get?_push_of_some _ e0
          exact ⟨_, #[], 0, _, e1, ⟨rfl, rfl, rfl⟩, rfl, (fun e he => by simp at he), (by simp [ddT]), by decide, rfl, eld, fun z => absurd rfl z⟩
        · intro s' mv S2
          obtain ⟨h', g', d', tk', os'⟩ := s'
          have eg : g' = s.gens := mv.gens
          have ed : d' = s.drawn := mv.drawn
          have eo : os' = s.os := mv.os
          subst eg ed eo
          show wpAny _ _ _ _ _ _
          apply wpAny_pure
          show wpAny _ _ (ret Value.none) _ _ _
          apply wpAny_pure
          refine ⟨rfl, h', tk', rfl, S2, fun b o hb' e => ?_⟩
          refine mv.heap b o ?_ (Heap.get?_push_of_some _ (Heap.get?_push_of_some _ e))
          rw [Heap.size_push]
          simp only [List.mem_cons, not_or]
          exact ⟨Nat.ne_of_lt hb', Nat.ne_of_lt (Nat.lt_succ_of_lt hb'), List.not_mem_nil⟩
      · cases r2 with
        | error e => exact hr2
        | ok fl2 =>
          cases fl2 with
          | ret r =>
            obtain ⟨rfl, h', tk, rfl, S2, kp⟩ := hr2
            repeat any_goals first | assumption | wp_step
            exact fin _ _ S2 kp
          | _ => exact hr2.elim
    | _ => exact hr.elim
end
end L2
set_option Elab.async false
set_option linter.all false
set_option maxRecDepth 100000
namespace L2
open PySem PySem.Spec PyProof.Rows XH
/-! ### a set of texts walked -/
theorem owner_si : Manifest.owners.lookup (String.ofList ['r', 'o', 't', 'a', 'r', 'e', 't', 'i', '_', 't', 'e', 's'].reverse) = some Manifest.sig_set_iterator := by kernel_rfl
theorem slot_si_next : Slot "set_iterator" "__next__" "set_iterator.__next__" :=
  .of (owner := "set_iterator") (n := "__next__") (by rw [typeLookup_type, builtinLookup_eq_fast]; kernel_rfl) (by decide +kernel) (by decide +kernel) (by decide +kernel)
    (by first | exact .inl (by decide +kernel) | exact .inr (by decide +kernel)) (by rw [isSubtype_type]; kernel_rfl)
theorem entry_si_next : entryFor table "set_iterator.__next__" = some Builtin.«set_iterator.__next__» := entryFor_of_tree (by kernel_rfl)
theorem args_si_next (a : Value) : argsOk "set_iterator.__next__" ⟨[a], []⟩ := by
  unfold argsOk; rw [signature?_of (id := "set_iterator.__next__") (n := ['_', '_', 't', 'x', 'e', 'n', '_', '_']) (o := ['r', 'o', 't', 'a', 'r', 'e', 't', 'i', '_', 't', 'e', 's']) (by kernel_rfl) owner_si]; kernel_rfl
theorem slot_si_iter : Slot "set_iterator" "__iter__" "set_iterator.__iter__" :=
  .of (owner := "set_iterator") (n := "__iter__") (by rw [typeLookup_type, builtinLookup_eq_fast]; kernel_rfl) (by decide +kernel) (by decide +kernel) (by decide +kernel)
    (by first | exact .inl (by decide +kernel) | exact .inr (by decide +kernel)) (by rw [isSubtype_type]; kernel_rfl)
theorem args_si_iter (a : Value) : argsOk "set_iterator.__iter__" ⟨[a], []⟩ := by
  unfold argsOk; rw [signature?_of (id := "set_iterator.__iter__") (n := ['_', '_', 'r', 'e', 't', 'i', '_', '_']) (o := ['r', 'o', 't', 'a', 'r', 'e', 't', 'i', '_', 't', 'e', 's']) (by kernel_rfl) owner_si]; kernel_rfl
theorem entry_set_iter : entryFor table "set.__iter__" = some Builtin.«frozenset.__iter__» :=
  entryFor_alias (id' := "frozenset.__iter__") (by kernel_rfl) rfl (by decide +kernel) (by kernel_rfl)
theorem entry_si_iter : entryFor table "set_iterator.__iter__" = some Builtin.«dict_keyiterator.__iter__» :=
  entryFor_alias (id' := "dict_keyiterator.__iter__") (by kernel_rfl) rfl (by decide +kernel) (by kernel_rfl)
section
variable {prog : Program} {w : World} {A : Around} {E : Value → Shared → Prop} {s : Shared}
theorem wpAny_chooseA {M : Model} {src : Source} {n : Nat} {Q : Nat → Shared → Prop} (hn : n ≠ 0) (h : ∀ i d, i < n → Q i { s with drawn := d }) : wpAny M A (choose src n) Q E s := fun _ _ _ => by
  unfold choose
  rw [Sem.wp_choose]
  exact ⟨hn, by simpa using h _ _ (Nat.mod_lt _ (Nat.pos_of_ne_zero hn))⟩
theorem pick_perm {α : Type} : ∀ (l : List α) (i : Nat) (h : i < l.length), (l[i] :: l.eraseIdx i).Perm l
  | [], i, h => by simp at h
  | x :: xs, 0, _ => .refl _
  | x :: xs, i + 1, h => by
    have h' : i < xs.length := by simpa using h
    show (xs[i] :: x :: xs.eraseIdx i).Perm (x :: xs)
    exact (List.Perm.swap _ _ _).trans ((pick_perm xs i h').cons x)
theorem drawOrder_perm {M : Model} {α : Type} : ∀ (n : Nat) (xs : List α) (s : Shared) (Q : List α → Shared → Prop), xs.length = n → (∀ ys d, ys.Perm xs → Q ys { s with drawn := d }) → wpAny M A (drawOrder n xs) Q E s
  | 0, xs, s, Q, hl, h => by
    have : xs = [] := List.length_eq_zero_iff.mp hl
    subst this
    unfold drawOrder
    exact wpAny_pure (h [] s.drawn .nil)
  | n + 1, [], s, Q, hl, h => by cases hl
  | n + 1, x :: xs, s, Q, hl, h => by
    unfold drawOrder
    refine wpAny_bind (wpAny_chooseA (by simp) fun i d hi => ?_)
    have e : (x :: xs)[i]? = some ((x :: xs)[i]) := List.getElem?_eq_getElem hi
    rw [e]
    dsimp only
    refine wpAny_bind (drawOrder_perm n ((x :: xs).eraseIdx i) { s with drawn := d } _ (by rw [List.length_eraseIdx_of_lt hi, hl]; rfl) fun ys d' hp => wpAny_pure (h _ d' ?_))
    exact (hp.cons _).trans (pick_perm _ i hi)
/-- a set as it lies -/
def SetAt (h : Heap) (a : Addr) (es : Array (Int × Value)) (ep : Nat) (t : SetTable) : Prop := ∃ o, h.get? a = some o ∧ o.ExactSet ∧ o.data = .set es ep t ∧ t.fits es.size = true
def itO (first : Value) (i : Nat) (S : Addr) (n ep : Nat) : Obj := { cls := .type "set_iterator", data := .fields #[first, .int i 0, .ref S, .int n 0, .int ep 0] }
theorem setAt_typeIs {a : Addr} {es : Array (Int × Value)} {ep : Nat} {t : SetTable} (h : SetAt s.heap a es ep t) : s.TypeIs (.ref a) "set" := let ⟨o, ho, hx, _⟩ := h; ⟨o, ho, hx.1⟩
theorem iter_set {a : Addr} {es : Array (Int × Value)} {ep : Nat} {t : SetTable} {Q : Value → Shared → Prop} (hS : SetAt s.heap a es ep t) (hz : es.size ≤ sizeLine)
    (h1 : (!w.params.followText "set-order" && (!t.plain && decide (es.size > 1))) = false → Q (.ref s.heap.objs.size) { s with heap := s.heap.push (itO (.int 0 0) 0 a es.size ep) })
    (h2 : (!w.params.followText "set-order" && (!t.plain && decide (es.size > 1))) = true → ∀ (ys : List Nat) d, ys.Perm (List.range es.size) →
      Q (.ref (s.heap.objs.size + 1)) { s with heap := (s.heap.push { cls := .type "tuple", data := .seq (ys.map fun (i : Nat) => rawInt i).toArray }).push (itO (.ref s.heap.objs.size) 0 a es.size ep), drawn := d }) :
    wpAny (model prog w) A (pyIter (.ref a)) Q E s := by
  have hT := setAt_typeIs hS
  obtain ⟨o, ho, hx, hd, hf⟩ := hS
  refine wpAny_pyIter_slot hT F.slot_set_iter (wpAny_call_entry F.slot_set_iter hT entry_set_iter ?_ (F.args_set_iter_1 _))
  unfold Builtin.«frozenset.__iter__»
  refine wpAny_bind (m := Builtin.Frozenset.slot0 _ _) ?_
  show wpAny _ _ (pure a) _ _ s
  refine wpAny_pure ?_
  unfold Builtin.Frozenset.sizeOf setEntries
  refine wpAny_bind (wpAny_bind (wpAny_bind (wpAny_setState_of ho hd hf (wpAny_pure ?_))))
  refine wpAny_pure ?_
  unfold setDrawn setsByText
  refine wpAny_bind (wpAny_bind (wpAny_setState_of ho hd hf ?_))
  dsimp only
  refine wpAny_bind (wpAny_bind (wpAny_askSetting (wpAny_pure ?_)))
  show wpAny _ _ (pure (!w.params.followText "set-order" && (!t.plain && decide (es.size > 1)))) _ _ s
  refine wpAny_pure ?_
  cases c : (!w.params.followText "set-order" && (!t.plain && decide (es.size > 1))) with
  | false =>
    simp only [Bool.false_eq_true, if_false]
    refine wpAny_bind (wpAny_pure ?_)
    unfold setEpoch
    refine wpAny_bind (wpAny_bind (wpAny_setState_of ho hd hf (wpAny_pure ?_)))
    refine wpAny_bind (wpAny_newObj_type (wpAny_pure ⟨_, rfl, "set_iterator", _, ⟨_, Heap.get?_push_size _ rfl, rfl⟩, slot_si_next.lookup, ?_⟩))
    exact h1 c
  | true =>
    simp only [if_true]
    refine wpAny_bind (drawOrder_perm es.size (List.range es.size) s _ (by simp) fun ys d hp => ?_)
    refine wpAny_bind (wpAny_newTuple ?_ (by rw [List.length_map, hp.length_eq, List.length_range]; exact hz))
    unfold setEpoch
    have ho' : (s.heap.push { cls := .type "tuple", data := .seq (ys.map fun (i : Nat) => rawInt i).toArray }).get? a = some o := Heap.get?_push_of_some _ ho
    refine wpAny_bind (wpAny_bind (wpAny_setState_of (s := { s with heap := _, drawn := d }) ho' hd hf (wpAny_pure ?_)))
    refine wpAny_bind (wpAny_newObj_type (wpAny_pure ⟨_, rfl, "set_iterator", _, ⟨_, Heap.get?_push_size _ rfl, rfl⟩, slot_si_next.lookup, ?_⟩))
    have := h2 c ys d hp
    rw [← Heap.size_push s.heap { cls := .type "tuple", data := .seq (ys.map fun (i : Nat) => rawInt i).toArray }] at this
    exact this
end
end L2
set_option Elab.async false
set_option linter.all false
set_option maxRecDepth 100000
namespace L2
open PySem PySem.Spec PyProof.Rows XH
section
variable {prog : Program} {w : World} {A : Around} {E : Value → Shared → Prop} {s : Shared}
theorem SetAt.at {h h' : Heap} {a : Addr} {es : Array (Int × Value)} {ep : Nat} {t : SetTable} (x : SetAt h a es ep t) (k : ∀ o, h.get? a = some o → h'.get? a = some o) : SetAt h' a es ep t := let ⟨o, ho, r⟩ := x; ⟨o, k o ho, r⟩
theorem setEntries_at {a : Addr} {es : Array (Int × Value)} {ep : Nat} {t : SetTable} {Q : Array (Int × Value) → Shared → Prop} (hS : SetAt s.heap a es ep t) (h : Q es s) : wpAny (model prog w) A (setEntries a) Q E s := by
  obtain ⟨o, ho, _, hd, hf⟩ := hS
  unfold setEntries
  exact wpAny_bind (wpAny_setState_of ho hd hf (wpAny_pure h))
theorem setState_at {a : Addr} {es : Array (Int × Value)} {ep : Nat} {t : SetTable} {Q : (Array (Int × Value) × Nat × SetTable) → Shared → Prop} (hS : SetAt s.heap a es ep t) (h : Q (es, ep, t) s) : wpAny (model prog w) A (setState a) Q E s := by
  obtain ⟨o, ho, _, hd, hf⟩ := hS
  exact wpAny_setState_of ho hd hf h
/-- what `next` asks of the set, where the first field is a number: one more thing -/
theorem next_some {I S : Addr} {es : Array (Int × Value)} {ep i slot nx : Nat} {t : SetTable} {x : Value} {Q : Option Value → Shared → Prop} (hI : s.heap.get? I = some (itO (.int slot 0) i S es.size ep)) (hS : SetAt s.heap S es ep t)
    (hn : ∀ (A : Around) (E : Value → Shared → Prop) (Q : Option (Value × Nat) → Shared → Prop), Q (some (x, nx)) s → wpAny (model prog w) A (setNext S slot i ep) Q E s)
    (h : ∀ h', h'.get? I = some (itO (.int nx 0) (i + 1) S es.size ep) → Heap.SameBut I s.heap h' → Q (some x) { s with heap := h' }) : wpAny (model prog w) A (pyNext (.ref I)) Q E s := by
  have hT : s.TypeIs (.ref I) "set_iterator" := ⟨_, hI, rfl⟩
  unfold pyNext
  refine wpAny_bind (wpAny_attempt (wpAny_callSpecial?_slot (name := Str.ofString "__next__") hT slot_si_next (wpAny_call_entry slot_si_next hT entry_si_next ?_ (args_si_next _))))
  unfold Builtin.«set_iterator.__next__»
  refine wpAny_bind (m := slotArgs _ _ _) ?_
  show wpAny _ _ (pure (Value.ref I, [])) _ _ s
  refine wpAny_pure ?_
  refine wpAny_bind (wpAny_fieldsOf hI rfl ?_)
  show wpAny _ _ (setEntries S >>= _) _ _ s
  refine wpAny_bind (setEntries_at hS ?_)
  rw [if_neg (by simp)]
  show wpAny _ _ (setNext S (Int.toNat slot) (Int.toNat i) (Int.toNat ep) >>= _) _ _ s
  simp only [Int.toNat_natCast]
  refine wpAny_bind (hn _ _ _ ?_)
  dsimp only
  refine wpAny_bind (wpAny_setField_rec (vs := #[.int slot 0, .int i 0, .ref S, .int es.size 0, .int ep 0]) hI (by simp) fun h1 e1 s1 => ?_)
  refine wpAny_bind (wpAny_setField_rec (s := { s with heap := h1 }) e1 (by simp) fun h2 e2 s2 => ?_)
  exact wpAny_pure ⟨_, rfl, wpAny_pure (h h2 (by simpa [itO, rawInt] using e2) (s1.trans s2))⟩
theorem next_none {I S : Addr} {es : Array (Int × Value)} {ep i slot : Nat} {t : SetTable} {Q : Option Value → Shared → Prop} (hh : A.handled = none) (hI : s.heap.get? I = some (itO (.int slot 0) i S es.size ep)) (hS : SetAt s.heap S es ep t)
    (hn : ∀ (A : Around) (E : Value → Shared → Prop) (Q : Option (Value × Nat) → Shared → Prop), Q none s → wpAny (model prog w) A (setNext S slot i ep) Q E s)
    (h : ∀ h', Heap.ExtBut I s.heap h' → Q none { s with heap := h' }) : wpAny (model prog w) A (pyNext (.ref I)) Q E s := by
  have hT : s.TypeIs (.ref I) "set_iterator" := ⟨_, hI, rfl⟩
  unfold pyNext
  refine wpAny_bind (wpAny_attempt (wpAny_callSpecial?_slot (name := Str.ofString "__next__") hT slot_si_next (wpAny_call_entry slot_si_next hT entry_si_next ?_ (args_si_next _))))
  unfold Builtin.«set_iterator.__next__»
  refine wpAny_bind (m := slotArgs _ _ _) ?_
  show wpAny _ _ (pure (Value.ref I, [])) _ _ s
  refine wpAny_pure ?_
  refine wpAny_bind (wpAny_fieldsOf hI rfl ?_)
  show wpAny _ _ (setEntries S >>= _) _ _ s
  refine wpAny_bind (setEntries_at hS ?_)
  rw [if_neg (by simp)]
  show wpAny _ _ (setNext S (Int.toNat slot) (Int.toNat i) (Int.toNat ep) >>= _) _ _ s
  simp only [Int.toNat_natCast]
  refine wpAny_bind (hn _ _ _ ?_)
  dsimp only
  refine wpAny_bind (wpAny_setField_rec (vs := #[.int slot 0, .int i 0, .ref S, .int es.size 0, .int ep 0]) hI (by simp) fun h1 e1 s1 => ?_)
  show wpAny _ _ (newExc (.type "StopIteration") [] >>= _) _ _ _
  refine wpAny_bind ?_
  simp only [newExc, newTuple]
  refine wpAny_bind (wpAny_newObj_type ?_ (by size_fits))
  refine wpAny_bind (m := firstArgMember _ _) (wpAny_of_eq (a := Value.none) (by first | rfl | (simp only [firstArgMember]; rfl)) ?_)
  refine wpAny_newObj_type ?_ (by size_fits)
  simp only [raiseNew]
  refine wpAny_bind (wpAny_handled ?_)
  rw [show A.in1.handled = none from hh]
  refine wpAny_bind (wpAny_pure (wpAny_throw ?_))
  refine wpAny_bind (wpAny_isInstance (T := "StopIteration") (b := true) ⟨_, Heap.get?_push_size _ rfl, rfl⟩ isSubtype_stop ?_)
  exact wpAny_pure (h _ ((s1.extBut.push _).push _))
end
end L2
set_option Elab.async false
set_option linter.all false
set_option maxRecDepth 100000
namespace L2
open PySem PySem.Spec PyProof.Rows XH
theorem pickGo_perm {α : Type} (nx : Nat → Nat) : ∀ (f k : Nat) (l : List α) (out : Array α), l.length = f → (pickOrder.go nx f k l out).toList.Perm (out.toList ++ l)
  | 0, k, l, out, h => by
    have : l = [] := List.length_eq_zero_iff.mp h
    subst this
    simp [pickOrder.go]
  | f + 1, k, l, out, h => by
    have hp : 0 < l.length := by omega
    have hi : nx k % l.length < l.length := Nat.mod_lt _ hp
    have e : l[nx k % l.length]? = some (l[nx k % l.length]) := List.getElem?_eq_getElem hi
    rw [pickOrder.go, e]
    dsimp only
    refine (pickGo_perm nx f (k + 1) _ _ (by rw [List.length_eraseIdx_of_lt hi, h]; rfl)).trans ?_
    rw [Array.toList_push, List.append_assoc]
    exact List.Perm.append_left _ (pick_perm l _ hi)
theorem pick_all {α : Type} (nx : Nat → Nat) (xs : Array α) : (pickOrder nx xs).toList.Perm xs.toList := by
  unfold pickOrder
  simpa using pickGo_perm nx xs.size 0 xs.toList #[] (by simp)
section
variable {prog : Program} {w : World} {A : Around} {E : Value → Shared → Prop} {s : Shared}
/-- by the text's order -/
theorem setNext_text {S : Addr} {es : Array (Int × Value)} {ep i slot : Nat} {t : SetTable} {Q : Option (Value × Nat) → Shared → Prop} (hS : SetAt s.heap S es ep t) (hb : w.params.followText "set-order" = true)
    (h : Q (((pickOrder (w.params.setOrder S ep) es)[i]?).map fun e => (e.2, slot)) s) : wpAny (model prog w) A (setNext S slot i ep) Q E s := by
  unfold setNext setsByText
  refine wpAny_bind (setState_at hS ?_)
  dsimp only
  refine wpAny_bind (wpAny_bind (wpAny_askSetting (wpAny_pure ?_)))
  rw [show ((model prog w).w.params.followText "set-order") = true from hb]
  simp only [if_true]
  rw [if_neg (by simp)]
  unfold setWalk setsByText
  refine wpAny_bind (wpAny_bind (setState_at hS ?_))
  dsimp only
  refine wpAny_bind (wpAny_bind (wpAny_askSetting (wpAny_pure ?_)))
  rw [show ((model prog w).w.params.followText "set-order") = true from hb]
  simp only [if_true]
  refine wpAny_bind (wpAny_askSetting (wpAny_pure ?_))
  exact wpAny_pure h
/-- one thing at the most, by its place -/
theorem setNext_few {S : Addr} {es : Array (Int × Value)} {ep i slot : Nat} {t : SetTable} {Q : Option (Value × Nat) → Shared → Prop} (hS : SetAt s.heap S es ep t) (hb : w.params.followText "set-order" = false) (few : es.size ≤ 1) (ld : t.led = true)
    (h : Q (match es[SetTable.below t.place slot]?, t.place[SetTable.below t.place slot]? with | some (_, x), some j => some (x, j + 1) | _, _ => none) s) : wpAny (model prog w) A (setNext S slot i ep) Q E s := by
  unfold setNext setsByText
  refine wpAny_bind (setState_at hS ?_)
  dsimp only
  refine wpAny_bind (wpAny_bind (wpAny_askSetting (wpAny_pure ?_)))
  rw [show ((model prog w).w.params.followText "set-order") = false from hb]
  simp only [Bool.false_eq_true, if_false]
  have d1 : (!t.plain && decide (es.size > 1)) = false := by
    rw [decide_eq_false (by omega), Bool.and_false]
  have d2 : (!t.led && !es.isEmpty) = false := by rw [ld]; rfl
  show wpAny _ _ (if (!t.plain && decide (es.size > 1)) = true then _ else _) _ _ s
  rw [d1]
  simp only [Bool.false_eq_true, if_false]
  refine wpAny_bind ?_
  show wpAny _ _ (if (!t.led && !es.isEmpty) = true then _ else _) _ _ s
  rw [d2]
  simp only [Bool.false_eq_true, if_false]
  refine wpAny_pure ?_
  exact wpAny_pure h
/-- the walk by the text's order -/
theorem walk_text (hh : A.handled = none) (hb : w.params.followText "set-order" = true) (I S : Addr) (ne : S ≠ I) (es : Array (Int × Value)) (ep : Nat) (t : SetTable) :
    Walks prog w A I [I, S] [I] es.size (fun i v => ∃ e, (pickOrder (w.params.setOrder S ep) es).toList[i]? = some e ∧ v = e.2) (fun i h => h.get? I = some (itO (.int 0 0) i S es.size ep) ∧ SetAt h S es ep t) where
  sub := fun b hb => by simp at hb; simp [hb]
  frame := fun _ _ _ st hk => ⟨hk I (by simp) _ st.1, st.2.at fun o e => hk S (by simp) o e⟩
  item := fun i s Q E hi st hQ => by
    have hz : (pickOrder (w.params.setOrder S ep) es).size = es.size := by rw [← Array.length_toList, (pick_all _ es).length_eq, Array.length_toList]
    obtain ⟨x, hx⟩ : ∃ x, (pickOrder (w.params.setOrder S ep) es)[i]? = some x := ⟨_, Array.getElem?_eq_getElem (by rw [hz]; exact hi)⟩
    refine next_some (slot := 0) (nx := 0) (x := x.2) st.1 st.2 (fun A E Q q => setNext_text st.2 hb ?_) fun h' e' sb => ?_
    · rw [hx]; exact q
    · refine hQ _ h' s.toks ⟨_, by rw [Array.getElem?_toList]; exact hx, rfl⟩ ⟨e', st.2.at fun o e => (sb.2 S ne).trans e⟩ fun b o hb e => (sb.2 b fun z => hb (by simp [z])).trans e
  done := fun s Q E st hQ => by
    have hz : (pickOrder (w.params.setOrder S ep) es).size = es.size := by rw [← Array.length_toList, (pick_all _ es).length_eq, Array.length_toList]
    have hx : (pickOrder (w.params.setOrder S ep) es)[es.size]? = none := Array.getElem?_eq_none (by omega)
    refine next_none (slot := 0) hh st.1 st.2 (fun A E Q q => setNext_text st.2 hb ?_) fun h' xb => hQ h' s.toks fun b o hb e => xb b o (fun z => hb (by simp [z])) e
    rw [hx]; exact q
  self := fun i s Q E st hQ => by
    have hT : s.TypeIs (.ref I) "set_iterator" := ⟨_, st.1, rfl⟩
    refine wpAny_pyIter_slot hT slot_si_iter (wpAny_call_entry slot_si_iter hT entry_si_iter ?_ (args_si_iter _))
    show wpAny _ _ (ret (.ref I)) _ _ s
    exact wpAny_pure ⟨_, rfl, "set_iterator", _, hT, slot_si_next.lookup, hQ⟩
theorem arr_one {α : Type} : ∀ {a : Array α}, a.size = 1 → ∃ j, a = #[j]
  | ⟨[j]⟩, _ => ⟨j, rfl⟩
  | ⟨[]⟩, h => by simp at h
  | ⟨_ :: _ :: _⟩, h => by simp at h
theorem below_one (j k : Nat) : SetTable.below #[j] k = if j < k then 1 else 0 := by
  unfold SetTable.below
  simp only [List.size_toArray, List.length_cons, List.length_nil, SetTable.below.go]
  by_cases h : j < k <;> simp [h, SetTable.below.go]
theorem walk_few (hh : A.handled = none) (hb : w.params.followText "set-order" = false) (I S : Addr) (ne : S ≠ I) (es : Array (Int × Value)) (ep : Nat) (t : SetTable) (few : es.size ≤ 1) (ld : t.led = true) (ft : t.fits es.size = true) :
    Walks prog w A I [I, S] [I] es.size (fun i v => ∃ e, es.toList[i]? = some e ∧ v = e.2) (fun i h => (∃ slot : Nat, (i = 0 → slot = 0) ∧ (i ≠ 0 → ∃ j, t.place[0]? = some j ∧ slot = j + 1) ∧ h.get? I = some (itO (.int slot 0) i S es.size ep)) ∧ SetAt h S es ep t) where
  sub := fun b hb => by simp at hb; simp [hb]
  frame := fun _ _ _ st hk => ⟨let ⟨sl, a, b, c⟩ := st.1; ⟨sl, a, b, hk I (by simp) _ c⟩, st.2.at fun o e => hk S (by simp) o e⟩
  item := fun i s Q E hi st hQ => by
    obtain ⟨⟨slot, z1, z2, hI⟩, hS⟩ := st
    have i0 : i = 0 := by omega
    subst i0
    cases z1 rfl
    have pz : t.place.size = 1 := by
      simp only [SetTable.fits, Bool.and_eq_true, beq_iff_eq] at ft
      omega
    obtain ⟨j, ej⟩ := arr_one pz
    obtain ⟨x, hx⟩ : ∃ x, es[0]? = some x := ⟨_, Array.getElem?_eq_getElem hi⟩
    refine next_some (slot := 0) (nx := j + 1) (x := x.2) hI hS (fun A E Q q => setNext_few hS hb few ld ?_) fun h' e' sb => ?_
    · rw [ej, below_one]
      simp only [Nat.not_lt_zero, if_false, hx]
      exact q
    · exact hQ _ h' s.toks ⟨_, by rw [Array.getElem?_toList]; exact hx, rfl⟩ ⟨⟨j + 1, fun z => (by omega), fun _ => ⟨j, by rw [ej]; rfl, rfl⟩, e'⟩, hS.at fun o e => (sb.2 S ne).trans e⟩ fun b o hb e => (sb.2 b fun z => hb (by simp [z])).trans e
  done := fun s Q E st hQ => by
    obtain ⟨⟨slot, z1, z2, hI⟩, hS⟩ := st
    refine next_none (slot := slot) hh hI hS (fun A E Q q => setNext_few hS hb few ld ?_) fun h' xb => hQ h' s.toks fun b o hb e => xb b o (fun z => hb (by simp [z])) e
    have hn : es[SetTable.below t.place slot]? = none := by
      by_cases e0 : es.size = 0
      · exact Array.getElem?_eq_none (by omega)
      · obtain ⟨j, e1, e2⟩ := z2 e0
        have pz : t.place.size = 1 := by
          simp only [SetTable.fits, Bool.and_eq_true, beq_iff_eq] at ft
          omega
        have ej : t.place = #[j] := by
          obtain ⟨j', ej'⟩ := arr_one pz
          rw [ej'] at e1
          simp at e1
          rw [ej', e1]
        rw [ej, below_one, e2, if_pos (by omega)]
        exact Array.getElem?_eq_none (by omega)
    rw [hn]
    exact q
  self := fun i s Q E st hQ => by
    obtain ⟨⟨slot, z1, z2, hI⟩, hS⟩ := st
    have hT : s.TypeIs (.ref I) "set_iterator" := ⟨_, hI, rfl⟩
    refine wpAny_pyIter_slot hT slot_si_iter (wpAny_call_entry slot_si_iter hT entry_si_iter ?_ (args_si_iter _))
    show wpAny _ _ (ret (.ref I)) _ _ s
    exact wpAny_pure ⟨_, rfl, "set_iterator", _, hT, slot_si_next.lookup, hQ⟩
end
end L2
set_option Elab.async false
set_option linter.all false
set_option maxRecDepth 100000
namespace L2
open PySem PySem.Spec PyProof.Rows XH
section
variable {prog : Program} {w : World} {A : Around} {E : Value → Shared → Prop} {s : Shared}
theorem nextD_some {I S T : Addr} {es : Array (Int × Value)} {ep i j : Nat} {t : SetTable} {e : Int × Value} {ys : List Nat} {Q : Option Value → Shared → Prop} (hI : s.heap.get? I = some (itO (.ref T) i S es.size ep)) (hS : SetAt s.heap S es ep t)
    (hT : s.heap.get? T = some { cls := .type "tuple", data := .seq (ys.map fun (i : Nat) => rawInt i).toArray }) (hj : ys[i]? = some j) (he : es[j]? = some e)
    (h : ∀ h', h'.get? I = some (itO (.ref T) (i + 1) S es.size ep) → Heap.SameBut I s.heap h' → Q (some e.2) { s with heap := h' }) : wpAny (model prog w) A (pyNext (.ref I)) Q E s := by
  have hT' : s.TypeIs (.ref I) "set_iterator" := ⟨_, hI, rfl⟩
  unfold pyNext
  refine wpAny_bind (wpAny_attempt (wpAny_callSpecial?_slot (name := Str.ofString "__next__") hT' slot_si_next (wpAny_call_entry slot_si_next hT' entry_si_next ?_ (args_si_next _))))
  unfold Builtin.«set_iterator.__next__»
  refine wpAny_bind (m := slotArgs _ _ _) ?_
  show wpAny _ _ (pure (Value.ref I, [])) _ _ s
  refine wpAny_pure ?_
  refine wpAny_bind (wpAny_fieldsOf hI rfl ?_)
  show wpAny _ _ (setEntries S >>= _) _ _ s
  refine wpAny_bind (setEntries_at hS ?_)
  rw [if_neg (by simp)]
  show wpAny _ _ (seqItems? (.ref T) >>= _) _ _ s
  refine wpAny_bind (wpAny_seqItems hT rfl ?_)
  have hp : ((ys.map fun (i : Nat) => rawInt i).toArray)[(i : Int).toNat]? = some (.int (j : Int) 0) := by
    simp [hj, rawInt]
  dsimp only
  rw [hp]
  dsimp only
  unfold setNextDrawn
  refine wpAny_bind (wpAny_bind (setState_at hS ?_))
  dsimp only
  rw [if_neg (by simp)]
  simp only [Int.toNat_natCast, he]
  refine wpAny_pure ?_
  refine wpAny_bind (wpAny_setField_rec (vs := #[.ref T, .int i 0, .ref S, .int es.size 0, .int ep 0]) hI (by simp) fun h1 e1 s1 => ?_)
  exact wpAny_pure ⟨_, rfl, wpAny_pure (h h1 (by simpa [itO, rawInt] using e1) s1)⟩
theorem nextD_none {I S T : Addr} {es : Array (Int × Value)} {ep i : Nat} {t : SetTable} {ys : List Nat} {Q : Option Value → Shared → Prop} (hh : A.handled = none) (hI : s.heap.get? I = some (itO (.ref T) i S es.size ep)) (hS : SetAt s.heap S es ep t)
    (hT : s.heap.get? T = some { cls := .type "tuple", data := .seq (ys.map fun (i : Nat) => rawInt i).toArray }) (hj : ys[i]? = none)
    (h : ∀ h', Heap.ExtBut I s.heap h' → Q none { s with heap := h' }) : wpAny (model prog w) A (pyNext (.ref I)) Q E s := by
  have hT' : s.TypeIs (.ref I) "set_iterator" := ⟨_, hI, rfl⟩
  unfold pyNext
  refine wpAny_bind (wpAny_attempt (wpAny_callSpecial?_slot (name := Str.ofString "__next__") hT' slot_si_next (wpAny_call_entry slot_si_next hT' entry_si_next ?_ (args_si_next _))))
  unfold Builtin.«set_iterator.__next__»
  refine wpAny_bind (m := slotArgs _ _ _) ?_
  show wpAny _ _ (pure (Value.ref I, [])) _ _ s
  refine wpAny_pure ?_
  refine wpAny_bind (wpAny_fieldsOf hI rfl ?_)
  show wpAny _ _ (setEntries S >>= _) _ _ s
  refine wpAny_bind (setEntries_at hS ?_)
  rw [if_neg (by simp)]
  show wpAny _ _ (seqItems? (.ref T) >>= _) _ _ s
  refine wpAny_bind (wpAny_seqItems hT rfl ?_)
  have hp : ((ys.map fun (i : Nat) => rawInt i).toArray)[(i : Int).toNat]? = none := by
    have := List.getElem?_eq_none_iff.mp hj
    simpa using this
  dsimp only
  rw [hp]
  dsimp only
  refine wpAny_bind (wpAny_setField_rec (vs := #[.ref T, .int i 0, .ref S, .int es.size 0, .int ep 0]) hI (by simp) fun h1 e1 s1 => ?_)
  refine wpAny_bind (wpAny_setField_rec (s := { s with heap := h1 }) e1 (by simp) fun h2 e2 s2 => ?_)
  show wpAny _ _ (newExc (.type "StopIteration") [] >>= _) _ _ _
  refine wpAny_bind ?_
  simp only [newExc, newTuple]
  refine wpAny_bind (wpAny_newObj_type ?_ (by size_fits))
  refine wpAny_bind (m := firstArgMember _ _) (wpAny_of_eq (a := Value.none) (by first | rfl | (simp only [firstArgMember]; rfl)) ?_)
  refine wpAny_newObj_type ?_ (by size_fits)
  simp only [raiseNew]
  refine wpAny_bind (wpAny_handled ?_)
  rw [show A.in1.handled = none from hh]
  refine wpAny_bind (wpAny_pure (wpAny_throw ?_))
  refine wpAny_bind (wpAny_isInstance (T := "StopIteration") (b := true) ⟨_, Heap.get?_push_size _ rfl, rfl⟩ isSubtype_stop ?_)
  exact wpAny_pure (h _ (((s1.trans s2).extBut.push _).push _))
theorem walk_draw (hh : A.handled = none) (I S T : Addr) (ne : S ≠ I) (nT : T ≠ I) (es : Array (Int × Value)) (ep : Nat) (t : SetTable) (ys : List Nat) (hy : ys.Perm (List.range es.size)) :
    Walks prog w A I [I, S, T] [I] es.size (fun i v => ∃ j e, ys[i]? = some j ∧ es[j]? = some e ∧ v = e.2)
      (fun i h => h.get? I = some (itO (.ref T) i S es.size ep) ∧ SetAt h S es ep t ∧ h.get? T = some { cls := .type "tuple", data := .seq (ys.map fun (i : Nat) => rawInt i).toArray }) where
  sub := fun b hb => by simp at hb; simp [hb]
  frame := fun _ _ _ st hk => ⟨hk I (by simp) _ st.1, st.2.1.at fun o e => hk S (by simp) o e, hk T (by simp) _ st.2.2⟩
  item := fun i s Q E hi st hQ => by
    have hl : ys.length = es.size := by rw [hy.length_eq, List.length_range]
    obtain ⟨j, hj⟩ : ∃ j, ys[i]? = some j := ⟨_, List.getElem?_eq_getElem (by rw [hl]; exact hi)⟩
    have jl : j < es.size := List.mem_range.mp (hy.mem_iff.mp (List.mem_of_getElem? hj))
    obtain ⟨e, he⟩ : ∃ e, es[j]? = some e := ⟨_, Array.getElem?_eq_getElem jl⟩
    refine nextD_some st.1 st.2.1 st.2.2 hj he fun h' e' sb => ?_
    exact hQ _ h' s.toks ⟨j, e, hj, he, rfl⟩ ⟨e', st.2.1.at fun o e => (sb.2 S ne).trans e, (sb.2 T nT).trans st.2.2⟩ fun b o hb e => (sb.2 b fun z => hb (by simp [z])).trans e
  done := fun s Q E st hQ => by
    have hl : ys.length = es.size := by rw [hy.length_eq, List.length_range]
    exact nextD_none hh st.1 st.2.1 st.2.2 (List.getElem?_eq_none (by omega)) fun h' xb => hQ h' s.toks fun b o hb e => xb b o (fun z => hb (by simp [z])) e
  self := fun i s Q E st hQ => by
    have hT : s.TypeIs (.ref I) "set_iterator" := ⟨_, st.1, rfl⟩
    refine wpAny_pyIter_slot hT slot_si_iter (wpAny_call_entry slot_si_iter hT entry_si_iter ?_ (args_si_iter _))
    show wpAny _ _ (ret (.ref I)) _ _ s
    exact wpAny_pure ⟨_, rfl, "set_iterator", _, hT, slot_si_next.lookup, hQ⟩
end
end L2
set_option Elab.async false
set_option linter.all false
set_option maxRecDepth 100000
namespace L2
open PySem PySem.Spec PyProof.Rows XH Sw So
theorem Inv.drew {X : Cx} {pins : List (Addr × Obj)} {σ : List (Option V)} {H : Hp} {s : Shared} {d : Drawn} (I : Inv X pins σ H s) : Inv X pins σ H { s with drawn := d } :=
  ⟨I.ok, I.os, I.bare, I.base, I.loc, I.cell, I.free, I.freeC, I.pin, I.hok, I.len⟩
theorem strs_out {prog : Program} {w : World} {es : List (Int × Value)} (te : ∀ e ∈ es, TxE prog w e) {acc : List Value} (hl : acc.length = es.length) (h : ∀ (j : Nat) (v : Value), acc[j]? = some v → ∃ e, es[j]? = some e ∧ v = e.2) : StrsAre acc (es.map fun e => strOf e.2) :=
  strs_of (by rw [hl, List.length_map]) fun j v hv => by
    obtain ⟨e, he, rfl⟩ := h j v hv
    obtain ⟨y, t, rfl⟩ := te e (List.mem_of_getElem? he)
    exact ⟨y, t, by rw [List.getElem?_map, he]; rfl, rfl⟩
section
variable {prog : Program} {w : World} {A : Around} {E : Value → Shared → Prop} {s : Shared}
theorem hint_set {r : Addr} {Q : Bool → Shared → Prop} (hT : s.TypeIs (.ref r) "set") (h : Q false s) : wpAny (model prog w) A (Builtin.List.listLengthHint (.ref r)) Q E s := by
  unfold Builtin.List.listLengthHint
  refine wpAny_bind (wpAny_specialOf hT PySem.F.slot_set_len.lookup ?_)
  generalize hid : ("set.__len__" : String) = id0
  wp_delta
  rw [show splitId id0 = some ("set", "__len__") from by subst hid; decide +kernel]
  subst hid
  refine wpAny_bind (wpAny_isInstance (T := "set") (b := true) hT (by rw [isSubtype_type]; kernel_rfl) ?_)
  refine wpAny_ite_split (fun hab => absurd hab (by decide)) (fun _ => ?_)
  refine wpAny_ite_split (fun _ => ?_) (fun hab => absurd (by decide +kernel) hab)
  refine wpAny_bind (wpAny_typeOf hT ?_)
  exact wpAny_pure h
/-- iter(..) of a set of texts: a walk that gives each once -/
theorem iter_ts {a : Addr} {ys : List Str} {Q : Value → Shared → Prop} (hh : A.handled = none) (hS : TxS prog w s.heap a ys)
    (h : ∀ (s1 : Shared) (I : Addr) (fp : List Addr) (n : Nat) (P : Nat → Value → Prop) (St : Nat → Heap → Prop), Walks prog w A I fp [I] n P St → St 0 s1.heap → s.heap.objs.size ≤ I → I ∈ fp → (∀ b ∈ fp, b = a ∨ s.heap.objs.size ≤ b) → n ≤ sizeLine →
      (∀ b o, s.heap.get? b = some o → s1.heap.get? b = some o) → (∃ d, s1 = { s with heap := s1.heap, drawn := d }) → (∀ acc : Array Value, PySem.ItemsOf P acc n → ∃ zs : List Str, zs.Perm ys ∧ StrsAre acc.toList zs) → Q (.ref I) s1) :
    wpAny (model prog w) A (pyIter (.ref a)) Q E s := by
  obtain ⟨o, es, ep, t, ho, hex, hd, te, pm, hb, hf, ld, pl⟩ := hS
  have SA : SetAt s.heap a es ep t := ⟨o, ho, hex, hd, hf⟩
  have al := Heap.lt_size ho
  have nz : es.size ≤ sizeLine := fits_of_scanBound hb
  refine iter_set SA nz (fun c => ?_) fun c zs d hz => ?_
  · cases hb' : w.params.followText "set-order" with
    | true =>
      refine h _ s.heap.objs.size _ _ _ _ (walk_text hh hb' s.heap.objs.size a (Nat.ne_of_lt al) es ep t) ⟨Heap.get?_push_size _ rfl, SA.at fun o e => Heap.get?_push_of_some _ e⟩ (Nat.le_refl _) (by simp) (by simp) nz (fun b o e => Heap.get?_push_of_some _ e) ⟨s.drawn, rfl⟩ fun acc ha => ?_
      have pp := pick_all (w.params.setOrder a ep) es
      refine ⟨_, (pp.map fun e => strOf e.2).trans pm, strs_out (fun e he => te e (pp.mem_iff.mp he)) (by rw [Array.length_toList, ha.1, pp.length_eq, Array.length_toList]) fun j v hv => ha.2 j v (by rw [← Array.getElem?_toList]; exact hv)⟩
    | false =>
      have few : es.size ≤ 1 := by
        rcases Nat.lt_or_ge 1 es.size with q | q
        · rw [hb', pl (by omega)] at c
          simp at c
          omega
        · exact q
      refine h _ s.heap.objs.size _ _ _ _ (walk_few hh hb' s.heap.objs.size a (Nat.ne_of_lt al) es ep t few (ld hb') hf) ⟨⟨0, fun _ => rfl, fun z => absurd rfl z, Heap.get?_push_size _ rfl⟩, SA.at fun o e => Heap.get?_push_of_some _ e⟩ (Nat.le_refl _) (by simp) (by simp) nz (fun b o e => Heap.get?_push_of_some _ e) ⟨s.drawn, rfl⟩ fun acc ha => ?_
      exact ⟨_, pm, strs_out te (by rw [Array.length_toList, ha.1, Array.length_toList]) fun j v hv => ha.2 j v (by rw [← Array.getElem?_toList]; exact hv)⟩
  · have e1 : (s.heap.push { cls := .type "tuple", data := .seq (zs.map fun (i : Nat) => rawInt i).toArray }).objs.size = s.heap.objs.size + 1 := Heap.size_push ..
    refine h _ (s.heap.objs.size + 1) _ _ _ _ (walk_draw hh (s.heap.objs.size + 1) a s.heap.objs.size (Nat.ne_of_lt (Nat.lt_succ_of_lt al)) (Nat.ne_of_lt (Nat.lt_succ_self _)) es ep t zs hz)
      ⟨(show ((s.heap.push _).push (itO (.ref s.heap.objs.size) 0 a es.size ep)).get? (s.heap.objs.size + 1) = _ from e1 ▸ Heap.get?_push_size (s.heap.push { cls := .type "tuple", data := .seq (zs.map fun (i : Nat) => rawInt i).toArray }) (o := itO (.ref s.heap.objs.size) 0 a es.size ep) rfl), SA.at fun o e => Heap.get?_push_of_some _ (Heap.get?_push_of_some _ e), Heap.get?_push_of_some _ (Heap.get?_push_size _ rfl)⟩ (Nat.le_succ _) (by simp) (fun b hb => by
        simp only [List.mem_cons, List.not_mem_nil, or_false] at hb
        rcases hb with rfl | rfl | rfl
        · exact .inr (Nat.le_succ _)
        · exact .inl rfl
        · exact .inr (Nat.le_refl _)) nz (fun b o e => Heap.get?_push_of_some _ (Heap.get?_push_of_some _ e)) ⟨d, rfl⟩ fun acc ha => ?_
    have hl : zs.length = es.size := by rw [hz.length_eq, List.length_range]
    let es' : List (Int × Value) := zs.map fun j => es.getD j (0, .none)
    have pp : es'.Perm es.toList := by
      refine (hz.map _).trans ?_
      have : (List.range es.size).map (fun j => es.getD j (0, Value.none)) = es.toList := by
        apply List.ext_getElem?
        intro i
        rw [List.getElem?_map, Array.getElem?_toList (xs := es)]
        rcases Nat.lt_or_ge i es.size with q | q
        · rw [List.getElem?_range q, Array.getElem?_eq_getElem q]
          simp [Array.getD, q]
        · rw [List.getElem?_eq_none (by simpa using q), Array.getElem?_eq_none q]
          rfl
      rw [this]
    refine ⟨_, (pp.map fun e => strOf e.2).trans pm, strs_out (fun e he => te e (pp.mem_iff.mp he)) (by rw [Array.length_toList, ha.1, pp.length_eq, Array.length_toList]) fun j v hv => ?_⟩
    obtain ⟨k, e, e2, e3, e4⟩ := ha.2 j v (by rw [← Array.getElem?_toList]; exact hv)
    refine ⟨e, ?_, e4⟩
    show (zs.map _)[j]? = _
    rw [List.getElem?_map, e2]
    simp [Array.getD_eq_getD_getElem?, e3]
/-- a list grown by a set of texts -/
theorem extend_ts {a L : Addr} {c : Nat} {ys : List Str} (hh : A.handled = none) (hS : TxS prog w s.heap a ys) (hL : s.heap.get? L = some { cls := .type "list", data := .seq #[] c }) (ne : L ≠ a) {RR : Result → Shared → Prop}
    (hR : ∀ (h' : Heap) (tk : Nat) (d : Drawn) (acc : Array Value) (c : Nat) (zs : List Str), (∀ b o, b ≠ L → s.heap.get? b = some o → h'.get? b = some o) → h'.get? L = some { cls := .type "list", dict := none, data := .seq acc c, slots := #[] } → zs.Perm ys → StrsAre acc.toList zs → RR (.ok (.ret (.ref L))) { s with heap := h', drawn := d, toks := tk }) :
    wpAny (model prog w) A.in1 (Builtin.List.listExtendWith (.ref L) (.ref a) (.ref L))
      (fun fin s' => match fin with | .done f => RR (.ok f) s' | .again c' => c'.quiet = true ∧ codeAny (model prog w) A c' RR s') (fun e s' => RR (.error e) s') s := by
  have Ll : L < s.heap.objs.size := Heap.lt_size hL
  have tyS : ∀ {s' : Shared}, TxS prog w s'.heap a ys → s'.TypeIs (.ref a) "set" := fun ⟨o, _, _, _, ho, hex, _⟩ => ⟨o, ho, hex.1⟩
  unfold Builtin.List.listExtendWith
  refine wpAny_bind (wpAny_typeOf (T := "set") (tyS hS) ?_)
  have h1 : Builtin.List.listSameRef (.ref L) (.ref a) = false := by simp [Builtin.List.listSameRef, ne]
  simp only [h1, show (Value.type "set" == Value.type "list") = false by decide, show (Value.type "set" == Value.type "tuple") = false by decide, Bool.or_false, Bool.false_eq_true, if_false]
  refine wpAny_bind (iter_ts (A := A.in1) hh hS fun s1 I fp n P St W st hI hIf hfp hn kp hd out => ?_)
  have Lf : L ∉ fp := fun z => (hfp _ z).elim ne fun q => absurd Ll (Nat.not_lt.mpr q)
  obtain ⟨d, es1⟩ := hd
  have hL1 := kp _ _ hL
  have hS2 : TxS prog w s1.heap a ys := let ⟨o, es, ep, t, ho, r⟩ := hS; ⟨o, es, ep, t, kp _ _ ho, r⟩
  refine wpAny_bind (wpAny_holding (hint_set (tyS hS2) ?_))
  have key : ∀ (hp : Heap) (c₁ tk : Nat), St 0 hp → (∀ b o, b ≠ L → s1.heap.get? b = some o → hp.get? b = some o) → hp.get? L = some { cls := .type "list", data := .seq #[] c₁ } →
      codeAny (model prog w) A (.builtin "list.extend.loop" ⟨[.ref L, .ref I, .ref L], []⟩) RR { s1 with heap := hp, toks := tk } := by
    intro hp c₁ tk hst hk hLp
    refine codeAny_extend_loopS W.toS hn L Lf (.ref L) n 0 _ #[] c₁ rfl (Nat.zero_le _) hst hLp (ItemsOf.nil _) fun s' acc' c' hm hS' hacc => ?_
    obtain ⟨zs, z1, z2⟩ := out acc' hacc
    have e' := Moved.eq_with hm
    rw [es1] at e'
    rw [e']
    refine hR s'.heap s'.toks d acc' c' zs (fun b o nb e => hm.heap b o (fun hmem => ?_) (hk b o nb (kp b o e))) hS' z1 z2
    rcases List.mem_cons.mp hmem with q | q
    · exact nb q
    · have bl := Heap.lt_size e
      rw [List.mem_singleton.mp q] at bl
      exact absurd bl (Nat.not_lt.mpr hI)
  refine wpAny_ite_split (fun _ => ?_) (fun _ => wpAny_pure ⟨plainId_quiet PySem.F.plain_extend_loop _, key s1.heap c s1.toks st (fun b o _ e => e) hL1⟩)
  refine wpAny_bind (wpAny_rule ?_)
  refine wpAny_bind ?_
  show wpAny _ _ (updateSeq L (·.push .none) >>= fun _ => updateSeq L (·.pop)) _ _ _
  refine wpAny_bind (wpAny_updateSeq hL1 rfl ?_)
  have hS₂ := Heap.get?_update_self (Obj.mapSeq (·.push Value.none)) hL1 rfl
  refine wpAny_updateSeq (hz := by seq_fits) hS₂ rfl ?_
  have hS₃ := Heap.get?_update_self (Obj.mapSeq (·.pop)) hS₂ rfl
  refine wpAny_pure ⟨plainId_quiet PySem.F.plain_extend_loop _, key _ _ _ (W.frame _ _ _ st fun b hb o e => ?_) (fun b o nb e => ?_) hS₃⟩
  · have nb : b ≠ L := fun z => Lf (z ▸ hb)
    exact (Heap.get?_update_other _ _ (Ne.symm nb)).trans ((Heap.get?_update_other _ _ (Ne.symm nb)).trans e)
  · exact (Heap.get?_update_other _ _ (Ne.symm nb)).trans ((Heap.get?_update_other _ _ (Ne.symm nb)).trans e)
/-- collected into a list that is laid anew -/
theorem collect_ts {a : Addr} {ys : List Str} {R : List Value → Shared → Prop} (hh : A.handled = none) (hS : TxS prog w s.heap a ys)
    (h : ∀ (h' : Heap) (tk : Nat) (d : Drawn) (acc : List Value) (zs : List Str), s.heap.objs.size < h'.objs.size → (∀ b o, s.heap.get? b = some o → h'.get? b = some o) → zs.Perm ys → StrsAre acc zs → R acc { s with heap := h', drawn := d, toks := tk }) :
    wpAny (model prog w) A (collect (.ref a)) R E s := by
  have al : a < s.heap.objs.size := let ⟨o, _, _, _, ho, _⟩ := hS; Heap.lt_size ho
  unfold collect
  refine wpAny_bind (wpAny_runValue (codeAny_builtin entry_proto_collect' ?_))
  rw [Around.under_plainId PySem.F.plain_proto_collect _]
  show wpAny _ A.in1 (newList [] >>= fun l => again (.builtin "list.__iadd__" ⟨[l, .ref a], []⟩)) _ _ s
  refine wpAny_bind (wpAny_newObj_type (wpAny_pure ⟨plainId_quiet PySem.F.plain_list_iadd _, codeAny_builtin entry_list_iadd' ?_⟩))
  rw [Around.under_plainId PySem.F.plain_list_iadd _]
  have fresh : (s.heap.push { cls := .type "list", data := .seq ([] : List Value).toArray }).get? s.heap.objs.size = some { cls := .type "list", data := .seq #[] } := Heap.get?_push_size _ rfl
  have hS1 : TxS prog w (s.heap.push { cls := .type "list", data := .seq ([] : List Value).toArray }) a ys := let ⟨o, es, ep, t, ho, r⟩ := hS; ⟨o, es, ep, t, Heap.get?_push_of_some _ ho, r⟩
  show wpAny _ A.in1 (Builtin.List.listExtendWith (.ref s.heap.objs.size) (.ref a) (.ref s.heap.objs.size)) _ _ _
  have key := extend_ts (A := A) (s := { s with heap := s.heap.push { cls := .type "list", data := .seq ([] : List Value).toArray } })
    (RR := fun (q : Result) (s' : Shared) => ∃ (h' : Heap) (tk : Nat) (d : Drawn) (acc : Array Value) (c : Nat) (zs : List Str), q = .ok (.ret (.ref s.heap.objs.size)) ∧ s' = { s with heap := h', drawn := d, toks := tk } ∧ (∀ b o, s.heap.get? b = some o → h'.get? b = some o) ∧ h'.get? s.heap.objs.size = some { cls := .type "list", dict := none, data := .seq acc c, slots := #[] } ∧ zs.Perm ys ∧ StrsAre acc.toList zs)
    hh hS1 fresh (Nat.ne_of_gt al) (fun h' tk d acc c zs hk hS' z1 z2 => ⟨h', tk, d, acc, c, zs, rfl, rfl, fun b o e => hk b o (Nat.ne_of_lt (Heap.lt_size e)) (Heap.get?_push_of_some _ e), hS', z1, z2⟩)
  refine wpAny_mono key (fun f s' x => ?_) fun e s' x => ?_
  · cases f with
    | done f =>
      obtain ⟨h', tk, d, acc, c, zs, e, rfl, hk, hS', z1, z2⟩ := x
      cases e
      show wpAny _ A (load s.heap.objs.size >>= _) _ _ _
      exact wpAny_bind (wpAny_load hS' (wpAny_pure (h h' tk d acc.toList zs (Heap.lt_size hS') hk z1 z2)))
    | again c₁ =>
      refine ⟨x.1, codeAny_mono x.2 fun q s₂ y => ?_⟩
      obtain ⟨h', tk, d, acc, c, zs, rfl, rfl, hk, hS', z1, z2⟩ := y
      show wpAny _ A (load s.heap.objs.size >>= _) _ _ _
      exact wpAny_bind (wpAny_load hS' (wpAny_pure (h h' tk d acc.toList zs (Heap.lt_size hS') hk z1 z2)))
  · obtain ⟨_, _, _, _, _, _, e', _⟩ := x
    cases e'
end
end L2
set_option Elab.async false
set_option linter.all false
set_option maxRecDepth 100000
namespace L2
open PySem PySem.Spec PyProof.Rows XH Sw So
/-! ### sorted(set(xs)), xs texts -/
def tSortSet (K : PySem.W.Frag) (te : TE) : TE := fun σ H Q => te σ H fun x H1 => ∃ (a : Addr) (xs : List Str), x = .ref a ∧ SqL K H1 a (xs.map V.str) ∧ xs.length < 4000 ∧
  ∀ p ys, H1 p = none → ys.Nodup → (∀ z, z ∈ ys ↔ z ∈ xs) → sortedS ys = true → Q (.ref p) (upd H1 p (.lst (ys.map V.str)))
theorem vals_str : ∀ {xs : List Str} {us : List Value}, Vals (xs.map V.str) us → ∀ (i : Nat) (v : Value), us[i]? = some v → ∃ (y : Str) (t : Tok), xs[i]? = some y ∧ v = Value.str y t
  | [], _, .nil, i, v, h => by simp at h
  | x :: xs, _, .cons r t, 0, v, h => by
    simp at h
    subst h
    obtain ⟨k, rfl⟩ := r
    exact ⟨x, k, rfl, rfl⟩
  | x :: xs, _, .cons r t, i + 1, v, h => vals_str t i v (by simpa using h)
section
variable {X : Cx} {e : Expr} {te : TE} {p1 p2 pos pos2 : Pos}
theorem pe_sortSet (hc : X.calm = true) (g1 : Gl X "sorted") (m1 : X.mg "sorted" = none) (g2 : Gl X "set") (m2 : X.mg "set" = none) (b1 : bootBuiltins "sorted" = some (.builtin "sorted")) (b2 : bootBuiltins "set" = some (.type "set")) (he : PE X e te)
    (hs : starEach [e] X.env = [(false, eval e X.env)] := by rfl) :
    PE X (.Call (.Name "sorted" p1) [.Call (.Name "set" p2) [e] [] pos2] [] pos) (tSortSet X.K te) := by
  intro pins s σ H Q I h
  apply wpAny_Call_Name_kw
  refine ld_blt I g1 m1 b1 ?_ (by decide) (by decide)
  refine Calls.callWith_builtin rfl (Calls.evalArgs_plain ?_)
  refine Calls.spliced_cons (x := eval (.Call (.Name "set" p2) [e] [] pos2) X.env) (rest := []) ?_
  apply wpAny_Call_Name_kw
  refine ld_blt I g2 m2 b2 ?_ (by decide) (by decide)
  refine PyProof.Rows.callWith_type1 ?_ hs rfl
  rw [hs]
  refine Calls.spliced_cons (x := eval e X.env) (rest := []) (thn (he pins s σ H _ I h) fun v s1 ⟨x, H1, I1, r1, a, xs, ex, hq, few, q⟩ => ?_)
  subst ex
  cases r1
  apply Calls.spliced_nil
  obtain ⟨its, rv, pl, hz⟩ := I1.list hq
  have sz : its.toArray.size = xs.length := by rw [List.size_toArray, ← rv.length, List.length_map]
  have hli : s1.heap.IsList a its.toArray := pl.isList
  refine set_listT (xs := xs) (I.ok.hd hc) hli (fun i v hv => vals_str rv i v (by simpa using hv)) sz (by rw [sz]; show xs.length + 1 < 4096; omega) fun h' tk S2 kp => ?_
  apply Calls.spliced_nil
  have dl : (ddT xs its.toArray.size).length ≤ its.toArray.size := ddT_len xs _
  have dz : ddT xs its.toArray.size = xs.foldl insT [] := by unfold ddT; rw [sz, List.take_length]
  have I2 := I1.kept (t' := tk) (h' := h') (fun b o e => kp b o (Heap.lt_size e) e)
  refine Calls.call_function_entry kind_sorted plain_sorted entry_sorted (args_sorted1 _) ?_
  unfold Builtin.«sorted»
  refine wpAny_bind (m := checkCount "sorted" 1 1 _) (wpAny_pure ?_)
  refine wpAny_bind (collect_ts (A := X.A.in1) (s := { s1 with heap := h', toks := tk }) (I.ok.hd hc) S2 fun h2 tk2 d acc ks hlt hkp hp SA => ?_)
  have nd : ks.Nodup := hp.nodup_iff.mpr (dz ▸ foldl_insT_nodup xs [] (by simp))
  have mm : ∀ z, z ∈ ks ↔ z ∈ xs := fun z => by rw [hp.mem_iff, dz, foldl_insT_mem]; simp
  have la : acc.length = ks.length := SA.length
  have lz : acc.length ≤ sizeLine := by
    rw [la, hp.length_eq]
    refine Nat.le_trans dl ?_
    rw [sz]
    have := fits_of_scanBound (n := xs.length) (by show xs.length < 4096; omega)
    exact this
  refine wpAny_bind (wpAny_newList ?_ lz)
  have hoL : (h2.push (seqObj "list" acc.toArray 0)).get? h2.objs.size = some (seqObj "list" acc.toArray 0) := Heap.get?_push_size _ rfl
  refine wpAny_bind (wpAny_holding (wpAny_call_entry slot_list_sort ⟨_, hoL, rfl⟩ entry_list_sort (sort_any strKind_oneLt hoL SA.keysOf (strs_dist SA nd) (fun v₁ v₂ rest e => keyKind_strs (by rw [← e]; exact SA)) lz fun st' hp' hs' => ⟨_, rfl, ?_⟩) (args_list_sort _)))
  obtain ⟨ys, o1, o2, o3⟩ := sorted_out_str SA hp' hs'
  have I3 : Inv X pins σ H1 { s1 with heap := h', drawn := d, toks := tk } := I2.drew (d := d)
  have sl : h'.objs.size ≤ h2.objs.size := Nat.le_of_lt hlt
  refine wpAny_pure ⟨_, rfl, .ref h2.objs.size, _, I3.laid (a := h2.objs.size) (o := .lst (ys.map V.str)) (h' := sortedHeap (h2.push (seqObj "list" acc.toArray 0)) h2.objs.size acc ((arrOf st').map (·.2))) (t' := tk2) (fun b o eo => ?_) sl ?_, rfl, q _ ys (I3.hok.fresh sl) (o2.nodup_iff.mpr nd) (fun z => (o2.mem_iff).trans (mm z)) o3⟩
  · have eo' := hkp b o eo
    have bl := Heap.lt_size eo'
    rw [sortedHeap_old (Nat.ne_of_lt bl) (by rw [size_push']; exact Nat.lt_succ_of_lt bl)]
    exact Heap.get?_push_of_some _ eo'
  · obtain ⟨e, he⟩ := sortedHeap_at (out := (arrOf st').map (·.2)) hoL
    refine ⟨by rw [List.length_map, o2.length_eq, ← la]; exact lz, ((arrOf st').map (·.2)).toList, e, vals_of_strs o1, ?_⟩
    rw [Array.toArray_toList]
    exact he
end
end L2
set_option Elab.async false
set_option linter.all false
set_option maxRecDepth 100000
namespace Sw
open PySem L2 PyProof.Rows So
theorem mapK_keys (ks : List Str) (v : V) : (mapK ks v).map (·.1) = ks.map (fun y => (.inr y : Key)) := by
  unfold mapK
  rw [List.map_map]
  rfl
theorem aheadK_keys (es : List (Str × Option Str)) : (aheadK es).map (·.1) = (keysA es).map (fun y => (.inr y : Key)) := by
  unfold aheadK keysA
  rw [List.map_map, List.map_map]
  rfl
/-- what is told as sorted: all that parts lead to, each once -/
def spInside : Sp := fun vs H Q _ => ∃ (d : Addr) (good : Str) (rows : List (Str × List Str)) (ps : List (Str × Str)), vs = [.ref d, .str good] ∧ DD H d rows ∧ RowsOk rows ps ∧ ps.length ≤ 1000 ∧
  ∀ (l : Addr) (H' : Hp) (ys : List Str), Same H H' → H l = none → H' l = some (.lst (ys.map V.str)) → sortedS ys = true → ys.Nodup → (∀ y, y ∈ ys ↔ Led ps good y) → Q (.ref l) H'
theorem told_uniq {ps : List (Str × Str)} {good : Str} {l m : List Str} (h1 : sortedS l = true) (h2 : sortedS m = true) (n1 : l.Nodup) (n2 : m.Nodup) (e1 : ∀ y, y ∈ l ↔ Led ps good y) (e2 : ∀ y, y ∈ m ↔ Led ps good y) : l = m :=
  sorted_uniq h1 h2 ((List.perm_ext_iff_of_nodup n1 n2).mpr fun y => (e1 y).trans (e2 y).symm)
theorem DRows.free {H : Hp} {p : Addr} (hn : H p = none) : ∀ {rows : List (Str × List Str)} {rs : List Addr}, DRows H rows rs → p ∉ rs
  | [], [], _ => by simp
  | _ :: _, r :: _, h => fun m => by
    rcases List.mem_cons.mp m with e | e
    · have := h.1
      rw [← e, hn] at this
      cases this
    · exact DRows.free hn h.2 e
  | [], _ :: _, h => h.elim
  | _ :: _, [], h => h.elim
theorem nodup_le : ∀ {l m : List Str}, l.Nodup → (∀ y ∈ l, y ∈ m) → l.length ≤ m.length
  | [], m, _, _ => by simp
  | x :: l, m, nd, h => by
    obtain ⟨n1, n2⟩ := List.nodup_cons.mp nd
    have hx := h x (by simp)
    have ih := nodup_le (l := l) (m := m.erase x) n2 fun y hy => (List.mem_erase_of_ne (fun e : y = x => n1 (e ▸ hy))).mpr (h y (List.mem_cons_of_mem _ hy))
    rw [List.length_erase_of_mem hx] at ih
    have := List.length_pos_of_mem hx
    simp
    omega
theorem DD.put_none {H : Hp} {d pn : Addr} {rows : List (Str × List Str)} {rs : List Addr} {x y : Str} (hn : H pn = none) (dr : DRows H rows rs) (e : H d = some (.dK (topK rows rs))) (nd : rs.Nodup) (dn : d ∉ rs) (hw : valV (topK rows rs) (.inr x) = none) :
    DD (upd (upd (upd H pn (.dK [])) d (.dK (putK (topK rows rs) (.inr x) (.ref pn)))) pn (.dK (putK [] (.inr y) (.bl true)))) d (rowsAdd rows x y) := by
  have g3 := same_new hn (.dK [])
  obtain ⟨h1, h2, _⟩ := (dr.same g3).at_none (y := y) (p := pn) hw
  have pd : pn ≠ d := fun z => by rw [z, e] at hn; cases hn
  have pr : pn ∉ rs := DRows.free hn dr
  refine ⟨rs ++ [pn], ?_, ?_, ?_, ?_⟩
  · rw [h1]
    have eN : (upd (upd (upd H pn (.dK [])) d (.dK (putK (topK rows rs) (.inr x) (.ref pn)))) pn (.dK (putK [] (.inr y) (.bl true)))) pn = some (.dK (mapK [y] (.bl true))) := upd_same
    refine DRows.snoc eN ?_
    exact (((dr.same g3).other dn).other pr)
  · rw [h1, h2, upd_ne (Ne.symm pd), upd_same, putK_new _ hw]
  · rw [List.nodup_append]
    refine ⟨nd, by simp, ?_⟩
    intro u hu v hv
    simp at hv
    subst hv
    exact fun z => pr (z ▸ hu)
  · simp
    exact ⟨dn, Ne.symm pd⟩
end Sw
set_option Elab.async false
set_option linter.all false
set_option maxRecDepth 100000
namespace L2
open PySem PySem.Spec PyProof.Rows XH
section
variable {X : Cx} {scope : Scope} {cl : List (Str × Addr)} {os : List Str} {ys : List Str} {js : List Nat} {fp : List Addr} {pins : List (Addr × Obj)} {σ : St} {H : Hp} {s s4 : Shared}
end
section
variable {X : Cx} {scope : Scope} {cl : List (Str × Addr)} {os : List Str} {ys : List Str} {js : List Nat} {elt iter tg : Expr} {px pos : Pos} {wi : TI} {te : TE} {g : TG}
end
end L2

namespace Sw
open PySem L2 XH
end Sw
set_option Elab.async false
set_option linter.all false
set_option maxRecDepth 100000
namespace L2
open PySem PySem.Spec PyProof.Rows XH
section
variable {X : Cx} {scope : Scope} {cl : List (Str × Addr)} {os : List Str} {ys : List Str} {js : List Nat} {elt iter tg : Expr} {px pos : Pos} {wi : TI} {te : TE} {g : TG}
end
end L2
set_option Elab.async false
set_option linter.all false
set_option maxRecDepth 100000
namespace Sw
open PySem L2 XH
/-! ### own classes: their defs as callers see them -/
structure DxM (P : Program) (w : World) (K : PySem.W.Frag) (mg : Str → Option Value) (base : Heap) (CX : CXT) (k : Nat) (f : Addr) (ps : List Str) (dvs : List V) (sp : Sp) where
  fd : FuncData
  ok : FnOk P w K mg base CX k f fd ps sp
  b : Binds K fd ps []
  bd : ∃ ds, Binds K fd ps ds ∧ Vals dvs ds
def DxM.calm {P : Program} {w : World} {K : PySem.W.Frag} {mg : Str → Option Value} {base : Heap} {k : Nat} {f : Addr} {ps : List Str} {dvs : List V} {sp sp0 : Sp} (D : DxM P w K mg base (CX1 P w) k f ps dvs sp) (h : ∀ vs H Q E, sp0 vs H Q E → sp vs H Q E0) : DxM P w K mg base CX0 k f ps dvs sp0 :=
  ⟨D.fd, D.ok.noraise h, D.b, D.bd⟩
/-- o.m(..), the def at f, whatever the class -/
def tMethA (K : PySem.W.Frag) (m : Str) (f : Addr) (sp : Sp) (dvs : List V) (ta : TE) (t : TA) : TE := fun σ H Q => ta σ H fun x H1 => ∃ a C dx fs, x = .ref a ∧ H1 a = some (.ins C dx fs) ∧ Cls K C ∧ Meth K C m f ∧ fs.lookup m = none ∧
  t σ H1 fun vs H2 => sp (x :: (vs ++ dvs)) H2 Q E0
section
variable {X : Cx} {k j : Nat} {f C : Addr} {ps : List Str} {sp : Sp} {dvs : List V} {x m : Str} {p pos apos : Pos} {e o : Expr} {es : List Expr} {ta tb : TE} {t : TA}
theorem pmakeZ (M : Mk X.K C f) (D : DxM X.prog X.w X.K X.mg X.base CX0 k f ps dvs sp) (hr : Room j X.A) (hk : k + 1 ≤ j) (hg : Gl X x) (hm : X.mg x = some (.ref C)) (hdb : (x == ("__debug__" : Str)) = false := by decide) : PE X (.Call (.Name x p) [] [] pos) (tMake C sp [] E0 tNil) :=
  pe_make0 M D.ok (hr.mono hk) hg hm D.b .nil pass0 hdb
theorem run_meth {pins : List (Addr × Obj)} {σ : St} {H1 : Hp} {s1 : Shared} {Q : VK} {a dx : Addr} {fs : List (Str × V)} {pl : Sem Bool} {ds : List Value} (F : FnOk X.prog X.w X.K X.mg X.base CX0 k f fd ps sp) (hr : Room k X.A) (hb : Binds X.K fd ps ds) (hd : Vals dvs ds) (ha : PA X (e :: es) t)
    (hst : starEach (e :: es) X.env = (false, eval e X.env) :: starEach es X.env) (hpl : (backTo pos (starEach es X.env)).any (·.1) = false)
    (I1 : Inv X pins σ H1 s1) (ea : H1 a = some (.ins C dx fs)) (c : Cls X.K C) (hm : Meth X.K C m f) (l : fs.lookup m = none) (q : t σ H1 fun vs H2 => sp (.ref a :: (vs ++ dvs)) H2 Q E0) :
    wpAny (model X.prog X.w) X.A (getMethod (.ref a) m pl) (fun fx s2 => wpAny (model X.prog X.w) X.A (callWith pos fx.1 fx.2 (backTo pos (starEach (e :: es) X.env)) (backToKw pos (keywordEach [] X.env))) (EP X pins σ Q) X.xe s2) X.xe s1 := by
  refine getmeth_ok I1 ea c hm l ?_
  refine PySem.W.callWith_K (first := [.ref a]) (h₀ := X.base) I1.ok.mod.kin hm.kp (thn (ha pos pins s1 σ H1 _ I1 q) fun us s2 ⟨vs, H2, I2, r, q2⟩ => ⟨I2.kIn, ?_⟩) hst hpl
  exact run_fn (us := .ref a :: us) (vs := .ref a :: vs) F hr hb hd pass0 I2 (.cons rfl r) q2
theorem pmeth0 {pl : Sem Bool} (he : PE X o ta) (D : DxM X.prog X.w X.K X.mg X.base CX0 k f ps dvs sp) (hr : Room j X.A) (hk : k ≤ j) (ha : PA X (e :: es) t)
    (hst : starEach (e :: es) X.env = (false, eval e X.env) :: starEach es X.env := by rfl) (hpl : (backTo pos (starEach es X.env)).any (·.1) = false := by rfl)
    (ht : eval (.Call (.Attribute o m apos) (e :: es) [] pos) X.env = (do
      let ov ← eval o X.env
      standAt apos.atName
      let (f, first) ← holding [ov] (getMethod ov m pl)
      callWith pos f first (backTo pos (starEach (e :: es) X.env)) (backToKw pos (keywordEach [] X.env))) := by rfl) :
    PE X (.Call (.Attribute o m apos) (e :: es) [] pos) (tMethA X.K m f sp [] ta t) := by
  intro pins s σ H Q I h
  refine PySem.W.methodCall_KW (pl := pl) (thn (he pins s σ H _ I h) fun u s1 ⟨x, H1, I1, rx, a, C, dx, fs, ex, ea, c, hm, l, q⟩ => ?_) ht
  subst ex
  obtain rfl : u = Value.ref a := rx
  exact run_meth D.ok (hr.mono hk) D.b .nil ha hst hpl I1 ea c hm l q
theorem pmethZ {pl : Sem Bool} (he : PE X o ta) (D : DxM X.prog X.w X.K X.mg X.base CX0 k f ps dvs sp) (hr : Room j X.A) (hk : k ≤ j)
    (ht : eval (.Call (.Attribute o m apos) [] [] pos) X.env = (do
      let ov ← eval o X.env
      standAt apos.atName
      let (f, first) ← holding [ov] (getMethod ov m pl)
      callWith pos f first (backTo pos (starEach [] X.env)) (backToKw pos (keywordEach [] X.env))) := by rfl) :
    PE X (.Call (.Attribute o m apos) [] [] pos) (tMethA X.K m f sp [] ta tNil) := by
  intro pins s σ H Q I h
  refine PySem.W.methodCall_KW (pl := pl) (thn (he pins s σ H _ I h) fun u s1 ⟨x, H1, I1, rx, a, C, dx, fs, ex, ea, c, hm, l, q⟩ => ?_) ht
  subst ex
  obtain rfl : u = Value.ref a := rx
  refine getmeth_ok I1 ea c hm l ?_
  exact PySem.W.callWith_K0 (first := [.ref a]) I1.kIn hm.kp (run_fn (us := [.ref a]) (vs := [.ref a]) D.ok (hr.mono hk) D.b .nil pass0 I1 (.cons rfl .nil) q)
end
end Sw
set_option Elab.async false
set_option linter.all false
set_option maxRecDepth 100000
namespace Sw
open PySem L2 XH
/-! ### packs -/
end Sw
namespace L2
open PySem PySem.Spec PyProof.Rows
end L2
namespace Sw
open PySem L2 XH
end Sw
set_option Elab.async false
set_option linter.all false
set_option maxRecDepth 100000
namespace Sw
open PySem L2 XH
/-! ### many needs: tops, bottoms, and how many figures of two a bottom has -/
end Sw
set_option Elab.async false
set_option linter.all false
set_option maxRecDepth 100000
namespace Sw
open PySem L2 XH
end Sw
namespace L2
open PySem PySem.Spec PyProof.Rows
end L2
set_option Elab.async false
set_option linter.all false
set_option maxRecDepth 100000
namespace Sw
open PySem L2 XH
/-! ### steps: their fields -/
/-! ### rounds -/
end Sw
set_option Elab.async false
set_option linter.all false
set_option maxRecDepth 100000
namespace L2
open PySem PySem.Spec PyProof.Rows XH
section
variable {X : Cx}
end
/-- a list walked in a comprehension whose element may lay new things -/
theorem comp_byL {K : PySem.W.Frag} {a : Addr} {xs : List V} {js : List Nat} {te : TE} {σ : L2.St} {H1 : Hp} {Q : VK} (P : V → V → Prop) (hS : SqL K H1 a xs) (hz : xs.length ≤ sizeLine)
    (step : ∀ x ∈ xs, ∀ H3, Same H1 H3 → ∀ Q' : VK, (∀ y H4, P x y → Same H3 H4 → Q' y H4) → te (some x :: freesOf js σ) H3 Q')
    (fin : ∀ (p : Addr) (ys : List V) (H' : Hp), H1 p = none → ys.length = xs.length → (∀ (i : Nat) (x y : V), xs[i]? = some x → ys[i]? = some y → P x y) → Same H1 H' → H' p = some (.lst ys) → Q (.ref p) H') : compR js te σ Q (Itl K a) H1 := by
  intro p hp
  refine ⟨fun i m ys H2 => i ≤ xs.length ∧ m = xs.length - i ∧ ys.length = i ∧ (∀ (i : Nat) (x y : V), xs[i]? = some x → ys[i]? = some y → P x y) ∧ Same H1 H2 ∧ H2 p = some (.lst ys), ⟨xs.length, Nat.zero_le _, rfl, rfl, fun j x y _ e => by simp at e, Sw.same_new hp _, upd_same⟩, ?_⟩
  rintro i m ys H2 ⟨hi, rfl, hl, hP, g, e⟩
  refine ⟨e, ?_⟩
  have S2 := g.seq hS
  by_cases hin : i < xs.length
  · refine .inr ⟨⟨xs, xs[i], S2, List.getElem?_eq_getElem hin⟩, by omega, fun x H3 hy => ?_⟩
    obtain ⟨rfl, hx⟩ := hy
    have ex := hx xs S2
    refine step x (List.mem_of_getElem? ex) H3 g _ fun y H4 py g4 => ⟨g4 _ _ e, xs.length - (i + 1), by omega, hin, rfl, by simp [hl], fun j x' y' e1 e2 => ?_, Sw.sUpd (g.trans g4) hp _, upd_same⟩
    by_cases hj : j < ys.length
    · rw [List.getElem?_append_left hj] at e2
      exact hP j x' y' e1 e2
    · have ej : j = i := by
        have := (List.getElem?_eq_some_iff.mp e2).1
        simp at this
        omega
      subst ej
      rw [List.getElem?_append_right (by omega), hl] at e2
      simp at e2
      subst e2
      rw [ex] at e1
      cases e1
      exact py
  · have e2 : i = xs.length := by omega
    subst e2
    exact .inl ⟨⟨xs, S2, Nat.le_refl _⟩, fin p ys H2 hp hl hP g e⟩
end L2
namespace Sw
open PySem L2 XH PySem.NumText
/-! ### a row's words, sign by sign -/
/-- PA, shut -/
structure PAk (X : Cx) (es : List Expr) (t : TA) : Prop where
  h : PA X es t
theorem pak_nil {X : Cx} : PAk X [] tNil := ⟨pa_nil⟩
theorem pak_str {X : Cx} {z : Str} {p : Pos} {j} {es : List Expr} {t : TA} (h : PAk X es t) : PAk X (.Constant (.str z) j p :: es) (tCons (tC (.str z)) t) := ⟨pa_cons pe_str h.h⟩
theorem pe_lstk {X : Cx} {es : List Expr} {t : TA} {pos : Pos} (h : PAk X es t) : PE X (.List es pos) (tLst t) := pe_lst h.h
end Sw
set_option Elab.async false
set_option linter.all false
set_option maxRecDepth 100000
namespace L2
open PySem PySem.Spec PyProof.Rows XH
section
variable {X : Cx}
theorem call_int_bl : CallR X (.type "int") (fun xs H Q => ∃ b, xs = [.bl b] ∧ Q (.int (if b = true then 1 else 0)) H) := by
  intro pins s σ H xs us Q I r h
  obtain ⟨b, rfl, q⟩ := h
  obtain ⟨u, rfl, hu⟩ := vals1 r
  obtain rfl : u = Value.bool b := hu
  exact call_int_bool ⟨.int _, H, I.tok _, ⟨_, rfl⟩, q⟩
theorem ix_tupK {K : PySem.W.Frag} (h : X.K = K) : IxR X (rIxT K) := by
  subst h
  exact ix_tup
end
/-! ### things alike, of any depth -/
end L2
namespace Sw
open PySem L2 XH
/-! ### recipes -/
end Sw
set_option Elab.async false
set_option linter.all false
set_option maxRecDepth 100000
namespace Sw
open PySem L2 XH
/-! ### defs of own classes that may refuse -/
/-- o.m(..), the def at f, whatever the class; E: what is wanted of an exception -/
def tMethX (K : PySem.W.Frag) (m : Str) (f : Addr) (sp : Sp) (dvs : List V) (E : L2.St → XK) (ta : TE) (t : TA) : TE := fun σ H Q => ta σ H fun x H1 => ∃ a C dx fs, x = .ref a ∧ H1 a = some (.ins C dx fs) ∧ Cls K C ∧ Meth K C m f ∧ fs.lookup m = none ∧
  t σ H1 fun vs H2 => sp (x :: (vs ++ dvs)) H2 Q (E σ)
section
variable {X : Cx} {k j : Nat} {f C : Addr} {ps : List Str} {sp : Sp} {dvs : List V} {x m : Str} {p pos apos : Pos} {e o : Expr} {es : List Expr} {ta tb : TE} {t : TA} {E : L2.St → XK}
theorem run_methX {pins : List (Addr × Obj)} {σ : L2.St} {H1 : Hp} {s1 : Shared} {Q : VK} {a dx : Addr} {fs : List (Str × V)} {pl : Sem Bool} {ds : List Value} {fd : FuncData} (F : FnOk X.prog X.w X.K X.mg X.base (CX1 X.prog X.w) k f fd ps sp) (hr : Room k X.A) (hb : Binds X.K fd ps ds) (hd : Vals dvs ds) (hx : PassX X E) (ha : PA X (e :: es) t)
    (hst : starEach (e :: es) X.env = (false, eval e X.env) :: starEach es X.env) (hpl : (backTo pos (starEach es X.env)).any (·.1) = false)
    (I1 : Inv X pins σ H1 s1) (ea : H1 a = some (.ins C dx fs)) (c : Cls X.K C) (hm : Meth X.K C m f) (l : fs.lookup m = none) (q : t σ H1 fun vs H2 => sp (.ref a :: (vs ++ dvs)) H2 Q (E σ)) :
    wpAny (model X.prog X.w) X.A (getMethod (.ref a) m pl) (fun fx s2 => wpAny (model X.prog X.w) X.A (callWith pos fx.1 fx.2 (backTo pos (starEach (e :: es) X.env)) (backToKw pos (keywordEach [] X.env))) (EP X pins σ Q) X.xe s2) X.xe s1 := by
  refine getmeth_ok I1 ea c hm l ?_
  refine PySem.W.callWith_K (first := [.ref a]) (h₀ := X.base) I1.ok.mod.kin hm.kp (thn (ha pos pins s1 σ H1 _ I1 q) fun us s2 ⟨vs, H2, I2, r, q2⟩ => ⟨I2.kIn, ?_⟩) hst hpl
  exact run_fnX (us := .ref a :: us) (vs := .ref a :: vs) F hr hb hd hx I2 (.cons rfl r) q2
theorem pmeth1 {pl : Sem Bool} (D : DxM X.prog X.w X.K X.mg X.base (CX1 X.prog X.w) k f ps dvs sp) (hr : Room j X.A) (hk : k ≤ j) (hx : PassX X E) (he : PE X o ta) (ha : PA X (e :: es) t)
    (hst : starEach (e :: es) X.env = (false, eval e X.env) :: starEach es X.env := by rfl) (hpl : (backTo pos (starEach es X.env)).any (·.1) = false := by rfl)
    (ht : eval (.Call (.Attribute o m apos) (e :: es) [] pos) X.env = (do
      let ov ← eval o X.env
      standAt apos.atName
      let (f, first) ← holding [ov] (getMethod ov m pl)
      callWith pos f first (backTo pos (starEach (e :: es) X.env)) (backToKw pos (keywordEach [] X.env))) := by rfl) :
    PE X (.Call (.Attribute o m apos) (e :: es) [] pos) (tMethX X.K m f sp [] E ta t) := by
  intro pins s σ H Q I h
  refine PySem.W.methodCall_KW (pl := pl) (thn (he pins s σ H _ I h) fun u s1 ⟨x, H1, I1, rx, a, C, dx, fs, ex, ea, c, hm, l, q⟩ => ?_) ht
  subst ex
  obtain rfl : u = Value.ref a := rx
  exact run_methX D.ok (hr.mono hk) D.b .nil hx ha hst hpl I1 ea c hm l q
end
end Sw
set_option Elab.async false
set_option linter.all false
set_option maxRecDepth 100000
namespace Sw
open PySem L2 XH PySem.NumText
/-! ### names -/
def letT : Str := "abcdefghijklmnopqrstuvwxyz"
def Nm (z : Str) : Prop := 1 ≤ (sL z).length ∧ (sL z).length ≤ 12 ∧ ∀ c ∈ sL z, 97 ≤ c ∧ c ≤ 122
theorem let_mem (c : Nat) : (!(Builtin.Str.occurrences letT (mkS [c]) 0 letT.length 1).isEmpty) = decide (97 ≤ c ∧ c ≤ 122) := by
  rw [in_one]
  have e : sL letT = (List.range 26).map (97 + ·) := by decide
  rw [e]
  apply decide_eq_decide.mpr
  constructor
  · intro h
    obtain ⟨i, hi, rfl⟩ := List.mem_map.mp h
    have := List.mem_range.mp hi
    omega
  · intro h
    exact List.mem_map.mpr ⟨c - 97, List.mem_range.mpr (by omega), by omega⟩
def spIsName (K : PySem.W.Frag) : Sp := fun vs H Q _ => ∃ x : V, vs = [x] ∧ ((∃ z : Str, x = .str z ∧ z.length ≤ 1000000 ∧ (Nm z → Q (.bl true) H) ∧ (¬ Nm z → Q (.bl false) H)) ∨ ∃ ty, TyOf K H x ty ∧ PySem.W.kitOne K ty (.type "str") = some false ∧ Q (.bl false) H)
end Sw
set_option Elab.async false
set_option linter.all false
set_option maxRecDepth 100000
namespace Sw
open PySem L2 XH
/-! ### larders: names refused -/
def NmV (x : V) : Prop := ∃ z, x = .str z ∧ Nm z
def OddV (K : PySem.W.Frag) (H : Hp) (x : V) : Prop := (∃ z, x = .str z ∧ z.length ≤ 1000000 ∧ ¬ Nm z) ∨ ∃ ty, TyOf K H x ty ∧ PySem.W.kitOne K ty (.type "str") = some false
theorem OddV.same {K : PySem.W.Frag} {H H' : Hp} {x : V} (g : Same H H') (h : OddV K H x) : OddV K H' x := by
  rcases h with h | ⟨ty, a, b⟩
  · exact .inl h
  · exact .inr ⟨ty, ty_same g a, b⟩
theorem cutV_last {xs : List V} (h : 1 ≤ xs.length) : cutV xs none (some (-1)) = xs.dropLast := by
  unfold cutV
  have e1 : HT.sIx xs.length 0 none = 0 := rfl
  have e2 : HT.sIx xs.length xs.length (some (-1)) = xs.length - 1 := by
    unfold HT.sIx
    simp
    omega
  rw [e1, e2, List.drop_zero, Nat.sub_zero, List.dropLast_eq_take]
def spNoL : Sp := fun _ _ _ _ => False
theorem nm_len {z : Str} (h : Nm z) : z.length ≤ 1000000 := by
  have := h.2.1
  have e := sL_len z
  omega
/-- refuse_no_names([..]), all of them names -/
def spRef : Sp := fun vs H Q _ => ∃ (l : Addr) (xs : List V), vs = [.ref l] ∧ H l = some (.lst xs) ∧ (∀ x ∈ xs, NmV x) ∧ Q .non H
/-- .. or not -/
def spRefX (K : PySem.W.Frag) (c : Addr) : Sp := fun vs H Q E => ∃ (l : Addr) (xs : List V), vs = [.ref l] ∧ H l = some (.lst xs) ∧ (∀ x ∈ xs, NmV x ∨ OddV K H x) ∧ ((∀ x ∈ xs, NmV x) → Q .non H) ∧ ((¬ ∀ x ∈ xs, NmV x) → ∀ H', Same H H' → E (.ref c) none H')
theorem ref_of {K : PySem.W.Frag} {c : Addr} {vs : List V} {H : Hp} {Q : VK} {E : XK} (h : spRef vs H Q E) : spRefX K c vs H Q E0 := by
  obtain ⟨l, xs, e, h1, h2, h3⟩ := h
  exact ⟨l, xs, e, h1, fun x hx => .inl (h2 x hx), fun _ => h3, fun z => absurd h2 z⟩
end Sw
set_option Elab.async false
set_option linter.all false
set_option maxRecDepth 100000
namespace Sw
open PySem L2 XH PyProof.Rows
/-- all is kept but what is in F -/
def KF (F : List Addr) (H H' : Hp) : Prop := ∀ a o, a ∉ F → H a = some o → H' a = some o
theorem KF.refl {F : List Addr} {H : Hp} : KF F H H := fun _ _ _ e => e
theorem KF.trans {F : List Addr} {H H' H'' : Hp} (h : KF F H H') (k : KF F H' H'') : KF F H H'' := fun a o n e => k a o n (h a o n e)
theorem KF.of {F : List Addr} {H H' : Hp} (h : Same H H') : KF F H H' := fun a o _ e => h a o e
theorem KF.put {F : List Addr} {H : Hp} {a : Addr} (o : HO) (h : a ∈ F) : KF F H (upd H a o) := fun b ob n e => by
  have q : b ≠ a := fun z => n (by rw [z]; exact h)
  rw [upd_ne q]; exact e
/-- what F has behind is what it had, or new -/
def FG (F F' : List Addr) (H : Hp) : Prop := ∀ a ∈ F', a ∈ F ∨ H a = none
theorem FG.refl {F : List Addr} {H : Hp} : FG F F H := fun _ h => .inl h
/-- a larder: its parts by rows, the names that it knows; F: the dicts that are its own -/
structure LA (C : Addr) (F : List Addr) (H : Hp) (x : Addr) (rows : List (Str × List Str)) (ns : List Str) : Prop where
  ex : ∃ (dx p n : Addr) (fs : List (Str × V)) (rs : List Addr), H x = some (.ins C dx fs) ∧ fs.lookup ("parts" : Str) = some (.ref p) ∧ fs.lookup ("names" : Str) = some (.ref n) ∧ DRows H rows rs ∧ H p = some (.dK (topK rows rs)) ∧ H n = some (.dK (mapK ns (.bl true))) ∧
    F = p :: n :: rs ∧ F.Nodup ∧ ∀ m : Str, m ∈ [("part" : Str), "learn", "known", "held"] → fs.lookup m = none
theorem LA.same {C : Addr} {F : List Addr} {H H' : Hp} {x : Addr} {rows : List (Str × List Str)} {ns : List Str} (h : LA C F H x rows ns) (g : Same H H') : LA C F H' x rows ns := by
  obtain ⟨dx, p, n, fs, rs, a, b, c, d, e, f, i, j, k⟩ := h.ex
  exact ⟨dx, p, n, fs, rs, g _ _ a, b, c, d.same g, g _ _ e, g _ _ f, i, j, k⟩
theorem DRows.dict {H : Hp} {a : Addr} : ∀ {rows : List (Str × List Str)} {rs : List Addr}, DRows H rows rs → a ∈ rs → ∃ kv, H a = some (.dK kv)
  | [], [], _, h => by simp at h
  | _ :: _, r :: _, h, m => by
    rcases List.mem_cons.mp m with e | e
    · subst e; exact ⟨_, h.1⟩
    · exact DRows.dict h.2 e
  | [], _ :: _, h, _ => h.elim
  | _ :: _, [], h, _ => h.elim
/-- its own are dicts -/
theorem LA.dict {C : Addr} {F : List Addr} {H : Hp} {x : Addr} {rows : List (Str × List Str)} {ns : List Str} (h : LA C F H x rows ns) {a : Addr} (m : a ∈ F) : ∃ kv, H a = some (.dK kv) := by
  obtain ⟨dx, p, n, fs, rs, _, _, _, d, e, f, i, _, _⟩ := h.ex
  subst i
  rcases List.mem_cons.mp m with e' | m
  · subst e'; exact ⟨_, e⟩
  rcases List.mem_cons.mp m with e' | m
  · subst e'; exact ⟨_, f⟩
  exact d.dict m
/-- what is no dict is not its own -/
theorem LA.not {C : Addr} {F : List Addr} {H : Hp} {x : Addr} {rows : List (Str × List Str)} {ns : List Str} (h : LA C F H x rows ns) {a : Addr} {o : HO} (e : H a = some o) (k : ∀ kv, o ≠ .dK kv) : a ∉ F := fun m => by
  obtain ⟨kv, e'⟩ := h.dict m
  rw [e] at e'
  exact k kv (Option.some.inj e')
theorem LA.free {C : Addr} {F : List Addr} {H : Hp} {x : Addr} {rows : List (Str × List Str)} {ns : List Str} (h : LA C F H x rows ns) {a : Addr} (e : H a = none) : a ∉ F := fun m => by
  obtain ⟨kv, e'⟩ := h.dict m
  rw [e] at e'; cases e'
theorem LA.dd {C : Addr} {F : List Addr} {H : Hp} {x : Addr} {rows : List (Str × List Str)} {ns : List Str} (h : LA C F H x rows ns) : ∃ (dx p n : Addr) (fs : List (Str × V)), H x = some (.ins C dx fs) ∧ fs.lookup ("parts" : Str) = some (.ref p) ∧ fs.lookup ("names" : Str) = some (.ref n) ∧ DD H p rows ∧ H n = some (.dK (mapK ns (.bl true))) ∧ p ∈ F ∧ n ∈ F ∧ ∀ m : Str, m ∈ [("part" : Str), "learn", "known", "held"] → fs.lookup m = none := by
  obtain ⟨dx, p, n, fs, rs, a, b, c, d, e, f, i, j, k⟩ := h.ex
  subst i
  have j1 := List.nodup_cons.mp j
  have j2 := List.nodup_cons.mp j1.2
  exact ⟨dx, p, n, fs, a, b, c, ⟨rs, d, e, j2.2, fun z => j1.1 (List.mem_cons_of_mem _ z)⟩, f, by simp, by simp, k⟩
/-- the names' dict changed -/
theorem LA.learn {C : Addr} {F : List Addr} {H : Hp} {x n dx : Addr} {fs : List (Str × V)} {rows : List (Str × List Str)} {ns ms : List Str} (h : LA C F H x rows ns) (ex : H x = some (.ins C dx fs)) (en : fs.lookup ("names" : Str) = some (.ref n)) : LA C F (upd H n (.dK (mapK ms (.bl true)))) x rows ms ∧ KF F H (upd H n (.dK (mapK ms (.bl true)))) ∧ n ∈ F := by
  obtain ⟨dx', p, n', fs', rs, a, b, c, d, e, f, i, j, k⟩ := h.ex
  rw [a] at ex; cases ex
  rw [c] at en; cases en
  subst i
  have j1 := List.nodup_cons.mp j
  have j2 := List.nodup_cons.mp j1.2
  have pn : p ≠ n := fun z => j1.1 (by simp [z])
  have xn : x ≠ n := fun z => by rw [z, f] at a; cases a
  exact ⟨⟨dx, p, n, fs, rs, by rw [upd_ne xn]; exact a, b, c, d.other j2.1, by rw [upd_ne pn]; exact e, upd_same, rfl, j, k⟩, KF.put _ (by simp), by simp⟩
/-- a part told: of a good that has parts -/
theorem LA.put_some {C : Addr} {F : List Addr} {H : Hp} {x p dx : Addr} {fs : List (Str × V)} {rows : List (Str × List Str)} {ns : List Str} {g y : Str} {kvs : List (Key × V)} (h : LA C F H x rows ns) (ex : H x = some (.ins C dx fs)) (ep : fs.lookup ("parts" : Str) = some (.ref p)) (e1 : H p = some (.dK kvs)) {w : V} (hw : valV kvs (.inr g) = some w) :
    ∃ r ys, w = .ref r ∧ (g, ys) ∈ rows ∧ H r = some (.dK (mapK ys (.bl true))) ∧ LA C F (upd H r (.dK (mapK (addS ys y) (.bl true)))) x (rowsAdd rows g y) ns ∧ KF F H (upd H r (.dK (mapK (addS ys y) (.bl true)))) := by
  obtain ⟨dx', p', n, fs', rs, a, b, c, d, e, f, i, j, k⟩ := h.ex
  rw [a] at ex; cases ex
  rw [b] at ep; cases ep
  rw [e] at e1; cases e1
  subst i
  have j1 := List.nodup_cons.mp j
  have j2 := List.nodup_cons.mp j1.2
  obtain ⟨r, ys, rfl, hr, hm, hH, hD, hT⟩ := d.at_some (y := y) j2.2 hw
  have pr : p ≠ r := fun z => j1.1 (by rw [z]; exact List.mem_cons_of_mem _ hr)
  have nr : n ≠ r := fun z => j2.1 (by rw [z]; exact hr)
  have xr : x ≠ r := fun z => by rw [z, hH] at a; cases a
  exact ⟨r, ys, rfl, hm, hH, ⟨dx, p, n, fs, rs, by rw [upd_ne xr]; exact a, b, c, hD, by rw [upd_ne pr, hT]; exact e, by rw [upd_ne nr]; exact f, rfl, j, k⟩, KF.put _ (by simp [hr])⟩
/-- .. of one that has none so far -/
theorem LA.put_none {C : Addr} {F : List Addr} {H : Hp} {x p dx pn : Addr} {fs : List (Str × V)} {rows : List (Str × List Str)} {ns : List Str} {g y : Str} {kvs : List (Key × V)} (h : LA C F H x rows ns) (ex : H x = some (.ins C dx fs)) (ep : fs.lookup ("parts" : Str) = some (.ref p)) (e1 : H p = some (.dK kvs)) (hn : H pn = none) (hw : valV kvs (.inr g) = none) :
    LA C (F ++ [pn]) (upd (upd (upd H pn (.dK [])) p (.dK (putK kvs (.inr g) (.ref pn)))) pn (.dK (putK [] (.inr y) (.bl true)))) x (rowsAdd rows g y) ns ∧ KF F H (upd (upd (upd H pn (.dK [])) p (.dK (putK kvs (.inr g) (.ref pn)))) pn (.dK (putK [] (.inr y) (.bl true)))) := by
  have hf := h.free hn
  obtain ⟨dx', p', n, fs', rs, a, b, c, d, e, f, i, j, k⟩ := h.ex
  rw [a] at ex; cases ex
  rw [b] at ep; cases ep
  rw [e] at e1; cases e1
  subst i
  have j1 := List.nodup_cons.mp j
  have j2 := List.nodup_cons.mp j1.2
  have pr : p ∉ rs := fun z => j1.1 (List.mem_cons_of_mem _ z)
  obtain ⟨rs', hD, hP, hN, hd⟩ := (DD.put_none (y := y) hn d e j2.2 pr hw).ex
  have g3 := same_new hn (.dK [])
  obtain ⟨h1, h2, _⟩ := (d.same g3).at_none (y := y) (p := pn) hw
  have pp : pn ≠ p := fun z => hf (by simp [z])
  have np : pn ≠ n := fun z => hf (by simp [z])
  have xp : pn ≠ x := fun z => by rw [z, a] at hn; cases hn
  have nr : pn ∉ rs := fun z => hf (by simp [z])
  have nn : n ≠ p := fun z => j1.1 (by simp [z])
  have xx : x ≠ p := fun z => by rw [z, e] at a; cases a
  refine ⟨⟨dx, p, n, fs, rs ++ [pn], ?_, b, c, ?_, ?_, ?_, rfl, ?_, k⟩, ?_⟩
  · rw [upd_ne (Ne.symm xp), upd_ne xx, upd_ne (Ne.symm xp)]; exact a
  · rw [h1]
    exact DRows.snoc (ys := [y]) upd_same (((d.same g3).other pr).other nr)
  · rw [h1, h2, upd_ne (Ne.symm pp), upd_same, putK_new _ hw]
  · rw [upd_ne (Ne.symm np), upd_ne nn, upd_ne (Ne.symm np)]; exact f
  · show (_ :: _ :: _ ++ [pn]).Nodup
    rw [List.nodup_append]
    refine ⟨j, by simp, ?_⟩
    intro u hu v hv
    simp only [List.mem_singleton] at hv
    subst hv
    exact fun z => hf (z ▸ hu)
  · exact fun q ob nq eq => by
      have q1 : q ≠ pn := fun z => by rw [z, hn] at eq; cases eq
      rw [upd_ne q1, upd_ne (fun z => nq (by simp [z])), upd_ne q1]; exact eq
end Sw
namespace Sw
open PySem L2 XH PyProof.Rows
def larF (p st b n : V) : List (Str × V) := putF "names" n (putF "bars" b (putF "stands" st (putF "parts" p [])))
theorem larF_at {p st b n : V} : (larF p st b n).lookup ("parts" : Str) = some p ∧ (larF p st b n).lookup ("names" : Str) = some n ∧ ∀ m : Str, m ∈ [("part" : Str), "learn", "known", "held"] → (larF p st b n).lookup m = none := by
  refine ⟨?_, ?_, fun m hm => ?_⟩
  · unfold larF
    rw [lookup_putF, if_neg (by decide), lookup_putF, if_neg (by decide), lookup_putF, if_neg (by decide), lookup_putF, if_pos rfl]
  · unfold larF
    rw [lookup_putF, if_pos rfl]
  · simp only [List.mem_cons, List.not_mem_nil, or_false] at hm
    unfold larF
    rcases hm with rfl | rfl | rfl | rfl <;> (rw [lookup_putF, if_neg (by decide), lookup_putF, if_neg (by decide), lookup_putF, if_neg (by decide), lookup_putF, if_neg (by decide)]; rfl)
/-- all is kept but at x -/
def KxL (x : Addr) (H H' : Hp) : Prop := ∀ a o, a ≠ x → H a = some o → H' a = some o
theorem KxL.trans {x : Addr} {H H' H'' : Hp} (h : KxL x H H') (k : KxL x H' H'') : KxL x H H'' := fun a o n e => k a o n (h a o n e)
/-- a new dict, then a field of x -/
theorem KxL.step {x d : Addr} {H : Hp} {o : HO} (o0 : HO) (nd : H d = none) : KxL x H (upd (upd H d o0) x o) := fun a ob n e => by
  rw [upd_ne n, upd_ne (fun z => by rw [z, nd] at e; cases e)]
  exact e
def spLarder (C : Addr) : Sp := fun vs H Q _ => ∃ (x dx : Addr), vs = [.ref x] ∧ H x = some (.ins C dx []) ∧ ∀ H' F, (∀ a o, a ≠ x → H a = some o → H' a = some o) → (∀ a ∈ F, H a = none) → LA C F H' x [] [] → Q .non H'
def spHeld (C : Addr) : Sp := fun vs H Q _ => ∃ (x : Addr) (good : Str) (F : List Addr) (rows : List (Str × List Str)) (ns : List Str) (ps : List (Str × Str)), vs = [.ref x, .str good] ∧ LA C F H x rows ns ∧ RowsOk rows ps ∧ ps.length ≤ 1000 ∧ Nm good ∧
  ∀ (l : Addr) (H' : Hp) (ys : List Str), Same H H' → H' l = some (.lst (ys.map V.str)) → sortedS ys = true → ys.Nodup → (∀ y, y ∈ ys ↔ Led ps good y) → Q (.ref l) H'
def spKnown (C : Addr) : Sp := fun vs H Q _ => ∃ (x : Addr) (F : List Addr) (rows : List (Str × List Str)) (ns : List Str), vs = [.ref x] ∧ LA C F H x rows ns ∧ ns.Nodup ∧
  ∀ (l : Addr) (H' : Hp) (ys : List Str), Same H H' → H' l = some (.lst (ys.map V.str)) → sortedS ys = true → ys.Perm ns → Q (.ref l) H'
/-- learn, where there is room -/
def spLearn (C : Addr) : Sp := fun vs H Q _ => ∃ (x l : Addr) (F : List Addr) (rows : List (Str × List Str)) (ns xs : List Str), vs = [.ref x, .ref l] ∧ LA C F H x rows ns ∧ H l = some (.lst (xs.map V.str)) ∧ ns.length + xs.length ≤ 80 ∧ ns.Nodup ∧
  ∀ (H' : Hp) (ms : List Str), KF F H H' → LA C F H' x rows ms → ms.Nodup → (∀ y, y ∈ ms ↔ y ∈ ns ∨ y ∈ xs) → Q .non H'
/-- part: refused for a name that is none, for a ring, or done -/
def spPartX (K : PySem.W.Frag) (C cN cI : Addr) : Sp := fun vs H Q E => ∃ (x : Addr) (g o : V) (F : List Addr) (rows : List (Str × List Str)) (ns : List Str) (ps : List (Str × Str)), vs = [.ref x, g, o] ∧ LA C F H x rows ns ∧ RowsOk rows ps ∧ ps.length ≤ 900 ∧ ns.Nodup ∧ ns.length ≤ 78 ∧ (NmV g ∨ OddV K H g) ∧ (NmV o ∨ OddV K H o) ∧
  (¬ (NmV g ∧ NmV o) → ∀ H', Same H H' → E (.ref cN) none H') ∧
  ∀ zg zo, g = .str zg → o = .str zo → Nm zg → Nm zo →
    (Led ps zo zg → ∀ d l H' c, Same H H' → H' l = some (.lst ((zg :: List.dropLast c).map V.str)) → H' d = some (.xd [("ring", .ref l)]) → Way ps zo zg c → E (.ref cI) (some d) H') ∧
    (¬ Led ps zo zg → ∀ F' H' ms, KF F H H' → FG F F' H → LA C F' H' x (rowsAdd rows zg zo) ms → ms.Nodup → (∀ y, y ∈ ms ↔ y ∈ ns ∨ y = zg ∨ y = zo) → Q .non H')
def foldS (ns xs : List Str) : List Str := xs.foldl addS ns
theorem foldS_mem {z : Str} : ∀ {xs ns : List Str}, z ∈ foldS ns xs ↔ z ∈ ns ∨ z ∈ xs
  | [], _ => by simp [foldS]
  | x :: xs, ns => by
    show z ∈ foldS (addS ns x) xs ↔ _
    rw [foldS_mem, mem_addS, List.mem_cons]
    exact or_assoc
theorem foldS_nodup : ∀ {xs ns : List Str}, ns.Nodup → (foldS ns xs).Nodup
  | [], _, h => h
  | _ :: xs, _, h => foldS_nodup (xs := xs) (addS_nodup h)
theorem foldS_snoc (ns xs : List Str) (y : Str) : foldS ns (xs ++ [y]) = addS (foldS ns xs) y := by
  unfold foldS
  rw [List.foldl_append]
  rfl
theorem foldS_len : ∀ (xs ns : List Str), (foldS ns xs).length ≤ ns.length + xs.length
  | [], _ => Nat.le_refl _
  | x :: xs, ns => by
    have h := foldS_len xs (addS ns x)
    have := (addS_len ns x).2.2
    show (foldS (addS ns x) xs).length ≤ _
    simp only [List.length_cons]
    omega
end Sw
set_option Elab.async false
set_option linter.all false
set_option maxRecDepth 100000
namespace So
open PySem PyProof.Rows
section
variable {prog : Program} {w : World} {A : Around} {E : Value → Shared → Prop} {s : Shared} {κ : KeyKind} {kd : SortKind}
end
end So
set_option Elab.async false
set_option linter.all false
set_option maxRecDepth 100000
namespace L2
open PySem PySem.Spec PyProof.Rows XH Sw So
section
variable {prog : Program} {w : World} {A : Around} {E : Value → Shared → Prop} {s : Shared}
end
end L2
set_option Elab.async false
set_option linter.all false
set_option maxRecDepth 100000
namespace L2
open PySem PySem.Spec PyProof.Rows XH Sw So
end L2
set_option Elab.async false
set_option linter.all false
set_option maxRecDepth 100000
namespace Sw
open PySem L2 XH PyProof.Rows
/-! ### steps with their uses and second ways -/
end Sw
set_option Elab.async false
set_option linter.all false
set_option maxRecDepth 100000
namespace L2
open PySem PySem.Spec PyProof.Rows XH Sw
end L2
namespace Sw
open PySem L2 XH PyProof.Rows
end Sw
set_option Elab.async false
set_option linter.all false
set_option maxRecDepth 100000
namespace L2
open PySem PySem.Spec PyProof.Rows XH Sw
theorem vals_refs' {cs : List Addr} {its : List Value} (h : Vals (cs.map V.ref) its) : its = cs.map Value.ref := by
  induction cs generalizing its with
  | nil => cases h; rfl
  | cons c cs ih =>
    cases h with
    | cons r rr => cases r; rw [ih rr]; rfl
/-- isinstance(e, (C, ..)) of a refusal -/
theorem call_isiXt {X : Cx} {K : PySem.W.Frag} (hK : X.K = K) : CallR X (.builtin "isinstance") (fun xs H Q => ∃ (a C : Addr) (dx : Option Addr) (t : Addr) (cs : List Addr) (b : Bool), xs = [.ref a, .ref t] ∧ (∃ n, H a = some (excB n a (.ref C) dx)) ∧ XDict H dx ∧ XI K C ∧ H t = some (.tup (cs.map V.ref)) ∧ PySem.W.kitAny K (.ref C) (cs.map Value.ref) = some b ∧ Q (.bl b) H) := by
  subst hK
  intro pins s σ H xs us Q I r h
  obtain ⟨a, C, dx, t, cs, b, rfl, ⟨n, e⟩, d, xi, et, ka, q⟩ := h
  obtain ⟨u, w', rfl, e1, e2⟩ := vals2 r
  cases e1
  cases e2
  obtain ⟨_, its, hv, ht⟩ := (show ObjOk X.prog X.w H s.heap t (.tup (cs.map V.ref)) from I.hok t _ et)
  rw [vals_refs' hv] at ht
  obtain ⟨⟨oc, od, odt, osl⟩, hg, h1, m, h2⟩ := ht
  cases h1
  cases h2
  exact PySem.W.kia_tup (kitx_exc xi) I.kIn (inst_of I e d) hg ka (fun z => nomatch z) fun tk => ⟨.bl b, H, I.tok tk, rfl, q⟩
theorem pe_fldK {X : Cx} {e : Expr} {ta : TE} {f : Str} {pos : Pos} {K : PySem.W.Frag} (hK : X.K = K) (he : PE X e ta) (hb : attributeBase e f X.env (eval e X.env) = eval e X.env) : PE X (.Attribute e f pos) (tFld K ta f) := by
  subst hK
  exact pe_fld he hb
/-! ### long lists of constants and small displays -/
section
variable {X : Cx} {es es' : List Expr} {t t' : TA} {p : Pos} 
theorem pak_int {i : Int} {j} (h : PAk X es t) : PAk X (.Constant (.int i) j p :: es) (tCons (tC (.int i)) t) := ⟨pa_cons pe_int h.h⟩
theorem pak_bl {b : Bool} {j} (h : PAk X es t) : PAk X (.Constant (.bool b) j p :: es) (tCons (tC (.bl b)) t) := ⟨pa_cons pe_bl h.h⟩
theorem pak_non {j} (h : PAk X es t) : PAk X (.Constant .none j p :: es) (tCons (tC .non) t) := ⟨pa_cons pe_non h.h⟩
theorem pak_lst (h' : PAk X es' t') (h : PAk X es t) : PAk X (.List es' p :: es) (tCons (tLst t') t) := ⟨pa_cons (pe_lst h'.h) h.h⟩
theorem pak_tup {x1} (h' : PAk X es' t') (h : PAk X es t) : PAk X (.Tuple es' x1 p :: es) (tCons (tTup t') t) := ⟨pa_cons (pe_tup h'.h) h.h⟩
end
section
variable {X : Cx} {k j : Nat} {f C : Addr} {ps : List Str} {sp : Sp} {dvs : List V} {x m : Str} {p pos apos : Pos} {e o : Expr} {es : List Expr} {ta tb : TE} {t : TA} {E : L2.St → XK}
/-- o.m(e, ..) in the suite of a try -/
theorem pmeth1K {pl : Sem Bool} {K : PySem.W.Frag} (hK : X.K = K) (D : DxM X.prog X.w X.K X.mg X.base (CX1 X.prog X.w) k f ps dvs sp) (hr : Room j X.A) (hk : k ≤ j) (he : PE (X.wish (XS X E)) o ta) (ha : PA (X.wish (XS X E)) (e :: es) t)
    (hst : starEach (e :: es) X.env = (false, eval e X.env) :: starEach es X.env := by rfl) (hpl : (backTo pos (starEach es X.env)).any (·.1) = false := by rfl)
    (ht : eval (.Call (.Attribute o m apos) (e :: es) [] pos) X.env = (do
      let ov ← eval o X.env
      standAt apos.atName
      let (f, first) ← holding [ov] (getMethod ov m pl)
      callWith pos f first (backTo pos (starEach (e :: es) X.env)) (backToKw pos (keywordEach [] X.env))) := by rfl) :
    PE (X.wish (XS X E)) (.Call (.Attribute o m apos) (e :: es) [] pos) (tMethX K m f sp [] E ta t) := by
  subst hK
  exact pmeth1 (X := X.wish (XS X E)) D hr hk passX he ha hst hpl ht
end
end L2
set_option Elab.async false
set_option linter.all false
set_option maxRecDepth 100000
namespace L2
open PySem PySem.Spec PyProof.Rows XH Sw
/-! ### pairs of texts in a list of such -/
section
variable {X : Cx} {pins : List (Addr × Obj)} {σ : St} {H : Hp} {s : Shared}
theorem eq_pairS (I : Inv X pins σ H s) {A : Around} (hu : A.units < cLine) {t t' : Addr} {a b c d : Str} (e : H t = some (.tup [.str a, .str b])) (e' : H t' = some (.tup [.str c, .str d])) : SeqAt.EqAt A s (.ref t) (.ref t') (decide (a = c ∧ b = d)) := by
  by_cases z : t = t'
  · subst z
    rw [e] at e'
    injection e' with e'
    injection e' with e'
    injection e' with h1 h2
    injection h2 with h2 _
    injection h1 with h1
    injection h2 with h2
    rw [decide_eq_true ⟨h1, h2⟩]
    exact SeqAt.EqAt.same _
  refine SeqAt.EqAt.of_refs z ?_
  obtain ⟨i1, v1, p1, _⟩ := I.tuple (SqT.of e)
  obtain ⟨i2, v2, p2, _⟩ := I.tuple (SqT.of e')
  cases v1 with
  | cons r1 v1 =>
    cases v1 with
    | cons r2 v1 =>
      cases v1
      cases v2 with
      | cons r3 v2 =>
        cases v2 with
        | cons r4 v2 =>
          cases v2
          obtain ⟨t1, rfl⟩ := r1
          obtain ⟨t2, rfl⟩ := r2
          obtain ⟨t3, rfl⟩ := r3
          obtain ⟨t4, rfl⟩ := r4
          have q := SeqAt.RcAt.tuples (A := A) (e := fun j => if j = 0 then decide (a = c) else decide (b = d)) p1 p2 hu fun j g1 g2 => by
            have g1' : j < 2 := g1
            rcases (show j = 0 ∨ j = 1 by omega) with rfl | rfl
            · exact SeqAt.EqAt.str_str (A := A.in1) (s := s) a t1 c t3
            · exact SeqAt.EqAt.str_str (A := A.in1) (s := s) b t2 d t4
          have es : ((List.range (min (List.toArray [Value.str a t1, .str b t2]).size (List.toArray [Value.str c t3, .str d t4]).size)).all (fun j => if j = 0 then decide (a = c) else decide (b = d)) && ((List.toArray [Value.str a t1, .str b t2]).size == (List.toArray [Value.str c t3, .str d t4]).size)) = decide (a = c ∧ b = d) := by
            show ((decide (a = c) && (decide (b = d) && true)) && true) = _
            simp
          rw [es] at q
          exact q
def isP (H : Hp) (a b : Str) : Value → Bool
  | .ref r => match H r with
    | some (.tup [.str c, .str d]) => decide (c = a ∧ d = b)
    | _ => false
  | _ => false
theorem isP_at {a b c d : Str} {r : Addr} (e : H r = some (.tup [.str c, .str d])) : isP H a b (.ref r) = decide (c = a ∧ d = b) := by
  show (match H r with | some (.tup [.str c, .str d]) => decide (c = a ∧ d = b) | _ => false) = _
  rw [e]
theorem any_isP {a b : Str} : ∀ {as : List Addr} {ps : List (Str × Str)}, as.length = ps.length → (∀ (i : Nat) (r : Addr) (p : Str × Str), as[i]? = some r → ps[i]? = some p → H r = some (.tup [.str p.1, .str p.2])) → (as.map Value.ref).any (isP H a b) = decide ((a, b) ∈ ps)
  | [], [], _, _ => by simp
  | r :: as, p :: ps, l, h => by
    rw [List.map_cons, List.any_cons, isP_at (h 0 r p rfl rfl), any_isP (by simpa using l) fun i r' p' e1 e2 => h (i + 1) r' p' e1 e2]
    obtain ⟨p1, p2⟩ := p
    rw [Bool.eq_iff_iff]
    simp only [Bool.or_eq_true, decide_eq_true_eq, List.mem_cons, Prod.mk.injEq]
    constructor
    · rintro (⟨h1, h2⟩ | h)
      · exact .inl ⟨h1.symm, h2.symm⟩
      · exact .inr h
    · rintro (⟨h1, h2⟩ | h)
      · exact .inl ⟨h1.symm, h2.symm⟩
      · exact .inr h
  | [], _ :: _, l, _ => by simp at l
  | _ :: _, [], l, _ => by simp at l
theorem in_P (I : Inv X pins σ H s) {A : Around} (hu : A.units < cLine) {t : Addr} {a b : Str} {as : List Addr} {ps : List (Str × Str)} (et : H t = some (.tup [.str a, .str b])) (al : as.length = ps.length) (ep : ∀ (i : Nat) (r : Addr) (p : Str × Str), as[i]? = some r → ps[i]? = some p → H r = some (.tup [.str p.1, .str p.2])) : ∀ w ∈ (as.map Value.ref).toArray, SeqAt.EqAt A s w (.ref t) (isP H a b w) := fun w hw => by
  obtain ⟨r, hr, rfl⟩ := List.mem_map.mp (by simpa using hw)
  obtain ⟨i, hi⟩ := List.mem_iff_getElem?.mp hr
  have il : i < ps.length := by rw [← al]; exact (List.getElem?_eq_some_iff.mp hi).1
  have er := ep i r _ hi (List.getElem?_eq_getElem il)
  rw [isP_at er]
  exact eq_pairS I hu er et
end
theorem op_inP {X : Cx} (hu : X.A.units + 1 < cLine) : OpR X (compareOp .In) (fun x y H Q => ∃ (t l : Addr) (a b : Str) (ps : List (Str × Str)), x = .ref t ∧ y = .ref l ∧ H t = some (.tup [.str a, .str b]) ∧ PL H l ps ∧ Q (.bl (decide ((a, b) ∈ ps))) H) := by
  intro pins s σ H x y v u Q I rx ry h
  obtain ⟨t, l, a, b, ps, rfl, rfl, et, pl, q⟩ := h
  obtain ⟨as, al, el, ep⟩ := pl.ex
  cases rx
  cases ry
  obtain ⟨its, r, p, hz⟩ := I.list (SqL.of el)
  have ei := vals_refs' r
  subst ei
  refine SeqAt.in_listAt (isP H a b) p.isList (in_P I hu et al ep) ⟨.bl _, H, I, rfl, ?_⟩
  rw [show (as.map Value.ref).toArray.any (isP H a b) = (as.map Value.ref).any (isP H a b) by simp, any_isP al ep]
  exact q
theorem op_notInP {X : Cx} (hu : X.A.units + 1 < cLine) : OpR X (compareOp .NotIn) (fun x y H Q => ∃ (t l : Addr) (a b : Str) (ps : List (Str × Str)), x = .ref t ∧ y = .ref l ∧ H t = some (.tup [.str a, .str b]) ∧ PL H l ps ∧ Q (.bl (!decide ((a, b) ∈ ps))) H) := by
  intro pins s σ H x y v u Q I rx ry h
  obtain ⟨t, l, a, b, ps, rfl, rfl, et, pl, q⟩ := h
  obtain ⟨as, al, el, ep⟩ := pl.ex
  cases rx
  cases ry
  obtain ⟨its, r, p, hz⟩ := I.list (SqL.of el)
  have ei := vals_refs' r
  subst ei
  refine SeqAt.notIn_listAt (isP H a b) p.isList (in_P I hu et al ep) ⟨.bl _, H, I, rfl, ?_⟩
  rw [show (as.map Value.ref).toArray.any (isP H a b) = (as.map Value.ref).any (isP H a b) by simp, any_isP al ep]
  exact q
end L2
set_option Elab.async false
set_option linter.all false
set_option maxRecDepth 100000
namespace Sw
open PySem L2 XH PyProof.Rows
theorem xdict_same {H H' : Hp} {dx : Option Addr} (h : XDict H dx) (g : Same H H') : XDict H' dx := by
  cases dx with
  | none => trivial
  | some d => obtain ⟨fs, e⟩ := h; exact ⟨fs, g _ _ e⟩
def spNoName (K : PySem.W.Frag) : Sp := fun vs H Q _ => ∃ n : Int, vs = [.int n] ∧ ∀ (v : V) (H' : Hp), Same H H' → OddV K H' v → ¬ NmV v → Q v H'
def spAloneL (c1 c2 : Addr) : Sp := fun vs H Q _ => ∃ (a C : Addr) (dx : Option Addr), vs = [.ref a] ∧ IsX H a C dx ∧ (C = c1 ∨ C = c2) ∧ ∀ H', Same H H' → Q (.bl true) H'
def tellT (w : Str) (v : V) : HO := .tup [.str w, v, .bl true]
def spToldL (K : PySem.W.Frag) (C : Addr) : Sp := fun vs H Q _ => ∃ (x : Addr) (g o : V) (F : List Addr) (rows : List (Str × List Str)) (ns : List Str) (ps : List (Str × Str)), vs = [.ref x, g, o] ∧ LA C F H x rows ns ∧ RowsOk rows ps ∧ ps.length ≤ 900 ∧ ns.Nodup ∧ ns.length ≤ 78 ∧ (NmV g ∨ OddV K H g) ∧ (NmV o ∨ OddV K H o) ∧
  (¬ (NmV g ∧ NmV o) → ∀ t H', Same H H' → H' t = some (tellT "name" .non) → Q (.ref t) H') ∧
  ∀ zg zo, g = .str zg → o = .str zo → Nm zg → Nm zo →
    (Led ps zo zg → ∀ t l H' c, Same H H' → H' l = some (.lst ((zg :: List.dropLast c).map V.str)) → H' t = some (tellT "ring" (.ref l)) → Way ps zo zg c → Q (.ref t) H') ∧
    (¬ Led ps zo zg → ∀ t F' H' ms, KF F H H' → FG F F' H → LA C F' H' x (rowsAdd rows zg zo) ms → ms.Nodup → (∀ y, y ∈ ms ↔ y ∈ ns ∨ y = zg ∨ y = zo) → H' t = some (tellT "done" .non) → Q (.ref t) H')
def spRing : Sp := fun vs H Q _ => ∃ (l lp : Addr) (zg zo : Str) (ps : List (Str × Str)) (c : List Str), vs = [.ref l, .ref lp, .str zg, .str zo] ∧ H l = some (.lst ((zg :: List.dropLast c).map V.str)) ∧ PL H lp ps ∧ ps.length ≤ 900 ∧ Way ps zo zg c ∧
  ∀ H', Same H H' → Q (.bl true) H'
def spHeldSo (C : Addr) : Sp := fun vs H Q _ => ∃ (x lp : Addr) (good : Str) (F : List Addr) (rows : List (Str × List Str)) (ns : List Str) (ps : List (Str × Str)), vs = [.ref x, .ref lp, .str good] ∧ LA C F H x rows ns ∧ RowsOk rows ps ∧ ps.length ≤ 900 ∧ Nm good ∧ PL H lp ps ∧
  ∀ H', Same H H' → Q (.bl true) H'
/-! ### names by letters -/
def Lt (z : Str) : Prop := ∀ c ∈ sL z, 97 ≤ c ∧ c ≤ 122
theorem Lt.app {x y : Str} (h : Lt x) (k : Lt y) : Lt (x ++ y) := fun c hc => by
  rw [sL_app] at hc
  rcases List.mem_append.mp hc with q | q
  · exact h c q
  · exact k c q
theorem Lt.cut {x : Str} (h : Lt x) (lo hi : Option Int) : Lt (cutS x lo hi) := fun c hc => by
  have hc' : c ∈ ((sL x).drop (HT.sIx x.length 0 lo)).take (HT.sIx x.length x.length hi - HT.sIx x.length 0 lo) := by simpa [sL, cutS] using hc
  exact h c (List.mem_of_mem_drop (List.mem_of_mem_take hc'))
theorem Lt.nil : Lt "" := fun c hc => by
  have : c ∈ ([] : List Nat) := hc
  simp at this
theorem lett_at' {i : Int} (h0 : 0 ≤ i) (h : i < 26) : ∃ c, atI lettT.cps.toList i = some c ∧ 97 ≤ c ∧ c ≤ 122 := by
  obtain ⟨c, hc⟩ := lett_at h0 h
  refine ⟨c, hc, ?_⟩
  have hm : c ∈ lettT.cps.toList := by
    unfold atI at hc
    obtain ⟨j, _, hj⟩ := Option.bind_eq_some_iff.mp hc
    exact List.mem_of_getElem? hj
  have e : lettT.cps.toList = (List.range 26).map (97 + ·) := by decide
  rw [e] at hm
  obtain ⟨k, hk, rfl⟩ := List.mem_map.mp hm
  have := List.mem_range.mp hk
  omega
theorem Lt.one {c : Nat} (h : 97 ≤ c ∧ c ≤ 122) : Lt ⟨#[c]⟩ := fun d hd => by
  have : d ∈ [c] := hd
  rw [List.mem_singleton.mp this]
  exact h
theorem cutS_hi {x : Str} {i : Int} (h : 0 ≤ i) : (cutS x none (some i)).length = min i.toNat x.length := by
  have e1 : HT.sIx x.length 0 none = 0 := rfl
  have e2 : HT.sIx x.length x.length (some i) = min i.toNat x.length := by
    unfold HT.sIx
    simp
    omega
  show ((x.cps.toList.drop _).take _).toArray.size = _
  rw [e1, e2, List.size_toArray, List.length_take, List.length_drop]
  have : x.cps.toList.length = x.length := by simp [Str.length]
  omega
theorem cutS_lo {x : Str} {i : Int} (h : 0 ≤ i) : (cutS x (some i) none).length = x.length - i.toNat := by
  have e1 : HT.sIx x.length 0 (some i) = min i.toNat x.length := by
    unfold HT.sIx
    simp
    omega
  have e2 : HT.sIx x.length x.length none = x.length := rfl
  show ((x.cps.toList.drop _).take _).toArray.size = _
  rw [e1, e2, List.size_toArray, List.length_take, List.length_drop]
  have : x.cps.toList.length = x.length := by simp [Str.length]
  omega
theorem Lt.nm {z : Str} (h : Lt z) (h1 : 1 ≤ z.length) (h2 : z.length ≤ 12) : Nm z := ⟨by rw [sL_len]; exact h1, by rw [sL_len]; exact h2, h⟩
def spNames9 : Sp := fun vs H Q _ => ∃ n m : Int, vs = [.int n, .int m] ∧ 0 ≤ m ∧ m ≤ 12 ∧ ∀ (l : Addr) (H' : Hp) (zs : List Str), Same H H' → H' l = some (.lst (zs.map V.str)) → (zs.length : Int) = m → (∀ z ∈ zs, Nm z) → Q (.ref l) H'
def oddL (l t : Addr) : List V := [.str "", .str "A", .str "a b", .str "ab1", .str "abcdefghijklm", .non, .int 7, .bl true, .ref l, .ref t, .str "a-", .str "aB", .int 0, .str " a", .str "a\n"]
theorem odd_str {K : PySem.W.Frag} {H : Hp} {z : Str} (n : ¬ Nm z) (h : z.length ≤ 1000000 := by decide) : OddV K H (.str z) ∧ ¬ NmV (.str z) :=
  ⟨.inl ⟨z, rfl, h, n⟩, fun ⟨y, e, q⟩ => by cases e; exact n q⟩
theorem odd_ty {K : PySem.W.Frag} {H : Hp} {v : V} {ty : Value} (h : TyOf K H v ty) (k : PySem.W.kitOne K ty (.type "str") = some false) (hv : ∀ z, v ≠ .str z) : OddV K H v ∧ ¬ NmV v :=
  ⟨.inr ⟨ty, h, k⟩, fun ⟨y, e, q⟩ => hv y e⟩
theorem oddL_at {K : PySem.W.Frag} {H : Hp} {l t : Addr} {i : Int} (h0 : 0 ≤ i) (h1 : i < 15) (el : H l = some (.lst [.str "a"])) (et : H t = some (.tup [.str "a", .str "b"])) : ∃ v, atI (oddL l t) i = some v ∧ OddV K H v ∧ ¬ NmV v := by
  obtain ⟨v, hv, ev⟩ := atI_in (xs := oddL l t) h0 (by show i < ((15 : Nat) : Int); exact h1)
  refine ⟨v, ev, ?_⟩
  unfold oddL at hv
  simp only [List.mem_cons, List.not_mem_nil, or_false] at hv
  rcases hv with rfl | rfl | rfl | rfl | rfl | rfl | rfl | rfl | rfl | rfl | rfl | rfl | rfl | rfl | rfl
  · exact odd_str fun h => absurd h.1 (by decide)
  · exact odd_str fun h => absurd (h.2.2 65 (by decide)) (by decide)
  · exact odd_str fun h => absurd (h.2.2 32 (by decide)) (by decide)
  · exact odd_str fun h => absurd (h.2.2 49 (by decide)) (by decide)
  · exact odd_str fun h => absurd h.2.1 (by decide)
  · exact odd_ty .non rfl fun _ z => nomatch z
  · exact odd_ty (.int _) rfl fun _ z => nomatch z
  · exact odd_ty (.bl _) rfl fun _ z => nomatch z
  · exact odd_ty (.lst el) rfl fun _ z => nomatch z
  · exact odd_ty (.tup et) rfl fun _ z => nomatch z
  · exact odd_str fun h => absurd (h.2.2 45 (by decide)) (by decide)
  · exact odd_str fun h => absurd (h.2.2 66 (by decide)) (by decide)
  · exact odd_ty (.int _) rfl fun _ z => nomatch z
  · exact odd_str fun h => absurd (h.2.2 32 (by decide)) (by decide)
  · exact odd_str fun h => absurd (h.2.2 10 (by decide)) (by decide)
end Sw
set_option Elab.async false
set_option linter.all false
set_option maxRecDepth 100000
namespace Sw
open PySem L2 XH PyProof.Rows
theorem PL.kf {C : Addr} {F : List Addr} {H H' : Hp} {x l : Addr} {rows : List (Str × List Str)} {ns : List Str} {ps : List (Str × Str)} (la : LA C F H x rows ns) (k : KF F H H') (h : PL H l ps) : PL H' l ps := by
  obtain ⟨as, h1, h2, h3⟩ := h.ex
  exact ⟨as, h1, k _ _ (la.not h2 fun _ z => nomatch z) h2, fun i a p e1 e2 => k _ _ (la.not (h3 i a p e1 e2) fun _ z => nomatch z) (h3 i a p e1 e2)⟩
theorem rowsAdd_same : ∀ {rows : List (Str × List Str)} {x y : Str}, (rows.map (·.1)).Nodup → InRow rows x y → rowsAdd rows x y = rows
  | [], x, y, _, ⟨_, h, _⟩ => by simp at h
  | (c, ys) :: r, x, y, nd, h => by
    have nd' := List.nodup_cons.mp (show (c :: r.map (·.1)).Nodup from nd)
    unfold rowsAdd
    by_cases z : c = x
    · rw [if_pos z]
      rcases inRow_cons.mp h with ⟨_, q⟩ | ⟨zs, q, _⟩
      · have : addS ys y = ys := by unfold addS; rw [if_pos q]
        rw [this]
      · exact absurd (List.mem_map.mpr ⟨_, q, z.symm⟩) nd'.1
    · rw [if_neg z]
      rcases inRow_cons.mp h with ⟨e, _⟩ | q
      · exact absurd e z
      · rw [rowsAdd_same nd'.2 q]
theorem LA.other {C : Addr} {F : List Addr} {H : Hp} {x l : Addr} {rows : List (Str × List Str)} {ns : List Str} {xs : List V} (o : HO) (la : LA C F H x rows ns) (e : H l = some (.lst xs)) : LA C F (upd H l o) x rows ns := by
  have nf := la.not e fun _ z => nomatch z
  obtain ⟨dx, p, n, fs, rs, a, b, c, d, e', f, i, j, k⟩ := la.ex
  subst i
  have xl : x ≠ l := fun z => by rw [z, e] at a; cases a
  have pl : p ≠ l := fun z => nf (by simp [z])
  have nl : n ≠ l := fun z => nf (by simp [z])
  exact ⟨dx, p, n, fs, rs, by rw [upd_ne xl]; exact a, b, c, d.other (fun z => nf (by simp [z])), by rw [upd_ne pl]; exact e', by rw [upd_ne nl]; exact f, rfl, j, k⟩
/-- the law's own: larder, names, pairs told -/
structure LwA (C : Addr) (H : Hp) (x ln lp : Addr) (zs : List Str) (ps : List (Str × Str)) : Prop where
  ex : ∃ F rows ns, LA C F H x rows ns ∧ RowsOk rows ps ∧ ns.Nodup ∧ ∀ y, y ∈ ns ↔ ∃ p ∈ ps, y = p.1 ∨ y = p.2
  nm : H ln = some (.lst (zs.map V.str))
  pl : PL H lp ps
  inz : ∀ p ∈ ps, p.1 ∈ zs ∧ p.2 ∈ zs
  ne : ln ≠ lp
theorem LwA.same {C : Addr} {H H' : Hp} {x ln lp : Addr} {zs : List Str} {ps : List (Str × Str)} (h : LwA C H x ln lp zs ps) (g : Same H H') : LwA C H' x ln lp zs ps := by
  obtain ⟨F, rows, ns, la, a⟩ := h.ex
  exact ⟨⟨F, rows, ns, la.same g, a⟩, g _ _ h.nm, h.pl.same g, h.inz, h.ne⟩
/-- a part told, the pair not yet written down -/
structure LwB (C : Addr) (H : Hp) (x ln lp : Addr) (zs : List Str) (ps : List (Str × Str)) (zg zo : Str) : Prop where
  ex : ∃ F rows ns, LA C F H x (rowsAdd rows zg zo) ns ∧ RowsOk rows ps ∧ ns.Nodup ∧ ∀ y, y ∈ ns ↔ (∃ p ∈ ps, y = p.1 ∨ y = p.2) ∨ y = zg ∨ y = zo
  nm : H ln = some (.lst (zs.map V.str))
  pl : PL H lp ps
  inz : ∀ p ∈ ps, p.1 ∈ zs ∧ p.2 ∈ zs
  ne : ln ≠ lp
theorem LwB.same {C : Addr} {H H' : Hp} {x ln lp : Addr} {zs : List Str} {ps : List (Str × Str)} {zg zo : Str} (h : LwB C H x ln lp zs ps zg zo) (g : Same H H') : LwB C H' x ln lp zs ps zg zo := by
  obtain ⟨F, rows, ns, la, a⟩ := h.ex
  exact ⟨⟨F, rows, ns, la.same g, a⟩, g _ _ h.nm, h.pl.same g, h.inz, h.ne⟩
theorem LwB.old {C : Addr} {H : Hp} {x ln lp : Addr} {zs : List Str} {ps : List (Str × Str)} {zg zo : Str} (h : LwB C H x ln lp zs ps zg zo) (m : (zg, zo) ∈ ps) : LwA C H x ln lp zs ps := by
  obtain ⟨F, rows, ns, la, ok, nd, hy⟩ := h.ex
  rw [rowsAdd_same ok.keys ((ok.mem _ _).mpr m)] at la
  refine ⟨⟨F, rows, ns, la, ok, nd, fun y => (hy y).trans ⟨?_, .inl⟩⟩, h.nm, h.pl, h.inz, h.ne⟩
  rintro (q | rfl | rfl)
  · exact q
  · exact ⟨_, m, .inl rfl⟩
  · exact ⟨_, m, .inr rfl⟩
theorem LwB.new {C : Addr} {H : Hp} {x ln lp t : Addr} {zs : List Str} {ps : List (Str × Str)} {zg zo : Str} (h : LwB C H x ln lp zs ps zg zo) (ht : H t = some (.tup [.str zg, .str zo])) (gz : zg ∈ zs) (oz : zo ∈ zs) : ∃ xs, H lp = some (.lst xs) ∧ xs.length = ps.length ∧ LwA C (upd H lp (.lst (xs ++ [.ref t]))) x ln lp zs (ps ++ [(zg, zo)]) := by
  obtain ⟨xs, e, l, pl⟩ := h.pl.snoc ht
  obtain ⟨F, rows, ns, la, ok, nd, hy⟩ := h.ex
  refine ⟨xs, e, l, ⟨F, _, ns, la.other _ e, ok.add (zg, zo), nd, fun y => (hy y).trans ?_⟩, by rw [upd_ne h.ne]; exact h.nm, pl, fun p hp => ?_, h.ne⟩
  · simp only [List.mem_append, List.mem_singleton]
    constructor
    · rintro (⟨p, hp, q⟩ | q)
      · exact ⟨p, .inl hp, q⟩
      · exact ⟨_, .inr rfl, q⟩
    · rintro ⟨p, hp | rfl, q⟩
      · exact .inl ⟨p, hp, q⟩
      · exact .inr q
  · rcases List.mem_append.mp hp with q | q
    · exact h.inz p q
    · rw [List.mem_singleton.mp q]; exact ⟨gz, oz⟩
theorem LwA.few {C : Addr} {H : Hp} {x ln lp : Addr} {zs : List Str} {ps : List (Str × Str)} (h : LwA C H x ln lp zs ps) {ns : List Str} (nd : ns.Nodup) (hy : ∀ y, y ∈ ns ↔ ∃ p ∈ ps, y = p.1 ∨ y = p.2) : ns.length ≤ zs.length :=
  nodup_le nd fun y m => by
    obtain ⟨p, hp, rfl | rfl⟩ := (hy y).mp m
    · exact (h.inz p hp).1
    · exact (h.inz p hp).2
theorem odd_of {K : PySem.W.Frag} {C : Addr} {H : Hp} {x ln lp : Addr} {zs : List Str} {ps : List (Str × Str)} {g o : V} {Q : VK} {E : XK} (h : LwA C H x ln lp zs ps) (hz : zs.length ≤ 12) (few : ps.length ≤ 900) (hg : NmV g ∨ OddV K H g) (ho : NmV o ∨ OddV K H o) (nn : ¬ (NmV g ∧ NmV o)) (q : ∀ t H', Same H H' → H' t = some (tellT "name" .non) → Q (.ref t) H') : spToldL K C [.ref x, g, o] H Q E := by
  obtain ⟨F, rows, ns, la, ok, nd, hy⟩ := h.ex
  have := h.few nd hy
  exact ⟨x, g, o, F, rows, ns, ps, rfl, la, ok, few, nd, by omega, hg, ho, fun _ => q, fun zg zo e1 e2 m1 m2 => absurd ⟨⟨zg, e1, m1⟩, ⟨zo, e2, m2⟩⟩ nn⟩
theorem told_of {K : PySem.W.Frag} {C : Addr} {H : Hp} {x ln lp : Addr} {zs : List Str} {ps : List (Str × Str)} {zg zo : Str} {Q : VK} {E : XK} (h : LwA C H x ln lp zs ps) (hz : zs.length ≤ 12) (few : ps.length ≤ 900) (mg : Nm zg) (mo : Nm zo)
    (qR : Led ps zo zg → ∀ t l H' c, Same H H' → H' l = some (.lst ((zg :: List.dropLast c).map V.str)) → H' t = some (tellT "ring" (.ref l)) → Way ps zo zg c → Q (.ref t) H')
    (qD : ¬ Led ps zo zg → ∀ t H', (∀ a o, H a = some o → (∀ kv, o ≠ .dK kv) → H' a = some o) → LwB C H' x ln lp zs ps zg zo → H' t = some (tellT "done" .non) → Q (.ref t) H') : spToldL K C [.ref x, .str zg, .str zo] H Q E := by
  obtain ⟨F, rows, ns, la, ok, nd, hy⟩ := h.ex
  have := h.few nd hy
  refine ⟨x, _, _, F, rows, ns, ps, rfl, la, ok, few, nd, by omega, .inl ⟨_, rfl, mg⟩, .inl ⟨_, rfl, mo⟩, fun z => absurd ⟨⟨_, rfl, mg⟩, ⟨_, rfl, mo⟩⟩ z, fun z1 z2 e1 e2 _ _ => ?_⟩
  cases e1
  cases e2
  refine ⟨qR, fun nl t F' H' ms k fg la' nd' hm et => qD nl t H' (fun a o e no => k _ _ (la.not e no) e) ⟨⟨F', rows, ms, la', ok, nd', fun y => (hm y).trans ?_⟩, k _ _ (la.not h.nm fun _ z => nomatch z) h.nm, h.pl.kf la k, h.inz, h.ne⟩ et⟩
  rw [hy]
theorem pairs_col {H : Hp} {as : List Addr} {ps : List (Str × Str)} (f : Str × Str → Str) (al : as.length = ps.length) (ep : ∀ (i : Nat) (a : Addr) (p : Str × Str), as[i]? = some a → ps[i]? = some p → H a = some (.tup [.str p.1, .str p.2])) {ys : List V} (hl : ys.length = (as.map V.ref).length)
    (ht : ∀ (i : Nat) (x y : V), (as.map V.ref)[i]? = some x → ys[i]? = some y → ∃ (r : Addr) (z : Str × Str), x = .ref r ∧ H r = some (.tup [.str z.1, .str z.2]) ∧ y = .str (f z)) : ys = (ps.map f).map V.str := by
  rw [List.length_map] at hl
  apply List.ext_getElem?
  intro i
  by_cases h : i < ps.length
  · have ha := List.getElem?_eq_getElem (show i < as.length by omega)
    have hp := List.getElem?_eq_getElem h
    have hy := List.getElem?_eq_getElem (show i < ys.length by omega)
    have e := ep i _ _ ha hp
    obtain ⟨r, z, e1, e2, e3⟩ := ht i (.ref as[i]) ys[i] (by rw [List.getElem?_map, ha]; rfl) hy
    cases e1
    rw [e] at e2
    injection e2 with e2
    injection e2 with e2
    injection e2 with h1 h2
    injection h2 with h2 _
    injection h1 with h1
    injection h2 with h2
    have : z = ps[i] := Prod.ext h1.symm h2.symm
    rw [hy, e3, this, List.getElem?_map, List.getElem?_map, hp]
    rfl
  · rw [List.getElem?_eq_none (by omega), List.getElem?_eq_none (by rw [List.length_map, List.length_map]; omega)]
def oddT : TA := tCons (tC (.str "")) (tCons (tC (.str "A")) (tCons (tC (.str "a b")) (tCons (tC (.str "ab1")) (tCons (tC (.str "abcdefghijklm")) (tCons (tC .non) (tCons (tC (.int 7)) (tCons (tC (.bl true)) (tCons (tLst (tCons (tC (.str "a")) tNil)) (tCons (tTup (tCons (tC (.str "a")) (tCons (tC (.str "b")) tNil))) (tCons (tC (.str "a-")) (tCons (tC (.str "aB")) (tCons (tC (.int 0)) (tCons (tC (.str " a")) (tCons (tC (.str "a\n")) tNil))))))))))))))
theorem pe_odd {X : Cx} {j0 j1 j2 j3 j4 j5 j6 j7 j8 j9 j10 j11 j12 j13 j14 j15 x1} {p0 p1 p2 p3 p4 p5 p6 p7 p8 p9 p10 p11 p12 p13 p14 p15 q8 q9 pos : Pos} :
    PE X (.List [.Constant (.str "") j0 p0, .Constant (.str "A") j1 p1, .Constant (.str "a b") j2 p2, .Constant (.str "ab1") j3 p3, .Constant (.str "abcdefghijklm") j4 p4, .Constant .none j5 p5, .Constant (.int 7) j6 p6, .Constant (.bool true) j7 p7, .List [.Constant (.str "a") j8 p8] q8, .Tuple [.Constant (.str "a") j9 p9, .Constant (.str "b") j10 p10] x1 q9, .Constant (.str "a-") j11 p11, .Constant (.str "aB") j12 p12, .Constant (.int 0) j13 p13, .Constant (.str " a") j14 p14, .Constant (.str "a\n") j15 p15] pos) (tLst oddT) := by
  refine pe_lstk ?_
  unfold oddT
  repeat' first | exact pak_nil | apply pak_str | apply pak_non | apply pak_int | apply pak_bl | apply pak_lst | apply pak_tup
end Sw
set_option Elab.async false
set_option linter.all false
set_option maxRecDepth 100000
namespace Lk23
open PySem L2 Sw XH PyProof.Rows
def top (i : Nat) : Stmt := PySem.Challenge.pw_stovework_k23_rings_refused.main.body.getD i (.Pass ⟨0, 0, 0, 0⟩)
def clsAt (s : Stmt) (i : Nat) : Stmt := match s with | .ClassDef _ _ _ body _ _ _ _ _ _ _ => body.getD i (.Pass ⟨0, 0, 0, 0⟩) | _ => s
abbrev sis_name : Stmt := top 22
abbrev srefuse_no_names : Stmt := top 30
abbrev snames_ahead : Stmt := top 26
abbrev schain_to : Stmt := top 27
abbrev schain_down : Stmt := top 25
abbrev sall_inside : Stmt := top 24
abbrev sLarder_init : Stmt := clsAt (top 31) 0
abbrev sLarder_learn : Stmt := clsAt (top 31) 9
abbrev sLarder_part : Stmt := clsAt (top 31) 1
abbrev sLarder_known : Stmt := clsAt (top 31) 5
abbrev sLarder_held : Stmt := clsAt (top 31) 6
abbrev s_law_cell_at : Stmt := top 33
abbrev s_law_led_to : Stmt := top 36
abbrev s_law_names : Stmt := top 34
abbrev s_law_no_name : Stmt := top 35
abbrev s_law_alone : Stmt := top 37
abbrev s_law_told : Stmt := top 38
abbrev s_law_held : Stmt := top 40
abbrev s_law_ring : Stmt := top 39
abbrev slaw : Stmt := top 41
abbrev s_InRing : Stmt := clsAt (top 11) 0
structure Bn (K : PySem.W.Frag) (mg : Str → Option Value) (c_EmptyHeap c_InRing c_Larder c_NoAmount c_NoDish c_NoName c_NoNet c_NoNumber c_NoPack c_NoPlan c_NoRow c_NoStand c_NoStandIn c_NoStep c_StoveError c_TooFew c_TooMany c_Twice f_Larder_init f_Larder_learn f_Larder_part f_Larder_known f_Larder_held : Addr) : Prop where
  g_LETTERS : ∃ t, mg "LETTERS" = some (.str "abcdefghijklmnopqrstuvwxyz" t)
  g_MOST_LETTERS : ∃ t, mg "MOST_LETTERS" = some (.int 12 t)
  g_MOST_NAMES : ∃ t, mg "MOST_NAMES" = some (.int 80 t)
  b_len : mg "len" = none
  b_isinstance : mg "isinstance" = none
  b_str : mg "str" = none
  b_sorted : mg "sorted" = none
  b_list : mg "list" = none
  b_reversed : mg "reversed" = none
  b_range : mg "range" = none
  b_ValueError : mg "ValueError" = none
  b_set : mg "set" = none
  b_int : mg "int" = none
  m_EmptyHeap : mg "EmptyHeap" = some (.ref c_EmptyHeap)
  m_InRing : mg "InRing" = some (.ref c_InRing)
  m_Larder : mg "Larder" = some (.ref c_Larder)
  m_NoAmount : mg "NoAmount" = some (.ref c_NoAmount)
  m_NoDish : mg "NoDish" = some (.ref c_NoDish)
  m_NoName : mg "NoName" = some (.ref c_NoName)
  m_NoNet : mg "NoNet" = some (.ref c_NoNet)
  m_NoNumber : mg "NoNumber" = some (.ref c_NoNumber)
  m_NoPack : mg "NoPack" = some (.ref c_NoPack)
  m_NoPlan : mg "NoPlan" = some (.ref c_NoPlan)
  m_NoRow : mg "NoRow" = some (.ref c_NoRow)
  m_NoStand : mg "NoStand" = some (.ref c_NoStand)
  m_NoStandIn : mg "NoStandIn" = some (.ref c_NoStandIn)
  m_NoStep : mg "NoStep" = some (.ref c_NoStep)
  m_StoveError : mg "StoveError" = some (.ref c_StoveError)
  m_TooFew : mg "TooFew" = some (.ref c_TooFew)
  m_TooMany : mg "TooMany" = some (.ref c_TooMany)
  m_Twice : mg "Twice" = some (.ref c_Twice)
  x_NoName : PySem.W.excIn K c_NoName bmV "ValueError.__new__" = true
  i_NoName : XI K c_NoName
  t_InRing : XT K c_InRing
  t_NoName : XT K c_NoName
  t_StoveError : XT K c_StoveError
  s_NoName_InRing : PySem.W.subIn K (.ref c_NoName) (.ref c_InRing) = some false
  s_NoName_NoName : PySem.W.subIn K (.ref c_NoName) (.ref c_NoName) = some true
  s_InRing_InRing : PySem.W.subIn K (.ref c_InRing) (.ref c_InRing) = some true
  s_NoName_StoveError : PySem.W.subIn K (.ref c_NoName) (.ref c_StoveError) = some true
  k_NoName_StoveError : PySem.W.kitOne K (.ref c_NoName) (.ref c_StoveError) = some true
  k_NoName_ValueError : PySem.W.kitOne K (.ref c_NoName) (.type "ValueError") = some true
  k_InRing_StoveError : PySem.W.kitOne K (.ref c_InRing) (.ref c_StoveError) = some true
  k_InRing_ValueError : PySem.W.kitOne K (.ref c_InRing) (.type "ValueError") = some true
  k_NoName_InRing : PySem.W.kitOne K (.ref c_NoName) (.ref c_InRing) = some false
  k_InRing_NoName : PySem.W.kitOne K (.ref c_InRing) (.ref c_NoName) = some false
  a_InRing : XA K c_InRing c_StoveError
  n_InRing : PySem.W.findIn K (.ref c_InRing) "ring" = some none
  i_InRing : XI K c_InRing
  ka_NoName_1 : PySem.W.kitAny K (.ref c_NoName) [.ref c_EmptyHeap, .ref c_NoAmount, .ref c_NoDish, .ref c_NoNet, .ref c_NoNumber, .ref c_NoPack, .ref c_NoPlan, .ref c_NoRow] = some false
  ka_NoName_2 : PySem.W.kitAny K (.ref c_NoName) [.ref c_NoStand, .ref c_NoStandIn, .ref c_NoStep, .ref c_TooFew, .ref c_TooMany, .ref c_Twice] = some false
  ka_InRing_1 : PySem.W.kitAny K (.ref c_InRing) [.ref c_EmptyHeap, .ref c_NoAmount, .ref c_NoDish, .ref c_NoNet, .ref c_NoNumber, .ref c_NoPack, .ref c_NoPlan, .ref c_NoRow] = some false
  ka_InRing_2 : PySem.W.kitAny K (.ref c_InRing) [.ref c_NoStand, .ref c_NoStandIn, .ref c_NoStep, .ref c_TooFew, .ref c_TooMany, .ref c_Twice] = some false
  cl_Larder : Cls K c_Larder
  mk_Larder : Mk K c_Larder f_Larder_init
  me_Larder_part : Meth K c_Larder "part" f_Larder_part
  me_Larder_known : Meth K c_Larder "known" f_Larder_known
  me_Larder_held : Meth K c_Larder "held" f_Larder_held
  me_Larder_learn : Meth K c_Larder "learn" f_Larder_learn
  na_Larder_parts : NoAttr K c_Larder "parts"
  na_Larder_stands : NoAttr K c_Larder "stands"
  na_Larder_bars : NoAttr K c_Larder "bars"
  na_Larder_names : NoAttr K c_Larder "names"
section
variable {P : Program} {w : World} {K : PySem.W.Frag} {mg : Str → Option Value} {base : Heap} {f : Addr} {fd : FuncData} {c_EmptyHeap c_InRing c_Larder c_NoAmount c_NoDish c_NoName c_NoNet c_NoNumber c_NoPack c_NoPlan c_NoRow c_NoStand c_NoStandIn c_NoStep c_StoveError c_TooFew c_TooMany c_Twice f_Larder_init f_Larder_learn f_Larder_part f_Larder_known f_Larder_held : Addr}
theorem sc_InRing : FnScope ["self", "ring"] ["self", "ring"] (defScope s_InRing) := ⟨rfl, rfl, rfl, by decide +kernel, rfl, by decide +kernel, by decide +kernel⟩
theorem ok_InRing {dV : Value} (F : FunD K "__init__" "InRing.__init__" s_InRing dV f fd) (B : Bn K mg c_EmptyHeap c_InRing c_Larder c_NoAmount c_NoDish c_NoName c_NoNet c_NoNumber c_NoPack c_NoPlan c_NoRow c_NoStand c_NoStandIn c_NoStep c_StoveError c_TooFew c_TooMany c_Twice f_Larder_init f_Larder_learn f_Larder_part f_Larder_known f_Larder_held) : FnOk P w K mg base CX0 1 f fd ["self", "ring"] (spInit c_InRing "ring") := by
  have sc := sc_InRing
  refine F.ok sc (fun vs H Q E h => ?_) (fun cdv A outer s H vs Q E hr h => ?_)
  · obtain ⟨a, y, n, rfl, _⟩ := h
    rfl
  obtain ⟨a, y, n, rfl, e, q⟩ := h
  exact ⟨_, (pss_one (ps_fldX (K := K) rfl (pv 0) (pv 1) rfl)), y, rfl, _, rfl, a, c_InRing, c_StoveError, n, rfl, e, B.a_InRing, B.n_InRing, q⟩
theorem scis_name : FnScope ["thing", "sign"] ["thing"] (defScope sis_name) := ⟨rfl, rfl, rfl, by decide +kernel, rfl, by decide +kernel, by decide +kernel⟩
set_option maxHeartbeats 4000000 in
theorem okis_name {dV : Value} (F : FunD K "is_name" "is_name" sis_name dV f fd) (B : Bn K mg c_EmptyHeap c_InRing c_Larder c_NoAmount c_NoDish c_NoName c_NoNet c_NoNumber c_NoPack c_NoPlan c_NoRow c_NoStand c_NoStandIn c_NoStep c_StoveError c_TooFew c_TooMany c_Twice f_Larder_init f_Larder_learn f_Larder_part f_Larder_known f_Larder_held)  : FnOk P w K mg base CX0 1 f fd ["thing"] (spIsName K) := by
  have sc := scis_name
  refine F.ok sc (fun vs H Q E h => ?_) (fun cdv A outer s H vs Q E hr h => ?_)
  · obtain ⟨x, rfl, _⟩ := h
    rfl
  obtain ⟨x, rfl, h⟩ := h
  refine ⟨_, (pss_cons (ps_if (PW.pt (pw_or (pt_not (pt_val (pe_callB (call_isiT (K := K) rfl) rfl B.b_isinstance boot_isinstance (pa_cons (pv 0) (pa_cons (pe_bltn (v := .ty "str") rfl B.b_str boot_str rfl) pa_nil))))) (pw_or (pt_cmpR op_lt (pe_callB call_len_str rfl B.b_len boot_len (pa_cons (pv 0) pa_nil)) pe_int (nomark _)) (pw_or1 (pt_cmpR op_gt (pe_callB call_len_str rfl B.b_len boot_len (pa_cons (pv 0) pa_nil)) (pe_globI rfl B.g_MOST_LETTERS) (nomark _)))))) (pss_one (ps_ret pe_bl)) pss_nil) (pss_cons (ps_for PassesOwn.never rfl (pi_str (pv 0)) (pg_name (i := 1) sc.nd rfl (Or.inl rfl)) (pss_one (ps_if (pt_cmpR op_notIn_str (pv 1) (pe_globS rfl B.g_LETTERS) (by with_unfolding_all rfl)) (pss_one (ps_ret pe_bl)) pss_nil))) (pss_one (ps_ret pe_bl)))), ?_⟩
  rcases h with ⟨z, rfl, hz, q1, q0⟩ | ⟨ty, hty, hk, q⟩
  · have hz' : z.length ≤ sizeLine := Nat.le_trans hz (by decide)
    have hl := sL_len z
    try dsimp only [gName, tNext]
    refine cut (fun σ H' => H = H' ∧ σ = [some (.str z), none] ∧ 1 ≤ z.length ∧ z.length ≤ 12) (fun N hN => ?_) ?_
    · refine ⟨_, rfl, _, _, _, true, rfl, .str _, rfl, _, rfl, iteF ⟨_, rfl, z, rfl, hz', _, _, rfl, rfl, _, rfl, d2 (fun c => ?_) (fun c1 => ⟨_, rfl, z, rfl, hz', _, _, rfl, rfl, _, rfl, d2 (fun c => ?_) (fun c2 => ?_)⟩)⟩⟩
      · exact q0 fun n => by have := n.1; omega
      · exact q0 fun n => by have := n.2.1; omega
      · exact hN _ _ ⟨rfl, rfl, by omega, by omega⟩
    rintro σ _ ⟨rfl, rfl, l1, l2⟩
    refine ⟨_, rfl, z, rfl, for_str (fun i σ H2 => H = H2 ∧ (∃ o, σ = [some (.str z), o]) ∧ ∀ j c, j < i → z.cps[j]? = some c → 97 ≤ c ∧ c ≤ 122) ⟨rfl, ⟨_, rfl⟩, fun j c h => absurd h (by omega)⟩ (fun i c σ H2 hc hP => ?_) (fun σ H2 hP => ?_)⟩
    · obtain ⟨rfl, ⟨o, rfl⟩, hP⟩ := hP
      refine ⟨_, rfl, _, _, rfl, rfl, _, rfl, nnT (fun e => ?_) (fun e => ?_)⟩
      · have e' := (let_mem c).symm.trans e
        refine q0 fun n => ?_
        have := n.2.2 c (List.mem_of_getElem? (show (sL z)[i]? = some c by rw [← hc]; exact Array.getElem?_toList))
        rw [decide_eq_true this] at e'
        cases e'
      · have e' := (let_mem c).symm.trans e
        refine ⟨rfl, ⟨_, rfl⟩, fun j c' hj hc' => ?_⟩
        rcases Nat.lt_succ_iff_lt_or_eq.mp hj with k | k
        · exact hP j c' k hc'
        · subst k
          rw [hc] at hc'
          cases hc'
          exact of_decide_eq_true e'
    · obtain ⟨rfl, ⟨o, rfl⟩, hP⟩ := hP
      refine q1 ⟨by omega, by omega, fun c hc => ?_⟩
      obtain ⟨i, hi⟩ := List.mem_iff_getElem?.mp hc
      have hi' : z.cps[i]? = some c := by rw [← hi]; exact Array.getElem?_toList.symm
      exact hP i c (by have := (Array.getElem?_eq_some_iff.mp hi').1; exact this) hi'
  · exact ⟨_, rfl, _, _, _, false, rfl, hty, hk, _, rfl, iteT q⟩

theorem screfuse_no_names : FnScope ["things", "thing"] ["things"] (defScope srefuse_no_names) := ⟨rfl, rfl, rfl, by decide +kernel, rfl, by decide +kernel, by decide +kernel⟩
set_option maxHeartbeats 4000000 in
theorem okrefuse_no_names {dV : Value} (F : FunD K "refuse_no_names" "refuse_no_names" srefuse_no_names dV f fd) (B : Bn K mg c_EmptyHeap c_InRing c_Larder c_NoAmount c_NoDish c_NoName c_NoNet c_NoNumber c_NoPack c_NoPlan c_NoRow c_NoStand c_NoStandIn c_NoStep c_StoveError c_TooFew c_TooMany c_Twice f_Larder_init f_Larder_learn f_Larder_part f_Larder_known f_Larder_held) (Dis_name : Dx P w K mg base CX0 1 "is_name" ["thing"] [] (spIsName K)) : FnOk P w K mg base (CX1 P w) 2 f fd ["things"] (spRefX K c_NoName) := by
  have sc := screfuse_no_names
  refine F.okX sc (fun vs H Q E h => ?_) (fun cdv A outer s H vs Q E hr h => ?_)
  · obtain ⟨l, xs, rfl, _⟩ := h
    rfl
  obtain ⟨l, xs, rfl, hl, ho, kt, kf⟩ := h
  refine ⟨_, (pss_one (ps_for (own_XS rfl rfl) rfl (pi_list (pv 0)) (pg_name (i := 1) sc.nd rfl (Or.inl rfl)) (pss_one (ps_if (pt_not (pt_val (pcall0 Dis_name hr (by decide) rfl (pa_cons (pv 1) pa_nil)))) (pss_one (ps_raise B.x_NoName rfl B.m_NoName rfl passX (pa_cons pe_str pa_nil))) pss_nil)))), ?_⟩
  refine ⟨_, rfl, l, rfl, ⟨_, SqL.of hl⟩, for_list (xs := xs) (fun i σ H' => H = H' ∧ (∃ o, σ = [some (.ref l), o]) ∧ ∀ (j : Nat) x, j < i → xs[j]? = some x → NmV x) ⟨rfl, ⟨_, rfl⟩, fun j x h => absurd h (Nat.not_lt_zero _)⟩ (fun i σ H' _ h => by rw [← h.1]; exact SqL.of hl) ?_ ?_⟩
  · rintro i x σ H' hx ⟨rfl, ⟨o, rfl⟩, hP⟩
    by_cases hn : NmV x
    · obtain ⟨z, rfl, nz⟩ := id hn
      refine ⟨_, rfl, _, rfl, .inl ⟨z, rfl, nm_len nz, fun _ => ?_, fun n => absurd nz n⟩⟩
      refine ⟨_, rfl, ?_⟩
      exact ⟨rfl, ⟨_, rfl⟩, fun j y hj hy => by
        rcases Nat.lt_succ_iff_lt_or_eq.mp hj with q | q
        · exact hP j y q hy
        · subst q; rw [hx] at hy; cases hy; exact hn⟩
    · have bad : ¬ ∀ x ∈ xs, NmV x := fun a => hn (a x (List.mem_of_getElem? hx))
      rcases (ho x (List.mem_of_getElem? hx)).resolve_left hn with ⟨z, rfl, lz, nz⟩ | ⟨ty, h1, h2⟩
      · refine ⟨_, rfl, _, rfl, .inl ⟨z, rfl, lz, fun n => absurd n nz, fun _ => ?_⟩⟩
        exact ⟨_, rfl, (by show 1 ≤ sizeLine; decide), kf bad _ fun _ _ e => e⟩
      · refine ⟨_, rfl, _, rfl, .inr ⟨ty, h1, h2, ?_⟩⟩
        exact ⟨_, rfl, (by show 1 ≤ sizeLine; decide), kf bad _ fun _ _ e => e⟩
  · rintro σ H' ⟨rfl, ⟨o, rfl⟩, hP⟩
    exact kt fun x hx => by
      obtain ⟨j, hj⟩ := List.mem_iff_getElem?.mp hx
      exact hP j x (List.getElem?_eq_some_iff.mp hj).1 hj

theorem scnames_ahead : FnScope ["parts", "good", "ahead", "waiting", "name", "part"] ["parts", "good"] (defScope snames_ahead) := ⟨rfl, rfl, rfl, by decide +kernel, rfl, by decide +kernel, by decide +kernel⟩
set_option maxHeartbeats 4000000 in
theorem oknames_ahead {dV : Value} (F : FunD K "names_ahead" "names_ahead" snames_ahead dV f fd) (B : Bn K mg c_EmptyHeap c_InRing c_Larder c_NoAmount c_NoDish c_NoName c_NoNet c_NoNumber c_NoPack c_NoPlan c_NoRow c_NoStand c_NoStandIn c_NoStep c_StoveError c_TooFew c_TooMany c_Twice f_Larder_init f_Larder_learn f_Larder_part f_Larder_known f_Larder_held)  : FnOk P w K mg base CX0 1 f fd ["parts", "good"] spAhead := by
  have sc := scnames_ahead
  refine F.ok sc (fun vs H Q E h => ?_) (fun cdv A outer s H vs Q E hr h => ?_)
  · obtain ⟨d, good, rows, ps, rfl, _⟩ := h
    rfl
  obtain ⟨d, good, rows, ps, rfl, dd, ok, few, q⟩ := h
  obtain ⟨rs, dr, ed, ndr, dnr⟩ := dd.ex
  refine ⟨_, (pss_cons (ps_set (i := 2) sc.nd rfl (Or.inl rfl) (pe_disp (pps_cons (pv 1) pe_non pps_nil) rfl rfl (by simp) (by decide))) (pss_cons (ps_set (i := 3) sc.nd rfl (Or.inl rfl) (pe_lst (pa_cons (pv 1) pa_nil))) (pss_cons (ps_while PassesOwn.never (pt_cmpR op_gt (pe_callB call_len_seq rfl B.b_len boot_len (pa_cons (pv 3) pa_nil)) pe_int (nomark _)) (pss_cons (ps_set (i := 4) sc.nd rfl (Or.inl rfl) (pe_bm0 PySem.F.plainAttrs_list PySem.F.slot_list_pop PySem.F.type_list_pop mt_pop (pv 3))) (pss_one (ps_unf (ps_for PassesOwn.never rfl (pi_dict (pe_dget2 (hu_of hr) (pv 0) (pv 4) pe_dnewK ⟨rfl, rfl, rfl, rfl⟩)) (pg_name (i := 5) sc.nd rfl (Or.inl rfl)) (pss_one (ps_if (pt_cmp (pc_dnotin (hu_of hr) (pv 5) (pv 2)) (by with_unfolding_all rfl)) (pss_cons (ps_dput (hu_of hr) (pv 2) (pv 5) (pv 4) rfl) (pss_one (ps_expr (pe_bm PySem.F.plainAttrs_list PySem.F.slot_list_append PySem.F.type_list_append mt_append (pv 3) (pa_cons (pv 5) pa_nil))))) pss_nil))))))) (pss_one (ps_ret (pv 2)))))), ?_⟩
  have slt : (6000 : Nat) < sizeLine := by decide
  refine fun ah na => ⟨_, rfl, upd_same, [(.inr good, .non)], rfl, (by show 1 ≤ 15; decide), ?_⟩
  have ga : Same H (upd (upd H ah (.dK [])) ah (.dK (mergeK [] [((.inr good : Key), V.non)]))) := by
    rw [upd_upd]
    exact same_new na _
  have ea : (upd (upd H ah (.dK [])) ah (.dK (mergeK [] [((.inr good : Key), V.non)]))) ah = some (.dK (aheadK [(good, none)])) := upd_same
  generalize upd (upd H ah (.dK [])) ah (.dK (mergeK [] [((.inr good : Key), V.non)])) = H0 at ga ea ⊢
  refine ⟨_, rfl, (by show 1 ≤ sizeLine; decide), fun wt nw => ?_⟩
  have nwH : H wt = none := ga.free nw
  have g0 := ga.trans (same_new nw (.lst [.str good]))
  have e0 : upd H0 wt (.lst [.str good]) ah = some (.dK (aheadK [(good, none)])) := same_new nw _ _ _ ea
  have aw : ah ≠ wt := fun z => by rw [z, nw] at ea; cases ea
  try dsimp only [gName, tNext]
  refine while_by (fun σ H' => Same H H' ∧ ∃ (es : List (Str × Option Str)) (ws : List Str) (o4 o5 : Option V), σ = [some (.ref d), some (.str good), some (.ref ah), some (.ref wt), o4, o5] ∧ H' ah = some (.dK (aheadK es)) ∧ H' wt = some (.lst (ws.map V.str)) ∧ ABase ps good es ∧ (∀ y ∈ ws, y ∈ keysA es) ∧ (∀ y ∈ keysA es, y ∉ ws → ∀ b, (y, b) ∈ ps → b ∈ keysA es) ∧ 2 * (1002 - (keysA es).length) + ws.length ≤ 5000)
    (fun (σ : L2.St) (H' : Hp) => match H' ah, H' wt with | some (.dK kvs), some (.lst xs) => 2 * (1002 - kvs.length) + xs.length | _, _ => 0)
    ⟨g0, [(good, none)], [good], none, none, rfl, e0, upd_same, .start ps good few, fun y hy => by simpa [keysA] using hy, fun y hy n => absurd (by simpa [keysA] using hy) n, by show 2 * (1002 - 1) + 1 ≤ 5000; decide⟩ ?_
    (fun σ H Q Q' m ⟨v, e, a, ys, e1, e2, i, j, e3, e4, k, hk, h2⟩ => ⟨v, e, a, ys, e1, e2, i, j, e3, e4, k, hk, m _ _ h2⟩)
  rintro σ H1 ⟨g1, es, ws, o4, o5, rfl, e1, w1, ab, wsub, cl, mes⟩
  refine ⟨_, rfl, wt, _, rfl, .inl (SqL.of w1), _, _, rfl, rfl, _, rfl, d2 (fun c => ?_) (fun c => ?_)⟩
  · rcases List.eq_nil_or_concat ws with rfl | ⟨ws0, nm, rfl⟩
    · simp at c
    rw [List.concat_eq_append] at *
    have nmk : nm ∈ keysA es := wsub nm (by simp)
    have wl : (ws0 ++ [nm]).length = ws0.length + 1 := by simp
    refine ⟨_, rfl, .inl ⟨rfl, _, SqL.of w1⟩, wt, _, .str nm, rfl, rfl, w1, (by simp), ?_⟩
    have w2 : ((ws0 ++ [nm]).map V.str).dropLast = ws0.map V.str := by simp
    rw [w2]
    have g2 := sUpd (o := .lst (ws0.map V.str)) g1 nwH
    have e2 : upd H1 wt (.lst (ws0.map V.str)) ah = some (.dK (aheadK es)) := by rw [upd_ne aw]; exact e1
    have w2' : upd H1 wt (.lst (ws0.map V.str)) wt = some (.lst (ws0.map V.str)) := upd_same
    generalize upd H1 wt (.lst (ws0.map V.str)) = H2 at g2 e2 w2' ⊢
    refine ⟨_, rfl, d, rfl, .inl ⟨_, .inl (g2 _ _ ed)⟩, _, rfl, fun pn hn => ⟨_, DGet.k (k := .inr nm) (same_new hn _ _ _ (g2 _ _ ed)), ?_⟩⟩
    have g3 := g2.trans (same_new hn (.dK []))
    have e3 := same_new hn (.dK []) _ _ e2
    have w3 := same_new hn (.dK []) _ _ w2'
    have hnH : H pn = none := g2.free hn
    obtain ⟨rw_, ys, hx, hr, hH, ysl, ym, ra, rw1⟩ : ∃ (r : Addr) (ys : List Str), (valV (topK rows rs) (.inr nm)).getD (.ref pn) = .ref r ∧ (upd H2 pn (.dK [])) r = some (.dK (mapK ys (.bl true))) ∧ (H r = none ∨ H r = some (.dK (mapK ys (.bl true)))) ∧ ys.length ≤ 1000 ∧ (∀ b, b ∈ ys ↔ (nm, b) ∈ ps) ∧ r ≠ ah ∧ r ≠ wt := by
      rcases row_of (x := nm) dr ndr ok with ⟨hv, no⟩ | ⟨r, ys, hv, _, hH, hl, _, hm⟩
      · rw [hv]
        exact ⟨pn, [], rfl, upd_same, .inl hnH, by simp, fun b => ⟨fun h => by simp at h, fun h => absurd h (no b)⟩, (fun z => by rw [z, e2] at hn; cases hn), (fun z => by rw [z, w2'] at hn; cases hn)⟩
      · rw [hv]
        exact ⟨r, ys, rfl, g3 _ _ hH, .inr hH, by omega, hm, (fun z => by rw [z, na] at hH; cases hH), (fun z => by rw [z, nwH] at hH; cases hH)⟩
    rw [hx]
    generalize upd H2 pn (.dK []) = H3 at g3 e3 w3 hr ⊢
    refine ⟨rw_, _, rfl, hr, fun o nf => ?_⟩
    have fah : upd H rw_ (.frz o (.dK (mapK ys (.bl true)))) ah = none := by rw [upd_ne (Ne.symm ra)]; exact na
    have fwt : upd H rw_ (.frz o (.dK (mapK ys (.bl true)))) wt = none := by rw [upd_ne (Ne.symm rw1)]; exact nwH
    refine for_dict (kvs := mapK ys (.bl true)) (fun i σ H4 => Same (upd H rw_ (.frz o (.dK (mapK ys (.bl true))))) H4 ∧ ∃ (es' : List (Str × Option Str)) (ws' : List Str) (o5 : Option V), σ = [some (.ref d), some (.str good), some (.ref ah), some (.ref wt), some (.str nm), o5] ∧ H4 ah = some (.dK (aheadK es')) ∧ H4 wt = some (.lst (ws'.map V.str)) ∧ ABase ps good es' ∧ nm ∈ keysA es' ∧ (∀ y ∈ ws', y ∈ keysA es') ∧ (∀ y ∈ keysA es', y ≠ nm → y ∉ ws' → ∀ b, (y, b) ∈ ps → b ∈ keysA es') ∧ (∀ (j : Nat) (b : Str), j < i → ys[j]? = some b → b ∈ keysA es') ∧ 2 * (1002 - (keysA es').length) + ws'.length ≤ 2 * (1002 - (keysA es).length) + ws0.length)
      ⟨same_upd g3 _ _, es, ws0, o5, rfl, by rw [upd_ne (Ne.symm ra)]; exact e3, by rw [upd_ne (Ne.symm rw1)]; exact w3, ab, nmk, fun y hy => wsub y (by simp [hy]), fun y hy hn hw => cl y hy (by simp [hn, hw]), fun j b h => absurd h (by omega), Nat.le_refl _⟩
      (fun i σ H4 _ h => h.1 _ _ upd_same) ?_ ?_
    · rintro i k x σ H4 hk ⟨g4, es', ws', o5, rfl, e4, w4, ab', nm', wsub', cl', pr', mes'⟩
      obtain ⟨b, hb, rfl⟩ := mapK_at hk
      have hbp : (nm, b) ∈ ps := (ym b).mp (List.mem_of_getElem? hb)
      have rm := ab'.room
      refine ⟨_, rfl, _, rfl, ah, _, rfl, DGet.k (k := .inr b) e4, _, rfl, ?_⟩
      rw [ahead_val]
      refine nnT (fun hf => ?_) (fun ht => ?_)
      · have nb := of_decide_eq_false hf
        refine ⟨_, rfl, _, rfl, _, rfl, ah, _, rfl, DPut.k (k := .inr b) e4 (by rw [aheadK_len]; omega), ?_⟩
        rw [ahead_put nb]
        have w5 : upd H4 ah (.dK (aheadK (es' ++ [(b, some nm)]))) wt = some (.lst (ws'.map V.str)) := by rw [upd_ne (Ne.symm aw)]; exact w4
        have g5 := sUpd (o := .dK (aheadK (es' ++ [(b, some nm)]))) g4 fah
        have nk := keysA_snoc es' b (some nm)
        refine ⟨_, rfl, .inl ⟨rfl, _, SqL.of w5⟩, _, rfl, wt, _, _, rfl, rfl, w5, (by rw [List.length_map]; omega), ?_⟩
        refine ⟨sUpd g5 fwt _, es' ++ [(b, some nm)], ws' ++ [b], _, rfl, by rw [upd_ne aw]; exact upd_same, by rw [upd_same, List.map_append]; rfl, ab'.add nm' nb hbp, by rw [nk]; simp [nm'], fun y hy => ?_, fun y hy hn hw c hc => ?_, fun j c hj hc => ?_, ?_⟩
        · rw [nk]
          rcases List.mem_append.mp hy with k | k
          · simp [wsub' y k]
          · simp at k
            simp [k]
        · rw [nk] at hy ⊢
          simp at hw
          rcases List.mem_append.mp hy with k | k
          · simp [cl' y k hn hw.1 c hc]
          · simp at k
            exact absurd k hw.2
        · rw [nk]
          rcases Nat.lt_succ_iff_lt_or_eq.mp hj with k | rfl
          · simp [pr' j c k hc]
          · rw [hb] at hc
            cases hc
            simp
        · rw [nk]
          simp only [List.length_append, List.length_cons, List.length_nil]
          omega
      · have ib := of_decide_eq_true ht
        refine ⟨g4, es', ws', _, rfl, e4, w4, ab', nm', wsub', cl', fun j c hj hc => ?_, mes'⟩
        rcases Nat.lt_succ_iff_lt_or_eq.mp hj with k | rfl
        · exact pr' j c k hc
        · rw [hb] at hc
          cases hc
          exact ib
    · rintro σ H4 ⟨g4, es', ws', o5, rfl, e4, w4, ab', nm', wsub', cl', pr', mes'⟩
      rw [mapK_len] at pr'
      have e5 : upd H4 rw_ (.dK (mapK ys (.bl true))) ah = some (.dK (aheadK es')) := by rw [upd_ne (Ne.symm ra)]; exact e4
      have w5 : upd H4 rw_ (.dK (mapK ys (.bl true))) wt = some (.lst (ws'.map V.str)) := by rw [upd_ne (Ne.symm rw1)]; exact w4
      refine ⟨rw_, o, mapK ys (.bl true), g4 _ _ upd_same, nf, ⟨fun b' u hb' => ?_, es', ws', _, o5, rfl, e5, w5, ab', wsub', fun y hy hw b hb => ?_, by simp only [List.length_append, List.length_cons, List.length_nil] at mes; omega⟩, ?_⟩
      · by_cases z : b' = rw_
        · subst z
          rcases hH with k | k
          · rw [k] at hb'; cases hb'
          · rw [k] at hb'
            cases hb'
            exact upd_same
        · rw [upd_ne z]
          exact g4 _ _ (by rw [upd_ne z]; exact hb')
      · by_cases z : y = nm
        · subst z
          obtain ⟨j, hj⟩ := List.mem_iff_getElem?.mp ((ym b).mpr hb)
          exact pr' j b (List.getElem?_eq_some_iff.mp hj).1 hj
        · exact cl' y hy z hw b hb
      · rw [e5, w5, e1, w1]
        show 2 * (1002 - (aheadK es').length) + (ws'.map V.str).length < 2 * (1002 - (aheadK es).length) + ((ws0 ++ [nm]).map V.str).length
        rw [aheadK_len, aheadK_len, List.length_map, List.length_map, List.length_append]
        simp only [List.length_cons, List.length_nil]
        omega
  · have wz : ws = [] := by
      rw [List.length_map] at c
      exact List.eq_nil_of_length_eq_zero (by omega)
    subst wz
    exact ⟨_, rfl, q ah H1 es g1 e1 ⟨ab, fun y => ⟨ab.led y, fun l => l.closed (S := fun y => y ∈ keysA es) ab.good fun a b ha hab => cl a ha (by simp) b hab⟩⟩⟩

theorem scchain_to : FnScope ["ahead", "goal", "chain", "name"] ["ahead", "goal"] (defScope schain_to) := ⟨rfl, rfl, rfl, by decide +kernel, rfl, by decide +kernel, by decide +kernel⟩
set_option maxHeartbeats 4000000 in
theorem okchain_to {dV : Value} (F : FunD K "chain_to" "chain_to" schain_to dV f fd) (B : Bn K mg c_EmptyHeap c_InRing c_Larder c_NoAmount c_NoDish c_NoName c_NoNet c_NoNumber c_NoPack c_NoPlan c_NoRow c_NoStand c_NoStandIn c_NoStep c_StoveError c_TooFew c_TooMany c_Twice f_Larder_init f_Larder_learn f_Larder_part f_Larder_known f_Larder_held)  : FnOk P w K mg base CX0 1 f fd ["ahead", "goal"] spTo := by
  have sc := scchain_to
  refine F.ok sc (fun vs H Q E h => ?_) (fun cdv A outer s H vs Q E hr h => ?_)
  · obtain ⟨ah, goal, good, ps, es, rfl, _⟩ := h
    rfl
  obtain ⟨ah, goal, good, ps, es, rfl, ea, ab, hg, q⟩ := h
  refine ⟨_, (pss_cons (ps_set (i := 2) sc.nd rfl (Or.inl rfl) (pe_lst pa_nil)) (pss_cons (ps_set (i := 3) sc.nd rfl (Or.inl rfl) (pv 1)) (pss_cons (ps_while PassesOwn.never (pt_cmpR op_notN (pv 3) pe_non (nomark _)) (pss_cons (ps_expr (pe_bm PySem.F.plainAttrs_list PySem.F.slot_list_append PySem.F.type_list_append mt_append (pv 2) (pa_cons (pv 3) pa_nil))) (pss_one (ps_set (i := 3) sc.nd rfl (Or.inl rfl) (pe_dget (hu_of hr) (pv 0) (pv 3) (fun _ _ => rfl)))))) (pss_one (ps_ret (pe_listRev rfl rfl B.b_list rfl B.b_reversed boot_list PyProof.Rows.Boot.«reversed» (pv 2))))))), ?_⟩
  have slt : (3000 : Nat) < sizeLine := by decide
  have kl : (keysA es).length = es.length := by simp [keysA]
  have rm := ab.room
  refine ⟨(by show 0 ≤ sizeLine; omega), fun lc nl => ?_⟩
  have g0 := same_new nl (.lst [])
  refine ⟨_, rfl, ?_⟩
  try dsimp only [gName, tNext]
  refine while_by (fun σ H' => Same H H' ∧ ∃ (rc : List Str) (o : Option Str), σ = [some (.ref ah), some (.str goal), some (.ref lc), some (optV o)] ∧ H' lc = some (.lst (rc.map V.str)) ∧ Back ps good goal es rc o)
    (fun (σ : L2.St) (H' : Hp) => optIx es σ[3]?)
    ⟨g0, [], some goal, rfl, upd_same, .start hg⟩ ?_
    (fun σ H Q Q' m ⟨v, e, e2, b, hb, h2⟩ => ⟨v, e, e2, b, hb, m _ _ h2⟩)
  rintro σ H1 ⟨g1, rc, o, rfl, e1, bk⟩
  refine ⟨_, rfl, rfl, _, rfl, ?_⟩
  cases o with
  | none =>
    refine iteF ⟨_, rfl, lc, _, rfl, SqL.of e1, fun p hp => q p _ rc.reverse (g1.trans (same_new hp _)) (by rw [upd_same, List.map_reverse]) (bk.way ab)⟩
  | some y =>
    obtain ⟨i, oy, hi, _, _, hl⟩ := bk.nxt y rfl
    have al : ah ≠ lc := fun z => by rw [z, nl] at ea; cases ea
    refine iteT ⟨_, rfl, .inl ⟨rfl, _, SqL.of e1⟩, _, rfl, lc, _, _, rfl, rfl, e1, (by rw [List.length_map]; omega), ?_⟩
    refine ⟨_, rfl, _, rfl, ah, _, rfl, (by rw [← ahead_at ab.nd hi]; exact DGet.k (k := .inr y) (by rw [upd_ne al]; exact g1 _ _ ea)), ⟨sUpd g1 nl _, rc ++ [y], oy, rfl, by rw [upd_same, List.map_append]; rfl, bk.step ab hi⟩, optIx_lt ab hi⟩

theorem scchain_down : FnScope ["parts", "good", "goals", "ahead", "found"] ["parts", "good", "goals"] (defScope schain_down) := ⟨rfl, rfl, rfl, by decide +kernel, rfl, by decide +kernel, by decide +kernel⟩
set_option maxHeartbeats 4000000 in
theorem okchain_down {dV : Value} (F : FunD K "chain_down" "chain_down" schain_down dV f fd) (B : Bn K mg c_EmptyHeap c_InRing c_Larder c_NoAmount c_NoDish c_NoName c_NoNet c_NoNumber c_NoPack c_NoPlan c_NoRow c_NoStand c_NoStandIn c_NoStep c_StoveError c_TooFew c_TooMany c_Twice f_Larder_init f_Larder_learn f_Larder_part f_Larder_known f_Larder_held) (Dnames_ahead : Dx P w K mg base CX0 1 "names_ahead" ["parts", "good"] [] spAhead) (Dchain_to : Dx P w K mg base CX0 1 "chain_to" ["ahead", "goal"] [] spTo) : FnOk P w K mg base CX0 2 f fd ["parts", "good", "goals"] spWayDown := by
  have sc := scchain_down
  refine F.ok sc (fun vs H Q E h => ?_) (fun cdv A outer s H vs Q E hr h => ?_)
  · obtain ⟨d, lg, good, rows, ps, gs, rfl, _⟩ := h
    rfl
  obtain ⟨d, lg, good, rows, ps, gs, rfl, dd, ok, few, hg, q1, q2⟩ := h
  refine ⟨_, (pss_cons (ps_set (i := 3) sc.nd rfl (Or.inl rfl) (pcall0 Dnames_ahead hr (by decide) rfl (pa_cons (pv 0) (pa_cons (pv 1) pa_nil)))) (pss_cons (ps_unf (ps_compIf sc.nd (i := 4) rfl rfl (own := "name") (ys := ["goals"]) (js := [2]) rfl (cok (atc atn) (.cons rfl .nil) (by decide) rfl rfl rfl rfl rfl rfl rfl rfl) (pi_dict (pv 3)) (fun C fp s H => (pt_cmpR (op_inK (K := K) rfl) (pv 0) (pv 1) (by with_unfolding_all rfl))) (fun C fp s H => (pv 0)))) (pss_cons (ps_if (pt_cmpR op_eq (pe_callB call_len_seq rfl B.b_len boot_len (pa_cons (pv 4) pa_nil)) pe_int (nomark _)) (pss_one (ps_ret pe_non)) pss_nil) (pss_one (ps_ret (pcall0 Dchain_to hr (by decide) rfl (pa_cons (pv 3) (pa_cons (pe_ix ix_list (pv 4) pe_int (fun _ _ => rfl)) pa_nil)))))))), ?_⟩
  have slt : (3000 : Nat) < sizeLine := by decide
  refine ⟨_, rfl, _, rfl, d, good, rows, ps, rfl, dd, ok, few, fun ah H1 es g1 e1 ao => ?_⟩
  have rm := ao.base.room
  have kl := aheadK_len es
  have l1 := g1 _ _ hg.seq
  have la : lg ≠ ah := fun z => by rw [z, e1] at l1; cases l1
  refine ⟨_, rfl, ah, _, rfl, e1, fun o nf => ?_⟩
  refine compIf_dict (inS gs) upd_same (by omega) (fun i k x hk H3 g3 R hR => ?_) (fun p H' g' e' => ?_)
  · have hk' := hk
    unfold aheadK at hk'
    rw [List.getElem?_map] at hk'
    cases he : es[i]? with
    | none => rw [he] at hk'; cases hk'
    | some e =>
      rw [he] at hk'
      cases hk'
      refine ⟨_, rfl, _, rfl, lg, _, rfl, .inl (SqL.of (g3 _ _ (by rw [upd_ne la]; exact l1))), rfl, flat_strs gs, _, rfl, ?_⟩
      show R (inV (.str e.1) (gs.map V.str)) H3
      rw [inV_str]
      exact hR
  · have fa := g' _ _ upd_same
    have pa : p ≠ ah := fun z => by rw [z, fa] at e'; cases e'
    have g2 : Same H (upd H' ah (.dK (aheadK es))) := fun b u hb => by
      by_cases z : b = ah
      · subst z
        have := (g1 _ _ hb).symm.trans e1
        cases this
        exact upd_same
      · rw [upd_ne z]
        exact g' _ _ (by rw [upd_ne z]; exact g1 _ _ hb)
    have e2 : upd H' ah (.dK (aheadK es)) ah = some (.dK (aheadK es)) := upd_same
    rw [found_eq] at e'
    have p2 : upd H' ah (.dK (aheadK es)) p = some (.lst (((keysA es).filter fun y => decide (y ∈ gs)).map V.str)) := by rw [upd_ne pa]; exact e'
    refine ⟨ah, o, aheadK es, fa, nf, ?_⟩
    generalize upd H' ah (.dK (aheadK es)) = H2 at g2 e2 p2 ⊢
    clear g' e' fa
    have mem : ∀ y, y ∈ ((keysA es).filter fun y => decide (y ∈ gs)) ↔ y ∈ keysA es ∧ y ∈ gs := fun y => by simp [List.mem_filter]
    have hd : good ∈ gs → ∃ r, ((keysA es).filter fun y => decide (y ∈ gs)) = good :: r := fun hin => by
      have k0 := keysA_at ao.base.first
      cases ek : keysA es with
      | nil => rw [ek] at k0; simp at k0
      | cons c r =>
        rw [ek] at k0
        simp at k0
        subst k0
        exact ⟨_, List.filter_cons_of_pos (by exact decide_eq_true hin)⟩
    generalize ((keysA es).filter fun y => decide (y ∈ gs)) = fs at p2 mem hd
    refine ⟨_, rfl, p, _, rfl, .inl (SqL.of p2), rfl, _, rfl, ?_⟩
    cases fs with
    | nil => exact iteT (q1 H2 g2 fun y hy l => by simpa using (mem y).mpr ⟨(ao.all y).mpr l, hy⟩)
    | cons c r =>
      have hc := (mem c).mp (List.mem_cons_self)
      refine dF (p := V.int (((c :: r).map V.str).length : Int) = V.int 0) (fun z => by injection z with z; simp at z; omega) ?_
      refine ⟨_, rfl, _, rfl, p, _, 0, .str c, rfl, rfl, SqL.of p2, (show atI ((c :: r).map V.str) ((0 : Nat) : Int) = some (.str c) from atI_nat rfl), ah, c, good, ps, es, rfl, e2, ao.base, hc.1, fun l H3 cs g3 e3 wy => ?_⟩
      exact q2 l H3 cs c (g2.trans g3) e3 wy hc.2 ((ao.all c).mp hc.1) fun hin => by
        obtain ⟨r', hr'⟩ := hd hin
        cases hr'
        rfl

theorem scall_inside : FnScope ["parts", "good"] ["parts", "good"] (defScope sall_inside) := ⟨rfl, rfl, rfl, by decide +kernel, rfl, by decide +kernel, by decide +kernel⟩
set_option maxHeartbeats 4000000 in
theorem okall_inside {dV : Value} (F : FunD K "all_inside" "all_inside" sall_inside dV f fd) (B : Bn K mg c_EmptyHeap c_InRing c_Larder c_NoAmount c_NoDish c_NoName c_NoNet c_NoNumber c_NoPack c_NoPlan c_NoRow c_NoStand c_NoStandIn c_NoStep c_StoveError c_TooFew c_TooMany c_Twice f_Larder_init f_Larder_learn f_Larder_part f_Larder_known f_Larder_held) (Dnames_ahead : Dx P w K mg base CX0 1 "names_ahead" ["parts", "good"] [] spAhead) : FnOk P w K mg base CX0 2 f fd ["parts", "good"] spInside := by
  have sc := scall_inside
  refine F.ok sc (fun vs H Q E h => ?_) (fun cdv A outer s H vs Q E hr h => ?_)
  · obtain ⟨d, good, rows, ps, rfl, _⟩ := h
    rfl
  obtain ⟨d, good, rows, ps, rfl, dd, ok, few, q⟩ := h
  refine ⟨_, (pss_one (ps_ret (pe_callB (call_sortD rfl) rfl B.b_sorted PyProof.Rows.Boot.«sorted» (pa_cons (pcall0 Dnames_ahead hr (by decide) rfl (pa_cons (pv 0) (pa_cons (pv 1) pa_nil))) pa_nil)))), ?_⟩
  refine ⟨_, rfl, _, rfl, d, good, rows, ps, rfl, dd, ok, few, fun ah H1 es g1 e1 ao => ?_⟩
  refine ⟨ah, keysA es, _, rfl, e1, aheadK_keys es, ao.base.nd, fun p ys np pr sr => q p _ ys (g1.trans (same_new np _)) (g1.free np) upd_same sr (pr.nodup_iff.mpr ao.base.nd) fun y => (pr.mem_iff).trans (ao.all y)⟩

theorem scLarder_init : FnScope ["self"] ["self"] (defScope sLarder_init) := ⟨rfl, rfl, rfl, by decide +kernel, rfl, by decide +kernel, by decide +kernel⟩
set_option maxHeartbeats 4000000 in
theorem okLarder_init {dV : Value} (F : FunD K "__init__" "Larder.__init__" sLarder_init dV f fd) (B : Bn K mg c_EmptyHeap c_InRing c_Larder c_NoAmount c_NoDish c_NoName c_NoNet c_NoNumber c_NoPack c_NoPlan c_NoRow c_NoStand c_NoStandIn c_NoStep c_StoveError c_TooFew c_TooMany c_Twice f_Larder_init f_Larder_learn f_Larder_part f_Larder_known f_Larder_held)  : FnOk P w K mg base CX0 1 f fd ["self"] (spLarder c_Larder) := by
  have sc := scLarder_init
  refine F.ok sc (fun vs H Q E h => ?_) (fun cdv A outer s H vs Q E hr h => ?_)
  · obtain ⟨x, dx, rfl, _⟩ := h
    rfl
  obtain ⟨x, dx, rfl, e0, q⟩ := h
  refine ⟨_, (pss_cons (ps_fld (pv 0) pe_dnewK rfl) (pss_cons (ps_fld (pv 0) pe_dnewK rfl) (pss_cons (ps_fld (pv 0) pe_dnewK rfl) (pss_one (ps_fld (pv 0) pe_dnewK rfl))))), ?_⟩
  have k0 : KxL x H H := fun _ _ _ e => e
  have l0 : ([] : List (Str × V)).length ≤ 0 := Nat.le_refl _
  intro p np
  have xp : x ≠ p := fun z => by rw [← z, e0] at np; cases np
  refine ⟨_, rfl, x, _, dx, _, rfl, (by rw [upd_ne xp]; exact e0), B.cl_Larder, B.na_Larder_parts, (by omega), ?_⟩
  have e1 : (upd (upd H p (.dK [])) x (.ins c_Larder dx (putF "parts" (.ref p) []))) x = some (.ins c_Larder dx (putF "parts" (.ref p) [])) := upd_same
  have k1 : KxL x H (upd (upd H p (.dK [])) x (.ins c_Larder dx (putF "parts" (.ref p) []))) := k0.trans (KxL.step (.dK []) np)
  have vp : (upd (upd H p (.dK [])) x (.ins c_Larder dx (putF "parts" (.ref p) []))) p = some (.dK []) := by rw [upd_ne (Ne.symm xp)]; exact upd_same
  have l1 : ((putF "parts" (.ref p) []) : List (Str × V)).length ≤ 1 := by have := length_putF "parts" (.ref p) []; omega
  generalize (upd (upd H p (.dK [])) x (.ins c_Larder dx (putF "parts" (.ref p) []))) = H1 at e1 k1 vp ⊢
  intro st nst
  have xst : x ≠ st := fun z => by rw [← z, e1] at nst; cases nst
  refine ⟨_, rfl, x, _, dx, _, rfl, (by rw [upd_ne xst]; exact e1), B.cl_Larder, B.na_Larder_stands, (by omega), ?_⟩
  have e2 : (upd (upd H1 st (.dK [])) x (.ins c_Larder dx (putF "stands" (.ref st) (putF "parts" (.ref p) [])))) x = some (.ins c_Larder dx (putF "stands" (.ref st) (putF "parts" (.ref p) []))) := upd_same
  have k2 : KxL x H (upd (upd H1 st (.dK [])) x (.ins c_Larder dx (putF "stands" (.ref st) (putF "parts" (.ref p) [])))) := k1.trans (KxL.step (.dK []) nst)
  have vst : (upd (upd H1 st (.dK [])) x (.ins c_Larder dx (putF "stands" (.ref st) (putF "parts" (.ref p) [])))) st = some (.dK []) := by rw [upd_ne (Ne.symm xst)]; exact upd_same
  have l2 : ((putF "stands" (.ref st) (putF "parts" (.ref p) [])) : List (Str × V)).length ≤ 2 := by have := length_putF "stands" (.ref st) (putF "parts" (.ref p) []); omega
  replace vp : (upd (upd H1 st (.dK [])) x (.ins c_Larder dx (putF "stands" (.ref st) (putF "parts" (.ref p) [])))) p = some (.dK []) := KxL.step (.dK []) nst p _ (Ne.symm xp) vp
  generalize (upd (upd H1 st (.dK [])) x (.ins c_Larder dx (putF "stands" (.ref st) (putF "parts" (.ref p) [])))) = H2 at e2 k2 vst vp ⊢
  intro b nb
  have xb : x ≠ b := fun z => by rw [← z, e2] at nb; cases nb
  refine ⟨_, rfl, x, _, dx, _, rfl, (by rw [upd_ne xb]; exact e2), B.cl_Larder, B.na_Larder_bars, (by omega), ?_⟩
  have e3 : (upd (upd H2 b (.dK [])) x (.ins c_Larder dx (putF "bars" (.ref b) (putF "stands" (.ref st) (putF "parts" (.ref p) []))))) x = some (.ins c_Larder dx (putF "bars" (.ref b) (putF "stands" (.ref st) (putF "parts" (.ref p) [])))) := upd_same
  have k3 : KxL x H (upd (upd H2 b (.dK [])) x (.ins c_Larder dx (putF "bars" (.ref b) (putF "stands" (.ref st) (putF "parts" (.ref p) []))))) := k2.trans (KxL.step (.dK []) nb)
  have vb : (upd (upd H2 b (.dK [])) x (.ins c_Larder dx (putF "bars" (.ref b) (putF "stands" (.ref st) (putF "parts" (.ref p) []))))) b = some (.dK []) := by rw [upd_ne (Ne.symm xb)]; exact upd_same
  have l3 : ((putF "bars" (.ref b) (putF "stands" (.ref st) (putF "parts" (.ref p) []))) : List (Str × V)).length ≤ 3 := by have := length_putF "bars" (.ref b) (putF "stands" (.ref st) (putF "parts" (.ref p) [])); omega
  replace vp : (upd (upd H2 b (.dK [])) x (.ins c_Larder dx (putF "bars" (.ref b) (putF "stands" (.ref st) (putF "parts" (.ref p) []))))) p = some (.dK []) := KxL.step (.dK []) nb p _ (Ne.symm xp) vp
  replace vst : (upd (upd H2 b (.dK [])) x (.ins c_Larder dx (putF "bars" (.ref b) (putF "stands" (.ref st) (putF "parts" (.ref p) []))))) st = some (.dK []) := KxL.step (.dK []) nb st _ (Ne.symm xst) vst
  generalize (upd (upd H2 b (.dK [])) x (.ins c_Larder dx (putF "bars" (.ref b) (putF "stands" (.ref st) (putF "parts" (.ref p) []))))) = H3 at e3 k3 vb vp vst ⊢
  intro n nn
  have xn : x ≠ n := fun z => by rw [← z, e3] at nn; cases nn
  refine ⟨_, rfl, x, _, dx, _, rfl, (by rw [upd_ne xn]; exact e3), B.cl_Larder, B.na_Larder_names, (by omega), ?_⟩
  have e4 : (upd (upd H3 n (.dK [])) x (.ins c_Larder dx (putF "names" (.ref n) (putF "bars" (.ref b) (putF "stands" (.ref st) (putF "parts" (.ref p) [])))))) x = some (.ins c_Larder dx (putF "names" (.ref n) (putF "bars" (.ref b) (putF "stands" (.ref st) (putF "parts" (.ref p) []))))) := upd_same
  have k4 : KxL x H (upd (upd H3 n (.dK [])) x (.ins c_Larder dx (putF "names" (.ref n) (putF "bars" (.ref b) (putF "stands" (.ref st) (putF "parts" (.ref p) [])))))) := k3.trans (KxL.step (.dK []) nn)
  have vn : (upd (upd H3 n (.dK [])) x (.ins c_Larder dx (putF "names" (.ref n) (putF "bars" (.ref b) (putF "stands" (.ref st) (putF "parts" (.ref p) [])))))) n = some (.dK []) := by rw [upd_ne (Ne.symm xn)]; exact upd_same
  have l4 : ((putF "names" (.ref n) (putF "bars" (.ref b) (putF "stands" (.ref st) (putF "parts" (.ref p) [])))) : List (Str × V)).length ≤ 4 := by have := length_putF "names" (.ref n) (putF "bars" (.ref b) (putF "stands" (.ref st) (putF "parts" (.ref p) []))); omega
  have pn : p ≠ n := fun z => by rw [← z, vp] at nn; cases nn
  have n0 : H n = none := by
    cases h : H n with
    | none => rfl
    | some ob => rw [k3 n ob (Ne.symm xn) h] at nn; cases nn
  replace vp : (upd (upd H3 n (.dK [])) x (.ins c_Larder dx (putF "names" (.ref n) (putF "bars" (.ref b) (putF "stands" (.ref st) (putF "parts" (.ref p) [])))))) p = some (.dK []) := KxL.step (.dK []) nn p _ (Ne.symm xp) vp
  replace vst : (upd (upd H3 n (.dK [])) x (.ins c_Larder dx (putF "names" (.ref n) (putF "bars" (.ref b) (putF "stands" (.ref st) (putF "parts" (.ref p) [])))))) st = some (.dK []) := KxL.step (.dK []) nn st _ (Ne.symm xst) vst
  replace vb : (upd (upd H3 n (.dK [])) x (.ins c_Larder dx (putF "names" (.ref n) (putF "bars" (.ref b) (putF "stands" (.ref st) (putF "parts" (.ref p) [])))))) b = some (.dK []) := KxL.step (.dK []) nn b _ (Ne.symm xb) vb
  generalize (upd (upd H3 n (.dK [])) x (.ins c_Larder dx (putF "names" (.ref n) (putF "bars" (.ref b) (putF "stands" (.ref st) (putF "parts" (.ref p) [])))))) = H4 at e4 k4 vn vp vst vb ⊢
  exact q H4 [p, n] k4 (fun a ha => by (rcases List.mem_cons.mp ha with e | e); (· rw [e]; exact np); (· rw [List.mem_singleton.mp e]; exact n0)) ⟨dx, p, n, larF (.ref p) (.ref st) (.ref b) (.ref n), [], e4, larF_at.1, larF_at.2.1, trivial, vp, vn, rfl, by simp [pn], larF_at.2.2⟩

theorem scLarder_learn : FnScope ["self", "told", "fresh", "name"] ["self", "told"] (defScope sLarder_learn) := ⟨rfl, rfl, rfl, by decide +kernel, rfl, by decide +kernel, by decide +kernel⟩
set_option maxHeartbeats 4000000 in
theorem okLarder_learn {dV : Value} (F : FunD K "learn" "Larder.learn" sLarder_learn dV f fd) (B : Bn K mg c_EmptyHeap c_InRing c_Larder c_NoAmount c_NoDish c_NoName c_NoNet c_NoNumber c_NoPack c_NoPlan c_NoRow c_NoStand c_NoStandIn c_NoStep c_StoveError c_TooFew c_TooMany c_Twice f_Larder_init f_Larder_learn f_Larder_part f_Larder_known f_Larder_held)  : FnOk P w K mg base CX0 1 f fd ["self", "told"] (spLearn c_Larder) := by
  have sc := scLarder_learn
  refine F.ok sc (fun vs H Q E h => ?_) (fun cdv A outer s H vs Q E hr h => ?_)
  · obtain ⟨x, l, F0, rows, ns, xs, rfl, _⟩ := h
    rfl
  obtain ⟨x, l, F0, rows, ns, xs, rfl, la, el, room, nd, q⟩ := h
  refine ⟨_, (pss_cons (ps_compIf sc.nd (i := 2) rfl rfl (own := "name") (ys := ["self"]) (js := [0]) rfl (cok (atc atn) (.cons rfl .nil) (by decide) rfl rfl rfl rfl rfl rfl rfl rfl) (pi_list (pv 1)) (fun C fp s H => (pt_cmp (pc_dnotin (by exact hu_of hr) (pv 0) (pe_fldK (K := K) rfl (pv 1) rfl)) (by with_unfolding_all rfl))) (fun C fp s H => (pv 0))) (pss_cons (ps_if (pt_cmpR op_gt (pe_op op_add (pe_callB call_lenK rfl B.b_len boot_len (pa_cons (pe_fld (pv 0) rfl) pa_nil)) (pe_callB call_len_seq rfl B.b_len boot_len (pa_cons (pv 2) pa_nil))) (pe_globI rfl B.g_MOST_NAMES) (nomark _)) (pss_one ps_never) pss_nil) (pss_one (ps_for PassesOwn.never rfl (pi_list (pv 2)) (pg_name (i := 3) sc.nd rfl (Or.inl rfl)) (pss_one (ps_dput (hu_of hr) (pe_fld (pv 0) rfl) (pv 3) pe_bl rfl)))))), ?_⟩
  obtain ⟨dx, p, n, fs, ex, fp, fn, dd, en, _, _, fm⟩ := la.dd
  have slt : (3000 : Nat) < sizeLine := by decide
  refine ⟨_, rfl, l, rfl, ⟨_, SqL.of el⟩, compIf_list (xs := xs.map V.str) (fun v => match v with | .str y => !decide (y ∈ ns) | _ => false) (SqL.of el) (by rw [List.length_map]; omega) (fun v hv H3 g3 R hR => ?_) (fun p1 H1 g1 e1 => ?_)⟩
  · obtain ⟨y, hy, rfl⟩ := List.mem_map.mp hv
    refine ⟨_, rfl, _, rfl, x, _, dx, _, _, rfl, g3 _ _ ex, B.cl_Larder, B.na_Larder_names, fn, n, _, rfl, DGet.k (k := .inr y) (g3 _ _ en), _, rfl, ?_⟩
    rw [mapK_val]
    by_cases h : y ∈ ns
    · rw [if_pos h]
      have hR' : R (!decide (y ∈ ns)) H3 := hR
      rw [decide_eq_true h] at hR'
      exact hR'
    · rw [if_neg h]
      have hR' : R (!decide (y ∈ ns)) H3 := hR
      rw [decide_eq_false h] at hR'
      exact hR'
  · have fe : ∀ l : List Str, (l.map V.str).filter (fun v => match v with | .str y => !decide (y ∈ ns) | _ => false) = (l.filter fun y => !decide (y ∈ ns)).map V.str := by
      intro l
      induction l with
      | nil => rfl
      | cons c l ih =>
        rw [List.map_cons, List.filter_cons, List.filter_cons, ih]
        by_cases h : c ∈ ns
        · simp [h]
        · simp [h]
    rw [fe] at e1
    have fl := List.length_filter_le (fun y => !decide (y ∈ ns)) xs
    have fmem : ∀ y, y ∈ ns ∨ y ∈ (xs.filter fun y => !decide (y ∈ ns)) ↔ y ∈ ns ∨ y ∈ xs := by
      intro y
      rw [List.mem_filter]
      by_cases h : y ∈ ns <;> simp [h]
    generalize (xs.filter fun y => !decide (y ∈ ns)) = fr at e1 fl fmem
    try dsimp only [gName, tNext]
    refine cut (fun σ H' => H1 = H' ∧ σ = [some (.ref x), some (.ref l), some (.ref p1), none]) (fun N hN => ?_) ?_
    · refine ⟨_, rfl, x, _, dx, _, _, rfl, g1 _ _ ex, B.cl_Larder, B.na_Larder_names, fn, n, _, rfl, .inl (g1 _ _ en), _, rfl, p1, _, rfl, .inl (SqL.of e1), _, _, rfl, rfl, _, _, rfl, rfl, _, rfl, d2 (fun c => ?_) (fun c => hN _ _ ⟨rfl, rfl⟩)⟩
      rw [mapK_len, List.length_map] at c
      omega
    rintro σ _ ⟨rfl, rfl⟩
    refine ⟨_, rfl, p1, rfl, ⟨_, SqL.of e1⟩, for_list (xs := fr.map V.str) (fun i σ H' => KF F0 H1 H' ∧ (∃ o, σ = [some (.ref x), some (.ref l), some (.ref p1), o]) ∧ LA c_Larder F0 H' x rows (foldS ns (fr.take i))) ⟨KF.refl, ⟨_, rfl⟩, la.same g1⟩ (fun i σ H' _ h => SqL.of (h.1 _ _ ((la.same g1).not e1 (fun _ z => nomatch z)) e1)) ?_ ?_⟩
    · rintro i v σ H' hx ⟨k, ⟨o, rfl⟩, la'⟩
      rw [List.getElem?_map] at hx
      cases hc : fr[i]? with
      | none => rw [hc] at hx; cases hx
      | some y =>
        rw [hc] at hx
        cases hx
        obtain ⟨dx', p', n', fs', ex', fp', fn', dd', en', _, _, fm'⟩ := la'.dd
        have il := (List.getElem?_eq_some_iff.mp hc).1
        have tl := foldS_len (fr.take i) ns
        rw [List.length_take] at tl
        have tk : fr.take (i + 1) = fr.take i ++ [y] := by rw [List.take_succ, hc]; rfl
        refine ⟨_, rfl, x, _, dx', _, _, rfl, ex', B.cl_Larder, B.na_Larder_names, fn', _, rfl, n', _, rfl, DPut.k (k := .inr y) en' (by rw [mapK_len]; omega), ?_⟩
        rw [mapK_put, ← foldS_snoc, ← tk]
        obtain ⟨la2, k2, _⟩ := la'.learn (ms := foldS ns (fr.take (i + 1))) ex' fn'
        exact ⟨k.trans k2, ⟨_, rfl⟩, la2⟩
    · rintro σ H' ⟨k, ⟨o, rfl⟩, la'⟩
      rw [List.length_map, List.take_length] at la'
      exact q H' _ ((KF.of g1).trans k) la' (foldS_nodup nd) fun y => foldS_mem.trans (fmem y)

theorem scLarder_part : FnScope ["self", "good", "other", "back", "inside"] ["self", "good", "other"] (defScope sLarder_part) := ⟨rfl, rfl, rfl, by decide +kernel, rfl, by decide +kernel, by decide +kernel⟩
set_option maxHeartbeats 4000000 in
theorem okLarder_part {dV : Value} (F : FunD K "part" "Larder.part" sLarder_part dV f fd) (B : Bn K mg c_EmptyHeap c_InRing c_Larder c_NoAmount c_NoDish c_NoName c_NoNet c_NoNumber c_NoPack c_NoPlan c_NoRow c_NoStand c_NoStandIn c_NoStep c_StoveError c_TooFew c_TooMany c_Twice f_Larder_init f_Larder_learn f_Larder_part f_Larder_known f_Larder_held) (Dchain_down : Dx P w K mg base CX0 2 "chain_down" ["parts", "good", "goals"] [] spWayDown) (DLarder_learn : DxM P w K mg base CX0 1 f_Larder_learn ["self", "told"] [] (spLearn c_Larder)) (Xrefuse_no_names : Dx P w K mg base (CX1 P w) 2 "refuse_no_names" ["things"] [] (spRefX K c_NoName)) (I_InRing : DxI P w K mg base 1 c_InRing ["self", "ring"] (spInit c_InRing "ring")) : FnOk P w K mg base (CX1 P w) 3 f fd ["self", "good", "other"] (spPartX K c_Larder c_NoName c_InRing) := by
  have sc := scLarder_part
  refine F.okX sc (fun vs H Q E h => ?_) (fun cdv A outer s H vs Q E hr h => ?_)
  · obtain ⟨x, g, o, F0, rows, ns, ps, rfl, _⟩ := h
    rfl
  obtain ⟨x, g, o, F0, rows, ns, ps, rfl, la, ok, few, nd, n78, hg, ho, eN, qq⟩ := h
  refine ⟨_, (pss_cons (ps_expr (pcall1 Xrefuse_no_names hr (by decide) rfl passX (pa_cons (pe_lst (pa_cons (pv 1) (pa_cons (pv 2) pa_nil))) pa_nil))) (pss_cons (ps_set (i := 3) sc.nd rfl (Or.inl rfl) (pcall0 Dchain_down hr (by decide) rfl (pa_cons (pe_fld (pv 0) rfl) (pa_cons (pv 2) (pa_cons (pe_lst (pa_cons (pv 1) pa_nil)) pa_nil))))) (pss_cons (ps_if (pt_cmpR op_notN (pv 3) pe_non (nomark _)) (pss_one (praiseI I_InRing hr (by decide) rfl B.m_InRing rfl passX (pa_cons (pe_op op_cat (pe_lst (pa_cons (pv 1) pa_nil)) (pe_slice sl_list (pv 3) po_none (po_some (pe_un un_neg pe_int)))) pa_nil))) pss_nil) (pss_cons (ps_expr (pmeth0 (pv 0) DLarder_learn hr (by decide) (pa_cons (pe_lst (pa_cons (pv 1) (pa_cons (pv 2) pa_nil))) pa_nil))) (pss_cons (ps_set (i := 4) sc.nd rfl (Or.inl rfl) (pe_bm PySem.F.plainAttrs_dict PySem.F.slot_dict_setdefault PySem.F.type_dict_setdefault mt_setdef (pe_fld (pv 0) rfl) (pa_cons (pv 1) (pa_cons pe_dnewK pa_nil)))) (pss_one (ps_dput (hu_of hr) (pv 4) (pv 2) pe_bl rfl))))))), ?_⟩
  have slt : (3000 : Nat) < sizeLine := by decide
  refine ⟨_, rfl, _, rfl, (by show 2 ≤ sizeLine; decide), fun l0 n0 => ?_⟩
  have g1 := same_new n0 (.lst [g, o])
  refine ⟨l0, _, rfl, upd_same, (fun y hy => ?_), fun nn => ?_, fun nn H' gg => eN (fun z => nn fun y hy => ?_) H' (g1.trans gg)⟩
  · rcases List.mem_cons.mp hy with rfl | hy
    · exact hg.imp id (OddV.same g1)
    · rw [List.mem_singleton.mp hy]
      exact ho.imp id (OddV.same g1)
  rotate_left
  · rcases List.mem_cons.mp hy with rfl | hy
    · exact z.1
    · rw [List.mem_singleton.mp hy]
      exact z.2
  obtain ⟨zg, rfl, mg'⟩ := nn g (by simp)
  obtain ⟨zo, rfl, mo'⟩ := nn o (by simp)
  obtain ⟨qR, qD⟩ := qq zg zo rfl rfl mg' mo'
  have la1 := la.same g1
  generalize upd H l0 (.lst [.str zg, .str zo]) = H1 at g1 la1 ⊢
  obtain ⟨dx, p, n, fs, ex, fp, fn, dd, en, _, _, fm⟩ := la1.dd
  refine ⟨_, rfl, x, _, dx, _, _, rfl, ex, B.cl_Larder, B.na_Larder_parts, fp, _, rfl, _, rfl, (by show 1 ≤ sizeLine; decide), fun l2 n2 => ?_⟩
  have g2 := same_new n2 (.lst [.str zg])
  refine ⟨p, l2, zo, rows, ps, [zg], rfl, dd.same g2, ok, by omega, ⟨upd_same, by simp⟩, fun H3 g3 nl => ?_, fun lb H3 c goal g3 eb wy gm gl ga => ?_⟩
  · have g13 := g2.trans g3
    have la3 := la1.same g13
    try dsimp only [gName, tNext]
    refine ⟨_, rfl, rfl, _, rfl, iteF ?_⟩
    obtain ⟨dx, p, n, fs, ex, fp, fn, dd, en, _, _, fm⟩ := la3.dd
    refine ⟨_, rfl, x, _, dx, _, rfl, ex, B.cl_Larder, B.me_Larder_learn, fm _ (by simp), _, rfl, _, rfl, (by show 2 ≤ sizeLine; decide), fun l4 n4 => ?_⟩
    have g4 := same_new n4 (.lst [.str zg, .str zo])
    refine ⟨x, l4, F0, rows, ns, [zg, zo], rfl, la3.same g4, upd_same, (by simp; omega), nd, fun H5 ms k5 la5 nd5 m5 => ?_⟩
    have k05 : KF F0 H H5 := (KF.of ((g1.trans g13).trans g4)).trans k5
    obtain ⟨dx, p, n, fs, rs, ex, fp, fn, dr, ed, en, eF, ndF, fm⟩ := la5.ex
    have rf := ok.few
    have dl := dr.len
    have nl' : ¬ Led ps zo zg := nl zg (by simp)
    refine ⟨_, rfl, x, _, dx, _, _, rfl, ex, B.cl_Larder, B.na_Larder_parts, fp, .inr (.inr (.inl ⟨rfl, .inl ⟨_, ed⟩⟩)), _, rfl, fun pn hn => ?_⟩
    have g6 := same_new hn (.dK [])
    refine ⟨p, _, .inr zg, .ref pn, rfl, rfl, g6 _ _ ed, by omega, fun w hw => ?_, fun hw => ?_⟩
    · obtain ⟨r, ys, rfl, hm, hH, la6, k6⟩ := (la5.same g6).put_some (y := zo) (g6 _ _ ex) fp (g6 _ _ ed) hw
      have ysl := (ok.small _ hm).1
      refine ⟨_, rfl, _, rfl, r, _, rfl, DPut.k (k := .inr zo) hH (by rw [mapK_len]; have : ys.length ≤ ps.length := ysl; omega), ?_⟩
      rw [mapK_put]
      exact qD nl' F0 _ ms ((k05.trans (KF.of g6)).trans k6) FG.refl la6 nd5 fun y => (m5 y).trans (by simp)
    · have pd : pn ≠ p := fun z => by rw [z, ed] at hn; cases hn
      obtain ⟨la6, k6⟩ := la5.put_none (y := zo) ex fp ed hn hw
      refine ⟨_, rfl, _, rfl, pn, _, rfl, DPut.k (k := .inr zo) (kvs := []) (by rw [upd_ne pd]; exact upd_same) (by show 0 < sizeLine; omega), ?_⟩
      refine qD nl' (F0 ++ [pn]) _ ms (k05.trans k6) (fun a ha => ?_) la6 nd5 fun y => (m5 y).trans (by simp)
      rcases List.mem_append.mp ha with ha | ha
      · exact .inl ha
      · rw [List.mem_singleton.mp ha]
        refine .inr ?_
        cases hp : H pn with
        | none => rfl
        | some ob => rw [k05 _ _ (la5.free hn) hp] at hn; cases hn
  · obtain rfl := List.mem_singleton.mp gm
    try dsimp only [gName, tNext]
    have c1 : 1 ≤ c.length := by
      have := wy.first
      cases c with
      | nil => cases this
      | cons _ _ => simp
    refine ⟨_, rfl, rfl, _, rfl, iteT ?_⟩
    refine ⟨_, rfl, (by show 1 ≤ sizeLine; decide), fun l4 n4 => ?_⟩
    have g4 := same_new n4 (.lst [.str goal])
    refine ⟨_, rfl, _, rfl, _, rfl, lb, _, rfl, SqL.of (g4 _ _ eb), fun l5 n5 => ?_⟩
    rw [cutV_last (by rw [List.length_map]; exact c1), ← List.map_dropLast]
    have g5 := same_new n5 (.lst (c.dropLast.map V.str))
    have lf := wy.few
    refine ⟨l4, l5, _, _, rfl, rfl, g5 _ _ upd_same, upd_same, (by rw [List.length_map, List.length_dropLast]; show 1 + _ ≤ _; omega), fun l6 n6 => ?_⟩
    have g6 := same_new n6 (.lst ([.str goal] ++ c.dropLast.map V.str))
    have gA := ((((g1.trans g2).trans g3).trans g4).trans g5).trans g6
    refine ⟨(by show 1 ≤ sizeLine; decide), fun xa na => init_of na fun d H2 g ea ed ne gd edd => ⟨rfl, d, ea, ?_⟩⟩
    exact qR gl d l6 _ c (gA.trans gd) (gd _ _ upd_same) edd wy

theorem scLarder_known : FnScope ["self"] ["self"] (defScope sLarder_known) := ⟨rfl, rfl, rfl, by decide +kernel, rfl, by decide +kernel, by decide +kernel⟩
set_option maxHeartbeats 4000000 in
theorem okLarder_known {dV : Value} (F : FunD K "known" "Larder.known" sLarder_known dV f fd) (B : Bn K mg c_EmptyHeap c_InRing c_Larder c_NoAmount c_NoDish c_NoName c_NoNet c_NoNumber c_NoPack c_NoPlan c_NoRow c_NoStand c_NoStandIn c_NoStep c_StoveError c_TooFew c_TooMany c_Twice f_Larder_init f_Larder_learn f_Larder_part f_Larder_known f_Larder_held)  : FnOk P w K mg base CX0 1 f fd ["self"] (spKnown c_Larder) := by
  have sc := scLarder_known
  refine F.ok sc (fun vs H Q E h => ?_) (fun cdv A outer s H vs Q E hr h => ?_)
  · obtain ⟨x, F0, rows, ns, rfl, _⟩ := h
    rfl
  obtain ⟨x, F0, rows, ns, rfl, la, nd, q⟩ := h
  refine ⟨_, (pss_one (ps_ret (pe_callB (call_sortD rfl) rfl B.b_sorted PyProof.Rows.Boot.«sorted» (pa_cons (pe_fld (pv 0) rfl) pa_nil)))), ?_⟩
  obtain ⟨dx, p, n, fs, ex, fp, fn, dd, en, _, _, fm⟩ := la.dd
  refine ⟨_, rfl, x, _, dx, _, _, rfl, ex, B.cl_Larder, B.na_Larder_names, fn, n, ns, _, rfl, en, mapK_keys ns _, nd, fun p ys np pr sr => q p _ ys (same_new np _) upd_same sr pr⟩

theorem scLarder_held : FnScope ["self", "good"] ["self", "good"] (defScope sLarder_held) := ⟨rfl, rfl, rfl, by decide +kernel, rfl, by decide +kernel, by decide +kernel⟩
set_option maxHeartbeats 4000000 in
theorem okLarder_held {dV : Value} (F : FunD K "held" "Larder.held" sLarder_held dV f fd) (B : Bn K mg c_EmptyHeap c_InRing c_Larder c_NoAmount c_NoDish c_NoName c_NoNet c_NoNumber c_NoPack c_NoPlan c_NoRow c_NoStand c_NoStandIn c_NoStep c_StoveError c_TooFew c_TooMany c_Twice f_Larder_init f_Larder_learn f_Larder_part f_Larder_known f_Larder_held) (Drefuse_no_names : Dx P w K mg base CX0 2 "refuse_no_names" ["things"] [] spRef) (Dall_inside : Dx P w K mg base CX0 2 "all_inside" ["parts", "good"] [] spInside) : FnOk P w K mg base CX0 3 f fd ["self", "good"] (spHeld c_Larder) := by
  have sc := scLarder_held
  refine F.ok sc (fun vs H Q E h => ?_) (fun cdv A outer s H vs Q E hr h => ?_)
  · obtain ⟨x, good, F0, rows, ns, ps, rfl, _⟩ := h
    rfl
  obtain ⟨x, good, F0, rows, ns, ps, rfl, la, ok, few, nm, q⟩ := h
  refine ⟨_, (pss_cons (ps_expr (pcall0 Drefuse_no_names hr (by decide) rfl (pa_cons (pe_lst (pa_cons (pv 1) pa_nil)) pa_nil))) (pss_one (ps_ret (pcall0 Dall_inside hr (by decide) rfl (pa_cons (pe_fld (pv 0) rfl) (pa_cons (pv 1) pa_nil)))))), ?_⟩
  refine ⟨_, rfl, (by show 1 ≤ sizeLine; decide), fun l0 n0 => ?_⟩
  have g1 := same_new n0 (.lst [V.str good])
  refine ⟨l0, _, rfl, upd_same, (fun y hy => by rw [List.mem_singleton.mp hy]; exact ⟨_, rfl, nm⟩), ?_⟩
  obtain ⟨dx, p, n, fs, ex, fp, fn, dd, en, _, _, fm⟩ := (la.same g1).dd
  exact ⟨_, rfl, x, _, dx, _, _, rfl, ex, B.cl_Larder, B.na_Larder_parts, fp, _, rfl, p, good, rows, ps, rfl, dd, ok, few, fun l H2 ys g2 n2 e2 s2 d2 m2 => q l H2 ys (g1.trans g2) e2 s2 d2 m2⟩

theorem sc_law_cell_at : FnScope ["_law_script", "_law_k"] ["_law_script", "_law_k"] (defScope s_law_cell_at) := ⟨rfl, rfl, rfl, by decide +kernel, rfl, by decide +kernel, by decide +kernel⟩
set_option maxHeartbeats 4000000 in
theorem ok_law_cell_at {dV : Value} (F : FunD K "_law_cell_at" "_law_cell_at" s_law_cell_at dV f fd) (B : Bn K mg c_EmptyHeap c_InRing c_Larder c_NoAmount c_NoDish c_NoName c_NoNet c_NoNumber c_NoPack c_NoPlan c_NoRow c_NoStand c_NoStandIn c_NoStep c_StoveError c_TooFew c_TooMany c_Twice f_Larder_init f_Larder_learn f_Larder_part f_Larder_known f_Larder_held)  : FnOk P w K mg base CX0 1 f fd ["_law_script", "_law_k"] (spCell K) := by
  have sc := sc_law_cell_at
  refine F.ok sc (fun vs H Q E h => ?_) (fun cdv A outer s H vs Q E hr h => ?_)
  · obtain ⟨a, ns, k, rfl, _⟩ := h
    rfl
  obtain ⟨a, ns, k, rfl, hS, h0, q⟩ := h
  refine ⟨_, (pss_cons (ps_if (pt_cmpR op_lt (pv 1) (pe_callB call_len_seq rfl B.b_len boot_len (pa_cons (pv 0) pa_nil)) (nomark _)) (pss_one (ps_ret (pe_ix ix_list (pv 0) (pv 1) (fun _ _ => rfl)))) pss_nil) (pss_one (ps_ret pe_int))), ?_⟩
  refine ⟨_, rfl, _, rfl, a, _, rfl, .inl hS, _, _, rfl, rfl, _, rfl, d2 (fun c => ?_) (fun c => ?_)⟩
  · obtain ⟨v, hv⟩ := cell_ok h0 c
    exact ⟨_, rfl, _, rfl, a, _, _, _, rfl, rfl, hS, hv, q v⟩
  · exact q 0

theorem sc_law_led_to : FnScope ["_law_pairs", "_law_good", "_law_known", "_law_grows", "_law_before", "_law_one", "_law_other"] ["_law_pairs", "_law_good"] (defScope s_law_led_to) := ⟨rfl, rfl, rfl, by decide +kernel, rfl, by decide +kernel, by decide +kernel⟩
set_option maxHeartbeats 4000000 in
theorem ok_law_led_to {dV : Value} (F : FunD K "_law_led_to" "_law_led_to" s_law_led_to dV f fd) (B : Bn K mg c_EmptyHeap c_InRing c_Larder c_NoAmount c_NoDish c_NoName c_NoNet c_NoNumber c_NoPack c_NoPlan c_NoRow c_NoStand c_NoStandIn c_NoStep c_StoveError c_TooFew c_TooMany c_Twice f_Larder_init f_Larder_learn f_Larder_part f_Larder_known f_Larder_held)  : FnOk P w K mg base CX0 1 f fd ["_law_pairs", "_law_good"] spLed := by
  have sc := sc_law_led_to
  refine F.ok sc (fun vs H Q E h => ?_) (fun cdv A outer s H vs Q E hr h => ?_)
  · obtain ⟨l, good, ps, rfl, _⟩ := h
    rfl
  obtain ⟨l, good, ps, rfl, hp, few, q⟩ := h
  obtain ⟨as, al, el, ep⟩ := hp.ex
  refine ⟨_, (pss_cons (ps_set (i := 2) sc.nd rfl (Or.inl rfl) (pe_disp (pps_cons (pv 1) pe_bl pps_nil) rfl rfl (by simp) (by decide))) (pss_cons (ps_set (i := 3) sc.nd rfl (Or.inl rfl) pe_bl) (pss_cons (ps_while PassesOwn.never (pt_val (pv 3)) (pss_cons (ps_set (i := 4) sc.nd rfl (Or.inl rfl) (pe_callB call_lenK rfl B.b_len boot_len (pa_cons (pv 2) pa_nil))) (pss_cons (ps_for PassesOwn.never rfl (pi_list (pv 0)) (pg_tup rfl (pgs_cons (pg_name (i := 5) sc.nd rfl (Or.inl rfl)) (pgs_cons (pg_name (i := 6) sc.nd rfl (Or.inl rfl)) pgs_nil))) (pss_one (ps_if (pt_cmp (pc_din (hu_of hr) (pv 5) (pv 2)) (by with_unfolding_all rfl)) (pss_one (ps_dput (hu_of hr) (pv 2) (pv 6) pe_bl rfl)) pss_nil))) (pss_one (ps_set (i := 3) sc.nd rfl (Or.inl rfl) (pe_cmpR op_gt (pe_callB call_lenK rfl B.b_len boot_len (pa_cons (pv 2) pa_nil)) (pv 4) (nomark _))))))) (pss_one (ps_ret (pv 2)))))), ?_⟩
  refine fun d nd => ⟨_, rfl, upd_same, [(.inr good, .bl true)], rfl, (by show 1 ≤ 15; decide), ?_⟩
  have g0 : Same H (upd (upd H d (.dK [])) d (.dK (mergeK [] [((.inr good : Key), V.bl true)]))) := by
    rw [upd_upd]
    exact same_new nd _
  have e0 : (upd (upd H d (.dK [])) d (.dK (mergeK [] [((.inr good : Key), V.bl true)]))) d = some (.dK (mapK [good] (.bl true))) := upd_same
  generalize upd (upd H d (.dK [])) d (.dK (mergeK [] [((.inr good : Key), V.bl true)])) = H0 at g0 e0 ⊢
  have slt : (3000 : Nat) < sizeLine := by decide
  try dsimp only [gName, tNext]
  refine cut (fun σ H' => H' = H0 ∧ σ = [some (.ref l), some (.str good), some (.ref d), some (.bl true), none, none, none]) (fun N hN => hN _ _ ⟨rfl, rfl⟩) ?_
  rintro σ _ ⟨rfl, rfl⟩
  refine while_by (fun σ H' => Same H H' ∧ ∃ (ks : List Str) (g : Bool) (o4 o5 o6 : Option V), σ = [some (.ref l), some (.str good), some (.ref d), some (.bl g), o4, o5, o6] ∧ H' d = some (.dK (mapK ks (.bl true))) ∧ ks.Nodup ∧ good ∈ ks ∧ (∀ y ∈ ks, Led ps good y) ∧ ks.length + lack (ps.map (·.2)) ks ≤ 1001 ∧ (g = false → ∀ a b, a ∈ ks → (a, b) ∈ ps → b ∈ ks))
    (fun (σ : L2.St) (H' : Hp) => match σ[3]?, H' d with | some (some (V.bl g)), some (.dK kvs) => 2 * (1002 - kvs.length) + (if g = true then 1 else 0) | _, _ => 0)
    ⟨g0, [good], true, none, none, none, rfl, e0, by simp, by simp, fun y hy => by simp at hy; subst hy; exact .self, ?_, fun z => nomatch z⟩ ?_ (fun σ H Q Q' m ⟨v, e, b, hb, h2⟩ => ⟨v, e, b, hb, m _ _ h2⟩)
  · have := lack_le_len (ps.map (·.2)) [good]
    rw [List.length_map] at this
    show 1 + _ ≤ _
    omega
  rintro σ H1 ⟨g1, ks, gr, o4, o5, o6, rfl, e1, nd1, hg, hL, room, cl⟩
  refine ⟨_, rfl, gr, rfl, ?_⟩
  cases gr with
  | false =>
    refine iteF ⟨_, rfl, q d H1 ks g1 e1 nd1 fun y => ⟨hL y, fun l => l.closed (S := fun y => y ∈ ks) hg (cl rfl)⟩⟩
  | true =>
    refine iteT ⟨_, rfl, d, _, rfl, .inl e1, ?_⟩
    try dsimp only [gName, tNext]
    refine cut (fun σ H' => Same H H' ∧ ∃ (ks' : List Str) (o5 o6 : Option V), σ = [some (.ref l), some (.str good), some (.ref d), some (.bl true), some (.int ((mapK ks (V.bl true)).length)), o5, o6] ∧ H' d = some (.dK (mapK ks' (.bl true))) ∧ ks'.Nodup ∧ (∀ y ∈ ks, y ∈ ks') ∧ (∀ y ∈ ks', Led ps good y) ∧ ks'.length + lack (ps.map (·.2)) ks' ≤ 1001 ∧ ks.length ≤ ks'.length ∧ (ks'.length = ks.length → ∀ y ∈ ks', y ∈ ks) ∧ (∀ a b, a ∈ ks → (a, b) ∈ ps → b ∈ ks')) (fun N hN => ?_) ?_
    · refine ⟨_, rfl, l, rfl, ⟨_, SqL.of (g1 _ _ el)⟩, ?_⟩
      refine for_list (xs := as.map V.ref) (fun i σ H' => Same H H' ∧ SqL K H' l (as.map V.ref) ∧ ∃ (ks' : List Str) (o5 o6 : Option V), σ = [some (.ref l), some (.str good), some (.ref d), some (.bl true), some (.int ((mapK ks (V.bl true)).length)), o5, o6] ∧ H' d = some (.dK (mapK ks' (.bl true))) ∧ ks'.Nodup ∧ (∀ y ∈ ks, y ∈ ks') ∧ (∀ y ∈ ks', Led ps good y) ∧ ks'.length + lack (ps.map (·.2)) ks' ≤ 1001 ∧ ks.length ≤ ks'.length ∧ (ks'.length = ks.length → ∀ y ∈ ks', y ∈ ks) ∧ (∀ (j : Nat) (a b : Str), j < i → ps[j]? = some (a, b) → a ∈ ks → b ∈ ks'))
        ⟨g1, SqL.of (g1 _ _ el), ks, o5, o6, rfl, e1, nd1, fun _ z => z, hL, room, Nat.le_refl _, fun _ _ z => z, fun j a b h => absurd h (by omega)⟩ (fun i σ H' _ h => h.2.1) ?_ ?_
      · rintro i x σ H2 hx ⟨g2, S2, ks', o5, o6, rfl, e2, nd2, sub, hL2, room2, le2, eq2, cl2⟩
        rw [List.getElem?_map] at hx
        cases ha : as[i]? with
        | none => rw [ha] at hx; cases hx
        | some a =>
          rw [ha] at hx
          cases hx
          have il : i < ps.length := by rw [← al]; exact (List.getElem?_eq_some_iff.mp ha).1
          have hpi := List.getElem?_eq_getElem il
          have et := g2 _ _ (ep i a _ ha hpi)
          have pm : (ps[i].1, ps[i].2) ∈ ps := List.getElem_mem il
          have pm2 : ps[i].2 ∈ ps.map (·.2) := List.mem_map.mpr ⟨_, pm, rfl⟩
          generalize ps[i] = p at *
          refine ⟨a, _, rfl, SqT.of et, rfl, _, _, rfl, _, _, rfl, rfl, ?_⟩
          refine ⟨_, rfl, _, rfl, d, _, rfl, DGet.k (k := .inr p.1) e2, _, rfl, ?_⟩
          rw [mapK_val]
          by_cases hin : p.1 ∈ ks'
          · rw [if_pos hin]
            refine iteT ⟨_, rfl, _, rfl, d, _, rfl, DPut.k (k := .inr p.2) e2 (by rw [mapK_len]; omega), ?_⟩
            have gN := sUpd (o := .dK (putK (mapK ks' (.bl true)) (.inr p.2) (.bl true))) g2 nd
            refine ⟨gN, gN.seq (SqL.of el), addS ks' p.2, _, _, rfl, by rw [upd_same, mapK_put], addS_nodup nd2, fun y hy => mem_addS.mpr (.inl (sub y hy)), fun y hy => ?_, Nat.le_trans (addS_room pm2) room2, Nat.le_trans le2 (addS_len ks' p.2).1, fun e y hy => ?_, fun j u v hj hv hu => ?_⟩
            · rcases mem_addS.mp hy with k | rfl
              · exact hL2 y k
              · exact .step (hL2 _ hin) pm
            · have k1 := (addS_len ks' p.2).1
              have e' : ks'.length = ks.length := by omega
              rcases mem_addS.mp hy with k | rfl
              · exact eq2 e' y k
              · exact eq2 e' _ ((addS_len ks' p.2).2.1 (by omega))
            · rcases Nat.lt_succ_iff_lt_or_eq.mp hj with k | rfl
              · exact mem_addS.mpr (.inl (cl2 j u v k hv hu))
              · rw [hpi] at hv
                cases hv
                exact mem_addS.mpr (.inr rfl)
          · rw [if_neg hin]
            refine iteF ⟨g2, S2, ks', _, _, rfl, e2, nd2, sub, hL2, room2, le2, eq2, fun j u v hj hv hu => ?_⟩
            rcases Nat.lt_succ_iff_lt_or_eq.mp hj with k | rfl
            · exact cl2 j u v k hv hu
            · rw [hpi] at hv
              cases hv
              exact absurd (sub _ hu) hin
      · rintro σ H2 ⟨g2, S2, ks', o5, o6, rfl, e2, nd2, sub, hL2, room2, le2, eq2, cl2⟩
        refine hN _ _ ⟨g2, ks', o5, o6, rfl, e2, nd2, sub, hL2, room2, le2, eq2, fun a b ha hab => ?_⟩
        obtain ⟨j, hj⟩ := List.mem_iff_getElem?.mp hab
        have jl := (List.getElem?_eq_some_iff.mp hj).1
        exact cl2 j a b (by rw [List.length_map, al]; exact jl) hj ha
    rintro σ H2 ⟨g2, ks', o5, o6, rfl, e2, nd2, sub, hL2, room2, le2, eq2, cl2⟩
    refine ⟨_, rfl, d, _, rfl, .inl e2, _, rfl, _, _, rfl, rfl, ⟨g2, ks', _, _, o5, o6, rfl, e2, nd2, sub good hg, hL2, room2, fun hf a b ha hab => ?_⟩, ?_⟩
    · have nlt := of_decide_eq_false hf
      rw [mapK_len, mapK_len] at nlt
      exact cl2 a b (eq2 (by omega) a ha) hab
    · show (match (some (some (V.bl (decide (_ : Prop))))), H2 d with | some (some (V.bl g)), some (.dK kvs) => 2 * (1002 - kvs.length) + (if g = true then 1 else 0) | _, _ => 0) < (match (some (some (V.bl true))), H1 d with | some (some (V.bl g)), some (.dK kvs) => 2 * (1002 - kvs.length) + (if g = true then 1 else 0) | _, _ => 0)
      rw [e1, e2]
      show 2 * (1002 - (mapK ks' (V.bl true)).length) + (if decide (_ : Prop) = true then 1 else 0) < 2 * (1002 - (mapK ks (V.bl true)).length) + (if true = true then 1 else 0)
      rw [mapK_len, mapK_len, if_pos rfl]
      by_cases c : ((ks.length : Nat) : Int) < ((ks'.length : Nat) : Int)
      · rw [decide_eq_true c, if_pos rfl]
        omega
      · rw [decide_eq_false c, if_neg (by decide)]
        omega

theorem sc_law_names : FnScope ["_law_number", "_law_many", "_law_cell", "_law_letters", "_law_base", "_law_k", "_law_at", "_law_size", "_law_step", "_law_core", "_law_names_here", "_law_sign"] ["_law_number", "_law_many"] (defScope s_law_names) := ⟨rfl, rfl, rfl, by decide +kernel, rfl, by decide +kernel, by decide +kernel⟩
set_option maxHeartbeats 4000000 in
theorem ok_law_names {dV : Value} (F : FunD K "_law_names" "_law_names" s_law_names dV f fd) (B : Bn K mg c_EmptyHeap c_InRing c_Larder c_NoAmount c_NoDish c_NoName c_NoNet c_NoNumber c_NoPack c_NoPlan c_NoRow c_NoStand c_NoStandIn c_NoStep c_StoveError c_TooFew c_TooMany c_Twice f_Larder_init f_Larder_learn f_Larder_part f_Larder_known f_Larder_held)  : FnOk P w K mg base CX0 1 f fd ["_law_number", "_law_many"] spNames9 := by
  have sc := sc_law_names
  refine F.ok sc (fun vs H Q E h => ?_) (fun cdv A outer s H vs Q E hr h => ?_)
  · obtain ⟨n, m, rfl, _⟩ := h
    rfl
  obtain ⟨nb, many, rfl, m0, m1, q⟩ := h
  refine ⟨_, (pss_cons (ps_set (i := 2) sc.nd rfl (Or.inl rfl) (pe_op op_modN (pv 0) pe_int)) (pss_cons (ps_set (i := 3) sc.nd rfl (Or.inl rfl) pe_str) (pss_cons (ps_set (i := 4) sc.nd rfl (Or.inl rfl) pe_str) (pss_cons (ps_for PassesOwn.never rfl (pi_range1 rfl B.b_range (pa_cons pe_int pa_nil)) (pg_name (i := 5) sc.nd rfl (Or.inl rfl)) (pss_one (ps_set (i := 4) sc.nd rfl (Or.inl rfl) (pe_op op_add_str (pv 4) (pe_ix ix_str (pv 3) (pe_op op_modN (pe_op op_modN (pe_op op_mulB (pe_op op_add (pv 2) pe_int) (pe_op op_add (pe_op op_add (pe_op op_mulB (pv 5) (pv 5)) (pe_op op_mulB pe_int (pv 5))) pe_int)) pe_int) pe_int) (fun _ _ => rfl)))))) (pss_cons (ps_set (i := 6) sc.nd rfl (Or.inl rfl) (pe_op op_modN (pe_op op_fdivB (pv 2) pe_int) pe_int)) (pss_cons (ps_set (i := 7) sc.nd rfl (Or.inl rfl) (pe_op op_modN (pe_op op_fdivB (pv 2) pe_int) pe_int)) (pss_cons (ps_set (i := 8) sc.nd rfl (Or.inl rfl) (pe_ix ix_list (pe_lst (pa_cons pe_int (pa_cons pe_int (pa_cons pe_int (pa_cons pe_int (pa_cons pe_int (pa_cons pe_int (pa_cons pe_int (pa_cons pe_int pa_nil))))))))) (pe_op op_modN (pe_op op_fdivB (pv 2) pe_int) pe_int) (fun _ _ => rfl))) (pss_cons (ps_set (i := 9) sc.nd rfl (Or.inl rfl) (pe_slice sl_str (pv 4) po_none (po_some (pv 7)))) (pss_cons (ps_set (i := 10) sc.nd rfl (Or.inl rfl) (pe_lst pa_nil)) (pss_cons (ps_for PassesOwn.never rfl (pi_range1 rfl B.b_range (pa_cons (pv 1) pa_nil)) (pg_name (i := 5) sc.nd rfl (Or.inl rfl)) (pss_cons (ps_set (i := 11) sc.nd rfl (Or.inl rfl) (pe_ix ix_str (pv 3) (pe_op op_modN (pe_op op_add (pe_op op_fdivB (pv 2) pe_int) (pe_op op_mulB (pv 5) (pv 8))) pe_int) (fun _ _ => rfl))) (pss_one (ps_if (pt_cmpR op_gt (pv 1) pe_int (nomark _)) (pss_one (ps_expr (pe_bm PySem.F.plainAttrs_list PySem.F.slot_list_append PySem.F.type_list_append mt_append (pv 10) (pa_cons (pe_op op_add_str (pe_op op_add_str (pe_op op_add_str (pe_slice sl_str (pv 9) po_none (po_some (pv 6))) (pe_ix ix_str (pv 3) (pe_op op_fdivB (pv 5) pe_int) (fun _ _ => rfl))) (pv 11)) (pe_slice sl_str (pv 9) (po_some (pv 6)) po_none)) pa_nil)))) (pss_one (ps_if (PW.pt (pw_and (pt_cmpR op_eq (pe_op op_modN (pv 2) pe_int) pe_int (nomark _)) (pw_and1 (pt_cmpR op_le (pv 1) pe_int (nomark _))))) (pss_one (ps_expr (pe_bm PySem.F.plainAttrs_list PySem.F.slot_list_append PySem.F.type_list_append mt_append (pv 10) (pa_cons (pe_slice sl_str (pv 4) po_none (po_some (pe_op op_add (pv 5) pe_int))) pa_nil)))) (pss_one (ps_if (pt_cmpR op_eq (pe_op op_modN (pv 2) pe_int) pe_int (nomark _)) (pss_one (ps_expr (pe_bm PySem.F.plainAttrs_list PySem.F.slot_list_append PySem.F.type_list_append mt_append (pv 10) (pa_cons (pe_op op_add_str (pe_slice sl_str (pv 4) po_none (po_some (pe_op op_modN (pv 5) pe_int))) (pv 11)) pa_nil)))) (pss_one (ps_expr (pe_bm PySem.F.plainAttrs_list PySem.F.slot_list_append PySem.F.type_list_append mt_append (pv 10) (pa_cons (pe_op op_add_str (pe_op op_add_str (pe_slice sl_str (pv 9) po_none (po_some (pv 6))) (pv 11)) (pe_slice sl_str (pv 9) (po_some (pv 6)) po_none)) pa_nil)))))))))))) (pss_one (ps_ret (pv 10))))))))))))), ?_⟩
  refine ⟨_, rfl, _, _, rfl, rfl, (by show (1000003 : Int) ≠ 0; decide), ?_⟩
  have c0 := Int.fmod_nonneg_of_pos nb (show (0 : Int) < 1000003 by decide)
  have c1 := Int.fmod_lt_of_pos nb (show (0 : Int) < 1000003 by decide)
  have s9 : (9000 : Nat) ≤ sizeLine := by decide
  have one : ∀ c : Nat, (⟨#[c]⟩ : Str).length = 1 := fun _ => rfl
  have sm : ∀ (x : Int), 0 ≤ x → x < 2 ^ 30 → Bd 30 x := fun x h0 h1 => by unfold Bd; omega
  have bd3 : Bd 30 (3 : Int) := by unfold Bd; decide
  try dsimp only [gName, tNext]
  refine cut (fun σ H' => H = H' ∧ ∃ c : Int, 0 ≤ c ∧ c < 1000003 ∧ σ = [some (.int nb), some (.int many), some (.int c), some (.str lettT), none, none, none, none, none, none, none, none]) (fun N hN => hN _ _ ⟨rfl, _, c0, c1, rfl⟩) ?_
  clear c0 c1
  rintro σ _ ⟨rfl, c, c0, c1, rfl⟩
  refine cut (fun σ H' => H = H' ∧ σ = [some (.int nb), some (.int many), some (.int c), some (.str lettT), some (.str ""), none, none, none, none, none, none, none]) (fun N hN => hN _ _ ⟨rfl, rfl⟩) ?_
  rintro σ _ ⟨rfl, rfl⟩
  refine cut (fun σ H' => H = H' ∧ ∃ (b : Str) (o5 : Option V), σ = [some (.int nb), some (.int many), some (.int c), some (.str lettT), some (.str b), o5, none, none, none, none, none, none] ∧ b.length = 12 ∧ Lt b) (fun N hN => ?_) ?_
  · refine ⟨_, rfl, (by decide), (by decide), for_range (fun i σ H' => H = H' ∧ ∃ (b : Str) (o5 : Option V), σ = [some (.int nb), some (.int many), some (.int c), some (.str lettT), some (.str b), o5, none, none, none, none, none, none] ∧ b.length = i ∧ Lt b) ⟨rfl, _, none, rfl, rfl, Lt.nil⟩ (fun i σ H' hi hP => ?_) (fun σ H' hP => ?_)⟩
    · obtain ⟨rfl, b, o5, rfl, hb, hL⟩ := hP
      have hi' : i < 12 := hi
      have bk : Bd 30 (0 + (i : Int)) := sm _ (by omega) (by omega)
      have b1 : Bd 60 ((0 + (i : Int)) * (0 + (i : Int))) := bk.mul bk
      have b2 : Bd 60 (3 * (0 + (i : Int))) := bd3.mul bk
      have b3 : Bd 62 ((0 + (i : Int)) * (0 + (i : Int)) + 3 * (0 + (i : Int)) + 7) := (b1.add b2).add ((show Bd 61 (7 : Int) by unfold Bd; decide))
      have i0 := Int.fmod_nonneg_of_pos (((c + 1) * ((0 + (i : Int)) * (0 + (i : Int)) + 3 * (0 + (i : Int)) + 7)).fmod 1013) (show (0 : Int) < 26 by decide)
      have i1 := Int.fmod_lt_of_pos (((c + 1) * ((0 + (i : Int)) * (0 + (i : Int)) + 3 * (0 + (i : Int)) + 7)).fmod 1013) (show (0 : Int) < 26 by decide)
      obtain ⟨ch, hch, hq⟩ := lett_at' i0 i1
      refine ⟨_, rfl, _, rfl, _, rfl, _, _, rfl, rfl, _, rfl, _, rfl, _, _, rfl, rfl, bk.ok bk, _, rfl, _, _, rfl, rfl, bd3.ok bk, _, _, rfl, rfl, _, _, rfl, rfl, _, _, rfl, rfl, (sm (c + 1) (by omega) (by omega)).ok b3, _, _, rfl, rfl, (by show (1013 : Int) ≠ 0; decide), _, _, rfl, rfl, (by show (26 : Int) ≠ 0; decide), lettT, _, ch, rfl, rfl, (by decide), hch, _, _, rfl, rfl, ?_, ?_⟩
      · rw [one]; omega
      · exact ⟨rfl, _, _, rfl, by rw [Str.length_append, one, hb], hL.app (Lt.one hq)⟩
    · obtain ⟨rfl, b, o5, rfl, hb, hL⟩ := hP
      exact hN _ _ ⟨rfl, b, o5, rfl, by rw [hb]; rfl, hL⟩
  rintro σ _ ⟨rfl, b, o5, rfl, hb12, hL⟩
  have hb : b.length ≤ 12 := by omega
  have hz : b.length ≤ sizeLine := by omega
  have a0 := Int.fmod_nonneg_of_pos (c.fdiv 3) (show (0 : Int) < 11 by decide)
  have z0 := Int.fmod_nonneg_of_pos (c.fdiv 40) (show (0 : Int) < 11 by decide)
  have t0 := Int.fmod_nonneg_of_pos (c.fdiv 500) (show (0 : Int) < 8 by decide)
  have t1 := Int.fmod_lt_of_pos (c.fdiv 500) (show (0 : Int) < 8 by decide)
  refine ⟨_, rfl, _, _, rfl, rfl, ⟨by show (3 : Int) ≠ 0; decide, PyProof.noPylong_small (by decide)⟩, _, _, rfl, rfl, (by show (11 : Int) ≠ 0; decide), ?_⟩
  refine ⟨_, rfl, _, _, rfl, rfl, ⟨by show (40 : Int) ≠ 0; decide, PyProof.noPylong_small (by decide)⟩, _, _, rfl, rfl, (by show (11 : Int) ≠ 0; decide), ?_⟩
  refine ⟨(by show 8 ≤ sizeLine; decide), fun ls ns => ?_⟩
  have g1 := same_new ns (.lst [.int 1, .int 3, .int 5, .int 7, .int 9, .int 11, .int 15, .int 17])
  obtain ⟨v, hv, ev⟩ := atI_in (xs := [V.int 1, V.int 3, V.int 5, V.int 7, V.int 9, V.int 11, V.int 15, V.int 17]) t0 (by show (c.fdiv 500).fmod 8 < ((8 : Nat) : Int); exact t1)
  obtain ⟨st, rfl, st0, st1⟩ : ∃ y : Int, v = .int y ∧ 0 ≤ y ∧ y < 20 := by
    simp at hv
    rcases hv with rfl | rfl | rfl | rfl | rfl | rfl | rfl | rfl
    all_goals exact ⟨_, rfl, by decide, by decide⟩
  refine ⟨_, rfl, _, _, rfl, rfl, ⟨by show (500 : Int) ≠ 0; decide, PyProof.noPylong_small (by decide)⟩, _, _, rfl, rfl, (by show (8 : Int) ≠ 0; decide), ls, _, _, _, rfl, rfl, SqL.of upd_same, ev, ?_⟩
  refine ⟨_, rfl, _, rfl, _, rfl, b, rfl, hz, ?_⟩
  have hc : (cutS b none (some ((c.fdiv 40).fmod 11))).length ≤ 12 := Nat.le_trans (cutS_length _ _ _) hb
  refine ⟨(by show 0 ≤ sizeLine; decide), fun lp np => ?_⟩
  have z1 := Int.fmod_lt_of_pos (c.fdiv 40) (show (0 : Int) < 11 by decide)
  have a1 := Int.fmod_lt_of_pos (c.fdiv 3) (show (0 : Int) < 11 by decide)
  have hc10 : (cutS b none (some ((c.fdiv 40).fmod 11))).length ≤ 10 := by rw [cutS_hi z0]; omega
  have hcL := hL.cut none (some ((c.fdiv 40).fmod 11))
  generalize cutS b none (some ((c.fdiv 40).fmod 11)) = core at *
  have cz : core.length ≤ sizeLine := by omega
  have g2 := g1.trans (same_new np (.lst []))
  have cl : ∀ lo hi, (cutS core lo hi).length ≤ 12 := fun lo hi => Nat.le_trans (cutS_length _ _ _) hc
  have bl : ∀ lo hi, (cutS b lo hi).length ≤ 12 := fun lo hi => Nat.le_trans (cutS_length _ _ _) hb
  try dsimp only [gName, tNext]
  refine cut (fun σ H' => Same H H' ∧ ∃ (zs : List Str) (o5 o11 : Option V), σ = [some (.int nb), some (.int many), some (.int c), some (.str lettT), some (.str b), o5, some (.int ((c.fdiv 3).fmod 11)), some (.int ((c.fdiv 40).fmod 11)), some (.int st), some (.str core), some (.ref lp), o11] ∧ (zs.length : Int) = many ∧ H' lp = some (.lst (zs.map V.str)) ∧ ∀ z ∈ zs, Nm z) (fun N hN => ?_) ?_
  · refine ⟨_, rfl, _, rfl, (by omega), (by omega), for_range (fun i σ H' => Same H H' ∧ ∃ (zs : List Str) (o5 o11 : Option V), σ = [some (.int nb), some (.int many), some (.int c), some (.str lettT), some (.str b), o5, some (.int ((c.fdiv 3).fmod 11)), some (.int ((c.fdiv 40).fmod 11)), some (.int st), some (.str core), some (.ref lp), o11] ∧ zs.length = i ∧ H' lp = some (.lst (zs.map V.str)) ∧ ∀ z ∈ zs, Nm z) ⟨g2, [], o5, none, rfl, rfl, upd_same, by simp⟩ (fun i σ H' hi hP => ?_) (fun σ H' hP => ?_)⟩
    · obtain ⟨g, zs, o5, o11, rfl, hl, e, nz⟩ := hP
      have hi' : (i : Int) < many := by have : i < many.toNat := hi; omega
      have i0 := Int.fmod_nonneg_of_pos (c.fdiv 7 + (0 + (i : Int)) * st) (show (0 : Int) < 26 by decide)
      have i1 := Int.fmod_lt_of_pos (c.fdiv 7 + (0 + (i : Int)) * st) (show (0 : Int) < 26 by decide)
      obtain ⟨ch, hch, hq⟩ := lett_at' i0 i1
      have k0 : 0 ≤ (0 + (i : Int)).fdiv 26 := by rw [Int.fdiv_eq_ediv_of_nonneg _ (by decide)]; omega
      have k1 : (0 + (i : Int)).fdiv 26 < 26 := by rw [Int.fdiv_eq_ediv_of_nonneg _ (by decide)]; omega
      obtain ⟨ch2, hch2⟩ := lett_at k0 k1
      have app : ∀ (z : Str), Same H (upd H' lp (.lst (zs.map V.str ++ [.str z]))) ∧ upd H' lp (.lst (zs.map V.str ++ [.str z])) lp = some (.lst ((zs ++ [z]).map V.str)) := fun z => ⟨sUpd g (g1.free np) _, by rw [upd_same, List.map_append]; rfl⟩
      have lnp : (zs.map V.str).length < sizeLine := by rw [List.length_map, hl]; omega
      refine ⟨_, rfl, _, rfl, _, _, rfl, rfl, ⟨by show (7 : Int) ≠ 0; decide, PyProof.noPylong_small (by decide)⟩, _, rfl, _, rfl, _, _, rfl, rfl, (sm _ (by omega) (by omega)).ok (sm st (by omega) (by omega)), _, _, rfl, rfl, _, _, rfl, rfl, (by show (26 : Int) ≠ 0; decide), lettT, _, ch, rfl, rfl, (by decide), hch, ?_⟩
      have sn : ∀ z, Nm z → ∀ y ∈ zs ++ [z], Nm y := fun z hz' y hy => by
        rcases List.mem_append.mp hy with k | k
        · exact nz y k
        · rw [List.mem_singleton.mp k]; exact hz'
      have q0 := Int.fmod_nonneg_of_pos (0 + (i : Int)) (show (0 : Int) < 11 by decide)
      have q1 := Int.fmod_lt_of_pos (0 + (i : Int)) (show (0 : Int) < 11 by decide)
      refine ⟨_, rfl, _, _, rfl, rfl, _, rfl, d2 (fun z26 => absurd m1 (by omega)) (fun _ => ?_)⟩
      · refine ⟨_, rfl, _, _, rfl, rfl, (by show (3 : Int) ≠ 0; decide), rfl, _, rfl, d2I (fun _ => ⟨_, rfl, _, _, rfl, rfl, _, rfl, d2 (fun _ => ?_) (fun z12 => absurd m1 (by omega))⟩) (fun _ => ?_)⟩
        · refine ⟨_, rfl, .inl ⟨rfl, _, SqL.of e⟩, _, rfl, _, rfl, _, _, rfl, rfl, _, rfl, b, rfl, hz, lp, _, _, rfl, rfl, e, lnp, (app _).1, _, _, _, rfl, by rw [List.length_append, hl]; rfl, (app _).2, sn _ ?_⟩
          refine (hL.cut _ _).nm ?_ ?_
          · rw [cutS_hi (by omega)]; omega
          · exact bl _ _
        · refine ⟨_, rfl, _, _, rfl, rfl, (by show (3 : Int) ≠ 0; decide), rfl, _, rfl, d2I (fun _ => ?_) (fun _ => ?_)⟩
          · refine ⟨_, rfl, .inl ⟨rfl, _, SqL.of e⟩, _, rfl, _, rfl, _, _, rfl, rfl, (by show (11 : Int) ≠ 0; decide), _, rfl, b, rfl, hz, _, rfl, _, _, rfl, rfl, ?_, lp, _, _, rfl, rfl, e, lnp, (app _).1, _, _, _, rfl, by rw [List.length_append, hl]; rfl, (app _).2, sn _ ?_⟩
            · (simp only [Str.length_append, one]; have l3 := bl none (some ((0 + (i : Int)).fmod 11)); omega)
            · refine ((hL.cut _ _).app (Lt.one hq)).nm ?_ ?_
              · rw [Str.length_append, one]; omega
              · rw [Str.length_append, one, cutS_hi q0]; omega
          · refine ⟨_, rfl, .inl ⟨rfl, _, SqL.of e⟩, _, rfl, _, rfl, _, rfl, core, rfl, cz, _, rfl, _, _, rfl, rfl, ?_, _, rfl, _, rfl, _, rfl, core, rfl, cz, _, _, rfl, rfl, ?_, lp, _, _, rfl, rfl, e, lnp, (app _).1, _, _, _, rfl, by rw [List.length_append, hl]; rfl, (app _).2, sn _ ?_⟩
            · (simp only [Str.length_append, one]; have l1 := cl none (some ((c.fdiv 3).fmod 11)); have l2 := cl (some ((c.fdiv 3).fmod 11)) none; omega)
            · (simp only [Str.length_append, one]; have l1 := cl none (some ((c.fdiv 3).fmod 11)); have l2 := cl (some ((c.fdiv 3).fmod 11)) none; omega)
            · refine (((hcL.cut _ _).app (Lt.one hq)).app (hcL.cut _ _)).nm ?_ ?_
              · rw [Str.length_append, Str.length_append, one]; omega
              · rw [Str.length_append, Str.length_append, one, cutS_hi a0, cutS_lo a0]; omega
    · obtain ⟨g, zs, o5, o11, rfl, hl, e, nz⟩ := hP
      exact hN _ _ ⟨g, zs, o5, o11, rfl, by omega, e, nz⟩
  rintro σ H1 ⟨g, zs, o5', o11, rfl, hl, e, nz⟩
  exact ⟨_, rfl, q lp H1 zs g e hl nz⟩

theorem sc_law_no_name : FnScope ["_law_number", "_law_some"] ["_law_number"] (defScope s_law_no_name) := ⟨rfl, rfl, rfl, by decide +kernel, rfl, by decide +kernel, by decide +kernel⟩
set_option maxHeartbeats 4000000 in
theorem ok_law_no_name {dV : Value} (F : FunD K "_law_no_name" "_law_no_name" s_law_no_name dV f fd) (B : Bn K mg c_EmptyHeap c_InRing c_Larder c_NoAmount c_NoDish c_NoName c_NoNet c_NoNumber c_NoPack c_NoPlan c_NoRow c_NoStand c_NoStandIn c_NoStep c_StoveError c_TooFew c_TooMany c_Twice f_Larder_init f_Larder_learn f_Larder_part f_Larder_known f_Larder_held)  : FnOk P w K mg base CX0 1 f fd ["_law_number"] (spNoName K) := by
  have sc := sc_law_no_name
  refine F.ok sc (fun vs H Q E h => ?_) (fun cdv A outer s H vs Q E hr h => ?_)
  · obtain ⟨n, rfl, _⟩ := h
    rfl
  obtain ⟨n, rfl, q⟩ := h
  obtain ⟨e, p1, p2, rt, he, hsw, hb⟩ : ∃ (e : Expr) (p1 p2 : Pos) (rt : List Stmt), (∀ X : Cx, PE X e (tLst oddT)) ∧ (∀ t l env, swapsWith e t l env = pure false) ∧ defBody s_law_no_name = .Assign [.Name "_law_some" p1] e p2 :: [.Return (some (.Subscript (.Name "_law_some" ⟨171, 11, 171, 20⟩) (.BinOp (.Name "_law_number" ⟨171, 21, 171, 32⟩) .Mod (.Constant (.int 15) 0 ⟨171, 35, 171, 37⟩) ⟨171, 21, 171, 37⟩) ⟨171, 11, 171, 38⟩)) ⟨171, 4, 171, 38⟩] := ⟨_, _, _, [], fun X => @pe_odd X _ _ _ _ _ _ _ _ _ _ _ _ _ _ _ _ _ _ _ _ _ _ _ _ _ _ _ _ _ _ _ _ _ _ _ _, fun _ _ _ => rfl, rfl⟩
  rw [hb]
  refine ⟨_, (pss_cons (ps_set (i := 1) sc.nd rfl (Or.inl rfl) (he _) (hsw _ _ _)) (pss_one (ps_ret (pe_ix ix_list (pv 1) (pe_op op_modN (pv 0) pe_int) (fun _ _ => rfl))))), ?_⟩
  have i0 := Int.fmod_nonneg_of_pos n (show (0 : Int) < 15 by decide)
  have i1 := Int.fmod_lt_of_pos n (show (0 : Int) < 15 by decide)
  refine ⟨(by show 1 ≤ sizeLine; decide), fun l1 n1 => ⟨(by show 2 ≤ sizeLine; decide), fun t1 m1 => ⟨(by show 15 ≤ sizeLine; decide), fun l2 n2 => ?_⟩⟩⟩
  have g1 := same_new n1 (.lst [.str "a"])
  have g2 := same_new m1 (.tup [.str "a", .str "b"])
  have e1 := g2 _ _ (show upd H l1 (.lst [.str "a"]) l1 = some (.lst [.str "a"]) from upd_same)
  have e2 : upd (upd H l1 (.lst [.str "a"])) t1 (.tup [.str "a", .str "b"]) t1 = some (.tup [.str "a", .str "b"]) := upd_same
  have gA := g1.trans g2
  generalize upd (upd H l1 (.lst [.str "a"])) t1 (.tup [.str "a", .str "b"]) = H1 at n2 gA e1 e2 ⊢
  have g3 := same_new n2 (.lst (oddL l1 t1))
  obtain ⟨v, hv, ho, hn⟩ := oddL_at (K := K) i0 i1 (g3 _ _ e1) (g3 _ _ e2)
  exact ⟨_, rfl, _, rfl, _, _, rfl, rfl, (by show (15 : Int) ≠ 0; decide), l2, _, _, v, rfl, rfl, SqL.of upd_same, hv, q v _ (gA.trans g3) ho hn⟩

theorem sc_law_alone : FnScope ["_law_e"] ["_law_e"] (defScope s_law_alone) := ⟨rfl, rfl, rfl, by decide +kernel, rfl, by decide +kernel, by decide +kernel⟩
set_option maxHeartbeats 4000000 in
theorem ok_law_alone {dV : Value} {hd : Option Value} (F : FunD K "_law_alone" "_law_alone" s_law_alone dV f fd) (B : Bn K mg c_EmptyHeap c_InRing c_Larder c_NoAmount c_NoDish c_NoName c_NoNet c_NoNumber c_NoPack c_NoPlan c_NoRow c_NoStand c_NoStandIn c_NoStep c_StoveError c_TooFew c_TooMany c_Twice f_Larder_init f_Larder_learn f_Larder_part f_Larder_known f_Larder_held)  : FnH hd P w K mg base 1 f fd ["_law_e"] (spAloneL c_NoName c_InRing) := by
  have sc := sc_law_alone
  refine F.okH sc (fun vs H Q E h => ?_) (fun cdv A outer s H vs Q E hr h => ?_)
  · obtain ⟨a, C, dx, rfl, _⟩ := h
    rfl
  obtain ⟨a, C, dx, rfl, ⟨⟨n, e⟩, xd⟩, hC, q⟩ := h
  refine ⟨_, (pss_cons (ps_if (pt_val (pe_callB (call_isiXt (K := K) rfl) rfl B.b_isinstance boot_isinstance (pa_cons (pv 0) (pa_cons (pe_tup (pa_cons (pe_glob (v := V.ref c_EmptyHeap) rfl B.m_EmptyHeap rfl) (pa_cons (pe_glob (v := V.ref c_NoAmount) rfl B.m_NoAmount rfl) (pa_cons (pe_glob (v := V.ref c_NoDish) rfl B.m_NoDish rfl) (pa_cons (pe_glob (v := V.ref c_NoNet) rfl B.m_NoNet rfl) (pa_cons (pe_glob (v := V.ref c_NoNumber) rfl B.m_NoNumber rfl) (pa_cons (pe_glob (v := V.ref c_NoPack) rfl B.m_NoPack rfl) (pa_cons (pe_glob (v := V.ref c_NoPlan) rfl B.m_NoPlan rfl) (pa_cons (pe_glob (v := V.ref c_NoRow) rfl B.m_NoRow rfl) pa_nil))))))))) pa_nil)))) (pss_one (ps_ret pe_bl)) pss_nil) (pss_cons (ps_if (pt_val (pe_callB (call_isiXt (K := K) rfl) rfl B.b_isinstance boot_isinstance (pa_cons (pv 0) (pa_cons (pe_tup (pa_cons (pe_glob (v := V.ref c_NoStand) rfl B.m_NoStand rfl) (pa_cons (pe_glob (v := V.ref c_NoStandIn) rfl B.m_NoStandIn rfl) (pa_cons (pe_glob (v := V.ref c_NoStep) rfl B.m_NoStep rfl) (pa_cons (pe_glob (v := V.ref c_TooFew) rfl B.m_TooFew rfl) (pa_cons (pe_glob (v := V.ref c_TooMany) rfl B.m_TooMany rfl) (pa_cons (pe_glob (v := V.ref c_Twice) rfl B.m_Twice rfl) pa_nil))))))) pa_nil)))) (pss_one (ps_ret pe_bl)) pss_nil) (pss_one (ps_ret (pe_and (pe_callB (call_isiX (K := K) rfl) rfl B.b_isinstance boot_isinstance (pa_cons (pv 0) (pa_cons (pe_glob (v := V.ref c_StoveError) rfl B.m_StoveError rfl) pa_nil))) (pe_one (pe_callB (call_isiX (K := K) rfl) rfl B.b_isinstance boot_isinstance (pa_cons (pv 0) (pa_cons (pe_bltn (v := .ty "ValueError") rfl B.b_ValueError PyProof.Rows.Boot.«ValueError» rfl) pa_nil))))))))), ?_⟩
  rcases hC with rfl | rfl
  · skip
    refine ⟨_, rfl, (by show 8 ≤ sizeLine; decide), fun t1 n1 => ?_⟩
    have g1 := same_new n1 (.tup [.ref c_EmptyHeap, .ref c_NoAmount, .ref c_NoDish, .ref c_NoNet, .ref c_NoNumber, .ref c_NoPack, .ref c_NoPlan, .ref c_NoRow])
    refine ⟨a, _, dx, t1, [c_EmptyHeap, c_NoAmount, c_NoDish, c_NoNet, c_NoNumber, c_NoPack, c_NoPlan, c_NoRow], false, rfl, ⟨n, g1 _ _ e⟩, (xdict_same xd g1), B.i_NoName, upd_same, B.ka_NoName_1, _, rfl, iteF ?_⟩
    refine ⟨_, rfl, (by show 6 ≤ sizeLine; decide), fun t2 n2 => ?_⟩
    have g2 := g1.trans (same_new n2 (.tup [.ref c_NoStand, .ref c_NoStandIn, .ref c_NoStep, .ref c_TooFew, .ref c_TooMany, .ref c_Twice]))
    refine ⟨a, _, dx, t2, [c_NoStand, c_NoStandIn, c_NoStep, c_TooFew, c_TooMany, c_Twice], false, rfl, ⟨n, g2 _ _ e⟩, (xdict_same xd g2), B.i_NoName, upd_same, B.ka_NoName_2, _, rfl, iteF ?_⟩
    exact ⟨_, rfl, a, _, dx, _, true, rfl, ⟨n, g2 _ _ e⟩, (xdict_same xd g2), B.i_NoName, .own B.k_NoName_StoveError, true, rfl, iteT ⟨_, rfl, a, _, dx, _, true, rfl, ⟨n, g2 _ _ e⟩, (xdict_same xd g2), B.i_NoName, .ty B.k_NoName_ValueError, q _ g2⟩⟩
  · skip
    refine ⟨_, rfl, (by show 8 ≤ sizeLine; decide), fun t1 n1 => ?_⟩
    have g1 := same_new n1 (.tup [.ref c_EmptyHeap, .ref c_NoAmount, .ref c_NoDish, .ref c_NoNet, .ref c_NoNumber, .ref c_NoPack, .ref c_NoPlan, .ref c_NoRow])
    refine ⟨a, _, dx, t1, [c_EmptyHeap, c_NoAmount, c_NoDish, c_NoNet, c_NoNumber, c_NoPack, c_NoPlan, c_NoRow], false, rfl, ⟨n, g1 _ _ e⟩, (xdict_same xd g1), B.i_InRing, upd_same, B.ka_InRing_1, _, rfl, iteF ?_⟩
    refine ⟨_, rfl, (by show 6 ≤ sizeLine; decide), fun t2 n2 => ?_⟩
    have g2 := g1.trans (same_new n2 (.tup [.ref c_NoStand, .ref c_NoStandIn, .ref c_NoStep, .ref c_TooFew, .ref c_TooMany, .ref c_Twice]))
    refine ⟨a, _, dx, t2, [c_NoStand, c_NoStandIn, c_NoStep, c_TooFew, c_TooMany, c_Twice], false, rfl, ⟨n, g2 _ _ e⟩, (xdict_same xd g2), B.i_InRing, upd_same, B.ka_InRing_2, _, rfl, iteF ?_⟩
    exact ⟨_, rfl, a, _, dx, _, true, rfl, ⟨n, g2 _ _ e⟩, (xdict_same xd g2), B.i_InRing, .own B.k_InRing_StoveError, true, rfl, iteT ⟨_, rfl, a, _, dx, _, true, rfl, ⟨n, g2 _ _ e⟩, (xdict_same xd g2), B.i_InRing, .ty B.k_InRing_ValueError, q _ g2⟩⟩

theorem sc_law_told : FnScope ["_law_larder", "_law_good", "_law_other", "_law_told_here", "_law_e"] ["_law_larder", "_law_good", "_law_other"] (defScope s_law_told) := ⟨rfl, rfl, rfl, by decide +kernel, rfl, by decide +kernel, by decide +kernel⟩
set_option maxHeartbeats 4000000 in
theorem ok_law_told {dV : Value} (F : FunD K "_law_told" "_law_told" s_law_told dV f fd) (B : Bn K mg c_EmptyHeap c_InRing c_Larder c_NoAmount c_NoDish c_NoName c_NoNet c_NoNumber c_NoPack c_NoPlan c_NoRow c_NoStand c_NoStandIn c_NoStep c_StoveError c_TooFew c_TooMany c_Twice f_Larder_init f_Larder_learn f_Larder_part f_Larder_known f_Larder_held) (XLarder_part : DxM P w K mg base (CX1 P w) 3 f_Larder_part ["self", "good", "other"] [] (spPartX K c_Larder c_NoName c_InRing)) (H_law_alone : ∀ hd, DxH hd P w K mg base 1 "_law_alone" ["_law_e"] (spAloneL c_NoName c_InRing)) : FnOk P w K mg base CX0 4 f fd ["_law_larder", "_law_good", "_law_other"] (spToldL K c_Larder) := by
  have sc := sc_law_told
  refine F.ok sc (fun vs H Q E h => ?_) (fun cdv A outer s H vs Q E hr h => ?_)
  · obtain ⟨x, g, o, F0, rows, ns, ps, rfl, _⟩ := h
    rfl
  obtain ⟨x, g, o, F0, rows, ns, ps, rfl, la, ok, few, nd, n78, hg, ho, qN, qq⟩ := h
  refine ⟨_, (pss_cons (ps_set (i := 3) sc.nd rfl (Or.inl rfl) pe_non) (pss_cons (ps_try rfl rfl (fun pins E => (pss_one (ps_set (i := 3) sc.nd rfl (Or.inl rfl) (pmeth1K (K := K) rfl XLarder_part hr (by decide) (pv 0) (pa_cons (pv 1) (pa_cons (pv 2) pa_nil)))))) (ph_asA B.t_InRing rfl B.m_InRing sc.nd (i := 4) rfl rfl (fun pins a => (pss_one (ps_ret (pe_tup (pa_cons pe_str (pa_cons (pe_fldX (K := K) rfl (pv 4) rfl) (pa_cons (pe_and (pcallH (j := 3) (H_law_alone (some (.ref a))) (hr.suite _) (by decide) rfl (pa_cons (pv 4) pa_nil)) (pe_one (pe_not (pe_callB (call_isiX (K := K) rfl) rfl B.b_isinstance boot_isinstance (pa_cons (pv 4) (pa_cons (pe_glob (v := V.ref c_NoName) rfl B.m_NoName rfl) pa_nil)))))) pa_nil))))))) (ph_asA B.t_NoName rfl B.m_NoName sc.nd (i := 4) rfl rfl (fun pins a => (pss_one (ps_ret (pe_tup (pa_cons pe_str (pa_cons pe_non (pa_cons (pe_and (pcallH (j := 3) (H_law_alone (some (.ref a))) (hr.suite _) (by decide) rfl (pa_cons (pv 4) pa_nil)) (pe_one (pe_not (pe_callB (call_isiX (K := K) rfl) rfl B.b_isinstance boot_isinstance (pa_cons (pv 4) (pa_cons (pe_glob (v := V.ref c_InRing) rfl B.m_InRing rfl) pa_nil)))))) pa_nil))))))) (ph_no B.t_StoveError rfl B.m_StoveError (fun pins a => (pss_one (ps_ret (pe_tup (pa_cons pe_str (pa_cons pe_non (pa_cons pe_bl pa_nil))))))) ph_nil)))) (pss_one (ps_ret (pe_tup (pa_cons pe_str (pa_cons (pv 3) (pa_cons (pe_cmpR op_isN (pv 3) pe_non (nomark _)) pa_nil)))))))), ?_⟩
  obtain ⟨dx, p, n, fs, ex, fp, fn, dd, en, _, _, fm⟩ := la.dd
  refine ⟨_, rfl, x, _, dx, _, rfl, ex, B.cl_Larder, B.me_Larder_part, fm _ (by simp), _, rfl, _, rfl, ?_⟩
  refine ⟨x, g, o, F0, rows, ns, ps, rfl, la, ok, few, nd, n78, hg, ho, fun nn H1 g1 => ?_, fun zg zo e1 e2 mg' mo' => ⟨fun ld d l H1 c g1 el ed wy => ?_, fun nl F' H1 ms k1 fg la1 nd1 m1 => ?_⟩⟩
  · intro a na
    refine ⟨c_NoName, false, rfl, B.s_NoName_InRing, iteF ⟨c_NoName, true, rfl, B.s_NoName_NoName, iteT ?_⟩⟩
    refine ⟨_, rfl, a, c_NoName, none, rfl, ⟨⟨_, upd_same⟩, trivial⟩, .inl rfl, fun H2 g2 => ?_⟩
    refine ⟨true, rfl, iteT ⟨_, rfl, a, _, none, _, false, rfl, ⟨_, g2 _ _ upd_same⟩, trivial, B.i_NoName, .own B.k_NoName_InRing, _, rfl, (by show 3 ≤ sizeLine; decide), fun t nt => ?_⟩⟩
    exact qN nn t _ (((g1.trans (same_new na _)).trans g2).trans (same_new nt _)) upd_same
  · obtain ⟨qR, _⟩ := qq zg zo e1 e2 mg' mo'
    intro a na
    have ga := same_new na (excO a (.ref c_InRing) (some d))
    refine ⟨c_InRing, true, rfl, B.s_InRing_InRing, iteT ?_⟩
    refine ⟨_, rfl, a, _, d, _, _, _, rfl, upd_same, ga _ _ ed, ⟨B.i_InRing.gg, B.a_InRing.dct, B.n_InRing⟩, rfl, ?_⟩
    refine ⟨_, rfl, a, c_InRing, some d, rfl, ⟨⟨_, upd_same⟩, ⟨_, ga _ _ ed⟩⟩, .inr rfl, fun H2 g2 => ?_⟩
    refine ⟨true, rfl, iteT ⟨_, rfl, a, _, some d, _, false, rfl, ⟨_, g2 _ _ upd_same⟩, ⟨_, g2 _ _ (ga _ _ ed)⟩, B.i_InRing, .own B.k_InRing_NoName, _, rfl, (by show 3 ≤ sizeLine; decide), fun t nt => ?_⟩⟩
    have g3 := same_new nt (tellT "ring" (.ref l))
    exact qR ld t l _ c (((g1.trans ga).trans g2).trans g3) (g3 _ _ (g2 _ _ (ga _ _ el))) upd_same wy
  · obtain ⟨_, qD⟩ := qq zg zo e1 e2 mg' mo'
    try dsimp only [gName, tNext]
    refine ⟨_, rfl, _, rfl, rfl, (by show 3 ≤ sizeLine; decide), fun t nt => ?_⟩
    have g3 := same_new nt (tellT "done" .non)
    exact qD nl t F' _ ms (k1.trans (KF.of g3)) fg (la1.same g3) nd1 m1 upd_same

theorem sc_law_held : FnScope ["_law_larder", "_law_pairs", "_law_name", "_law_found"] ["_law_larder", "_law_pairs", "_law_name"] (defScope s_law_held) := ⟨rfl, rfl, rfl, by decide +kernel, rfl, by decide +kernel, by decide +kernel⟩
set_option maxHeartbeats 4000000 in
theorem ok_law_held {dV : Value} (F : FunD K "_law_held" "_law_held" s_law_held dV f fd) (B : Bn K mg c_EmptyHeap c_InRing c_Larder c_NoAmount c_NoDish c_NoName c_NoNet c_NoNumber c_NoPack c_NoPlan c_NoRow c_NoStand c_NoStandIn c_NoStep c_StoveError c_TooFew c_TooMany c_Twice f_Larder_init f_Larder_learn f_Larder_part f_Larder_known f_Larder_held) (DLarder_held : DxM P w K mg base CX0 3 f_Larder_held ["self", "good"] [] (spHeld c_Larder)) (D_law_led_to : Dx P w K mg base CX0 1 "_law_led_to" ["_law_pairs", "_law_good"] [] spLed) : FnOk P w K mg base CX0 4 f fd ["_law_larder", "_law_pairs", "_law_name"] (spHeldSo c_Larder) := by
  have sc := sc_law_held
  refine F.ok sc (fun vs H Q E h => ?_) (fun cdv A outer s H vs Q E hr h => ?_)
  · obtain ⟨x, lp, good, F0, rows, ns, ps, rfl, _⟩ := h
    rfl
  obtain ⟨x, lp, good, F0, rows, ns, ps, rfl, la, ok, few, nm, hp, q⟩ := h
  refine ⟨_, (pss_cons (ps_set (i := 3) sc.nd rfl (Or.inl rfl) (pmeth0 (pv 0) DLarder_held hr (by decide) (pa_cons (pv 2) pa_nil))) (pss_cons (ps_if (pt_not (pt_val (pe_callB (call_isiT (K := K) rfl) rfl B.b_isinstance boot_isinstance (pa_cons (pv 3) (pa_cons (pe_bltn (v := .ty "list") rfl B.b_list boot_list rfl) pa_nil))))) (pss_one (ps_ret pe_bl)) pss_nil) (pss_one (ps_ret (pe_cmpR (op_eqS hr.units0) (pv 3) (pe_callB (call_sortD rfl) rfl B.b_sorted PyProof.Rows.Boot.«sorted» (pa_cons (pcall0 D_law_led_to hr (by decide) rfl (pa_cons (pv 1) (pa_cons (pv 2) pa_nil))) pa_nil)) (nomark _)))))), ?_⟩
  obtain ⟨dx, p, n, fs, ex, fp, fn, dd, en, _, _, fm⟩ := la.dd
  refine ⟨_, rfl, x, _, dx, _, rfl, ex, B.cl_Larder, B.me_Larder_held, fm _ (by simp), _, rfl, x, good, F0, rows, ns, ps, rfl, la, ok, by omega, nm, fun l1 H1 ys g1 e1 s1 d1 m1 => ?_⟩
  try dsimp only [gName, tNext]
  refine ⟨_, rfl, _, _, _, true, rfl, .lst e1, rfl, _, rfl, iteF ?_⟩
  refine ⟨_, rfl, _, rfl, _, rfl, lp, good, ps, rfl, hp.same g1, by omega, fun d H2 ks g2 e2 nk led => ⟨d, ks, _, rfl, e2, mapK_keys ks _, nk, fun p1 zs np pr sr => ?_⟩⟩
  have e := told_uniq sr s1 (pr.nodup_iff.mpr nk) d1 (fun y => pr.mem_iff.trans (led y)) m1
  subst e
  have g3 := same_new np (.lst (zs.map V.str))
  refine ⟨l1, p1, zs.map V.str, rfl, rfl, SqL.of (g3 _ _ (g2 _ _ e1)), SqL.of upd_same, (fun z hz => ?_), q _ ((g1.trans g2).trans g3)⟩
  obtain ⟨y, _, rfl⟩ := List.mem_map.mp hz
  trivial

theorem sc_law_ring : FnScope ["_law_ring_here", "_law_pairs", "_law_good", "_law_other", "_law_name", "_law_k"] ["_law_ring_here", "_law_pairs", "_law_good", "_law_other"] (defScope s_law_ring) := ⟨rfl, rfl, rfl, by decide +kernel, rfl, by decide +kernel, by decide +kernel⟩
set_option maxHeartbeats 4000000 in
theorem ok_law_ring {dV : Value} (F : FunD K "_law_ring" "_law_ring" s_law_ring dV f fd) (B : Bn K mg c_EmptyHeap c_InRing c_Larder c_NoAmount c_NoDish c_NoName c_NoNet c_NoNumber c_NoPack c_NoPlan c_NoRow c_NoStand c_NoStandIn c_NoStep c_StoveError c_TooFew c_TooMany c_Twice f_Larder_init f_Larder_learn f_Larder_part f_Larder_known f_Larder_held)  : FnOk P w K mg base CX0 1 f fd ["_law_ring_here", "_law_pairs", "_law_good", "_law_other"] spRing := by
  have sc := sc_law_ring
  refine F.ok sc (fun vs H Q E h => ?_) (fun cdv A outer s H vs Q E hr h => ?_)
  · obtain ⟨l, lp, zg, zo, ps, c, rfl, _⟩ := h
    rfl
  obtain ⟨l, lp, zg, zo, ps, c, rfl, el, hp, few, wy, q⟩ := h
  refine ⟨_, (pss_cons (ps_if (PW.pt (pw_or (pt_not (pt_val (pe_callB (call_isiT (K := K) rfl) rfl B.b_isinstance boot_isinstance (pa_cons (pv 0) (pa_cons (pe_bltn (v := .ty "list") rfl B.b_list boot_list rfl) pa_nil))))) (pw_or (pt_cmpR (op_eqNil hr.units0) (pv 0) (pe_lst pa_nil) (nomark _)) (pw_or1 (pt_cmpR op_ne (pe_ix ix_list (pv 0) pe_int (fun _ _ => rfl)) (pv 2) (nomark _)))))) (pss_one (ps_ret pe_bl)) pss_nil) (pss_cons (ps_for PassesOwn.never rfl (pi_list (pv 0)) (pg_name (i := 4) sc.nd rfl (Or.inl rfl)) (pss_one (ps_if (pt_not (pt_val (pe_callB (call_isiT (K := K) rfl) rfl B.b_isinstance boot_isinstance (pa_cons (pv 4) (pa_cons (pe_bltn (v := .ty "str") rfl B.b_str boot_str rfl) pa_nil))))) (pss_one (ps_ret pe_bl)) pss_nil))) (pss_cons (ps_if (pt_cmpR op_eq (pv 2) (pv 3) (nomark _)) (pss_one (ps_ret (pe_cmpR op_eq (pe_callB call_len_seq rfl B.b_len boot_len (pa_cons (pv 0) pa_nil)) pe_int (nomark _)))) pss_nil) (pss_cons (ps_if (PW.pt (pw_or (pt_cmpR op_lt (pe_callB call_len_seq rfl B.b_len boot_len (pa_cons (pv 0) pa_nil)) pe_int (nomark _)) (pw_or1 (pt_cmpR op_ne (pe_ix ix_list (pv 0) pe_int (fun _ _ => rfl)) (pv 3) (nomark _))))) (pss_one (ps_ret pe_bl)) pss_nil) (pss_cons (ps_for PassesOwn.never rfl (pi_range2 rfl B.b_range (pa_cons pe_int (pa_cons (pe_callB call_len_seq rfl B.b_len boot_len (pa_cons (pv 0) pa_nil)) pa_nil))) (pg_name (i := 5) sc.nd rfl (Or.inl rfl)) (pss_one (ps_if (pt_cmpR (op_notInP (hu_of hr)) (pe_tup (pa_cons (pe_ix ix_list (pv 0) (pe_op op_sub (pv 5) pe_int) (fun _ _ => rfl)) (pa_cons (pe_ix ix_list (pv 0) (pv 5) (fun _ _ => rfl)) pa_nil))) (pv 1) (by with_unfolding_all rfl)) (pss_one (ps_ret pe_bl)) pss_nil))) (pss_one (ps_ret (pe_cmpR (op_inP (hu_of hr)) (pe_tup (pa_cons (pe_ix ix_list (pv 0) (pe_un un_neg pe_int) (fun _ _ => rfl)) (pa_cons (pv 2) pa_nil))) (pv 1) (by with_unfolding_all rfl))))))))), ?_⟩
  have slt : (3000 : Nat) < sizeLine := by decide
  have cl := wy.few
  have c1 : 1 ≤ c.length := by
    have := wy.first
    cases c with
    | nil => cases this
    | cons _ _ => simp
  have dl : (zg :: c.dropLast).length = c.length := by simp; omega
  have atk : ∀ {i : Nat} {x : Str}, (zg :: c.dropLast)[i]? = some x → atI ((zg :: c.dropLast).map V.str) (i : Int) = some (.str x) := fun {i x} h => atI_nat (by rw [List.getElem?_map, h]; rfl)
  have atd : ∀ {i : Nat}, i + 1 < c.length → (zg :: c.dropLast)[i + 1]? = c[i]? := fun {i} h => by
    rw [List.getElem?_cons_succ, List.getElem?_dropLast, if_pos (by omega)]
  have a0 := atk (i := 0) (x := zg) rfl
  generalize hr' : zg :: c.dropLast = R0 at el dl atk atd a0
  try dsimp only [gName, tNext]
  refine cut (fun σ H' => Same H H' ∧ σ = [some (.ref l), some (.ref lp), some (.str zg), some (.str zo), none, none]) (fun N hN => ?_) ?_
  · have ne2 : ((R0.map V.str).isEmpty) = false := by rw [← hr']; rfl
    refine ⟨_, rfl, _, _, _, true, rfl, .lst el, rfl, _, rfl, iteF ⟨_, rfl, (by show 0 ≤ sizeLine; omega), fun b2 nb2 => ⟨l, b2, _, rfl, rfl, SqL.of (same_new nb2 _ _ _ el), SqL.of upd_same, _, rfl, ?_⟩⟩⟩
    rw [ne2]
    have g1 := same_new nb2 (.lst [])
    exact iteF ⟨_, rfl, l, _, 0, .str zg, rfl, rfl, SqL.of (g1 _ _ el), a0, _, rfl, rfl, _, rfl, nF rfl (hN _ _ ⟨g1, rfl⟩)⟩
  rintro σ H1 ⟨g1, rfl⟩
  refine cut (fun σ H' => Same H H' ∧ ∃ o4 : Option V, σ = [some (.ref l), some (.ref lp), some (.str zg), some (.str zo), o4, none]) (fun N hN => ?_) ?_
  · refine ⟨_, rfl, l, rfl, ⟨_, SqL.of (g1 _ _ el)⟩, for_list (xs := R0.map V.str) (fun i σ H' => Same H H' ∧ ∃ o4 : Option V, σ = [some (.ref l), some (.ref lp), some (.str zg), some (.str zo), o4, none]) ⟨g1, none, rfl⟩ (fun i σ H' _ h => SqL.of (h.1 _ _ el)) ?_ ?_⟩
    · rintro i x σ H4 hx ⟨g4, o5, rfl⟩
      rw [List.getElem?_map] at hx
      cases hc : R0[i]? with
      | none => rw [hc] at hx; cases hx
      | some y =>
        rw [hc] at hx
        cases hx
        exact ⟨_, rfl, _, _, _, true, rfl, .str _, rfl, _, rfl, iteF ⟨g4, _, rfl⟩⟩
    · rintro σ H4 ⟨g4, o5, rfl⟩
      exact hN _ _ ⟨g4, o5, rfl⟩
  clear g1
  rintro σ H1 ⟨g1, o4, rfl⟩
  by_cases hz : zg = zo
  · have e1 := wy.alone hz
    refine ⟨_, rfl, _, rfl, rfl, _, rfl, dT (congrArg V.str hz) ?_⟩
    refine ⟨_, rfl, l, _, rfl, .inl (SqL.of (g1 _ _ el)), rfl, dQ (Q := fun v => Q v _) (by rw [List.length_map, dl, e1]; rfl) (q _ g1)⟩
  have c2 : 2 ≤ c.length := by
    rcases Nat.lt_or_ge 1 c.length with h | h
    · exact h
    · have e1 : c.length = 1 := by omega
      obtain ⟨y, rfl⟩ := List.length_eq_one_iff.mp e1
      have h1 := wy.first
      have h2 := wy.last
      simp at h1 h2
      exact absurd (h2.symm.trans h1) hz
  refine ⟨_, rfl, _, rfl, rfl, _, rfl, dF (fun z => hz (by injection z)) ?_⟩
  have at1 := atk (i := 1) ((atd (i := 0) (by omega)).trans wy.first)
  have lc : (R0.map V.str).length = c.length := by rw [List.length_map, dl]
  try dsimp only [gName, tNext]
  refine cut (fun σ H' => Same H H' ∧ σ = [some (.ref l), some (.ref lp), some (.str zg), some (.str zo), o4, none]) (fun N hN => ⟨_, rfl, l, _, rfl, .inl (SqL.of (g1 _ _ el)), _, _, rfl, rfl, _, rfl, d2 (fun z => absurd z (by rw [lc]; omega)) (fun _ => ⟨_, rfl, l, _, 1, .str zo, rfl, rfl, SqL.of (g1 _ _ el), at1, _, rfl, rfl, _, rfl, nF rfl (hN _ _ ⟨g1, rfl⟩)⟩)⟩) ?_
  rintro σ H2 ⟨g2, rfl⟩
  refine cut (fun σ H' => Same H H' ∧ ∃ o5 : Option V, σ = [some (.ref l), some (.ref lp), some (.str zg), some (.str zo), o4, o5]) (fun N hN => ?_) ?_
  · refine ⟨_, rfl, l, _, rfl, .inl (SqL.of (g2 _ _ el)), 2, _, rfl, ⟨by decide, by decide, by rw [lc]; omega, by rw [lc]; omega⟩, for_range (fun i σ H' => Same H H' ∧ ∃ o5 : Option V, σ = [some (.ref l), some (.ref lp), some (.str zg), some (.str zo), o4, o5]) ⟨g2, none, rfl⟩ (fun i σ H6 hi hP => ?_) (fun σ H6 hP => hN _ _ hP)⟩
    obtain ⟨g6, o5, rfl⟩ := hP
    rw [lc] at hi
    have i1 : i + 2 < c.length := by omega
    have ca := List.getElem?_eq_getElem (show i < c.length by omega)
    have cb := List.getElem?_eq_getElem (show i + 1 < c.length by omega)
    have pm := wy.pair i _ _ ca cb
    have ta := atk ((atd (i := i) (by omega)).trans ca)
    have tb := atk ((atd (i := i + 1) (by omega)).trans cb)
    have ra : (2 : Int) + (i : Int) - 1 = ((i + 1 : Nat) : Int) := by omega
    have rb : (2 : Int) + (i : Int) = ((i + 1 + 1 : Nat) : Int) := by omega
    refine ⟨_, rfl, _, rfl, _, _, rfl, rfl, l, _, _, .str c[i], rfl, rfl, SqL.of (g6 _ _ el), (by rw [ra]; exact ta), _, rfl, _, rfl, l, _, _, .str c[i + 1], rfl, rfl, SqL.of (g6 _ _ el), (by rw [rb]; exact tb), (by show 2 ≤ sizeLine; decide), fun t nt => ?_⟩
    have g7 := g6.trans (same_new nt (.tup [.str c[i], .str c[i + 1]]))
    exact ⟨_, rfl, t, lp, _, _, ps, rfl, rfl, upd_same, hp.same g7, _, rfl, nF pm ⟨g7, _, rfl⟩⟩
  rintro σ H3 ⟨g3, o5, rfl⟩
  have e2 : c.length - 2 + 1 = c.length - 1 := by omega
  have ca := List.getElem?_eq_getElem (show c.length - 2 < c.length by omega)
  have cb : c[c.length - 2 + 1]? = some zg := by rw [e2, ← List.getLast?_eq_getElem?]; exact wy.last
  have pm := wy.pair _ _ _ ca cb
  have rl : (R0.map V.str).getLast? = some (.str c[c.length - 2]) := by
    rw [List.getLast?_map, List.getLast?_eq_getElem?, dl, ← e2, atd (by omega), ca]; rfl
  refine ⟨_, rfl, 1, rfl, l, _, -1, _, rfl, rfl, SqL.of (g3 _ _ el), atI_end rl, _, rfl, (by show 2 ≤ sizeLine; decide), fun t nt => ?_⟩
  have g7 := g3.trans (same_new nt (.tup [.str c[c.length - 2], .str zg]))
  exact ⟨_, rfl, t, lp, _, _, ps, rfl, rfl, upd_same, hp.same g7, dQ (Q := fun v => Q v _) pm (q _ g7)⟩

theorem sclaw : FnScope ["_law_script", "_law_many", "_law_names_here", "_law_larder", "_law_pairs", "_law_cell", "_law_good", "_law_other", "_law_odd", "_law_found", "_law_ringed", "_law_name", "_law_due"] ["_law_script"] (defScope slaw) := ⟨rfl, rfl, rfl, by decide +kernel, rfl, by decide +kernel, by decide +kernel⟩
set_option maxHeartbeats 4000000 in
theorem oklaw {dV : Value} (F : FunD K "law" "law" slaw dV f fd) (B : Bn K mg c_EmptyHeap c_InRing c_Larder c_NoAmount c_NoDish c_NoName c_NoNet c_NoNumber c_NoPack c_NoPlan c_NoRow c_NoStand c_NoStandIn c_NoStep c_StoveError c_TooFew c_TooMany c_Twice f_Larder_init f_Larder_learn f_Larder_part f_Larder_known f_Larder_held) (DLarder_init : DxM P w K mg base CX0 1 f_Larder_init ["self"] [] (spLarder c_Larder)) (DLarder_known : DxM P w K mg base CX0 1 f_Larder_known ["self"] [] (spKnown c_Larder)) (D_law_cell_at : Dx P w K mg base CX0 1 "_law_cell_at" ["_law_script", "_law_k"] [] (spCell K)) (D_law_led_to : Dx P w K mg base CX0 1 "_law_led_to" ["_law_pairs", "_law_good"] [] spLed) (D_law_names : Dx P w K mg base CX0 1 "_law_names" ["_law_number", "_law_many"] [] spNames9) (D_law_no_name : Dx P w K mg base CX0 1 "_law_no_name" ["_law_number"] [] (spNoName K)) (D_law_told : Dx P w K mg base CX0 4 "_law_told" ["_law_larder", "_law_good", "_law_other"] [] (spToldL K c_Larder)) (D_law_held : Dx P w K mg base CX0 4 "_law_held" ["_law_larder", "_law_pairs", "_law_name"] [] (spHeldSo c_Larder)) (D_law_ring : Dx P w K mg base CX0 1 "_law_ring" ["_law_ring_here", "_law_pairs", "_law_good", "_law_other"] [] spRing) : FnOk P w K mg base CX0 9 f fd ["_law_script"] (spLaw K) := by
  have sc := sclaw
  refine F.ok sc (fun vs H Q E h => ?_) (fun cdv A outer s H vs Q E hr h => ?_)
  · obtain ⟨a, ns, rfl, _⟩ := h
    rfl
  obtain ⟨a, ns, rfl, hS, h63, q⟩ := h
  refine ⟨_, (pss_cons (ps_set (i := 1) sc.nd rfl (Or.inl rfl) (pe_op op_add pe_int (pe_op op_modN (pcall0 D_law_cell_at hr (by decide) rfl (pa_cons (pv 0) (pa_cons pe_int pa_nil))) pe_int))) (pss_cons (ps_set (i := 2) sc.nd rfl (Or.inl rfl) (pcall0 D_law_names hr (by decide) rfl (pa_cons (pcall0 D_law_cell_at hr (by decide) rfl (pa_cons (pv 0) (pa_cons pe_int pa_nil))) (pa_cons (pv 1) pa_nil)))) (pss_cons (ps_set (i := 3) sc.nd rfl (Or.inl rfl) (pmakeZ B.mk_Larder DLarder_init hr (by decide) rfl B.m_Larder)) (pss_cons (ps_set (i := 4) sc.nd rfl (Or.inl rfl) (pe_lst pa_nil)) (pss_cons (ps_for PassesOwn.never rfl (pi_list (pe_slice sl_list (pv 0) (po_some pe_int) (po_some pe_int))) (pg_name (i := 5) sc.nd rfl (Or.inl rfl)) (pss_cons (ps_set (i := 6) sc.nd rfl (Or.inl rfl) (pe_ix ix_list (pv 2) (pe_op op_modN (pe_op op_fdivB (pv 5) pe_int) (pv 1)) (fun _ _ => rfl))) (pss_cons (ps_set (i := 7) sc.nd rfl (Or.inl rfl) (pe_ix ix_list (pv 2) (pe_op op_modN (pe_op op_fdivB (pe_op op_fdivB (pv 5) pe_int) (pv 1)) (pv 1)) (fun _ _ => rfl))) (pss_cons (ps_if (pt_cmpR op_eq (pe_op op_modN (pv 5) pe_int) pe_int (nomark _)) (pss_cons (ps_set (i := 8) sc.nd rfl (Or.inl rfl) (pcall0 D_law_no_name hr (by decide) rfl (pa_cons (pe_op op_fdivB (pv 5) pe_int) pa_nil))) (pss_cons (ps_set (i := 9) sc.nd rfl (Or.inl rfl) (pcall0 D_law_told hr (by decide) rfl (pa_cons (pv 3) (pa_cons (pv 8) (pa_cons (pv 7) pa_nil))))) (pss_cons (ps_if (pt_cmpR op_eq (pe_op op_modN (pe_op op_fdivB (pv 5) pe_int) pe_int) pe_int (nomark _)) (pss_one (ps_set (i := 9) sc.nd rfl (Or.inl rfl) (pcall0 D_law_told hr (by decide) rfl (pa_cons (pv 3) (pa_cons (pv 6) (pa_cons (pv 8) pa_nil)))))) pss_nil) (pss_one (ps_if (PW.pt (pw_or (pt_cmpR op_ne (pe_ix ix_tup (pv 9) pe_int (fun _ _ => rfl)) pe_str (nomark _)) (pw_or1 (pt_not (pt_val (pe_ix ix_tup (pv 9) pe_int (fun _ _ => rfl))))))) (pss_one (ps_ret pe_bl)) pss_nil))))) (pss_cons (ps_set (i := 9) sc.nd rfl (Or.inl rfl) (pcall0 D_law_told hr (by decide) rfl (pa_cons (pv 3) (pa_cons (pv 6) (pa_cons (pv 7) pa_nil))))) (pss_cons (ps_set (i := 10) sc.nd rfl (Or.inl rfl) (pe_cmp (pc_din (hu_of hr) (pv 6) (pcall0 D_law_led_to hr (by decide) rfl (pa_cons (pv 4) (pa_cons (pv 7) pa_nil)))) (by with_unfolding_all rfl))) (pss_cons (ps_if (PW.pt (pw_or (pt_cmpR op_ne (pe_ix ix_tup (pv 9) pe_int (fun _ _ => rfl)) (pe_ix ix_list (pe_lst (pa_cons pe_str (pa_cons pe_str pa_nil))) (pe_callTy call_int_bl rfl B.b_int boot_int (pa_cons (pv 10) pa_nil)) (fun _ _ => rfl)) (nomark _)) (pw_or1 (pt_not (pt_val (pe_ix ix_tup (pv 9) pe_int (fun _ _ => rfl))))))) (pss_one (ps_ret pe_bl)) pss_nil) (pss_cons (ps_if (PW.pt (pw_and (pt_val (pv 10)) (pw_and1 (pt_not (pt_val (pcall0 D_law_ring hr (by decide) rfl (pa_cons (pe_ix ix_tup (pv 9) pe_int (fun _ _ => rfl)) (pa_cons (pv 4) (pa_cons (pv 6) (pa_cons (pv 7) pa_nil)))))))))) (pss_one (ps_ret pe_bl)) pss_nil) (pss_one (ps_if (PW.pt (pw_and (pt_not (pt_val (pv 10))) (pw_and1 (pt_cmpR (op_notInP (hu_of hr)) (pe_tup (pa_cons (pv 6) (pa_cons (pv 7) pa_nil))) (pv 4) (by with_unfolding_all rfl))))) (pss_one (ps_expr (pe_bm PySem.F.plainAttrs_list PySem.F.slot_list_append PySem.F.type_list_append mt_append (pv 4) (pa_cons (pe_tup (pa_cons (pv 6) (pa_cons (pv 7) pa_nil))) pa_nil)))) pss_nil))))))) (pss_one (ps_if (pt_not (pt_val (pcall0 D_law_held hr (by decide) rfl (pa_cons (pv 3) (pa_cons (pv 4) (pa_cons (pe_ix ix_list (pv 2) (pe_op op_modN (pe_op op_fdivB (pv 5) pe_int) (pv 1)) (fun _ _ => rfl)) pa_nil)))))) (pss_one (ps_ret pe_bl)) pss_nil)))))) (pss_cons (ps_for PassesOwn.never rfl (pi_list (pv 2)) (pg_name (i := 11) sc.nd rfl (Or.inl rfl)) (pss_one (ps_if (pt_not (pt_val (pcall0 D_law_held hr (by decide) rfl (pa_cons (pv 3) (pa_cons (pv 4) (pa_cons (pv 11) pa_nil)))))) (pss_one (ps_ret pe_bl)) pss_nil))) (pss_cons (ps_set (i := 12) sc.nd rfl (Or.inl rfl) (pe_sortSet rfl rfl B.b_sorted rfl B.b_set PyProof.Rows.Boot.«sorted» PyProof.Rows.Boot.«set» (pe_op op_cat (pe_comp (own := "_law_pair") (ys := []) (js := []) rfl (cok atn .nil (by decide) rfl rfl rfl rfl rfl rfl rfl rfl) (pi_list (pv 4)) (fun C fp s H => (pe_ix (ix_tupK (K := K) rfl) (pv 0) pe_int (fun _ _ => rfl)))) (pe_comp (own := "_law_pair") (ys := []) (js := []) rfl (cok atn .nil (by decide) rfl rfl rfl rfl rfl rfl rfl rfl) (pi_list (pv 4)) (fun C fp s H => (pe_ix (ix_tupK (K := K) rfl) (pv 0) pe_int (fun _ _ => rfl))))))) (pss_cons (ps_set (i := 9) sc.nd rfl (Or.inl rfl) (pmethZ (pv 3) DLarder_known hr (by decide))) (pss_one (ps_ret (pe_and (pe_callB (call_isiT (K := K) rfl) rfl B.b_isinstance boot_isinstance (pa_cons (pv 9) (pa_cons (pe_bltn (v := .ty "list") rfl B.b_list boot_list rfl) pa_nil))) (pe_one (pe_cmpR (op_eqS hr.units0) (pv 9) (pv 12) (nomark _)))))))))))))), ?_⟩
  have slt : (3000 : Nat) < sizeLine := by decide
  refine cut (fun σ H' => H = H' ∧ ∃ m : Int, 2 ≤ m ∧ m ≤ 9 ∧ σ = [some (.ref a), some (.int m), none, none, none, none, none, none, none, none, none, none, none]) (fun N hN => ?_) ?_
  · refine ⟨_, rfl, a, ns, 0, rfl, hS, (by decide), fun hd => ⟨_, _, rfl, rfl, (by show (8 : Int) ≠ 0; decide), _, _, rfl, rfl, ?_⟩⟩
    have m0 := Int.fmod_nonneg_of_pos hd (show (0 : Int) < 8 by decide)
    have m1 := Int.fmod_lt_of_pos hd (show (0 : Int) < 8 by decide)
    exact hN _ _ ⟨rfl, _, by omega, by omega, rfl⟩
  rintro σ _ ⟨rfl, m, m2, m9, rfl⟩
  refine ⟨_, rfl, a, ns, 1, rfl, hS, (by decide), fun c1 => ⟨_, rfl, c1, m, rfl, (by omega), (by omega), fun ln H1 zs g1 en zl nz => ?_⟩⟩
  try dsimp only [gName, tNext]
  intro x dx nx ndx ne
  refine ⟨x, dx, rfl, upd_same, fun H2 F0 k2 f0 la => ⟨rfl, ?_⟩⟩
  have g2 : Same H1 H2 := fun b o e => k2 b o (fun z => by rw [z, nx] at e; cases e) (by rw [upd_ne (fun z => by rw [z, nx] at e; cases e), upd_ne (fun z => by rw [z, ndx] at e; cases e)]; exact e)
  try dsimp only [gName, tNext]
  refine ⟨(by show 0 ≤ sizeLine; decide), fun lp np => ?_⟩
  have g3 := same_new np (.lst [])
  have lw : LwA c_Larder (upd H2 lp (.lst [])) x ln lp zs [] := ⟨⟨F0, [], [], la.same g3, RowsOk.nil, List.nodup_nil, by simp⟩, g3 _ _ (g2 _ _ en), ⟨[], rfl, upd_same, by simp⟩, by simp, fun z => by rw [← z, g2 _ _ en] at np; cases np⟩
  have gA := (g1.trans g2).trans g3
  generalize upd H2 lp (.lst []) = H3 at lw gA ⊢
  clear g3 np g2 k2 la
  have zl12 : zs.length ≤ 12 := by omega
  have mz : m ≠ 0 := by omega
  have at_ : ∀ v : Int, ∃ z ∈ zs, atI (zs.map V.str) (v.fmod m) = some (.str z) := fun v => str_at (Int.fmod_nonneg_of_pos v (by omega)) (by have := Int.fmod_lt_of_pos v (show (0 : Int) < m by omega); omega)
  try dsimp only [gName, tNext]
  refine cut (fun σ H' => ∃ (ps : List (Str × Str)) (o5 o6 o7 o8 o9 o10 : Option V), σ = [some (.ref a), some (.int m), some (.ref ln), some (.ref x), some (.ref lp), o5, o6, o7, o8, o9, o10, none, none] ∧ LwA c_Larder H' x ln lp zs ps ∧ ps.length ≤ 100) (fun N hN => ?_) ?_
  · refine ⟨_, rfl, _, rfl, _, rfl, a, _, rfl, gA.seq hS, fun ls nls => ⟨ls, rfl, ⟨_, SqL.of upd_same⟩, ?_⟩⟩
    have cl := cutV_length (ns.map V.int) (some 2) (some 40)
    rw [List.length_map] at cl
    have ci : ∀ v ∈ cutV (ns.map V.int) (some 2) (some 40), ∃ c : Int, v = .int c := fun v hv => by
      obtain ⟨c, _, e⟩ := List.mem_map.mp (List.mem_of_mem_drop (List.mem_of_mem_take hv))
      exact ⟨c, e.symm⟩
    generalize cutV (ns.map V.int) (some 2) (some 40) = cells at cl ci
    have g4 := same_new nls (.lst cells)
    have lsp : ls ≠ lp := fun z => by
      obtain ⟨as, _, e, _⟩ := lw.pl.ex
      rw [z, e] at nls
      cases nls
    refine for_list (xs := cells) (fun i σ H' => H' ls = some (.lst cells) ∧ ∃ (ps : List (Str × Str)) (o5 o6 o7 o8 o9 o10 : Option V), σ = [some (.ref a), some (.int m), some (.ref ln), some (.ref x), some (.ref lp), o5, o6, o7, o8, o9, o10, none, none] ∧ LwA c_Larder H' x ln lp zs ps ∧ ps.length ≤ i) ⟨upd_same, [], none, none, none, none, none, none, rfl, lw.same g4, Nat.le_refl _⟩ (fun i σ H' _ h => SqL.of h.1) ?_ ?_
    · rintro i v σ H4 hv ⟨el, ps, o5, o6, o7, o8, o9, o10, rfl, lw, few⟩
      have il := (List.getElem?_eq_some_iff.mp hv).1
      obtain ⟨c, rfl⟩ := ci v (List.mem_of_getElem? hv)
      obtain ⟨zg, gz, hg⟩ := at_ (c.fdiv 8)
      obtain ⟨zo, oz, ho⟩ := at_ ((c.fdiv 8).fdiv m)
      have mq : Builtin.divisionGoesByPylong (c.fdiv 8) m = false := PyProof.noPylong_small (by omega)
      have mg' := nz zg gz
      have mo' := nz zo oz
      refine ⟨_, rfl, _, rfl, _, _, rfl, rfl, ⟨by show (8 : Int) ≠ 0; decide, PyProof.noPylong_small (by decide)⟩, _, rfl, _, _, rfl, rfl, mz, ln, _, _, _, rfl, rfl, SqL.of lw.nm, hg, ?_⟩
      refine ⟨_, rfl, _, rfl, _, _, rfl, rfl, ⟨by show (8 : Int) ≠ 0; decide, PyProof.noPylong_small (by decide)⟩, _, rfl, _, _, rfl, rfl, ⟨mz, mq⟩, _, rfl, _, _, rfl, rfl, mz, ln, _, _, _, rfl, rfl, SqL.of lw.nm, ho, ?_⟩
      try dsimp only [gName, tNext]
      refine cut (fun σ H' => H' ls = some (.lst cells) ∧ ∃ (ps : List (Str × Str)) (o8 o9 o10 : Option V), σ = [some (.ref a), some (.int m), some (.ref ln), some (.ref x), some (.ref lp), some (.int c), some (.str zg), some (.str zo), o8, o9, o10, none, none] ∧ LwA c_Larder H' x ln lp zs ps ∧ ps.length ≤ i + 1) (fun N hN => ?_) ?_
      · refine ⟨_, rfl, _, _, rfl, rfl, (by show (8 : Int) ≠ 0; decide), rfl, _, rfl, d2I (fun _ => ?_) (fun _ => ?_)⟩
        · refine ⟨_, rfl, _, _, rfl, rfl, ⟨by show (16 : Int) ≠ 0; decide, PyProof.noPylong_small (by decide)⟩, _, rfl, fun v H5 g5 ho' hn => ?_⟩
          try dsimp only [gName, tNext]
          have lw5 := lw.same g5
          refine ⟨_, rfl, _, rfl, _, rfl, ?_⟩
          dsimp only [tNil, List.append_nil]
          refine odd_of lw5 zl12 (by omega) (.inr ho') (.inl ⟨_, rfl, mo'⟩) (fun z => hn z.1) fun t H6 g6 et => ?_
          try dsimp only [gName, tNext]
          refine cut (fun σ H' => Same H4 H' ∧ ∃ t : Addr, σ = [some (.ref a), some (.int m), some (.ref ln), some (.ref x), some (.ref lp), some (.int c), some (.str zg), some (.str zo), some v, some (.ref t), o10, none, none] ∧ H' t = some (tellT "name" .non)) (fun N' hN' => ?_) ?_
          · refine ⟨_, rfl, _, _, rfl, rfl, ⟨by show (8 : Int) ≠ 0; decide, PyProof.noPylong_small (by decide)⟩, _, _, rfl, rfl, (by show (2 : Int) ≠ 0; decide), rfl, _, rfl, d2I (fun _ => ?_) (fun _ => hN' _ _ ⟨g5.trans g6, t, rfl, et⟩)⟩
            refine ⟨_, rfl, _, rfl, _, rfl, ?_⟩
            dsimp only [tNil, List.append_nil]
            exact odd_of (lw5.same g6) zl12 (by omega) (.inl ⟨_, rfl, mg'⟩) (.inr (OddV.same g6 ho')) (fun z => hn z.2) fun t2 H7 g7 et2 => hN' _ _ ⟨(g5.trans g6).trans g7, t2, rfl, et2⟩
          clear et g6
          rintro σ H7 ⟨g7, t, rfl, et⟩
          refine ⟨_, rfl, t, _, 0, .str "name", rfl, rfl, SqT.of et, rfl, rfl, _, rfl, nF rfl ⟨_, rfl, t, _, 2, .bl true, rfl, rfl, SqT.of et, rfl, ?_⟩⟩
          exact ⟨true, rfl, iteF (hN _ _ ⟨g7 _ _ el, ps, _, _, _, rfl, lw.same g7, by omega⟩)⟩
        · refine ⟨_, rfl, _, rfl, _, rfl, ?_⟩
          dsimp only [tNil, List.append_nil]
          refine told_of lw zl12 (by omega) mg' mo' (fun ld t l H5 w5 g5 e5 et wy => ?_) (fun nl t H5 k5 lb et => ?_)
          · try dsimp only [gName, tNext]
            refine ⟨_, rfl, _, rfl, _, rfl, lp, zo, ps, rfl, lw.pl.same g5, by omega, fun d H6 ks g6 e6 nk led => ⟨d, _, rfl, DGet.k (k := .inr zg) e6, ?_⟩⟩
            rw [mapK_val, if_pos ((led zg).mpr ld)]
            have g56 := g5.trans g6
            have et6 := g6 _ _ et
            have e56 := g6 _ _ e5
            try dsimp only [gName, tNext]
            have el6 := g56 _ _ el
            have lw6 := lw.same g56
            generalize hgo : H6 = H6' at g56 et6 e56 el6 lw6 ⊢
            refine cut (fun σ H' => Same H6' H' ∧ σ = [some (.ref a), some (.int m), some (.ref ln), some (.ref x), some (.ref lp), some (.int c), some (.str zg), some (.str zo), o8, some (.ref t), some (.bl true), none, none]) (fun N' hN' => ?_) ?_
            · refine ⟨_, rfl, t, _, 0, .str "ring", rfl, rfl, SqT.of et6, rfl, (by show 2 ≤ sizeLine; decide), fun l7 n7 => ⟨_, rfl, true, rfl, l7, _, _, .str "ring", rfl, rfl, SqL.of upd_same, rfl, rfl, _, rfl, nF rfl ?_⟩⟩
              have g7 := same_new n7 (.lst [.str "done", .str "ring"])
              exact ⟨_, rfl, t, _, 2, .bl true, rfl, rfl, SqT.of (g7 _ _ et6), rfl, true, rfl, iteF (hN' _ _ ⟨g7, rfl⟩)⟩
            rintro σ H7 ⟨g7, rfl⟩
            refine ⟨_, rfl, true, rfl, iteT ⟨_, rfl, t, _, 1, .ref l, rfl, rfl, SqT.of (g7 _ _ et6), rfl, _, rfl, _, rfl, _, rfl, l, lp, zg, zo, ps, w5, rfl, g7 _ _ e56, lw6.pl.same g7, by omega, wy, fun H8 g8 => ⟨true, rfl, iteF ?_⟩⟩⟩
            have g78 := g7.trans g8
            exact ⟨_, rfl, true, rfl, iteF (hN _ _ ⟨g78 _ _ el6, ps, _, _, _, rfl, lw6.same g78, by omega⟩)⟩
          · try dsimp only [gName, tNext]
            refine ⟨_, rfl, _, rfl, _, rfl, lp, zo, ps, rfl, lb.pl, by omega, fun d H6 ks g6 e6 nk led => ⟨d, _, rfl, DGet.k (k := .inr zg) e6, ?_⟩⟩
            rw [mapK_val, if_neg (fun z => nl ((led zg).mp z))]
            have et6 := g6 _ _ et
            have el6 := g6 _ _ (k5 _ _ el fun _ z => nomatch z)
            have lb6 := lb.same g6
            try dsimp only [gName, tNext]
            refine cut (fun σ H' => Same H6 H' ∧ σ = [some (.ref a), some (.int m), some (.ref ln), some (.ref x), some (.ref lp), some (.int c), some (.str zg), some (.str zo), o8, some (.ref t), some (.bl false), none, none]) (fun N' hN' => ?_) ?_
            · refine ⟨_, rfl, t, _, 0, .str "done", rfl, rfl, SqT.of et6, rfl, (by show 2 ≤ sizeLine; decide), fun l7 n7 => ⟨_, rfl, false, rfl, l7, _, _, .str "done", rfl, rfl, SqL.of upd_same, rfl, rfl, _, rfl, nF rfl ?_⟩⟩
              have g7 := same_new n7 (.lst [.str "done", .str "ring"])
              exact ⟨_, rfl, t, _, 2, .bl true, rfl, rfl, SqT.of (g7 _ _ et6), rfl, true, rfl, iteF (hN' _ _ ⟨g7, rfl⟩)⟩
            rintro σ H7 ⟨g7, rfl⟩
            refine ⟨_, rfl, false, rfl, iteF ?_⟩
            refine ⟨_, rfl, false, rfl, iteT ⟨_, rfl, _, rfl, (by show 2 ≤ sizeLine; decide), fun t2 n2 => ?_⟩⟩
            have g72 := g7.trans (same_new n2 (.tup [.str zg, .str zo]))
            refine ⟨_, rfl, t2, lp, _, _, ps, rfl, rfl, upd_same, lb6.pl.same g72, _, rfl, nnT (fun z => ?_) (fun z => ?_)⟩
            · have lb7 := lb6.same g72
              have el7 := g72 _ _ el6
              generalize upd H7 t2 (.tup [.str zg, .str zo]) = H8 at lb7 el7 ⊢
              obtain ⟨as, al, ea, _⟩ := lb7.pl.ex
              refine ⟨_, rfl, .inl ⟨rfl, _, SqL.of ea⟩, _, rfl, _, rfl, (by show 2 ≤ sizeLine; decide), fun t3 n3 => ?_⟩
              have g8 := same_new n3 (.tup [.str zg, .str zo])
              obtain ⟨xs, ex, xl, lw9⟩ := (lb7.same g8).new (t := t3) upd_same gz oz
              exact ⟨lp, _, _, rfl, rfl, ex, by omega, hN _ _ ⟨by rw [upd_ne lsp]; exact g8 _ _ el7, _, _, _, _, rfl, lw9, by simp; omega⟩⟩
            · have mem := of_decide_eq_true z
              exact hN _ _ ⟨g72 _ _ el6, ps, _, _, _, rfl, (lb6.same g72).old mem, by omega⟩
      clear lw few el
      rintro σ H5 ⟨el, ps, o8, o9, o10, rfl, lw, few⟩
      obtain ⟨z5, hz5, h5⟩ := at_ (c.fdiv 5)
      obtain ⟨F1, rows, kn, la, ok, nd, hy⟩ := lw.ex
      refine ⟨_, rfl, _, rfl, _, rfl, _, rfl, _, _, rfl, rfl, ⟨by show (5 : Int) ≠ 0; decide, PyProof.noPylong_small (by decide)⟩, _, rfl, _, _, rfl, rfl, mz, ln, _, _, _, rfl, rfl, SqL.of lw.nm, h5, x, lp, z5, F1, rows, kn, ps, rfl, la, ok, by omega, nz z5 hz5, lw.pl, fun H8 g8 => ⟨true, rfl, iteF ?_⟩⟩
      exact ⟨g8 _ _ el, ps, _, _, _, _, _, _, rfl, lw.same g8, few⟩
    · rintro σ H4 ⟨el, ps, o5, o6, o7, o8, o9, o10, rfl, lw, few⟩
      exact hN _ _ ⟨ps, o5, o6, o7, o8, o9, o10, rfl, lw, by omega⟩
  clear lw
  rintro σ H4 ⟨ps, o5, o6, o7, o8, o9, o10, rfl, lw, few⟩
  refine cut (fun σ H' => ∃ o11 : Option V, σ = [some (.ref a), some (.int m), some (.ref ln), some (.ref x), some (.ref lp), o5, o6, o7, o8, o9, o10, o11, none] ∧ LwA c_Larder H' x ln lp zs ps) (fun N hN => ?_) ?_
  · refine ⟨_, rfl, ln, rfl, ⟨_, SqL.of lw.nm⟩, for_list (xs := zs.map V.str) (fun i σ H' => ∃ o11 : Option V, σ = [some (.ref a), some (.int m), some (.ref ln), some (.ref x), some (.ref lp), o5, o6, o7, o8, o9, o10, o11, none] ∧ LwA c_Larder H' x ln lp zs ps) ⟨none, rfl, lw⟩ (fun i σ H' _ h => by obtain ⟨_, _, h⟩ := h; exact SqL.of h.nm) ?_ ?_⟩
    · rintro i v σ H5 hv ⟨o11, rfl, lw⟩
      obtain ⟨z5, hz5, rfl⟩ := List.mem_map.mp (List.mem_of_getElem? hv)
      obtain ⟨F1, rows, kn, la, ok, nd, hy⟩ := lw.ex
      refine ⟨_, rfl, _, rfl, _, rfl, x, lp, z5, F1, rows, kn, ps, rfl, la, ok, by omega, nz z5 hz5, lw.pl, fun H8 g8 => ⟨true, rfl, iteF ?_⟩⟩
      exact ⟨_, rfl, lw.same g8⟩
    · rintro σ H5 ⟨o11, rfl, lw⟩
      exact hN _ _ ⟨o11, rfl, lw⟩
  clear lw
  rintro σ H5 ⟨o11, rfl, lw⟩
  obtain ⟨as, al, ea, ep⟩ := lw.pl.ex
  have zl' : (as.map V.ref).length ≤ sizeLine := by rw [List.length_map]; omega
  have xat : ∀ v ∈ as.map V.ref, ∃ (r : Addr) (z : Str × Str), v = .ref r ∧ H5 r = some (.tup [.str z.1, .str z.2]) := fun v hv => by
    obtain ⟨r, hr, rfl⟩ := List.mem_map.mp hv
    obtain ⟨i, hi⟩ := List.mem_iff_getElem?.mp hr
    have il : i < ps.length := by rw [← al]; exact (List.getElem?_eq_some_iff.mp hi).1
    exact ⟨r, _, rfl, ep i r _ hi (List.getElem?_eq_getElem il)⟩
  refine ⟨_, rfl, lp, rfl, ⟨_, SqL.of ea⟩, comp_byL (xs := as.map V.ref) (fun x y => ∃ (r : Addr) (z : Str × Str), x = .ref r ∧ H5 r = some (.tup [.str z.1, .str z.2]) ∧ y = .str z.1) (SqL.of ea) zl' (fun v hv H3 g3 Q' hQ => ?_) (fun p1 ys1 H6 np1 hl1 ht1 g6 e1 => ?_)⟩
  · obtain ⟨r, z, rfl, er⟩ := xat v hv
    exact ⟨_, rfl, r, _, 0, .str z.1, rfl, rfl, SqT.of (g3 _ _ er), rfl, hQ _ _ ⟨r, z, rfl, er, rfl⟩ (.refl _)⟩
  rw [pairs_col (·.1) al ep hl1 ht1] at e1
  refine ⟨_, rfl, lp, rfl, ⟨_, SqL.of (g6 _ _ ea)⟩, comp_byL (xs := as.map V.ref) (fun x y => ∃ (r : Addr) (z : Str × Str), x = .ref r ∧ H5 r = some (.tup [.str z.1, .str z.2]) ∧ y = .str z.2) (SqL.of (g6 _ _ ea)) zl' (fun v hv H3 g3 Q' hQ => ?_) (fun p2 ys2 H7 np2 hl2 ht2 g7 e2 => ?_)⟩
  · obtain ⟨r, z, rfl, er⟩ := xat v hv
    exact ⟨_, rfl, r, _, 1, .str z.2, rfl, rfl, SqT.of (g3 _ _ (g6 _ _ er)), rfl, hQ _ _ ⟨r, z, rfl, er, rfl⟩ (.refl _)⟩
  rw [pairs_col (·.2) al ep hl2 ht2] at e2
  refine ⟨p1, p2, _, _, rfl, rfl, g7 _ _ e1, e2, (by simp only [List.length_map]; omega), fun p3 n3 => ?_⟩
  have g8 := same_new n3 (.lst ((ps.map (·.1)).map V.str ++ (ps.map (·.2)).map V.str))
  have e3 : upd H7 p3 (.lst ((ps.map (·.1)).map V.str ++ (ps.map (·.2)).map V.str)) p3 = some (.lst ((ps.map (·.1) ++ ps.map (·.2)).map V.str)) := by rw [upd_same, List.map_append]
  have gB := (g6.trans g7).trans g8
  generalize upd H7 p3 (.lst ((ps.map (·.1)).map V.str ++ (ps.map (·.2)).map V.str)) = H8 at gB e3 ⊢
  refine ⟨p3, ps.map (·.1) ++ ps.map (·.2), rfl, SqL.of e3, (by simp only [List.length_append, List.length_map]; omega), fun p4 ys n4 nd4 m4 s4 => ?_⟩
  have g9 := same_new n4 (.lst (ys.map V.str))
  have lw9 := (lw.same gB).same g9
  have e4 : upd H8 p4 (.lst (ys.map V.str)) p4 = some (.lst (ys.map V.str)) := upd_same
  generalize upd H8 p4 (.lst (ys.map V.str)) = H9 at lw9 e4 ⊢
  obtain ⟨F1, rows, kn, la, ok, nd, hy⟩ := lw9.ex
  obtain ⟨dx, p, n, fs, ex, fp, fn, dd, en', _, _, fm⟩ := la.dd
  try dsimp only [gName, tNext]
  refine ⟨_, rfl, x, _, dx, _, rfl, ex, B.cl_Larder, B.me_Larder_known, fm _ (by simp), x, F1, rows, kn, rfl, la, nd, fun l8 H10 zs8 g10 e8 s8 pr8 => ?_⟩
  have e : zs8 = ys := So.sorted_uniq s8 s4 <| (List.perm_ext_iff_of_nodup (pr8.nodup_iff.mpr nd) nd4).mpr fun y => by
    rw [pr8.mem_iff, hy, m4, List.mem_append, List.mem_map, List.mem_map]
    constructor
    · rintro ⟨p, hp, rfl | rfl⟩
      · exact .inl ⟨p, hp, rfl⟩
      · exact .inr ⟨p, hp, rfl⟩
    · rintro (⟨p, hp, rfl⟩ | ⟨p, hp, rfl⟩)
      · exact ⟨p, hp, .inl rfl⟩
      · exact ⟨p, hp, .inr rfl⟩
  subst e
  try dsimp only [gName, tNext]
  refine ⟨_, rfl, _, _, _, true, rfl, .lst e8, rfl, true, rfl, iteT ⟨_, rfl, _, rfl, l8, p4, zs8.map V.str, rfl, rfl, SqL.of e8, SqL.of (g10 _ _ e4), (fun z hz => ?_), q _⟩⟩
  obtain ⟨y, _, rfl⟩ := List.mem_map.mp hz
  trivial

end
set_option maxHeartbeats 4000000 in
theorem all_mk {l : PySem.W.OpenLaw} {w : World} {K : PySem.W.Frag} {h : Heap} {mg : Str → Option Value} {fa fis_name frefuse_no_names fnames_ahead fchain_to fchain_down fall_inside f_law_cell_at f_law_led_to f_law_names f_law_no_name f_law_alone f_law_told f_law_held f_law_ring flaw c_EmptyHeap c_InRing c_Larder c_NoAmount c_NoDish c_NoName c_NoNet c_NoNumber c_NoPack c_NoPlan c_NoRow c_NoStand c_NoStandIn c_NoStep c_StoveError c_TooFew c_TooMany c_Twice f_Larder_init f_Larder_learn f_Larder_part f_Larder_known f_Larder_held f_InRing : Addr} (X : K.In h) (G : h.Ns mainGlobals mg) (hfa : mg "law" = some (.ref fa))
    {od_InRing an_InRing : Option Addr} {sl_InRing : Array (Option Value)} {oc_InRing kV_InRing dc_InRing pm_InRing cd_InRing ct_InRing : Value}
    {odis_name anis_name : Option Addr} {slis_name : Array (Option Value)} {ocis_name kVis_name dcis_name pmis_name cdis_name ctis_name : Value}
    {odrefuse_no_names anrefuse_no_names : Option Addr} {slrefuse_no_names : Array (Option Value)} {ocrefuse_no_names kVrefuse_no_names dcrefuse_no_names pmrefuse_no_names cdrefuse_no_names ctrefuse_no_names : Value}
    {odnames_ahead annames_ahead : Option Addr} {slnames_ahead : Array (Option Value)} {ocnames_ahead kVnames_ahead dcnames_ahead pmnames_ahead cdnames_ahead ctnames_ahead : Value}
    {odchain_to anchain_to : Option Addr} {slchain_to : Array (Option Value)} {occhain_to kVchain_to dcchain_to pmchain_to cdchain_to ctchain_to : Value}
    {odchain_down anchain_down : Option Addr} {slchain_down : Array (Option Value)} {occhain_down kVchain_down dcchain_down pmchain_down cdchain_down ctchain_down : Value}
    {odall_inside anall_inside : Option Addr} {slall_inside : Array (Option Value)} {ocall_inside kVall_inside dcall_inside pmall_inside cdall_inside ctall_inside : Value}
    {od_law_cell_at an_law_cell_at : Option Addr} {sl_law_cell_at : Array (Option Value)} {oc_law_cell_at kV_law_cell_at dc_law_cell_at pm_law_cell_at cd_law_cell_at ct_law_cell_at : Value}
    {od_law_led_to an_law_led_to : Option Addr} {sl_law_led_to : Array (Option Value)} {oc_law_led_to kV_law_led_to dc_law_led_to pm_law_led_to cd_law_led_to ct_law_led_to : Value}
    {od_law_names an_law_names : Option Addr} {sl_law_names : Array (Option Value)} {oc_law_names kV_law_names dc_law_names pm_law_names cd_law_names ct_law_names : Value}
    {od_law_no_name an_law_no_name : Option Addr} {sl_law_no_name : Array (Option Value)} {oc_law_no_name kV_law_no_name dc_law_no_name pm_law_no_name cd_law_no_name ct_law_no_name : Value}
    {od_law_alone an_law_alone : Option Addr} {sl_law_alone : Array (Option Value)} {oc_law_alone kV_law_alone dc_law_alone pm_law_alone cd_law_alone ct_law_alone : Value}
    {od_law_told an_law_told : Option Addr} {sl_law_told : Array (Option Value)} {oc_law_told kV_law_told dc_law_told pm_law_told cd_law_told ct_law_told : Value}
    {od_law_held an_law_held : Option Addr} {sl_law_held : Array (Option Value)} {oc_law_held kV_law_held dc_law_held pm_law_held cd_law_held ct_law_held : Value}
    {od_law_ring an_law_ring : Option Addr} {sl_law_ring : Array (Option Value)} {oc_law_ring kV_law_ring dc_law_ring pm_law_ring cd_law_ring ct_law_ring : Value}
    {odlaw anlaw : Option Addr} {sllaw : Array (Option Value)} {oclaw kVlaw dclaw pmlaw cdlaw ctlaw : Value}
    {odLarder_init anLarder_init : Option Addr} {slLarder_init : Array (Option Value)} {ocLarder_init kVLarder_init dcLarder_init pmLarder_init cdLarder_init ctLarder_init : Value}
    {odLarder_learn anLarder_learn : Option Addr} {slLarder_learn : Array (Option Value)} {ocLarder_learn kVLarder_learn dcLarder_learn pmLarder_learn cdLarder_learn ctLarder_learn : Value}
    {odLarder_part anLarder_part : Option Addr} {slLarder_part : Array (Option Value)} {ocLarder_part kVLarder_part dcLarder_part pmLarder_part cdLarder_part ctLarder_part : Value}
    {odLarder_known anLarder_known : Option Addr} {slLarder_known : Array (Option Value)} {ocLarder_known kVLarder_known dcLarder_known pmLarder_known cdLarder_known ctLarder_known : Value}
    {odLarder_held anLarder_held : Option Addr} {slLarder_held : Array (Option Value)} {ocLarder_held kVLarder_held dcLarder_held pmLarder_held cdLarder_held ctLarder_held : Value}
    {tk_LETTERS : Tok}
    {tk_MOST_LETTERS : Tok}
    {tk_MOST_NAMES : Tok}
    (ais_name : PySem.W.nsIn K mainGlobals "is_name" = some (some (.ref fis_name)))
    (lis_name : K.lookup fis_name = some ⟨ocis_name, odis_name, .func (PySem.W.fnOf "is_name" "is_name" (defArgs sis_name) (defBody sis_name) (defScope sis_name) .none kVis_name dcis_name pmis_name anis_name cdis_name ctis_name), slis_name⟩) (cis_name : PySem.W.codeIn K cdis_name "is_name" = true) (kis_name : PySem.W.keepIn K (.ref fis_name) = true)
    (arefuse_no_names : PySem.W.nsIn K mainGlobals "refuse_no_names" = some (some (.ref frefuse_no_names)))
    (lrefuse_no_names : K.lookup frefuse_no_names = some ⟨ocrefuse_no_names, odrefuse_no_names, .func (PySem.W.fnOf "refuse_no_names" "refuse_no_names" (defArgs srefuse_no_names) (defBody srefuse_no_names) (defScope srefuse_no_names) .none kVrefuse_no_names dcrefuse_no_names pmrefuse_no_names anrefuse_no_names cdrefuse_no_names ctrefuse_no_names), slrefuse_no_names⟩) (crefuse_no_names : PySem.W.codeIn K cdrefuse_no_names "refuse_no_names" = true) (krefuse_no_names : PySem.W.keepIn K (.ref frefuse_no_names) = true)
    (anames_ahead : PySem.W.nsIn K mainGlobals "names_ahead" = some (some (.ref fnames_ahead)))
    (lnames_ahead : K.lookup fnames_ahead = some ⟨ocnames_ahead, odnames_ahead, .func (PySem.W.fnOf "names_ahead" "names_ahead" (defArgs snames_ahead) (defBody snames_ahead) (defScope snames_ahead) .none kVnames_ahead dcnames_ahead pmnames_ahead annames_ahead cdnames_ahead ctnames_ahead), slnames_ahead⟩) (cnames_ahead : PySem.W.codeIn K cdnames_ahead "names_ahead" = true) (knames_ahead : PySem.W.keepIn K (.ref fnames_ahead) = true)
    (achain_to : PySem.W.nsIn K mainGlobals "chain_to" = some (some (.ref fchain_to)))
    (lchain_to : K.lookup fchain_to = some ⟨occhain_to, odchain_to, .func (PySem.W.fnOf "chain_to" "chain_to" (defArgs schain_to) (defBody schain_to) (defScope schain_to) .none kVchain_to dcchain_to pmchain_to anchain_to cdchain_to ctchain_to), slchain_to⟩) (cchain_to : PySem.W.codeIn K cdchain_to "chain_to" = true) (kchain_to : PySem.W.keepIn K (.ref fchain_to) = true)
    (achain_down : PySem.W.nsIn K mainGlobals "chain_down" = some (some (.ref fchain_down)))
    (lchain_down : K.lookup fchain_down = some ⟨occhain_down, odchain_down, .func (PySem.W.fnOf "chain_down" "chain_down" (defArgs schain_down) (defBody schain_down) (defScope schain_down) .none kVchain_down dcchain_down pmchain_down anchain_down cdchain_down ctchain_down), slchain_down⟩) (cchain_down : PySem.W.codeIn K cdchain_down "chain_down" = true) (kchain_down : PySem.W.keepIn K (.ref fchain_down) = true)
    (aall_inside : PySem.W.nsIn K mainGlobals "all_inside" = some (some (.ref fall_inside)))
    (lall_inside : K.lookup fall_inside = some ⟨ocall_inside, odall_inside, .func (PySem.W.fnOf "all_inside" "all_inside" (defArgs sall_inside) (defBody sall_inside) (defScope sall_inside) .none kVall_inside dcall_inside pmall_inside anall_inside cdall_inside ctall_inside), slall_inside⟩) (call_inside : PySem.W.codeIn K cdall_inside "all_inside" = true) (kall_inside : PySem.W.keepIn K (.ref fall_inside) = true)
    (a_law_cell_at : PySem.W.nsIn K mainGlobals "_law_cell_at" = some (some (.ref f_law_cell_at)))
    (l_law_cell_at : K.lookup f_law_cell_at = some ⟨oc_law_cell_at, od_law_cell_at, .func (PySem.W.fnOf "_law_cell_at" "_law_cell_at" (defArgs s_law_cell_at) (defBody s_law_cell_at) (defScope s_law_cell_at) .none kV_law_cell_at dc_law_cell_at pm_law_cell_at an_law_cell_at cd_law_cell_at ct_law_cell_at), sl_law_cell_at⟩) (c_law_cell_at : PySem.W.codeIn K cd_law_cell_at "_law_cell_at" = true) (k_law_cell_at : PySem.W.keepIn K (.ref f_law_cell_at) = true)
    (a_law_led_to : PySem.W.nsIn K mainGlobals "_law_led_to" = some (some (.ref f_law_led_to)))
    (l_law_led_to : K.lookup f_law_led_to = some ⟨oc_law_led_to, od_law_led_to, .func (PySem.W.fnOf "_law_led_to" "_law_led_to" (defArgs s_law_led_to) (defBody s_law_led_to) (defScope s_law_led_to) .none kV_law_led_to dc_law_led_to pm_law_led_to an_law_led_to cd_law_led_to ct_law_led_to), sl_law_led_to⟩) (c_law_led_to : PySem.W.codeIn K cd_law_led_to "_law_led_to" = true) (k_law_led_to : PySem.W.keepIn K (.ref f_law_led_to) = true)
    (a_law_names : PySem.W.nsIn K mainGlobals "_law_names" = some (some (.ref f_law_names)))
    (l_law_names : K.lookup f_law_names = some ⟨oc_law_names, od_law_names, .func (PySem.W.fnOf "_law_names" "_law_names" (defArgs s_law_names) (defBody s_law_names) (defScope s_law_names) .none kV_law_names dc_law_names pm_law_names an_law_names cd_law_names ct_law_names), sl_law_names⟩) (c_law_names : PySem.W.codeIn K cd_law_names "_law_names" = true) (k_law_names : PySem.W.keepIn K (.ref f_law_names) = true)
    (a_law_no_name : PySem.W.nsIn K mainGlobals "_law_no_name" = some (some (.ref f_law_no_name)))
    (l_law_no_name : K.lookup f_law_no_name = some ⟨oc_law_no_name, od_law_no_name, .func (PySem.W.fnOf "_law_no_name" "_law_no_name" (defArgs s_law_no_name) (defBody s_law_no_name) (defScope s_law_no_name) .none kV_law_no_name dc_law_no_name pm_law_no_name an_law_no_name cd_law_no_name ct_law_no_name), sl_law_no_name⟩) (c_law_no_name : PySem.W.codeIn K cd_law_no_name "_law_no_name" = true) (k_law_no_name : PySem.W.keepIn K (.ref f_law_no_name) = true)
    (a_law_alone : PySem.W.nsIn K mainGlobals "_law_alone" = some (some (.ref f_law_alone)))
    (l_law_alone : K.lookup f_law_alone = some ⟨oc_law_alone, od_law_alone, .func (PySem.W.fnOf "_law_alone" "_law_alone" (defArgs s_law_alone) (defBody s_law_alone) (defScope s_law_alone) .none kV_law_alone dc_law_alone pm_law_alone an_law_alone cd_law_alone ct_law_alone), sl_law_alone⟩) (c_law_alone : PySem.W.codeIn K cd_law_alone "_law_alone" = true) (k_law_alone : PySem.W.keepIn K (.ref f_law_alone) = true)
    (a_law_told : PySem.W.nsIn K mainGlobals "_law_told" = some (some (.ref f_law_told)))
    (l_law_told : K.lookup f_law_told = some ⟨oc_law_told, od_law_told, .func (PySem.W.fnOf "_law_told" "_law_told" (defArgs s_law_told) (defBody s_law_told) (defScope s_law_told) .none kV_law_told dc_law_told pm_law_told an_law_told cd_law_told ct_law_told), sl_law_told⟩) (c_law_told : PySem.W.codeIn K cd_law_told "_law_told" = true) (k_law_told : PySem.W.keepIn K (.ref f_law_told) = true)
    (a_law_held : PySem.W.nsIn K mainGlobals "_law_held" = some (some (.ref f_law_held)))
    (l_law_held : K.lookup f_law_held = some ⟨oc_law_held, od_law_held, .func (PySem.W.fnOf "_law_held" "_law_held" (defArgs s_law_held) (defBody s_law_held) (defScope s_law_held) .none kV_law_held dc_law_held pm_law_held an_law_held cd_law_held ct_law_held), sl_law_held⟩) (c_law_held : PySem.W.codeIn K cd_law_held "_law_held" = true) (k_law_held : PySem.W.keepIn K (.ref f_law_held) = true)
    (a_law_ring : PySem.W.nsIn K mainGlobals "_law_ring" = some (some (.ref f_law_ring)))
    (l_law_ring : K.lookup f_law_ring = some ⟨oc_law_ring, od_law_ring, .func (PySem.W.fnOf "_law_ring" "_law_ring" (defArgs s_law_ring) (defBody s_law_ring) (defScope s_law_ring) .none kV_law_ring dc_law_ring pm_law_ring an_law_ring cd_law_ring ct_law_ring), sl_law_ring⟩) (c_law_ring : PySem.W.codeIn K cd_law_ring "_law_ring" = true) (k_law_ring : PySem.W.keepIn K (.ref f_law_ring) = true)
    (alaw : PySem.W.nsIn K mainGlobals "law" = some (some (.ref flaw)))
    (llaw : K.lookup flaw = some ⟨oclaw, odlaw, .func (PySem.W.fnOf "law" "law" (defArgs slaw) (defBody slaw) (defScope slaw) .none kVlaw dclaw pmlaw anlaw cdlaw ctlaw), sllaw⟩) (claw : PySem.W.codeIn K cdlaw "law" = true) (klaw : PySem.W.keepIn K (.ref flaw) = true)
    (zg_LETTERS : PySem.W.nsIn K mainGlobals "LETTERS" = some (some (.str "abcdefghijklmnopqrstuvwxyz" tk_LETTERS)))
    (zg_MOST_LETTERS : PySem.W.nsIn K mainGlobals "MOST_LETTERS" = some (some (.int 12 tk_MOST_LETTERS)))
    (zg_MOST_NAMES : PySem.W.nsIn K mainGlobals "MOST_NAMES" = some (some (.int 80 tk_MOST_NAMES)))
    (zb_len : PySem.W.nsIn K mainGlobals "len" = some none)
    (zb_isinstance : PySem.W.nsIn K mainGlobals "isinstance" = some none)
    (zb_str : PySem.W.nsIn K mainGlobals "str" = some none)
    (zb_sorted : PySem.W.nsIn K mainGlobals "sorted" = some none)
    (zb_list : PySem.W.nsIn K mainGlobals "list" = some none)
    (zb_reversed : PySem.W.nsIn K mainGlobals "reversed" = some none)
    (zb_range : PySem.W.nsIn K mainGlobals "range" = some none)
    (zb_ValueError : PySem.W.nsIn K mainGlobals "ValueError" = some none)
    (zb_set : PySem.W.nsIn K mainGlobals "set" = some none)
    (zb_int : PySem.W.nsIn K mainGlobals "int" = some none)
    (zm_EmptyHeap : PySem.W.nsIn K mainGlobals "EmptyHeap" = some (some (.ref c_EmptyHeap)))
    (zm_InRing : PySem.W.nsIn K mainGlobals "InRing" = some (some (.ref c_InRing)))
    (zm_Larder : PySem.W.nsIn K mainGlobals "Larder" = some (some (.ref c_Larder)))
    (zm_NoAmount : PySem.W.nsIn K mainGlobals "NoAmount" = some (some (.ref c_NoAmount)))
    (zm_NoDish : PySem.W.nsIn K mainGlobals "NoDish" = some (some (.ref c_NoDish)))
    (zm_NoName : PySem.W.nsIn K mainGlobals "NoName" = some (some (.ref c_NoName)))
    (zm_NoNet : PySem.W.nsIn K mainGlobals "NoNet" = some (some (.ref c_NoNet)))
    (zm_NoNumber : PySem.W.nsIn K mainGlobals "NoNumber" = some (some (.ref c_NoNumber)))
    (zm_NoPack : PySem.W.nsIn K mainGlobals "NoPack" = some (some (.ref c_NoPack)))
    (zm_NoPlan : PySem.W.nsIn K mainGlobals "NoPlan" = some (some (.ref c_NoPlan)))
    (zm_NoRow : PySem.W.nsIn K mainGlobals "NoRow" = some (some (.ref c_NoRow)))
    (zm_NoStand : PySem.W.nsIn K mainGlobals "NoStand" = some (some (.ref c_NoStand)))
    (zm_NoStandIn : PySem.W.nsIn K mainGlobals "NoStandIn" = some (some (.ref c_NoStandIn)))
    (zm_NoStep : PySem.W.nsIn K mainGlobals "NoStep" = some (some (.ref c_NoStep)))
    (zm_StoveError : PySem.W.nsIn K mainGlobals "StoveError" = some (some (.ref c_StoveError)))
    (zm_TooFew : PySem.W.nsIn K mainGlobals "TooFew" = some (some (.ref c_TooFew)))
    (zm_TooMany : PySem.W.nsIn K mainGlobals "TooMany" = some (some (.ref c_TooMany)))
    (zm_Twice : PySem.W.nsIn K mainGlobals "Twice" = some (some (.ref c_Twice)))
    (atLarder_init : PySem.W.findIn K (.ref c_Larder) "__init__" = some (some (.ref f_Larder_init)))
    (lLarder_init : K.lookup f_Larder_init = some ⟨ocLarder_init, odLarder_init, .func (PySem.W.fnOf "__init__" "Larder.__init__" (defArgs sLarder_init) (defBody sLarder_init) (defScope sLarder_init) .none kVLarder_init dcLarder_init pmLarder_init anLarder_init cdLarder_init ctLarder_init), slLarder_init⟩) (cLarder_init : PySem.W.codeIn K cdLarder_init "Larder.__init__" = true) (kLarder_init : PySem.W.keepIn K (.ref f_Larder_init) = true)
    (atLarder_learn : PySem.W.findIn K (.ref c_Larder) "learn" = some (some (.ref f_Larder_learn)))
    (lLarder_learn : K.lookup f_Larder_learn = some ⟨ocLarder_learn, odLarder_learn, .func (PySem.W.fnOf "learn" "Larder.learn" (defArgs sLarder_learn) (defBody sLarder_learn) (defScope sLarder_learn) .none kVLarder_learn dcLarder_learn pmLarder_learn anLarder_learn cdLarder_learn ctLarder_learn), slLarder_learn⟩) (cLarder_learn : PySem.W.codeIn K cdLarder_learn "Larder.learn" = true) (kLarder_learn : PySem.W.keepIn K (.ref f_Larder_learn) = true)
    (atLarder_part : PySem.W.findIn K (.ref c_Larder) "part" = some (some (.ref f_Larder_part)))
    (lLarder_part : K.lookup f_Larder_part = some ⟨ocLarder_part, odLarder_part, .func (PySem.W.fnOf "part" "Larder.part" (defArgs sLarder_part) (defBody sLarder_part) (defScope sLarder_part) .none kVLarder_part dcLarder_part pmLarder_part anLarder_part cdLarder_part ctLarder_part), slLarder_part⟩) (cLarder_part : PySem.W.codeIn K cdLarder_part "Larder.part" = true) (kLarder_part : PySem.W.keepIn K (.ref f_Larder_part) = true)
    (atLarder_known : PySem.W.findIn K (.ref c_Larder) "known" = some (some (.ref f_Larder_known)))
    (lLarder_known : K.lookup f_Larder_known = some ⟨ocLarder_known, odLarder_known, .func (PySem.W.fnOf "known" "Larder.known" (defArgs sLarder_known) (defBody sLarder_known) (defScope sLarder_known) .none kVLarder_known dcLarder_known pmLarder_known anLarder_known cdLarder_known ctLarder_known), slLarder_known⟩) (cLarder_known : PySem.W.codeIn K cdLarder_known "Larder.known" = true) (kLarder_known : PySem.W.keepIn K (.ref f_Larder_known) = true)
    (atLarder_held : PySem.W.findIn K (.ref c_Larder) "held" = some (some (.ref f_Larder_held)))
    (lLarder_held : K.lookup f_Larder_held = some ⟨ocLarder_held, odLarder_held, .func (PySem.W.fnOf "held" "Larder.held" (defArgs sLarder_held) (defBody sLarder_held) (defScope sLarder_held) .none kVLarder_held dcLarder_held pmLarder_held anLarder_held cdLarder_held ctLarder_held), slLarder_held⟩) (cLarder_held : PySem.W.codeIn K cdLarder_held "Larder.held" = true) (kLarder_held : PySem.W.keepIn K (.ref f_Larder_held) = true)
    (zx_NoName : PySem.W.excIn K c_NoName bmV "ValueError.__new__" = true)
    (zi_NoName : XI K c_NoName)
    (zt_InRing : XT K c_InRing)
    (zt_NoName : XT K c_NoName)
    (zt_StoveError : XT K c_StoveError)
    (zs_NoName_InRing : PySem.W.subIn K (.ref c_NoName) (.ref c_InRing) = some false)
    (zs_NoName_NoName : PySem.W.subIn K (.ref c_NoName) (.ref c_NoName) = some true)
    (zs_InRing_InRing : PySem.W.subIn K (.ref c_InRing) (.ref c_InRing) = some true)
    (zs_NoName_StoveError : PySem.W.subIn K (.ref c_NoName) (.ref c_StoveError) = some true)
    (zk_NoName_StoveError : PySem.W.kitOne K (.ref c_NoName) (.ref c_StoveError) = some true)
    (zk_NoName_ValueError : PySem.W.kitOne K (.ref c_NoName) (.type "ValueError") = some true)
    (zk_InRing_StoveError : PySem.W.kitOne K (.ref c_InRing) (.ref c_StoveError) = some true)
    (zk_InRing_ValueError : PySem.W.kitOne K (.ref c_InRing) (.type "ValueError") = some true)
    (zk_NoName_InRing : PySem.W.kitOne K (.ref c_NoName) (.ref c_InRing) = some false)
    (zk_InRing_NoName : PySem.W.kitOne K (.ref c_InRing) (.ref c_NoName) = some false)
    (za_InRing : XA K c_InRing c_StoveError)
    (zn_InRing : PySem.W.findIn K (.ref c_InRing) "ring" = some none)
    (zi_InRing : XI K c_InRing)
    (zka_NoName_1 : PySem.W.kitAny K (.ref c_NoName) [.ref c_EmptyHeap, .ref c_NoAmount, .ref c_NoDish, .ref c_NoNet, .ref c_NoNumber, .ref c_NoPack, .ref c_NoPlan, .ref c_NoRow] = some false)
    (zka_NoName_2 : PySem.W.kitAny K (.ref c_NoName) [.ref c_NoStand, .ref c_NoStandIn, .ref c_NoStep, .ref c_TooFew, .ref c_TooMany, .ref c_Twice] = some false)
    (zka_InRing_1 : PySem.W.kitAny K (.ref c_InRing) [.ref c_EmptyHeap, .ref c_NoAmount, .ref c_NoDish, .ref c_NoNet, .ref c_NoNumber, .ref c_NoPack, .ref c_NoPlan, .ref c_NoRow] = some false)
    (zka_InRing_2 : PySem.W.kitAny K (.ref c_InRing) [.ref c_NoStand, .ref c_NoStandIn, .ref c_NoStep, .ref c_TooFew, .ref c_TooMany, .ref c_Twice] = some false)
    (zcl_Larder : Cls K c_Larder)
    (zmk_Larder : Mk K c_Larder f_Larder_init)
    (zme_Larder_part : Meth K c_Larder "part" f_Larder_part)
    (zme_Larder_known : Meth K c_Larder "known" f_Larder_known)
    (zme_Larder_held : Meth K c_Larder "held" f_Larder_held)
    (zme_Larder_learn : Meth K c_Larder "learn" f_Larder_learn)
    (zna_Larder_parts : NoAttr K c_Larder "parts")
    (zna_Larder_stands : NoAttr K c_Larder "stands")
    (zna_Larder_bars : NoAttr K c_Larder "bars")
    (zna_Larder_names : NoAttr K c_Larder "names")
    (ci_InRing : XCi K c_InRing f_InRing)
    (l_InRing : K.lookup f_InRing = some ⟨oc_InRing, od_InRing, .func (PySem.W.fnOf "__init__" "InRing.__init__" (defArgs s_InRing) (defBody s_InRing) (defScope s_InRing) .none kV_InRing dc_InRing pm_InRing an_InRing cd_InRing ct_InRing), sl_InRing⟩) (cc_InRing : PySem.W.codeIn K cd_InRing "InRing.__init__" = true) (k_InRing : PySem.W.keepIn K (.ref f_InRing) = true)
    : ∃ fd : FuncData, (∀ (s : Shared) (v : Value), BindsTo s fd ⟨[v], []⟩ [("_law_script", v)]) ∧ ∀ base : Heap, K.In base → base.Ns mainGlobals mg → FnOk l.prog w K mg base CX0 9 fa fd ["_law_script"] (spLaw K) := by
  have e := hfa.symm.trans (PySem.W.mg_of X G alaw)
  cases e
  have B : Bn K mg c_EmptyHeap c_InRing c_Larder c_NoAmount c_NoDish c_NoName c_NoNet c_NoNumber c_NoPack c_NoPlan c_NoRow c_NoStand c_NoStandIn c_NoStep c_StoveError c_TooFew c_TooMany c_Twice f_Larder_init f_Larder_learn f_Larder_part f_Larder_known f_Larder_held := ⟨Exists.intro _ <| PySem.W.mg_of X G zg_LETTERS, Exists.intro _ <| PySem.W.mg_of X G zg_MOST_LETTERS, Exists.intro _ <| PySem.W.mg_of X G zg_MOST_NAMES, PySem.W.mg_none_of X G zb_len, PySem.W.mg_none_of X G zb_isinstance, PySem.W.mg_none_of X G zb_str, PySem.W.mg_none_of X G zb_sorted, PySem.W.mg_none_of X G zb_list, PySem.W.mg_none_of X G zb_reversed, PySem.W.mg_none_of X G zb_range, PySem.W.mg_none_of X G zb_ValueError, PySem.W.mg_none_of X G zb_set, PySem.W.mg_none_of X G zb_int, PySem.W.mg_of X G zm_EmptyHeap, PySem.W.mg_of X G zm_InRing, PySem.W.mg_of X G zm_Larder, PySem.W.mg_of X G zm_NoAmount, PySem.W.mg_of X G zm_NoDish, PySem.W.mg_of X G zm_NoName, PySem.W.mg_of X G zm_NoNet, PySem.W.mg_of X G zm_NoNumber, PySem.W.mg_of X G zm_NoPack, PySem.W.mg_of X G zm_NoPlan, PySem.W.mg_of X G zm_NoRow, PySem.W.mg_of X G zm_NoStand, PySem.W.mg_of X G zm_NoStandIn, PySem.W.mg_of X G zm_NoStep, PySem.W.mg_of X G zm_StoveError, PySem.W.mg_of X G zm_TooFew, PySem.W.mg_of X G zm_TooMany, PySem.W.mg_of X G zm_Twice, zx_NoName, zi_NoName, zt_InRing, zt_NoName, zt_StoveError, zs_NoName_InRing, zs_NoName_NoName, zs_InRing_InRing, zs_NoName_StoveError, zk_NoName_StoveError, zk_NoName_ValueError, zk_InRing_StoveError, zk_InRing_ValueError, zk_NoName_InRing, zk_InRing_NoName, za_InRing, zn_InRing, zi_InRing, zka_NoName_1, zka_NoName_2, zka_InRing_1, zka_InRing_2, zcl_Larder, zmk_Larder, zme_Larder_part, zme_Larder_known, zme_Larder_held, zme_Larder_learn, zna_Larder_parts, zna_Larder_stands, zna_Larder_bars, zna_Larder_names⟩
  have Fis_name := funD_mk (st := sis_name) lis_name cis_name kis_name
  have Frefuse_no_names := funD_mk (st := srefuse_no_names) lrefuse_no_names crefuse_no_names krefuse_no_names
  have Fnames_ahead := funD_mk (st := snames_ahead) lnames_ahead cnames_ahead knames_ahead
  have Fchain_to := funD_mk (st := schain_to) lchain_to cchain_to kchain_to
  have Fchain_down := funD_mk (st := schain_down) lchain_down cchain_down kchain_down
  have Fall_inside := funD_mk (st := sall_inside) lall_inside call_inside kall_inside
  have FLarder_init := funD_mk (st := sLarder_init) lLarder_init cLarder_init kLarder_init
  have FLarder_learn := funD_mk (st := sLarder_learn) lLarder_learn cLarder_learn kLarder_learn
  have FLarder_part := funD_mk (st := sLarder_part) lLarder_part cLarder_part kLarder_part
  have FLarder_known := funD_mk (st := sLarder_known) lLarder_known cLarder_known kLarder_known
  have FLarder_held := funD_mk (st := sLarder_held) lLarder_held cLarder_held kLarder_held
  have F_law_cell_at := funD_mk (st := s_law_cell_at) l_law_cell_at c_law_cell_at k_law_cell_at
  have F_law_led_to := funD_mk (st := s_law_led_to) l_law_led_to c_law_led_to k_law_led_to
  have F_law_names := funD_mk (st := s_law_names) l_law_names c_law_names k_law_names
  have F_law_no_name := funD_mk (st := s_law_no_name) l_law_no_name c_law_no_name k_law_no_name
  have F_law_alone := funD_mk (st := s_law_alone) l_law_alone c_law_alone k_law_alone
  have F_law_told := funD_mk (st := s_law_told) l_law_told c_law_told k_law_told
  have F_law_held := funD_mk (st := s_law_held) l_law_held c_law_held k_law_held
  have F_law_ring := funD_mk (st := s_law_ring) l_law_ring c_law_ring k_law_ring
  have Flaw := funD_mk (st := slaw) llaw claw klaw
  have F_InRing := funD_mk (st := s_InRing) l_InRing cc_InRing k_InRing
  refine ⟨PySem.W.fnOf "law" "law" (defArgs slaw) (defBody slaw) (defScope slaw) .none kVlaw dclaw pmlaw anlaw cdlaw ctlaw, ?bind, fun base _ _ => ?ok⟩
  case bind => exact fun s v => .of_eq rfl
  case ok =>
    have I_InRing : DxI l.prog w K mg base 1 c_InRing ["self", "ring"] (spInit c_InRing "ring") := ⟨f_InRing, _, ok_InRing F_InRing B, ci_InRing, F_InRing.binds0 (ps := ["self", "ring"]) fun _ _ _ _ _ _ us hl => match us, hl with | [_, _], _ => rfl⟩
    have bis_name := Fis_name.binds0 (ps := ["thing"]) fun _ _ _ _ _ _ us hl => match us, hl with | [_], _ => rfl
    have Dis_name : Dx l.prog w K mg base CX0 1 "is_name" ["thing"] [] (spIsName K) := ⟨fis_name, _, okis_name Fis_name B , PySem.W.mg_of X G ais_name, kis_name, bis_name, ⟨[], bis_name, .nil⟩⟩
    have brefuse_no_names := Frefuse_no_names.binds0 (ps := ["things"]) fun _ _ _ _ _ _ us hl => match us, hl with | [_], _ => rfl
    have Xrefuse_no_names : Dx l.prog w K mg base (CX1 l.prog w) 2 "refuse_no_names" ["things"] [] (spRefX K c_NoName) := ⟨frefuse_no_names, _, okrefuse_no_names Frefuse_no_names B Dis_name, PySem.W.mg_of X G arefuse_no_names, krefuse_no_names, brefuse_no_names, ⟨[], brefuse_no_names, .nil⟩⟩
    have Drefuse_no_names : Dx l.prog w K mg base CX0 2 "refuse_no_names" ["things"] [] spRef := Xrefuse_no_names.calm (fun _ _ _ _ => ref_of)
    have bnames_ahead := Fnames_ahead.binds0 (ps := ["parts", "good"]) fun _ _ _ _ _ _ us hl => match us, hl with | [_, _], _ => rfl
    have Dnames_ahead : Dx l.prog w K mg base CX0 1 "names_ahead" ["parts", "good"] [] spAhead := ⟨fnames_ahead, _, oknames_ahead Fnames_ahead B , PySem.W.mg_of X G anames_ahead, knames_ahead, bnames_ahead, ⟨[], bnames_ahead, .nil⟩⟩
    have bchain_to := Fchain_to.binds0 (ps := ["ahead", "goal"]) fun _ _ _ _ _ _ us hl => match us, hl with | [_, _], _ => rfl
    have Dchain_to : Dx l.prog w K mg base CX0 1 "chain_to" ["ahead", "goal"] [] spTo := ⟨fchain_to, _, okchain_to Fchain_to B , PySem.W.mg_of X G achain_to, kchain_to, bchain_to, ⟨[], bchain_to, .nil⟩⟩
    have bchain_down := Fchain_down.binds0 (ps := ["parts", "good", "goals"]) fun _ _ _ _ _ _ us hl => match us, hl with | [_, _, _], _ => rfl
    have Dchain_down : Dx l.prog w K mg base CX0 2 "chain_down" ["parts", "good", "goals"] [] spWayDown := ⟨fchain_down, _, okchain_down Fchain_down B Dnames_ahead Dchain_to, PySem.W.mg_of X G achain_down, kchain_down, bchain_down, ⟨[], bchain_down, .nil⟩⟩
    have ball_inside := Fall_inside.binds0 (ps := ["parts", "good"]) fun _ _ _ _ _ _ us hl => match us, hl with | [_, _], _ => rfl
    have Dall_inside : Dx l.prog w K mg base CX0 2 "all_inside" ["parts", "good"] [] spInside := ⟨fall_inside, _, okall_inside Fall_inside B Dnames_ahead, PySem.W.mg_of X G aall_inside, kall_inside, ball_inside, ⟨[], ball_inside, .nil⟩⟩
    have bLarder_init := FLarder_init.binds0 (ps := ["self"]) fun _ _ _ _ _ _ us hl => match us, hl with | [_], _ => rfl
    have DLarder_init : DxM l.prog w K mg base CX0 1 f_Larder_init ["self"] [] (spLarder c_Larder) := ⟨_, okLarder_init FLarder_init B , bLarder_init, ⟨[], bLarder_init, .nil⟩⟩
    have bLarder_learn := FLarder_learn.binds0 (ps := ["self", "told"]) fun _ _ _ _ _ _ us hl => match us, hl with | [_, _], _ => rfl
    have DLarder_learn : DxM l.prog w K mg base CX0 1 f_Larder_learn ["self", "told"] [] (spLearn c_Larder) := ⟨_, okLarder_learn FLarder_learn B , bLarder_learn, ⟨[], bLarder_learn, .nil⟩⟩
    have bLarder_part := FLarder_part.binds0 (ps := ["self", "good", "other"]) fun _ _ _ _ _ _ us hl => match us, hl with | [_, _, _], _ => rfl
    have XLarder_part : DxM l.prog w K mg base (CX1 l.prog w) 3 f_Larder_part ["self", "good", "other"] [] (spPartX K c_Larder c_NoName c_InRing) := ⟨_, okLarder_part FLarder_part B Dchain_down DLarder_learn Xrefuse_no_names I_InRing, bLarder_part, ⟨[], bLarder_part, .nil⟩⟩
    have DLarder_part : DxM l.prog w K mg base CX0 3 f_Larder_part ["self", "good", "other"] [] spNoL := XLarder_part.calm (fun _ _ _ _ h => h.elim)
    have bLarder_known := FLarder_known.binds0 (ps := ["self"]) fun _ _ _ _ _ _ us hl => match us, hl with | [_], _ => rfl
    have DLarder_known : DxM l.prog w K mg base CX0 1 f_Larder_known ["self"] [] (spKnown c_Larder) := ⟨_, okLarder_known FLarder_known B , bLarder_known, ⟨[], bLarder_known, .nil⟩⟩
    have bLarder_held := FLarder_held.binds0 (ps := ["self", "good"]) fun _ _ _ _ _ _ us hl => match us, hl with | [_, _], _ => rfl
    have DLarder_held : DxM l.prog w K mg base CX0 3 f_Larder_held ["self", "good"] [] (spHeld c_Larder) := ⟨_, okLarder_held FLarder_held B Drefuse_no_names Dall_inside, bLarder_held, ⟨[], bLarder_held, .nil⟩⟩
    have b_law_cell_at := F_law_cell_at.binds0 (ps := ["_law_script", "_law_k"]) fun _ _ _ _ _ _ us hl => match us, hl with | [_, _], _ => rfl
    have D_law_cell_at : Dx l.prog w K mg base CX0 1 "_law_cell_at" ["_law_script", "_law_k"] [] (spCell K) := ⟨f_law_cell_at, _, ok_law_cell_at F_law_cell_at B , PySem.W.mg_of X G a_law_cell_at, k_law_cell_at, b_law_cell_at, ⟨[], b_law_cell_at, .nil⟩⟩
    have b_law_led_to := F_law_led_to.binds0 (ps := ["_law_pairs", "_law_good"]) fun _ _ _ _ _ _ us hl => match us, hl with | [_, _], _ => rfl
    have D_law_led_to : Dx l.prog w K mg base CX0 1 "_law_led_to" ["_law_pairs", "_law_good"] [] spLed := ⟨f_law_led_to, _, ok_law_led_to F_law_led_to B , PySem.W.mg_of X G a_law_led_to, k_law_led_to, b_law_led_to, ⟨[], b_law_led_to, .nil⟩⟩
    have b_law_names := F_law_names.binds0 (ps := ["_law_number", "_law_many"]) fun _ _ _ _ _ _ us hl => match us, hl with | [_, _], _ => rfl
    have D_law_names : Dx l.prog w K mg base CX0 1 "_law_names" ["_law_number", "_law_many"] [] spNames9 := ⟨f_law_names, _, ok_law_names F_law_names B , PySem.W.mg_of X G a_law_names, k_law_names, b_law_names, ⟨[], b_law_names, .nil⟩⟩
    have b_law_no_name := F_law_no_name.binds0 (ps := ["_law_number"]) fun _ _ _ _ _ _ us hl => match us, hl with | [_], _ => rfl
    have D_law_no_name : Dx l.prog w K mg base CX0 1 "_law_no_name" ["_law_number"] [] (spNoName K) := ⟨f_law_no_name, _, ok_law_no_name F_law_no_name B , PySem.W.mg_of X G a_law_no_name, k_law_no_name, b_law_no_name, ⟨[], b_law_no_name, .nil⟩⟩
    have b_law_alone := F_law_alone.binds0 (ps := ["_law_e"]) fun _ _ _ _ _ _ us hl => match us, hl with | [_], _ => rfl
    have H_law_alone : ∀ hd, DxH hd l.prog w K mg base 1 "_law_alone" ["_law_e"] (spAloneL c_NoName c_InRing) := fun hd => ⟨f_law_alone, _, ok_law_alone F_law_alone B , PySem.W.mg_of X G a_law_alone, k_law_alone, b_law_alone⟩
    have D_law_alone : Dx l.prog w K mg base CX0 1 "_law_alone" ["_law_e"] [] (spAloneL c_NoName c_InRing) := (H_law_alone none).calm
    have b_law_told := F_law_told.binds0 (ps := ["_law_larder", "_law_good", "_law_other"]) fun _ _ _ _ _ _ us hl => match us, hl with | [_, _, _], _ => rfl
    have D_law_told : Dx l.prog w K mg base CX0 4 "_law_told" ["_law_larder", "_law_good", "_law_other"] [] (spToldL K c_Larder) := ⟨f_law_told, _, ok_law_told F_law_told B XLarder_part H_law_alone, PySem.W.mg_of X G a_law_told, k_law_told, b_law_told, ⟨[], b_law_told, .nil⟩⟩
    have b_law_held := F_law_held.binds0 (ps := ["_law_larder", "_law_pairs", "_law_name"]) fun _ _ _ _ _ _ us hl => match us, hl with | [_, _, _], _ => rfl
    have D_law_held : Dx l.prog w K mg base CX0 4 "_law_held" ["_law_larder", "_law_pairs", "_law_name"] [] (spHeldSo c_Larder) := ⟨f_law_held, _, ok_law_held F_law_held B DLarder_held D_law_led_to, PySem.W.mg_of X G a_law_held, k_law_held, b_law_held, ⟨[], b_law_held, .nil⟩⟩
    have b_law_ring := F_law_ring.binds0 (ps := ["_law_ring_here", "_law_pairs", "_law_good", "_law_other"]) fun _ _ _ _ _ _ us hl => match us, hl with | [_, _, _, _], _ => rfl
    have D_law_ring : Dx l.prog w K mg base CX0 1 "_law_ring" ["_law_ring_here", "_law_pairs", "_law_good", "_law_other"] [] spRing := ⟨f_law_ring, _, ok_law_ring F_law_ring B , PySem.W.mg_of X G a_law_ring, k_law_ring, b_law_ring, ⟨[], b_law_ring, .nil⟩⟩
    exact oklaw Flaw B DLarder_init DLarder_known D_law_cell_at D_law_led_to D_law_names D_law_no_name D_law_told D_law_held D_law_ring
theorem walk {l : PySem.W.OpenLaw} {q : Program} {loose : List Str} {XP : (Str → Option Value) → Heap → Prop} {YP : World → Heap → Prop} {d : DefRec} {K : Params → PySem.W.Frag} (hn : l.most = some 63) (hdf : d.params.defaults = [])
    (hY : ∀ (w : World) (h : Heap), YP w h → (K w.params).In h)
    (F : ∀ (w : World) (mg : Str → Option Value) (fa : Addr) (h : Heap), (K w.params).In h → h.Ns mainGlobals mg → mg d.name = some (.ref fa) →
      ∃ fd : FuncData, (∀ (s : Shared) (u : Value), BindsTo s fd ⟨[u], []⟩ [("_law_script", u)]) ∧ ∀ base : Heap, (K w.params).In base → base.Ns mainGlobals mg → FnOk l.prog w (K w.params) mg base CX0 9 fa fd ["_law_script"] (spLaw (K w.params))) :
    PySem.W.WalkO q loose XP YP l.row.toRowW d [] (fun f vs => PySem.call f vs) :=
  L2.walk_of (n := 63) (k := 9) (x := "_law_script") (CX := fun _ => CX0) (sp := fun w => spLaw (K w.params)) hn (by decide) hdf ⟨rfl, by decide, by decide⟩ hY F (fun _ _ a ns hl _ hS => ⟨a, ns, rfl, hS, hl, fun _ => rfl⟩) fun _ _ _ _ _ z => z
end Lk23
namespace Lk23
open PySem PySem.W PyProof.Rows
def qv : Program := { PySem.Challenge.pw_stovework_k23_rings_refused with main := { PySem.Challenge.pw_stovework_k23_rings_refused.main with body := ([0, 2, 3, 4, 5, 6, 7, 8, 9, 10, 11, 12, 13, 14, 15, 16, 17, 18, 20, 21, 22, 24, 25, 26, 27, 29, 30, 31, 33, 34, 35, 36, 37, 38, 39, 40, 41] : List Nat).filterMap fun i => PySem.Challenge.pw_stovework_k23_rings_refused.main.body[i]? } }
def lo : List Str := []
/-- what the head asks of the text, but the run of its top -/
theorem head {α : Type} {Yf : Shared → α} {Ya : World → α} {YP : World → Heap → Prop} {d : DefRec} {kwd : List (Str × Expr)} (left : LeftO PySem.Challenge.pw_stovework_k23_rings_refused qv lo (fun s => xlAt qv [] s && recOk [] s) Yf Ya 9996)
    (hY : ∀ w s, Yf s = Ya w → YP w s.heap) (hYk : ∀ w h h', YP w h → (∀ b o, h.get? b = some o → h'.get? b = some o) → YP w h') (hd : defOf qv PySem.Challenge.rw_stovework_k23_rings_refused.row.name = some (d, kwd))
    (hp : PySem.Challenge.rw_stovework_k23_rings_refused.row.prog.theDef PySem.Challenge.rw_stovework_k23_rings_refused.row.name = some (d.params, d.body, d.scope)) (hk : kwWritten? d.params.kwonlyargs d.params.kw_defaults = some kwd)
    (said : PySem.Challenge.rw_stovework_k23_rings_refused.row.wellSaid = true) (hw : PySem.Challenge.rw_stovework_k23_rings_refused.row.toRowW.promised) (call : WalkO qv lo (XL qv []) YP PySem.Challenge.rw_stovework_k23_rings_refused.row.toRowW d kwd fun f vs => PySem.call f vs) : PySem.Challenge.rw_stovework_k23_rings_refused.row.Holds :=
  holds_open left hY hYk (fun s e => xl_of s (Bool.and_eq_true_iff.mp e).1) XL.keeps hd hp hk (fun s e => recFacts_of (Bool.and_eq_true_iff.mp e).2) rfl said (by decide +kernel) ⟨rfl, rfl, rfl, rfl, rfl, by decide +kernel⟩ hw call
end Lk23
local macro_rules | `(tactic| o_head $H) => `(tactic| refine Lk23.head (Yf := PySem.W.Hook.obs $H) (Ya := PySem.W.Hook.val $H) (YP := PySem.W.Hook.says $H) ?hl (PySem.W.Hook.of $H) (PySem.W.Hook.keeps $H) (by rfl) (by rfl) (by rfl) (by assumption) ?hw ?hc)
open PySem PySem.W PyProof.Rows
set_option maxRecDepth 100000 in
set_option maxHeartbeats 0 in
theorem PySem.Challenge.cw_stovework_k23_rings_refused_holds : PySem.Challenge.rw_stovework_k23_rings_refused.Holds := by
  w_on; o_law; k_head
  (case hl =>
    refine Ht.left_of ?_
    intro w
    rw [PySem.W.Fast.te10274390034422433532, PySem.W.Fast.te14289696077712309145, PySem.W.Fast.te4187177175401517315, PySem.W.Fast.te6613529449190102663, PySem.W.Fast.te10156331382660048174, PySem.W.Fast.te11892475500146522536, PySem.W.Fast.te14364793385576792824]
    kernel_rfl)
  (case hw => w_witness2)
  k_fill
  refine Lk23.walk (l := PySem.Challenge.rw_stovework_k23_rings_refused) rfl rfl (fun w h Y => PySem.W.kIn_of Y) ?F
  case F =>
    intro w mg fa h KX G hmg
    refine' Lk23.all_mk KX G hmg ?h0 ?h1 ?h2 ?h3 ?h4 ?h5 ?h6 ?h7 ?h8 ?h9 ?h10 ?h11 ?h12 ?h13 ?h14 ?h15 ?h16 ?h17 ?h18 ?h19 ?h20 ?h21 ?h22 ?h23 ?h24 ?h25 ?h26 ?h27 ?h28 ?h29 ?h30 ?h31 ?h32 ?h33 ?h34 ?h35 ?h36 ?h37 ?h38 ?h39 ?h40 ?h41 ?h42 ?h43 ?h44 ?h45 ?h46 ?h47 ?h48 ?h49 ?h50 ?h51 ?h52 ?h53 ?h54 ?h55 ?h56 ?h57 ?h58 ?h59 ?h60 ?h61 ?h62 ?h63 ?h64 ?h65 ?h66 ?h67 ?h68 ?h69 ?h70 ?h71 ?h72 ?h73 ?h74 ?h75 ?h76 ?h77 ?h78 ?h79 ?h80 ?h81 ?h82 ?h83 ?h84 ?h85 ?h86 ?h87 ?h88 ?h89 ?h90 ?h91 ?h92 ?h93 ?h94 ?h95 ?h96 ?h97 ?h98 ?h99 ?h100 ?h101 ?h102 ?h103 ?h104 ?h105 ?h106 ?h107 ?h108 ?h109 ?h110 ?h111 ?h112 ?h113 ?h114 ?h115 ?h116 ?h117 ?h118 ?h119 ?h120 ?h121 ?h122 ?h123 ?h124 ?h125 ?h126 ?h127 ?h128 ?h129 ?h130 ?h131 ?h132 ?h133 ?h134 ?h135 ?h136 ?h137 ?h138 ?h139 ?h140 ?h141 ?h142 ?h143 ?h144 ?h145 ?h146
    (case h0 => k_is)
    (case h1 => k_is)
    (case h2 => k_is)
    (case h3 => k_is)
    (case h4 => k_is)
    (case h5 => k_is)
    (case h6 => k_is)
    (case h7 => k_is)
    (case h8 => k_is)
    (case h9 => k_is)
    (case h10 => k_is)
    (case h11 => k_is)
    (case h12 => k_is)
    (case h13 => k_is)
    (case h14 => k_is)
    (case h15 => k_is)
    (case h16 => k_is)
    (case h17 => k_is)
    (case h18 => k_is)
    (case h19 => k_is)
    (case h20 => k_is)
    (case h21 => k_is)
    (case h22 => k_is)
    (case h23 => k_is)
    (case h24 => k_is)
    (case h25 => k_is)
    (case h26 => k_is)
    (case h27 => k_is)
    (case h28 => k_is)
    (case h29 => k_is)
    (case h30 => k_is)
    (case h31 => k_is)
    (case h32 => k_is)
    (case h33 => k_is)
    (case h34 => k_is)
    (case h35 => k_is)
    (case h36 => k_is)
    (case h37 => k_is)
    (case h38 => k_is)
    (case h39 => k_is)
    (case h40 => k_is)
    (case h41 => k_is)
    (case h42 => k_is)
    (case h43 => k_is)
    (case h44 => k_is)
    (case h45 => k_is)
    (case h46 => k_is)
    (case h47 => k_is)
    (case h48 => k_is)
    (case h49 => k_is)
    (case h50 => k_is)
    (case h51 => k_is)
    (case h52 => k_is)
    (case h53 => k_is)
    (case h54 => k_is)
    (case h55 => k_is)
    (case h56 => k_is)
    (case h57 => k_is)
    (case h58 => k_is)
    (case h59 => k_is)
    (case h60 => k_is)
    (case h61 => k_is)
    (case h62 => k_is)
    (case h63 => k_is)
    (case h64 => k_is)
    (case h65 => k_is)
    (case h66 => k_is)
    (case h67 => k_is)
    (case h68 => k_is)
    (case h69 => k_is)
    (case h70 => k_is)
    (case h71 => k_is)
    (case h72 => k_is)
    (case h73 => k_is)
    (case h74 => k_is)
    (case h75 => k_is)
    (case h76 => k_is)
    (case h77 => k_is)
    (case h78 => k_is)
    (case h79 => k_is)
    (case h80 => k_is)
    (case h81 => k_is)
    (case h82 => k_is)
    (case h83 => k_is)
    (case h84 => k_is)
    (case h85 => k_is)
    (case h86 => k_is)
    (case h87 => k_is)
    (case h88 => k_is)
    (case h89 => k_is)
    (case h90 => k_is)
    (case h91 => k_is)
    (case h92 => k_is)
    (case h93 => k_is)
    (case h94 => k_is)
    (case h95 => k_is)
    (case h96 => k_is)
    (case h97 => k_is)
    (case h98 => k_is)
    (case h99 => k_is)
    (case h100 => k_is)
    (case h101 => k_is)
    (case h102 => k_is)
    (case h103 => k_is)
    (case h104 => k_is)
    (case h105 => k_is)
    (case h106 => k_is)
    (case h107 => k_is)
    (case h108 => k_is)
    (case h109 => k_is)
    (case h110 => k_is)
    (case h111 => kernel_rfl)
    (case h112 => exact ⟨⟨by k_is, by k_is, by k_is⟩, by kernel_rfl, by k_is, by k_is, by k_is, by k_is⟩)
    (case h113 => exact ⟨by k_is, by kernel_rfl, by k_is⟩)
    (case h114 => exact ⟨by k_is, by kernel_rfl, by k_is⟩)
    (case h115 => exact ⟨by k_is, by kernel_rfl, by k_is⟩)
    (case h116 => k_is)
    (case h117 => k_is)
    (case h118 => k_is)
    (case h119 => k_is)
    (case h120 => kernel_rfl)
    (case h121 => kernel_rfl)
    (case h122 => kernel_rfl)
    (case h123 => kernel_rfl)
    (case h124 => kernel_rfl)
    (case h125 => kernel_rfl)
    (case h126 => exact ⟨by k_is, by kernel_rfl, by kernel_rfl, by k_is⟩)
    (case h127 => k_is)
    (case h128 => exact ⟨⟨by k_is, by k_is, by k_is⟩, by kernel_rfl, by k_is, by k_is, by k_is, by k_is⟩)
    (case h129 => kernel_rfl)
    (case h130 => kernel_rfl)
    (case h131 => kernel_rfl)
    (case h132 => kernel_rfl)
    (case h133 => exact ⟨by k_is, by k_is, by k_is, by k_is⟩)
    (case h134 => exact ⟨by k_is, by k_is, by k_is, by k_is⟩)
    (case h135 => exact ⟨by k_is, by k_is, by k_is⟩)
    (case h136 => exact ⟨by k_is, by k_is, by k_is⟩)
    (case h137 => exact ⟨by k_is, by k_is, by k_is⟩)
    (case h138 => exact ⟨by k_is, by k_is, by k_is⟩)
    (case h139 => unfold L2.NoAttr; k_is)
    (case h140 => unfold L2.NoAttr; k_is)
    (case h141 => unfold L2.NoAttr; k_is)
    (case h142 => unfold L2.NoAttr; k_is)
    (case h143 => exact ⟨⟨_, _, _, _, _, _, _, _, _, _, _, _, _, _, _, _, by k_is, by kernel_rfl, by k_is, by kernel_rfl⟩, by k_is, by k_is⟩)
    (case h144 => k_is)
    (case h145 => k_is)
    (case h146 => k_is)
