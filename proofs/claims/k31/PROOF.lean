import PyProof.Rows.All
import Wide.All
import OpenK.AllK
import Wide.FinOn
import Lean
import PyProof.EqAt
import PyProof.EqKinds
import PyProof.TupleCall
import PyProof.NeKinds
import PyProof.StationsW
import PyProof.RulesAs
import PyProof.ExcArgsOwn
import PyProof.CompFree
import PyProof.ExcInit
import PyProof.ConsumeWalk
import PyProof.Rows.SeqGen
import PyProof.StrWalks
import PyProof.SliceStr2
import PyProof.MeetsStr
import KE.KIntText
import PyProof.Rows.FStr
import PyProof.StrCalls6
import PyProof.StrBlockL
import PyProof.ToksMono
import PyProof.WalkInts
import PyProof.Rows.MinMaxN
import PyProof.StrLawsReplace
import PyProof.StrLawsTight
import PyProof.Rows.StrLawsPart
import PyProof.DictWalks
import KE.KEqDict
import KE.KDictLaws
import KE.KRevIter
import PyProof.ListCopy
import PyProof.CollectIter
import PyProof.Rows.SetFrom
import PyProof.Rows.SortShellK
import PyProof.Rows.SortStr
import PyProof.Rows.SortWalk
import KE.KDictSum
import KE.KSortTup
import PyProof.TupleOfSeq
import PyProof.Rows.SortRuns
import PySem.Challenge.RW_stovework_k31_lengths_by_kind
set_option Elab.async false
set_option linter.all false
set_option maxRecDepth 100000
/-! THE HAND LAYER, for ints, bools, texts, own classes, LISTS and tuples (index, slices, in, append, pop ..), calls, loops. Paste it whole ahead of your own text; what your proof does not reach may be deleted. -/
namespace L2
open PySem PySem.Spec PyProof.Rows

/-- a key: an int or a str -/
abbrev Key := Sum Int Str
def keyIs : Key → Value → Bool
  | .inl k, v => Value.isInt k v
  | .inr x, v => Value.isStrOf x v
def keyH (w : World) : Key → Int
  | .inl k => hashInt k
  | .inr x => hashStr w x
theorem keyIs_shape : ∀ {k : Key} {v : Value}, keyIs k v = true → (∃ i t, k = Sum.inl i ∧ v = Value.int i t) ∨ (∃ x t, k = Sum.inr x ∧ v = Value.str x t)
  | .inl i, v, h => by
    obtain ⟨t, e⟩ := Value.isInt_shape (k := i) (v := v) h
    exact .inl ⟨i, t, rfl, e⟩
  | .inr x, v, h => by
    obtain ⟨t, e⟩ := Value.isStrOf_shape (x := x) (v := v) h
    exact .inr ⟨x, t, rfl, e⟩
theorem key_ll (a b : Int) : decide ((Sum.inl a : Key) = Sum.inl b) = (a == b) := by
  by_cases e : a = b
  · subst e; simp
  · have h : ¬ (Sum.inl a : Key) = Sum.inl b := fun q => e (Sum.inl.inj q)
    rw [decide_eq_false h]
    exact (beq_eq_false_iff_ne.mpr e).symm
theorem key_rr (a b : Str) : decide ((Sum.inr a : Key) = Sum.inr b) = decide (a = b) := by
  by_cases e : a = b
  · subst e; simp
  · have h : ¬ (Sum.inr a : Key) = Sum.inr b := fun q => e (Sum.inr.inj q)
    rw [decide_eq_false h, decide_eq_false e]
theorem key_lr (a : Int) (b : Str) : decide ((Sum.inl a : Key) = Sum.inr b) = false := decide_eq_false (fun q => nomatch q)
theorem key_rl (a : Str) (b : Int) : decide ((Sum.inr a : Key) = Sum.inl b) = false := decide_eq_false (fun q => nomatch q)

def mixKind (prog : Program) (w : World) : PySem.KeyKind prog w Key where
  is := keyIs
  hash := keyH w
  inj := fun v a b ha hb => by
    rcases keyIs_shape ha with ⟨i, t, rfl, rfl⟩ | ⟨x, t, rfl, rfl⟩
    · rcases keyIs_shape hb with ⟨j, u, rfl, e⟩ | ⟨y, u, rfl, e⟩
      · injection e with e1 _; rw [e1]
      · exact nomatch e
    · rcases keyIs_shape hb with ⟨j, u, rfl, e⟩ | ⟨y, u, rfl, e⟩
      · exact nomatch e
      · injection e with e1 _; rw [e1]
  byValue := fun k v h => by
    rcases keyIs_shape h with ⟨i, t, rfl, rfl⟩ | ⟨x, t, rfl, rfl⟩ <;> rfl
  pyHash := fun hv h => by
    rcases keyIs_shape hv with ⟨i, t, rfl, rfl⟩ | ⟨x, t, rfl, rfl⟩
    · exact wpAny_pyHash_int h
    · exact wpAny_pyHash_str h
  eqBool := fun hu hv h => by
    rcases keyIs_shape hu with ⟨i, t, rfl, rfl⟩ | ⟨x, t, rfl, rfl⟩
    · rcases keyIs_shape hv with ⟨j, u, rfl, rfl⟩ | ⟨y, u, rfl, rfl⟩
      · rw [key_ll] at h; exact wpAny_eqBool_int h
      · rw [key_lr] at h; exact SeqAt.EqAt.int_str i t y u _ _ _ _ h
    · rcases keyIs_shape hv with ⟨j, u, rfl, rfl⟩ | ⟨y, u, rfl, rfl⟩
      · rw [key_rl] at h; exact SeqAt.EqAt.str_int x t j u _ _ _ _ h
      · rw [key_rr] at h; exact wpAny_eqBool_str h
  «strs» := fun k x t v h => by
    rcases keyIs_shape h with ⟨i, u, rfl, e⟩ | ⟨y, u, rfl, e⟩
    · exact nomatch e
    · injection e with e1 _
      subst e1
      cases v <;> rfl

end L2

namespace L2
open PySem PySem.Spec PyProof.Rows

/-- a value, without the heap -/
inductive V where
  | non | bl (b : Bool) | int (i : Int) | str (x : Str) | byt (b : Array UInt8) | flt (b : UInt64) | ref (a : Addr) | ty (n : String)
  deriving DecidableEq

def RelV : V → Value → Prop
  | .non, u => u = Value.none
  | .bl b, u => u = Value.bool b
  | .int i, u => ∃ t, u = Value.int i t
  | .str x, u => ∃ t, u = Value.str x t
  | .byt b, u => ∃ t, u = Value.bytes b t
  | .flt b, u => ∃ t, u = Value.float b t
  | .ref a, u => u = Value.ref a
  | .ty n, u => u = Value.type n

abbrev Vals : List V → List Value → Prop := Paired RelV
theorem Vals.length {xs : List V} {us : List Value} (r : Vals xs us) : xs.length = us.length := Paired.length r
theorem Vals.get : ∀ {xs : List V} {us : List Value} {i : Nat} {x : V}, Vals xs us → xs[i]? = some x → ∃ u, us[i]? = some u ∧ RelV x u
  | _, _, _, _, .nil, e => by simp at e
  | _, _, 0, _, .cons r _, e => by simp at e; subst e; exact ⟨_, rfl, r⟩
  | _, _, i + 1, x, .cons _ t, e => by
    obtain ⟨u, h1, h2⟩ := Vals.get (i := i) (x := x) t (by simpa using e)
    exact ⟨u, by simpa using h1, h2⟩
theorem Vals.set {x : V} {u : Value} (r : RelV x u) : ∀ {xs : List V} {us : List Value} (i : Nat), Vals xs us → Vals (xs.set i x) (us.set i u)
  | _, _, _, .nil => .nil
  | _, _, 0, .cons _ t => .cons r t
  | _, _, i + 1, .cons q t => .cons q (Vals.set r i t)
theorem Vals.append : ∀ {xs ys : List V} {us ws : List Value}, Vals xs us → Vals ys ws → Vals (xs ++ ys) (us ++ ws)
  | _, _, _, _, .nil, s => s
  | _, _, _, _, .cons r t, s => .cons r (Vals.append t s)
theorem Vals.take : ∀ {xs : List V} {us : List Value} (n : Nat), Vals xs us → Vals (xs.take n) (us.take n)
  | _, _, 0, _ => .nil
  | _, _, _ + 1, .nil => .nil
  | _, _, n + 1, .cons r t => .cons r (Vals.take n t)
theorem Vals.drop : ∀ {xs : List V} {us : List Value} (n : Nat), Vals xs us → Vals (xs.drop n) (us.drop n)
  | _, _, 0, r => r
  | _, _, _ + 1, .nil => .nil
  | _, _, n + 1, .cons _ t => Vals.drop n t
def RelO : Option V → Option Value → Prop
  | some v, some u => RelV v u
  | none, none => True
  | _, _ => False
def KV {κ : Type} : List (κ × V) → List (κ × Value) → Prop := Paired fun (p : κ × V) (q : κ × Value) => p.1 = q.1 ∧ RelV p.2 q.2

/-- a key of a dict (00_mix): an int or a text -/
def kV : Key → V
  | .inl i => .int i
  | .inr x => .str x

/-- what stands at a tracked address -/
inductive HO where
  /-- a list -/
  | lst (xs : List V)
  /-- a tuple (never changes) -/
  | tup (xs : List V)
  /-- a dict whose keys are ints and texts; one whose keys are tuples of ints and texts (the empty one is both) -/
  | dK (kvs : List (Key × V)) | dT (kvs : List (List Key × V))
  /-- a set of ints: its members, its size -/
  | set (S : Int → Bool) (n : Nat)
  /-- an instance of the class at C, its dict at dx, its attributes -/
  | ins (C dx : Addr) (fs : List (Str × V))
  /-- the dict of the instance at x -/
  | own (x : Addr)
  /-- the dict of an exception -/
  | xd (fs : List (Str × V))
  /-- a bound method, f of x -/
  | met (f x : Addr)
  /-- a range object lo, lo + 1, .. below hi -/
  | rng (lo hi : Int)
  /-- a thing that is known to the object (the script; a dict while a loop walks it): read, never written while it is so -/
  | frz (o : Obj) (u : HO)
  /-- a code object's table -/
  | tbl (ps : Array Value)
  /-- any other thing, by what is true of its one object (a def of one's own: SetO a S n := HO.ext fun h => ..) -/
  | ext (φ : Heap → Prop)

abbrev Hp := Addr → Option HO
def upd (H : Hp) (a : Addr) (o : HO) : Hp := fun b => if b = a then some o else H b
theorem upd_same {H : Hp} {a : Addr} {o : HO} : upd H a o a = some o := by unfold upd; rw [if_pos rfl]
theorem upd_ne {H : Hp} {a b : Addr} {o : HO} (h : b ≠ a) : upd H a o b = H b := by unfold upd; rw [if_neg h]
theorem ne_of_none {H : Hp} {a b : Addr} {o : HO} (h : H a = some o) (h' : H b = none) : a ≠ b := by
  intro e; subst e; rw [h] at h'; cases h'

section
variable (P : Program) (w : World)
def ObjOk (H : Hp) (h : Heap) (a : Addr) : HO → Prop
  | .lst xs => xs.length ≤ sizeLine ∧ ∃ (its : List Value) (n : Nat), Vals xs its ∧ h.get? a = some { cls := .type "list", data := .seq its.toArray n }
  | .tup xs => xs.length ≤ sizeLine ∧ ∃ its : List Value, Vals xs its ∧ IsTup h a its.toArray
  | .dK kvs => kvs.length ≤ sizeLine ∧ (a == sysModules) = false ∧ ∃ vs, KV kvs vs ∧ h.DictOf (mixKind P w) a vs
  | .dT kvs => kvs.length ≤ sizeLine ∧ (a == sysModules) = false ∧ ∃ xs : List (List Key × Addr × Value),
      Paired (fun (p : List Key × V) (q : List Key × Addr × Value) => p.1 = q.1 ∧ H q.2.1 = some (.tup (p.1.map kV)) ∧ RelV p.2 q.2.2) kvs xs ∧
      ∃ o es ep, h.get? a = some o ∧ o.ExactDict ∧ o.data = .dict es ep ∧ es.toList = xs.map (entryOfKey (tupleKind (mixKind P w))) ∧ (xs.map (·.1)).Nodup
  | .set S n => h.SetOf (intKind P w) a S n
  | .ins C dx fs => H dx = some (.own a) ∧ fs.length ≤ 1000 ∧ dx ≠ a ∧ h.get? a = some (PySem.W.instObj C dx) ∧
      ∃ mA, h.Ns1 dx mA ∧ (∀ f, RelO (fs.lookup f) (mA f)) ∧ PySem.Within mA (fs.map (·.1))
  | .own _ => ∃ o, h.get? a = some o
  | .xd fs => ∃ mA, h.Ns1 a mA ∧ ∀ f, RelO (fs.lookup f) (mA f)
  | .rng lo hi => ∃ t u v, h.get? a = some { cls := .type "range", data := .fields #[.int lo t, .int hi u, .int 1 v] }
  | .frz o u => h.get? a = some o ∧ ObjOk H h a u
  | .tbl ps => h.get? a = some { cls := .none, data := .fields ps }
  | .met f x => h.get? a = some (PySem.W.methodObj (.ref f) (.ref x))
  | .ext φ => φ h ∧ (∃ o, h.get? a = some o) ∧ ∀ h1 h2 : Heap, φ h1 → (∀ o, h1.get? a = some o → h2.get? a = some o) → φ h2
/-- the abstract heap is held -/
def HOk (H : Hp) (h : Heap) : Prop := ∀ a o, H a = some o → ObjOk P w H h a o
end

section
variable {P : Program} {w : World} {H H' : Hp} {h h' : Heap} {a : Addr} {o : HO}
theorem ObjOk.lt (x : ObjOk P w H h a o) : a < h.objs.size := by
  cases o with
  | lst xs => obtain ⟨_, _, _, _, e⟩ := x; exact Heap.lt_size e
  | tup xs => obtain ⟨_, _, _, p⟩ := x; exact p.lt
  | dK kvs => obtain ⟨_, _, _, _, o, _, _, e, _⟩ := x; exact Heap.lt_size e
  | dT kvs => obtain ⟨_, _, _, _, o, _, _, e, _⟩ := x; exact Heap.lt_size e
  | set S n => obtain ⟨o, _, _, _, e, _⟩ := x; exact Heap.lt_size e
  | ins C dx fs => obtain ⟨_, _, _, e, _⟩ := x; exact Heap.lt_size e
  | own y => obtain ⟨_, e⟩ := x; exact Heap.lt_size e
  | xd fs => obtain ⟨_, ⟨_, _, _, e, _⟩, _⟩ := x; exact Heap.lt_size e
  | rng lo hi => obtain ⟨_, _, _, e⟩ := x; exact Heap.lt_size e
  | frz ob u => obtain ⟨e, _⟩ := x; exact Heap.lt_size e
  | tbl ps => exact Heap.lt_size (show h.get? a = some _ from x)
  | met f y => exact Heap.lt_size (show h.get? a = some _ from x)
  | ext φ => obtain ⟨_, ⟨_, e⟩, _⟩ := x; exact Heap.lt_size e
theorem Paired.mapP {α β : Type} {F G : α → β → Prop} : ∀ {l₁ : List α} {l₂ : List β}, Paired F l₁ l₂ → (∀ a b, F a b → G a b) → Paired G l₁ l₂
  | _, _, .nil, _ => .nil
  | _, _, .cons r t, f => .cons (f _ _ r) (Paired.mapP t f)
/-- what an object's description leans on: its own object, its own dict, the tuples -/
theorem ObjOk.stay (x : ObjOk P w H h a o) (k : ∀ b u, (b = a ∨ H b = some (.own a)) → h.get? b = some u → h'.get? b = some u)
    (ho : ∀ b, H b = some (.own a) → H' b = some (.own a)) (ht : ∀ b xs, H b = some (.tup xs) → H' b = some (.tup xs)) : ObjOk P w H' h' a o := by
  induction o with
  | lst xs => obtain ⟨z, its, n, r, e⟩ := x; exact ⟨z, its, n, r, k _ _ (.inl rfl) e⟩
  | tup xs => obtain ⟨z, its, r, ob, e, c⟩ := x; exact ⟨z, its, r, ob, k _ _ (.inl rfl) e, c⟩
  | dK kvs => obtain ⟨z, y, vs, r, ob, es, ep, e, c⟩ := x; exact ⟨z, y, vs, r, ob, es, ep, k _ _ (.inl rfl) e, c⟩
  | dT kvs =>
    obtain ⟨z, y, xs, r, ob, es, ep, e, c⟩ := x
    exact ⟨z, y, xs, Paired.mapP r fun p q z => ⟨z.1, ht _ _ z.2.1, z.2.2⟩, ob, es, ep, k _ _ (.inl rfl) e, c⟩
  | set S n => obtain ⟨ob, es, ep, t, e, c⟩ := x; exact ⟨ob, es, ep, t, k _ _ (.inl rfl) e, c⟩
  | ins C dx fs =>
    obtain ⟨d, z, ne, e, mA, ⟨od, es, ep, e2, c⟩, r⟩ := x
    exact ⟨ho _ d, z, ne, k _ _ (.inl rfl) e, mA, ⟨od, es, ep, k _ _ (.inr d) e2, c⟩, r⟩
  | own y => obtain ⟨ob, e⟩ := x; exact ⟨ob, k _ _ (.inl rfl) e⟩
  | xd fs => obtain ⟨mA, ⟨od, es, ep, e, c⟩, r⟩ := x; exact ⟨mA, ⟨od, es, ep, k _ _ (.inl rfl) e, c⟩, r⟩
  | rng lo hi => obtain ⟨t, u, v, e⟩ := x; exact ⟨t, u, v, k _ _ (.inl rfl) e⟩
  | frz ob u ih => obtain ⟨e, q⟩ := x; exact ⟨k _ _ (.inl rfl) e, ih q⟩
  | tbl ps =>
    have e : h.get? a = some { cls := .none, data := .fields ps } := x
    show h'.get? a = some { cls := .none, data := .fields ps }
    exact k a _ (.inl rfl) e
  | met f y =>
    have e : h.get? a = some (PySem.W.methodObj (.ref f) (.ref y)) := x
    show h'.get? a = some (PySem.W.methodObj (.ref f) (.ref y))
    exact k a _ (.inl rfl) e
  | ext φ => obtain ⟨p, ⟨o, e⟩, st⟩ := x; exact ⟨st _ _ p fun o q => k _ _ (.inl rfl) q, ⟨o, k _ _ (.inl rfl) e⟩, st⟩
theorem HOk.lt (x : HOk P w H h) (e : H a = some o) : a < h.objs.size := (x a o e).lt
theorem HOk.fresh (x : HOk P w H h) (e : h.objs.size ≤ a) : H a = none := by
  cases q : H a with
  | none => rfl
  | some u => exact absurd (Nat.lt_of_lt_of_le (x.lt q) e) (Nat.lt_irrefl _)
/-- every object of the heap is kept -/
theorem HOk.kept (x : HOk P w H h) (k : ∀ b u, h.get? b = some u → h'.get? b = some u) : HOk P w H h' := fun a o e =>
  (x a o e).stay (fun b u _ q => k b u q) (fun _ q => q) fun _ _ q => q
/-- a new object is laid and tracked -/
theorem HOk.laid (x : HOk P w H h) (k : ∀ b u, h.get? b = some u → h'.get? b = some u) (hp : h.objs.size ≤ a) (new : ObjOk P w (upd H a o) h' a o) : HOk P w (upd H a o) h' := fun b u e => by
  have hn := x.fresh hp
  by_cases hb : b = a
  · subst hb; rw [upd_same] at e; cases e; exact new
  · rw [upd_ne hb] at e
    exact (x b u e).stay (fun c v _ q => k c v q) (fun c q => by rw [upd_ne (ne_of_none q hn)]; exact q) fun c xs q => by rw [upd_ne (ne_of_none q hn)]; exact q
end

/-- what may be read as u: it is u, or a known u -/
def Rd (H : Hp) (a : Addr) (u : HO) : Prop := H a = some u ∨ ∃ o, H a = some (.frz o u)
theorem Rd.ok {P : Program} {w : World} {H : Hp} {h : Heap} {a : Addr} {u : HO} (r : Rd H a u) (x : HOk P w H h) : ObjOk P w H h a u := by
  rcases r with r | ⟨o, r⟩
  · exact x a u r
  · obtain ⟨_, q⟩ := x a _ r
    exact q
/-- what may be written -/
def Mut : Option HO → Prop
  | some (.lst _) => True
  | some (.dK _) => True
  | some (.dT _) => True
  | some (.set _ _) => True
  | some (.ins _ _ _) => True
  | some (.ext _) => True
  | _ => False
section
variable {P : Program} {w : World} {H : Hp} {h h' : Heap} {x e : Addr} {o' : HO}
/-- the object at e is changed: x itself, or the dict of the instance x -/
theorem HOk.write (ok : HOk P w H h) (mu : Mut (H x)) (he : e = x ∨ H e = some (.own x)) (k : ∀ b u, b ≠ e → h.get? b = some u → h'.get? b = some u) (heo : ∃ u, h'.get? e = some u)
    (new : ObjOk P w (upd H x o') h' x o') : HOk P w (upd H x o') h' := fun b u q => by
  have nown : ∀ c y, H c = some (.own y) → c ≠ x := fun c y r z => by subst z; rw [r] at mu; exact mu
  have ntup : ∀ c xs, H c = some (.tup xs) → c ≠ x := fun c xs r z => by subst z; rw [r] at mu; exact mu
  by_cases hb : b = x
  · subst hb; rw [upd_same] at q; cases q; exact new
  · rw [upd_ne hb] at q
    by_cases hbe : b = e
    · have q' : H b = some (.own x) := by
        rcases he with z | z
        · exact absurd (hbe.trans z) hb
        · rw [hbe]; exact z
      rw [q] at q'; cases q'
      obtain ⟨v, hv⟩ := heo
      exact ⟨v, by rw [hbe]; exact hv⟩
    · refine (ok b u q).stay (fun c v hc r => k c v ?_ r) (fun c r => by rw [upd_ne (nown c b r)]; exact r) fun c xs r => by rw [upd_ne (ntup c xs r)]; exact r
      rcases hc with rfl | hc
      · exact hbe
      · rintro rfl
        rcases he with z | z
        · exact nown c b hc z
        · rw [hc] at z; cases z; exact hb rfl
end

/-! ### kept unless tracked; of the frames at fs (the callers') the slots may change (an exception that passes writes there); of the records at ex (iterators) nothing is said -/
structure Un (fs ex : List Addr) (H H' : Hp) (h h' : Heap) : Prop where
  keep : ∀ b o, h.get? b = some o → H b = none → b ∉ fs → b ∉ ex → h'.get? b = some o
  slot : ∀ b o, h.get? b = some o → H b = none → b ∈ fs → b ∉ ex → ∃ sl, h'.get? b = some { o with slots := sl }
  free : ∀ b o, h.get? b = some o → H b = none → b ∉ ex → H' b = none
  there : ∀ b o, h.get? b = some o → b ∉ ex → ∃ o', h'.get? b = some o'
  tups : ∀ b xs, H b = some (.tup xs) → H' b = some (.tup xs)
  frzs : ∀ b o u, H b = some (.frz o u) → H' b = some (.frz o u)
  tbls : ∀ b ps, H b = some (.tbl ps) → ∃ more, H' b = some (.tbl (ps ++ more))
section
variable {fs fs' ex ex' : List Addr} {H H1 H2 : Hp} {h h1 h2 h' : Heap} {a x e : Addr} {o : HO}
theorem Un.any (u : Un fs ex H H1 h h1) {b : Addr} {ob : Obj} (q : h.get? b = some ob) (n : H b = none) (hx : b ∉ ex) : ∃ sl, h1.get? b = some { ob with slots := sl } := by
  by_cases hb : b ∈ fs
  · exact u.slot b ob q n hb hx
  · exact ⟨ob.slots, u.keep b ob q n hb hx⟩
theorem Un.kept (k : ∀ b u, h.get? b = some u → h'.get? b = some u) : Un fs ex H H h h' :=
  ⟨fun b ob q _ _ _ => k b ob q, fun b ob q _ _ _ => ⟨ob.slots, k b ob q⟩, fun _ _ _ n _ => n, fun b ob q _ => ⟨ob, k b ob q⟩, fun _ _ q => q, fun _ _ _ q => q, fun _ ps q => ⟨#[], by rw [q]; simp⟩⟩
theorem Un.refl : Un fs ex H H h h := Un.kept fun _ _ q => q
theorem Un.laid (k : ∀ b u, h.get? b = some u → h'.get? b = some u) (hp : h.objs.size ≤ a) (hn : H a = none) : Un fs ex H (upd H a o) h h' where
  keep := fun b u q _ _ _ => k b u q
  slot := fun b u q _ _ _ => ⟨u.slots, k b u q⟩
  free := fun b u q n _ => by rw [upd_ne (Nat.ne_of_lt (Nat.lt_of_lt_of_le (Heap.lt_size q) hp))]; exact n
  there := fun b u q _ => ⟨u, k b u q⟩
  tups := fun b xs q => by rw [upd_ne (ne_of_none q hn)]; exact q
  frzs := fun b u xs q => by rw [upd_ne (ne_of_none q hn)]; exact q
  tbls := fun b ps q => ⟨#[], by rw [upd_ne (ne_of_none q hn), q]; simp⟩
theorem Un.write (mu : Mut (H x)) (he : e = x ∨ H e = some (.own x)) (k : ∀ b u, b ≠ e → h.get? b = some u → h'.get? b = some u) (heo : ∃ u, h'.get? e = some u) : Un fs ex H (upd H x o) h h' := by
  have hx : ∀ b, H b = none → b ≠ x := fun b n z => by subst z; rw [n] at mu; exact mu
  have hb : ∀ b, H b = none → b ≠ e := fun b n z => by
    subst z
    rcases he with r | r
    · exact hx b n r
    · rw [n] at r; cases r
  have hm : ∀ b u, H b = some u → ¬ Mut (some u) → b ≠ x := fun b u q nm z => by subst z; rw [q] at mu; exact nm mu
  refine ⟨fun b u q n _ _ => k b u (hb b n) q, fun b u q n _ _ => ⟨u.slots, k b u (hb b n) q⟩, fun b u q n _ => by rw [upd_ne (hx b n)]; exact n, fun b u q _ => ?_,
    fun b xs q => by rw [upd_ne (hm b _ q fun z => z)]; exact q, fun b u xs q => by rw [upd_ne (hm b _ q fun z => z)]; exact q, fun b ps q => ⟨#[], by rw [upd_ne (hm b _ q fun z => z), q]; simp⟩⟩
  by_cases hbe : b = e
  · subst hbe; exact heo
  · exact ⟨u, k b u hbe q⟩
end

/-! ### the heap without what is tracked -/
def trk (h : Heap) (H : Hp) : List Addr := (List.range h.objs.size).filter fun a => (H a).isSome
def hidT (h : Heap) (H : Hp) : Heap := PySem.W.hideAll h (trk h H)
theorem hidT_size (h : Heap) (H : Hp) : (hidT h H).objs.size = h.objs.size := PySem.W.hideAll_size _ _
theorem hidT_get {h : Heap} {H : Hp} {b : Addr} {o : Obj} (e : h.get? b = some o) (n : H b = none) : (hidT h H).get? b = some o :=
  PySem.W.hideAll_get _ e fun hm => by
    have q : (H b).isSome = true := (List.mem_filter.mp hm).2
    rw [n] at q; simp at q
theorem of_hidT {h : Heap} {H : Hp} {b : Addr} {o : Obj} (e : (hidT h H).get? b = some o) : h.get? b = some o ∧ H b = none := by
  have e' : h.get? b = some o := PySem.W.of_hideAll (trk h H) e
  refine ⟨e', ?_⟩
  cases q : H b with
  | none => rfl
  | some x =>
    have hm : b ∈ trk h H := List.mem_filter.mpr ⟨List.mem_range.mpr (Heap.lt_size e'), by simp [q]⟩
    have z : (hidT h H).get? b = none := PySem.W.hideAll_none (trk h H) hm
    rw [z] at e; cases e

/-! ### OpenK's ledger, filled with every new object but one -/
end L2

namespace L2
open PySem PySem.Spec PyProof.Rows

/-- the module's facts, over the base: the heap at the law's entry without what is tracked there -/
structure Mod (K : PySem.W.Frag) (mg : Str → Option Value) (base : Heap) : Prop where
  kin : K.In base
  glob : base.Ns mainGlobals mg
  blt : ∃ mb, base.Ns builtinsNs mb ∧ ∀ x : Str, x ≠ "__name__" → mb x = bootBuiltins x
  nolimit : base.NoLimit

/-- the context: a def's body (or a comprehension's block) running. base: fixed through the whole law; s₀, H₀: the entry; outer: the frames whose slots others may change (a def's callers); stack: all frames that run;
   ex: iterators that were made ahead of the entry and are walked here (a comprehension's); fn: the names whose cells were made at the entry (a def: all; a comprehension's block: its own); calm: not within an except suite; pn: pins that every state bears; xe: what is wanted of an exception that leaves the code -/
structure Cx where
  prog : Program
  w : World
  K : PySem.W.Frag
  mg : Str → Option Value
  base : Heap
  A : Around
  N : List Str
  s₀ : Shared
  H₀ : Hp
  env : Env
  outer : List Env
  stack : List Env
  ex : List Addr
  fn : Str → Bool
  calm : Bool
  pn : List (Addr × Obj)
  xe : Value → Shared → Prop
/-- the callers' frames -/
def frs (l : List Env) : List Addr := l.filterMap (·.frame)
abbrev Cx.fs (X : Cx) : List Addr := frs X.outer

def Vis (sc : Scope) (x : Str) : Prop := sc.names.lookup x = some .local ∨ sc.names.lookup x = some .cell ∨ sc.names.lookup x = some .free
def Loc (sc : Scope) (x : Str) : Prop := sc.names.lookup x = some .local ∨ sc.names.lookup x = some .cell
def Look (env : Env) (h : Heap) (m : Str → Option Value) (x : Str) (u : Value) : Prop :=
  (env.kindOf x = some .local ∧ m x = some u) ∨ ((env.kindOf x = some .cell ∨ env.kindOf x = some .free) ∧ ∃ c, env.cells.lookup x = some c ∧ h.IsCell c (some u))

structure Cx.Ok (X : Cx) : Prop where
  mod : Mod X.K X.mg X.base
  kind : X.env.scope.kind = .function
  glob : X.env.globals = mainGlobals
  blt : X.env.builtins = builtinsNs
  above : X.s₀.heap.objs.size ≤ X.env.locals
  inj : ∀ x y c, X.env.cells.lookup x = some c → X.env.cells.lookup y = some c → x = y
  has : ∀ x, (X.env.kindOf x = some .cell ∨ X.env.kindOf x = some .free) → ∃ c, X.env.cells.lookup x = some c
  cab : ∀ x c, X.fn x = true → X.env.cells.lookup x = some c → X.s₀.heap.objs.size ≤ c
  hd : X.calm = true → X.A.handled = none
  frames : X.A.frames = some X.stack
  stk : X.stack = X.outer ∨ (X.stack = X.env :: X.outer ∧ X.env.frame = some X.env.locals)
  exf : ∀ b ∈ X.ex, b ≠ X.env.locals ∧ ∀ x c, X.env.cells.lookup x = some c → c ≠ b
  bs : ∀ b o, X.base.get? b = some o → X.s₀.heap.get? b = some o ∧ X.H₀ b = none
  bsz : X.base.objs.size ≤ X.s₀.heap.objs.size
  noex : ∀ b o, X.base.get? b = some o → b ∉ X.ex
  exfs : ∀ b ∈ X.ex, b ∉ X.fs
  funs : X.s₀.heap.FunFrames X.base X.outer
  frf : ∀ b ∈ X.fs, X.H₀ b = none

structure Inv (X : Cx) (pins : List (Addr × Obj)) (σ : List (Option V)) (H : Hp) (s : Shared) : Prop where
  ok : X.Ok
  os : s.os = X.s₀.os
  bare : AllBare s.gens
  base : Un X.fs X.ex X.H₀ H X.s₀.heap s.heap
  loc : ∃ m, s.heap.Ns X.env.locals m ∧ ∀ (i : Nat) (x : Str) (v : V), X.N[i]? = some x → σ[i]? = some (some v) → Vis X.env.scope x → ∃ u, RelV v u ∧ Look X.env s.heap m x u
  cell : ∀ x c, X.env.cells.lookup x = some c → ∃ v, s.heap.IsCell c v
  free : H X.env.locals = none
  freeC : ∀ x c, X.env.cells.lookup x = some c → H c = none
  pin : ∀ p ∈ X.pn ++ pins, s.heap.get? p.1 = some p.2 ∧ H p.1 = none ∧ p.1 ≠ X.env.locals ∧ p.1 ∉ X.fs ∧ ∀ v, p.2.data ≠ .cell v
  hok : HOk X.prog X.w H s.heap
  len : σ.length = X.N.length

section
variable {X : Cx} {pins : List (Addr × Obj)} {σ : List (Option V)} {H H' : Hp} {s : Shared} {h' : Heap}

theorem Cx.Ok.nofr (ok : X.Ok) {b : Addr} {o : Obj} (e : X.base.get? b = some o) : b ∉ X.fs := fun hb => by
  have := (ok.funs.mem hb).1
  rw [e] at this; cases this
theorem Inv.bs (I : Inv X pins σ H s) : ∀ b o, X.base.get? b = some o → s.heap.get? b = some o ∧ H b = none := fun b o e =>
  ⟨I.base.keep b o (I.ok.bs b o e).1 (I.ok.bs b o e).2 (I.ok.nofr e) (I.ok.noex b o e), I.base.free b o (I.ok.bs b o e).1 (I.ok.bs b o e).2 (I.ok.noex b o e)⟩
theorem Inv.bk (I : Inv X pins σ H s) : ∀ b o, X.base.get? b = some o → s.heap.get? b = some o := fun b o e => (I.bs b o e).1
theorem Inv.mod (I : Inv X pins σ H s) : Mod X.K X.mg X.base := I.ok.mod
theorem Inv.kIn (I : Inv X pins σ H s) : X.K.In s.heap := I.ok.mod.kin.keeps I.bk
theorem Inv.lt (I : Inv X pins σ H s) : X.env.locals < s.heap.objs.size := let ⟨_, hn, _⟩ := I.loc; hn.lt
theorem Inv.sz (I : Inv X pins σ H s) : X.s₀.heap.objs.size ≤ s.heap.objs.size := Nat.le_trans I.ok.above (Nat.le_of_lt I.lt)
theorem Inv.nofs (I : Inv X pins σ H s) {a : Addr} (h : s.heap.objs.size ≤ a) : a ∉ X.fs := fun hb => by
  obtain ⟨_, o, ho, _⟩ := I.ok.funs.mem hb
  exact absurd (Nat.lt_of_lt_of_le (Heap.lt_size ho) (Nat.le_trans I.sz h)) (Nat.lt_irrefl _)
theorem Inv.cne (I : Inv X pins σ H s) : ∀ x c, X.env.cells.lookup x = some c → c ≠ X.env.locals := fun x c e z => by
  obtain ⟨v, o, ho, hd⟩ := I.cell x c e
  obtain ⟨m, ⟨o', es, ep, ho', hd', _⟩, _⟩ := I.loc
  rw [z, ho'] at ho; cases ho; rw [hd'] at hd; cases hd
theorem Inv.funs (I : Inv X pins σ H s) : s.heap.FunFrames X.base X.outer := by
  have all : ∀ (l : List Env), (∀ b ∈ frs l, b ∈ X.fs) → X.s₀.heap.FunFrames X.base l → s.heap.FunFrames X.base l := by
    intro l
    induction l with
    | nil => intro _ _; trivial
    | cons env r ih =>
      intro hs hl
      obtain ⟨hk, ⟨L, o, hf, hn, ho, hd⟩, hr⟩ := hl
      have hL : L ∈ X.fs := hs L (by unfold frs; rw [List.filterMap_cons, hf]; exact List.mem_cons_self)
      obtain ⟨sl, e⟩ := I.base.slot L o ho (I.ok.frf L hL) hL fun z => I.ok.exfs L z hL
      exact ⟨hk, ⟨L, _, hf, hn, e, hd⟩, ih (fun b hb => hs b (by unfold frs; rw [List.filterMap_cons, hf]; exact List.mem_cons_of_mem _ hb)) hr⟩
  exact all X.outer (fun _ hb => hb) I.ok.funs

/-- the frames that run, for a call -/
theorem Inv.stack (I : Inv X pins σ H s) : s.heap.FunFrames X.base X.stack := by
  rcases I.ok.stk with e | ⟨e, hf⟩
  · rw [e]; exact I.funs
  · rw [e]
    obtain ⟨m, hn, _⟩ := I.loc
    refine .cons (by rw [I.ok.kind]; decide) hf hn ?_ I.funs
    exact Heap.get?_none_of_le (Nat.le_trans I.ok.bsz I.ok.above)
theorem Inv.stkSub (I : Inv X pins σ H s) : ∀ b ∈ frs X.stack, b ∈ X.env.locals :: X.fs := fun b hb => by
  rcases I.ok.stk with e | ⟨e, hf⟩
  · rw [e] at hb; exact List.mem_cons_of_mem _ hb
  · rw [e] at hb
    unfold frs at hb
    rw [List.filterMap_cons, hf] at hb
    exact hb
theorem Inv.stkFree (I : Inv X pins σ H s) : ∀ b ∈ frs X.stack, H b = none := fun b hb => by
  rcases List.mem_cons.mp (I.stkSub b hb) with e | hb
  · rw [e]; exact I.free
  · obtain ⟨_, o, ho, _⟩ := I.ok.funs.mem hb
    exact I.base.free b o ho (I.ok.frf b hb) fun z => I.ok.exfs b z hb

/-- THE STEP: the untracked objects but the frame and the records at ch are kept (the callers' frames up to slots), the frame's map is kept, the new abstract heap is held -/
theorem Inv.step {g' : Array GenState} {t' : Nat} {d' : Drawn} {ch : List Addr} (I : Inv X pins σ H s)
    (hch : ∀ b ∈ ch, (b ∈ X.ex ∨ X.s₀.heap.objs.size ≤ b) ∧ b ≠ X.env.locals ∧ (∀ x c, X.env.cells.lookup x = some c → c ≠ b) ∧ ∀ p ∈ X.pn ++ pins, p.1 ≠ b)
    (keep : ∀ b o, b ≠ X.env.locals → b ∉ X.fs → b ∉ ch → s.heap.get? b = some o → H b = none → h'.get? b = some o)
    (slot : ∀ b o, b ≠ X.env.locals → b ∈ X.fs → b ∉ ch → s.heap.get? b = some o → H b = none → ∃ sl, h'.get? b = some { o with slots := sl }) (free : ∀ b o, b ∉ ch → s.heap.get? b = some o → H b = none → H' b = none)
    (there : ∀ b o, b ∉ ch → s.heap.get? b = some o → ∃ o', h'.get? b = some o')
    (tups : ∀ b xs, H b = some (.tup xs) → H' b = some (.tup xs)) (frzs : ∀ b o u, H b = some (.frz o u) → H' b = some (.frz o u)) (tbls : ∀ b ps, H b = some (.tbl ps) → ∃ more, H' b = some (.tbl (ps ++ more)))
    (ns : ∀ m, s.heap.Ns X.env.locals m → h'.Ns X.env.locals m) (hok : HOk X.prog X.w H' h') (hg : AllBare g') :
    Inv X pins σ H' { s with heap := h', gens := g', drawn := d', toks := t' } := by
  have neL : ∀ b o, X.s₀.heap.get? b = some o → b ≠ X.env.locals := fun b o e => Nat.ne_of_lt (Nat.lt_of_lt_of_le (Heap.lt_size e) I.ok.above)
  have neC : ∀ b o, X.s₀.heap.get? b = some o → b ∉ X.ex → b ∉ ch := fun b o e hx hb => by
    rcases (hch b hb).1 with z | z
    · exact hx z
    · exact absurd (Nat.lt_of_lt_of_le (Heap.lt_size e) z) (Nat.lt_irrefl _)
  have cellK : ∀ x c, X.env.cells.lookup x = some c → ∀ v, s.heap.IsCell c v → h'.IsCell c v := fun x c e v ⟨o, ho, hd⟩ => by
    have nch : c ∉ ch := fun z => (hch c z).2.2.1 x c e rfl
    by_cases hc : c ∈ X.fs
    · obtain ⟨sl, q⟩ := slot c o (I.cne x c e) hc nch ho (I.freeC x c e)
      exact ⟨_, q, hd⟩
    · exact ⟨o, keep c o (I.cne x c e) hc nch ho (I.freeC x c e), hd⟩
  refine ⟨I.ok, I.os, hg, ⟨fun b o e n hb hx => ?_, fun b o e n hb hx => ?_, fun b o e n hx => ?_, fun b o e hx => ?_, fun b xs e => tups b xs (I.base.tups b xs e), fun b o xs e => frzs b o xs (I.base.frzs b o xs e), fun b ps e => ?_⟩, ?_, fun x c e => ?_, ?_, fun x c e => ?_, fun p hp => ?_, hok, I.len⟩
  · exact keep b o (neL b o e) hb (neC b o e hx) (I.base.keep b o e n hb hx) (I.base.free b o e n hx)
  · obtain ⟨sl, e1⟩ := I.base.slot b o e n hb hx
    obtain ⟨sl', e2⟩ := slot b _ (neL b o e) hb (neC b o e hx) e1 (I.base.free b o e n hx)
    exact ⟨sl', e2⟩
  · obtain ⟨o', e1⟩ := I.base.there b o e hx
    exact free b o' (neC b o e hx) e1 (I.base.free b o e n hx)
  · obtain ⟨o', e1⟩ := I.base.there b o e hx
    exact there b o' (neC b o e hx) e1
  · obtain ⟨m1, e1⟩ := I.base.tbls b ps e
    obtain ⟨m2, e2⟩ := tbls b _ e1
    exact ⟨m1 ++ m2, by rw [e2, Array.append_assoc]⟩
  · obtain ⟨m, hn, hl⟩ := I.loc
    refine ⟨m, ns m hn, fun i x v e1 e2 e3 => ?_⟩
    obtain ⟨u, r, l⟩ := hl i x v e1 e2 e3
    refine ⟨u, r, ?_⟩
    rcases l with l | ⟨k, c, e, z⟩
    · exact .inl l
    · exact .inr ⟨k, c, e, cellK x c e _ z⟩
  · obtain ⟨v, z⟩ := I.cell x c e
    exact ⟨v, cellK x c e v z⟩
  · obtain ⟨m, ⟨o, _, _, ho, _⟩, _⟩ := I.loc
    exact free _ o (fun z => (hch _ z).2.1 rfl) ho I.free
  · obtain ⟨v, o, ho, hd⟩ := I.cell x c e
    exact free c o (fun z => (hch c z).2.2.1 x c e rfl) ho (I.freeC x c e)
  · obtain ⟨e, n, ne, nf, d⟩ := I.pin p hp
    have nch : p.1 ∉ ch := fun z => (hch p.1 z).2.2.2 p hp rfl
    exact ⟨keep p.1 p.2 ne nf nch e n, free p.1 p.2 nch e n, ne, nf, d⟩
/-- .. where the frame's own object is kept too -/
theorem Inv.un {t' : Nat} (I : Inv X pins σ H s) (u : Un X.fs [] H H' s.heap h') (hok : HOk X.prog X.w H' h') : Inv X pins σ H' { s with heap := h', toks := t' } := by
  obtain ⟨m, ⟨o, es, ep, ho, r⟩, _⟩ := id I.loc
  obtain ⟨sl, hL⟩ := u.any ho I.free (by simp)
  exact I.step (g' := s.gens) (d' := s.drawn) (ch := []) (fun _ z => nomatch z) (fun b o _ hb _ e n => u.keep b o e n hb (by simp)) (fun b o _ hb _ e n => u.slot b o e n hb (by simp)) (fun b o _ e n => u.free b o e n (by simp)) (fun b o _ e => u.there b o e (by simp)) u.tups u.frzs u.tbls (fun m' hm => by
    obtain ⟨o', es', ep', ho', r'⟩ := hm
    rw [ho] at ho'; cases ho'
    exact ⟨_, es', ep', hL, r'⟩) hok I.bare
/-- behind a call (or a comprehension's block): the slots of this frame may have changed too, the records at ch may have turned -/
theorem Inv.call {g' : Array GenState} {t' : Nat} {d' : Drawn} {ch : List Addr} (I : Inv X pins σ H s) (u : Un (frs X.stack) ch H H' s.heap h') (hok : HOk X.prog X.w H' h') (hg : AllBare g')
    (hch : ∀ b ∈ ch, (b ∈ X.ex ∨ X.s₀.heap.objs.size ≤ b) ∧ b ≠ X.env.locals ∧ (∀ x c, X.env.cells.lookup x = some c → c ≠ b) ∧ ∀ p ∈ X.pn ++ pins, p.1 ≠ b) :
    Inv X pins σ H' { s with heap := h', gens := g', drawn := d', toks := t' } := by
  obtain ⟨m, ⟨o, es, ep, ho, r⟩, _⟩ := id I.loc
  obtain ⟨sl, hL⟩ := u.any ho I.free fun z => (hch _ z).2.1 rfl
  exact I.step (ch := ch) hch (fun b o hL hb hc e n => u.keep b o e n (fun z => (List.mem_cons.mp (I.stkSub b z)).elim hL hb) hc) (fun b o _ _ hc e n => u.any e n hc) (fun b o hc e n => u.free b o e n hc) (fun b o hc e => u.there b o e hc) u.tups u.frzs u.tbls (fun m' hm => by
    obtain ⟨o', es', ep', ho', r'⟩ := hm
    rw [ho] at ho'; cases ho'
    exact ⟨_, es', ep', hL, r'⟩) hok hg
/-- an untracked record of ours (an iterator) has turned -/
theorem Inv.turned {t' : Nat} {it : Addr} (I : Inv X pins σ H s) (k : ∀ b o, b ≠ it → s.heap.get? b = some o → h'.get? b = some o) (hn : H it = none) (hL : it ≠ X.env.locals)
    (h1 : it ∈ X.ex ∨ X.s₀.heap.objs.size ≤ it) (h2 : ∀ x c, X.env.cells.lookup x = some c → c ≠ it) (h3 : ∀ p ∈ X.pn ++ pins, p.1 ≠ it) : Inv X pins σ H { s with heap := h', toks := t' } := by
  have nit : ∀ b u, H b = some u → b ≠ it := fun b u e z => by rw [z, hn] at e; cases e
  refine I.step (g' := s.gens) (d' := s.drawn) (ch := [it]) (fun b hb => ?_) (fun b o _ _ hc e _ => k b o (fun z => hc (by simp [z])) e) (fun b o _ _ hc e _ => ⟨o.slots, k b o (fun z => hc (by simp [z])) e⟩) (fun _ _ _ _ n => n)
    (fun b o hc e => ⟨o, k b o (fun z => hc (by simp [z])) e⟩) (fun _ _ e => e) (fun _ _ _ e => e) (fun b ps e => ⟨#[], by rw [e]; simp⟩) (fun m hm => ?_) (fun b u e => ?_) I.bare
  · have e : b = it := by simpa using hb
    subst e
    exact ⟨h1, hL, h2, h3⟩
  · obtain ⟨o, es, ep, ho, r⟩ := hm
    exact ⟨o, es, ep, k _ o (Ne.symm hL) ho, r⟩
  · refine (I.hok b u e).stay (fun c v hc q => k c v ?_ q) (fun _ q => q) fun _ _ q => q
    rcases hc with z | z
    · rw [z]; exact nit b u e
    · exact nit c _ z
theorem Inv.tok (I : Inv X pins σ H s) (t : Nat) : Inv X pins σ H { s with toks := t } := I.un (h' := s.heap) (t' := t) Un.refl I.hok
/-- all objects kept -/
theorem Inv.kept {t' : Nat} (I : Inv X pins σ H s) (k : ∀ b u, s.heap.get? b = some u → h'.get? b = some u) : Inv X pins σ H { s with heap := h', toks := t' } := I.un (Un.kept k) (I.hok.kept k)
/-- a new object laid and tracked -/
theorem Inv.laid {a : Addr} {o : HO} {t' : Nat} (I : Inv X pins σ H s) (k : ∀ b u, s.heap.get? b = some u → h'.get? b = some u) (hp : s.heap.objs.size ≤ a) (new : ObjOk X.prog X.w (upd H a o) h' a o) :
    Inv X pins σ (upd H a o) { s with heap := h', toks := t' } := I.un (Un.laid k hp (I.hok.fresh hp)) (I.hok.laid k hp new)
/-- an object written -/
theorem Inv.write {x e : Addr} {o : HO} {t' : Nat} (I : Inv X pins σ H s) (mu : Mut (H x)) (he : e = x ∨ H e = some (.own x)) (k : ∀ b u, b ≠ e → s.heap.get? b = some u → h'.get? b = some u) (heo : ∃ u, h'.get? e = some u)
    (new : ObjOk X.prog X.w (upd H x o) h' x o) : Inv X pins σ (upd H x o) { s with heap := h', toks := t' } := I.un (Un.write mu he k heo) (I.hok.write mu he k heo new)
theorem Inv.pins_of {pins' : List (Addr × Obj)} (I : Inv X pins σ H s) (h : ∀ p ∈ pins', s.heap.get? p.1 = some p.2 ∧ H p.1 = none ∧ p.1 ≠ X.env.locals ∧ p.1 ∉ X.fs ∧ ∀ v, p.2.data ≠ .cell v) : Inv X pins' σ H s :=
  ⟨I.ok, I.os, I.bare, I.base, I.loc, I.cell, I.free, I.freeC, fun p hp => (List.mem_append.mp hp).elim (fun z => I.pin p (List.mem_append_left _ z)) (h p), I.hok, I.len⟩

theorem nodup_ix {N : List Str} (hN : N.Nodup) {i j : Nat} {x : Str} (a : N[i]? = some x) (b : N[j]? = some x) : i = j := by
  obtain ⟨h1, e1⟩ := List.getElem?_eq_some_iff.mp a
  obtain ⟨h2, e2⟩ := List.getElem?_eq_some_iff.mp b
  exact (List.getElem_inj hN).mp (e1.trans e2.symm)

/-- a name is stored; what changed -/
theorem store_ok2 {M : Model} {A : Around} {E : Value → Shared → Prop} {i : Nat} {x : Str} {v : V} {u : Value} {Q : Unit → Shared → Prop} (I : Inv X pins σ H s) (hN : X.N.Nodup) (hi : X.N[i]? = some x) (hx : Loc X.env.scope x) (r : RelV v u)
    (h : ∀ s', Inv X pins (σ.set i (some v)) H s' → (∃ a, Heap.SameBut a s.heap s'.heap ∧ (a = X.env.locals ∨ X.env.cells.lookup x = some a)) → Q () s') (hf : X.fn x = true ∨ X.env.scope.names.lookup x = some .local := by first | exact .inl rfl | exact .inr rfl | assumption) : wpAny M A (storeName X.env x u) Q E s := by
  obtain ⟨m, hn, hl⟩ := id I.loc
  have hcls : (X.env.scope.kind == .class || (X.env.scope.kind == .module && X.env.locals != X.env.globals)) = false := by rw [I.ok.kind]; rfl
  have hiσ : i < σ.length := by rw [I.len]; exact (List.getElem?_eq_some_iff.mp hi).1
  have cne := I.cne
  have tracked : ∀ {a : Addr} {h' : Heap}, (∃ o, s.heap.get? a = some o ∧ H a = none) → Heap.SameBut a s.heap h' → HOk X.prog X.w H h' := fun {a h'} ha hs b ob e => by
    obtain ⟨_, _, hfree⟩ := ha
    refine (I.hok b ob e).stay (fun c w' hc q => (hs.2 c ?_).trans q) (fun _ q => q) fun _ _ q => q
    rintro rfl
    rcases hc with rfl | hc
    · rw [hfree] at e; cases e
    · rw [hfree] at hc; cases hc
  rcases hx with hk | hk
  · refine wpAny_storeName_local hk hn (fun h' hn' hs => ?_) hcls
    obtain ⟨oL, _, _, hoL, _⟩ := id hn
    refine h _ ⟨I.ok, I.os, I.bare, ⟨fun b o e n hb hx => ?_, fun b o e n hb hx => ?_, I.base.free, fun b o e hx => ?_, I.base.tups, I.base.frzs, I.base.tbls⟩, ⟨_, hn', fun j y v' e1 e2 e3 => ?_⟩, fun y c e => ?_, I.free, I.freeC, fun p hp => ?_, tracked ⟨oL, hoL, I.free⟩ hs, by simpa using I.len⟩ ⟨_, hs, .inl rfl⟩
    · exact (hs.2 b (Nat.ne_of_lt (Nat.lt_of_lt_of_le (Heap.lt_size e) I.ok.above))).trans (I.base.keep b o e n hb hx)
    · obtain ⟨sl, e1⟩ := I.base.slot b o e n hb hx
      exact ⟨sl, (hs.2 b (Nat.ne_of_lt (Nat.lt_of_lt_of_le (Heap.lt_size e) I.ok.above))).trans e1⟩
    · obtain ⟨o', e1⟩ := I.base.there b o e hx
      exact ⟨o', (hs.2 b (Nat.ne_of_lt (Nat.lt_of_lt_of_le (Heap.lt_size e) I.ok.above))).trans e1⟩
    · by_cases hj : j = i
      · subst hj
        rw [hi] at e1; cases e1
        rw [List.getElem?_set_self hiσ] at e2
        cases e2
        exact ⟨u, r, .inl ⟨hk, by simp⟩⟩
      · rw [List.getElem?_set_ne (Ne.symm hj)] at e2
        obtain ⟨u', r', q⟩ := hl j y v' e1 e2 e3
        refine ⟨u', r', ?_⟩
        rcases q with ⟨k, e⟩ | ⟨k, c, e, z⟩
        · refine .inl ⟨k, ?_⟩
          have : y ≠ x := fun e => hj (nodup_ix hN e1 (e ▸ hi))
          simp [this, e]
        · exact .inr ⟨k, c, e, z.sameBut hs (cne y c e)⟩
    · obtain ⟨w', z⟩ := I.cell y c e
      exact ⟨w', z.sameBut hs (cne y c e)⟩
    · obtain ⟨e, n, ne, nf, d⟩ := I.pin p hp
      exact ⟨(hs.2 p.1 ne).trans e, n, ne, nf, d⟩
  · have hfn : X.fn x = true := by
      rcases hf with z | z
      · exact z
      · rw [z] at hk; cases hk
    obtain ⟨c, hc⟩ := I.ok.has x (.inl hk)
    obtain ⟨w', z⟩ := I.cell x c hc
    refine wpAny_storeName_cell I.ok.kind hk hc z (fun h' hc' hs => ?_)
    obtain ⟨oc, hoc, hocd⟩ := id z
    refine h { s with heap := h' } ⟨I.ok, I.os, I.bare, ⟨fun b o e n hb hx => ?_, fun b o e n hb hx => ?_, I.base.free, fun b o e hx => ?_, I.base.tups, I.base.frzs, I.base.tbls⟩, ⟨m, hn.sameBut hs (Ne.symm (cne x c hc)), fun j y v' e1 e2 e3 => ?_⟩, fun y c' e => ?_, I.free, I.freeC, fun p hp => ?_, tracked ⟨oc, hoc, I.freeC x c hc⟩ hs, by simpa using I.len⟩ ⟨c, hs, .inr hc⟩
    · exact (hs.2 b (Nat.ne_of_lt (Nat.lt_of_lt_of_le (Heap.lt_size e) (I.ok.cab x c hfn hc)))).trans (I.base.keep b o e n hb hx)
    · obtain ⟨sl, e1⟩ := I.base.slot b o e n hb hx
      exact ⟨sl, (hs.2 b (Nat.ne_of_lt (Nat.lt_of_lt_of_le (Heap.lt_size e) (I.ok.cab x c hfn hc)))).trans e1⟩
    · obtain ⟨o', e1⟩ := I.base.there b o e hx
      exact ⟨o', (hs.2 b (Nat.ne_of_lt (Nat.lt_of_lt_of_le (Heap.lt_size e) (I.ok.cab x c hfn hc)))).trans e1⟩
    · by_cases hj : j = i
      · subst hj
        rw [hi] at e1; cases e1
        rw [List.getElem?_set_self hiσ] at e2
        cases e2
        exact ⟨u, r, .inr ⟨.inl hk, c, hc, hc'⟩⟩
      · rw [List.getElem?_set_ne (Ne.symm hj)] at e2
        obtain ⟨u', r', q⟩ := hl j y v' e1 e2 e3
        refine ⟨u', r', ?_⟩
        rcases q with q | ⟨k, c', e, z'⟩
        · exact .inl q
        · refine .inr ⟨k, c', e, z'.sameBut hs ?_⟩
          rintro rfl
          exact hj (nodup_ix hN e1 (I.ok.inj _ _ _ e hc ▸ hi))
    · by_cases hcc : c' = c
      · subst hcc; exact ⟨_, hc'⟩
      · obtain ⟨w2, z2⟩ := I.cell y c' e
        exact ⟨w2, z2.sameBut hs hcc⟩
    · obtain ⟨e, n, ne, nf, d⟩ := I.pin p hp
      refine ⟨(hs.2 p.1 ?_).trans e, n, ne, nf, d⟩
      intro q
      rw [q, hoc] at e
      have q' : oc = p.2 := Option.some.inj e
      exact d w' (by rw [← q']; exact hocd)
theorem store_ok {M : Model} {A : Around} {E : Value → Shared → Prop} {i : Nat} {x : Str} {v : V} {u : Value} {Q : Unit → Shared → Prop} (I : Inv X pins σ H s) (hN : X.N.Nodup) (hi : X.N[i]? = some x) (hx : Loc X.env.scope x) (r : RelV v u)
    (h : ∀ s', Inv X pins (σ.set i (some v)) H s' → Q () s') (hf : X.fn x = true ∨ X.env.scope.names.lookup x = some .local := by first | exact .inl rfl | exact .inr rfl | assumption) : wpAny M A (storeName X.env x u) Q E s :=
  store_ok2 I hN hi hx r (fun s' I' _ => h s' I') hf
/-- behind a call or a block, the state as it is -/
theorem Inv.call' {s' : Shared} {ch : List Addr} (I : Inv X pins σ H s) (ho : s'.os = s.os) (u : Un (frs X.stack) ch H H' s.heap s'.heap) (hok : HOk X.prog X.w H' s'.heap) (hg : AllBare s'.gens)
    (hch : ∀ b ∈ ch, (b ∈ X.ex ∨ X.s₀.heap.objs.size ≤ b) ∧ b ≠ X.env.locals ∧ (∀ x c, X.env.cells.lookup x = some c → c ≠ b) ∧ ∀ p ∈ X.pn ++ pins, p.1 ≠ b) : Inv X pins σ H' s' := by
  obtain ⟨h', g', d', t', o'⟩ := s'
  have e : o' = s.os := ho
  subst e
  exact I.call (g' := g') (t' := t') (d' := d') u hok hg hch
end

/-! ### the judgements -/
/-- an exception: its class, its own dict's address (where it has one), the abstract heap behind it -/
abbrev XK := Value → Option Addr → Hp → Prop
abbrev St := List (Option V)
abbrev VK := V → Hp → Prop
/-- an expression's reading; a test's; an argument list's -/
abbrev TE := St → Hp → VK → Prop
abbrev TT := St → Hp → (Bool → Hp → Prop) → Prop
abbrev TA := St → Hp → (List V → Hp → Prop) → Prop
/-- what is wanted behind a statement -/
structure Ends where
  nx : St → Hp → Prop
  rt : VK
  bk : St → Hp → Prop := fun _ _ => False
  ct : St → Hp → Prop := fun _ _ => False
abbrev TS := Ends → St → Hp → Prop

def EP (X : Cx) (pins : List (Addr × Obj)) (σ : St) (Q : VK) (u : Value) (s' : Shared) : Prop := ∃ v H', Inv X pins σ H' s' ∧ RelV v u ∧ Q v H'
def TP (X : Cx) (pins : List (Addr × Obj)) (σ : St) (Q : Bool → Hp → Prop) (b : Bool) (s' : Shared) : Prop := ∃ H', Inv X pins σ H' s' ∧ Q b H'
def AP (X : Cx) (pins : List (Addr × Obj)) (σ : St) (Q : List V → Hp → Prop) (us : List Value) (s' : Shared) : Prop := ∃ vs H', Inv X pins σ H' s' ∧ Vals vs us ∧ Q vs H'
def SP (X : Cx) (pins : List (Addr × Obj)) (D : Ends) (f : Flow) (s' : Shared) : Prop :=
  match f with
  | .next => ∃ σ' H', Inv X pins σ' H' s' ∧ D.nx σ' H'
  | .brk => ∃ σ' H', Inv X pins σ' H' s' ∧ D.bk σ' H'
  | .cont => ∃ σ' H', Inv X pins σ' H' s' ∧ D.ct σ' H'
  | .ret u => ∃ v σ' H', Inv X pins σ' H' s' ∧ RelV v u ∧ D.rt v H'

def PE (X : Cx) (e : Expr) (t : TE) : Prop :=
  ∀ (pins : List (Addr × Obj)) (s : Shared) (σ : St) (H : Hp) (Q : VK), Inv X pins σ H s → t σ H Q → wpAny (model X.prog X.w) X.A (eval e X.env) (EP X pins σ Q) X.xe s
def PT (X : Cx) (e : Expr) (t : TT) : Prop :=
  ∀ (pins : List (Addr × Obj)) (s : Shared) (σ : St) (H : Hp) (Q : Bool → Hp → Prop), Inv X pins σ H s → t σ H Q → wpAny (model X.prog X.w) X.A (isTrue e X.env (eval e X.env)) (TP X pins σ Q) X.xe s
/-- a test whatever its 'whole' is (and, or) -/
def PW (X : Cx) (e : Expr) (t : TT) : Prop :=
  ∀ (whole : Sem Value) (pins : List (Addr × Obj)) (s : Shared) (σ : St) (H : Hp) (Q : Bool → Hp → Prop), Inv X pins σ H s → t σ H Q → wpAny (model X.prog X.w) X.A (isTrue e X.env whole) (TP X pins σ Q) X.xe s
theorem PW.pt {X : Cx} {e : Expr} {t : TT} (h : PW X e t) : PT X e t := h _
/-- an argument list (no star), from the left -/
def PA (X : Cx) (es : List Expr) (t : TA) : Prop :=
  ∀ (pos : Pos) (pins : List (Addr × Obj)) (s : Shared) (σ : St) (H : Hp) (Q : List V → Hp → Prop), Inv X pins σ H s → t σ H Q → wpAny (model X.prog X.w) X.A (spliced (backTo pos (starEach es X.env))) (AP X pins σ Q) X.xe s
def PS (X : Cx) (st : Stmt) (t : TS) : Prop :=
  ∀ (pins : List (Addr × Obj)) (s : Shared) (σ : St) (H : Hp) (D : Ends), Inv X pins σ H s → t D σ H → wpAny (model X.prog X.w) X.A (exec st X.env) (SP X pins D) X.xe s
def PSs (X : Cx) (st : List Stmt) (t : TS) : Prop :=
  ∀ (pins : List (Addr × Obj)) (s : Shared) (σ : St) (H : Hp) (D : Ends), Inv X pins σ H s → t D σ H → wpAny (model X.prog X.w) X.A (execs st X.env) (SP X pins D) X.xe s
/-- weaken the end -/
theorem thn {α : Type} {t : Sem α} {Q Q' : α → Shared → Prop} {M : Model} {A : Around} {E : Value → Shared → Prop} {s : Shared} (h : wpAny M A t Q E s) (hQ : ∀ a s, Q a s → Q' a s) : wpAny M A t Q' E s := wpAny_mono h hQ fun _ _ x => x
end L2

namespace L2
open PySem PySem.Spec PyProof.Rows
section
variable {X : Cx}

/-! ### names and constants -/
def tVar (i : Nat) : TE := fun σ H Q => ∃ v, σ[i]? = some (some v) ∧ Q v H
def tC (v : V) : TE := fun _ H Q => Q v H
theorem pe_var {i : Nat} {x : Str} {pos : Pos} (hN : X.N[i]? = some x) (hv : Vis X.env.scope x) (hd : (x == ("__debug__" : Str)) = false := by decide) (hcd : (x == ("__classdict__" : Str)) = false := by decide) : PE X (.Name x pos) (tVar i) := by
  intro pins s σ H Q I h
  obtain ⟨v, e, h⟩ := h
  obtain ⟨m, hn, hl⟩ := I.loc
  obtain ⟨u, r, l⟩ := hl i x v hN e hv
  have fin : EP X pins σ Q u s := ⟨v, H, I, r, h⟩
  rcases l with ⟨hk, hm⟩ | ⟨hk, c, hc, hcell⟩
  · exact wpAny_Name (wpAny_loadName_local I.ok.kind hk hn hm fin) hd
  · rcases hk with hk | hk
    · exact wpAny_Name (wpAny_loadName_cell I.ok.kind hk hc hcell fin) hd
    · exact wpAny_Name (wpAny_loadName_free I.ok.kind hk hc hcell fin hcd) hd
theorem pe_int {i j pos} : PE X (.Constant (.int i) j pos) (tC (.int i)) := fun _ _ _ H _ I h => wpAny_Constant_int ⟨.int i, H, I.tok _, ⟨_, rfl⟩, h⟩
theorem pe_bl {b j pos} : PE X (.Constant (.bool b) j pos) (tC (.bl b)) := fun _ _ _ H _ I h => Constant_bool ⟨.bl b, H, I, rfl, h⟩
theorem pe_non {j pos} : PE X (.Constant .none j pos) (tC .non) := fun _ _ _ H _ I h => Constant_none ⟨.non, H, I, rfl, h⟩
theorem pe_str {x j pos} : PE X (.Constant (.str x) j pos) (tC (.str x)) := fun _ _ _ H _ I h => Calls.Constant_str ⟨.str x, H, I.tok _, ⟨_, rfl⟩, h⟩

/-- a global name of the def -/
def Gl (X : Cx) (x : Str) : Prop := X.env.kindOf x = some .globalImplicit
theorem ld_glob {E : Value → Shared → Prop} {pins : List (Addr × Obj)} {s : Shared} {σ : St} {H : Hp} {x : Str} {u : Value} {pos : Pos} {Q : Value → Shared → Prop} (I : Inv X pins σ H s) (hg : Gl X x) (hm : X.mg x = some u) (h : Q u s)
    (hd : (x == ("__debug__" : Str)) = false := by decide) : wpAny (model X.prog X.w) X.A (eval (.Name x pos) X.env) Q E s :=
  Calls.Name_function_global I.ok.kind hg (Calls.loadGlobal_global (by rw [I.ok.glob]; exact I.mod.glob.keeps I.bk) hm h) hd
theorem ld_blt {E : Value → Shared → Prop} {pins : List (Addr × Obj)} {s : Shared} {σ : St} {H : Hp} {x : Str} {u : Value} {pos : Pos} {Q : Value → Shared → Prop} (I : Inv X pins σ H s) (hg : Gl X x) (hm : X.mg x = none) (hv : bootBuiltins x = some u) (h : Q u s)
    (hn : x ≠ "__name__" := by decide) (hd : (x == ("__debug__" : Str)) = false := by decide) : wpAny (model X.prog X.w) X.A (eval (.Name x pos) X.env) Q E s := by
  obtain ⟨mb, h1, h2⟩ := I.mod.blt
  exact Calls.Name_function_global I.ok.kind hg (Calls.loadGlobal_builtin (by rw [I.ok.glob]; exact I.mod.glob.keeps I.bk) hm (by rw [I.ok.blt]; exact h1.keeps I.bk) ((h2 x hn).trans hv) h) hd
/-- a module's constant, a class, a function, as a value -/
theorem pe_glob {x : Str} {v : V} {u : Value} {pos : Pos} (hg : Gl X x) (hm : X.mg x = some u) (r : RelV v u) (hd : (x == ("__debug__" : Str)) = false := by decide) : PE X (.Name x pos) (tC v) :=
  fun _ _ _ H _ I h => ld_glob I hg hm ⟨v, H, I, r, h⟩ hd
theorem pe_bltn {x : Str} {v : V} {u : Value} {pos : Pos} (hg : Gl X x) (hm : X.mg x = none) (hv : bootBuiltins x = some u) (r : RelV v u) (hn : x ≠ "__name__" := by decide) (hd : (x == ("__debug__" : Str)) = false := by decide) : PE X (.Name x pos) (tC v) :=
  fun _ _ _ H _ I h => ld_blt I hg hm hv ⟨v, H, I, r, h⟩ hn hd

/-! ### arithmetic -/
variable {a b : Expr} {ta tb : TE} {pos : Pos}
/-! ### comparisons -/
/-- a comparison as a value, as a test -/
def tB (t : TE) : TT := fun σ H Q => t σ H fun x H1 => ∃ c, x = .bl c ∧ Q c H1
/-- an expression whose value is a bool, as a test -/
theorem pt_val {e : Expr} {t : TE} (h : PE X e t) (he : ∀ whole, isTrue e X.env whole = (do let v ← whole; standAt e.pos; holding [v] (truthy v)) := by intro _; rfl) : PT X e (tB t) := by
  intro pins s σ H Q I hw
  refine isTrue_plain (thn (h pins s σ H _ I hw) fun v s1 ⟨x, H1, I1, r1, q1⟩ => ?_) (he _)
  obtain ⟨d, rfl, q⟩ := q1
  cases r1
  exact wpAny_truthy_bool ⟨H1, I1, q⟩

/-! ### and, or, not -/
variable {tA tB' : TT} {rest : List Expr}
def tAnd (t u : TT) : TT := fun σ H Q => t σ H fun c H1 => if c = true then u σ H1 Q else Q false H1
def tOr (t u : TT) : TT := fun σ H Q => t σ H fun c H1 => if c = true then Q true H1 else u σ H1 Q
def tNot (t : TT) : TT := fun σ H Q => t σ H fun c H1 => Q (!c) H1
theorem pw_and1 (ha : PT X a tA) : PW X (.BoolOp .And [a] pos) tA := by
  intro wh pins s σ H Q I h
  refine isTrue_and (thn (ha pins s σ H Q I h) fun c s1 e => ?_)
  cases c with
  | true => exact isTrue_and_nil e
  | false => exact e
theorem pw_or1 (ha : PT X a tA) : PW X (.BoolOp .Or [a] pos) tA := by
  intro wh pins s σ H Q I h
  refine isTrue_or (thn (ha pins s σ H Q I h) fun c s1 e => ?_)
  cases c with
  | false => exact isTrue_or_nil e
  | true => exact e
theorem pw_and (ha : PT X a tA) (hb : PW X (.BoolOp .And (b :: rest) pos) tB') : PW X (.BoolOp .And (a :: b :: rest) pos) (tAnd tA tB') := by
  intro wh pins s σ H Q I h
  refine isTrue_and (thn (ha pins s σ H _ I h) fun c s1 ⟨H1, I1, q1⟩ => ?_)
  cases c with
  | true => exact hb wh pins s1 σ H1 Q I1 q1
  | false => exact ⟨H1, I1, q1⟩
theorem pw_or (ha : PT X a tA) (hb : PW X (.BoolOp .Or (b :: rest) pos) tB') : PW X (.BoolOp .Or (a :: b :: rest) pos) (tOr tA tB') := by
  intro wh pins s σ H Q I h
  refine isTrue_or (thn (ha pins s σ H _ I h) fun c s1 ⟨H1, I1, q1⟩ => ?_)
  cases c with
  | true => exact ⟨H1, I1, q1⟩
  | false => exact hb wh pins s1 σ H1 Q I1 q1
theorem pt_not (ha : PT X a tA) : PT X (.UnaryOp .Not a pos) (tNot tA) := by
  intro pins s σ H Q I h
  exact isTrue_not (ha pins s σ H (fun c H1 => Q (!c) H1) I h)
/-- .. as values (bools) -/
def tAndV (ta tb : TE) : TE := fun σ H Q => ta σ H fun x H1 => ∃ c, x = .bl c ∧ if c = true then tb σ H1 Q else Q (.bl false) H1
def tNotV (ta : TE) : TE := fun σ H Q => ta σ H fun x H1 => ∃ c, x = .bl c ∧ Q (.bl (!c)) H1
theorem pe_one {op} {t : TE} (h : PE X a t) : PE X (.BoolOp op [a] pos) t := fun pins s σ H Q I hw => BoolOp_one (h pins s σ H Q I hw)
theorem pe_and (ha : PE X a ta) (hb : PE X (.BoolOp .And (b :: rest) pos) tb) : PE X (.BoolOp .And (a :: b :: rest) pos) (tAndV ta tb) := by
  intro pins s σ H Q I h
  refine BoolOp_and (thn (ha pins s σ H _ I h) fun v s1 ⟨x, H1, I1, r1, q1⟩ => ?_)
  obtain ⟨c, rfl, q1⟩ := q1
  cases r1
  refine wpAny_truthy_bool ?_
  cases c with
  | true => exact hb pins s1 σ H1 Q I1 q1
  | false => exact ⟨.bl false, H1, I1, rfl, q1⟩
theorem pe_not (ha : PE X a ta) : PE X (.UnaryOp .Not a pos) (tNotV ta) := by
  intro pins s σ H Q I h
  refine UnaryOp_ (thn (ha pins s σ H _ I h) fun v s1 ⟨x, H1, I1, r1, q1⟩ => ?_)
  obtain ⟨c, rfl, q1⟩ := q1
  cases r1
  exact not_of (wpAny_truthy_bool ⟨.bl (!c), H1, I1, rfl, q1⟩)
/-- a if t else b -/
def tIf (t : TT) (ta tb : TE) : TE := fun σ H Q => t σ H fun c H1 => if c = true then ta σ H1 Q else tb σ H1 Q
theorem pe_ifExp {c : Expr} (hc : PT X c tA) (ha : PE X a ta) (hb : PE X b tb) : PE X (.IfExp c a b pos) (tIf tA ta tb) := by
  intro pins s σ H Q I h
  refine wpAny_IfExp (thn (hc pins s σ H _ I h) fun d s1 ⟨H1, I1, q1⟩ => ?_)
  cases d with
  | true => exact ha pins s1 σ H1 Q I1 q1
  | false => exact hb pins s1 σ H1 Q I1 q1
end
end L2

namespace L2
open PySem PySem.Spec PyProof.Rows

/-! ### a list, a tuple that is read: tracked, frozen, or an object of the module -/
def SqL (K : PySem.W.Frag) (H : Hp) (a : Addr) (xs : List V) : Prop :=
  Rd H a (.lst xs) ∨
    ∃ (o : Obj) (its : Array Value) (n : Nat), K.lookup a = some o ∧ o.cls = .type "list" ∧ o.dict = none ∧ o.data = .seq its n ∧ its.size ≤ sizeLine ∧ Vals xs its.toList
def SqT (K : PySem.W.Frag) (H : Hp) (a : Addr) (xs : List V) : Prop :=
  Rd H a (.tup xs) ∨
    ∃ (o : Obj) (its : Array Value) (n : Nat), K.lookup a = some o ∧ o.cls = .type "tuple" ∧ o.data = .seq its n ∧ its.size ≤ sizeLine ∧ Vals xs its.toList
def absV : Value → Option V
  | .none => some .non
  | .bool b => some (.bl b)
  | .int i _ => some (.int i)
  | .str x _ => some (.str x)
  | .bytes b _ => some (.byt b)
  | .float b _ => some (.flt b)
  | .ref a => some (.ref a)
  | .type n => some (.ty n)
  | _ => none
theorem RelV.abs {x : V} {u : Value} (r : RelV x u) : absV u = some x := by
  cases x with
  | non => cases r; rfl
  | bl _ => cases r; rfl
  | int _ => obtain ⟨t, rfl⟩ := r; rfl
  | str _ => obtain ⟨t, rfl⟩ := r; rfl
  | byt _ => obtain ⟨t, rfl⟩ := r; rfl
  | flt _ => obtain ⟨t, rfl⟩ := r; rfl
  | ref _ => cases r; rfl
  | ty _ => cases r; rfl
theorem RelV.inj {x y : V} {u : Value} (r : RelV x u) (q : RelV y u) : x = y := Option.some.inj (r.abs.symm.trans q.abs)
theorem Vals.inj : ∀ {xs ys : List V} {us : List Value}, Vals xs us → Vals ys us → xs = ys
  | _, _, _, .nil, .nil => rfl
  | _, _, _, .cons r t, .cons r' t' => by rw [r.inj r', Vals.inj t t']
section
variable {X : Cx} {pins : List (Addr × Obj)} {σ : St} {H : Hp} {s : Shared} {a : Addr} {xs ys : List V}
theorem SqL.of {K : PySem.W.Frag} (h : H a = some (.lst xs)) : SqL K H a xs := .inl (.inl h)
theorem SqT.of {K : PySem.W.Frag} (h : H a = some (.tup xs)) : SqT K H a xs := .inl (.inl h)
theorem Inv.list (I : Inv X pins σ H s) (h : SqL X.K H a xs) : ∃ its : List Value, Vals xs its ∧ PlainL s.heap a its.toArray ∧ xs.length ≤ sizeLine := by
  rcases h with h | ⟨o, its, n, hk, hc, hd, hs, hz, r⟩
  · obtain ⟨z, its, n, r, e⟩ := h.ok I.hok
    exact ⟨its, r, ⟨_, n, e, rfl, rfl, rfl⟩, z⟩
  · refine ⟨its.toList, r, ⟨o, n, I.kIn a o hk, hc, hd, by simpa using hs⟩, ?_⟩
    have e := r.length
    simp only [Array.length_toList] at e
    omega
theorem Inv.tuple (I : Inv X pins σ H s) (h : SqT X.K H a xs) : ∃ its : List Value, Vals xs its ∧ IsTup s.heap a its.toArray ∧ xs.length ≤ sizeLine := by
  rcases h with h | ⟨o, its, n, hk, hc, hs, hz, r⟩
  · obtain ⟨z, its, r, p⟩ := h.ok I.hok
    exact ⟨its, r, p, z⟩
  · refine ⟨its.toList, r, ⟨o, I.kIn a o hk, hc, n, by simpa using hs⟩, ?_⟩
    have e := r.length
    simp only [Array.length_toList] at e
    omega
theorem Inv.list_inj (I : Inv X pins σ H s) (h : SqL X.K H a xs) (h' : SqL X.K H a ys) : xs = ys := by
  obtain ⟨its, r, ⟨o, n, e, _, _, d⟩, _⟩ := I.list h
  obtain ⟨its', r', ⟨o', n', e', _, _, d'⟩, _⟩ := I.list h'
  rw [e] at e'; cases e'
  rw [d] at d'
  injection d' with d1 _
  have : its = its' := by simpa using congrArg Array.toList d1
  subst this
  exact r.inj r'
end

/-! ### another wish about exceptions -/
abbrev Cx.wish (X : Cx) (E : Value → Shared → Prop) : Cx := { X with xe := E }
/-- no exception leaves -/
abbrev Cx.nox (X : Cx) : Cx := X.wish fun _ _ => False
theorem Cx.Ok.wish {X : Cx} (ok : X.Ok) (E : Value → Shared → Prop) : (X.wish E).Ok :=
  ⟨ok.mod, ok.kind, ok.glob, ok.blt, ok.above, ok.inj, ok.has, ok.cab, ok.hd, ok.frames, ok.stk, ok.exf, ok.bs, ok.bsz, ok.noex, ok.exfs, ok.funs, ok.frf⟩
theorem Cx.Ok.unwish {X : Cx} {E : Value → Shared → Prop} (ok : (X.wish E).Ok) : X.Ok :=
  ⟨ok.mod, ok.kind, ok.glob, ok.blt, ok.above, ok.inj, ok.has, ok.cab, ok.hd, ok.frames, ok.stk, ok.exf, ok.bs, ok.bsz, ok.noex, ok.exfs, ok.funs, ok.frf⟩
section
variable {X : Cx} {pins : List (Addr × Obj)} {σ : St} {H : Hp} {s : Shared} {E : Value → Shared → Prop}
theorem Inv.wish (I : Inv X pins σ H s) (E : Value → Shared → Prop) : Inv (X.wish E) pins σ H s := ⟨I.ok.wish E, I.os, I.bare, I.base, I.loc, I.cell, I.free, I.freeC, I.pin, I.hok, I.len⟩
theorem Inv.unwish (I : Inv (X.wish E) pins σ H s) : Inv X pins σ H s := ⟨I.ok.unwish, I.os, I.bare, I.base, I.loc, I.cell, I.free, I.freeC, I.pin, I.hok, I.len⟩
theorem SP.unwish {D : Ends} {f : Flow} {s' : Shared} (h : SP (X.wish E) pins D f s') : SP X pins D f s' := by
  cases f with
  | next => obtain ⟨σ', H', I, q⟩ := h; exact ⟨σ', H', I.unwish, q⟩
  | brk => obtain ⟨σ', H', I, q⟩ := h; exact ⟨σ', H', I.unwish, q⟩
  | cont => obtain ⟨σ', H', I, q⟩ := h; exact ⟨σ', H', I.unwish, q⟩
  | ret u => obtain ⟨v, σ', H', I, r, q⟩ := h; exact ⟨v, σ', H', I.unwish, r, q⟩
theorem PSs.nox {st : List Stmt} {t : TS} (h : PSs X.nox st t) : PSs X st t := fun pins s σ H D I hw =>
  wpAny_mono (h pins s σ H D (I.wish _) hw) (fun _ _ q => q.unwish) fun _ _ z => False.elim z
end

/-! ### blocks and small statements -/
section
variable {X : Cx} {st : Stmt} {rest : List Stmt} {t u : TS} {e : Expr} {te : TE} {pos : Pos}
def tNext : TS := fun D σ H => D.nx σ H
def tSeq (t u : TS) : TS := fun D σ H => t { D with nx := u D } σ H
theorem pss_nil : PSs X [] tNext := fun _ _ σ H _ I h => wpAny_execs_nil ⟨σ, H, I, h⟩
theorem pss_cons (h1 : PS X st t) (h2 : PSs X rest u) : PSs X (st :: rest) (tSeq t u) := by
  intro pins s σ H D I h
  refine wpAny_execs_cons (thn (h1 pins s σ H { D with nx := u D } I h) fun f s1 q => ?_)
  cases f with
  | next =>
    obtain ⟨σ', H', I', q⟩ := q
    exact h2 pins s1 σ' H' D I' q
  | ret v => exact q
  | brk => exact q
  | cont => exact q
theorem pss_one (h1 : PS X st t) : PSs X [st] t := by
  intro pins s σ H D I h
  refine wpAny_execs_cons (thn (h1 pins s σ H D I h) fun f s1 q => ?_)
  cases f with
  | next => exact wpAny_execs_nil q
  | ret v => exact q
  | brk => exact q
  | cont => exact q
/-- in a def's body nothing is shown -/
theorem Inv.quiet {pins : List (Addr × Obj)} {σ : St} {H : Hp} {s : Shared} (I : Inv X pins σ H s) : interactive X.env = false := by simp [interactive, I.ok.kind]
/-- an expression whose value is dropped -/
def tDrop (te : TE) : TS := fun D σ H => te σ H fun _ H1 => D.nx σ H1
theorem ps_expr (he : PE X e te) (hs : swapsWith e none pos.line X.env = pure false := by rfl) : PS X (.Expr e pos) (tDrop te) := by
  intro pins s σ H D I h
  exact wpAny_Expr_any (thn (he pins s σ H _ I h) fun v s1 ⟨x, H1, I1, r1, q1⟩ => ⟨σ, H1, I1, q1⟩) I.quiet hs
def tRet (te : TE) : TS := fun D σ H => te σ H D.rt
theorem ps_ret (he : PE X e te) : PS X (.Return (some e) pos) (tRet te) := by
  intro pins s σ H D I h
  exact wpAny_Return_some (thn (he pins s σ H _ I h) fun v s1 ⟨x, H1, I1, r1, q1⟩ => ⟨x, σ, H1, I1, r1, q1⟩)
def tIfS (c : TT) (t u : TS) : TS := fun D σ H => c σ H fun b H1 => if b = true then t D σ H1 else u D σ H1
theorem ps_if {c : Expr} {a b : List Stmt} {tc : TT} (hc : PT X c tc) (ha : PSs X a t) (hb : PSs X b u) : PS X (.If c a b pos) (tIfS tc t u) := by
  intro pins s σ H D I h
  refine wpAny_If (thn (hc pins s σ H _ I h) fun d s1 ⟨H1, I1, q1⟩ => ?_)
  cases d with
  | true => exact ha pins s1 σ H1 D I1 q1
  | false => exact hb pins s1 σ H1 D I1 q1
/-- code that the proof never comes to -/
def tNever : TS := fun _ _ _ => False
theorem ps_never : PS X st tNever := fun _ _ _ _ _ _ h => h.elim
end

/-! ### targets -/
abbrev TG := V → St → Hp → (St → Hp → Prop) → Prop
def PG (X : Cx) (target : Expr) (t : TG) : Prop :=
  ∀ (pins : List (Addr × Obj)) (s : Shared) (σ : St) (H : Hp) (v : V) (u : Value) (Q : St → Hp → Prop), Inv X pins σ H s → RelV v u → t v σ H Q →
    wpAny (model X.prog X.w) X.A (assign target X.env u) (fun _ s' => ∃ σ' H', Inv X pins σ' H' s' ∧ Q σ' H') X.xe s
/-- o[i] = v, by values -/
abbrev TSet := V → V → V → Hp → (Hp → Prop) → Prop
def PSet (X : Cx) (t : TSet) : Prop :=
  ∀ (pins : List (Addr × Obj)) (s : Shared) (σ : St) (H : Hp) (o i v : V) (ov iv u : Value) (Q : Hp → Prop), Inv X pins σ H s → RelV o ov → RelV i iv → RelV v u → t o i v H Q →
    wpAny (model X.prog X.w) X.A (setItem ov iv u) (fun _ s' => ∃ H', Inv X pins σ H' s' ∧ Q H') X.xe s
section
variable {X : Cx} {pos : Pos}
def gName (i : Nat) : TG := fun v σ H Q => Q (σ.set i (some v)) H
theorem pg_name {i : Nat} {x : Str} (hN : X.N.Nodup) (hi : X.N[i]? = some x) (hx : Loc X.env.scope x) (hf : X.fn x = true ∨ X.env.scope.names.lookup x = some .local := by first | exact .inl rfl | exact .inr rfl | assumption) : PG X (.Name x pos) (gName i) := by
  intro pins s σ H v u Q I r h
  exact wpAny_assign_Name (store_ok I hN hi hx r (fun s' I' => ⟨_, H, I', h⟩) hf)
/-- o[i] = .. -/
def gSub (to ti : TE) (t : TSet) : TG := fun v σ H Q => to σ H fun o H1 => ti σ H1 fun i H2 => t o i v H2 fun H3 => Q σ H3
theorem pg_sub {o i : Expr} {to ti : TE} {t : TSet} (ho : PE X o to) (hi : PE X i ti) (hs : PSet X t)
    (ha : ∀ v, assign (.Subscript o i pos) X.env v = (do
      let ov ← holding [v] (eval o X.env)
      let iv ← holding [v, ov] (eval i X.env)
      standAt pos
      holding [v, ov, iv] (setItem ov iv v)
      release [v, ov, iv] []) := by intro _; rfl) : PG X (.Subscript o i pos) (gSub to ti t) := by
  intro pins s σ H v u Q I r h
  rw [ha]
  refine wpAny_bind (wpAny_holding (thn (ho pins s σ H _ I h) fun ov s1 ⟨x, H1, I1, r1, q1⟩ => ?_))
  refine wpAny_bind (wpAny_holding (thn (hi pins s1 σ H1 _ I1 q1) fun iv s2 ⟨y, H2, I2, r2, q2⟩ => ?_))
  refine wpAny_bind (wpAny_standAt (wpAny_bind (wpAny_holding (thn (hs pins s2 σ H2 x y v ov iv u _ I2 r1 r2 r q2) fun _ s3 ⟨H3, I3, q3⟩ => ?_))))
  exact wpAny_release ⟨σ, H3, I3, q3⟩
/-- target = value -/
def tAsg (te : TE) (g : TG) : TS := fun D σ H => te σ H fun x H1 => g x σ H1 D.nx
theorem ps_asg {tg e : Expr} {te : TE} {g : TG} (he : PE X e te) (hg : PG X tg g) (hs : swapsWithSole [tg] e pos.line X.env = pure false := by rfl) (hw : swappedStores [tg] e X.env = pure none := by rfl)
    (h1 : (assignEach [tg] X.env).map (·.2) = [assign tg X.env] := by rfl) : PS X (.Assign [tg] e pos) (tAsg te g) := by
  intro pins s σ H D I h
  refine wpAny_Assign_stores (thn (he pins s σ H _ I h) fun v s1 ⟨x, H1, I1, r1, q1⟩ => ?_) hs hw
  rw [h1]
  exact thn (hg pins s1 σ H1 x v _ I1 r1 q1) fun _ s2 q => q
/-- name = value -/
theorem ps_set {i : Nat} {x : Str} {e : Expr} {te : TE} {pos' : Pos} (hN : X.N.Nodup) (hi : X.N[i]? = some x) (hx : Loc X.env.scope x) (he : PE X e te) (hs : swapsWith e (some (.Name x pos')) pos.line X.env = pure false := by rfl) (hf : X.fn x = true ∨ X.env.scope.names.lookup x = some .local := by first | exact .inl rfl | exact .inr rfl | assumption) :
    PS X (.Assign [.Name x pos'] e pos) (tAsg te (gName i)) := by
  intro pins s σ H D I h
  refine wpAny_Assign_Name (thn (he pins s σ H _ I h) fun v s1 ⟨y, H1, I1, r1, q1⟩ => ?_) hs
  exact store_ok I1 hN hi hx r1 (fun s2 I2 => ⟨_, H1, I2, q1⟩) hf
end

/-! ### while -/
section
variable {X : Cx} {pos : Pos}
/-- the invariant W with its measure -/
def tWhile (c : TT) (tb : TS) : TS := fun D σ H => ∃ W : Nat → St → Hp → Prop, (∃ m, W m σ H) ∧ ∀ m σ H, W m σ H →
  c σ H fun b H1 => if b = true then ∃ N : St → Hp → Prop, (∀ σ' H', N σ' H' → ∃ m', m' < m ∧ W m' σ' H') ∧ tb { D with nx := N, ct := N, bk := D.nx } σ H1 else D.nx σ H1
theorem ps_while {c : Expr} {body : List Stmt} {tc : TT} {tb : TS} (hp : PassesOwn (model X.prog X.w) X.A X.env X.xe) (hc : PT X c tc) (hb : PSs X body tb) : PS X (.While c body [] pos) (tWhile tc tb) := by
  intro pins s σ H D I h
  obtain ⟨W, ⟨m0, w0⟩, turn⟩ := h
  refine wpAny_While (codeAny_whileLoop (fun n s' => ∃ σ' H', Inv X pins σ' H' s' ∧ W n σ' H') ?_ m0 ⟨σ, H, I, w0⟩)
  rintro n s1 ⟨σ1, H1, I1, w1⟩
  refine wpAny_passesOwn hp (thn (hc pins s1 σ1 H1 _ I1 (turn n σ1 H1 w1)) fun b s2 ⟨H2, I2, q2⟩ => ?_)
  cases b with
  | true =>
    obtain ⟨N, hN, q2⟩ := q2
    rw [if_pos rfl]
    refine wpAny_passesOwn hp (thn (hb pins s2 σ1 H2 _ I2 q2) fun f s3 q3 => ?_)
    cases f with
    | next =>
      obtain ⟨σ3, H3, I3, n3⟩ := q3
      obtain ⟨m', hm, w3⟩ := hN σ3 H3 n3
      exact ⟨m', hm, σ3, H3, I3, w3⟩
    | cont =>
      obtain ⟨σ3, H3, I3, n3⟩ := q3
      obtain ⟨m', hm, w3⟩ := hN σ3 H3 n3
      exact ⟨m', hm, σ3, H3, I3, w3⟩
    | brk => exact q3
    | ret v => exact q3
  | false =>
    rw [if_neg Bool.false_ne_true]
    exact wpAny_execs_nil ⟨σ1, H2, I2, q2⟩
end

/-! ### what a loop or a comprehension walks -/
/-- at turn i: it yields x (the heap may grow), or it stops -/
structure It where
  go : Nat → Hp → Prop
  yld : Nat → Hp → V → Hp → Prop
  stop : Nat → Hp → Prop
/-- the iterator's own objects may turn: they are not the frame's, not pinned, younger than the entry (or a comprehension's own) -/
def FpOk (X : Cx) (pins : List (Addr × Obj)) (H : Hp) (b : Addr) : Prop :=
  H b = none ∧ b ≠ X.env.locals ∧ b ∉ X.fs ∧ (b ∈ X.ex ∨ X.s₀.heap.objs.size ≤ b) ∧ (∀ x c, X.env.cells.lookup x = some c → c ≠ b) ∧ ∀ p ∈ X.pn ++ pins, p.1 ≠ b
theorem Inv.fpOk {X : Cx} {pins : List (Addr × Obj)} {σ : St} {H H' : Hp} {s : Shared} {b : Addr} (I : Inv X pins σ H s) (hb : s.heap.objs.size ≤ b) (hn : H' b = none) : FpOk X pins H' b := by
  refine ⟨hn, Nat.ne_of_gt (Nat.lt_of_lt_of_le I.lt hb), I.nofs hb, .inr (Nat.le_trans I.sz hb), fun x c e z => ?_, fun p hp z => ?_⟩
  · obtain ⟨v, q⟩ := I.cell x c e
    exact absurd (Nat.lt_of_lt_of_le q.lt (by rw [z]; exact hb)) (Nat.lt_irrefl _)
  · exact absurd (Nat.lt_of_lt_of_le (Heap.lt_size (I.pin p hp).1) (by rw [z]; exact hb)) (Nat.lt_irrefl _)
structure Turn (P : Program) (w : World) (K : PySem.W.Frag) (tg : Expr) (J : It) (fp : List Addr) (it : Addr) (tn : Nat → Heap → Prop) : Prop where
  mem : it ∈ fp
  obj : ∀ i h, tn i h → ∀ b ∈ fp, ∃ o, h.get? b = some o ∧ ∀ v, o.data ≠ .cell v
  keep : ∀ i h h', tn i h → (∀ b ∈ fp, ∀ o, h.get? b = some o → h'.get? b = some o) → tn i h'
  item : ∀ (X : Cx), X.prog = P → X.w = w → X.K = K → X.calm = true → ∀ (i : Nat) (pins : List (Addr × Obj)) (s : Shared) (σ : St) (H : Hp) (E : Value → Shared → Prop), Inv X pins σ H s → (∀ b ∈ fp, FpOk X pins H b) → tn i s.heap → J.go i H →
    wpAny (model P w) X.A (pyNext (.ref it)) (fun r s1 => ∃ u, r = some u ∧
      wpAny (model P w) X.A (letOwnedTupleGo tg (.ref it) u) (fun _ s2 => ∃ x H', Inv X pins σ H' s2 ∧ RelV x u ∧ J.yld i H x H' ∧ tn (i + 1) s2.heap ∧ ∀ b ∈ fp, H' b = none) E s1) E s
  done : ∀ (X : Cx), X.prog = P → X.w = w → X.K = K → X.calm = true → ∀ (i : Nat) (pins : List (Addr × Obj)) (s : Shared) (σ : St) (H : Hp) (E : Value → Shared → Prop), Inv X pins σ H s → (∀ b ∈ fp, FpOk X pins H b) → tn i s.heap → J.stop i H →
    wpAny (model P w) X.A (pyNext (.ref it)) (fun r s1 => r = none ∧ Inv X pins σ H s1) E s
  self : ∀ (A : Around) (i : Nat) (s : Shared) (Q : Value → Shared → Prop) (E : Value → Shared → Prop), tn i s.heap → Q (.ref it) s → wpAny (model P w) A (pyIter (.ref it)) Q E s
abbrev TI := St → Hp → (It → Hp → Prop) → Prop
/-- an iterator has come -/
def PIE (X : Cx) (pins : List (Addr × Obj)) (σ : St) (tg : Expr) (R : It → Hp → Prop) (itv : Value) (s2 : Shared) : Prop :=
  ∃ (it : Addr) (fp : List Addr) (tn : Nat → Heap → Prop) (J : It) (H' : Hp), itv = .ref it ∧ Inv X pins σ H' s2 ∧ Turn X.prog X.w X.K tg J fp it tn ∧ tn 0 s2.heap ∧ (∀ b ∈ fp, FpOk X pins H' b) ∧ R J H'
def PI (X : Cx) (tg iter : Expr) (wi : TI) : Prop :=
  ∀ (pins : List (Addr × Obj)) (s : Shared) (σ : St) (H : Hp) (R : It → Hp → Prop), Inv X pins σ H s → wi σ H R →
    wpAny (model X.prog X.w) X.A (eval iter X.env) (fun v s1 => wpAny (model X.prog X.w) X.A (pyIter v) (PIE X pins σ tg R) X.xe s1) X.xe s

/-- the step ahead of the store is nothing for an iterator that keeps no tuple -/
theorem go_of {M : Model} {A : Around} {E : Value → Shared → Prop} {s : Shared} {tg : Expr} {it : Addr} {u : Value} {o : Obj} {n : String} {vs : Array Value} {Q : Unit → Shared → Prop} (ho : s.heap.get? it = some o) (hc : o.cls = .type n) (hd : o.data = .fields vs)
    (hn : ["enumerate", "zip", "dict_itemiterator", "dict_reverseitemiterator", "odict_iterator", "itertools.zip_longest", "itertools.pairwise"].contains n = false) (hQ : Q () s) : wpAny M A (letOwnedTupleGo tg (.ref it) u) Q E s := by
  unfold letOwnedTupleGo
  cases tg <;> first
    | exact wpAny_pure hQ
    | (cases u <;> first
        | exact wpAny_pure hQ
        | (refine wpAny_bind (wpAny_load ho ?_)
           rw [hc, hd]
           show wpAny M A (if (["enumerate", "zip", "dict_itemiterator", "dict_reverseitemiterator", "odict_iterator", "itertools.zip_longest", "itertools.pairwise"].contains n && vs[0]? == some (rawInt _)) = true then _ else _) Q E s
           rw [if_neg (by intro h; rw [hn, Bool.false_and] at h; cases h)]
           exact wpAny_pure hQ))

/-- the list at a, as it stands at each turn (a loop may append to it) -/
def Itl (K : PySem.W.Frag) (a : Addr) : It :=
  ⟨fun i H => ∃ xs x, SqL K H a xs ∧ xs[i]? = some x, fun i H x H' => H' = H ∧ ∀ xs, SqL K H a xs → xs[i]? = some x, fun i H => ∃ xs, SqL K H a xs ∧ xs.length ≤ i⟩
/-- lo, lo + 1, .. (n of them) -/
def Itr (lo : Int) (n : Nat) : It := ⟨fun i _ => i < n, fun i H x H' => H' = H ∧ x = .int (lo + i), fun i _ => n ≤ i⟩
theorem turn_list {P : Program} {w : World} {K : PySem.W.Frag} {tg : Expr} (a it : Addr) : Turn P w K tg (Itl K a) [it] it (fun i h => h.IsListIter it a i) where
  mem := by simp
  obj := fun i h st b hb => by
    have e : b = it := by simpa using hb
    subst e
    obtain ⟨o, e, c, d⟩ := st
    exact ⟨o, e, fun v z => by rw [d] at z; cases z⟩
  keep := fun i h h' st k => st.at fun o e => k it (by simp) o e
  item := by
    intro X hP hw hK hc i pins s σ H E I hf st hg
    subst hP hw hK
    obtain ⟨xs, x, hq, hx⟩ := hg
    obtain ⟨its, rv, p, hz⟩ := I.list hq
    obtain ⟨u, hu, ru⟩ := rv.get hx
    obtain ⟨f0, f1, f2, f3, f4, f5⟩ := hf it (by simp)
    refine wpAny_pyNext_list_item st p.isList (x := u) (by simpa using hu) fun h' st' sb => ?_
    have I1 : Inv X pins σ H { s with heap := h' } := I.turned (t' := s.toks) (fun b o hb e => (sb.2 b hb).trans e) f0 f1 f3 f4 f5
    obtain ⟨o, e, c, d⟩ := id st'
    exact ⟨u, rfl, go_of (s := { s with heap := h' }) e c d (by decide) ⟨x, H, I1, ru, ⟨rfl, fun ys hy => by rw [I.list_inj hy hq]; exact hx⟩, st', fun b hb => (hf b hb).1⟩⟩
  done := by
    intro X hP hw hK hc i pins s σ H E I hf st hg
    subst hP hw hK
    obtain ⟨xs, hq, hx⟩ := hg
    obtain ⟨its, rv, p, hz⟩ := I.list hq
    obtain ⟨f0, f1, f2, f3, f4, f5⟩ := hf it (by simp)
    have hl := rv.length
    exact wpAny_pyNext_list_end (I.ok.hd hc) st p.isList (by simp; omega) fun h' eb => ⟨rfl, I.turned (t' := s.toks) (fun b o hb e => eb b o hb e) f0 f1 f3 f4 f5⟩
  self := fun _ _ _ _ _ st h => wpAny_pyIter_listiter st h
theorem turn_range {P : Program} {w : World} {K : PySem.W.Frag} {tg : Expr} (it : Addr) (lo : Int) (n : Nat) : Turn P w K tg (Itr lo n) [it] it (fun i h => IsRangeIter h it (lo + (i : Nat) * 1) ((n : Int) - (i : Nat)) 1) where
  mem := by simp
  obj := fun i h st b hb => by
    have e : b = it := by simpa using hb
    subst e
    exact ⟨_, st, fun v z => by
      have z' : Data.fields _ = Data.cell v := z
      cases z'⟩
  keep := fun i h h' st k => k it (by simp) _ st
  item := by
    intro X hP hw hK hc i pins s σ H E I hf st hg
    subst hP hw hK
    obtain ⟨f0, f1, f2, f3, f4, f5⟩ := hf it (by simp)
    have W := Walks.range (prog := X.prog) (w := X.w) (I.ok.hd hc) it lo 1 n
    refine W.item i s _ _ hg st fun v h' tk hv st' kk => ?_
    obtain ⟨t, rfl⟩ := hv
    have I1 : Inv X pins σ H { s with heap := h', toks := tk } := I.turned (fun b o hb e => kk b o (by simpa using hb) e) f0 f1 f3 f4 f5
    refine ⟨_, rfl, go_of (s := { s with heap := h', toks := tk }) (n := "range_iterator") st' rfl rfl (by decide) ⟨.int (lo + i), H, I1, ⟨t, ?_⟩, ⟨rfl, rfl⟩, st', fun b hb => (hf b hb).1⟩⟩
    rw [Int.mul_one]
  done := by
    intro X hP hw hK hc i pins s σ H E I hf st hg
    subst hP hw hK
    obtain ⟨f0, f1, f2, f3, f4, f5⟩ := hf it (by simp)
    exact wpAny_pyNext_range_end (I.ok.hd hc) st (by have : n ≤ i := hg; omega) fun h' eb => ⟨rfl, I.turned (t' := s.toks) (fun b o hb e => eb b o hb e) f0 f1 f3 f4 f5⟩
  self := fun _ _ _ _ _ st h => wpAny_pyIter_rangeiter st h
end L2

namespace L2
open PySem PySem.Spec PyProof.Rows
section
variable {X : Cx} {tg : Expr}
def iList (K : PySem.W.Frag) (tl : TE) : TI := fun σ H R => tl σ H fun x H1 => ∃ a, x = .ref a ∧ (∃ xs, SqL K H1 a xs) ∧ R (Itl K a) H1
theorem pi_list {l : Expr} {tl : TE} (hl : PE X l tl) : PI X tg l (iList X.K tl) := by
  intro pins s σ H R I h
  refine thn (hl pins s σ H _ I h) fun v s1 ⟨x, H1, I1, r1, q1⟩ => ?_
  obtain ⟨a, e, ⟨xs, hq⟩, q⟩ := q1
  subst e
  cases r1
  obtain ⟨its, rv, p, hz⟩ := I1.list hq
  refine wpAny_pyIter_list p.isList ?_
  refine ⟨s1.heap.objs.size, [s1.heap.objs.size], _, _, H1, rfl, I1.kept (t' := s1.toks) fun b o e => Heap.get?_push_of_some _ e, turn_list a _, ⟨_, Heap.get?_push_size _ rfl, rfl, rfl⟩, fun b hb => ?_, q⟩
  have e : b = s1.heap.objs.size := by simpa using hb
  subst e
  exact I1.fpOk (Nat.le_refl _) (I1.hok.fresh (Nat.le_refl _))
/-- a range object just made, walked -/
theorem range_it {pins : List (Addr × Obj)} {σ : St} {H : Hp} {s : Shared} {R : It → Hp → Prop} {E : Value → Shared → Prop} {lo hi : Int} {t u v : Tok} {tk : Nat} (I : Inv X pins σ H s) (h1 : -(2 ^ 62) ≤ lo) (h2 : lo < 2 ^ 62) (h3 : -(2 ^ 62) ≤ hi) (h4 : hi < 2 ^ 62)
    (q : R (Itr lo (hi - lo).toNat) H) : wpAny (model X.prog X.w) X.A (pyIter (.ref s.heap.objs.size)) (PIE X pins σ tg R) E { s with heap := s.heap.push { cls := .type "range", data := .fields #[.int lo t, .int hi u, .int 1 v] }, toks := tk } := by
  refine wpAny_pyIter_range (IsRange.new ..) (small_one h1 h2 h3 h4) ?_
  have I1 : Inv X pins σ H { s with heap := s.heap.push { cls := .type "range", data := .fields #[.int lo t, .int hi u, .int 1 v] }, toks := tk } := I.kept fun b o e => Heap.get?_push_of_some _ e
  refine ⟨(s.heap.push { cls := .type "range", data := .fields #[.int lo t, .int hi u, .int 1 v] }).objs.size, [(s.heap.push { cls := .type "range", data := .fields #[.int lo t, .int hi u, .int 1 v] }).objs.size], _, _, H, rfl,
    I1.kept (t' := tk) fun b o e => Heap.get?_push_of_some _ e, turn_range _ lo (hi - lo).toNat, ?_, fun b hb => ?_, q⟩
  · have e1 : lo + ((0 : Nat) : Int) * 1 = lo := by simp
    have e2 : (((hi - lo).toNat : Nat) : Int) - ((0 : Nat) : Int) = Builtin.Range.rangeSize lo hi 1 := by rw [rangeSize_one]; split <;> omega
    show IsRangeIter _ _ (lo + ((0 : Nat) : Int) * 1) ((((hi - lo).toNat : Nat) : Int) - ((0 : Nat) : Int)) 1
    rw [e1, e2]
    exact Heap.get?_push_size _ rfl
  · have e : b = (s.heap.push { cls := .type "range", data := .fields #[.int lo t, .int hi u, .int 1 v] }).objs.size := by simpa using hb
    subst e
    exact I1.fpOk (Nat.le_refl _) (I1.hok.fresh (Nat.le_refl _))
def iRng1 (ta : TA) : TI := fun σ H R => ta σ H fun vs H1 => ∃ j : Int, vs = [.int j] ∧ -(2 ^ 62) ≤ j ∧ j < 2 ^ 62 ∧ R (Itr 0 j.toNat) H1
theorem pi_range1 {a : Expr} {ta : TA} {p pos : Pos} (hg : Gl X "range") (hm : X.mg "range" = none) (ha : PA X [a] ta) (hs : starEach [a] X.env = [(false, eval a X.env)] := by rfl) : PI X tg (.Call (.Name "range" p) [a] [] pos) (iRng1 ta) := by
  intro pins s σ H R I h
  refine Call_ (ld_blt I hg hm boot_range (PyProof.Rows.callWith_type1 (thn (ha pos pins s σ H _ I h) fun us s1 ⟨vs, H1, I1, r1, q1⟩ => ?_) hs rfl))
  obtain ⟨j, e, q1, q2, q⟩ := q1
  subst e
  cases r1 with
  | cons r rr =>
    cases rr
    obtain ⟨t, rfl⟩ := r
    exact call_range_1 (range_it I1 (by omega) (by omega) q1 q2 (by simpa using q))
/-! ### for -/
/-- W: the invariant by the turn and a measure; N: what the body is to reach -/
def tFor (wi : TI) (g : TG) (tb : TS) : TS := fun D σ H => wi σ H fun J H1 => ∃ W : Nat → Nat → St → Hp → Prop, (∃ m, W 0 m σ H1) ∧ ∀ i m σ H, W i m σ H →
  (J.stop i H ∧ D.nx σ H) ∨ (J.go i H ∧ ∃ N : St → Hp → Prop, (∀ σ' H', N σ' H' → ∃ m', m' < m ∧ W (i + 1) m' σ' H') ∧ ∀ x H', J.yld i H x H' → g x σ H' fun σ2 H2 => tb { D with nx := N, ct := N, bk := D.nx } σ2 H2)
/-- the records at fp as they stand -/
def pinsAt (fp : List Addr) (h : Heap) : List (Addr × Obj) := fp.filterMap fun b => (h.get? b).map fun o => (b, o)
theorem mem_pinsAt {fp : List Addr} {h : Heap} {b : Addr} {o : Obj} (hb : b ∈ fp) (e : h.get? b = some o) : (b, o) ∈ pinsAt fp h := List.mem_filterMap.mpr ⟨b, hb, by rw [e]; rfl⟩
theorem of_pinsAt {fp : List Addr} {h : Heap} {p : Addr × Obj} (hp : p ∈ pinsAt fp h) : p.1 ∈ fp ∧ h.get? p.1 = some p.2 := by
  obtain ⟨b, hb, e⟩ := List.mem_filterMap.mp hp
  cases q : h.get? b with
  | none => rw [q] at e; cases e
  | some o =>
    rw [q] at e
    have e' : (b, o) = p := Option.some.inj e
    subst e'
    exact ⟨hb, q⟩
theorem Inv.pinned {pins : List (Addr × Obj)} {σ : St} {H : Hp} {s : Shared} {fp : List Addr} (I : Inv X pins σ H s) (hf : ∀ b ∈ fp, FpOk X pins H b) (ho : ∀ b ∈ fp, ∃ o, s.heap.get? b = some o ∧ ∀ v, o.data ≠ .cell v) : Inv X (pins ++ pinsAt fp s.heap) σ H s :=
  I.pins_of fun p hp => (List.mem_append.mp hp).elim (fun z => I.pin p (List.mem_append_right _ z)) fun z => by
    obtain ⟨hb, e⟩ := of_pinsAt z
    obtain ⟨f0, f1, f2, _⟩ := hf p.1 hb
    obtain ⟨o, e', d⟩ := ho p.1 hb
    rw [e] at e'; cases e'
    exact ⟨e, f0, f1, f2, d⟩
theorem Inv.unpinned {pins pl : List (Addr × Obj)} {σ : St} {H : Hp} {s : Shared} (I : Inv X (pins ++ pl) σ H s) : Inv X pins σ H s := I.pins_of fun p hp => I.pin p (List.mem_append_right _ (List.mem_append_left _ hp))
theorem ps_for {iter : Expr} {body : List Stmt} {wi : TI} {g : TG} {tb : TS} {pos : Pos} (hp : PassesOwn (model X.prog X.w) X.A X.env X.xe) (hc : X.calm = true) (hi : PI X tg iter wi) (hg : PG X tg g) (hb : PSs X body tb)
    (hs : ∀ x, foldedSetIterable iter X.env x = pure x := by intro _; rfl) : PS X (.For tg iter body [] pos) (tFor wi g tb) := by
  intro pins s σ H D I h
  refine wpAny_For (thn (hi pins s σ H _ I h) fun v s1 h1 => thn h1 fun itv s2 h2 => ?_) hs
  obtain ⟨it, fp, tn, J, H2, e, I2, T, st2, f2, W, ⟨m0, w0⟩, turn⟩ := h2
  subst e
  -- what stays true of the iterator's objects through the loop
  have stat : ∀ {H' : Hp}, (∀ b ∈ fp, H' b = none) → ∀ b ∈ fp, FpOk X pins H' b := fun hn b hb => ⟨hn b hb, (f2 b hb).2⟩
  refine codeAny_forLoop_any (fun n s' => ∃ i σ' H', Inv X pins σ' H' s' ∧ tn i s'.heap ∧ (∀ b ∈ fp, H' b = none) ∧ W i n σ' H') ?_ m0 ⟨0, σ, H2, I2, st2, fun b hb => (f2 b hb).1, w0⟩
  rintro n s3 ⟨i, σ3, H3, I3, st3, fr3, w3⟩
  rcases turn i n σ3 H3 w3 with ⟨stop, qn⟩ | ⟨go, N, hN, step⟩
  · refine wpAny_passesOwn hp (thn (T.done X rfl rfl rfl hc i pins s3 σ3 H3 X.xe I3 (stat fr3) st3 stop) fun r s4 ⟨hr, I4⟩ => ?_)
    subst hr
    exact wpAny_execs_nil ⟨σ3, H3, I4, qn⟩
  · refine wpAny_passesOwn hp (thn (T.item X rfl rfl rfl hc i pins s3 σ3 H3 X.xe I3 (stat fr3) st3 go) fun r s4 ⟨u, hr, h4⟩ => ?_)
    subst hr
    refine wpAny_passesOwn hp (thn h4 fun _ s5 ⟨x, H5, I5, r5, y5, st5, fr5⟩ => ?_)
    have I5' := I5.pinned (stat fr5) (T.obj _ _ st5)
    refine wpAny_passesOwn hp (thn (hg _ s5 σ3 H5 x u _ I5' r5 (step x H5 y5)) fun _ s6 ⟨σ6, H6, I6, q6⟩ => ?_)
    refine wpAny_passesOwn hp (thn (hb _ s6 σ6 H6 _ I6 q6) fun f s7 q7 => ?_)
    have again : ∀ {σ7 : St} {H7 : Hp}, Inv X (pins ++ pinsAt fp s5.heap) σ7 H7 s7 → N σ7 H7 → ∃ m, m < n ∧ ∃ i σ' H', Inv X pins σ' H' s7 ∧ tn i s7.heap ∧ (∀ b ∈ fp, H' b = none) ∧ W i m σ' H' := fun {σ7 H7} I7 n7 => by
      obtain ⟨m', hm, w7⟩ := hN σ7 H7 n7
      refine ⟨m', hm, i + 1, σ7, H7, I7.unpinned, T.keep _ _ _ st5 fun b hb o e => (I7.pin (b, o) (List.mem_append_right _ (List.mem_append_right _ (mem_pinsAt hb e)))).1, fun b hb => ?_, w7⟩
      obtain ⟨o, e, d⟩ := T.obj _ _ st5 b hb
      exact (I7.pin (b, o) (List.mem_append_right _ (List.mem_append_right _ (mem_pinsAt hb e)))).2.1
    cases f with
    | next => obtain ⟨σ7, H7, I7, n7⟩ := q7; exact again I7 n7
    | cont => obtain ⟨σ7, H7, I7, n7⟩ := q7; exact again I7 n7
    | brk => obtain ⟨σ7, H7, I7, q7⟩ := q7; exact ⟨σ7, H7, I7.unpinned, q7⟩
    | ret v => obtain ⟨x7, σ7, H7, I7, r7, q7⟩ := q7; exact ⟨x7, σ7, H7, I7.unpinned, r7, q7⟩
end

/-! ### the forms one uses -/
theorem for_range {lo : Int} {n : Nat} {g : TG} {tb : TS} {D : Ends} {σ : St} {H : Hp} (Pv : Nat → St → Hp → Prop) (h0 : Pv 0 σ H)
    (hs : ∀ i σ H, i < n → Pv i σ H → g (.int (lo + i)) σ H fun σ2 H2 => tb { D with nx := Pv (i + 1), ct := Pv (i + 1), bk := D.nx } σ2 H2) (hd : ∀ σ H, Pv n σ H → D.nx σ H) :
    ∃ W : Nat → Nat → St → Hp → Prop, (∃ m, W 0 m σ H) ∧ ∀ i m σ H, W i m σ H →
      ((Itr lo n).stop i H ∧ D.nx σ H) ∨ ((Itr lo n).go i H ∧ ∃ N : St → Hp → Prop, (∀ σ' H', N σ' H' → ∃ m', m' < m ∧ W (i + 1) m' σ' H') ∧ ∀ x H', (Itr lo n).yld i H x H' → g x σ H' fun σ2 H2 => tb { D with nx := N, ct := N, bk := D.nx } σ2 H2) := by
  refine ⟨fun i m σ H => m = n - i ∧ i ≤ n ∧ Pv i σ H, ⟨n, by simp, Nat.zero_le _, h0⟩, ?_⟩
  rintro i m σ H ⟨rfl, hi, p⟩
  by_cases hlt : i < n
  · refine .inr ⟨hlt, Pv (i + 1), fun σ' H' p' => ⟨n - (i + 1), by omega, rfl, hlt, p'⟩, fun x H' y => ?_⟩
    obtain ⟨e, y⟩ := y
    subst e y
    exact hs i σ _ hlt p
  · have e : i = n := by omega
    subst e
    exact .inl ⟨Nat.le_refl _, hd σ H p⟩
/-- while, by a word and a measure of the state -/
theorem while_by {c : TT} {tb : TS} {D : Ends} {σ : St} {H : Hp} (Pv : St → Hp → Prop) (μ : St → Hp → Nat) (h0 : Pv σ H)
    (hs : ∀ σ H, Pv σ H → c σ H fun b H1 => if b = true then tb { D with nx := fun σ' H' => Pv σ' H' ∧ μ σ' H' < μ σ H, ct := fun σ' H' => Pv σ' H' ∧ μ σ' H' < μ σ H, bk := D.nx } σ H1 else D.nx σ H1)
    (mono : ∀ σ H Q Q', (∀ b H1, Q b H1 → Q' b H1) → c σ H Q → c σ H Q') : tWhile c tb D σ H := by
  refine ⟨fun m σ H => m = μ σ H ∧ Pv σ H, ⟨_, rfl, h0⟩, ?_⟩
  rintro m σ H ⟨rfl, p⟩
  refine mono σ H _ _ (fun b H1 q => ?_) (hs σ H p)
  cases b with
  | true => exact ⟨_, fun σ' H' ⟨p', l⟩ => ⟨_, l, rfl, p'⟩, q⟩
  | false => exact q
end L2

namespace L2
open PySem PySem.Spec PyProof.Rows

abbrev R2 := V → V → Hp → VK → Prop
/-- a two-place operation on values: f is binaryOp op, inplaceOp op or compareOp op -/
def OpR (X : Cx) (f : Value → Value → Sem Value) (r : R2) : Prop :=
  ∀ (pins : List (Addr × Obj)) (s : Shared) (σ : St) (H : Hp) (x y : V) (v u : Value) (Q : VK), Inv X pins σ H s → RelV x v → RelV y u → r x y H Q →
    wpAny (model X.prog X.w) X.A (f v u) (EP X pins σ Q) X.xe s
/-- a one-place operation -/
def UnR (X : Cx) (f : Value → Sem Value) (r : V → Hp → VK → Prop) : Prop :=
  ∀ (pins : List (Addr × Obj)) (s : Shared) (σ : St) (H : Hp) (x : V) (v : Value) (Q : VK), Inv X pins σ H s → RelV x v → r x H Q →
    wpAny (model X.prog X.w) X.A (f v) (EP X pins σ Q) X.xe s
/-- a call of a value that is known (a builtin, a type) with values -/
def CallR (X : Cx) (f : Value) (r : List V → Hp → VK → Prop) : Prop :=
  ∀ (pins : List (Addr × Obj)) (s : Shared) (σ : St) (H : Hp) (xs : List V) (us : List Value) (Q : VK), Inv X pins σ H s → Vals xs us → r xs H Q →
    wpAny (model X.prog X.w) X.A (call f us) (EP X pins σ Q) X.xe s
def tOp (r : R2) (ta tb : TE) : TE := fun σ H Q => ta σ H fun x H1 => tb σ H1 fun y H2 => r x y H2 Q
def tUn (r : V → Hp → VK → Prop) (ta : TE) : TE := fun σ H Q => ta σ H fun x H1 => r x H1 Q
/-- ints in, under C, and a value out -/
def rI (C : Int → Int → Prop) (g : Int → Int → V) : R2 := fun x y H Q => ∃ i j, x = .int i ∧ y = .int j ∧ C i j ∧ Q (g i j) H
def rI0 (g : Int → Int → V) : R2 := fun x y H Q => ∃ i j, x = .int i ∧ y = .int j ∧ Q (g i j) H
def rU (g : Int → V) : V → Hp → VK → Prop := fun x H Q => ∃ i, x = .int i ∧ Q (g i) H

section
variable {X : Cx} {a b c : Expr} {ta tb tc : TE} {pos : Pos}

theorem binT (ha : PE X a ta) (hb : PE X b tb) {pins : List (Addr × Obj)} {s : Shared} {σ : St} {H : Hp} {R : V → V → Hp → Prop} (I : Inv X pins σ H s)
    (h : ta σ H fun x H1 => tb σ H1 fun y H2 => R x y H2) {Q : Value → Shared → Prop} {f : Value → Value → Sem Value}
    (hf : ∀ v u s2 x y H2, Inv X pins σ H2 s2 → RelV x v → RelV y u → R x y H2 → wpAny (model X.prog X.w) X.A (f v u) Q X.xe s2) :
    wpAny (model X.prog X.w) X.A (eval a X.env) (fun v s₁ => wpAny (model X.prog X.w) X.A (eval b X.env) (fun u s₂ => wpAny (model X.prog X.w) X.A (f v u) Q X.xe s₂) X.xe s₁) X.xe s := by
  refine thn (ha pins s σ H _ I h) fun v s1 ⟨x, H1, I1, r1, q1⟩ => ?_
  refine thn (hb pins s1 σ H1 _ I1 q1) fun u s2 ⟨y, H2, I2, r2, q2⟩ => ?_
  exact hf v u s2 x y H2 I2 r1 r2 q2

theorem pe_op {op : Operator} {r : R2} (ho : OpR X (binaryOp op) r) (ha : PE X a ta) (hb : PE X b tb) : PE X (.BinOp a op b pos) (tOp r ta tb) := by
  intro pins s σ H Q I h
  exact wpAny_BinOp (binT ha hb I h fun v u s2 x y H2 I2 rx ry q => ho pins s2 σ H2 x y v u Q I2 rx ry q)
theorem pe_un {op : UnaryOp} {r : V → Hp → VK → Prop} (ho : UnR X (unaryOp op) r) (ha : PE X a ta) : PE X (.UnaryOp op a pos) (tUn r ta) := by
  intro pins s σ H Q I h
  exact UnaryOp_ (thn (ha pins s σ H _ I h) fun v s1 ⟨x, H1, I1, r1, q1⟩ => ho pins s1 σ H1 x v Q I1 r1 q1)
/-! ### ints -/
theorem opI {f : Value → Value → Sem Value} {C : Int → Int → Prop} {g : Int → Int → Int}
    (rule : ∀ (i j : Int) (t u : Tok) (s : Shared) (Q : Value → Shared → Prop) (E : Value → Shared → Prop), C i j → Q (.int (g i j) s.toks) { s with toks := s.toks + 1 } → wpAny (model X.prog X.w) X.A (f (.int i t) (.int j u)) Q E s) :
    OpR X f (rI C fun i j => .int (g i j)) := by
  intro pins s σ H x y v u Q I rx ry h
  obtain ⟨i, j, rfl, rfl, hc, q⟩ := h
  obtain ⟨t, rfl⟩ := rx
  obtain ⟨t', rfl⟩ := ry
  exact rule i j t t' s _ _ hc ⟨.int (g i j), H, I.tok _, ⟨_, rfl⟩, q⟩
theorem opI0 {f : Value → Value → Sem Value} {g : Int → Int → Int}
    (rule : ∀ (i j : Int) (t u : Tok) (s : Shared) (Q : Value → Shared → Prop) (E : Value → Shared → Prop), Q (.int (g i j) s.toks) { s with toks := s.toks + 1 } → wpAny (model X.prog X.w) X.A (f (.int i t) (.int j u)) Q E s) :
    OpR X f (rI0 fun i j => .int (g i j)) := by
  intro pins s σ H x y v u Q I rx ry h
  obtain ⟨i, j, rfl, rfl, q⟩ := h
  obtain ⟨t, rfl⟩ := rx
  obtain ⟨t', rfl⟩ := ry
  exact rule i j t t' s _ _ ⟨.int (g i j), H, I.tok _, ⟨_, rfl⟩, q⟩
theorem opB0 {f : Value → Value → Sem Value} {g : Int → Int → Bool}
    (rule : ∀ (i j : Int) (t u : Tok) (s : Shared) (Q : Value → Shared → Prop) (E : Value → Shared → Prop), Q (.bool (g i j)) s → wpAny (model X.prog X.w) X.A (f (.int i t) (.int j u)) Q E s) :
    OpR X f (rI0 fun i j => .bl (g i j)) := by
  intro pins s σ H x y v u Q I rx ry h
  obtain ⟨i, j, rfl, rfl, q⟩ := h
  obtain ⟨t, rfl⟩ := rx
  obtain ⟨t', rfl⟩ := ry
  exact rule i j t t' s _ _ ⟨.bl (g i j), H, I, rfl, q⟩

theorem op_add : OpR X (binaryOp .Add) (rI0 fun i j => .int (i + j)) := opI0 fun _ _ _ _ _ _ _ q => add_int q
theorem op_sub : OpR X (binaryOp .Sub) (rI0 fun i j => .int (i - j)) := opI0 fun _ _ _ _ _ _ _ q => sub_int q
theorem op_modN : OpR X (binaryOp .Mod) (rI (fun _ j => j ≠ 0) fun i j => .int (i.fmod j)) := opI fun _ _ _ _ _ _ _ hc q => mod_int' hc q
theorem unI {f : Value → Sem Value} {g : Int → Int}
    (rule : ∀ (i : Int) (t : Tok) (s : Shared) (Q : Value → Shared → Prop) (E : Value → Shared → Prop), Q (.int (g i) s.toks) { s with toks := s.toks + 1 } → wpAny (model X.prog X.w) X.A (f (.int i t)) Q E s) :
    UnR X f (rU fun i => .int (g i)) := by
  intro pins s σ H x v Q I rx h
  obtain ⟨i, rfl, q⟩ := h
  obtain ⟨t, rfl⟩ := rx
  exact rule i t s _ _ ⟨.int (g i), H, I.tok _, ⟨_, rfl⟩, q⟩
theorem un_neg : UnR X (unaryOp .USub) (rU fun i => .int (-i)) := unI fun _ _ _ _ _ q => neg_int q
/-! ### bools among ints: n += (a < b) -/
end

/-! ### comparisons -/
/-- the scalars that == tells apart as data does -/
def scal : V → V → Bool
  | .non, .non => true | .non, .int _ => true | .int _, .non => true | .non, .bl _ => true | .bl _, .non => true | .non, .str _ => true | .str _, .non => true
  | .int _, .int _ => true | .bl _, .bl _ => true | .str _, .str _ => true | .byt _, .byt _ => true
  | .int _, .str _ => true | .str _, .int _ => true | .bl _, .str _ => true | .str _, .bl _ => true
  | _, _ => false
def rEq : R2 := fun x y H Q => scal x y = true ∧ Q (.bl (decide (x = y))) H
def rNe : R2 := fun x y H Q => scal x y = true ∧ Q (.bl (!decide (x = y))) H

theorem dec_int {i j : Int} : decide (V.int i = V.int j) = (i == j) := by
  rw [Bool.eq_iff_iff]
  simp
theorem dec_bl {i j : Bool} : decide (V.bl i = V.bl j) = (i == j) := by
  rw [Bool.eq_iff_iff]
  simp
theorem dec_str {i j : Str} : decide (V.str i = V.str j) = (i == j) := by
  rw [Bool.eq_iff_iff]
  simp
theorem dec_byt {i j : Array UInt8} : decide (V.byt i = V.byt j) = (i.toList == j.toList) := by
  rw [Bool.eq_iff_iff]
  cases i
  cases j
  simp

section
variable {X : Cx} {a b c : Expr} {ta tb tc : TE} {pos : Pos}
theorem fin_bl {pins : List (Addr × Obj)} {σ : St} {H : Hp} {s : Shared} {Q : VK} {k k' : Bool} (I : Inv X pins σ H s) (q : Q (.bl k) H) (e : k = k') : EP X pins σ Q (.bool k') s := by
  subst e
  exact ⟨.bl k, H, I, rfl, q⟩
theorem op_eq : OpR X (compareOp .Eq) rEq := by
  intro pins s σ H x y v u Q I rx ry h
  obtain ⟨hs, q⟩ := h
  cases x with
  | non =>
    cases rx
    cases y with
    | non => cases ry; exact PySem.EqNone.eq_none_none (fin_bl I q (by simp))
    | bl j => cases ry; exact PySem.EqNone.eq_none_bool (fin_bl I q (by simp))
    | int j => obtain ⟨t', rfl⟩ := ry; exact PySem.EqNone.eq_none_int (fin_bl I q (by simp))
    | str j => obtain ⟨t', rfl⟩ := ry; exact PySem.EqNone.eq_none_str (fin_bl I q (by simp))
    | _ => exact absurd (show false = true from hs) Bool.false_ne_true
  | bl i =>
    cases rx
    cases y with
    | non => cases ry; exact PySem.EqNone.eq_bool_none (fin_bl I q (by simp))
    | bl j => cases ry; exact eq_bool (fin_bl I q dec_bl)
    | str j => obtain ⟨t', rfl⟩ := ry; exact PySem.EqMixed.eq_bool_str (fin_bl I q (by simp))
    | _ => exact absurd (show false = true from hs) Bool.false_ne_true
  | int i =>
    obtain ⟨t, rfl⟩ := rx
    cases y with
    | non => cases ry; exact PySem.EqNone.eq_int_none (fin_bl I q (by simp))
    | int j => obtain ⟨t', rfl⟩ := ry; exact eq_int (fin_bl I q dec_int)
    | str j => obtain ⟨t', rfl⟩ := ry; exact PySem.EqMixed.eq_int_str (fin_bl I q (by simp))
    | _ => exact absurd (show false = true from hs) Bool.false_ne_true
  | str i =>
    obtain ⟨t, rfl⟩ := rx
    cases y with
    | non => cases ry; exact PySem.EqNone.eq_str_none (fin_bl I q (by simp))
    | bl j => cases ry; exact PySem.EqMixed.eq_str_bool (fin_bl I q (by simp))
    | int j => obtain ⟨t', rfl⟩ := ry; exact PySem.EqMixed.eq_str_int (fin_bl I q (by simp))
    | str j => obtain ⟨t', rfl⟩ := ry; exact eq_str (fin_bl I q dec_str)
    | _ => exact absurd (show false = true from hs) Bool.false_ne_true
  | byt i =>
    obtain ⟨t, rfl⟩ := rx
    cases y with
    | byt j => obtain ⟨t', rfl⟩ := ry; exact PySem.W.eq_bytes (fin_bl I q dec_byt)
    | _ => exact absurd (show false = true from hs) Bool.false_ne_true
  | _ => cases y <;> exact absurd (show false = true from hs) Bool.false_ne_true
theorem op_ne : OpR X (compareOp .NotEq) rNe := by
  intro pins s σ H x y v u Q I rx ry h
  obtain ⟨hs, q⟩ := h
  cases x with
  | non =>
    cases rx
    cases y with
    | non => cases ry; exact PySem.EqNone.ne_none_none (fin_bl I q (by simp))
    | bl j => cases ry; exact PySem.EqNone.ne_none_bool (fin_bl I q (by simp))
    | int j => obtain ⟨t', rfl⟩ := ry; exact PySem.EqNone.ne_none_int (fin_bl I q (by simp))
    | str j => obtain ⟨t', rfl⟩ := ry; exact PySem.EqNone.ne_none_str (fin_bl I q (by simp))
    | _ => exact absurd (show false = true from hs) Bool.false_ne_true
  | bl i =>
    cases rx
    cases y with
    | non => cases ry; exact PySem.EqNone.ne_bool_none (fin_bl I q (by simp))
    | bl j => cases ry; exact ne_bool (fin_bl I q (congrArg not dec_bl))
    | str j => obtain ⟨t', rfl⟩ := ry; exact PySem.EqMixed.ne_bool_str (fin_bl I q (by simp))
    | _ => exact absurd (show false = true from hs) Bool.false_ne_true
  | int i =>
    obtain ⟨t, rfl⟩ := rx
    cases y with
    | non => cases ry; exact PySem.EqNone.ne_int_none (fin_bl I q (by simp))
    | int j => obtain ⟨t', rfl⟩ := ry; exact ne_int (fin_bl I q (congrArg not dec_int))
    | str j => obtain ⟨t', rfl⟩ := ry; exact PySem.EqMixed.ne_int_str (fin_bl I q (by simp))
    | _ => exact absurd (show false = true from hs) Bool.false_ne_true
  | str i =>
    obtain ⟨t, rfl⟩ := rx
    cases y with
    | non => cases ry; exact PySem.EqNone.ne_str_none (fin_bl I q (by simp))
    | bl j => cases ry; exact PySem.EqMixed.ne_str_bool (fin_bl I q (by simp))
    | int j => obtain ⟨t', rfl⟩ := ry; exact PySem.EqMixed.ne_str_int (fin_bl I q (by simp))
    | str j => obtain ⟨t', rfl⟩ := ry; exact ne_str (fin_bl I q (congrArg not dec_str))
    | _ => exact absurd (show false = true from hs) Bool.false_ne_true
  | byt i =>
    obtain ⟨t, rfl⟩ := rx
    cases y with
    | byt j => obtain ⟨t', rfl⟩ := ry; exact PySem.W.ne_bytes (fin_bl I q (congrArg not dec_byt))
    | _ => exact absurd (show false = true from hs) Bool.false_ne_true
  | _ => cases y <;> exact absurd (show false = true from hs) Bool.false_ne_true

theorem op_lt : OpR X (compareOp .Lt) (rI0 fun i j => .bl (decide (i < j))) := opB0 fun _ _ _ _ _ _ _ q => lt_int q
theorem op_gt : OpR X (compareOp .Gt) (rI0 fun i j => .bl (decide (j < i))) := opB0 fun _ _ _ _ _ _ _ q => gt_int q
theorem op_ge : OpR X (compareOp .GtE) (rI0 fun i j => .bl (decide (j ≤ i))) := opB0 fun _ _ _ _ _ _ _ q => ge_int q
/-- is None, is not None: the right side a value none -/
theorem op_isN : OpR X (compareOp .Is) (fun x y H Q => y = .non ∧ Q (.bl (decide (x = .non))) H) := by
  intro pins s σ H x y v u Q I rx ry h
  obtain ⟨rfl, q⟩ := h
  cases ry
  refine is_none_gen (fin_bl I q ?_)
  cases x <;> first
    | (cases rx; rfl)
    | (obtain ⟨t, rfl⟩ := rx; rfl)
theorem op_notN : OpR X (compareOp .IsNot) (fun x y H Q => y = .non ∧ Q (.bl (!decide (x = .non))) H) := by
  intro pins s σ H x y v u Q I rx ry h
  obtain ⟨rfl, q⟩ := h
  cases ry
  refine isnot_none_gen (fin_bl I q ?_)
  cases x <;> first
    | (cases rx; rfl)
    | (obtain ⟨t, rfl⟩ := rx; rfl)

theorem nomark (b : Expr) {op : CmpOp} (h : op ≠ .In := by decide) (h2 : op ≠ .NotIn := by decide) : behindInMarks op b = false := by
  have e1 : (op == CmpOp.In) = false := by cases op <;> first | rfl | exact absurd rfl h
  have e2 : (op == CmpOp.NotIn) = false := by cases op <;> first | rfl | exact absurd rfl h2
  cases b <;> simp [behindInMarks, e1, e2]
/-- a comparison as a value; hm: nomark b, or (for in, not in) by with_unfolding_all rfl -/
theorem pe_cmpR {op : CmpOp} {r : R2} (ho : OpR X (compareOp op) r) (ha : PE X a ta) (hb : PE X b tb) (hm : behindInMarks op b = false) : PE X (.Compare a [op] [b] pos) (tOp r ta tb) := by
  intro pins s σ H Q I h
  exact wpAny_Compare1 (binT ha hb I h fun v u s2 x y H2 I2 rx ry q => ho pins s2 σ H2 x y v u Q I2 rx ry q) hm
/-- a reading of a value as a test -/
def tTest (t : TE) : TT := fun σ H Q => t σ H fun x H' => ∃ k, x = .bl k ∧ Q k H'
theorem pt_cmpR {op : CmpOp} {r : R2} (ho : OpR X (compareOp op) r) (ha : PE X a ta) (hb : PE X b tb) (hm : behindInMarks op b = false) : PT X (.Compare a [op] [b] pos) (tTest (tOp r ta tb)) := by
  intro pins s σ H Q I h
  refine wpAny_isTrue_Compare1 (thn (ha pins s σ H _ I h) fun v s1 ⟨x, H1, I1, r1, q1⟩ => thn (hb pins s1 σ H1 _ I1 q1) fun u s2 ⟨y, H2, I2, r2, q2⟩ =>
    thn (ho pins s2 σ H2 x y v u _ I2 r1 r2 q2) fun c s3 ⟨z, H3, I3, r3, k, e, q3⟩ => ?_) hm
  subst e
  cases r3
  exact wpAny_truthy_bool ⟨H3, I3, q3⟩
/-! ### truth -/
theorem line63 : (sizeLine : Nat) < 2 ^ 63 := by rw [sizeLine_eq]; decide
/-! ### strs and bytes -/
theorem op_add_str : OpR X (binaryOp .Add) (fun x y H Q => ∃ i j, x = .str i ∧ y = .str j ∧ i.length + j.length ≤ sizeLine ∧ Q (.str (i ++ j)) H) := by
  intro pins s σ H x y v u Q I rx ry h
  obtain ⟨i, j, rfl, rfl, hz, q⟩ := h
  obtain ⟨t, rfl⟩ := rx
  obtain ⟨t', rfl⟩ := ry
  exact add_str (fun t' tk => ⟨.str (i ++ j), H, I.tok _, ⟨_, rfl⟩, q⟩) hz
/-! ### scalar builtins, by CallR -/
theorem vals1 {x : V} {us : List Value} (r : Vals [x] us) : ∃ u, us = [u] ∧ RelV x u := by
  cases r with
  | cons r1 r2 => cases r2; exact ⟨_, rfl, r1⟩
theorem vals2 {x y : V} {us : List Value} (r : Vals [x, y] us) : ∃ u w', us = [u, w'] ∧ RelV x u ∧ RelV y w' := by
  cases r with
  | cons r1 r2 =>
    cases r2 with
    | cons r3 r4 => cases r4; exact ⟨_, _, rfl, r1, r3⟩
theorem call_abs : CallR X (.builtin "abs") (fun xs H Q => ∃ i, xs = [.int i] ∧ Q (.int (if i < 0 then -i else i)) H) := by
  intro pins s σ H xs us Q I r h
  obtain ⟨i, rfl, q⟩ := h
  obtain ⟨u, rfl, t, rfl⟩ := vals1 r
  exact call_abs_int fun u tk => ⟨.int (if i < 0 then -i else i), H, I.tok _, ⟨_, rfl⟩, q⟩
end
end L2

namespace L2
open PySem PySem.Spec PyProof.Rows

/-! ### an instance, its attributes a map -/
structure ObjM (h : Heap) (x dx C : Addr) (mA : Str → Option Value) : Prop where
  obj : h.get? x = some (PySem.W.instObj C dx)
  ns : h.Ns1 dx mA
  ne : dx ≠ x

theorem lookIn_ns {h : Heap} {dx : Addr} {mA : Str → Option Value} (n : h.Ns1 dx mA) : ∃ od, h.get? dx = some od ∧ ∀ name, PySem.W.lookIn name od = some (mA name) := by
  obtain ⟨o, es, ep, ho, hd, hk, _, hm⟩ := n
  refine ⟨o, ho, fun name => ?_⟩
  have e := hm name
  unfold nsFind findBy at e
  rw [← Array.find?_toList] at e
  unfold PySem.W.lookIn
  rw [hd]
  dsimp only
  split
  · rename_i y q
    rw [q] at e
    exact congrArg some e
  · rename_i q
    rw [q] at e
    have a : es.toList.any (·.refKey) = false := by
      rw [List.any_eq_false]
      intro y hy
      obtain ⟨z, t, hkey⟩ := hk y (Array.mem_toList_iff.mp hy)
      simp [DictEntry.refKey, hkey]
    have a' : ¬ es.toList.any (·.refKey) = true := by rw [a]; exact Bool.false_ne_true
    rw [if_neg a']
    exact congrArg some e

theorem ObjM.look {h : Heap} {x dx C : Addr} {mA : Str → Option Value} (I : ObjM h x dx C mA) : ∃ od, PySem.W.InstAt h x (PySem.W.instObj C dx) C (some od) ∧ ∀ name, PySem.W.lookIn name od = some (mA name) :=
  let ⟨od, ho, hl⟩ := lookIn_ns I.ns
  ⟨od, ⟨I.obj, rfl, rfl, ho⟩, hl⟩

section
variable {prog : Program} {w : World} {A : Around} {E : Value → Shared → Prop} {s : Shared} {K : PySem.W.Frag} {x dx C f : Addr} {mA : Str → Option Value} {name : Str} {v : Value}

theorem get_map {expr : Bool} {Q : Value → Shared → Prop} (X : K.In s.heap) (I : ObjM s.heap x dx C mA) (hg : PySem.W.plainGet K C name = true) (hh : PySem.W.hasDictIn K C = true)
    (ha : PySem.W.findIn K (.ref C) name = some none) (hv : mA name = some v) (hv' : PySem.W.handedIn v = true) (h : Q v { s with toks := s.toks + 1 }) :
    wpAny (model prog w) A (getAttr (.ref x) name expr) Q E s := by
  obtain ⟨od, J, hl⟩ := I.look
  exact PySem.W.get_value X J (PySem.W.plainGet_of hg).1 (PySem.W.findObj_own hh ha rfl (by rw [hl, hv])) hv' h

theorem get_meth {pl : Sem Bool} {Q : Value × List Value → Shared → Prop} (X : K.In s.heap) (I : ObjM s.heap x dx C mA) (hg : PySem.W.plainGet K C name = true)
    (hf : PySem.W.findIn K (.ref C) name = some (some (.ref f))) (ht : PySem.W.isFn K (.ref f) = true) (hv : mA name = none) (h : Q (.ref f, [.ref x]) s) :
    wpAny (model prog w) A (getMethod (.ref x) name pl) Q E s := by
  obtain ⟨od, J, hl⟩ := I.look
  exact PySem.W.method_fn X J (PySem.W.plainGet_of hg).1 (PySem.W.plainGet_of hg).2 hf (beq_iff_eq.mp ht) (by show (PySem.W.lookIn name od).map (·.isSome) = some false; rw [hl, hv]; rfl) h

theorem set_map {ns : List Str} {Q : Unit → Shared → Prop} (X : K.In s.heap) (I : ObjM s.heap x dx C mA)
    (hs : PySem.W.findIn K (.ref C) "__setattr__" = some (some (.builtin "object.__setattr__"))) (hp : PySem.W.plainOver K C = true) (ht : PySem.W.takerIn K C name = some none) (hh : PySem.W.hasDictIn K C = true)
    (hw : PySem.Within mA ns) (hsz : ns.length ≤ sizeLine)
    (h : ∀ h', ObjM h' x dx C (fun y => if y = name then some v else mA y) → Heap.SameBut dx s.heap h' → Q () { s with heap := h', toks := s.toks + 2 }) :
    wpAny (model prog w) A (setAttr (.ref x) name v) Q E s := by
  obtain ⟨od, J, hl⟩ := I.look
  refine PySem.W.set_plain X J hs (PySem.W.osa_open (s := { s with toks := s.toks + 1 }) (r := none) X J hp ht fun b => ?_)
  obtain ⟨cd, hc, hd'⟩ := PySem.W.any_some hh
  have hx : s.heap.get? x = some ⟨.ref C, some dx, .plain, #[]⟩ := I.obj
  refine wpAny_bind (wpAny_pure (wpAny_bind (wpAny_bind (wpAny_loadPart hx (wpAny_bind (PySem.W.Looks.here (s := { s with toks := s.toks + 1 }) (PySem.W.looks_clsIn X hc) ?_))))))
  rw [hd']
  refine wpAny_pure (a := some dx) (wpAny_bind (wpAny_pure (wpAny_bind ?_)))
  refine wpAny_nsSet1 (s := { s with toks := s.toks + 1 }) I.ns fun h' hn2 hs2 => ?_
  obtain ⟨oD, esD, epD, hoD, hdD, hcD⟩ := hn2.count (PySem.Within.cons name v hw)
  refine wpAny_bind (wpAny_lookBehind hoD (by rw [hdD]; exact pastItsLine_dict (Nat.le_trans hcD (by rw [List.length_cons]; omega))) ?_)
  exact wpAny_pure (h _ ⟨(hs2.2 _ (Ne.symm I.ne)).trans I.obj, hn2, I.ne⟩ hs2)

/-- C(..): the dict at the heap's end, the instance behind it; then its __init__ -/
theorem make_map {R : Result → Shared → Prop} {vs : List Value} {kw : List (Str × Value)} (X : K.In s.heap) (hm : PySem.W.makesIn K C = true)
    (hi : PySem.W.findIn K (.ref C) "__init__" = some (some (.ref f))) (hf : PySem.W.typeIn K (.ref f) = some (.type "function"))
    (h : codeAny (model prog w) (A.under (.builtin "type.__call__" ⟨.ref C :: vs, kw⟩)) (.call (.ref f) ⟨.ref (s.heap.objs.size + 1) :: vs, kw⟩) (PySem.W.InitBack (s.heap.objs.size + 1) R)
      { s with heap := (s.heap.push PySem.W.emptyDict).push (PySem.W.instObj C s.heap.objs.size) }) :
    codeAny (model prog w) A (.call (.ref C) ⟨vs, kw⟩) R s := by
  obtain ⟨hh, g, d, t, os⟩ := s
  exact PySem.W.make_core (PySem.W.makes_of X hm) (PySem.W.looks_findIn X hi) (fun self => PySem.W.bind_fn X self hf) (.inl rfl) h
end

/-! ### the attributes as a list of pairs -/
def putF (f : Str) (v : V) : List (Str × V) → List (Str × V)
  | [] => [(f, v)]
  | (g, x) :: r => if g = f then (g, v) :: r else (g, x) :: putF f v r
theorem lookup_putF (f g : Str) (v : V) : ∀ fs : List (Str × V), (putF f v fs).lookup g = if g = f then some v else fs.lookup g
  | [] => by
    show List.lookup g [(f, v)] = _
    by_cases h : g = f
    · have hb : (g == f) = true := beq_iff_eq.mpr h
      simp only [List.lookup, hb, if_pos h]
    · have hb : (g == f) = false := beq_eq_false_iff_ne.mpr h
      simp only [List.lookup, hb, if_neg h]
  | (k, x) :: r => by
    have ih := lookup_putF f g v r
    rw [show putF f v ((k, x) :: r) = (if k = f then (k, v) :: r else (k, x) :: putF f v r) from rfl]
    by_cases hk : k = f
    · rw [if_pos hk]
      by_cases h : g = k
      · have hb : (g == k) = true := beq_iff_eq.mpr h
        simp only [List.lookup, hb, if_pos (h.trans hk)]
      · have hb : (g == k) = false := beq_eq_false_iff_ne.mpr h
        simp only [List.lookup, hb, if_neg (fun e : g = f => h (e.trans hk.symm))]
    · rw [if_neg hk]
      by_cases h : g = k
      · have hb : (g == k) = true := beq_iff_eq.mpr h
        simp only [List.lookup, hb, if_neg (fun e : g = f => hk (h.symm.trans e))]
      · have hb : (g == k) = false := beq_eq_false_iff_ne.mpr h
        simp only [List.lookup, hb]
        exact ih
theorem keys_putF (f : Str) (v : V) : ∀ fs : List (Str × V), f ∈ (putF f v fs).map (·.1) ∧ ∀ g, g ∈ fs.map (·.1) → g ∈ (putF f v fs).map (·.1)
  | [] => ⟨by simp [putF], fun g h => by simp at h⟩
  | (k, x) :: r => by
    obtain ⟨i1, i2⟩ := keys_putF f v r
    rw [show putF f v ((k, x) :: r) = (if k = f then (k, v) :: r else (k, x) :: putF f v r) from rfl]
    by_cases hk : k = f
    · rw [if_pos hk]
      subst hk
      exact ⟨by simp, fun g h => by simpa using h⟩
    · rw [if_neg hk]
      refine ⟨?_, fun g h => ?_⟩
      · rw [List.map_cons]
        exact List.mem_cons_of_mem _ i1
      · rw [List.map_cons] at h ⊢
        rcases List.mem_cons.mp h with e | e
        · exact List.mem_cons.mpr (.inl e)
        · exact List.mem_cons_of_mem _ (i2 g e)
theorem length_putF (f : Str) (v : V) : ∀ fs : List (Str × V), (putF f v fs).length ≤ fs.length + 1
  | [] => by simp [putF]
  | (k, x) :: r => by
    have ih := length_putF f v r
    rw [show putF f v ((k, x) :: r) = (if k = f then (k, v) :: r else (k, x) :: putF f v r) from rfl]
    by_cases hk : k = f
    · rw [if_pos hk, List.length_cons, List.length_cons]; omega
    · rw [if_neg hk, List.length_cons, List.length_cons]; omega

theorem RelO.some_of {v : V} {o : Option Value} (r : RelO (some v) o) : ∃ u, o = some u ∧ RelV v u := by
  cases o with
  | none => exact (show False from r).elim
  | some u => exact ⟨u, rfl, r⟩
theorem RelO.none_of {o : Option Value} (r : RelO none o) : o = none := by
  cases o with
  | none => rfl
  | some u => exact (show False from r).elim
theorem handed_of {v : V} {u : Value} (r : RelV v u) : PySem.W.handedIn u = true := by
  cases v with
  | non => cases (show u = Value.none from r); rfl
  | bl b => cases (show u = Value.bool b from r); rfl
  | int i => obtain ⟨t, e⟩ := (show ∃ t, u = Value.int i t from r); cases e; rfl
  | str x => obtain ⟨t, e⟩ := (show ∃ t, u = Value.str x t from r); cases e; rfl
  | byt b => obtain ⟨t, e⟩ := (show ∃ t, u = Value.bytes b t from r); cases e; rfl
  | flt b => obtain ⟨t, e⟩ := (show ∃ t, u = Value.float b t from r); cases e; rfl
  | ref a => cases (show u = Value.ref a from r); rfl
  | ty n => cases (show u = Value.type n from r); rfl

section
variable {P : Program} {w : World} {H H' : Hp} {h h' : Heap} {a C dx : Addr} {fs fs' : List (Str × V)}
theorem ins_get (hok : HOk P w H h) (e : H a = some (.ins C dx fs)) : ∃ mA, ObjM h a dx C mA ∧ (∀ f, RelO (fs.lookup f) (mA f)) ∧ PySem.Within mA (fs.map (·.1)) ∧ fs.length ≤ 1000 ∧ H dx = some (.own a) := by
  obtain ⟨d, z, ne, ob, mA, n, r, q⟩ := (show ObjOk P w H h a (.ins C dx fs) from hok a _ e)
  exact ⟨mA, ⟨ob, n, ne⟩, r, q, z, d⟩
end

/-! ### what of the text a class must have -/
structure Cls (K : PySem.W.Frag) (C : Addr) : Prop where
  pg : PySem.W.plainGet K C Str.empty = true
  hd : PySem.W.hasDictIn K C = true
  po : PySem.W.plainOver K C = true
  sa : PySem.W.findIn K (.ref C) "__setattr__" = some (some (.builtin "object.__setattr__"))
theorem Cls.get {K : PySem.W.Frag} {C : Addr} (c : Cls K C) (f : Str) : PySem.W.plainGet K C f = true := c.pg
/-- no class of it has the name -/
def NoAttr (K : PySem.W.Frag) (C : Addr) (f : Str) : Prop := PySem.W.findIn K (.ref C) f = some none
theorem NoAttr.taker {K : PySem.W.Frag} {C : Addr} {f : Str} (n : NoAttr K C f) : PySem.W.takerIn K C f = some none := by
  unfold PySem.W.takerIn
  rw [show PySem.W.findIn K (.ref C) f = some none from n]
  rfl
/-- a method: a plain def of the class or of one above it -/
structure Meth (K : PySem.W.Frag) (C : Addr) (m : Str) (f : Addr) : Prop where
  at_ : PySem.W.findIn K (.ref C) m = some (some (.ref f))
  fn : PySem.W.isFn K (.ref f) = true
  kp : PySem.W.keepIn K (.ref f) = true

section
variable {X : Cx} {pins : List (Addr × Obj)} {σ : St} {H : Hp} {s : Shared} {a C dx : Addr} {fs : List (Str × V)} {f : Str} {v : V} {A : Around} {E : Value → Shared → Prop}

theorem getattr_ok {b : Bool} {Q : Value → Shared → Prop} (I : Inv X pins σ H s) (e : H a = some (.ins C dx fs)) (c : Cls X.K C) (n : NoAttr X.K C f) (l : fs.lookup f = some v)
    (h : ∀ u s', Inv X pins σ H s' → RelV v u → Q u s') : wpAny (model X.prog X.w) A (getAttr (.ref a) f b) Q E s := by
  obtain ⟨mA, O, r, _, _, _⟩ := ins_get I.hok e
  obtain ⟨u, hu, ru⟩ := RelO.some_of (v := v) (o := mA f) (by rw [← l]; exact r f)
  exact get_map I.kIn O (c.get f) c.hd n hu (handed_of ru) (h u _ (I.tok _) ru)

theorem getmeth_ok {m : Str} {g : Addr} {pl : Sem Bool} {Q : Value × List Value → Shared → Prop} (I : Inv X pins σ H s) (e : H a = some (.ins C dx fs)) (c : Cls X.K C) (k : Meth X.K C m g) (l : fs.lookup m = none)
    (h : Q (.ref g, [.ref a]) s) : wpAny (model X.prog X.w) A (getMethod (.ref a) m pl) Q E s := by
  obtain ⟨mA, O, r, _, _, _⟩ := ins_get I.hok e
  have hn : mA m = none := RelO.none_of (by rw [← l]; exact r m)
  exact get_meth I.kIn O (c.get m) k.at_ k.fn hn h

theorem setattr_ok {y : V} {u : Value} {Q : Unit → Shared → Prop} (I : Inv X pins σ H s) (e : H a = some (.ins C dx fs)) (c : Cls X.K C) (n : NoAttr X.K C f) (hl : fs.length < 1000) (ry : RelV y u)
    (h : ∀ s', Inv X pins σ (upd H a (.ins C dx (putF f y fs))) s' → Q () s') : wpAny (model X.prog X.w) A (setAttr (.ref a) f u) Q E s := by
  obtain ⟨mA, O, r, wi, _, ho⟩ := ins_get I.hok e
  have hz : (fs.map (·.1)).length ≤ sizeLine := by rw [List.length_map, sizeLine_eq]; omega
  refine set_map I.kIn O c.sa c.po n.taker c.hd wi hz fun h' O' sb => h _ ?_
  have hd : ∃ o, h'.get? dx = some o := let ⟨o, _, _, e', _⟩ := O'.ns; ⟨o, e'⟩
  refine I.write (x := a) (e := dx) (by rw [e]; exact True.intro) (.inr ho) (fun b q hb z => (sb.2 b hb).trans z) hd ?_
  refine ⟨by rw [upd_ne O.ne]; exact ho, ?_, O.ne, O'.obj, _, O'.ns, fun g => ?_, fun g hg => ?_⟩
  · have := length_putF f y fs; omega
  · show RelO ((putF f y fs).lookup g) (if g = f then some u else mA g)
    rw [lookup_putF]
    by_cases q : g = f
    · rw [if_pos q, if_pos q]; exact ry
    · rw [if_neg q, if_neg q]; exact r g
  · by_cases q : g = f
    · rw [q]; exact (keys_putF f y fs).1
    · refine (keys_putF f y fs).2 g (wi g fun z => hg ?_)
      show (if g = f then some u else mA g) = none
      rw [if_neg q]; exact z

/-- a new instance, tracked, without attributes -/
theorem Inv.made (I : Inv X pins σ H s) : Inv X pins σ (upd (upd H s.heap.objs.size (.own (s.heap.objs.size + 1))) (s.heap.objs.size + 1) (.ins C s.heap.objs.size []))
    { s with heap := (s.heap.push PySem.W.emptyDict).push (PySem.W.instObj C s.heap.objs.size) } := by
  have e1 : (s.heap.push PySem.W.emptyDict).get? s.heap.objs.size = some PySem.W.emptyDict := Heap.get?_push_size s.heap rfl
  have e2 : ((s.heap.push PySem.W.emptyDict).push (PySem.W.instObj C s.heap.objs.size)).get? (s.heap.objs.size + 1) = some (PySem.W.instObj C s.heap.objs.size) := by
    have := Heap.get?_push_size (s.heap.push PySem.W.emptyDict) (o := PySem.W.instObj C s.heap.objs.size) rfl
    rwa [Heap.size_push] at this
  have e3 : (s.heap.push PySem.W.emptyDict).Ns s.heap.objs.size (fun _ => none) := ⟨PySem.W.emptyDict, #[], _, e1, rfl, (fun e he => absurd he (by simp)), fun _ => rfl⟩
  have I1 := I.laid (a := s.heap.objs.size) (o := .own (s.heap.objs.size + 1)) (h' := s.heap.push PySem.W.emptyDict) (t' := s.toks) (fun b u q => Heap.get?_push_of_some _ q) (Nat.le_refl _) ⟨_, e1⟩
  refine I1.laid (a := s.heap.objs.size + 1) (o := .ins C s.heap.objs.size []) (t' := s.toks) (fun b u q => Heap.get?_push_of_some _ q) (Nat.le_of_eq (Heap.size_push _ _)) ?_
  have ne : s.heap.objs.size ≠ s.heap.objs.size + 1 := Nat.ne_of_lt (Nat.lt_succ_self _)
  refine ⟨by rw [upd_ne ne, upd_same], Nat.zero_le _, ne, e2, fun _ => none, (Heap.Ns1.of_empty e3).at fun o q => Heap.get?_push_of_some _ q, fun _ => True.intro, fun y hy => absurd rfl hy⟩

/-- e.f where nothing but the object is asked: through attributeBase (super) and the last hold -/
theorem attr_of {prog : Program} {w : World} {env : Env} {e : Expr} {f : Str} {pos : Pos} {s : Shared} {Q : Value → Shared → Prop} (hb : attributeBase e f env (eval e env) = eval e env)
    (h : wpAny (model prog w) A (eval e env) (fun o s₁ => wpAny (model prog w) A (getAttr o f true) Q E s₁) E s) : wpAny (model prog w) A (eval (.Attribute e f pos) env) Q E s :=
  Attribute_any_ h (by rw [arm_eval_Attribute, hb])
end

/-! ### readings and rules -/
/-- e.f, an attribute of the instance -/
def tFld (K : PySem.W.Frag) (ta : TE) (f : Str) : TE := fun σ H Q => ta σ H fun x H1 => ∃ a C dx fs v, x = .ref a ∧ H1 a = some (.ins C dx fs) ∧ Cls K C ∧ NoAttr K C f ∧ fs.lookup f = some v ∧ Q v H1
/-- e.f = value -/
def sFld (K : PySem.W.Frag) (ta tv : TE) (f : Str) : TS := fun D σ H => tv σ H fun y H1 => ta σ H1 fun x H2 => ∃ a C dx fs, x = .ref a ∧ H2 a = some (.ins C dx fs) ∧ Cls K C ∧ NoAttr K C f ∧ fs.length < 1000 ∧
  D.nx σ (upd H2 a (.ins C dx (putF f y fs)))
section
variable {X : Cx} {o e value : Expr} {f : Str} {pos pos' tpos : Pos} {ta tv : TE}
theorem pe_fld (he : PE X e ta) (hb : attributeBase e f X.env (eval e X.env) = eval e X.env) : PE X (.Attribute e f pos) (tFld X.K ta f) := by
  intro pins s σ H Q I h
  refine attr_of hb (thn (he pins s σ H _ I h) fun u s1 ⟨x, H1, I1, rx, a, C, dx, fs, v, ex, ea, c, n, l, q⟩ => ?_)
  subst ex
  obtain rfl : u = Value.ref a := rx
  exact getattr_ok I1 ea c n l fun u' s2 I2 ru => ⟨v, H1, I2, ru, q⟩
theorem ps_fld (ha : PE X o ta) (hv : PE X value tv) (hs : swapsWith value (some (.Attribute o f pos')) pos.line X.env = pure false) : PS X (.Assign [.Attribute o f pos'] value pos) (sFld X.K ta tv f) := by
  intro pins s σ H D I h
  refine plainObj_wpAny_Assign_Attribute (thn (hv pins s σ H _ I h) fun u s1 ⟨y, H1, I1, ry, q⟩ => thn (ha pins s1 σ H1 _ I1 q) fun ov s2 ⟨x, H2, I2, rx, a, C, dx, fs, ex, ea, c, n, l, q2⟩ => ?_) hs
  subst ex
  obtain rfl : ov = Value.ref a := rx
  exact setattr_ok I2 ea c n l ry fun s3 I3 => ⟨σ, _, I3, q2⟩
end

/-! ### isinstance -/
section
variable {X : Cx} {pins : List (Addr × Obj)} {σ : St} {H : Hp} {s : Shared} {A : Around} {E : Value → Shared → Prop} {Q : Value → Shared → Prop} {c : Value} {b : Bool}
/-- the type of a value, as the fragment's deciders take it; for an instance its class -/
inductive TyOf (K : PySem.W.Frag) (H : Hp) : V → Value → Prop where
  | non : TyOf K H .non (.type "NoneType")
  | bl (x : Bool) : TyOf K H (.bl x) (.type "bool")
  | int (i : Int) : TyOf K H (.int i) (.type "int")
  | str (x : Str) : TyOf K H (.str x) (.type "str")
  | flt (x : UInt64) : TyOf K H (.flt x) (.type "float")
  | lst {a : Addr} {xs : List V} (e : H a = some (.lst xs)) : TyOf K H (.ref a) (.type "list")
  | frz {a : Addr} {o : Obj} {xs : List V} (e : H a = some (.frz o (.lst xs))) : TyOf K H (.ref a) (.type "list")
  | tup {a : Addr} {xs : List V} (e : H a = some (.tup xs)) : TyOf K H (.ref a) (.type "tuple")
  | dK {a : Addr} {kvs : List (Key × V)} (e : H a = some (.dK kvs)) : TyOf K H (.ref a) (.type "dict")
  | dT {a : Addr} {kvs : List (List Key × V)} (e : H a = some (.dT kvs)) : TyOf K H (.ref a) (.type "dict")
  | ins {a C dx : Addr} {fs : List (Str × V)} (e : H a = some (.ins C dx fs)) (cl : Cls K C) (ha : PySem.W.findIn K (.ref C) "__class__" = some (some (.builtin "object.__class__")))
      (hn : PySem.W.specialIn K (.builtin "object.__class__") "__get__" = some (some (.builtin "getset_descriptor.__get__"))) (htk : PySem.W.takesIn K (.builtin "object.__class__") = some true)
      (hm : PySem.W.mroIn K C (.type "object") = some true) : TyOf K H (.ref a) (.ref C)
/-- isinstance(x, c) for one class c, a built-in or an own one: kitOne's answer -/
theorem isinst_ok {x : V} {u t : Value} (I : Inv X pins σ H s) (rx : RelV x u) (ty : TyOf X.K H x t) (e : PySem.W.kitOne X.K t c = some b) (h : ∀ tk, Q (.bool b) { s with toks := tk }) :
    wpAny (model X.prog X.w) A (call (.builtin "isinstance") [u, c]) Q E s := by
  cases ty with
  | non => cases (show u = Value.none from rx); exact PySem.W.kia_one PySem.W.kitx_none I.kIn True.intro e (fun z => nomatch z) h
  | bl y => cases (show u = Value.bool y from rx); exact PySem.W.kia_one PySem.W.kitx_bool I.kIn True.intro e (fun z => nomatch z) h
  | int i => obtain ⟨t, q⟩ := (show ∃ t, u = Value.int i t from rx); cases q; exact PySem.W.kia_one PySem.W.kitx_int I.kIn True.intro e (fun z => nomatch z) h
  | str y => obtain ⟨t, q⟩ := (show ∃ t, u = Value.str y t from rx); cases q; exact PySem.W.kia_one PySem.W.kitx_str I.kIn True.intro e (fun z => nomatch z) h
  | flt y => obtain ⟨t, q⟩ := (show ∃ t, u = Value.float y t from rx); cases q; exact PySem.W.kia_one PySem.W.kitx_float I.kIn True.intro e (fun z => nomatch z) h
  | @lst a xs ea =>
    cases (show u = Value.ref a from rx)
    obtain ⟨_, _, n, _, h1⟩ := (show ObjOk X.prog X.w H s.heap a (.lst xs) from I.hok a _ ea)
    exact PySem.W.kia_one PySem.W.kitx_list I.kIn ⟨_, h1, rfl⟩ e (fun z => nomatch z) h
  | @frz a ob xs ea =>
    cases (show u = Value.ref a from rx)
    obtain ⟨_, _, _, n, _, h1⟩ := (show ObjOk X.prog X.w H s.heap a (.frz ob (.lst xs)) from I.hok a _ ea)
    exact PySem.W.kia_one PySem.W.kitx_list I.kIn ⟨_, h1, rfl⟩ e (fun z => nomatch z) h
  | @tup a xs ea =>
    cases (show u = Value.ref a from rx)
    obtain ⟨_, _, _, p⟩ := (show ObjOk X.prog X.w H s.heap a (.tup xs) from I.hok a _ ea)
    obtain ⟨o, h1, h2, _⟩ := p
    exact PySem.W.kia_one PySem.W.kitx_tuple I.kIn ⟨o, h1, h2⟩ e (fun z => nomatch z) h
  | @dK a kvs ea =>
    cases (show u = Value.ref a from rx)
    obtain ⟨_, _, vs, _, p⟩ := (show ObjOk X.prog X.w H s.heap a (.dK kvs) from I.hok a _ ea)
    obtain ⟨o, es, ep, h1, h2, _⟩ := p
    exact PySem.W.kia_one PySem.W.kitx_dict I.kIn ⟨o, h1, h2.1⟩ e (fun z => nomatch z) h
  | @dT a kvs ea =>
    cases (show u = Value.ref a from rx)
    obtain ⟨_, _, xs, _, o, es, ep, h1, h2, _⟩ := (show ObjOk X.prog X.w H s.heap a (.dT kvs) from I.hok a _ ea)
    exact PySem.W.kia_one PySem.W.kitx_dict I.kIn ⟨o, h1, h2.1⟩ e (fun z => nomatch z) h
  | @ins a C dx fs ea cl ha hn htk hm =>
    cases (show u = Value.ref a from rx)
    obtain ⟨mA, O, _⟩ := ins_get I.hok ea
    obtain ⟨od, J, _⟩ := O.look
    exact PySem.W.kia_one (PySem.W.kitx_own (cl.get _) cl.hd ha hn htk hm) I.kIn J e (fun z => nomatch z) h
end
end L2

namespace L2
open PySem PySem.Spec PyProof.Rows

/-! ### room -/
structure Room (k : Nat) (A : Around) : Prop where
  hd : A.handled = none
  dp : A.depth + 3 * k + 5 < recursionLimit
  un : A.units + 16 * k + 200 < cLine
theorem Room.mono {j k : Nat} {A : Around} (r : Room k A) (h : j ≤ k) : Room j A := ⟨r.hd, by have := r.dp; omega, by have := r.un; omega⟩
theorem Room.deeper {k : Nat} {A : Around} (r : Room (k + 1) A) (env : Env) : Room k (A.deeper env) :=
  ⟨r.hd, by have := r.dp; show A.depth + 1 + 3 * k + 5 < _; omega, by have := r.un; show A.units + 3 + 16 * k + 200 < _; omega⟩
theorem make_depth {A : Around} {C : Addr} {us : List Value} {kw : List (Str × Value)} : (A.under (.builtin "type.__call__" ⟨.ref C :: us, kw⟩)).depth = A.depth + 1 := by
  first | rfl | simp [Around.under, Code.weight, Code.isCreation, Code.isGuard, Code.isCaller, Code.frames, Code.isFrame, guardIds]
theorem make_units {A : Around} {C : Addr} {us : List Value} {kw : List (Str × Value)} : (A.under (.builtin "type.__call__" ⟨.ref C :: us, kw⟩)).units = A.units + 1 := by
  first | rfl | simp [Around.under, Code.cUnits, Code.frames, Code.isFrame]
theorem Room.make {k : Nat} {A : Around} (r : Room (k + 1) A) (C : Addr) (us : List Value) (kw : List (Str × Value)) : Room k (A.under (.builtin "type.__call__" ⟨.ref C :: us, kw⟩)) :=
  ⟨r.hd, by have := r.dp; rw [make_depth]; omega, by have := r.un; rw [make_units]; omega⟩
theorem Room.depth {k : Nat} {A : Around} (r : Room k A) : A.depth < recursionLimit := by have := r.dp; omega
theorem Room.units {k : Nat} {A : Around} (r : Room k A) : A.units + 64 < cLine := by have := r.un; omega
theorem Room.units0 {k : Nat} {A : Around} (r : Room k A) : A.units < cLine := by have := r.un; omega

/-! ### argument lists and displays -/
def tNil : TA := fun _ H Q => Q [] H
def tCons (ta : TE) (tr : TA) : TA := fun σ H Q => ta σ H fun x H1 => tr σ H1 fun xs H2 => Q (x :: xs) H2
section
variable {X : Cx} {e : Expr} {es : List Expr} {te : TE} {t : TA} {pos : Pos}
theorem pa_nil : PA X [] tNil := fun _ _ _ _ H Q I h => Calls.spliced_nil ⟨[], H, I, .nil, h⟩
theorem pa_cons (ha : PE X e te) (hr : PA X es t) (hs : starEach (e :: es) X.env = (false, eval e X.env) :: starEach es X.env := by rfl) : PA X (e :: es) (tCons te t) := by
  intro pos pins s σ H Q I h
  rw [hs]
  show wpAny _ _ (spliced ((false, eval e X.env) :: backTo pos (starEach es X.env))) _ _ s
  refine Calls.spliced_cons (thn (ha pins s σ H _ I h) fun u s1 ⟨x, H1, I1, r1, q1⟩ => ?_)
  exact thn (hr pos pins s1 σ H1 _ I1 q1) fun us s2 ⟨xs, H2, I2, r2, q2⟩ => ⟨x :: xs, H2, I2, .cons r1 r2, q2⟩

/-- a tuple, a list of written items -/
def tTup (t : TA) : TE := fun σ H Q => t σ H fun xs H1 => xs.length ≤ sizeLine ∧ ∀ p, H1 p = none → Q (.ref p) (upd H1 p (.tup xs))
def tLst (t : TA) : TE := fun σ H Q => t σ H fun xs H1 => xs.length ≤ sizeLine ∧ ∀ p, H1 p = none → Q (.ref p) (upd H1 p (.lst xs))
theorem pe_tup {x1} (h : PA X es t) : PE X (.Tuple es x1 pos) (tTup t) := by
  intro pins s σ H Q I hq
  refine wpAny_Tuple_spliced (thn (h pos pins s σ H _ I hq) fun us s1 ⟨xs, H1, I1, r, z, q⟩ => ⟨by rw [← r.length]; exact z, ?_⟩)
  have hf : H1 s1.heap.objs.size = none := I1.hok.fresh (Nat.le_refl _)
  refine ⟨.ref s1.heap.objs.size, upd H1 s1.heap.objs.size (.tup xs), I1.laid (t' := s1.toks) (fun b u e => Heap.get?_push_of_some _ e) (Nat.le_refl _) ?_, rfl, q _ hf⟩
  exact ⟨z, us, r, ⟨_, Heap.get?_push_size _ rfl, rfl, _, rfl⟩⟩
theorem pe_lst (h : PA X es t) : PE X (.List es pos) (tLst t) := by
  intro pins s σ H Q I hq
  refine wpAny_List_spliced (thn (h pos pins s σ H _ I hq) fun us s1 ⟨xs, H1, I1, r, z, q⟩ => ⟨by rw [← r.length]; exact z, ?_⟩)
  have hf : H1 s1.heap.objs.size = none := I1.hok.fresh (Nat.le_refl _)
  refine ⟨.ref s1.heap.objs.size, upd H1 s1.heap.objs.size (.lst xs), I1.laid (t' := s1.toks) (fun b u e => Heap.get?_push_of_some _ e) (Nat.le_refl _) ?_, rfl, q _ hf⟩
  exact ⟨z, us, 0, r, Heap.get?_push_size _ rfl⟩
end

/-! ### what a def promises -/
/-- a def's promise: the bound arguments in the parameters' order, the heap, the wanted end, the wanted exception -/
abbrev Sp := List V → Hp → VK → XK → Prop
/-- how an exception lies behind a call (file 08 gives it): the callers' frames, abstract heap and state ahead of the call, the wish, the exception, the state -/
abbrev CXT := List Env → Hp → Shared → XK → Value → Shared → Prop

/-- the state at a call -/
structure Env0 (P : Program) (w : World) (K : PySem.W.Frag) (mg : Str → Option Value) (base : Heap) (A : Around) (outer : List Env) (s : Shared) (H : Hp) : Prop where
  frames : A.frames = some outer
  mod : Mod K mg base
  bs : ∀ b o, base.get? b = some o → s.heap.get? b = some o ∧ H b = none
  bsz : base.objs.size ≤ s.heap.objs.size
  funs : s.heap.FunFrames base outer
  frf : ∀ b ∈ frs outer, H b = none
  hok : HOk P w H s.heap
  bare : AllBare s.gens
/-- a call's end -/
def CE (outer : List Env) (P : Program) (w : World) (H : Hp) (s : Shared) (Q : VK) (u : Value) (s' : Shared) : Prop :=
  ∃ v H', s'.os = s.os ∧ AllBare s'.gens ∧ Un (frs outer) [] H H' s.heap s'.heap ∧ HOk P w H' s'.heap ∧ RelV v u ∧ Q v H'
def CR (CX : CXT) (outer : List Env) (P : Program) (w : World) (H : Hp) (s : Shared) (Q : VK) (E : XK) (r : Result) (s' : Shared) : Prop :=
  match r with
  | .ok (.ret u) => CE outer P w H s Q u s'
  | .ok _ => False
  | .error e => CX outer H s E e s'
structure FnOk (P : Program) (w : World) (K : PySem.W.Frag) (mg : Str → Option Value) (base : Heap) (CX : CXT) (k : Nat) (f : Addr) (fd : FuncData) (ps : List Str) (sp : Sp) : Prop where
  len : ∀ vs H Q E, sp vs H Q E → vs.length = ps.length
  run : ∀ (A : Around) (outer : List Env) (s : Shared) (H : Hp) (args : Args) (us : List Value) (vs : List V) (Q : VK) (E : XK), Room k A → Env0 P w K mg base A outer s H → BindsTo s fd args (ps.zip us) → Vals vs us → sp vs H Q E →
    codeAny (model P w) A (.call (.ref f) args) (CR CX outer P w H s Q E) s
theorem Env0.make {P : Program} {w : World} {K : PySem.W.Frag} {mg : Str → Option Value} {base : Heap} {A : Around} {outer : List Env} {s : Shared} {H : Hp} (e : Env0 P w K mg base A outer s H) (C : Addr) (us : List Value) (kw : List (Str × Value)) :
    Env0 P w K mg base (A.under (.builtin "type.__call__" ⟨.ref C :: us, kw⟩)) outer s H := ⟨by first | exact e.frames | (simpa [Around.under, Code.envs, Code.isFrame, pushEnvs] using e.frames), e.mod, e.bs, e.bsz, e.funs, e.frf, e.hok, e.bare⟩
section
variable {X : Cx} {pins : List (Addr × Obj)} {σ : St} {H : Hp} {s s' : Shared}
/-- from a body: what a callee wants -/
theorem Inv.env0 (I : Inv X pins σ H s) : Env0 X.prog X.w X.K X.mg X.base X.A X.stack s H :=
  ⟨I.ok.frames, I.ok.mod, I.bs, Nat.le_trans I.ok.bsz I.sz, I.stack, I.stkFree, I.hok, I.bare⟩
/-- behind a call -/
theorem Inv.after {Q : VK} {u : Value} (I : Inv X pins σ H s) (h : CE X.stack X.prog X.w H s Q u s') : EP X pins σ Q u s' := by
  obtain ⟨v, H', os, bare, un, hok, r, q⟩ := h
  obtain ⟨hh, g, d, t, os'⟩ := s'
  obtain rfl : os' = s.os := os
  exact ⟨v, H', I.call (h' := hh) (g' := g) (d' := d) (t' := t) (ch := []) un hok bare (fun b z => absurd z (by simp)), r, q⟩
end

/-! ### calls -/
/-- f(..): the written arguments, then the defaults dvs; E: what is wanted of an exception -/
def tCall (sp : Sp) (dvs : List V) (E : XK) (t : TA) : TE := fun σ H Q => t σ H fun vs H1 => sp (vs ++ dvs) H1 Q E
/-- C(..): a new instance and its dict, then __init__ -/
def tMake (C : Addr) (sp : Sp) (dvs : List V) (E : XK) (t : TA) : TE := fun σ H Q => t σ H fun vs H1 => ∀ x dx, H1 x = none → H1 dx = none → dx ≠ x →
  sp (.ref x :: (vs ++ dvs)) (upd (upd H1 dx (.own x)) x (.ins C dx [])) (fun v H2 => v = .non ∧ Q (.ref x) H2) E

/-- how the parameters are bound: us the positional arguments, kw the keywords' values by name, ds the defaults that fill up -/
def Binds (K : PySem.W.Frag) (fd : FuncData) (ps : List Str) (ds : List Value) : Prop :=
  ∀ (s : Shared) (us : List Value), K.In s.heap → (us ++ ds).length = ps.length → BindsTo s fd ⟨us, []⟩ (ps.zip (us ++ ds))
/-- every parameter is given -/
theorem Binds.all {K : PySem.W.Frag} {fd : FuncData} {ps : List Str} (h : ∀ us : List Value, us.length = ps.length → bindArgs fd ⟨us, []⟩ = pure (ps.zip us)) : Binds K fd ps [] := fun s us _ hl => by
  rw [List.append_nil] at hl ⊢
  exact .of_eq (h us hl)

/-- an exception of a callee reaches what this body wants of exceptions -/
def Passes (CX : CXT) (X : Cx) (E : XK) : Prop := ∀ (pins : List (Addr × Obj)) (σ : St) (H : Hp) (s : Shared) (e : Value) (s' : Shared), Inv X pins σ H s → CX X.stack H s E e s' → X.xe e s'

section
variable {X : Cx} {CX : CXT} {k : Nat} {f C : Addr} {fd : FuncData} {ps : List Str} {sp : Sp} {dvs : List V} {ds : List Value} {E : XK} {x m : Str} {p pos apos : Pos} {e o : Expr} {es : List Expr} {ta : TE} {t : TA}

/-- the callee runs -/
theorem run_fn {pins : List (Addr × Obj)} {σ : St} {H : Hp} {s : Shared} {Q : VK} {us : List Value} {vs : List V} (F : FnOk X.prog X.w X.K X.mg X.base CX k f fd ps sp) (hr : Room k X.A) (hb : Binds X.K fd ps ds) (hd : Vals dvs ds) (hx : Passes CX X E)
    (I : Inv X pins σ H s) (r : Vals vs us) (h : sp (vs ++ dvs) H Q E) : wpAny (model X.prog X.w) X.A (call (.ref f) us) (EP X pins σ Q) X.xe s := by
  have r2 : Vals (vs ++ dvs) (us ++ ds) := r.append hd
  have hl : (us ++ ds).length = ps.length := by rw [← r2.length]; exact F.len _ _ _ _ h
  refine wpAny_call (codeAny_mono (F.run X.A X.stack s H ⟨us, []⟩ (us ++ ds) (vs ++ dvs) Q E hr I.env0 (hb s us I.kIn hl) r2 h) fun r s' hq => ?_)
  cases r with
  | error e => exact hx pins σ H s e s' I hq
  | ok fl =>
    cases fl with
    | ret u => exact I.after hq
    | next => exact False.elim hq
    | brk => exact False.elim hq
    | cont => exact False.elim hq

theorem pe_call (F : FnOk X.prog X.w X.K X.mg X.base CX k f fd ps sp) (hr : Room k X.A) (hg : Gl X x) (hm : X.mg x = some (.ref f)) (hk : PySem.W.keepIn X.K (.ref f) = true) (hb : Binds X.K fd ps ds) (hd : Vals dvs ds) (hx : Passes CX X E)
    (ha : PA X (e :: es) t) (hdb : (x == ("__debug__" : Str)) = false := by decide) (he : starEach (e :: es) X.env = (false, eval e X.env) :: starEach es X.env := by rfl) (hpl : (backTo pos (starEach es X.env)).any (·.1) = false := by rfl) :
    PE X (.Call (.Name x p) (e :: es) [] pos) (tCall sp dvs E t) := by
  intro pins s σ H Q I h
  refine wpAny_Call_Name_kw (ld_glob I hg hm ?_ hdb)
  refine PySem.W.callWith_K (h₀ := X.base) I.ok.mod.kin hk (thn (ha pos pins s σ H _ I h) fun us s1 ⟨vs, H1, I1, r, q⟩ => ⟨I1.kIn, ?_⟩) he hpl
  exact run_fn F hr hb hd hx I1 r q
/-- what a class must have to be made -/
structure Mk (K : PySem.W.Frag) (C f : Addr) : Prop where
  makes : PySem.W.makesIn K C = true
  init : PySem.W.findIn K (.ref C) "__init__" = some (some (.ref f))
  fn : PySem.W.isFn K (.ref f) = true
  kp : PySem.W.keepIn K (.ref C) = true

theorem run_make {pins : List (Addr × Obj)} {σ : St} {H : Hp} {s : Shared} {Q : VK} {us : List Value} {vs : List V} (M : Mk X.K C f) (F : FnOk X.prog X.w X.K X.mg X.base CX k f fd ps sp) (hr : Room (k + 1) X.A) (hb : Binds X.K fd ps ds) (hd : Vals dvs ds)
    (hx : Passes CX X E) (I : Inv X pins σ H s) (r : Vals vs us)
    (h : ∀ x dx, H x = none → H dx = none → dx ≠ x → sp (.ref x :: (vs ++ dvs)) (upd (upd H dx (.own x)) x (.ins C dx [])) (fun v H2 => v = .non ∧ Q (.ref x) H2) E) :
    wpAny (model X.prog X.w) X.A (call (.ref C) us) (EP X pins σ Q) X.xe s := by
  have hq := h (s.heap.objs.size + 1) s.heap.objs.size (I.hok.fresh (Nat.le_succ _)) (I.hok.fresh (Nat.le_refl _)) (Nat.ne_of_lt (Nat.lt_succ_self _))
  have I2 := Inv.made (C := C) I
  have r2 : Vals (V.ref (s.heap.objs.size + 1) :: (vs ++ dvs)) (Value.ref (s.heap.objs.size + 1) :: (us ++ ds)) := .cons rfl (r.append hd)
  have hl : (Value.ref (s.heap.objs.size + 1) :: us ++ ds).length = ps.length := by
    have e := r2.length
    rw [F.len _ _ _ _ hq] at e
    exact e.symm
  refine wpAny_call (make_map (f := f) I.kIn M.makes M.init (beq_iff_eq.mp M.fn) (codeAny_mono (F.run _ X.stack _ _ ⟨Value.ref (s.heap.objs.size + 1) :: us, []⟩ (Value.ref (s.heap.objs.size + 1) :: (us ++ ds)) _ _ E (hr.make C us [])
    (I2.env0.make C us []) (hb _ (Value.ref (s.heap.objs.size + 1) :: us) I2.kIn hl) r2 hq) fun r s' hq' => ?_))
  cases r with
  | error e => exact hx pins σ _ _ e s' I2 hq'
  | ok fl =>
    cases fl with
    | ret u =>
      obtain ⟨v, H', I3, rv, ev, q3⟩ := I2.after hq'
      subst ev
      exact ⟨rv, ⟨V.ref (s.heap.objs.size + 1), H', I3, rfl, q3⟩⟩
    | next => exact False.elim hq'
    | brk => exact False.elim hq'
    | cont => exact False.elim hq'
theorem pe_make (M : Mk X.K C f) (F : FnOk X.prog X.w X.K X.mg X.base CX k f fd ps sp) (hr : Room (k + 1) X.A) (hg : Gl X x) (hm : X.mg x = some (.ref C)) (hb : Binds X.K fd ps ds) (hd : Vals dvs ds) (hx : Passes CX X E)
    (ha : PA X (e :: es) t) (hdb : (x == ("__debug__" : Str)) = false := by decide) (he : starEach (e :: es) X.env = (false, eval e X.env) :: starEach es X.env := by rfl) (hpl : (backTo pos (starEach es X.env)).any (·.1) = false := by rfl) :
    PE X (.Call (.Name x p) (e :: es) [] pos) (tMake C sp dvs E t) := by
  intro pins s σ H Q I h
  refine wpAny_Call_Name_kw (ld_glob I hg hm ?_ hdb)
  refine PySem.W.callWith_K (h₀ := X.base) I.ok.mod.kin M.kp (thn (ha pos pins s σ H _ I h) fun us s1 ⟨vs, H1, I1, r, q⟩ => ⟨I1.kIn, ?_⟩) he hpl
  exact run_make M F hr hb hd hx I1 r q
end

/-! ### keywords -/
section
variable {X : Cx} {CX : CXT} {k : Nat} {f C : Addr} {fd : FuncData} {ps ks : List Str} {sp : Sp} {E : XK} {x m : Str} {p pos apos kpos : Pos} {e o : Expr} {es : List Expr} {kws : List Keyword} {te ta : TE} {t tk : TA} {nm : Option Str}
variable {g : List Value → List Value → List Value} {gV : List V → List V → List V}
end

/-! ### a def's body keeps its promise -/
/-- names: the parameters first -/
structure FnScope (N P : List Str) (sc : Scope) : Prop where
  kind : sc.kind = .function
  co : sc.isCoroutine = false
  gen : sc.isGenerator = false
  nd : N.Nodup
  pre : N.take P.length = P
  par : ∀ x ∈ P, sc.names.lookup x = some .local ∨ sc.names.lookup x = some .cell
  nofree : ∀ y ∈ sc.names, y.2 ≠ .free

theorem bindL_out {kindOf : Str → Option NameKind} {x : Str} : ∀ {binds : List (Str × Value)} {m : Str → Option Value}, (∀ v, (x, v) ∉ binds) → bindL kindOf binds m x = m x
  | [], _, _ => rfl
  | (n, v) :: r, m, h => by
    unfold bindL
    rw [bindL_out fun w hw => h w (List.mem_cons_of_mem _ hw)]
    split
    · have : x ≠ n := by rintro rfl; exact h v List.mem_cons_self
      simp [this]
    · rfl
theorem bindC_out {kindOf : Str → Option NameKind} {x : Str} : ∀ {binds : List (Str × Value)} {m : Str → Option Value}, (∀ v, (x, v) ∉ binds) → bindC kindOf binds m x = m x
  | [], _, _ => rfl
  | (n, v) :: r, m, h => by
    unfold bindC
    rw [bindC_out fun w hw => h w (List.mem_cons_of_mem _ hw)]
    split
    · rfl
    · have : x ≠ n := by rintro rfl; exact h v List.mem_cons_self
      simp [this]
theorem bindL_get {kindOf : Str → Option NameKind} {x : Str} {v : Value} : ∀ {P : List Str} {vs : List Value} {i : Nat} {m : Str → Option Value}, P.Nodup → P[i]? = some x → vs[i]? = some v → kindOf x = some .local →
    bindL kindOf (P.zip vs) m x = some v
  | [], _, _, _, _, h, _, _ => by simp at h
  | _ :: _, [], _, _, _, _, h, _ => by simp at h
  | p :: P, w :: vs, 0, m, nd, h1, h2, hk => by
    simp at h1 h2; subst h1; subst h2
    show bindL kindOf ((p, w) :: P.zip vs) m p = _
    unfold bindL
    rw [bindL_out fun v hv => (List.nodup_cons.mp nd).1 (List.of_mem_zip hv).1, if_pos hk]
    simp
  | p :: P, w :: vs, i + 1, m, nd, h1, h2, hk => by
    show bindL kindOf ((p, w) :: P.zip vs) m x = _
    unfold bindL
    exact bindL_get (i := i) (List.nodup_cons.mp nd).2 (by simpa using h1) (by simpa using h2) hk
theorem bindC_get {kindOf : Str → Option NameKind} {x : Str} {v : Value} : ∀ {P : List Str} {vs : List Value} {i : Nat} {m : Str → Option Value}, P.Nodup → P[i]? = some x → vs[i]? = some v → kindOf x ≠ some .local →
    bindC kindOf (P.zip vs) m x = some v
  | [], _, _, _, _, h, _, _ => by simp at h
  | _ :: _, [], _, _, _, _, h, _ => by simp at h
  | p :: P, w :: vs, 0, m, nd, h1, h2, hk => by
    simp at h1 h2; subst h1; subst h2
    show bindC kindOf ((p, w) :: P.zip vs) m p = _
    unfold bindC
    rw [bindC_out fun v hv => (List.nodup_cons.mp nd).1 (List.of_mem_zip hv).1, if_neg hk]
    simp
  | p :: P, w :: vs, i + 1, m, nd, h1, h2, hk => by
    show bindC kindOf ((p, w) :: P.zip vs) m x = _
    unfold bindC
    exact bindC_get (i := i) (List.nodup_cons.mp nd).2 (by simpa using h1) (by simpa using h2) hk

/-- the names' values at the entry -/
def start (N : List Str) (vs : List V) : St := vs.map some ++ List.replicate (N.length - vs.length) none

/-- the context of a def's body, at its entry; an exception leaves the frame, then lies as CX says -/
def cxOf (CX : CXT) (P : Program) (w : World) (K : PySem.W.Frag) (mg : Str → Option Value) (base : Heap) (N : List Str) (qual : Str) (scope : Scope) (f : Addr) (cd : Value) (A : Around) (outer : List Env) (s : Shared) (H : Hp) (E : XK) : Cx where
  prog := P
  w := w
  K := K
  mg := mg
  base := base
  A := A.deeper (envOfC qual scope s.heap.objs.size f cd)
  N := N
  s₀ := s
  H₀ := H
  env := envOfC qual scope s.heap.objs.size f cd
  outer := outer
  stack := envOfC qual scope s.heap.objs.size f cd :: outer
  ex := []
  calm := true
  fn := fun _ => true
  pn := []
  xe := fun e s' => wpAny (model P w) (A.deeper (envOfC qual scope s.heap.objs.size f cd)) (leaving (envOfC qual scope s.heap.objs.size f cd) e) (fun _ s'' => CX outer H s E e s'') (fun e' s'' => CX outer H s E e' s'') s'

theorem cell_has {sc : Scope} {n : Nat} {x : Str} (h : sc.names.lookup x = some .cell) : ∃ c, (cellsFrom n sc.names []).lookup x = some c := by
  have q := PySem.W.cellsFrom_some sc.names n [] (.inl h)
  exact Option.isSome_iff_exists.mp q

theorem inv_start {CX : CXT} {P : Program} {w : World} {K : PySem.W.Frag} {mg : Str → Option Value} {base : Heap} {N ps : List Str} {qual : Str} {scope : Scope} {f : Addr} {cd : Value} {A : Around} {outer : List Env} {s s1 : Shared} {H : Hp} {E : XK} {us : List Value} {vs : List V}
    (S : FnScope N ps scope) (hd : A.handled = none) (e0 : Env0 P w K mg base A outer s H) (hl : vs.length = ps.length) (r : Vals vs us)
    (x : InCallC s s.heap.objs.size (bindL (envOfC qual scope s.heap.objs.size f cd).kindOf (ps.zip us) fun _ => none) (cellsFrom (s.heap.objs.size + 1) scope.names []) (bindC (envOfC qual scope s.heap.objs.size f cd).kindOf (ps.zip us) fun _ => none) s1) :
    Inv (cxOf CX P w K mg base N qual scope f cd A outer s H E) [] (start N vs) H s1 := by
  have hpl : ps.length ≤ N.length := by have := congrArg List.length S.pre; rw [List.length_take] at this; omega
  obtain ⟨h1, tk, rfl, hk⟩ := x.done
  have noA : ∀ b : Addr, b ∉ (cxOf CX P w K mg base N qual scope f cd A outer s H E).ex := fun b z => absurd (show b ∈ ([] : List Addr) from z) (by simp)
  refine ⟨⟨e0.mod, S.kind, rfl, rfl, Nat.le_refl _, fun y z c h1 h2 => ?_, fun y hy => ?_, fun y c _ h => ?_, fun _ => hd, Around.frames_deeper e0.frames, .inr ⟨rfl, rfl⟩, fun b z => absurd z (noA b), e0.bs, e0.bsz, fun b _ _ => noA b, fun b z => absurd z (noA b), e0.funs, e0.frf⟩,
    rfl, e0.bare, Un.kept hk, ⟨_, x.toInCall.ns, fun i y v h1 h2 h3 => ?_⟩, fun y c h => ⟨_, x.cell y c h⟩, e0.hok.fresh (Nat.le_refl _), fun y c h => ?_, fun p hp => absurd (show p ∈ ([] : List (Addr × Obj)) from hp) (by simp), e0.hok.kept hk, ?_⟩
  · exact name_of_addr x.apart (PySem.mem_of_lookup h1) (PySem.mem_of_lookup h2)
  · have hy : scope.names.lookup y = some .cell ∨ scope.names.lookup y = some .free := hy
    rcases hy with hy | hy
    · exact cell_has hy
    · exact absurd rfl (S.nofree _ (PySem.mem_of_lookup hy))
  · exact Nat.le_of_lt (x.above y c (PySem.mem_of_lookup h))
  · have hi : i < vs.length := by
      unfold start at h2
      by_cases hi : i < vs.length
      · exact hi
      · rw [List.getElem?_append_right (by simpa using hi)] at h2
        rw [List.getElem?_replicate] at h2
        split at h2 <;> cases h2
    have ha : vs[i]? = some v := by
      unfold start at h2
      rw [List.getElem?_append_left (by simpa using hi), List.getElem?_map] at h2
      cases e : vs[i]? with
      | none => rw [e] at h2; cases h2
      | some a => rw [e] at h2; cases h2; rfl
    obtain ⟨u, hu, rv⟩ := r.get ha
    have hp : ps[i]? = some y := by
      rw [← S.pre, List.getElem?_take_of_lt (by omega)]; exact h1
    have ndP : ps.Nodup := by rw [← S.pre]; exact S.nd.sublist (List.take_sublist _ _)
    refine ⟨u, rv, ?_⟩
    rcases S.par y (List.mem_of_getElem? hp) with k | k
    · exact .inl ⟨k, bindL_get ndP hp hu k⟩
    · obtain ⟨c, e⟩ := cell_has (n := s.heap.objs.size + 1) k
      refine .inr ⟨.inl k, c, e, ?_⟩
      have q := x.cell y c e
      rw [bindC_get ndP hp hu (by show scope.names.lookup y ≠ _; rw [k]; decide)] at q
      exact q
  · exact e0.hok.fresh (Nat.le_of_lt (x.above y c (PySem.mem_of_lookup h)))
  · unfold start
    show _ = N.length
    rw [List.length_append, List.length_map, List.length_replicate]
    omega

/-- THE RULE: a def (or a method) of the text, by its body. The body's reading t is chosen for each entry; it is run at the parameters' values -/
theorem fn_of {CX : CXT} {P : Program} {w : World} {K : PySem.W.Frag} {mg : Str → Option Value} {base : Heap} {k : Nat} {f : Addr} {name qual : Str} {params : Arguments} {body : List Stmt} {scope : Scope} {dV kV doc pm cdv ct oc : Value} {an od : Option Addr}
    {osl : Array (Option Value)} {N ps : List Str} {sp : Sp} (lk : K.lookup f = some ⟨oc, od, .func (PySem.W.fnOf name qual params body scope dV kV doc pm an cdv ct), osl⟩) (hcd : PySem.W.codeIn K cdv qual = true) (S : FnScope N ps scope)
    (len : ∀ vs H Q E, sp vs H Q E → vs.length = ps.length)
    (hbody : ∀ (A : Around) (outer : List Env) (s : Shared) (H : Hp) (vs : List V) (Q : VK) (E : XK), Room k (A.deeper (envOfC qual scope s.heap.objs.size f cdv)) → sp vs H Q E →
      ∃ t, PSs (cxOf CX P w K mg base N qual scope f cdv A outer s H E) body t ∧ t { nx := fun _ H' => Q .non H', rt := Q } (start N vs) H) :
    FnOk P w K mg base CX (k + 1) f (PySem.W.fnOf name qual params body scope dV kV doc pm an cdv ct) ps sp := by
  refine ⟨len, fun A outer s H args us vs Q E hr e0 hb r hsp => ?_⟩
  have hl := len _ _ _ _ hsp
  have KX : K.In s.heap := e0.mod.kin.keeps fun b o e => (e0.bs b o e).1
  have lim : s.heap.NoLimit := e0.mod.nolimit.keeps fun b o e => (e0.bs b o e).1
  have hkind : ∀ y ∈ ps.zip us, scope.names.lookup y.1 = some .local ∨ (scope.names.lookup y.1 = some .cell ∧ ((cellsFrom (s.heap.objs.size + 1) scope.names []).lookup y.1).isSome = true) := fun ⟨n, v⟩ hy => by
    rcases S.par n (List.of_mem_zip hy).1 with q | q
    · exact .inl q
    · exact .inr ⟨q, PySem.W.cellsFrom_some _ _ _ (.inl q)⟩
  refine codeAny_call_function hr.depth (KX _ _ lk) rfl S.co S.gen rfl (PySem.W.codeRec_of KX hcd) (hb _ _ _ _ ?_)
  refine wpAny_newFunctionEnv_cells S.kind hkind fun env he s1 x => ?_
  subst he
  refine ⟨lim.keeps x.toInCall.keep, codeAny_func ?_⟩
  obtain ⟨t, ht, hq⟩ := hbody A outer s H vs Q E (hr.deeper _) hsp
  have I : Inv (cxOf CX P w K mg base N qual scope f cdv A outer s H E) [] (start N vs) H s1 := inv_start S hr.hd e0 hl r x
  refine wpAny_mono (ht [] s1 (start N vs) H _ I hq) (fun fl s' hs => ?_) fun e s' hs => hs
  have fin : ∀ {σ' : St} {H' : Hp} {v : V} {u : Value}, Inv (cxOf CX P w K mg base N qual scope f cdv A outer s H E) [] σ' H' s' → RelV v u → Q v H' → CE outer P w H s Q u s' :=
    fun {σ' H' v u} J rv q => ⟨v, H', J.os, J.bare, J.base, J.hok, rv, q⟩
  cases fl with
  | ret u =>
    obtain ⟨v, σ', H', J, rv, q⟩ := hs
    exact fin J rv q
  | next =>
    obtain ⟨σ', H', J, q⟩ := hs
    exact fin (v := V.non) (u := Value.none) J rfl q
  | brk =>
    obtain ⟨_, _, _, q⟩ := hs
    exact False.elim q
  | cont =>
    obtain ⟨_, _, _, q⟩ := hs
    exact False.elim q
end L2

namespace L2
open PySem PySem.Spec PyProof.Rows
section
variable {X : Cx} {x : Str} {p pos : Pos} {e : Expr} {es : List Expr} {t : TA} {id T : String} {r : List V → Hp → VK → Prop}

def tCB (r : List V → Hp → VK → Prop) (t : TA) : TE := fun σ H Q => t σ H fun vs H1 => r vs H1 Q
/-- f(e, ..), f a built-in function -/
theorem pe_callB (hc : CallR X (.builtin id) r) (hg : Gl X x) (hm : X.mg x = none) (hv : bootBuiltins x = some (.builtin id)) (ha : PA X (e :: es) t) (hn : x ≠ "__name__" := by decide) (hdb : (x == ("__debug__" : Str)) = false := by decide)
    (he : starEach (e :: es) X.env = (false, eval e X.env) :: starEach es X.env := by rfl) (hpl : (backTo pos (starEach es X.env)).any (·.1) = false := by rfl) : PE X (.Call (.Name x p) (e :: es) [] pos) (tCB r t) := by
  intro pins s σ H Q I h
  refine wpAny_Call_Name_kw (ld_blt I hg hm hv ?_ hn hdb)
  exact PyProof.Rows.callWith_builtin1 (thn (ha pos pins s σ H _ I h) fun us s1 ⟨vs, H1, I1, r1, q1⟩ => hc pins s1 σ H1 vs us Q I1 r1 q1) he hpl
/-- T(e, ..), T a built-in type -/
theorem pe_callTy (hc : CallR X (.type T) r) (hg : Gl X x) (hm : X.mg x = none) (hv : bootBuiltins x = some (.type T)) (ha : PA X (e :: es) t) (hn : x ≠ "__name__" := by decide) (hdb : (x == ("__debug__" : Str)) = false := by decide)
    (he : starEach (e :: es) X.env = (false, eval e X.env) :: starEach es X.env := by rfl) (hpl : (backTo pos (starEach es X.env)).any (·.1) = false := by rfl) : PE X (.Call (.Name x p) (e :: es) [] pos) (tCB r t) := by
  intro pins s σ H Q I h
  refine wpAny_Call_Name_kw (ld_blt I hg hm hv ?_ hn hdb)
  exact PyProof.Rows.callWith_type1 (thn (ha pos pins s σ H _ I h) fun us s1 ⟨vs, H1, I1, r1, q1⟩ => hc pins s1 σ H1 vs us Q I1 r1 q1) he hpl
end
end L2

namespace HT
open PySem PyProof.Rows

section
open PySem.SeqAt
open PySem.AutoSeq1 (wpAny_loadPart')
open PySem.MeetsSeq PySem.MeetsSeq2 PySem.MeetsSeq3

end

section
variable {prog : Program} {w : World} {A : Around} {E : Value → Shared → Prop} {s : Shared}

/-- t + u, t not empty -/
theorem cat_tup {t b : Addr} {vs ws : List Value} {Q : Value → Shared → Prop} (ht : IsTup s.heap t vs.toArray) (hb : IsTup s.heap b ws.toArray) (hv : vs ≠ [])
    (h1 : ws = [] → Q (.ref t) s) (h2 : ws ≠ [] → Q (.ref s.heap.objs.size) { s with heap := s.heap.push { cls := .type "tuple", data := .seq (vs ++ ws).toArray } })
    (hsz : vs.length + ws.length ≤ sizeLine) : wpAny (model prog w) A (binaryOp .Add (.ref t) (.ref b)) Q E s := by
  obtain ⟨⟨cls, dd, data, sl⟩, ho, hc, n, hd⟩ := id ht
  obtain ⟨⟨cls2, dd2, data2, sl2⟩, ho2, hc2, n2, hd2⟩ := id hb
  simp only at hc hd hc2 hd2
  subst hc hd hc2 hd2
  have e : vs.toArray ++ ws.toArray = (vs ++ ws).toArray := by simp
  by_cases hw : ws = []
  · exact concat_meets ⟨_, ho, rfl⟩ ⟨_, ho2, rfl⟩ noFill_tuple_add seq_tuple_add PySem.F.slot_tuple_add PySem.F.entry_tuple_add (PySem.F.args_tuple_add_2 _ _)
      (tuple_addW1 t b vs.toArray ws.toArray n n2 dd dd2 sl sl2 (by simpa using hv) (by simp [hw])) ⟨ho, ho2, h1 hw⟩
  · refine concat_meets ⟨_, ho, rfl⟩ ⟨_, ho2, rfl⟩ noFill_tuple_add seq_tuple_add PySem.F.slot_tuple_add PySem.F.entry_tuple_add (PySem.F.args_tuple_add_2 _ _)
      (tuple_addW2 t b vs.toArray ws.toArray n n2 dd dd2 sl sl2 (by simpa using hv) (by simpa using hw) (by rw [List.size_toArray, List.size_toArray]; exact hsz)) ⟨ho, ho2, ?_⟩
    rw [e]
    exact h2 hw

/-! ### t[a:b], not the whole -/
/-- a slice's bound as a place among n (d where it is left out) -/
def sIx (n d : Nat) : Option Int → Nat
  | none => d
  | some v => if v < 0 then (v + (n : Int)).toNat else min v.toNat n
theorem sIx_le (n d : Nat) (hd : d ≤ n) (o : Option Int) : sIx n d o ≤ n := by
  cases o with
  | none => exact hd
  | some v =>
    show (if v < 0 then (v + (n : Int)).toNat else min v.toNat n) ≤ n
    by_cases hv : v < 0
    · rw [if_pos hv]; omega
    · rw [if_neg hv]; exact Nat.min_le_right _ _
theorem clip_eq (v : Int) (n d : Nat) : (if v < 0 then max (v + (n : Int)) 0 else min v (n : Int)) = ((sIx n d (some v) : Nat) : Int) := by
  show (if v < 0 then max (v + (n : Int)) 0 else min v (n : Int)) = (((if v < 0 then (v + (n : Int)).toNat else min v.toNat n) : Nat) : Int)
  by_cases hv : v < 0
  · simp only [if_pos hv]; omega
  · simp only [if_neg hv]; omega
theorem adjust_gen (lo hi : Option Int) (n : Nat) : Builtin.Slice.sliceAdjust lo hi 1 (n : Int) = (((sIx n 0 lo : Nat) : Int), ((sIx n n hi : Nat) : Int)) := by
  have h1 : ¬ ((1 : Int) < 0) := by omega
  unfold Builtin.Slice.sliceAdjust
  simp only [h1, if_false]
  refine Prod.ext ?_ ?_
  · cases lo with
    | none => rfl
    | some v => exact clip_eq v n 0
  · cases hi with
    | none => rfl
    | some v => exact clip_eq v n n
theorem places_gen (i j : Nat) : Builtin.Slice.slicePlaces (i : Int) (j : Int) 1 = j - i := by
  unfold Builtin.Slice.slicePlaces
  have h1 : (1 : Int) > 0 := by omega
  simp only [h1, if_true, Int.ediv_one]
  split <;> omega
theorem slicePart_ {v : Value} {o : Option Int} {Q : Option Int → Shared → Prop} (p : IsPart v o) (h : Q o s) : wpAny (model prog w) A (Builtin.Slice.slicePartIndex v) Q E s := by
  cases p with
  | none => exact slicePart_none h
  | int i t => exact slicePart_int h
theorem sliceApplied_gen {sl : Addr} {vl vu : Value} {lo hi : Option Int} {n : Nat} {Q : Int × Int × Nat → Shared → Prop} (hs : s.heap.IsSliceOf sl vl vu .none) (pl : IsPart vl lo) (pu : IsPart vu hi)
    (h : Q (((sIx n 0 lo : Nat) : Int), 1, sIx n n hi - sIx n 0 lo) s) : wpAny (model prog w) A (Builtin.Slice.sliceApplied (.ref sl) (pure (n : Int))) Q E s := by
  obtain ⟨os, hos, hcs, hds⟩ := id hs
  unfold Builtin.Slice.sliceApplied Builtin.Slice.sliceFields
  refine wpAny_bind (wpAny_bind (wpAny_field hos hds (x := vl) rfl (wpAny_bind (wpAny_field hos hds (x := vu) rfl (wpAny_bind (wpAny_field hos hds (x := .none) rfl (wpAny_pure ?_)))))))
  refine wpAny_bind (slicePart_none ?_)
  show wpAny _ _ (if ((1 : Int) == 0) = true then _ else _) _ _ s
  rw [if_neg (by decide)]
  refine wpAny_bind (slicePart_ pl (wpAny_bind (slicePart_ pu (wpAny_bind (wpAny_pure ?_)))))
  show wpAny _ _ (match Builtin.Slice.sliceAdjust lo hi 1 (n : Int) with | (lo, hi) => pure (lo, (1 : Int), Builtin.Slice.slicePlaces lo hi 1)) _ _ s
  rw [adjust_gen lo hi n]
  show wpAny _ _ (pure (((sIx n 0 lo : Nat) : Int), (1 : Int), Builtin.Slice.slicePlaces ((sIx n 0 lo : Nat) : Int) ((sIx n n hi : Nat) : Int) 1)) _ _ s
  rw [places_gen]
  exact wpAny_pure h
theorem pick_gen (xs : Array Value) (i k : Nat) : ((List.range k).filterMap fun (m : Nat) => xs[((i : Int) + (m : Int) * 1).toNat]?).toArray = ((xs.toList.drop i).take k).toArray := by
  have e : (fun (m : Nat) => xs[((i : Int) + (m : Int) * 1).toNat]?) = fun m => xs[i + m]? := by
    funext m
    have : ((i : Int) + (m : Int) * 1).toNat = i + m := by omega
    rw [this]
  rw [e]
  have := pick_run xs i k
  rw [List.filterMap_map] at this
  have e2 : ((fun x => xs[x]?) ∘ fun x => i + x) = fun m => xs[i + m]? := rfl
  rw [e2] at this
  rw [this]

theorem getItem_tuple_cut {t sl : Addr} {items : Array Value} {vl vu : Value} {lo hi : Option Int} {Q : Value → Shared → Prop} (ht : IsTup s.heap t items) (hs : s.heap.IsSliceOf sl vl vu .none) (pl : IsPart vl lo) (pu : IsPart vu hi)
    (hw : ¬ (sIx items.size 0 lo = 0 ∧ sIx items.size items.size hi = items.size))
    (h : Q (.ref s.heap.objs.size) { s with heap := s.heap.push { cls := .type "tuple", data := .seq ((items.toList.drop (sIx items.size 0 lo)).take (sIx items.size items.size hi - sIx items.size 0 lo)).toArray } })
    (hsz : items.size ≤ sizeLine) : wpAny (model prog w) A (getItem (.ref t) (.ref sl)) Q E s := by
  have htake : sizeOk (.seq ((items.toList.drop (sIx items.size 0 lo)).take (sIx items.size items.size hi - sIx items.size 0 lo)).toArray) := by
    show ((items.toList.drop (sIx items.size 0 lo)).take (sIx items.size items.size hi - sIx items.size 0 lo)).toArray.size ≤ sizeLine
    rw [List.size_toArray, List.length_take, List.length_drop, Array.length_toList]
    omega
  have hj : sIx items.size items.size hi ≤ items.size := sIx_le _ _ (Nat.le_refl _) hi
  obtain ⟨os, hos, hcs, hds⟩ := id hs
  have hTs : s.TypeIs (.ref sl) "slice" := ⟨os, hos, hcs⟩
  unfold getItem
  try with_reducible refine wpAny_holding ?_
  first | refine wpAny_bind (wpAny_pure ?_) | skip
  refine wpAny_bind (wpAny_sequenceKey ht.typeIs (by decide) ?_)
  refine wpAny_bind (wpAny_callSpecial?_slot (name := Str.ofString "__getitem__") ht.typeIs PyProof.Rows.slot_tuple_getitem
    (wpAny_call_entry PyProof.Rows.slot_tuple_getitem ht.typeIs entry_tuple_getitem ?_ (args_tuple_getitem _ _)))
  show wpAny _ _ (Builtin.Tuple.tupleItemsOf (.ref t) >>= _) _ _ s
  refine wpAny_bind (tupleItemsOf_ ht ?_)
  refine wpAny_bind (wpAny_typeOf hTs ?_)
  rw [if_pos (by decide)]
  refine wpAny_bind (sliceApplied_gen hs pl pu ?_)
  have hno : ¬ ((((sIx items.size 0 lo : Nat) : Int) == 0 && (1 : Int) == 1 && (sIx items.size items.size hi - sIx items.size 0 lo) == items.size) = true) := by
    intro q
    rw [Bool.and_eq_true, Bool.and_eq_true] at q
    have q1 : ((sIx items.size 0 lo : Nat) : Int) = 0 := eq_of_beq q.1.1
    have q2 : sIx items.size items.size hi - sIx items.size 0 lo = items.size := eq_of_beq q.2
    exact hw ⟨by omega, by omega⟩
  show wpAny _ _ (if (((sIx items.size 0 lo : Nat) : Int) == 0 && (1 : Int) == 1 && (sIx items.size items.size hi - sIx items.size 0 lo) == items.size) = true then _ else _) _ _ s
  rw [if_neg hno, pick_gen]
  first
    | exact wpAny_bind (m := Builtin.Tuple.tupleExact _) (wpAny_newObj_type (wpAny_pure ⟨_, rfl, wpAny_pure h⟩) htake)
    | exact wpAny_bind (m := Builtin.Tuple.tupleExact _) (wpAny_newObj_type (wpAny_bind (wpAny_pure (wpAny_pure ⟨_, rfl, wpAny_pure h⟩))) htake)
    | exact wpAny_bind (wpAny_bind (m := Builtin.Tuple.tupleExact _) (wpAny_newObj_type (wpAny_pure (wpAny_pure ⟨_, rfl, wpAny_pure h⟩)) htake))
    | exact wpAny_bind (wpAny_bind (m := Builtin.Tuple.tupleExact _) (wpAny_newObj_type (wpAny_pure ⟨_, rfl, wpAny_pure h⟩) htake))
end
end HT

namespace L2
open PySem PySem.Spec PyProof.Rows

/-! ### the parts of a slice -/
abbrev TO := St → Hp → (Option Int → Hp → Prop) → Prop
/-- a slice's part (left out, or an int) -/
def PO (X : Cx) (e : Option Expr) (t : TO) : Prop :=
  ∀ (pins : List (Addr × Obj)) (s : Shared) (σ : St) (H : Hp) (Q : Option Int → Hp → Prop), Inv X pins σ H s → t σ H Q →
    wpAny (model X.prog X.w) X.A (evalPart e X.env) (fun u s' => ∃ o H', Inv X pins σ H' s' ∧ IsPart u o ∧ Q o H') X.xe s
def tNoPart : TO := fun _ H Q => Q none H
def tPart (t : TE) : TO := fun σ H Q => t σ H fun x H1 => ∃ i, x = .int i ∧ Q (some i) H1

section
variable {X : Cx} {e : Expr} {te : TE} {lo hi : Option Expr} {tl th : TO} {pos p2 : Pos}

theorem po_none : PO X none tNoPart := by
  intro pins s σ H Q I h
  rw [evalPart_none]
  exact wpAny_pure ⟨none, H, I, .none, h⟩
theorem po_some (h : PE X e te) : PO X (some e) (tPart te) := by
  intro pins s σ H Q I hw
  rw [evalPart_some]
  refine thn (h pins s σ H _ I hw) fun u s1 ⟨x, H1, I1, r1, q1⟩ => ?_
  obtain ⟨i, rfl, q⟩ := q1
  obtain ⟨t, rfl⟩ := r1
  exact ⟨some i, H1, I1, .int i t, q⟩

/-- what a slice of a value is, by values: the slice object stands at sl -/
def SlR (X : Cx) (r : V → Option Int → Option Int → Hp → VK → Prop) : Prop :=
  ∀ (pins : List (Addr × Obj)) (s : Shared) (σ : St) (H : Hp) (x : V) (v vl vu : Value) (lo hi : Option Int) (sl : Addr) (Q : VK), Inv X pins σ H s → RelV x v → s.heap.IsSliceOf sl vl vu .none → IsPart vl lo → IsPart vu hi → r x lo hi H Q →
    ∃ T id, typeLookup (.type T) "__getitem__" = pure (some (.builtin id)) ∧ s.TypeIs v T ∧ wpAny (model X.prog X.w) X.A (getItem v (.ref sl)) (EP X pins σ Q) X.xe s
def tSl (r : V → Option Int → Option Int → Hp → VK → Prop) (te : TE) (tl th : TO) : TE := fun σ H Q => te σ H fun x H1 => tl σ H1 fun l H2 => th σ H2 fun u H3 => r x l u H3 Q
/-- a[lo:hi], any a -/
theorem pe_slice {r : V → Option Int → Option Int → Hp → VK → Prop} (hr : SlR X r) (he : PE X e te) (hl : PO X lo tl) (hu : PO X hi th) : PE X (.Subscript e (.Slice lo hi none p2) pos) (tSl r te tl th) := by
  intro pins s σ H Q I h
  refine Subscript_ (thn (he pins s σ H _ I h) fun v s1 ⟨x, H1, I1, r1, q1⟩ => ?_)
  refine wpAny_Slice (thn (hl pins s1 σ H1 _ I1 q1) fun vl s2 ⟨l, H2, I2, pl, q2⟩ => thn (hu pins s2 σ H2 _ I2 q2) fun vu s3 ⟨u, H3, I3, pu, q3⟩ => ?_)
  rw [evalPart_none]
  refine wpAny_pure ?_
  have I4 : Inv X pins σ H3 { s3 with heap := s3.heap.push { cls := .type "slice", data := .fields #[vl, vu, .none] } } := I3.kept (t' := s3.toks) fun b ob q => Heap.get?_push_of_some _ q
  obtain ⟨T, id, hT, ht, hg⟩ := hr pins { s3 with heap := s3.heap.push { cls := .type "slice", data := .fields #[vl, vu, .none] } } σ H3 x v vl vu l u s3.heap.objs.size Q I4 r1 (Heap.IsSliceOf.new ..) pl pu q3
  show wpAny (model X.prog X.w) X.A (subscriptTail e (.Slice lo hi none p2) v (.ref s3.heap.objs.size)) (EP X pins σ Q) X.xe { s3 with heap := s3.heap.push { cls := .type "slice", data := .fields #[vl, vu, .none] } }
  exact tail_any (ops := [.ref s3.heap.objs.size, v]) ht hT hg (by with_unfolding_all rfl)

/-- the items of xs[lo:hi] -/
def cutV (xs : List V) (lo hi : Option Int) : List V := (xs.drop (HT.sIx xs.length 0 lo)).take (HT.sIx xs.length xs.length hi - HT.sIx xs.length 0 lo)
theorem cutV_length (xs : List V) (lo hi : Option Int) : (cutV xs lo hi).length ≤ xs.length := by
  unfold cutV
  rw [List.length_take, List.length_drop]
  omega
/-- t[lo:hi], not the whole of it (the whole would be t itself) -/
def rSlT (K : PySem.W.Frag) : V → Option Int → Option Int → Hp → VK → Prop := fun x lo hi H Q => ∃ a xs, x = .ref a ∧ SqT K H a xs ∧
  ¬ (HT.sIx xs.length 0 lo = 0 ∧ HT.sIx xs.length xs.length hi = xs.length) ∧ ∀ p, H p = none → Q (.ref p) (upd H p (.tup (cutV xs lo hi)))
theorem sl_tup : SlR X (rSlT X.K) := by
  intro pins s σ H x v vl vu lo hi sl Q I rx hs pl pu h
  obtain ⟨a, xs, rfl, hx, hw, q⟩ := h
  cases rx
  obtain ⟨its, r, ht, hz⟩ := I.tuple hx
  have hlen : its.toArray.size = xs.length := by rw [List.size_toArray]; exact r.length.symm
  refine ⟨"tuple", _, PyProof.Rows.slot_tuple_getitem.lookup, ht.typeIs, ?_⟩
  refine HT.getItem_tuple_cut ht hs pl pu (by rw [hlen]; exact hw) ?_ (by rw [hlen]; exact hz)
  rw [hlen]
  refine ⟨.ref s.heap.objs.size, _, I.laid (t' := s.toks) (o := .tup (cutV xs lo hi)) (fun b ob q => Heap.get?_push_of_some _ q) (Nat.le_refl _) ?_, rfl, q _ (I.hok.fresh (Nat.le_refl _))⟩
  exact ⟨Nat.le_trans (cutV_length xs lo hi) hz, _, (r.drop (HT.sIx xs.length 0 lo)).take (HT.sIx xs.length xs.length hi - HT.sIx xs.length 0 lo), IsTup.new _ _⟩

/-! ### t < u, t + u -/
/-- t + u, t not empty: u empty gives t itself -/
def rCatT (K : PySem.W.Frag) : R2 := fun x y H Q => ∃ a b xs ys, x = .ref a ∧ y = .ref b ∧ SqT K H a xs ∧ SqT K H b ys ∧ xs ≠ [] ∧ xs.length + ys.length ≤ sizeLine ∧
  (ys = [] → Q (.ref a) H) ∧ (ys ≠ [] → ∀ p, H p = none → Q (.ref p) (upd H p (.tup (xs ++ ys))))
theorem Vals.nil_iff {xs : List V} {us : List Value} (r : Vals xs us) : us = [] ↔ xs = [] := by
  cases r with
  | nil => simp
  | cons _ _ => simp
theorem op_catT : OpR X (binaryOp .Add) (rCatT X.K) := by
  intro pins s σ H x y v u Q I rx ry h
  obtain ⟨a, b, xs, ys, rfl, rfl, ha, hb, hx, hz, q1, q2⟩ := h
  cases rx
  cases ry
  obtain ⟨its, r1, p1, _⟩ := I.tuple ha
  obtain ⟨its2, r2, p2, _⟩ := I.tuple hb
  refine HT.cat_tup p1 p2 (fun z => hx (r1.nil_iff.mp z)) (fun z => ⟨.ref a, H, I, rfl, q1 (r2.nil_iff.mp z)⟩) (fun z => ?_) (by rw [← r1.length, ← r2.length]; exact hz)
  refine ⟨.ref s.heap.objs.size, _, I.laid (t' := s.toks) (o := .tup (xs ++ ys)) (fun b ob q => Heap.get?_push_of_some _ q) (Nat.le_refl _) ?_, rfl, q2 (fun w => z (r2.nil_iff.mpr w)) _ (I.hok.fresh (Nat.le_refl _))⟩
  exact ⟨by rw [List.length_append]; exact hz, _, r1.append r2, IsTup.new _ _⟩
end
end L2

namespace L2
open PySem PySem.Spec PyProof.Rows

/-! ### places -/
/-- the place that an index of any sign means -/
def ixN (n : Nat) (i : Int) : Option Nat := if 0 ≤ i then (if i < n then some i.toNat else none) else if -(n : Int) ≤ i then some (i + n).toNat else none
def atI {α : Type} (xs : List α) (i : Int) : Option α := (ixN xs.length i).bind fun j => xs[j]?
theorem ixN_seq {n : Nat} {i : Int} {j : Nat} (h : ixN n i = some j) : seqIndex? i n = some j ∧ j < n ∧ -(n : Int) ≤ i ∧ i < n := by
  unfold ixN at h
  by_cases h0 : 0 ≤ i
  · rw [if_pos h0] at h
    by_cases h1 : i < n
    · rw [if_pos h1] at h
      have e : i.toNat = j := Option.some.inj h
      exact ⟨by rw [seqIndex_of h0 h1, e], by omega, by omega, h1⟩
    · rw [if_neg h1] at h; cases h
  · rw [if_neg h0] at h
    by_cases h1 : -(n : Int) ≤ i
    · rw [if_pos h1] at h
      have e : (i + n).toNat = j := Option.some.inj h
      exact ⟨by rw [seqIndex_neg (by omega) h1, e], by omega, h1, by omega⟩
    · rw [if_neg h1] at h; cases h
theorem atI_get {α : Type} {xs : List α} {i : Int} {v : α} (h : atI xs i = some v) : ∃ j, seqIndex? i xs.length = some j ∧ xs[j]? = some v ∧ j < xs.length ∧ -(xs.length : Int) ≤ i ∧ i < xs.length := by
  unfold atI at h
  cases e : ixN xs.length i with
  | none => rw [e] at h; cases h
  | some j =>
    rw [e] at h
    obtain ⟨h1, h2, h3, h4⟩ := ixN_seq e
    exact ⟨j, h1, h, h2, h3, h4⟩
theorem atI_nat {α : Type} {xs : List α} {j : Nat} {v : α} (h : xs[j]? = some v) : atI xs (j : Int) = some v := by
  have hj : j < xs.length := (List.getElem?_eq_some_iff.mp h).1
  have e : ixN xs.length (j : Int) = some j := by
    unfold ixN
    rw [if_pos (by omega), if_pos (by omega)]; simp
  unfold atI; rw [e]; exact h
/-! ### what may be subscripted -/
/-- what stands as an index of a plain subscript -/
def PlainIx (b : Expr) : Prop := ∀ o i, subscripted b false o i = operate [o, i] (getItem o i)
/-- a subscript by values -/
def IxR (X : Cx) (r : R2) : Prop :=
  ∀ (value slice : Expr) (pins : List (Addr × Obj)) (s : Shared) (σ : St) (H : Hp) (x y : V) (v u : Value) (Q : VK), Inv X pins σ H s → RelV x v → RelV y u → r x y H Q →
    subscripted slice false v u = operate [v, u] (getItem v u) → wpAny (model X.prog X.w) X.A (subscriptTail value slice v u) (EP X pins σ Q) X.xe s
/-- a call of a builtin's method by values: the receiver, the arguments -/
def MtR (X : Cx) (id : String) (r : V → List V → Hp → VK → Prop) : Prop :=
  ∀ (pins : List (Addr × Obj)) (s : Shared) (σ : St) (H : Hp) (x : V) (xs : List V) (v : Value) (us : List Value) (Q : VK), Inv X pins σ H s → RelV x v → Vals xs us → r x xs H Q →
    wpAny (model X.prog X.w) X.A (call (.builtin id) (v :: us)) (EP X pins σ Q) X.xe s
section
variable {X : Cx} {a b : Expr} {ta tb : TE} {pos : Pos}
/-- a[b] -/
theorem pe_ix {r : R2} (hr : IxR X r) (ha : PE X a ta) (hb : PE X b tb) (hs : PlainIx b) : PE X (.Subscript a b pos) (tOp r ta tb) := by
  intro pins s σ H Q I h
  exact Subscript_ (binT ha hb I h fun v u s2 x y H2 I2 rx ry q => hr a b pins s2 σ H2 x y v u Q I2 rx ry q (hs _ _))

def rIxL (K : PySem.W.Frag) : R2 := fun x y H Q => ∃ p xs i v, x = .ref p ∧ y = .int i ∧ SqL K H p xs ∧ atI xs i = some v ∧ Q v H
def rIxT (K : PySem.W.Frag) : R2 := fun x y H Q => ∃ p xs i v, x = .ref p ∧ y = .int i ∧ SqT K H p xs ∧ atI xs i = some v ∧ Q v H
def rIxS : R2 := fun x y H Q => ∃ z i c, x = .str z ∧ y = .int i ∧ z.length ≤ sizeLine ∧ atI z.cps.toList i = some c ∧ Q (.str ⟨#[c]⟩) H
theorem ix_list : IxR X (rIxL X.K) := by
  intro value slice pins s σ H x y v u Q I rx ry h hs
  obtain ⟨p, xs, i, z, rfl, rfl, hq, he, q⟩ := h
  cases rx
  obtain ⟨t, rfl⟩ := ry
  obtain ⟨its, r, pl, hz⟩ := I.list hq
  obtain ⟨j, h1, h2, h3, h4, h5⟩ := atI_get he
  obtain ⟨w, ew, rw'⟩ := r.get h2
  have hl := r.length
  have hn := line63
  have fin : EP X pins σ Q w s := ⟨z, H, I, rw', q⟩
  by_cases h0 : 0 ≤ i
  · have hj : i.toNat = j := by
      rw [seqIndex_of h0 h5] at h1
      exact Option.some.inj h1
    exact item_listR pl.isList h0 (by omega) (by rw [hj]; simpa using ew) fin hs
  · have hj : (i + (its.toArray.size : Int)).toNat = j := by
      rw [seqIndex_neg (by omega) h4] at h1
      rw [List.size_toArray, ← hl]
      exact Option.some.inj h1
    exact subscriptTail_builtinR (x := w) pl.isList.typeIs slot_list_getitem.lookup
      (wpAny_getItem_list_neg (Q := fun r s' => r = w ∧ EP X pins σ Q r s') pl.isList (by omega) (by rw [List.size_toArray] <;> omega) (by omega) (by rw [hj]; simpa using ew) ⟨rfl, fin⟩) hs
theorem ix_tup : IxR X (rIxT X.K) := by
  intro value slice pins s σ H x y v u Q I rx ry h hs
  obtain ⟨p, xs, i, z, rfl, rfl, hq, he, q⟩ := h
  cases rx
  obtain ⟨t, rfl⟩ := ry
  obtain ⟨its, r, pl, hz⟩ := I.tuple hq
  obtain ⟨j, h1, h2, h3, h4, h5⟩ := atI_get he
  obtain ⟨w, ew, rw'⟩ := r.get h2
  have hl := r.length
  have hn := line63
  have fin : EP X pins σ Q w s := ⟨z, H, I, rw', q⟩
  exact subscriptTail_builtinR (x := w) pl.typeIs slot_tuple_getitem.lookup
    (getItem_tuple (j := j) (Q := fun r s' => r = w ∧ EP X pins σ Q r s') pl (by omega) (by omega) (by rw [List.size_toArray, ← hl]; exact h1) (by simpa using ew) ⟨rfl, fin⟩) hs
theorem ix_str : IxR X rIxS := by
  intro value slice pins s σ H x y v u Q I rx ry h hs
  obtain ⟨z, i, c, rfl, rfl, hz, he, q⟩ := h
  obtain ⟨t, rfl⟩ := rx
  obtain ⟨t', rfl⟩ := ry
  obtain ⟨j, h1, h2, h3, h4, h5⟩ := atI_get he
  have hl : z.cps.toList.length = z.length := by simp [Str.length]
  rw [hl] at h1 h4 h5
  have hn := line63
  exact tail_any (typeIs_str s z t) slot_str_getitem.lookup (getItem_str (c := c) (by
    have e1 : decide (i < -(2 ^ 63 : Int)) = false := decide_eq_false (by omega)
    have e2 : decide (i ≥ 2 ^ 63) = false := decide_eq_false (by omega)
    rw [e1, e2, Bool.or_false]) (by rw [h1]; simpa using h2) ⟨.str ⟨#[c]⟩, H, I.tok _, ⟨_, rfl⟩, q⟩) hs
/-! ### xs[i] = v, any sign -/
/-- the list's object behind a store -/
theorem mapSeq_set (its : List Value) (n j : Nat) (u : Value) : Obj.mapSeq (·.setIfInBounds j u) { cls := .type "list", data := .seq its.toArray n } = { cls := .type "list", data := .seq (its.set j u).toArray n } := by
  simp [Obj.mapSeq]
theorem Inv.lst {pins : List (Addr × Obj)} {σ : St} {H : Hp} {s : Shared} {p : Addr} {xs : List V} (I : Inv X pins σ H s) (h : H p = some (.lst xs)) :
    ∃ (its : List Value) (n : Nat), Vals xs its ∧ s.heap.get? p = some { cls := .type "list", data := .seq its.toArray n } ∧ xs.length ≤ sizeLine := by
  obtain ⟨z, its, n, r, e⟩ := I.hok p _ h
  exact ⟨its, n, r, e, z⟩
/-- the list at p is written by an update of its object -/
theorem Inv.lstUpd {pins : List (Addr × Obj)} {σ : St} {H : Hp} {s : Shared} {p : Addr} {xs ys : List V} {its its' : List Value} {n n' : Nat} {f : Obj → Obj} (I : Inv X pins σ H s) (h : H p = some (.lst xs))
    (ho : s.heap.get? p = some { cls := .type "list", data := .seq its.toArray n }) (hf : f { cls := .type "list", data := .seq its.toArray n } = { cls := .type "list", data := .seq its'.toArray n' }) (r : Vals ys its') (hz : ys.length ≤ sizeLine) (t : Nat) :
    Inv X pins σ (upd H p (.lst ys)) { s with heap := s.heap.update p f, toks := t } := by
  have e : (s.heap.update p f).get? p = some { cls := .type "list", data := .seq its'.toArray n' } := by
    rw [Heap.get?_update_self f ho (by rw [hf] <;> rfl), hf]
  refine I.write (x := p) (e := p) (by rw [h]; trivial) (.inl rfl) (fun b u hb q => (Heap.get?_update_other _ _ (Ne.symm hb)).trans q) ⟨_, e⟩ ?_
  exact ⟨hz, its', n', r, e⟩
def rSetL : V → V → V → Hp → (Hp → Prop) → Prop := fun o i v H Q => ∃ p xs k j, o = .ref p ∧ i = .int k ∧ H p = some (.lst xs) ∧ ixN xs.length k = some j ∧ Q (upd H p (.lst (xs.set j v)))
theorem set_list : PSet X rSetL := by
  intro pins s σ H o i v ov iv u Q I ro ri rv h
  obtain ⟨p, xs, k, j, rfl, rfl, hp, hj, q⟩ := h
  cases ro
  obtain ⟨t, rfl⟩ := ri
  obtain ⟨its, n, r, ho, hz⟩ := I.lst hp
  obtain ⟨h1, h2, h3, h4⟩ := ixN_seq hj
  have hl := r.length
  have hn := line63
  have I' : Inv X pins σ (upd H p (.lst (xs.set j v))) { s with heap := s.heap.update p (Obj.mapSeq (·.setIfInBounds j u)) } :=
    I.lstUpd hp ho (mapSeq_set its n j u) (r.set rv j) (by rw [List.length_set]; exact hz) s.toks
  by_cases h0 : 0 ≤ k
  · have hk : k.toNat = j := by
      rw [seqIndex_of h0 h4] at h1
      exact Option.some.inj h1
    exact PySem.W.ki_setAt ho h0 (by omega) (by rw [List.size_toArray, ← hl]; exact h4) (by rw [hk]; exact ⟨_, I', q⟩)
  · have hk : (k + (its.toArray.size : Int)).toNat = j := by
      rw [seqIndex_neg (by omega) h3] at h1
      rw [List.size_toArray, ← hl]
      exact Option.some.inj h1
    exact PySem.W.ki_setBack ho (by omega) (by rw [List.size_toArray, ← hl]; exact h3) (by omega) (by rw [hk]; exact ⟨_, I', q⟩)

/-! ### slices -/
theorem slice_bounds (lo hi : Option Int) (n : Nat) : (sliceBounds lo hi none n).1 = ((HT.sIx n 0 lo : Nat) : Int) ∧ (sliceBounds lo hi none n).2.1 = ((HT.sIx n n hi : Nat) : Int) ∧ (sliceBounds lo hi none n).2.2 = 1 := by
  refine ⟨?_, ?_, rfl⟩
  · cases lo with
    | none => simp [sliceBounds, HT.sIx]
    | some i =>
      simp only [sliceBounds, HT.sIx, Option.getD_none, show (1 : Int) > 0 by decide, if_true]
      by_cases h : i < 0
      · simp only [h, if_true] <;> omega
      · simp only [h, if_false] <;> omega
  · cases hi with
    | none => simp [sliceBounds, HT.sIx]
    | some i =>
      simp only [sliceBounds, HT.sIx, Option.getD_none, show (1 : Int) > 0 by decide, if_true]
      by_cases h : i < 0
      · simp only [h, if_true] <;> omega
      · simp only [h, if_false] <;> omega
theorem slicePick_cut (its : List Value) (lo hi : Option Int) : slicePick its.toArray lo hi none = ((its.drop (HT.sIx its.length 0 lo)).take (HT.sIx its.length its.length hi - HT.sIx its.length 0 lo)).toArray := by
  obtain ⟨h1, h2, h3⟩ := slice_bounds lo hi its.toArray.size
  unfold slicePick
  rw [h1, h2, h3]
  simp only [sliceRange_one, pick_run, List.size_toArray] <;> rfl
/-- xs[lo:hi] of a list: a new list -/
def rSlL (K : PySem.W.Frag) : V → Option Int → Option Int → Hp → VK → Prop := fun x lo hi H Q => ∃ a xs, x = .ref a ∧ SqL K H a xs ∧ ∀ p, H p = none → Q (.ref p) (upd H p (.lst (cutV xs lo hi)))
theorem sl_list : SlR X (rSlL X.K) := by
  intro pins s σ H x v vl vu lo hi sl Q I rx hs pl pu h
  obtain ⟨a, xs, rfl, hx, q⟩ := h
  cases rx
  obtain ⟨its, r, ht, hz⟩ := I.list hx
  have hlen := r.length
  refine ⟨"list", _, slot_list_getitem.lookup, ht.isList.typeIs, ?_⟩
  refine wpAny_getItem_list_slice ht.isList hs pl pu .none (by simp) ?_ (by rw [List.size_toArray] <;> omega)
  rw [slicePick_cut, ← hlen]
  refine ⟨.ref s.heap.objs.size, _, I.laid (t' := s.toks) (o := .lst (cutV xs lo hi)) (fun b ob q => Heap.get?_push_of_some _ q) (Nat.le_refl _) ?_, rfl, q _ (I.hok.fresh (Nat.le_refl _))⟩
  exact ⟨Nat.le_trans (cutV_length xs lo hi) hz, _, 0, (r.drop (HT.sIx xs.length 0 lo)).take (HT.sIx xs.length xs.length hi - HT.sIx xs.length 0 lo), Heap.get?_push_size _ rfl⟩

/-! ### in, not in: flat items -/
/-! ### len, list(x), tuple(x) of any list or tuple that is read -/
theorem call_len_seq : CallR X (.builtin "len") (fun xs H Q => ∃ p ys, xs = [.ref p] ∧ (SqL X.K H p ys ∨ SqT X.K H p ys) ∧ Q (.int ys.length) H) := by
  intro pins s σ H xs us Q I r h
  obtain ⟨p, ys, rfl, hq, q⟩ := h
  obtain ⟨u, rfl, rx⟩ := vals1 r
  cases rx
  have hn := line63
  rcases hq with hq | hq
  · obtain ⟨its, r', pl, hz⟩ := I.list hq
    have hlen := r'.length
    exact Calls.call_len_list pl.isList (by simp only [List.size_toArray] <;> omega) ⟨.int ys.length, H, I.tok _, ⟨s.toks + 1, by rw [List.size_toArray, hlen]⟩, q⟩
  · obtain ⟨its, r', pl, hz⟩ := I.tuple hq
    have hlen := r'.length
    exact len_tuple pl (by simp only [List.size_toArray] <;> omega) ⟨.int ys.length, H, I.tok _, ⟨s.toks + 1, by rw [List.size_toArray, hlen]⟩, q⟩
theorem call_list_of : CallR X (.type "list") (fun xs H Q => ∃ p ys, xs = [.ref p] ∧ (SqL X.K H p ys ∨ SqT X.K H p ys) ∧ ∀ l, H l = none → Q (.ref l) (upd H l (.lst ys))) := by
  intro pins s σ H xs us Q I r h
  obtain ⟨p, ys, rfl, hq, q⟩ := h
  obtain ⟨u, rfl, rx⟩ := vals1 r
  cases rx
  have fin : ∀ (its : List Value), Vals ys its → ys.length ≤ sizeLine → ∀ (h' : Heap) (c' : Nat), (∀ b o', s.heap.get? b = some o' → h'.get? b = some o') →
      h'.get? s.heap.objs.size = some { cls := .type "list", dict := none, data := .seq its.toArray c', slots := #[] } → EP X pins σ Q (.ref s.heap.objs.size) { s with heap := h' } := fun its r' hz h' c' kp e =>
    ⟨.ref s.heap.objs.size, _, I.laid (t' := s.toks) kp (Nat.le_refl _) (show ObjOk X.prog X.w _ h' _ (.lst ys) from ⟨hz, its, c', r', e⟩), rfl, q _ (I.hok.fresh (Nat.le_refl _))⟩
  rcases hq with hq | hq
  · obtain ⟨its, r', pl, hz⟩ := I.list hq
    have hlen := r'.length
    obtain ⟨o, ho, hc, n, hd⟩ := pl.isList
    exact call_list_seq p (.inl rfl) ho hc hd (fun h' c' kp e => fin its r' hz h' c' kp e) (by simp only [List.size_toArray] <;> omega)
  · obtain ⟨its, r', pl, hz⟩ := I.tuple hq
    have hlen := r'.length
    obtain ⟨o, ho, hc, n, hd⟩ := pl
    exact call_list_seq p (.inr rfl) ho hc hd (fun h' c' kp e => fin its r' hz h' c' kp e) (by simp only [List.size_toArray] <;> omega)
/-! ### the call of a builtin's method: o.m(..) -/
/-- the value is of that builtin type -/
def tyV (K : PySem.W.Frag) (T : String) (x : V) (H : Hp) : Prop := match x with
  | .str _ => T = "str"
  | .int _ => T = "int"
  | .ref p => (T = "list" ∧ ∃ xs, SqL K H p xs) ∨ (T = "tuple" ∧ ∃ o, K.lookup p = some o ∧ o.cls = .type "tuple" ∧ o.dict = none) ∨
      (T = "dict" ∧ ((∃ kvs, H p = some (.dK kvs)) ∨ ∃ kvs, H p = some (.dT kvs))) ∨ (T = "set" ∧ ∃ S n, H p = some (.set S n))
  | _ => False
theorem tyV_is {pins : List (Addr × Obj)} {σ : St} {H : Hp} {s : Shared} {T : String} {x : V} {v : Value} (I : Inv X pins σ H s) (r : RelV x v) (ty : tyV X.K T x H) :
    s.TypeIs v T ∧ ∀ a, v = .ref a → ∃ ob, s.heap.get? a = some ob ∧ ob.dict = none := by
  cases x with
  | str z =>
    obtain ⟨t, rfl⟩ := r
    cases (show T = "str" from ty)
    exact ⟨typeIs_str s z t, fun _ e => nomatch e⟩
  | int i =>
    obtain ⟨t, rfl⟩ := r
    cases (show T = "int" from ty)
    exact ⟨typeIs_int s i t, fun _ e => nomatch e⟩
  | ref p =>
    cases r
    rcases ty with ⟨rfl, xs, hq⟩ | ⟨rfl, o, hk, hc, hd⟩ | ⟨rfl, hk⟩ | ⟨rfl, S, n, hk⟩
    · obtain ⟨its, _, pl, _⟩ := I.list hq
      refine ⟨pl.isList.typeIs, fun a e => ?_⟩
      cases e
      obtain ⟨o, n, e, c, hd, _⟩ := pl
      exact ⟨o, e, hd⟩
    · refine ⟨⟨o, I.kIn p o hk, hc⟩, fun a e => ?_⟩
      cases e
      exact ⟨o, I.kIn _ o hk, hd⟩
    · have z : ∃ o, s.heap.get? p = some o ∧ o.ExactDict := by
        rcases hk with ⟨kvs, hk⟩ | ⟨kvs, hk⟩
        · obtain ⟨_, _, _, _, o, _, _, e, ex, _⟩ := I.hok p _ hk
          exact ⟨o, e, ex⟩
        · obtain ⟨_, _, _, _, o, _, _, e, ex, _⟩ := I.hok p _ hk
          exact ⟨o, e, ex⟩
      obtain ⟨o, e, ex⟩ := z
      refine ⟨⟨o, e, ex.1⟩, fun a e2 => ?_⟩
      cases e2
      exact ⟨o, e, ex.2.1⟩
    · obtain ⟨o, _, _, _, e, ex, _⟩ := I.hok p _ hk
      refine ⟨⟨o, e, ex.1⟩, fun a e2 => ?_⟩
      cases e2
      exact ⟨o, e, ex.2.1⟩
  | _ => exact False.elim ty
def tBM (K : PySem.W.Frag) (T : String) (r : V → List V → Hp → VK → Prop) (to : TE) (t : TA) : TE := fun σ H Q => to σ H fun x H1 => tyV K T x H1 ∧ t σ H1 fun xs H2 => r x xs H2 Q
variable {o e : Expr} {es : List Expr} {to : TE} {t : TA} {name : Str} {apos cpos : Pos} {T id : String} {r : V → List V → Hp → VK → Prop}
theorem pe_bm (pa : PlainAttrs T) (slot : Slot T name id) (hty : typeOf (.builtin id) = pure (.type "method_descriptor")) (hm : MtR X id r) (ho : PE X o to) (ha : PA X (e :: es) t)
    (hbase : attributeBase o name X.env (eval o X.env) = eval o X.env := by rfl)
    (hfew : ((backTo cpos (starEach (e :: es) X.env)).all (fun x => !x.1) && (backToKw cpos (keywordEach [] X.env)).all (fun x => x.1.isSome)
      && decide ((e :: es).length + ([] : List Keyword).length + (if ([] : List Keyword).isEmpty then 0 else 1) < 30)) = true := by rfl)
    (hline : (apos.endLine == cpos.line) = true := by rfl) (hs : starEach (e :: es) X.env = (false, eval e X.env) :: starEach es X.env := by rfl) (hplain : (backTo cpos (starEach es X.env)).any (·.1) = false := by rfl) :
    PE X (.Call (.Attribute o name apos) (e :: es) [] cpos) (tBM X.K T r to t) := by
  intro pins s σ H Q I h
  refine wpAny_Call_method_late hbase hfew hline rfl (thn (ho pins s σ H _ I h) fun v s1 ⟨x, H1, I1, r1, ty, q1⟩ => ?_)
  obtain ⟨h1, h2⟩ := tyV_is I1 r1 ty
  refine ⟨T, id, pa, slot, hty, h1, h2, ?_⟩
  have hA := ha cpos pins s1 σ H1 _ I1 q1
  rw [hs] at hA ⊢
  refine Calls.callWith_builtin (by show (false || (backTo cpos (starEach es X.env)).any (·.1)) = false; rw [hplain] <;> rfl) (Calls.evalArgs_plain ?_)
  exact thn hA fun us s2 ⟨vs, H2, I2, r2, q2⟩ => hm pins s2 σ H2 x vs v us Q I2 r1 r2 q2
/- xs.append(e), list.index on a module's tuple .. are MtR facts of 06m -/
end
end L2

namespace L2
open PySem PySem.Spec PyProof.Rows

def MtM (X : Cx) (id : String) (r : V → List V → Hp → VK → Prop) : Prop :=
  ∀ (pins : List (Addr × Obj)) (s : Shared) (σ : St) (H : Hp) (x : V) (xs : List V) (v : Value) (us : List Value) (Q : VK), Inv X pins σ H s → RelV x v → Vals xs us → r x xs H Q →
    wpAny (model X.prog X.w) X.A (call (.builtin id) (v :: us)) (EP X pins σ Q) X.xe s

/-! ### lists of values -/
theorem Vals.one : ∀ {x : V} {us : List Value}, Vals [x] us → ∃ u, us = [u] ∧ RelV x u
  | _, _, .cons r .nil => ⟨_, rfl, r⟩
section
variable {X : Cx} {pins : List (Addr × Obj)} {σ : St} {H : Hp} {s : Shared} {l b : Addr} {xs ys zs : List V}

/-! ### the two steps: a tracked list is rewritten, a new list is laid -/
theorem Inv.lset {its its' : List Value} {n : Nat} {f : Array Value → Array Value} {t' : Nat} (I : Inv X pins σ H s) (hH : H l = some (.lst xs))
    (e : s.heap.get? l = some { cls := .type "list", data := .seq its.toArray n }) (hf : f its.toArray = its'.toArray) (hv : Vals ys its') (hz : ys.length ≤ sizeLine) :
    Inv X pins σ (upd H l (.lst ys)) { s with heap := s.heap.update l (Obj.mapSeq f), toks := t' } := by
  have q := PySem.IsL.update e f
  rw [hf] at q
  refine I.write (x := l) (e := l) (by rw [hH]; exact trivial) (.inl rfl) (fun b' u hb hu => (Heap.get?_update_other s.heap (Obj.mapSeq f) (Ne.symm hb)).trans hu) ⟨_, q⟩ ?_
  exact ⟨hz, its', _, hv, q⟩
theorem Inv.lstM (I : Inv X pins σ H s) (hH : H l = some (.lst xs)) : xs.length ≤ sizeLine ∧ ∃ (its : List Value) (n : Nat), Vals xs its ∧ xs.length = its.length ∧ s.heap.get? l = some { cls := .type "list", data := .seq its.toArray n } := by
  obtain ⟨z, its, n, r, e⟩ := I.hok l _ hH
  exact ⟨z, its, n, r, r.length, e⟩

end

section
variable {X : Cx}

/-! ### methods -/
def rAppend : V → List V → Hp → VK → Prop := fun x vs H Q => ∃ l xs y, x = .ref l ∧ vs = [y] ∧ H l = some (.lst xs) ∧ xs.length < sizeLine ∧ Q .non (upd H l (.lst (xs ++ [y])))
theorem mt_append : MtM X "list.append" rAppend := by
  intro pins s σ H x vs v us Q I rx rv h
  obtain ⟨l, xs, y, rfl, rfl, hH, hz, q⟩ := h
  cases rx
  obtain ⟨u, rfl, ru⟩ := rv.one
  obtain ⟨z, its, n, r, hl, e⟩ := I.lstM hH
  refine call_meets F.slot_list_append ⟨_, e, rfl⟩ F.entry_list_append (F.args_list_append_2 _ _) (PySem.list_append l its.toArray n u (by rw [List.size_toArray]; omega)) ⟨e, ?_⟩
  refine ⟨.non, _, I.lset (its' := its ++ [u]) hH e (by simp) (r.append (.cons ru .nil)) ?_, rfl, q⟩
  rw [List.length_append, List.length_singleton]
  omega

/-! ### list + list, list += list, list * int -/
/-! ### del xs[i] -/
end

/-! ### xs[a:b] = ys -/
section
variable {prog : Program} {w : World} {A : Around} {E : Value → Shared → Prop} {s : Shared}
end

section
variable {X : Cx}
end
end L2

namespace L2
open PySem PySem.Spec PyProof.Rows

/-! ### lists of pairs as tables -/
section
variable {κ : Type} [DecidableEq κ]
end


/-! ### a tracked dict, its keys ints and texts or tuples of these -/
section
variable {P : Program} {w : World} {H : Hp} {h : Heap} {a : Addr}
end

section
variable {X : Cx} {pins : List (Addr × Obj)} {σ : St} {H : Hp} {s : Shared} {a : Addr} {y v : V} {u r : Value} {o : Option V} {A : Around} {E : Value → Shared → Prop}

end

section
variable {X : Cx} {pins : List (Addr × Obj)} {σ : St} {H : Hp} {s : Shared} {a : Addr} {kvs : List (Key × V)} {k : Key} {u : Value} {A : Around} {E : Value → Shared → Prop}
end


/-! ### readings and rules -/
section
variable {X : Cx} {o i e value : Expr} {pos pos' tpos : Pos} {td ty tv : TE}
end


/-! ### displays -/
section
variable {X : Cx} {pos : Pos}
end

/-! ### methods -/
section
variable {X : Cx} {pins : List (Addr × Obj)} {σ : St} {H : Hp} {s : Shared} {a : Addr} {y d : V} {u r : Value} {o : Option V} {A : Around} {E : Value → Shared → Prop}
end

section
variable {X : Cx} {o e f : Expr} {apos cpos : Pos} {td ty tx : TE}
end

/-! ### dict(d): a copy -/
section
variable {X : Cx} {pins : List (Addr × Obj)} {σ : St} {H : Hp} {s : Shared} {a : Addr} {kvs : List (Key × V)} {A : Around} {E : Value → Shared → Prop}
end


section
variable {X : Cx} {pins : List (Addr × Obj)} {σ : St} {H : Hp} {s : Shared} {a : Addr} {y : V} {u : Value} {A : Around} {E : Value → Shared → Prop}
end
end L2

namespace Att
open PySem PySem.W PySem.Calls PyProof.Rows

/-! ### the script -/
theorem ints_of_wellAll {P : Params} {h : Heap} : ∀ (ns : List Int) (vs : List Value), WellAll P h vs (ns.map WData.int) → IntsAre vs ns := by
  intro ns
  induction ns with
  | nil =>
    intro vs w
    rw [List.map_nil] at w
    cases w
    exact .nil
  | cons n ns ih =>
    intro vs w
    rw [List.map_cons] at w
    cases w with
    | cons a b =>
      cases a
      exact .cons _ _ (ih _ b)

theorem script_of {l : OpenLaw} {n : Nat} (hn : l.most = some n) {P : Params} {h : Heap} {args : List WData} {vals : List Value}
    (hpre : l.row.toRowW.claim.pre args = true) (hwl : WellAll P h vals args) :
    ∃ a vs ns, vals = [Value.ref a] ∧ args = [WData.list (ns.map WData.int)] ∧ h.get? a = some { cls := .type "list", data := .seq vs.toArray } ∧ IntsAre vs ns ∧ ns.length ≤ n := by
  have hsh : WShape.hasAll [] args [.list .int] = true := (pre_splitW hpre).1
  have hc : l.pre.holds [] { args := args } = true := (pre_splitW hpre).2
  obtain ⟨d, r, rfl, h1, h2⟩ := hasAllW_cons hsh
  obtain rfl := hasAllW_nil h2
  obtain ⟨xs, rfl, h3⟩ := hasW_list h1
  obtain ⟨ns, rfl⟩ := items_int h3
  have hlen : ns.length ≤ n := by
    unfold OpenLaw.pre at hc
    have h4 : (WTm.not (.lt (.lit (.int (n : Int))) (.len (.arg 0)))).holds [] { args := [.list (ns.map .int)] } = true := by
      have h4 := (holds_andW hc).1
      rw [hn] at h4
      exact h4
    have h5 := condW_of h4 (w_not (w_lt w_lit (w_len_list (w_arg rfl))))
    rw [List.length_map] at h5
    refine Nat.le_of_not_lt fun q => ?_
    have q' : (n : Int) < ((ns.length : Nat) : Int) := by omega
    first
      | (rw [decide_eq_true q'] at h5; exact absurd h5 (by decide))
      | (simp at h5; omega)
  cases hwl with
  | cons w1 w2 =>
    cases w2
    cases w1 with
    | list ho hall => exact ⟨_, _, ns, rfl, rfl, ho, ints_of_wellAll ns _ hall, hlen⟩

theorem post_true (l : OpenLaw) (args : List WData) : l.row.toRowW.claim.post args (.bool true) args = true :=
  postW_of (r := l.row.toRowW) (X := (true == true))
    (show WShape.has [] (.bool true) .bool = true by first | rfl | decide | simp [WShape.has, WShape.arms, WShape.armsAll])
    (show (WTm.eq .res (.lit (.bool true))).value [] { args := args, res := some (.bool true), after := args } = some (.bool (true == true)) from w_eq_bool (w_res rfl) w_lit) rfl

/-! ### the attachment: holds_open's last premise (the goal 'hc' behind k_head) from a wpAny of the law's body -/
/-- the same from a codeAny of the CALL (for a layer whose function contracts speak of calls) -/
theorem attach_call {l : OpenLaw} {n : Nat} {q : Program} {loose : List Str} {XP : (Str → Option Value) → Heap → Prop} {YP : World → Heap → Prop} {d : DefRec}
    (hn : l.most = some n) (hdf : d.params.defaults = [])
    (call : ∀ (w : World) (s₀ s₁ : Shared) (mg mb : Str → Option Value) (fa : Addr) (o : Obj) (pm cd doc : Value) (a : Addr) (vs : List Value) (ns : List Int),
      Ground q loose [] XP w s₀ mg mb s₁.heap → YP w s₁.heap →
      s₁.heap.get? fa = some o → o.data = .func (docDef d.name d.params d.body d.scope pm cd doc) → s₁.heap.CodeRec cd d.name → mg d.name = some (.ref fa) →
      s₁.heap.get? a = some { cls := .type "list", data := .seq vs.toArray } → IntsAre vs ns → ns.length ≤ n → s₁.gens = #[] →
      codeAny (model l.prog w) callerA (.call (.ref fa) ⟨[.ref a], []⟩) (fun r s' => r = .ok (.ret (.bool true)) ∧ OldK s₁.heap s'.heap ∧ s'.os = s₁.os ∧ AllBare s'.gens) s₁) :
    WalkO q loose XP YP l.row.toRowW d [] (fun f vs => PySem.call f vs) := by
  intro w s₀ s₁ mg mb G Y fa o pm cd doc dV kV ho hd hcd hD hmg hg args vals as hpre hlay hrd hwl hlo
  obtain rfl : dV = .none := Dflts.none hD hdf
  obtain rfl : kV = .none := Dflts.noKw hD
  obtain ⟨a, vs, ns, rfl, rfl, hobj, hints, hlen⟩ := script_of hn hpre hwl
  refine enter_call (codeAny_mono (call w s₀ s₁ mg mb fa o pm cd doc a vs ns G Y ho (fd_plain hd) hcd hmg hobj hints hlen hg) fun r s' hq => ?_)
  obtain ⟨rfl, h2, h3, h4⟩ := hq
  exact ⟨.inl ⟨.bool true, .bool true, [], rfl, fun _ => rfl, .bool true, post_true l _, fun _ => ⟨List.Pairwise.nil, fun _ hm => (nomatch hm)⟩⟩, h2, h3, h4⟩

/-! ### rules over ANY heap (no ledger) from facts about the written part K: the library's own take a ledger (News) for what they write -/
section
variable {prog : Program} {w : World} {A : Around} {E : Value → Shared → Prop} {s : Shared} {K : Frag}

/-! the whole heap as the ledger: makes every rule that writes through a ledger a rule over any heap -/
end
end Att

namespace L2
open PySem PySem.Spec PyProof.Rows

theorem vals_ints : ∀ {vs : List Value} {ns : List Int}, IntsAre vs ns → Vals (ns.map V.int) vs
  | _, _, .nil => .nil
  | _, _, .cons n t h => .cons ⟨t, rfl⟩ (vals_ints h)

/-- nothing is tracked but the script, known to the object (or it is an object of the module) -/
def Only (H : Hp) : Prop := ∀ b, H b = none ∨ ∃ o xs, H b = some (.frz o (.lst xs))

/-- THE HEAD: the law's promise, at the heap behind the top. F, the promise of the law's def, may use that base is part of the heap (so K.In base, base.Ns mainGlobals mg stand in Mod) -/
theorem law_call {P : Program} {w : World} {K : PySem.W.Frag} {mg mb : Str → Option Value} {CX : CXT} {k : Nat} {fa a : Addr} {fd : FuncData} {x : Str} {sp : Sp} {s₁ : Shared} {vs : List Value} {ns : List Int}
    (KX : K.In s₁.heap) (hns : s₁.heap.Ns mainGlobals mg) (hb : s₁.heap.Ns builtinsNs mb) (hbb : ∀ x : Str, x ≠ "__name__" → mb x = bootBuiltins x) (hlim : s₁.heap.NoLimit) (hg : s₁.gens = #[])
    (ha : s₁.heap.get? a = some { cls := .type "list", data := .seq vs.toArray }) (hi : IntsAre vs ns) (hl : ns.length ≤ sizeLine) (hr : Room k callerA)
    (F : ∀ base : Heap, K.In base → base.Ns mainGlobals mg → FnOk P w K mg base CX k fa fd [x] sp) (hbind : ∀ (s : Shared) (u : Value), BindsTo s fd ⟨[u], []⟩ [(x, u)])
    (hsp : ∀ H : Hp, Only H → SqL K H a (ns.map V.int) → sp [.ref a] H (fun v _ => v = .bl true) fun _ _ _ => False)
    (hCX : ∀ H e s', CX [] H s₁ (fun _ _ _ => False) e s' → False) :
    codeAny (model P w) callerA (.call (.ref fa) ⟨[.ref a], []⟩) (fun r s' => r = .ok (.ret (.bool true)) ∧ OldK s₁.heap s'.heap ∧ s'.os = s₁.os ∧ AllBare s'.gens) s₁ := by
  have rv := vals_ints hi
  have lenV := hi.length
  -- from an abstract heap in which nothing but the script may be tracked
  have core : ∀ H : Hp, Only H → SqL K H a (ns.map V.int) → HOk P w H s₁.heap → (∀ b, H b ≠ none → b = a) → (H a ≠ none → K.lookup a = none) →
      codeAny (model P w) callerA (.call (.ref fa) ⟨[.ref a], []⟩) (fun r s' => r = .ok (.ret (.bool true)) ∧ OldK s₁.heap s'.heap ∧ s'.os = s₁.os ∧ AllBare s'.gens) s₁ := by
    intro H hO hS hok hA hK
    have base_of : ∀ {b : Addr} {o : Obj}, s₁.heap.get? b = some o → H b = none → (hidT s₁.heap H).get? b = some o := fun e n => hidT_get e n
    have noA : ∀ {b : Addr} {o : Obj} {es : Array DictEntry} {ep : Nat}, s₁.heap.get? b = some o → o.data = .dict es ep → H b = none := fun {b o es ep} e d => by
      cases q : H b with
      | none => rfl
      | some u =>
        have e' : b = a := hA b (by rw [q]; simp)
        subst e'
        rw [ha] at e; cases e
        have d' : Data.seq vs.toArray _ = Data.dict es ep := d
        cases d'
    have nsK : ∀ {b : Addr} {m : Str → Option Value}, s₁.heap.Ns b m → (hidT s₁.heap H).Ns b m := fun {b m} ⟨o, es, ep, e, d, r⟩ => ⟨o, es, ep, base_of e (noA e d), d, r⟩
    have hKb : K.In (hidT s₁.heap H) := fun b o e => base_of (KX b o e) (by
      cases q : H b with
      | none => rfl
      | some u =>
        have e' : b = a := hA b (by rw [q]; simp)
        subst e'
        rw [hK (by rw [q]; simp)] at e; cases e)
    have hM : Mod K mg (hidT s₁.heap H) := ⟨hKb, nsK hns, ⟨mb, nsK hb, hbb⟩, let ⟨mc, h1, h2⟩ := hlim; ⟨mc, nsK h1, h2⟩⟩
    have e0 : Env0 P w K mg (hidT s₁.heap H) callerA [] s₁ H := ⟨rfl, hM, fun b o e => of_hidT e, Nat.le_of_eq (hidT_size _ _), trivial, fun b hb => absurd (show b ∈ ([] : List Addr) from hb) (by simp), hok, .of_eq hg⟩
    refine codeAny_mono ((F _ hKb (nsK hns)).run callerA [] s₁ H ⟨[.ref a], []⟩ [.ref a] [.ref a] _ _ hr e0 (hbind s₁ (.ref a)) (.cons rfl .nil) (hsp H hO hS)) fun r s' h => ?_
    cases r with
    | error e => exact (hCX H e s' h).elim
    | ok fl =>
      cases fl with
      | next => exact False.elim h
      | brk => exact False.elim h
      | cont => exact False.elim h
      | ret u =>
        obtain ⟨v, H', os, bare, un, hok', r', q⟩ := h
        have q' : v = .bl true := q
        subst q'
        obtain rfl : u = Value.bool true := r'
        refine ⟨rfl, OldK.of_keep fun b o e => ?_, os, bare⟩
        cases q : H b with
        | none => exact un.keep b o e q (by intro z; exact absurd (show b ∈ ([] : List Addr) from z) (by simp)) (by simp)
        | some u =>
          rcases hO b with z | ⟨ob, xs, z⟩
          · rw [q] at z; cases z
          · have z2 := un.frzs b ob _ z
            obtain ⟨e1, _⟩ := hok b _ z
            obtain ⟨e2, _⟩ := hok' b _ z2
            rw [e] at e1; cases e1
            exact e2
  cases hk : K.lookup a with
  | some o =>
    -- the script is one of the module's own objects
    have e := KX a o hk
    rw [ha] at e
    cases e
    refine core (fun _ => none) (fun _ => .inl rfl) (.inr ⟨_, vs.toArray, _, hk, rfl, rfl, rfl, by rw [List.size_toArray, lenV]; exact hl, by simpa using rv⟩) (fun b u z => by have z' : (none : Option HO) = some u := z; cases z') (fun b z => absurd rfl z) fun z => absurd rfl z
  | none =>
    refine core (fun b => if b = a then some (.frz { cls := .type "list", data := .seq vs.toArray } (.lst (ns.map V.int))) else none) (fun b => ?_) (.inl (.inr ⟨{ cls := .type "list", data := .seq vs.toArray }, if_pos rfl⟩)) (fun b u z => ?_) (fun b z => ?_) fun _ => hk
    · by_cases hb : b = a
      · exact .inr ⟨_, _, if_pos hb⟩
      · exact .inl (if_neg hb)
    · by_cases hb : b = a
      · have z' := (if_pos hb).symm.trans z
        cases z'
        subst hb
        exact ⟨ha, by rw [List.length_map]; exact hl, vs, _, rv, ha⟩
      · have z' := (if_neg hb).symm.trans z
        cases z'
    · by_cases hb : b = a
      · exact hb
      · exact absurd (if_neg hb) z
end L2

namespace L2
open PySem PySem.Spec PyProof.Rows

/-- the goal that k_head leaves (case hc), from the law's promise. F gives the function object fd (K's own) once, then the promise over every base -/
theorem walk_of {l : PySem.W.OpenLaw} {n k : Nat} {q : Program} {loose : List Str} {XP : (Str → Option Value) → Heap → Prop} {YP : World → Heap → Prop} {d : DefRec} {K : Params → PySem.W.Frag} {CX : World → CXT} {sp : World → Sp} {x : Str}
    (hn : l.most = some n) (hn2 : n ≤ sizeLine) (hdf : d.params.defaults = []) (hr : Room k callerA)
    (hY : ∀ (w : World) (h : Heap), YP w h → (K w.params).In h)
    (F : ∀ (w : World) (mg : Str → Option Value) (fa : Addr) (h : Heap), (K w.params).In h → h.Ns mainGlobals mg → mg d.name = some (.ref fa) →
      ∃ fd : FuncData, (∀ (s : Shared) (u : Value), BindsTo s fd ⟨[u], []⟩ [(x, u)]) ∧
        ∀ base : Heap, (K w.params).In base → base.Ns mainGlobals mg → FnOk l.prog w (K w.params) mg base (CX w) k fa fd [x] (sp w))
    (hsp : ∀ (w : World) (H : Hp) (a : Addr) (ns : List Int), ns.length ≤ n → Only H → SqL (K w.params) H a (ns.map V.int) → sp w [.ref a] H (fun v _ => v = .bl true) fun _ _ _ => False)
    (hCX : ∀ (w : World) (H : Hp) (s : Shared) (e : Value) (s' : Shared), CX w [] H s (fun _ _ _ => False) e s' → False) :
    PySem.W.WalkO q loose XP YP l.row.toRowW d [] (fun f vs => PySem.call f vs) := by
  refine Att.attach_call hn hdf fun w s₀ s₁ mg mb fa o pm cd doc a vs ns G Y ho hd hcd hmg hobj hints hlen hg => ?_
  have KX := hY w _ Y
  obtain ⟨fd, hb, hF⟩ := F w mg fa _ KX G.T.g hmg
  exact law_call KX G.T.g G.T.b G.T.builtins G.T.nolimit hg hobj hints (Nat.le_trans hlen hn2) hr hF hb (fun H hO hS => hsp w H a ns hlen hO hS) fun H e s' => hCX w H s₁ e s'
end L2

/- THE LAST THEOREM (shape; LID, My.* are yours):
   My.Adr: a structure of the addresses that your layer names (classes, functions); My.Txt K t: a structure (Prop) of the equations over K;
   My.txt_mk : {K} {implicit addresses ..} (e1 : nsIn K mainGlobals "law" = some (some (.ref f))) (e2 : K.lookup f = some ⟨oc, od, .func (fnOf "law" "law" params body scope dV kV doc pm an cdv ct), sl⟩) (e3 : codeIn K cdv "law" = true) .. : ∃ t, My.Txt K t

set_option maxRecDepth 100000 in
set_option maxHeartbeats 0 in
theorem PySem.Challenge.cw_LID_holds : PySem.Challenge.rw_LID.Holds := by
  w_on; o_law; k_head; (case hw => w_witness2)
  k_fill
  refine L2.walk_of (l := PySem.Challenge.rw_LID) (n := 63) (k := 40) (x := "script") (CX := fun w => ..) (sp := fun _ => My.sp_law) rfl (by decide) rfl ⟨rfl, by decide, by decide⟩ (fun w h Y => PySem.W.kIn_of Y) ?F ?S ?C
  case F =>
    intro w mg fa h KX G hmg
    have T : ∃ t, My.Txt (L2.KOf KX) t := by
      dsimp only [L2.KOf]                          -- K must stand as «<heap const> w.params» for k_is
      refine' My.txt_mk ?e1 ?e2 ?e3 ..
      (case e1 => PySem.W.k_is)                    -- in the order: a name -> its address -> its object -> its parts
      (case e2 => PySem.W.k_is)
      ..
    obtain ⟨t, T⟩ := T
    have e0 := hmg.symm.trans (PySem.W.mg_of KX G T.law)
    cases e0                                       -- fa is the law's own address
    exact ⟨_, fun s u => .of_eq rfl, fun base kb nb => My.law_fn T kb nb⟩     -- if «.of_eq rfl» comes too early: refine' ⟨_, ?b, fun base kb nb => My.law_fn T kb nb⟩; exact fun s u => .of_eq rfl
  case S => exact fun w H a ns hl hO hS => ..
  case C => exact ..
(the tactic k_is has no namespace: write k_is) -/

/-! SHORT WORDS over the layer: a def of the text, its body, what a loop and a test want. -/
namespace L2
open PySem PySem.Spec PyProof.Rows

/-! ### the text by places -/
def defArgs (s : Stmt) : Arguments := match s with
  | .FunctionDef _ a _ _ _ _ _ _ _ _ => a
  | _ => { posonlyargs := [], args := [], vararg := none, kwonlyargs := [], kw_defaults := [], kwarg := none, defaults := [] }
def defBody (s : Stmt) : List Stmt := match s with
  | .FunctionDef _ _ b _ _ _ _ _ _ _ => b
  | _ => []
def defScope (s : Stmt) : Scope := match s with
  | .FunctionDef _ _ _ _ _ _ sc _ _ _ => sc
  | _ => { kind := .function, names := [], isGenerator := false, isCoroutine := false }

/-! ### no exception leaves a def -/
abbrev CX0 : CXT := fun _ _ _ _ _ _ => False
abbrev E0 : XK := fun _ _ _ => False
theorem pass0 {X : Cx} : Passes CX0 X E0 := fun _ _ _ _ _ _ _ h => h.elim

/-! ### a def (or method) of the text as it stands behind the top -/
section
variable {P : Program} {w : World} {K : PySem.W.Frag} {mg : Str → Option Value} {base : Heap}
end
theorem hu_of {A : Around} {k : Nat} (hr : Room k A) : A.units + 1 < cLine := Nat.lt_of_le_of_lt (Nat.add_le_add_left (by decide : 1 ≤ 64) _) hr.units
/-! ### expressions in short: the name that stands in the i-th slot -/
section
variable {X : Cx}
theorem pv (i : Nat) {x : Str} {pos : Pos} (hN : X.N[i]? = some x := by rfl) (hv : Vis X.env.scope x := by first | exact Or.inl rfl | exact Or.inr (Or.inl rfl) | exact Or.inr (Or.inr rfl)) (hd : (x == ("__debug__" : Str)) = false := by decide)
    (hcd : (x == ("__classdict__" : Str)) = false := by decide) : PE X (.Name x pos) (tVar i) := pe_var hN hv hd hcd
end

/-! ### tests -/
theorem iteF {A B : Prop} (h : B) : if false = true then A else B := by
  rw [if_neg Bool.false_ne_true]
  exact h
theorem iteT {A B : Prop} (h : A) : if true = true then A else B := by
  rw [if_pos rfl]
  exact h
/-! ### heaps -/
/-- all that was tracked is as it was -/
def Same (H H' : Hp) : Prop := ∀ b o, H b = some o → H' b = some o
theorem Same.refl (H : Hp) : Same H H := fun _ _ h => h
theorem Same.trans {H H1 H2 : Hp} (a : Same H H1) (b : Same H1 H2) : Same H H2 := fun c o h => b c o (a c o h)
theorem Same.free {H H' : Hp} (e : Same H H') {l : Addr} (h : H' l = Option.none) : H l = Option.none := by
  cases q : H l with
  | none => rfl
  | some o =>
    rw [e l o q] at h
    cases h
theorem Same.seq {K : PySem.W.Frag} {H H' : Hp} {a : Addr} {xs : List V} (e : Same H H') (h : SqL K H a xs) : SqL K H' a xs := by
  rcases h with (h | ⟨o, h⟩) | h
  · exact .inl (.inl (e _ _ h))
  · exact .inl (.inr ⟨o, e _ _ h⟩)
  · exact .inr h

end L2
set_option Elab.async false
set_option linter.all false
set_option maxRecDepth 100000
namespace L2
open PySem PySem.Spec PyProof.Rows
section
variable {X : Cx}
theorem op_mulB : OpR X (binaryOp .Mult) (rI (fun i j => IntMulOk i j) fun i j => .int (i * j)) := opI fun _ _ _ _ _ _ _ hc q => mul_int q hc
theorem op_fdivB : OpR X (binaryOp .FloorDiv) (rI (fun i j => j ≠ 0 ∧ Builtin.divisionGoesByPylong i j = false) fun i j => .int (i.fdiv j)) := opI fun _ _ _ _ _ _ _ hc q => floordiv_int hc.1 q (.inl hc.2)
theorem op_powB : OpR X (binaryOp .Pow) (rI (fun i j => 0 ≤ j ∧ (Builtin.Int.intBits i : Int) * j ≤ 2 ^ 27) fun i j => .int (i ^ j.toNat)) := opI fun _ _ _ _ _ _ _ hc q => pow_int hc.1 hc.2 q
theorem isi_int_int : CallR X (.builtin "isinstance") (fun xs H Q => ∃ i, xs = [.int i, .ty "int"] ∧ Q (.bl true) H) := by
  intro pins s σ H xs us Q I r h
  obtain ⟨i, rfl, q⟩ := h
  obtain ⟨u, w', rfl, ⟨t, rfl⟩, e2⟩ := vals2 r
  cases e2
  exact PySem.call_isinstance (PySem.isinstance_true (Tx := "int") PySem.F.isi_meta_int PySem.F.isi_self_int) ⟨rfl, ⟨.bl true, H, I, rfl, q⟩⟩
theorem isi_int_bool : CallR X (.builtin "isinstance") (fun xs H Q => ∃ i, xs = [.int i, .ty "bool"] ∧ Q (.bl false) H) := by
  intro pins s σ H xs us Q I r h
  obtain ⟨i, rfl, q⟩ := h
  obtain ⟨u, w', rfl, ⟨t, rfl⟩, e2⟩ := vals2 r
  cases e2
  exact PySem.call_isinstance (PySem.isinstance_false_int (T := "bool") (by decide) PySem.F.isi_meta_bool PySem.F.sub_int_bool) ⟨.bl false, H, I.tok _, rfl, q⟩
theorem isi_bl_bool : CallR X (.builtin "isinstance") (fun xs H Q => ∃ i, xs = [.bl i, .ty "bool"] ∧ Q (.bl true) H) := by
  intro pins s σ H xs us Q I r h
  obtain ⟨i, rfl, q⟩ := h
  obtain ⟨u, w', rfl, e1, e2⟩ := vals2 r
  cases e1
  cases e2
  exact PySem.call_isinstance (PySem.isinstance_true (Tx := "bool") PySem.F.isi_meta_bool PySem.F.isi_self_bool) ⟨rfl, ⟨.bl true, H, I, rfl, q⟩⟩
theorem isi_tup_tup : CallR X (.builtin "isinstance") (fun xs H Q => ∃ a ys, xs = [.ref a, .ty "tuple"] ∧ SqT X.K H a ys ∧ Q (.bl true) H) := by
  intro pins s σ H xs us Q I r h
  obtain ⟨a, ys, rfl, hs, q⟩ := h
  obtain ⟨u, w', rfl, e1, e2⟩ := vals2 r
  cases e1
  cases e2
  obtain ⟨its, _, p1, _⟩ := I.tuple hs
  exact PySem.call_isinstance (PySem.isinstance_true (Tx := "tuple") PySem.F.isi_meta_tuple PySem.F.isi_self_tuple) ⟨p1.typeIs, ⟨.bl true, H, I, rfl, q⟩⟩
/-- two tuples of two ints -/
def rEq2 (K : PySem.W.Frag) (g : Bool → Bool) : R2 := fun x y H Q => ∃ a b p q p' q', x = .ref a ∧ y = .ref b ∧ SqT K H a [.int p, .int q] ∧ SqT K H b [.int p', .int q'] ∧ Q (.bl (g (decide (p = p' ∧ q = q')))) H
theorem op_eq2 (hu : X.A.units < cLine) : OpR X (compareOp .Eq) (rEq2 X.K id) := by
  intro pins s σ H x y v u Q I rx ry h
  obtain ⟨a, b, p, q, p', q', rfl, rfl, h1, h2, hq⟩ := h
  cases rx
  cases ry
  obtain ⟨its, r1, p1, _⟩ := I.tuple h1
  obtain ⟨its2, r2, p2, _⟩ := I.tuple h2
  obtain ⟨w1, w2, rfl, ⟨t1, rfl⟩, ⟨t2, rfl⟩⟩ := vals2 r1
  obtain ⟨w3, w4, rfl, ⟨t3, rfl⟩, ⟨t4, rfl⟩⟩ := vals2 r2
  refine SeqAt.eq_tupleAt (e := fun j => if j = 0 then p == p' else q == q') p1 p2 hu ?_ ?_
  · intro j hj1 hj2
    match j, hj1, hj2 with
    | 0, _, _ => exact SeqAt.EqAt.int_int p t1 p' t3
    | 1, _, _ => exact SeqAt.EqAt.int_int q t2 q' t4
  · refine ⟨.bl (decide (p = p' ∧ q = q')), H, I, ?_, hq⟩
    show Value.bool _ = Value.bool _
    congr 1
    by_cases e1 : p = p' <;> by_cases e2 : q = q' <;> simp [e1, e2, List.range, List.range.loop]
end
end L2
set_option Elab.async false
set_option linter.all false
set_option maxRecDepth 100000
namespace Sw
open PySem
/-! ### sizes -/
def Bd (n : Nat) (x : Int) : Prop := x.natAbs < 2 ^ n
theorem Bd.mono {m n : Nat} {x : Int} (h : Bd m x) (e : m ≤ n) : Bd n x := Nat.lt_of_lt_of_le h (Nat.pow_le_pow_right (by decide) e)
theorem Bd.of_le {n : Nat} {x y : Int} (h : Bd n y) (e : x.natAbs ≤ y.natAbs) : Bd n x := Nat.lt_of_le_of_lt e h
theorem Bd.neg {n : Nat} {x : Int} (h : Bd n x) : Bd n (-x) := h.of_le (by omega)
theorem Bd.mul {m n : Nat} {x y : Int} (h : Bd m x) (g : Bd n y) : Bd (m + n) (x * y) := by
  unfold Bd at *
  rw [Int.natAbs_mul, Nat.pow_add]
  exact Nat.mul_lt_mul_of_lt_of_le h (Nat.le_of_lt g) (Nat.lt_of_le_of_lt (Nat.zero_le _) g)
theorem Bd.add {k : Nat} {x y : Int} (h : Bd k x) (g : Bd k y) : Bd (k + 1) (x + y) := by
  unfold Bd at *
  rw [Nat.pow_succ]
  generalize 2 ^ k = p at h g ⊢
  omega
theorem Bd.sub {k : Nat} {x y : Int} (h : Bd k x) (g : Bd k y) : Bd (k + 1) (x - y) := by
  unfold Bd at *
  rw [Nat.pow_succ]
  generalize 2 ^ k = p at h g ⊢
  omega
theorem Bd.ok {m n : Nat} {x y : Int} (h : Bd m x) (g : Bd n y) (e : m + n ≤ 134217728 := by decide) : IntMulOk x y :=
  IntMulOk.of_le (intBits_le_iff.mpr h) (intBits_le_iff.mpr g) e
theorem Bd.div {n : Nat} {x y : Int} (h : Bd n y) (y0 : y ≠ 0) (e : n ≤ 9000 := by decide) : Builtin.divisionGoesByPylong x y = false := by
  refine PyProof.noPylong_of_log2 ((Nat.log2_lt (by omega)).mpr ?_)
  exact Nat.lt_of_lt_of_le h (Nat.pow_le_pow_right (by decide) e)
theorem Bd.one : Bd 1 1 := by unfold Bd; decide
/-! ### divisors -/
def gcdI (a b : Int) : Int := ((Int.gcd a b : Nat) : Int)
theorem gcdI_nn (a b : Int) : 0 ≤ gcdI a b := Int.natCast_nonneg _
theorem gcdI_neg_l (a b : Int) : gcdI (-a) b = gcdI a b := by unfold gcdI; rw [Int.neg_gcd]
theorem gcdI_neg_r (a b : Int) : gcdI a (-b) = gcdI a b := by unfold gcdI; rw [Int.gcd_neg]
theorem gcdI_fmod {g l : Int} (hl : 0 < l) : gcdI l (g.fmod l) = gcdI g l := by
  unfold gcdI
  have e : g.fmod l = g - (g.fdiv l) * l := by rw [Int.fmod_def, Int.mul_comm]
  rw [e, Int.gcd_comm l, Int.gcd_sub_mul_right_left]
def absI (i : Int) : Int := if i < 0 then -i else i
theorem absI_nn (i : Int) : 0 ≤ absI i := by unfold absI; split <;> omega
theorem gcdI_abs (a b : Int) : gcdI (absI a) (absI b) = gcdI a b := by
  unfold absI
  split <;> split <;> simp only [gcdI_neg_l, gcdI_neg_r]
theorem gcdI_zero {g : Int} (h : 0 ≤ g) : gcdI g 0 = g := by
  unfold gcdI; rw [Int.gcd_zero_right]; omega
theorem gcdI_eq_zero {a b : Int} (h : gcdI a b = 0) : a = 0 ∧ b = 0 := by
  unfold gcdI at h
  exact Int.gcd_eq_zero_iff.mp (by omega)
theorem gcdI_dvd_l (a b : Int) : gcdI a b ∣ a := Int.gcd_dvd_left ..
theorem gcdI_dvd_r (a b : Int) : gcdI a b ∣ b := Int.gcd_dvd_right ..
/-! ### fractions -/
structure Fr (p q a b : Int) : Prop where
  pos : 0 < q
  low : gcdI p q = 1
  same : p * b = a * q
  bt : p.natAbs ≤ a.natAbs
  bb : q.natAbs ≤ b.natAbs
def frC (a b : Int) : Int := if b < 0 then -gcdI a b else gcdI a b
theorem frC_ne {a b : Int} (h : b ≠ 0) : frC a b ≠ 0 := by
  have g : gcdI a b ≠ 0 := fun z => h (gcdI_eq_zero z).2
  unfold frC; split <;> omega
theorem fr_of {a b : Int} (h : b ≠ 0) : Fr (a.fdiv (frC a b)) (b.fdiv (frC a b)) a b := by
  have g : gcdI a b ≠ 0 := fun z => h (gcdI_eq_zero z).2
  have p : 0 < gcdI a b := by have := gcdI_nn a b; omega
  have c0 := frC_ne (a := a) h
  have da : frC a b ∣ a := by
    unfold frC; split
    · exact Int.neg_dvd.mpr (gcdI_dvd_l a b)
    · exact gcdI_dvd_l a b
  have db : frC a b ∣ b := by
    unfold frC; split
    · exact Int.neg_dvd.mpr (gcdI_dvd_r a b)
    · exact gcdI_dvd_r a b
  obtain ⟨x, hx⟩ := da
  obtain ⟨y, hy⟩ := db
  have ex : a.fdiv (frC a b) = x := by
    conv => lhs; arg 1; rw [hx]
    exact Int.mul_fdiv_cancel_left x c0
  have ey : b.fdiv (frC a b) = y := by
    conv => lhs; arg 1; rw [hy]
    exact Int.mul_fdiv_cancel_left y c0
  rw [ex, ey]
  have yp : 0 < y := by
    have e := hy
    unfold frC at e
    rcases (by omega : y < 0 ∨ y = 0 ∨ 0 < y) with q | q | q
    · exfalso
      split at e
      · rename_i hb
        have := Int.mul_neg_of_pos_of_neg p q
        rw [Int.neg_mul] at e
        omega
      · have := Int.mul_neg_of_pos_of_neg p q
        omega
    · rw [q] at hy; omega
    · exact q
  have lowx : gcdI x y = 1 := by
    have m : gcdI (frC a b * x) (frC a b * y) = gcdI a b * gcdI x y := by
      show ((Int.gcd _ _ : Nat) : Int) = _ * ((Int.gcd x y : Nat) : Int)
      rw [Int.gcd_mul_left, Int.natCast_mul]
      congr 1
      unfold frC; split <;> omega
    rw [← hx, ← hy] at m
    exact Int.eq_one_of_mul_eq_self_right g m.symm
  refine ⟨yp, lowx, ?_, ?_, ?_⟩
  · conv => lhs; rw [hy]
    conv => rhs; rw [hx]
    rw [← Int.mul_assoc, Int.mul_comm x]
  · have : a.natAbs = (frC a b).natAbs * x.natAbs := by conv => lhs; rw [hx]; rw [Int.natAbs_mul]
    rw [this]
    exact Nat.le_mul_of_pos_left _ (by omega)
  · have : b.natAbs = (frC a b).natAbs * y.natAbs := by conv => lhs; rw [hy]; rw [Int.natAbs_mul]
    rw [this]
    exact Nat.le_mul_of_pos_left _ (by omega)
end Sw
set_option Elab.async false
set_option linter.all false
set_option maxRecDepth 100000
namespace L2
open PySem
inductive Isi (K : PySem.W.Frag) (H : Hp) : V → String → Bool → Prop where
  | ii (i : Int) : Isi K H (.int i) "int" true
  | ib (i : Int) : Isi K H (.int i) "bool" false
  | bb (b : Bool) : Isi K H (.bl b) "bool" true
  | tt (a : Addr) (ys : List V) (h : SqT K H a ys) : Isi K H (.ref a) "tuple" true
theorem call_isi {X : Cx} : CallR X (.builtin "isinstance") (fun xs H Q => ∃ x T b, xs = [x, .ty T] ∧ Isi X.K H x T b ∧ Q (.bl b) H) := by
  intro pins s σ H xs us Q I r h
  obtain ⟨x, T, b, rfl, i, q⟩ := h
  cases i with
  | ii i => exact isi_int_int pins s σ H _ us Q I r ⟨i, rfl, q⟩
  | ib i => exact isi_int_bool pins s σ H _ us Q I r ⟨i, rfl, q⟩
  | bb i => exact isi_bl_bool pins s σ H _ us Q I r ⟨i, rfl, q⟩
  | tt a ys h => exact isi_tup_tup pins s σ H _ us Q I r ⟨a, ys, rfl, h, q⟩
end L2
namespace Sw
open PySem L2
theorem dT {p A B : Prop} [Decidable p] (h : p) (a : A) : if decide p = true then A else B := by rw [if_pos (decide_eq_true h)]; exact a
theorem dF {p A B : Prop} [Decidable p] (h : ¬ p) (b : B) : if decide p = true then A else B := by rw [if_neg (by simp [h])]; exact b
theorem d2 {p A B : Prop} [Decidable p] (h1 : p → A) (h2 : ¬ p → B) : if decide p = true then A else B := by
  by_cases h : p
  · exact dT h (h1 h)
  · exact dF h (h2 h)
theorem nT {p A B : Prop} [Decidable p] (h : ¬ p) (a : A) : if (!decide p) = true then A else B := by rw [if_pos (by simp [h])]; exact a
theorem nF {p A B : Prop} [Decidable p] (h : p) (b : B) : if (!decide p) = true then A else B := by rw [if_neg (by simp [h])]; exact b
theorem vi {a b : Int} (h : a = b) : V.int a = V.int b := by rw [h]
theorem vj {a b : Int} (h : V.int a = V.int b) : a = b := by cases h; rfl
theorem d2I {a b : Int} {A B : Prop} (h1 : a = b → A) (h2 : a ≠ b → B) : if decide (V.int a = V.int b) = true then A else B := d2 (fun h => h1 (vj h)) fun h => h2 fun e => h (vi e)
theorem n2I {a b : Int} {A B : Prop} (h1 : a ≠ b → A) (h2 : a = b → B) : if (!decide (V.int a = V.int b)) = true then A else B := by
  by_cases h : a = b
  · exact nF (vi h) (h2 h)
  · exact nT (fun e => h (vj e)) (h1 h)
theorem dFI {a b : Int} {A B : Prop} (h : a ≠ b) (x : B) : if decide (V.int a = V.int b) = true then A else B := dF (fun e => h (vj e)) x
theorem nFI {a b : Int} {A B : Prop} (h : a = b) (x : B) : if (!decide (V.int a = V.int b)) = true then A else B := nF (vi h) x
section
variable {X : Cx} {k j : Nat} {x : Str} {ps : List Str} {sp : Sp} {p pos : Pos} {e : Expr} {es : List Expr} {t : TA}
end
/-! ### promises -/
def spDiv : Sp := fun vs H Q _ => ∃ a b : Int, vs = [.int a, .int b] ∧ Q (.int (gcdI a b)) H
def spCell (K : PySem.W.Frag) : Sp := fun vs H Q _ => ∃ (a : Addr) (ns : List Int) (k : Int), vs = [.ref a, .int k] ∧ SqL K H a (ns.map V.int) ∧ 0 ≤ k ∧ ∀ v : Int, Q (.int v) H
def spWhole : Sp := fun vs H Q _ => ∃ v : Int, vs = [.int v] ∧ Q (.bl true) H
def spLaw (K : PySem.W.Frag) : Sp := fun vs H Q _ => ∃ (a : Addr) (ns : List Int), vs = [.ref a] ∧ SqL K H a (ns.map V.int) ∧ ns.length ≤ 63 ∧ ∀ H', Q (.bl true) H'
theorem cell_ok {ns : List Int} {k : Int} (h0 : 0 ≤ k) (h : k < (((ns.map V.int).length : Nat) : Int)) : ∃ v : Int, atI (ns.map V.int) k = some (.int v) := by
  rw [List.length_map] at h
  have hk : k.toNat < ns.length := by omega
  have ek : k = ((k.toNat : Nat) : Int) := by omega
  have q : atI (ns.map V.int) ((k.toNat : Nat) : Int) = some (.int ns[k.toNat]) := atI_nat (by rw [List.getElem?_map, List.getElem?_eq_getElem hk] <;> rfl)
  rw [← ek] at q
  exact ⟨_, q⟩
end Sw
set_option Elab.async false
set_option linter.all false
set_option maxRecDepth 100000
namespace Sw
open PySem L2
theorem cut {t u : TS} {D : Ends} {σ : L2.St} {H : Hp} (I : L2.St → Hp → Prop) (h1 : ∀ N : L2.St → Hp → Prop, (∀ σ H, I σ H → N σ H) → t { D with nx := N } σ H) (h2 : ∀ σ H, I σ H → u D σ H) : tSeq t u D σ H := h1 _ h2
theorem sameT {K : PySem.W.Frag} {H H' : Hp} {a : Addr} {xs : List V} (e : Same H H') (h : SqT K H a xs) : SqT K H' a xs := by
  rcases h with (h | ⟨o, h⟩) | h
  · exact .inl (.inl (e _ _ h))
  · exact .inl (.inr ⟨o, e _ _ h⟩)
  · exact .inr h
theorem same_new {H : Hp} {p : Addr} (h : H p = none) (o : HO) : Same H (upd H p o) := fun b u q => by rw [upd_ne (ne_of_none q h)]; exact q
theorem frC_pos {a b : Int} (h : 0 < b) : frC a b = gcdI a b := by unfold frC; rw [if_neg (by omega)]
theorem frC_bd {n : Nat} {a b : Int} (b0 : b ≠ 0) (h : Bd n b) : Bd n (frC a b) := by
  have d : gcdI a b ∣ b := gcdI_dvd_r a b
  have k := Nat.le_of_dvd (by omega) (Int.natAbs_dvd_natAbs.mpr d)
  refine h.of_le ?_
  unfold frC
  split <;> omega
/-- a new pair -/
def Pair (H : Hp) (Q : VK) (p q : Int) : Prop := ∀ (t : Addr) (H' : Hp), Same H H' → H' t = some (.tup [.int p, .int q]) → Q (.ref t) H'
def spFr : Sp := fun vs H Q _ => ∃ a b : Int, vs = [.int a, .int b] ∧ b ≠ 0 ∧ Bd 8500 b ∧ ∀ p q : Int, Fr p q a b → Pair H Q p q
structure FrIn (K : PySem.W.Frag) (n : Nat) (H : Hp) (t : Addr) (p q : Int) : Prop where
  at_ : SqT K H t [.int p, .int q]
  pos : 0 < q
  bp : Bd n p
  bq : Bd n q
theorem FrIn.same {K : PySem.W.Frag} {n : Nat} {H H' : Hp} {t : Addr} {p q : Int} (h : FrIn K n H t p q) (e : Same H H') : FrIn K n H' t p q := ⟨sameT e h.at_, h.pos, h.bp, h.bq⟩
theorem FrIn.mono {K : PySem.W.Frag} {m n : Nat} {H : Hp} {t : Addr} {p q : Int} (h : FrIn K m H t p q) (e : m ≤ n) : FrIn K n H t p q := ⟨h.at_, h.pos, h.bp.mono e, h.bq.mono e⟩
theorem FrIn.of {K : PySem.W.Frag} {n : Nat} {H : Hp} {t : Addr} {p q a b : Int} (f : Fr p q a b) (ha : Bd n a) (hb : Bd n b) (e : H t = some (.tup [.int p, .int q])) : FrIn K n H t p q := ⟨SqT.of e, f.pos, ha.of_le f.bt, hb.of_le f.bb⟩
def spUp (K : PySem.W.Frag) : Sp := fun vs H Q _ => ∃ (t : Addr) (p q : Int), vs = [.ref t] ∧ FrIn K 8000 H t p q ∧ Q (.int (-((-p).fdiv q))) H
theorem fdiv_bounds {p q : Int} (h : 0 < q) : p.fdiv q * q ≤ p ∧ p < (p.fdiv q + 1) * q := by
  have e := Int.fmod_def p q
  have h1 := Int.fmod_nonneg_of_pos p h
  have h2 := Int.fmod_lt_of_pos p h
  have e2 : p.fdiv q * q = q * p.fdiv q := Int.mul_comm ..
  have e3 : (p.fdiv q + 1) * q = q * p.fdiv q + q := by rw [Int.add_mul, e2, Int.one_mul]
  omega
theorem up_bounds {p q : Int} (h : 0 < q) : p ≤ -((-p).fdiv q) * q ∧ (-((-p).fdiv q) - 1) * q < p := by
  have b := fdiv_bounds (p := -p) h
  have e1 : -((-p).fdiv q) * q = -((-p).fdiv q * q) := Int.neg_mul ..
  have e2 : (-((-p).fdiv q) - 1) * q = -(((-p).fdiv q + 1) * q) := by rw [← Int.neg_mul]; congr 1; omega
  omega
theorem fdiv_bd {n : Nat} {p q : Int} (h : Bd n p) : Bd n (p.fdiv q) := h.of_le (natAbs_fdiv_le p q)
end Sw
set_option Elab.async false
set_option linter.all false
set_option maxRecDepth 100000
namespace Sw
open PySem L2
structure FunD (K : PySem.W.Frag) (x qual : Str) (st : Stmt) (dV : Value) (f : Addr) (fd : FuncData) : Prop where
  ex : ∃ (oc : Value) (od : Option Addr) (kV doc pm : Value) (an : Option Addr) (cdv ct : Value) (osl : Array (Option Value)),
    fd = PySem.W.fnOf x qual (defArgs st) (defBody st) (defScope st) dV kV doc pm an cdv ct ∧ K.lookup f = some ⟨oc, od, .func fd, osl⟩ ∧ PySem.W.codeIn K cdv qual = true
  kp : PySem.W.keepIn K (.ref f) = true
section
variable {P : Program} {w : World} {K : PySem.W.Frag} {mg : Str → Option Value} {base : Heap}
theorem FunD.ok {x qual : Str} {st : Stmt} {dV : Value} {f : Addr} {fd : FuncData} {N ps : List Str} {k : Nat} {sp : Sp} (F : FunD K x qual st dV f fd) (S : FnScope N ps (defScope st)) (len : ∀ vs H Q E, sp vs H Q E → vs.length = ps.length)
    (hbody : ∀ (cdv : Value) (A : Around) (outer : List Env) (s : Shared) (H : Hp) (vs : List V) (Q : VK) (E : XK), Room k (A.deeper (PyProof.Rows.envOfC qual (defScope st) s.heap.objs.size f cdv)) → sp vs H Q E →
      ∃ t, PSs (cxOf CX0 P w K mg base N qual (defScope st) f cdv A outer s H E).nox (defBody st) t ∧ t { nx := fun _ H' => Q .non H', rt := Q } (start N vs) H) : FnOk P w K mg base CX0 (k + 1) f fd ps sp := by
  obtain ⟨oc, od, kV, doc, pm, an, cdv, ct, osl, rfl, lk, hcd⟩ := F.ex
  refine fn_of lk hcd S len fun A outer s H vs Q E hr hsp => ?_
  obtain ⟨t, h, q⟩ := hbody cdv A outer s H vs Q E hr hsp
  exact ⟨t, h.nox, q⟩
theorem FunD.binds {x qual : Str} {st : Stmt} {T : Addr} {f : Addr} {fd : FuncData} {ps : List Str} {o : Obj} {items : Array Value} {n : Nat} {ds : List Value} (F : FunD K x qual st (.ref T) f fd) (ho : K.lookup T = some o) (hs : o.data = .seq items n)
    (h : ∀ (kV doc pm : Value) (an : Option Addr) (cdv ct : Value) (us : List Value), (us ++ ds).length = ps.length → ∃ k : Option (Array Value) → Sem (List (Str × Value)), bindArgs (PySem.W.fnOf x qual (defArgs st) (defBody st) (defScope st) (.ref T) kV doc pm an cdv ct) ⟨us, []⟩ = seqItems? (.ref T) >>= k ∧ k (some items) = pure (ps.zip (us ++ ds))) : Binds K fd ps ds := by
  obtain ⟨oc, od, kV, doc, pm, an, cdv, ct, osl, rfl, lk, hcd⟩ := F.ex
  intro s us KX hl
  obtain ⟨k, h1, h2⟩ := h kV doc pm an cdv ct us hl
  exact PySem.W.binds_K KX rfl ho hs h1 h2
theorem FunD.binds0 {x qual : Str} {st : Stmt} {dV : Value} {f : Addr} {fd : FuncData} {ps : List Str} (F : FunD K x qual st dV f fd)
    (h : ∀ (kV doc pm : Value) (an : Option Addr) (cdv ct : Value) (us : List Value), us.length = ps.length → bindArgs (PySem.W.fnOf x qual (defArgs st) (defBody st) (defScope st) dV kV doc pm an cdv ct) ⟨us, []⟩ = pure (ps.zip us)) : Binds K fd ps [] := by
  obtain ⟨oc, od, kV, doc, pm, an, cdv, ct, osl, rfl, lk, hcd⟩ := F.ex
  exact .all (h kV doc pm an cdv ct)
theorem funD_mk {x qual : Str} {st : Stmt} {f : Addr} {oc dV : Value} {od an : Option Addr} {osl : Array (Option Value)} {kV doc pm cdv ct : Value} (l : K.lookup f = some ⟨oc, od, .func (PySem.W.fnOf x qual (defArgs st) (defBody st) (defScope st) dV kV doc pm an cdv ct), osl⟩)
    (c : PySem.W.codeIn K cdv qual = true) (k : PySem.W.keepIn K (.ref f) = true) : FunD K x qual st dV f (PySem.W.fnOf x qual (defArgs st) (defBody st) (defScope st) dV kV doc pm an cdv ct) := ⟨⟨oc, od, kV, doc, pm, an, cdv, ct, osl, rfl, l, c⟩, k⟩
end
section
variable {X : Cx} {k j : Nat} {x : Str} {ps : List Str} {sp : Sp} {p pos : Pos} {e : Expr} {es : List Expr} {t : TA} {dvs : List V}
end
def spProd (K : PySem.W.Frag) : Sp := fun vs H Q _ => ∃ (t t' : Addr) (p q p' q' : Int), vs = [.ref t, .ref t'] ∧ FrIn K 4000 H t p q ∧ FrIn K 4000 H t' p' q' ∧ ∀ r s : Int, Fr r s (p * p') (q * q') → Pair H Q r s
/-! ### the mathematics of sums -/
theorem mul_ne {x y : Int} (h : 0 < x) (g : 0 < y) : x * y ≠ 0 := by have := Int.mul_pos h g; omega
end Sw
set_option Elab.async false
set_option linter.all false
set_option maxRecDepth 100000
namespace XH
open PySem
/-! ### what a frame's note and the flight of an exception change -/
section
variable {M : Model} {A : Around} {E : Value → Shared → Prop} {s : Shared}
end
end XH
set_option Elab.async false
set_option linter.all false
set_option maxRecDepth 100000
namespace L2
open PySem PySem.Spec PyProof.Rows XH
/-! ### an exception behind a call, in flight: it and its notes are untracked, and were not there ahead of the call -/
section
variable {P : Program} {w : World} {H H' : Hp} {h h' h0 : Heap} {fs ch : List Addr} {a : Addr} {o : HO}
end
section
variable {P : Program} {w : World} {H H' : Hp} {s s' : Shared} {a L : Addr} {cls v : Value} {dx : Option Addr} {st : XSt} {env : Env} {outer : List Env} {base : Heap} {M : Model} {A : Around} {Z : Value → Shared → Prop} {Q : Unit → Shared → Prop}
end
section
variable {X : Cx} {k : Nat} {f C : Addr} {fd : FuncData} {ps : List Str} {sp : Sp} {dvs : List V} {ds : List Value} {E : St → XK} {x m : Str} {p pos apos : Pos} {e o : Expr} {es : List Expr} {ta : TE} {t : TA}
end
section
variable {P : Program} {w : World} {K : PySem.W.Frag} {mg : Str → Option Value} {base : Heap}
end
/-! ### try -/
/-- an exception that was caught or made, tracked -/
def excB (n : Bool) (a : Addr) (cls : Value) (dx : Option Addr) : HO := .ext fun h => ∃ ox vs, h.get? a = some ox ∧ ox.cls = cls ∧ ox.dict = dx ∧ ox.data = .fields vs ∧ vs[2]? = some .none ∧ (n = true → 1 < vs.size ∧ vs[1]? = some .none)
section
variable {X : Cx} {pins : List (Addr × Obj)} {σ : St} {H H' : Hp} {s s' : Shared}
end
section
variable {X : Cx} {body : List Stmt} {h₀ : ExceptHandler} {hs : List ExceptHandler} {pos : Pos} {th : TH}
end
end L2
set_option Elab.async false
set_option linter.all false
set_option maxRecDepth 100000
namespace L2
open PySem PySem.Spec PyProof.Rows XH
section
variable {prog : Program} {w : World} {A : Around} {E : Value → Shared → Prop} {K : PySem.W.Frag} {h : Heap} {g : Array GenState} {d : Drawn} {t : Nat} {os : OsState} {x C : Addr} {ox : Obj} {od : Option Obj} {name : Str}
end
end L2
set_option Elab.async false
set_option linter.all false
set_option maxRecDepth 100000
namespace L2
open PySem PySem.Spec PyProof.Rows XH
section
variable {prog : Program} {w : World} {A : Around} {E : Value → Shared → Prop} {K : PySem.W.Frag}
end
section
variable {X : Cx} {x n : Str} {np pos : Pos} {b0 : Stmt} {suite : List Stmt} {rest : List ExceptHandler} {i : Nat} {C' : Addr} {t : TS} {th : TH}
end
/-! ### raise -/
section
variable {X : Cx} {x : Str} {np cpos pos : Pos} {e₀ : Expr} {rest : List Expr} {C : Addr} {t : TA} {E : St → XK}
end
/-! ### isinstance of an exception -/
end L2
set_option Elab.async false
set_option linter.all false
set_option maxRecDepth 100000
namespace L2
open PySem PySem.Spec PyProof.Rows XH
/-! ### list comprehensions -/
abbrev Cx.block (X : Cx) (scope : Scope) (cl : List (Str × Addr)) (C : Addr) (N : List Str) (own : Str) (fp : List Addr) (s : Shared) (H : Hp) : Cx :=
  { X with env := compEnvC scope cl C X.env, N := N, s₀ := s, H₀ := H, outer := X.stack, stack := X.stack, ex := fp, fn := fun y => y == own, pn := [], xe := fun _ _ => False }
/-- what a comprehension's scope must have; ys: the names it takes from around, at the slots js there -/
structure CompOk (X : Cx) (scope : Scope) (cl : List (Str × Addr)) (own : Str) (ys : List Str) (js : List Nat) : Prop where
  clos : closureFor scope X.env = pure cl
  nocell : (scope.names.all fun p => !(p.2 == .cell)) = true
  kind : scope.kind = .function
  loc : (scope.names.all fun p => !(p.2 == .local) || scope.names.lookup p.1 == some .local) = true
  ownL : scope.names.lookup own = some .local
  sub : ∀ p ∈ cl, X.env.cells.lookup p.1 = some p.2
  has : ((relabel scope X.env).names.all fun p => !(p.2 == .cell || p.2 == .free) || (cl.lookup p.1).isSome) = true
  noown : cl.lookup own = none
  nd : (own :: ys).Nodup
  at_ : ∀ (i : Nat) (y : Str), ys[i]? = some y → ∃ j : Nat, js[i]? = some j ∧ X.N[j]? = some y ∧ (X.env.scope.names.lookup y = some .cell ∨ X.env.scope.names.lookup y = some .free) ∧ ((relabel scope X.env).names.lookup y = some .cell ∨ (relabel scope X.env).names.lookup y = some .free)
  len : js.length = ys.length
def freesOf (js : List Nat) (σ : St) : St := js.map fun j => (σ[j]?).getD none
def compR (js : List Nat) (te : TE) (σ : St) (Q : VK) : It → Hp → Prop := fun J H1 => ∀ p, H1 p = none → ∃ W : Nat → Nat → List V → Hp → Prop, (∃ m, W 0 m [] (upd H1 p (.lst []))) ∧
  ∀ i m ys H2, W i m ys H2 → H2 p = some (.lst ys) ∧ ((J.stop i H2 ∧ Q (.ref p) H2) ∨ (J.go i H2 ∧ ys.length < sizeLine ∧ ∀ x H3, J.yld i H2 x H3 → te (some x :: freesOf js σ) H3 fun y H4 => H4 p = some (.lst ys) ∧ ∃ m', m' < m ∧ W (i + 1) m' (ys ++ [y]) (upd H4 p (.lst (ys ++ [y])))))
def tComp (wi : TI) (js : List Nat) (te : TE) : TE := fun σ H Q => wi σ H (compR js te σ Q)
theorem lookup_all {α : Type} {f : Str × α → Bool} {x : Str} {a : α} : ∀ {l : List (Str × α)}, l.all f = true → l.lookup x = some a → f (x, a) = true := by
  intro l h e
  exact List.all_eq_true.mp h _ (PySem.mem_of_lookup e)
section
variable {prog : Program} {w : World} {A : Around} {R : Result → Shared → Prop} {s : Shared}
theorem compLoop_own {elt target iter : Expr} {scope : Scope} {pos : Pos} {it acc : Value} {env : Env} (I : Nat → Shared → Prop)
    (turn : ∀ n s, I n s → wpAny (model prog w) A (pyNext it) (fun r s1 => match r with
      | none => R (.ok .next) s1
      | some v => wpAny (model prog w) A (letOwnedTupleGo target it v) (fun _ s2 => wpAny (model prog w) A (assign target env v) (fun _ s3 => wpAny (model prog w) A (eval elt env) (fun x s4 =>
          wpAny (model prog w) A (call (.builtin "list.append") [acc, x]) (fun _ s5 => ∃ m, m < n ∧ I m s5) (fun _ _ => False) s4) (fun _ _ => False) s3) (fun _ _ => False) s2) (fun _ _ => False) s1) (fun _ _ => False) s)
    (n : Nat) (h : I n s) : codeAny (model prog w) A (.compLoop (.ListComp elt [⟨target, iter, [], 0⟩] scope pos) 0 it acc env) R s := by
  apply codeAny_loop rfl I ?_ n h
  intro n s hI
  show wpAny _ _ ((compTurn (.ListComp elt [⟨target, iter, [], 0⟩] scope pos) 0 it acc env).onRaise _) _ _ s
  apply wpAny_noted
  rw [compTurn_list1]
  apply wpAny_bind
  apply wpAny_standAt
  apply wpAny_bind
  refine wpAny_mono (turn n s hI) (fun r s1 h1 => ?_) fun _ _ z => z.elim
  cases r with
  | none => exact wpAny_pure h1
  | some v =>
    apply wpAny_bind
    refine wpAny_mono h1 (fun _ s2 h2 => ?_) fun _ _ z => z.elim
    apply wpAny_bind
    refine wpAny_mono h2 (fun _ s3 h3 => ?_) fun _ _ z => z.elim
    apply wpAny_bind
    apply wpAny_bind
    refine wpAny_mono h3 (fun x s4 h4 => ?_) fun _ _ z => z.elim
    apply wpAny_bind
    refine wpAny_mono h4 (fun _ s5 h5 => ?_) fun _ _ z => z.elim
    exact wpAny_pure (wpAny_pure ⟨rfl, h5⟩)
end
section
variable {X : Cx} {scope : Scope} {cl : List (Str × Addr)} {own : Str} {ys : List Str} {js : List Nat} {fp : List Addr} {pins : List (Addr × Obj)} {σ : St} {H : Hp} {s s4 : Shared}
theorem block_start {h1 : Heap} (ok : CompOk X scope cl own ys js) (I : Inv X pins σ H s) (hf : ∀ b ∈ fp, FpOk X pins H b) (hlt : ∀ b ∈ fp, b < s.heap.objs.size) (hns : h1.Ns s.heap.objs.size (fun _ => none))
    (hk : ∀ b o, s.heap.get? b = some o → h1.get? b = some o) (tk : Nat) :
    Inv (X.block scope cl s.heap.objs.size (own :: ys) own fp s H) [] (none :: freesOf js σ) H { s with heap := h1, toks := tk } := by
  have sub : ∀ y c, cl.lookup y = some c → X.env.cells.lookup y = some c := fun y c e => ok.sub (y, c) (PySem.mem_of_lookup e)
  refine ⟨⟨I.ok.mod, ok.kind, I.ok.glob, I.ok.blt, Nat.le_refl _, fun x y c e1 e2 => I.ok.inj x y c (sub x c e1) (sub y c e2), fun x hx => ?_, fun x c e1 e2 => ?_, I.ok.hd, I.ok.frames, .inl rfl, fun b hb => ⟨Nat.ne_of_lt (hlt b hb), fun x c e => (hf b hb).2.2.2.2.1 x c (sub x c e)⟩,
    I.bs, Nat.le_trans I.ok.bsz I.sz, fun b o e hb => ?_, fun b hb z => ?_, I.stack, I.stkFree⟩, rfl, I.bare, Un.kept hk, ⟨_, hns, fun i y v e1 e2 e3 => ?_⟩, fun y c e => ?_, I.hok.fresh (Nat.le_refl _), fun y c e => I.freeC y c (sub y c e), fun p hp => absurd (show p ∈ ([] : List (Addr × Obj)) from hp) (by simp), I.hok.kept hk, ?_⟩
  · have hx' : (relabel scope X.env).names.lookup x = some .cell ∨ (relabel scope X.env).names.lookup x = some .free := hx
    rcases hx' with z | z
    · have q := lookup_all ok.has z
      simp only [beq_self_eq_true, Bool.true_or, Bool.not_true, Bool.false_or] at q
      exact Option.isSome_iff_exists.mp q
    · have q := lookup_all ok.has z
      simp only [beq_self_eq_true, Bool.or_true, Bool.not_true, Bool.false_or] at q
      exact Option.isSome_iff_exists.mp q
  · have e1' : (x == own) = true := e1
    have e : x = own := beq_iff_eq.mp e1'
    have e2' : cl.lookup x = some c := e2
    rw [e, ok.noown] at e2'
    cases e2'
  · rcases (hf b hb).2.2.2.1 with z | z
    · exact I.ok.noex b o e z
    · exact absurd (Nat.lt_of_lt_of_le (Heap.lt_size (I.ok.bs b o e).1) z) (Nat.lt_irrefl _)
  · rcases List.mem_cons.mp (I.stkSub b z) with q | q
    · exact (hf b hb).2.1 q
    · exact (hf b hb).2.2.1 q
  · cases i with
    | zero => cases e2
    | succ i =>
      have e1' : ys[i]? = some y := e1
      obtain ⟨j, hj, hN, hX, hc⟩ := ok.at_ i y e1'
      have e2' : (freesOf js σ)[i]? = some (some v) := e2
      unfold freesOf at e2'
      rw [List.getElem?_map, hj] at e2'
      have hs : σ[j]? = some (some v) := by
        cases q : σ[j]? with
        | none => rw [Option.map_some, q] at e2'; cases e2'
        | some o => rw [Option.map_some, q] at e2'; exact e2'
      obtain ⟨m, hn, hl⟩ := I.loc
      obtain ⟨u, r, l⟩ := hl j y v hN hs (hX.elim (fun z => .inr (.inl z)) fun z => .inr (.inr z))
      refine ⟨u, r, .inr ⟨hc, ?_⟩⟩
      rcases l with ⟨k, _⟩ | ⟨k, c, hcl, hcell⟩
      · have k' : X.env.scope.names.lookup y = some .local := k
        rcases hX with z | z <;> (rw [z] at k'; cases k')
      · have ex : ∃ c', cl.lookup y = some c' := by
          rcases hc with z | z
          · have q := lookup_all ok.has z
            simp only [beq_self_eq_true, Bool.true_or, Bool.not_true, Bool.false_or] at q
            exact Option.isSome_iff_exists.mp q
          · have q := lookup_all ok.has z
            simp only [beq_self_eq_true, Bool.or_true, Bool.not_true, Bool.false_or] at q
            exact Option.isSome_iff_exists.mp q
        obtain ⟨c', hc'⟩ := ex
        have e := sub y c' hc'
        rw [hcl] at e
        cases e
        obtain ⟨oc, hoc, hd⟩ := hcell
        exact ⟨c, hc', oc, hk _ _ hoc, hd⟩
  · obtain ⟨v, oc, hoc, hd⟩ := I.cell y c (sub y c e)
    exact ⟨v, oc, hk _ _ hoc, hd⟩
  · show (none :: freesOf js σ).length = (own :: ys).length
    simp [freesOf, ok.len]
theorem block_end {H' : Hp} {h' : Heap} {σ' : St} (I : Inv X pins σ H s) (hf : ∀ b ∈ fp, FpOk X pins H b) (J : Inv (X.block scope cl s.heap.objs.size (own :: ys) own fp s H) [] σ' H' s4) (hs : Heap.SameBut s.heap.objs.size s4.heap h') :
    Inv X pins σ H' { s4 with heap := h' } := by
  have low : ∀ b o, s.heap.get? b = some o → b ≠ s.heap.objs.size := fun b o e => Nat.ne_of_lt (Heap.lt_size e)
  have B := J.base
  have u : Un (frs X.stack) fp H H' s.heap h' := {
    keep := fun b o q n hb hx => (hs.2 b (low b o q)).trans (B.keep b o q n hb hx)
    slot := fun b o q n hb hx => by
      obtain ⟨sl, e⟩ := B.slot b o q n hb hx
      exact ⟨sl, (hs.2 b (low b o q)).trans e⟩
    free := B.free
    there := fun b o q hx => by
      obtain ⟨o', e⟩ := B.there b o q hx
      exact ⟨o', (hs.2 b (low b o q)).trans e⟩
    tups := B.tups
    frzs := B.frzs
    tbls := B.tbls }
  have hn : H' s.heap.objs.size = none := J.free
  have hk : HOk X.prog X.w H' h' := fun a o e => (J.hok a o e).stay (fun b v hb q => (hs.2 b (by
    intro z
    rcases hb with z' | z'
    · rw [← z', z, hn] at e; cases e
    · rw [z, hn] at z'; cases z')).trans q) (fun _ q => q) fun _ _ q => q
  exact I.call' (s' := { s4 with heap := h' }) (ch := fp) J.os u hk J.bare fun b hb => ⟨(hf b hb).2.2.2.1, (hf b hb).2.1, (hf b hb).2.2.2.2.1, (hf b hb).2.2.2.2.2⟩
end
section
variable {X : Cx} {scope : Scope} {cl : List (Str × Addr)} {own : Str} {ys : List Str} {js : List Nat} {elt iter : Expr} {px pos : Pos} {wi : TI} {te : TE}
theorem pe_comp (hc : X.calm = true) (ok : CompOk X scope cl own ys js) (hi : PI X (.Name own px) iter wi)
    (he : ∀ (C : Addr) (fp : List Addr) (s : Shared) (H : Hp), PE (X.block scope cl C (own :: ys) own fp s H) elt te)
    (hs : ∀ x, foldedSetIterable iter X.env x = pure x := by intro _; rfl) : PE X (.ListComp elt [⟨.Name own px, iter, [], 0⟩] scope pos) (tComp wi js te) := by
  intro pins s σ H Q I h
  rw [eval_ListComp]
  have ncell : ∀ y ∈ scope.names, y.2 ≠ .cell := fun y hy z => by
    have q := List.all_eq_true.mp ok.nocell y hy
    rw [z] at q
    simp at q
  have nloc : ∀ y ∈ scope.names, y.2 = .local → scope.names.lookup y.1 = some .local := fun y hy z => by
    have q := List.all_eq_true.mp ok.loc y hy
    rw [z] at q
    simpa using q
  refine wpAny_comprehension_free (use := none) rfl hs ok.clos ok.kind nloc (thn (hi pins s σ H _ I h) fun v s1 h1 => thn h1 fun itv s2 h2 => ?_)
  obtain ⟨it, fp, tn, J, H2, rfl, I2, T, st2, f2, q2⟩ := h2
  obtain ⟨W, ⟨m0, w0⟩, turn⟩ := q2 s2.heap.objs.size (I2.hok.fresh (Nat.le_refl _))
  refine wpAny_newObj_type (wpAny_newFunctionEnv ncell (by intro y hy; simp at hy) (fun h1 hns hsb => ?_) ok.kind)
  have I3 := I2.laid (a := s2.heap.objs.size) (o := .lst []) (h' := s2.heap.push { cls := .type "list", dict := none, data := .seq ([] : List Value).toArray }) (t' := s2.toks) (fun b u q => Heap.get?_push_of_some _ q) (Nat.le_refl _)
    ⟨Nat.zero_le _, [], 0, .nil, Heap.get?_push_size _ rfl⟩
  have fpo : ∀ b ∈ fp, b < s2.heap.objs.size := fun b hb => by
    obtain ⟨o, e, _⟩ := T.obj 0 _ st2 b hb
    exact Heap.lt_size e
  have f3 : ∀ b ∈ fp, FpOk X pins (upd H2 s2.heap.objs.size (.lst [])) b := fun b hb => ⟨by rw [upd_ne (Nat.ne_of_lt (fpo b hb))]; exact (f2 b hb).1, (f2 b hb).2⟩
  generalize hs3 : ({ s2 with heap := s2.heap.push { cls := .type "list", dict := none, data := .seq ([] : List Value).toArray }, toks := s2.toks } : Shared) = s3 at I3
  have e3 : s3.heap = s2.heap.push { cls := .type "list", dict := none, data := .seq ([] : List Value).toArray } := by rw [← hs3]
  have lt3 : ∀ b ∈ fp, b < s3.heap.objs.size := fun b hb => by rw [e3, Heap.size_push]; exact Nat.lt_succ_of_lt (fpo b hb)
  dsimp only at hns hsb ⊢
  rw [← e3] at hns hsb
  have hk : ∀ b o, s3.heap.get? b = some o → h1.get? b = some o := fun b o e => hsb.extBut b o (Nat.ne_of_lt (Heap.lt_size e)) (Heap.get?_push_of_some _ e)
  have J0 := block_start (h1 := h1) ok I3 f3 lt3 hns hk (s2.toks + 0)
  have t0 : tn 0 h1 := T.keep 0 _ _ st2 fun b hb o e => hk b o (by rw [e3]; exact Heap.get?_push_of_some _ e)
  have fpB : ∀ {H' : Hp}, (∀ b ∈ fp, H' b = none) → ∀ b ∈ fp, FpOk (X.block scope cl s3.heap.objs.size (own :: ys) own fp s3 (upd H2 s2.heap.objs.size (.lst []))) [] H' b := fun {H'} hn b hb =>
    ⟨hn b hb, Nat.ne_of_lt (lt3 b hb), fun z => (List.mem_cons.mp (I3.stkSub b z)).elim (f3 b hb).2.1 (f3 b hb).2.2.1, .inl hb, fun x c e => (f3 b hb).2.2.2.2.1 x c (ok.sub (x, c) (PySem.mem_of_lookup e)), fun p hp => absurd (show p ∈ ([] : List (Addr × Obj)) from hp) (by simp)⟩
  have loop : codeAny (model X.prog X.w) X.A (.compLoop (.ListComp elt [⟨.Name own px, iter, [], 0⟩] scope pos) 0 (.ref it) (.ref s2.heap.objs.size) (compEnvC scope cl s3.heap.objs.size X.env))
      (compPost (model X.prog X.w) X.A X.xe none (EP X pins σ Q) (.ref s2.heap.objs.size) s3.heap.objs.size) { s3 with heap := h1, toks := s2.toks + 0 } := by
    refine compLoop_own (fun n s' => ∃ i zs o0 H', Inv (X.block scope cl s3.heap.objs.size (own :: ys) own fp s3 (upd H2 s2.heap.objs.size (.lst []))) [] (o0 :: freesOf js σ) H' s' ∧ tn i s'.heap ∧ (∀ b ∈ fp, H' b = none) ∧ W i n zs H') ?_ m0
      ⟨0, [], none, _, J0, t0, fun b hb => (f3 b hb).1, w0⟩
    rintro n s5 ⟨i, zs, o0, H5, I5, t5, n5, w5⟩
    obtain ⟨hD, hw⟩ := turn i n zs H5 w5
    rcases hw with ⟨stop, qn⟩ | ⟨go, hz, step⟩
    · refine thn (T.done (X.block scope cl s3.heap.objs.size (own :: ys) own fp s3 (upd H2 s2.heap.objs.size (.lst []))) rfl rfl rfl hc i [] s5 _ H5 (fun _ _ => False) I5 (fpB n5) t5 stop) fun r s6 ⟨hr, I6⟩ => ?_
      subst hr
      obtain ⟨m, hn, _⟩ := id I6.loc
      exact ⟨m, hn, fun h' hs' => ⟨V.ref s2.heap.objs.size, H5, block_end I3 f3 I6 hs', rfl, qn⟩⟩
    · refine thn (T.item (X.block scope cl s3.heap.objs.size (own :: ys) own fp s3 (upd H2 s2.heap.objs.size (.lst []))) rfl rfl rfl hc i [] s5 _ H5 (fun _ _ => False) I5 (fpB n5) t5 go) fun r s6 ⟨u, hr, h6⟩ => ?_
      subst hr
      refine thn h6 fun _ s7 ⟨x, H7, I7, r7, y7, t7, n7⟩ => ?_
      have I7' := I7.pinned (fpB n7) (T.obj _ _ t7)
      have hst := step x H7 y7
      have own' : (relabel scope X.env).names.lookup own = some .local := lookup_relabel_local ok.ownL
      refine thn (pg_name (X := X.block scope cl s3.heap.objs.size (own :: ys) own fp s3 (upd H2 s2.heap.objs.size (.lst []))) (i := 0) (x := own) (pos := px) ok.nd rfl (.inl own') (.inr own') _ s7 _ H7 x u (fun σ' H' => σ' = some x :: freesOf js σ ∧ H' = H7) I7' r7 ⟨rfl, rfl⟩) fun _ s8 ⟨σ8, H8, I8, e8, eH8⟩ => ?_
      subst e8 eH8
      refine thn (he _ _ _ _ _ s8 _ H8 _ I8 hst) fun yv s9 ⟨y, H9, I9, r9, hD9, m', hm, w9⟩ => ?_
      refine thn (mt_append _ s9 _ H9 (.ref s2.heap.objs.size) [y] (.ref s2.heap.objs.size) [yv] (fun _ H' => H' = upd H9 s2.heap.objs.size (.lst (zs ++ [y]))) I9 rfl (.cons r9 .nil) ⟨_, zs, y, rfl, rfl, hD9, hz, rfl⟩) fun _ s10 ⟨_, H10, I10, _, e10⟩ => ?_
      subst e10
      refine ⟨m', hm, i + 1, zs ++ [y], some x, _, I10.unpinned, T.keep _ _ _ t7 fun b hb o e => (I10.pin (b, o) (List.mem_append_right _ (List.mem_append_right _ (mem_pinsAt hb e)))).1, fun b hb => ?_, w9⟩
      obtain ⟨o, e, d⟩ := T.obj _ _ t7 b hb
      exact (I10.pin (b, o) (List.mem_append_right _ (List.mem_append_right _ (mem_pinsAt hb e)))).2.1
  subst hs3
  exact codeAny_compStart_list loop (T.self _ 0 _ _ _ t0 loop)
end
end L2
set_option Elab.async false
set_option linter.all false
set_option maxRecDepth 100000
namespace L2
open PySem PySem.Spec PyProof.Rows XH PySem.Builtin PySem.Builtin.ObjectAttr
/-! ### an own refusal's __init__: its field -/
section
variable {prog : Program} {w : World} {A : Around} {E : Value → Shared → Prop} {s : Shared} {K : PySem.W.Frag} {x C S : Addr} {ox : Obj} {od : Option Obj} {name : Str} {v : Value}
end
section
variable {X : Cx} {o value : Expr} {f : Str} {pos pos' : Pos} {ta tv : TE}
end
end L2
set_option Elab.async false
set_option linter.all false
set_option maxRecDepth 100000
namespace L2
open PySem PySem.Spec PyProof.Rows XH
section
variable {X : Cx} {o e value : Expr} {f : Str} {pos pos' : Pos} {ta tv : TE}
end
/-! ### a refusal with an __init__ is made -/
section
variable {prog : Program} {w : World} {A : Around} {E : Value → Shared → Prop} {h : Heap} {g : Array GenState} {d : Drawn} {t : Nat} {os : OsState}
variable {nm q : Str} {C N : Addr} {bs bm : List Value} {hdct : Bool} {sn : List Str} {sub : List Value} {ab : Bool} {col : Option Bool} {dd : Option Addr} {k0 k1 k2 k3 k5 : Option Value}
end
section
variable {X : Cx} {x : Str} {p pos : Pos} {e : Expr} {es : List Expr} {C fI : Addr} {t : TA} {k : Nat} {fd : FuncData} {ps : List Str} {sp : Sp}
end
end L2
set_option Elab.async false
set_option linter.all false
set_option maxRecDepth 100000
namespace L2
open PySem PySem.Spec PyProof.Rows XH
section
variable {M : Model} {A : Around} {E : Value → Shared → Prop} {env : Env}
variable {nm q : Str} {C N : Addr} {bs bm : List Value} {hdct : Bool} {sn : List Str} {sub : List Value} {ab : Bool} {col : Option Bool} {dd : Option Addr} {k0 k1 k2 k3 k5 : Option Value} {nw : String}
end
section
variable {X : Cx} {x : Str} {np cpos pos : Pos} {e₀ : Expr} {rest : List Expr} {C fI : Addr} {t : TA} {k : Nat} {fd : FuncData} {ps : List Str} {sp : Sp} {E : St → XK}
end
end L2
set_option Elab.async false
set_option linter.all false
set_option maxRecDepth 100000
namespace L2
open PySem PySem.Spec PyProof.Rows XH
/-! ### within an except suite, and in what is called there -/
theorem entry_unchain : entryFor table "proto.unchain" = some Builtin.«proto.unchain» := entryFor_of_fast (by kernel_rfl)
/-- what is known of the handled exception, if there is one -/
def HdOk (hd : Option Value) (H : Hp) : Prop := ∀ v, hd = some v → ∃ a n cls dx, v = .ref a ∧ H a = some (excB n a cls dx)
theorem HdOk.no {H : Hp} : HdOk none H := fun _ z => nomatch z
section
variable {prog : Program} {w : World} {A : Around} {E : Value → Shared → Prop} {s : Shared}
theorem range_endH {it hx : Addr} {ox : Obj} {vs : Array Value} {x left step : Int} {Q : Option Value → Shared → Prop} (hh : A.handled = some (.ref hx)) (ho : s.heap.get? hx = some ox) (hd : ox.data = .fields vs) (h2 : vs[2]? = some .none)
    (hit : IsRangeIter s.heap it x left step) (hleft : left ≤ 0) (hQ : ∀ h', Heap.ExtBut it s.heap h' → Q none { s with heap := h' }) : wpAny (model prog w) A (pyNext (.ref it)) Q E s := by
  have hT : s.TypeIs (.ref it) "range_iterator" := ⟨_, hit, rfl⟩
  unfold pyNext
  refine wpAny_bind (wpAny_attempt (wpAny_callSpecial?_slot (name := Str.ofString "__next__") hT F.slot_range_iterator_next
    (wpAny_call_entry F.slot_range_iterator_next hT F.entry_range_iterator_next ?_ (F.args_range_iterator_next_1 _))))
  show wpAny _ _ (field (.ref it) 0 >>= _) _ _ s
  refine wpAny_bind (wpAny_field hit rfl (x := rawInt x) rfl ?_)
  show wpAny _ _ (field (.ref it) 1 >>= _) _ _ s
  refine wpAny_bind (wpAny_field hit rfl (x := rawInt left) rfl ?_)
  show wpAny _ _ (field (.ref it) 2 >>= _) _ _ s
  refine wpAny_bind (wpAny_field hit rfl (x := rawInt step) rfl ?_)
  show wpAny _ _ (if left ≤ 0 then _ else _) _ _ s
  rw [if_pos hleft]
  refine wpAny_bind (wpAny_rule ?_)
  refine wpAny_bind ?_
  show wpAny _ _ (newExc (.type "StopIteration") [] >>= _) _ _ _
  refine wpAny_bind ?_
  simp only [newExc, newTuple]
  refine wpAny_bind (wpAny_newObj_type ?_ (by size_fits))
  refine wpAny_bind (m := firstArgMember _ _) (wpAny_of_eq (a := Value.none) (by first | rfl | (simp only [firstArgMember]; rfl)) ?_)
  refine wpAny_newObj_type ?_ (by size_fits)
  simp only [raiseNew]
  refine wpAny_bind (wpAny_handled ?_)
  rw [show A.in1.handled = some (.ref hx) from hh]
  have g0 : s.heap.get? (s.heap.push { cls := .type "tuple", dict := none, data := .seq ([] : List Value).toArray }).objs.size = none := Heap.get?_none_of_le (by rw [Heap.size_push]; omega)
  have ne : hx ≠ (s.heap.push { cls := .type "tuple", dict := none, data := .seq ([] : List Value).toArray }).objs.size := fun z => by
    rw [z, g0] at ho
    cases ho
  dsimp only
  rw [if_pos (bne_iff_ne.mpr fun z => ne (Value.ref.inj z))]
  refine wpAny_bind (wpAny_holding (wpAny_runValue (codeAny_builtin entry_unchain ?_)))
  show wpAny _ _ (field (.ref hx) 2 >>= _) _ _ _
  refine wpAny_bind (wpAny_field (Heap.get?_push_of_some _ (Heap.get?_push_of_some _ ho)) hd h2 ?_)
  rw [if_pos (by rfl)]
  refine wpAny_bind (wpAny_pure (wpAny_pure ?_))
  refine wpAny_bind (m := updateField _ 2 _) (wpAny_setField (Heap.get?_push_size _ rfl) rfl (by show 2 < 6; decide) ?_)
  refine wpAny_throw ?_
  refine wpAny_bind (wpAny_isInstance (T := "StopIteration") (b := true) ⟨_, Heap.get?_update_self _ (Heap.get?_push_size _ rfl) rfl, rfl⟩ isSubtype_stop ?_)
  refine wpAny_pure (hQ _ fun b o hb e => ?_)
  rw [Heap.get?_update_other _ _ (by
    intro z
    rw [z] at g0
    rw [g0] at e
    cases e)]
  exact Heap.get?_push_of_some _ (Heap.get?_push_of_some _ e)
end
/-! ### iterators under a handled exception -/
structure TurnH (hd : Option Value) (P : Program) (w : World) (K : PySem.W.Frag) (tg : Expr) (J : It) (fp : List Addr) (it : Addr) (tn : Nat → Heap → Prop) : Prop where
  mem : it ∈ fp
  obj : ∀ i h, tn i h → ∀ b ∈ fp, ∃ o, h.get? b = some o ∧ ∀ v, o.data ≠ .cell v
  keep : ∀ i h h', tn i h → (∀ b ∈ fp, ∀ o, h.get? b = some o → h'.get? b = some o) → tn i h'
  item : ∀ (X : Cx), X.prog = P → X.w = w → X.K = K → X.A.handled = hd → ∀ (i : Nat) (pins : List (Addr × Obj)) (s : Shared) (σ : St) (H : Hp) (E : Value → Shared → Prop), Inv X pins σ H s → (∀ b ∈ fp, FpOk X pins H b) → tn i s.heap → J.go i H →
    wpAny (model P w) X.A (pyNext (.ref it)) (fun r s1 => ∃ u, r = some u ∧
      wpAny (model P w) X.A (letOwnedTupleGo tg (.ref it) u) (fun _ s2 => ∃ x H', Inv X pins σ H' s2 ∧ RelV x u ∧ J.yld i H x H' ∧ tn (i + 1) s2.heap ∧ ∀ b ∈ fp, H' b = none) E s1) E s
  done : ∀ (X : Cx), X.prog = P → X.w = w → X.K = K → X.A.handled = hd → ∀ (i : Nat) (pins : List (Addr × Obj)) (s : Shared) (σ : St) (H : Hp) (E : Value → Shared → Prop), Inv X pins σ H s → (∀ b ∈ fp, FpOk X pins H b) → tn i s.heap → J.stop i H →
    wpAny (model P w) X.A (pyNext (.ref it)) (fun r s1 => r = none ∧ Inv X pins σ H s1) E s
  self : ∀ (A : Around) (i : Nat) (s : Shared) (Q : Value → Shared → Prop) (E : Value → Shared → Prop), tn i s.heap → Q (.ref it) s → wpAny (model P w) A (pyIter (.ref it)) Q E s
def PIEH (hd : Option Value) (X : Cx) (pins : List (Addr × Obj)) (σ : St) (tg : Expr) (R : It → Hp → Prop) (itv : Value) (s2 : Shared) : Prop :=
  ∃ (it : Addr) (fp : List Addr) (tn : Nat → Heap → Prop) (J : It) (H' : Hp), itv = .ref it ∧ Inv X pins σ H' s2 ∧ TurnH hd X.prog X.w X.K tg J fp it tn ∧ tn 0 s2.heap ∧ (∀ b ∈ fp, FpOk X pins H' b) ∧ R J H'
def PIH (hd : Option Value) (X : Cx) (tg iter : Expr) (wi : TI) : Prop :=
  ∀ (pins : List (Addr × Obj)) (s : Shared) (σ : St) (H : Hp) (R : It → Hp → Prop), Inv X pins σ H s → wi σ H R →
    wpAny (model X.prog X.w) X.A (eval iter X.env) (fun v s1 => wpAny (model X.prog X.w) X.A (pyIter v) (PIEH hd X pins σ tg R) X.xe s1) X.xe s
def ItrH (hd : Option Value) (lo : Int) (n : Nat) : It := ⟨fun i _ => i < n, fun i H x H' => H' = H ∧ x = .int (lo + i), fun i H => n ≤ i ∧ HdOk hd H⟩
theorem turn_rangeH {hd : Option Value} {P : Program} {w : World} {K : PySem.W.Frag} {tg : Expr} (it : Addr) (lo : Int) (n : Nat) : TurnH hd P w K tg (ItrH hd lo n) [it] it (fun i h => IsRangeIter h it (lo + (i : Nat) * 1) ((n : Int) - (i : Nat)) 1) where
  mem := by simp
  obj := fun i h st b hb => by
    have e : b = it := by simpa using hb
    subst e
    exact ⟨_, st, fun v z => by
      have z' : Data.fields _ = Data.cell v := z
      cases z'⟩
  keep := fun i h h' st k => k it (by simp) _ st
  item := by
    intro X hP hw hK hA i pins s σ H E I hf st hg
    subst hP hw hK
    obtain ⟨f0, f1, f2, f3, f4, f5⟩ := hf it (by simp)
    have hg' : i < n := hg
    refine wpAny_pyNext_range_item st (by omega) fun h' st' sb => ?_
    have I1 : Inv X pins σ H { s with heap := h', toks := s.toks + 1 } := I.turned (fun b o hb e => (sb.2 b hb).trans e) f0 f1 f3 f4 f5
    have st2 : IsRangeIter h' it (lo + ((i + 1 : Nat) : Int) * 1) ((n : Int) - ((i + 1 : Nat) : Int)) 1 := by
      have e1 : lo + ((i + 1 : Nat) : Int) * 1 = lo + (i : Int) * 1 + 1 := by push_cast; omega
      have e2 : (n : Int) - ((i + 1 : Nat) : Int) = (n : Int) - (i : Int) - 1 := by push_cast; omega
      rw [e1, e2]
      exact st'
    refine ⟨_, rfl, go_of (s := { s with heap := h', toks := s.toks + 1 }) (n := "range_iterator") st2 rfl rfl (by decide) ⟨.int (lo + i), H, I1, ⟨s.toks, ?_⟩, ⟨rfl, rfl⟩, st2, fun b hb => (hf b hb).1⟩⟩
    rw [Int.mul_one]
  done := by
    intro X hP hw hK hA i pins s σ H E I hf st hg
    subst hP hw hK
    obtain ⟨f0, f1, f2, f3, f4, f5⟩ := hf it (by simp)
    obtain ⟨hl, hk⟩ := hg
    cases hd with
    | none => exact wpAny_pyNext_range_end hA st (by omega) fun h' eb => ⟨rfl, I.turned (t' := s.toks) (fun b o hb e => eb b o hb e) f0 f1 f3 f4 f5⟩
    | some v =>
      obtain ⟨a, m, cls, dx, rfl, e⟩ := hk v rfl
      obtain ⟨⟨ox, vs, h1, h2, h3, h4, h6, h5⟩, _⟩ := (show ObjOk X.prog X.w H s.heap a (excB m a cls dx) from I.hok a _ e)
      exact range_endH hA h1 h4 h6 st (by omega) fun h' eb => ⟨rfl, I.turned (t' := s.toks) (fun b o hb e => eb b o hb e) f0 f1 f3 f4 f5⟩
  self := fun _ _ _ _ _ st h => wpAny_pyIter_rangeiter st h
def iRngH (hd : Option Value) (ta : TA) : TI := fun σ H R => ta σ H fun vs H1 => ∃ j : Int, vs = [.int j] ∧ -(2 ^ 62) ≤ j ∧ j < 2 ^ 62 ∧ R (ItrH hd 0 j.toNat) H1
section
variable {X : Cx} {tg : Expr} {hd : Option Value}
theorem range_itH {pins : List (Addr × Obj)} {σ : St} {H : Hp} {s : Shared} {R : It → Hp → Prop} {E : Value → Shared → Prop} {lo hi : Int} {t u v : Tok} {tk : Nat} (I : Inv X pins σ H s) (h1 : -(2 ^ 62) ≤ lo) (h2 : lo < 2 ^ 62) (h3 : -(2 ^ 62) ≤ hi) (h4 : hi < 2 ^ 62)
    (q : R (ItrH hd lo (hi - lo).toNat) H) : wpAny (model X.prog X.w) X.A (pyIter (.ref s.heap.objs.size)) (PIEH hd X pins σ tg R) E { s with heap := s.heap.push { cls := .type "range", data := .fields #[.int lo t, .int hi u, .int 1 v] }, toks := tk } := by
  refine wpAny_pyIter_range (IsRange.new ..) (small_one h1 h2 h3 h4) ?_
  have I1 : Inv X pins σ H { s with heap := s.heap.push { cls := .type "range", data := .fields #[.int lo t, .int hi u, .int 1 v] }, toks := tk } := I.kept fun b o e => Heap.get?_push_of_some _ e
  refine ⟨(s.heap.push { cls := .type "range", data := .fields #[.int lo t, .int hi u, .int 1 v] }).objs.size, [(s.heap.push { cls := .type "range", data := .fields #[.int lo t, .int hi u, .int 1 v] }).objs.size], _, _, H, rfl,
    I1.kept (t' := tk) fun b o e => Heap.get?_push_of_some _ e, turn_rangeH _ lo (hi - lo).toNat, ?_, fun b hb => ?_, q⟩
  · have e1 : lo + ((0 : Nat) : Int) * 1 = lo := by simp
    have e2 : (((hi - lo).toNat : Nat) : Int) - ((0 : Nat) : Int) = Builtin.Range.rangeSize lo hi 1 := by rw [rangeSize_one]; split <;> omega
    show IsRangeIter _ _ (lo + ((0 : Nat) : Int) * 1) ((((hi - lo).toNat : Nat) : Int) - ((0 : Nat) : Int)) 1
    rw [e1, e2]
    exact Heap.get?_push_size _ rfl
  · have e : b = (s.heap.push { cls := .type "range", data := .fields #[.int lo t, .int hi u, .int 1 v] }).objs.size := by simpa using hb
    subst e
    exact I1.fpOk (Nat.le_refl _) (I1.hok.fresh (Nat.le_refl _))
theorem pi_rangeH {a : Expr} {ta : TA} {p pos : Pos} (hg : Gl X "range") (hm : X.mg "range" = none) (ha : PA X [a] ta) (hs : starEach [a] X.env = [(false, eval a X.env)] := by rfl) : PIH hd X tg (.Call (.Name "range" p) [a] [] pos) (iRngH hd ta) := by
  intro pins s σ H R I h
  refine Call_ (ld_blt I hg hm boot_range (PyProof.Rows.callWith_type1 (thn (ha pos pins s σ H _ I h) fun us s1 ⟨vs, H1, I1, r1, q1⟩ => ?_) hs rfl))
  obtain ⟨j, e, q1, q2, q⟩ := q1
  subst e
  cases r1 with
  | cons r rr =>
    cases rr
    obtain ⟨t, rfl⟩ := r
    exact call_range_1 (range_itH I1 (by omega) (by omega) q1 q2 (by simpa using q))
end
section
variable {X : Cx} {scope : Scope} {cl : List (Str × Addr)} {own : Str} {ys : List Str} {js : List Nat} {elt iter : Expr} {px pos : Pos} {wi : TI} {te : TE} {hd : Option Value}
theorem pe_compH (hA : X.A.handled = hd) (ok : CompOk X scope cl own ys js) (hi : PIH hd X (.Name own px) iter wi)
    (he : ∀ (C : Addr) (fp : List Addr) (s : Shared) (H : Hp), PE (X.block scope cl C (own :: ys) own fp s H) elt te)
    (hs : ∀ x, foldedSetIterable iter X.env x = pure x := by intro _; rfl) : PE X (.ListComp elt [⟨.Name own px, iter, [], 0⟩] scope pos) (tComp wi js te) := by
  intro pins s σ H Q I h
  rw [eval_ListComp]
  have ncell : ∀ y ∈ scope.names, y.2 ≠ .cell := fun y hy z => by
    have q := List.all_eq_true.mp ok.nocell y hy
    rw [z] at q
    simp at q
  have nloc : ∀ y ∈ scope.names, y.2 = .local → scope.names.lookup y.1 = some .local := fun y hy z => by
    have q := List.all_eq_true.mp ok.loc y hy
    rw [z] at q
    simpa using q
  refine wpAny_comprehension_free (use := none) rfl hs ok.clos ok.kind nloc (thn (hi pins s σ H _ I h) fun v s1 h1 => thn h1 fun itv s2 h2 => ?_)
  obtain ⟨it, fp, tn, J, H2, rfl, I2, T, st2, f2, q2⟩ := h2
  obtain ⟨W, ⟨m0, w0⟩, turn⟩ := q2 s2.heap.objs.size (I2.hok.fresh (Nat.le_refl _))
  refine wpAny_newObj_type (wpAny_newFunctionEnv ncell (by intro y hy; simp at hy) (fun h1 hns hsb => ?_) ok.kind)
  have I3 := I2.laid (a := s2.heap.objs.size) (o := .lst []) (h' := s2.heap.push { cls := .type "list", dict := none, data := .seq ([] : List Value).toArray }) (t' := s2.toks) (fun b u q => Heap.get?_push_of_some _ q) (Nat.le_refl _)
    ⟨Nat.zero_le _, [], 0, .nil, Heap.get?_push_size _ rfl⟩
  have fpo : ∀ b ∈ fp, b < s2.heap.objs.size := fun b hb => by
    obtain ⟨o, e, _⟩ := T.obj 0 _ st2 b hb
    exact Heap.lt_size e
  have f3 : ∀ b ∈ fp, FpOk X pins (upd H2 s2.heap.objs.size (.lst [])) b := fun b hb => ⟨by rw [upd_ne (Nat.ne_of_lt (fpo b hb))]; exact (f2 b hb).1, (f2 b hb).2⟩
  generalize hs3 : ({ s2 with heap := s2.heap.push { cls := .type "list", dict := none, data := .seq ([] : List Value).toArray }, toks := s2.toks } : Shared) = s3 at I3
  have e3 : s3.heap = s2.heap.push { cls := .type "list", dict := none, data := .seq ([] : List Value).toArray } := by rw [← hs3]
  have lt3 : ∀ b ∈ fp, b < s3.heap.objs.size := fun b hb => by rw [e3, Heap.size_push]; exact Nat.lt_succ_of_lt (fpo b hb)
  dsimp only at hns hsb ⊢
  rw [← e3] at hns hsb
  have hk : ∀ b o, s3.heap.get? b = some o → h1.get? b = some o := fun b o e => hsb.extBut b o (Nat.ne_of_lt (Heap.lt_size e)) (Heap.get?_push_of_some _ e)
  have J0 := block_start (h1 := h1) ok I3 f3 lt3 hns hk (s2.toks + 0)
  have t0 : tn 0 h1 := T.keep 0 _ _ st2 fun b hb o e => hk b o (by rw [e3]; exact Heap.get?_push_of_some _ e)
  have fpB : ∀ {H' : Hp}, (∀ b ∈ fp, H' b = none) → ∀ b ∈ fp, FpOk (X.block scope cl s3.heap.objs.size (own :: ys) own fp s3 (upd H2 s2.heap.objs.size (.lst []))) [] H' b := fun {H'} hn b hb =>
    ⟨hn b hb, Nat.ne_of_lt (lt3 b hb), fun z => (List.mem_cons.mp (I3.stkSub b z)).elim (f3 b hb).2.1 (f3 b hb).2.2.1, .inl hb, fun x c e => (f3 b hb).2.2.2.2.1 x c (ok.sub (x, c) (PySem.mem_of_lookup e)), fun p hp => absurd (show p ∈ ([] : List (Addr × Obj)) from hp) (by simp)⟩
  have loop : codeAny (model X.prog X.w) X.A (.compLoop (.ListComp elt [⟨.Name own px, iter, [], 0⟩] scope pos) 0 (.ref it) (.ref s2.heap.objs.size) (compEnvC scope cl s3.heap.objs.size X.env))
      (compPost (model X.prog X.w) X.A X.xe none (EP X pins σ Q) (.ref s2.heap.objs.size) s3.heap.objs.size) { s3 with heap := h1, toks := s2.toks + 0 } := by
    refine compLoop_own (fun n s' => ∃ i zs o0 H', Inv (X.block scope cl s3.heap.objs.size (own :: ys) own fp s3 (upd H2 s2.heap.objs.size (.lst []))) [] (o0 :: freesOf js σ) H' s' ∧ tn i s'.heap ∧ (∀ b ∈ fp, H' b = none) ∧ W i n zs H') ?_ m0
      ⟨0, [], none, _, J0, t0, fun b hb => (f3 b hb).1, w0⟩
    rintro n s5 ⟨i, zs, o0, H5, I5, t5, n5, w5⟩
    obtain ⟨hD, hw⟩ := turn i n zs H5 w5
    rcases hw with ⟨stop, qn⟩ | ⟨go, hz, step⟩
    · refine thn (T.done (X.block scope cl s3.heap.objs.size (own :: ys) own fp s3 (upd H2 s2.heap.objs.size (.lst []))) rfl rfl rfl hA i [] s5 _ H5 (fun _ _ => False) I5 (fpB n5) t5 stop) fun r s6 ⟨hr, I6⟩ => ?_
      subst hr
      obtain ⟨m, hn, _⟩ := id I6.loc
      exact ⟨m, hn, fun h' hs' => ⟨V.ref s2.heap.objs.size, H5, block_end I3 f3 I6 hs', rfl, qn⟩⟩
    · refine thn (T.item (X.block scope cl s3.heap.objs.size (own :: ys) own fp s3 (upd H2 s2.heap.objs.size (.lst []))) rfl rfl rfl hA i [] s5 _ H5 (fun _ _ => False) I5 (fpB n5) t5 go) fun r s6 ⟨u, hr, h6⟩ => ?_
      subst hr
      refine thn h6 fun _ s7 ⟨x, H7, I7, r7, y7, t7, n7⟩ => ?_
      have I7' := I7.pinned (fpB n7) (T.obj _ _ t7)
      have hst := step x H7 y7
      have own' : (relabel scope X.env).names.lookup own = some .local := lookup_relabel_local ok.ownL
      refine thn (pg_name (X := X.block scope cl s3.heap.objs.size (own :: ys) own fp s3 (upd H2 s2.heap.objs.size (.lst []))) (i := 0) (x := own) (pos := px) ok.nd rfl (.inl own') (.inr own') _ s7 _ H7 x u (fun σ' H' => σ' = some x :: freesOf js σ ∧ H' = H7) I7' r7 ⟨rfl, rfl⟩) fun _ s8 ⟨σ8, H8, I8, e8, eH8⟩ => ?_
      subst e8 eH8
      refine thn (he _ _ _ _ _ s8 _ H8 _ I8 hst) fun yv s9 ⟨y, H9, I9, r9, hD9, m', hm, w9⟩ => ?_
      refine thn (mt_append _ s9 _ H9 (.ref s2.heap.objs.size) [y] (.ref s2.heap.objs.size) [yv] (fun _ H' => H' = upd H9 s2.heap.objs.size (.lst (zs ++ [y]))) I9 rfl (.cons r9 .nil) ⟨_, zs, y, rfl, rfl, hD9, hz, rfl⟩) fun _ s10 ⟨_, H10, I10, _, e10⟩ => ?_
      subst e10
      refine ⟨m', hm, i + 1, zs ++ [y], some x, _, I10.unpinned, T.keep _ _ _ t7 fun b hb o e => (I10.pin (b, o) (List.mem_append_right _ (List.mem_append_right _ (mem_pinsAt hb e)))).1, fun b hb => ?_, w9⟩
      obtain ⟨o, e, d⟩ := T.obj _ _ t7 b hb
      exact (I10.pin (b, o) (List.mem_append_right _ (List.mem_append_right _ (mem_pinsAt hb e)))).2.1
  subst hs3
  exact codeAny_compStart_list loop (T.self _ 0 _ _ _ t0 loop)
end
/-! ### an except suite whose reading knows the exception -/
section
variable {X : Cx} {x n : Str} {np pos : Pos} {b0 : Stmt} {suite : List Stmt} {rest : List ExceptHandler} {i : Nat} {C' : Addr} {tA : Addr → TS} {th : TH}
end
/-! ### calls, whatever is handled -/
section
variable {P : Program} {w : World} {K : PySem.W.Frag} {mg : Str → Option Value} {base : Heap} {hd : Option Value}
end
section
variable {X : Cx} {k : Nat} {f : Addr} {fd : FuncData} {ps : List Str} {sp : Sp} {dvs : List V} {ds : List Value} {x : Str} {p pos : Pos} {e : Expr} {es : List Expr} {t : TA} {hd : Option Value}
end
end L2
set_option Elab.async false
set_option linter.all false
set_option maxRecDepth 100000
namespace Sw
open PySem L2 XH
/-- a def as its callers see it -/
structure Dx (P : Program) (w : World) (K : PySem.W.Frag) (mg : Str → Option Value) (base : Heap) (CX : CXT) (k : Nat) (x : Str) (ps : List Str) (dvs : List V) (sp : Sp) where
  f : Addr
  fd : FuncData
  ok : FnOk P w K mg base CX k f fd ps sp
  m : mg x = some (.ref f)
  q : PySem.W.keepIn K (.ref f) = true
  b : Binds K fd ps []
  bd : ∃ ds, Binds K fd ps ds ∧ Vals dvs ds
section
variable {X : Cx} {k j : Nat} {x : Str} {ps : List Str} {sp : Sp} {p pos : Pos} {e : Expr} {es : List Expr} {t : TA} {dvs : List V} {E : St → XK}
theorem pcall0 (D : Dx X.prog X.w X.K X.mg X.base CX0 k x ps dvs sp) (hr : Room j X.A) (hk : k ≤ j) (hg : Gl X x) (ha : PA X (e :: es) t) (hdb : (x == ("__debug__" : Str)) = false := by decide)
    (he : starEach (e :: es) X.env = (false, eval e X.env) :: starEach es X.env := by rfl) (hpl : (backTo pos (starEach es X.env)).any (·.1) = false := by rfl) :
    PE X (.Call (.Name x p) (e :: es) [] pos) (tCall sp [] E0 t) :=
  pe_call D.ok (hr.mono hk) hg D.m D.q D.b .nil pass0 ha hdb he hpl
theorem pcall0d (D : Dx X.prog X.w X.K X.mg X.base CX0 k x ps dvs sp) (hr : Room j X.A) (hk : k ≤ j) (hg : Gl X x) (ha : PA X (e :: es) t) (hdb : (x == ("__debug__" : Str)) = false := by decide)
    (he : starEach (e :: es) X.env = (false, eval e X.env) :: starEach es X.env := by rfl) (hpl : (backTo pos (starEach es X.env)).any (·.1) = false := by rfl) :
    PE X (.Call (.Name x p) (e :: es) [] pos) (tCall sp dvs E0 t) := by
  obtain ⟨ds, hb, hv⟩ := D.bd
  exact pe_call D.ok (hr.mono hk) hg D.m D.q hb hv pass0 ha hdb he hpl
end
end Sw
set_option Elab.async false
set_option linter.all false
set_option maxRecDepth 100000
namespace Sw
open PySem L2 XH
end Sw
set_option Elab.async false
set_option linter.all false
set_option maxRecDepth 100000
namespace Sw
open PySem L2 XH
/-! ### packs -/
end Sw
namespace L2
open PySem PySem.Spec PyProof.Rows
end L2
namespace Sw
open PySem L2 XH
theorem fr_whole {p q n : Int} (f : Fr p q n 1) : p = n ∧ q = 1 := by
  have h2 := f.bb
  have h3 := f.pos
  have h4 := f.same
  simp only [Int.natAbs_one] at h2
  have e : q = 1 := by omega
  subst e
  rw [Int.mul_one, Int.mul_one] at h4
  exact ⟨h4, rfl⟩
end Sw
set_option Elab.async false
set_option linter.all false
set_option maxRecDepth 100000
namespace Sw
open PySem L2 XH
/-! ### many needs: tops, bottoms, and how many figures of two a bottom has -/
end Sw
set_option Elab.async false
set_option linter.all false
set_option maxRecDepth 100000
namespace Sw
open PySem L2 XH
end Sw
namespace L2
open PySem PySem.Spec PyProof.Rows
theorem op_ne2T {X : Cx} (hu : X.A.units < cLine) : OpR X (compareOp .NotEq) (fun x y H Q => ∃ a b p q, x = .ref a ∧ y = .ref b ∧ SqT X.K H a [.int p, .int q] ∧ SqT X.K H b [.int p, .int q] ∧ Q (.bl false) H) := by
  intro pins s σ H x y v u Q I rx ry h
  obtain ⟨a, b, p, q, rfl, rfl, h1, h2, hq⟩ := h
  cases rx
  cases ry
  obtain ⟨i1, r1, p1, _⟩ := I.tuple h1
  obtain ⟨i2, r2, p2, _⟩ := I.tuple h2
  obtain ⟨w1, w2, rfl, ⟨t1, rfl⟩, ⟨t2, rfl⟩⟩ := vals2 r1
  obtain ⟨w3, w4, rfl, ⟨t3, rfl⟩, ⟨t4, rfl⟩⟩ := vals2 r2
  refine SeqAt.RcNeAt.tuples (e := fun _ => true) p1 p2 hu ?_ _ _ _ _ ⟨.bl false, H, I, rfl, hq⟩
  intro j hj1 hj2
  match j, hj1, hj2 with
  | 0, _, _ =>
    have z := SeqAt.EqAt.int_int (A := X.A.in1) (s := s) p t1 p t3
    rw [beq_self_eq_true] at z
    exact z
  | 1, _, _ =>
    have z := SeqAt.EqAt.int_int (A := X.A.in1) (s := s) q t2 q t4
    rw [beq_self_eq_true] at z
    exact z
end L2
set_option Elab.async false
set_option linter.all false
set_option maxRecDepth 100000
namespace L2
open PySem PySem.Spec PyProof.Rows XH
theorem call_isiT {X : Cx} {K : PySem.W.Frag} (hK : X.K = K) : CallR X (.builtin "isinstance") (fun xs H Q => ∃ x t T b, xs = [x, .ty T] ∧ TyOf K H x t ∧ PySem.W.kitOne K t (.type T) = some b ∧ Q (.bl b) H) := by
  subst hK
  intro pins s σ H xs us Q I r h
  obtain ⟨x, t, T, b, rfl, ty, e, q⟩ := h
  obtain ⟨u, w', rfl, e1, e2⟩ := vals2 r
  cases e2
  exact isinst_ok I e1 ty e fun tk => ⟨.bl b, H, I.tok tk, rfl, q⟩
end L2
namespace Sw
open PySem L2 XH
/-! ### whatever is handed in: is it a whole number, is it a fraction -/
section
variable {K : PySem.W.Frag} {H : Hp}
end
end Sw
set_option Elab.async false
set_option linter.all false
set_option maxRecDepth 100000
namespace L2
open PySem PySem.Spec PyProof.Rows XH
/-- a truth, a number, a text -/
def Smp : V → Prop
  | .bl _ => True
  | .int _ => True
  | .str _ => True
  | _ => False
theorem eqat_smp {A : Around} {s : Shared} {v : V} {u w : Value} (h : Smp v) (r1 : RelV v u) (r2 : RelV v w) : SeqAt.EqAt A s u w true := by
  cases v with
  | bl b =>
    cases r1
    cases r2
    have z := SeqAt.EqAt.bool_bool (A := A) (s := s) b b
    rw [beq_self_eq_true] at z
    exact z
  | int i =>
    obtain ⟨t, rfl⟩ := r1
    obtain ⟨t', rfl⟩ := r2
    have z := SeqAt.EqAt.int_int (A := A) (s := s) i t i t'
    rw [beq_self_eq_true] at z
    exact z
  | str i =>
    obtain ⟨t, rfl⟩ := r1
    obtain ⟨t', rfl⟩ := r2
    have z := SeqAt.EqAt.str_str (A := A) (s := s) i t i t'
    rw [beq_self_eq_true] at z
    exact z
  | _ => exact absurd h (fun z => z)
end L2
set_option Elab.async false
set_option linter.all false
set_option maxRecDepth 100000
namespace Sw
open PySem L2 XH PyProof.Rows
/-! ### defs that are called from a handler too, and refusals' __init__ -/
section
variable {X : Cx} {k j : Nat} {x : Str} {ps : List Str} {sp : Sp} {p np pos cpos : Pos} {e : Expr} {es : List Expr} {t : TA} {hd : Option Value} {C : Addr} {E : L2.St → XK}
end
theorem hdSame {hd : Option Value} {H H' : Hp} (h : HdOk hd H) (g : Same H H') : HdOk hd H' := fun v e => by
  obtain ⟨a, n, cls, dx, e1, e2⟩ := h v e
  exact ⟨a, n, cls, dx, e1, g _ _ e2⟩
theorem sUpd {H H' : Hp} {p : Addr} (g : Same H H') (h : H p = none) (o : HO) : Same H (upd H' p o) := fun b u q => by
  rw [upd_ne (ne_of_none q h)]
  exact g b u q
theorem comp_by {hd : Option Value} {n : Nat} {js : List Nat} {te : TE} {σ : L2.St} {H1 : Hp} {Q : VK} (P : Nat → V → Prop) (hok : HdOk hd H1) (hn : n ≤ sizeLine)
    (step : ∀ i, i < n → ∀ H3, Same H1 H3 → ∀ Q' : VK, (∀ y H4, P i y → Same H3 H4 → Q' y H4) → te (some (.int (0 + (i : Int))) :: freesOf js σ) H3 Q')
    (fin : ∀ p ys H', H1 p = none → ys.length = n → (∀ i y, ys[i]? = some y → P i y) → Same H1 H' → H' p = some (.lst ys) → Q (.ref p) H') :
    compR js te σ Q (ItrH hd 0 n) H1 := by
  intro p hp
  refine ⟨fun i m ys H2 => i ≤ n ∧ m = n - i ∧ ys.length = i ∧ (∀ j y, ys[j]? = some y → P j y) ∧ Same H1 H2 ∧ H2 p = some (.lst ys), ⟨n, Nat.zero_le _, rfl, rfl, fun j y e => by simp at e, same_new hp _, upd_same⟩, ?_⟩
  rintro i m ys H2 ⟨hi, rfl, hl, hP, g, e⟩
  refine ⟨e, ?_⟩
  by_cases hin : i < n
  · refine .inr ⟨hin, by omega, fun x H3 hy => ?_⟩
    obtain ⟨rfl, rfl⟩ := hy
    refine step i hin H3 g _ fun y H4 py g4 => ⟨g4 _ _ e, n - (i + 1), by omega, hin, rfl, by simp [hl], fun j z ez => ?_, sUpd (g.trans g4) hp _, upd_same⟩
    by_cases hj : j < ys.length
    · rw [List.getElem?_append_left hj] at ez
      exact hP j z ez
    · rw [List.getElem?_append_right (by omega)] at ez
      have h0 : j - ys.length = 0 := by
        rcases Nat.eq_zero_or_pos (j - ys.length) with q | q
        · exact q
        · rw [List.getElem?_eq_none (by simp; omega)] at ez; cases ez
      rw [h0] at ez
      have hji : j = i := by omega
      subst hji
      cases ez
      exact py
  · have e2 : i = n := by omega
    subst e2
    exact .inl ⟨⟨Nat.le_refl _, hdSame hok g⟩, fin p ys H2 hp hl hP g e⟩
def CompAt (X : Cx) (scope : Scope) (ys : List Str) (js : List Nat) : Prop := ∀ (i : Nat) (y : Str), ys[i]? = some y → ∃ j : Nat, js[i]? = some j ∧ X.N[j]? = some y ∧ (X.env.scope.names.lookup y = some .cell ∨ X.env.scope.names.lookup y = some .free) ∧ ((relabel scope X.env).names.lookup y = some .cell ∨ (relabel scope X.env).names.lookup y = some .free)
theorem atn {X : Cx} {scope : Scope} : CompAt X scope [] [] := fun i y h => by simp at h
theorem atc {X : Cx} {scope : Scope} {ys : List Str} {js : List Nat} {y : Str} {j : Nat} (t : CompAt X scope ys js) (h1 : X.N[j]? = some y := by rfl) (h2 : X.env.scope.names.lookup y = some .cell ∨ X.env.scope.names.lookup y = some .free := by first | exact Or.inl rfl | exact Or.inr rfl)
    (h3 : (relabel scope X.env).names.lookup y = some .cell ∨ (relabel scope X.env).names.lookup y = some .free := by first | exact Or.inl rfl | exact Or.inr rfl) : CompAt X scope (y :: ys) (j :: js) := fun i z h => by
  cases i with
  | zero =>
    cases h
    exact ⟨j, rfl, h1, h2, h3⟩
  | succ i => exact t i z h
/-- the names that a comprehension takes from around -/
inductive Subs (X : Cx) : List (Str × Addr) → Prop where
  | nil : Subs X []
  | cons {y : Str} {c : Addr} {cl : List (Str × Addr)} (h : X.env.cells.lookup y = some c) (t : Subs X cl) : Subs X ((y, c) :: cl)
theorem Subs.all {X : Cx} {cl : List (Str × Addr)} (h : Subs X cl) : ∀ p ∈ cl, X.env.cells.lookup p.1 = some p.2 := by
  induction h with
  | nil => intro p hp; simp at hp
  | cons h _ ih =>
    intro p hp
    rcases List.mem_cons.mp hp with e | e
    · rw [e]; exact h
    · exact ih p e
theorem cok {X : Cx} {scope : Scope} {cl : List (Str × Addr)} {own : Str} {ys : List Str} {js : List Nat} (a : CompAt X scope ys js) (s : Subs X cl) (nd : (own :: ys).Nodup) (len : js.length = ys.length) (clos : closureFor scope X.env = pure cl) (nocell : (scope.names.all fun p => !(p.2 == .cell)) = true) (kind : scope.kind = .function)
    (loc : (scope.names.all fun p => !(p.2 == .local) || scope.names.lookup p.1 == some .local) = true) (ownL : scope.names.lookup own = some .local) (has : ((relabel scope X.env).names.all fun p => !(p.2 == .cell || p.2 == .free) || (cl.lookup p.1).isSome) = true) (noown : cl.lookup own = none) : CompOk X scope cl own ys js :=
  ⟨clos, nocell, kind, loc, ownL, s.all, has, noown, nd, a, len⟩
/-! ### the sixteen refusals -/
section
variable {K : PySem.W.Frag} {cs : List Addr} {S C D : Addr} {i j : Nat}
end
end Sw
set_option Elab.async false
set_option linter.all false
set_option maxRecDepth 100000
namespace L2
open PySem PySem.Spec PyProof.Rows XH
/-! ### a text, walked sign by sign -/
section
variable {X : Cx} {tg : Expr}
end
/-! ### x[lo:hi] of a text -/
def cutS (x : Str) (lo hi : Option Int) : Str := ⟨((x.cps.toList.drop (HT.sIx x.length 0 lo)).take (HT.sIx x.length x.length hi - HT.sIx x.length 0 lo)).toArray⟩
theorem sIdx (lo hi : Option Int) (n : Nat) : Builtin.Str.strSliceIndices lo hi 1 n = (List.range (HT.sIx n n hi - HT.sIx n 0 lo)).map (HT.sIx n 0 lo + ·) := by
  have h1 : (match lo with | none => (0 : Int) | some i => max 0 (min (if i < 0 then i + (n : Int) else i) n)) = ((HT.sIx n 0 lo : Nat) : Int) := by
    cases lo with
    | none => simp [HT.sIx]
    | some i =>
      simp only [HT.sIx]
      by_cases h : i < 0
      · simp only [h, if_true] <;> omega
      · simp only [h, if_false] <;> omega
  have h2 : (match hi with | none => (n : Int) | some i => max 0 (min (if i < 0 then i + (n : Int) else i) n)) = ((HT.sIx n n hi : Nat) : Int) := by
    cases hi with
    | none => simp [HT.sIx]
    | some i =>
      simp only [HT.sIx]
      by_cases h : i < 0
      · simp only [h, if_true] <;> omega
      · simp only [h, if_false] <;> omega
  rw [← sliceRange_one, ← h1, ← h2]
  cases lo <;> cases hi <;> rfl
theorem cutS_picked (x : Str) (l u : Option (Int × Tok)) : (⟨((slicePicked x l u none).filterMap (x.cps[·]?)).toArray⟩ : Str) = cutS x (l.map (·.1)) (u.map (·.1)) := by
  show (⟨((Builtin.Str.strSliceIndices (l.map (·.1)) (u.map (·.1)) 1 x.length).filterMap (x.cps[·]?)).toArray⟩ : Str) = _
  rw [sIdx, pick_run]
  rfl
theorem cutS_length (x : Str) (lo hi : Option Int) : (cutS x lo hi).length ≤ x.length := by
  show ((x.cps.toList.drop _).take _).toArray.size ≤ x.cps.size
  rw [List.size_toArray, List.length_take, List.length_drop]
  simp only [Array.length_toList]
  omega
theorem cutS_whole (x : Str) (l u : Option (Int × Tok)) (h : (slicePicked x l u none).length = x.length) : cutS x (l.map (·.1)) (u.map (·.1)) = x := by
  have h' : (Builtin.Str.strSliceIndices (l.map (·.1)) (u.map (·.1)) 1 x.length).length = x.length := h
  rw [sIdx, List.length_map, List.length_range] at h'
  have hs : HT.sIx x.length x.length (u.map (·.1)) ≤ x.length ∨ x.length < HT.sIx x.length x.length (u.map (·.1)) := by omega
  have hu : HT.sIx x.length x.length (u.map (·.1)) ≤ x.length := by
    cases u with
    | none => exact Nat.le_refl _
    | some p =>
      show (if p.1 < 0 then (p.1 + (x.length : Int)).toNat else min p.1.toNat x.length) ≤ x.length
      by_cases hp : p.1 < 0
      · rw [if_pos hp]; omega
      · rw [if_neg hp]; omega
  unfold cutS
  by_cases hx : x.length = 0
  · have e : x.cps.toList = [] := by
      have : x.cps.toList.length = 0 := by rw [Array.length_toList]; exact hx
      exact List.eq_nil_of_length_eq_zero this
    rw [e, List.drop_nil, List.take_nil]
    obtain ⟨c⟩ := x
    have e' : c = #[] := Array.toList_inj.mp (by simpa using e)
    rw [e']
  · have h0 : HT.sIx x.length 0 (l.map (·.1)) = 0 := by omega
    rw [h0, List.drop_zero, List.take_of_length_le (by rw [Array.length_toList]; show x.length ≤ _; omega)]
theorem part_of {v : Value} {o : Option Int} (p : IsPart v o) : ∃ l : Option (Int × Tok), partValue l = v ∧ l.map (·.1) = o := by
  cases p with
  | none => exact ⟨none, rfl, rfl⟩
  | int i t => exact ⟨some (i, t), rfl, rfl⟩
theorem sl_str {X : Cx} : SlR X (fun x lo hi H Q => ∃ z, x = .str z ∧ z.length ≤ sizeLine ∧ Q (.str (cutS z lo hi)) H) := by
  intro pins s σ H x v vl vu lo hi sl Q I rx hs pl pu h
  obtain ⟨z, rfl, hz, q⟩ := h
  obtain ⟨t, rfl⟩ := rx
  obtain ⟨l, rfl, rfl⟩ := part_of pl
  obtain ⟨u, rfl, rfl⟩ := part_of pu
  refine ⟨"str", _, slot_str_getitem.lookup, typeIs_str s z t, ?_⟩
  refine wpAny_getItem_str_slice (l := l) (u := u) (st := none) hs rfl ?_
  unfold sliceMade
  by_cases hw : (slicePicked z l u none).length = z.length
  · rw [if_pos (by simp [hw])]
    refine ⟨.str (cutS z (l.map (·.1)) (u.map (·.1))), H, I, ⟨t, by rw [cutS_whole z l u hw]⟩, q⟩
  · rw [if_neg (by simp [hw])]
    rw [cutS_picked]
    exact ⟨Nat.le_trans (cutS_length _ _ _) hz, .str (cutS z (l.map (·.1)) (u.map (·.1))), H, I.tok _, ⟨_, rfl⟩, q⟩
/-! ### methods of texts -/
end L2
set_option Elab.async false
set_option linter.all false
set_option maxRecDepth 100000
namespace Sw
open PySem PySem.NumText
/-! ### the figures of a number -/
/-! ### a number of a text -/
/-! ### a text cut at a sign -/
/-! ### what is read -/
end Sw
set_option Elab.async false
set_option linter.all false
set_option maxRecDepth 100000
namespace L2
open PySem PySem.Spec PyProof.Rows XH
section
variable {X : Cx} {a b e o : Expr} {es : List Expr} {t te to : TE} {ta : TA} {pos apos cpos : Pos} {x y : Str}
/-! ### a text with numbers and texts put in -/
/-! ### int(text), max(list), values of the file's top -/
/-! ### tuples of numbers that are alike -/
/-! ### a list walked in a comprehension -/
/-! ### split -/
/-! ### replace: the two texts must be made behind something else -/
end
end L2
set_option Elab.async false
set_option linter.all false
set_option maxRecDepth 100000
namespace Sw
open PySem L2 XH PySem.NumText
/-! ### texts and their signs -/
def sL (z : Str) : List Nat := z.cps.toList
def mkS (l : List Nat) : Str := ⟨l.toArray⟩
theorem sL_mk (l : List Nat) : sL (mkS l) = l := by simp [sL, mkS]
theorem sL_len (z : Str) : (sL z).length = z.length := by simp [sL, Str.length]
theorem sL_app (x y : Str) : sL (x ++ y) = sL x ++ sL y := by
  show (x.cps ++ y.cps).toList = _
  rw [Array.toList_append]
  rfl
theorem one_mk (c : Nat) : (⟨#[c]⟩ : Str) = mkS [c] := rfl
/-! ### a text split at a sign -/
/-! ### promises -/
end Sw
namespace Sw
open PySem L2 XH PySem.NumText
end Sw
namespace Sw
open PySem L2 XH PySem.NumText
end Sw
namespace Sw
open PySem L2 XH PySem.NumText
end Sw
namespace Sw
open PySem L2 XH PySem.NumText
end Sw
namespace Sw
open PySem L2 XH PySem.NumText
end Sw
set_option Elab.async false
set_option linter.all false
set_option maxRecDepth 100000
namespace L2
open PySem PySem.Spec PyProof.Rows XH
/-! ### a dict, walked key by key; while it is walked it is known to the object -/
section
variable {X : Cx} {tg : Expr}
end
end L2
set_option Elab.async false
set_option linter.all false
set_option maxRecDepth 100000
namespace L2
open PySem PySem.Spec PyProof.Rows XH
/-! ### list comprehensions with one test -/
section
variable {prog : Program} {w : World} {A : Around} {R : Result → Shared → Prop} {s : Shared}
end
section
variable {X : Cx} {scope : Scope} {cl : List (Str × Addr)} {own : Str} {ys : List Str} {js : List Nat} {elt iter cond : Expr} {px pos : Pos} {wi : TI} {te : TE} {tc : TT}
end
end L2
set_option Elab.async false
set_option linter.all false
set_option maxRecDepth 100000
namespace L2
open PySem PySem.Spec PyProof.Rows XH
section
variable {X : Cx} {scope : Scope} {cl : List (Str × Addr)} {own : Str} {ys : List Str} {js : List Nat} {elt iter cond : Expr} {px pos : Pos} {wi : TI} {te : TE} {tc : TT}
end
end L2
set_option Elab.async false
set_option linter.all false
set_option maxRecDepth 100000
namespace L2
open PySem PySem.Spec PyProof.Rows XH
/-! ### setdefault -/
section
variable {X : Cx}
end
/-! ### dicts that are alike -/
section
variable {prog : Program} {w : World} {κ : Type} [DecidableEq κ] {knd : KeyKind prog w κ} {A : Around} {E : Value → Shared → Prop} {s : Shared}
end
end L2
set_option Elab.async false
set_option linter.all false
set_option maxRecDepth 100000
namespace L2
open PySem PySem.Spec PyProof.Rows XH
/-! ### list(reversed(xs)) -/
section
variable {prog : Program} {w : World} {A : Around} {R : Result → Shared → Prop} {s : Shared} {I l S : Addr} {items : Array Value}
end
section
variable {X : Cx} {e : Expr} {te : TE} {p1 p2 pos pos2 : Pos}
end
end L2
set_option Elab.async false
set_option linter.all false
set_option maxRecDepth 100000
namespace L2
open PySem PySem.Spec PyProof.Rows XH
/-! ### set(xs) of texts and numbers that are all unlike -/
section
variable {prog : Program} {w : World} {A : Around} {R : Result → Shared → Prop} {I : Addr} {fp wr : List Addr} {G : Array GenState → Array GenState → Prop} {n : Nat} {P : Nat → Value → Prop} {St : Nat → Shared → Prop}
end
section
variable {prog : Program} {w : World} {A : Around} {E : Value → Shared → Prop} {s : Shared}
end
end L2
namespace L2
open PySem PySem.Spec PyProof.Rows XH
/-! ### len(set(xs)) -/
section
variable {X : Cx} {e : Expr} {te : TE} {p1 p2 pos pos2 : Pos}
end
end L2
set_option Elab.async false
set_option linter.all false
set_option maxRecDepth 100000
namespace L2
open PySem PySem.Spec PyProof.Rows XH
end L2
namespace Sw
open PySem L2
/-! ### what parts lead to -/
/-! ### dicts with one value for all keys -/
/-! ### how many of a list are not yet there -/
/-! ### a list of pairs -/
end Sw
namespace Sw
open PySem L2
end Sw
set_option Elab.async false
set_option linter.all false
set_option maxRecDepth 100000
namespace Sw
open PySem L2
/-! ### parts as a dict of dicts -/
/-! ### as it lies in the heap -/
end Sw
set_option Elab.async false
set_option linter.all false
set_option maxRecDepth 100000
namespace Sw
open PySem L2
/-! ### all that is in a good, each with the one ahead of it -/
end Sw
set_option Elab.async false
set_option linter.all false
set_option maxRecDepth 100000
namespace Sw
open PySem L2
/-! ### a way down, kept from its end -/
end Sw
set_option Elab.async false
set_option linter.all false
set_option maxRecDepth 100000
namespace L2
open PySem PySem.Spec PyProof.Rows XH
/-! ### x == [] -/
/-! ### comprehensions with a test that changes nothing -/
end L2
namespace Sw
open PySem L2 PyProof.Rows
/-! ### dicts of dicts that are alike -/
/-! ### a way down to one of the goals -/
end Sw
set_option Elab.async false
set_option linter.all false
set_option maxRecDepth 100000
namespace Sw
open PySem L2 PyProof.Rows
theorem comp_tup {hd : Option Value} {n : Nat} {js : List Nat} {te : TE} {σ : L2.St} {H1 : Hp} {Q : VK} (P : Nat → List V → Prop) (hok : HdOk hd H1) (hn : n ≤ sizeLine)
    (step : ∀ i, i < n → ∀ H3, Same H1 H3 → ∀ Q' : VK, (∀ a xs H4, H4 a = some (.tup xs) → P i xs → Same H3 H4 → Q' (.ref a) H4) → te (some (.int (0 + (i : Int))) :: freesOf js σ) H3 Q')
    (fin : ∀ (p : Addr) (as : List Addr) (H' : Hp), H1 p = none → as.length = n → (∀ (i : Nat) (a : Addr), as[i]? = some a → ∃ xs, H' a = some (.tup xs) ∧ P i xs) → Same H1 H' → H' p = some (.lst (as.map V.ref)) → Q (.ref p) H') :
    compR js te σ Q (ItrH hd 0 n) H1 := by
  intro p hp
  refine ⟨fun i m ys H2 => i ≤ n ∧ m = n - i ∧ ∃ as : List Addr, ys = as.map V.ref ∧ as.length = i ∧ (∀ (j : Nat) (a : Addr), as[j]? = some a → ∃ xs, H2 a = some (.tup xs) ∧ P j xs) ∧ Same H1 H2 ∧ H2 p = some (.lst ys), ⟨n, Nat.zero_le _, rfl, [], rfl, rfl, fun j y e => by simp at e, same_new hp _, upd_same⟩, ?_⟩
  rintro i m ys H2 ⟨hi, rfl, as, rfl, hl, hP, g, e⟩
  refine ⟨e, ?_⟩
  by_cases hin : i < n
  · refine .inr ⟨hin, by rw [List.length_map]; omega, fun x H3 hy => ?_⟩
    obtain ⟨rfl, rfl⟩ := hy
    refine step i hin H3 g _ fun a xs H4 ea py g4 => ⟨g4 _ _ e, n - (i + 1), by omega, hin, rfl, as ++ [a], by rw [List.map_append]; rfl, by simp [hl], fun j b eb => ?_, sUpd (g.trans g4) hp _, upd_same⟩
    have keep : ∀ {b : Addr} {zs : List V}, H4 b = some (.tup zs) → (upd H4 p (.lst (as.map V.ref ++ [V.ref a]))) b = some (.tup zs) := fun {b zs} hb => by
      rw [upd_ne (fun z => by subst z; rw [g4 _ _ e] at hb; cases hb)]
      exact hb
    by_cases hj : j < as.length
    · rw [List.getElem?_append_left hj] at eb
      obtain ⟨zs, h1, h2⟩ := hP j b eb
      exact ⟨zs, keep (g4 _ _ h1), h2⟩
    · rw [List.getElem?_append_right (by omega)] at eb
      have h0 : j - as.length = 0 := by
        rcases Nat.eq_zero_or_pos (j - as.length) with q | q
        · exact q
        · rw [List.getElem?_eq_none (by simp; omega)] at eb; cases eb
      rw [h0] at eb
      have hji : j = i := by omega
      subst hji
      simp at eb
      subst eb
      exact ⟨xs, keep ea, py⟩
  · have e2 : i = n := by omega
    subst e2
    exact .inl ⟨⟨Nat.le_refl _, fun v hv => by
      obtain ⟨a, n', cls, dx, h1, h2⟩ := hok v hv
      exact ⟨a, n', cls, dx, h1, g _ _ h2⟩⟩, fin p as H2 hp hl hP g e⟩
end Sw
set_option Elab.async false
set_option linter.all false
set_option maxRecDepth 100000
namespace So
open PySem PyProof.Rows
/-- the key of an entry -/
def kk (κ : KeyKind) (p : Keyed) : κ.α := (κ.keyOf p.1).getD κ.dflt
def Kd (κ : KeyKind) (p : Keyed) : Prop := ∃ a, κ.keyOf p.1 = some a
/-- what a comparison answers, by the keys -/
def LtS (prog : Program) (w : World) (A : Around) (E : Value → Shared → Prop) (s : Shared) (κ : KeyKind) (kd : SortKind) : Prop := ∀ (st : SortSt) (x y : Keyed) (Q : Option Bool → SortSt → Prop), kindOf st = kd → Kd κ x → Kd κ y → Q (some (κ.blt (kk κ x) (kk κ y))) st → wpS (model prog w) A E s (lt' x y) Q st
section
variable {prog : Program} {w : World} {A : Around} {E : Value → Shared → Prop} {s : Shared} {κ : KeyKind} {kd : SortKind}
theorem wpS_open {α β : Type} {st : SortSt} {x : StateT SortSt Sem α} {f : α → StateT SortSt Sem β} {Q : β → SortSt → Prop} (h : wpS (model prog w) A E s (x >>= f) Q st) : wpS (model prog w) A E s (x >>= f) Q st := h
theorem wpS_lt (hO : LtS prog w A E s κ kd) {st : SortSt} {x y : Keyed} {Q : Option Bool → SortSt → Prop} (hk : kindOf st = kd) (hx : Kd κ x) (hy : Kd κ y) (h : Q (some (κ.blt (kk κ x) (kk κ y))) st) : wpS (model prog w) A E s (lt' x y) Q st := hO st x y Q hk hx hy h
theorem wpS_elem {st : SortSt} {arr : Array Keyed} {i : Nat} {p : Keyed} {Q : Keyed → SortSt → Prop} (e : arr[i]? = some p) (h : Q p st) : wpS (model prog w) A E s (elem' arr i) Q st := by
  rw [elem'_eq, e]
  exact wpS_pure h
end
end So
set_option Elab.async false
set_option linter.all false
set_option maxRecDepth 100000
namespace So
open PySem PyProof.Rows
/-- not behind -/
def Lq (κ : KeyKind) (p q : Keyed) : Prop := κ.kle (kk κ p) (kk κ q)
section
variable {κ : KeyKind} {kd : SortKind} {a b out : Array Keyed} {ia ib : Nat}
end
end So
set_option Elab.async false
set_option linter.all false
set_option maxRecDepth 100000
namespace So
open PySem PyProof.Rows
section
variable {prog : Program} {w : World} {A : Around} {E : Value → Shared → Prop} {s : Shared} {κ : KeyKind} {kd : SortKind}
theorem wpS_rule {st : SortSt} {r : String} {Q : Unit → SortSt → Prop} (h : Q () st) : wpS (model prog w) A E s (liftM (rule r) : StateT SortSt Sem Unit) Q st := wpS_lift (wpAny_rule ⟨rfl, h⟩)
end
end So
set_option Elab.async false
set_option linter.all false
set_option maxRecDepth 100000
namespace So
open PySem PyProof.Rows
section
variable {κ : KeyKind} {kd : SortKind} {a b out : Array Keyed} {na nb : Nat}
end
section
variable {prog : Program} {w : World} {A : Around} {E : Value → Shared → Prop} {s : Shared} {κ : KeyKind} {kd : SortKind}
end
end So
set_option Elab.async false
set_option linter.all false
set_option maxRecDepth 100000
namespace So
open PySem PyProof.Rows
section
variable {prog : Program} {w : World} {A : Around} {E : Value → Shared → Prop} {s : Shared} {κ : KeyKind} {kd : SortKind}
end
section
variable {prog : Program} {w : World} {A : Around} {E : Value → Shared → Prop} {s : Shared} {κ : KeyKind} {kd : SortKind}
end
end So
set_option Elab.async false
set_option linter.all false
set_option maxRecDepth 100000
namespace So
open PySem PyProof.Rows
section
variable {prog : Program} {w : World} {A : Around} {E : Value → Shared → Prop} {s : Shared} {κ : KeyKind} {kd : SortKind}
theorem at_R {arr : Array Keyed} {P R : List Keyed} (e : arr.toList = P ++ R) {i : Nat} {x : Keyed} (h : R[i]? = some x) : arr[P.length + i]? = some x := by
  have : arr.toList[P.length + i]? = some x := by rw [e, List.getElem?_append_right (by omega), Nat.add_sub_cancel_left]; exact h
  simpa using this
theorem wpS_ltR (hO : LtS prog w A E s κ kd) {st : SortSt} {P R : List Keyed} {i j i' j' : Nat} {x y : Keyed} {Q : Option Bool → SortSt → Prop} (hk : kindOf st = kd) (ka : ∀ x ∈ R, Kd κ x) (e : (arrOf st).toList = P ++ R)
    (hi : R[i]? = some x) (hj : R[j]? = some y) (ei : i' = P.length + i) (ej : j' = P.length + j) (h : Q (some (κ.blt (kk κ x) (kk κ y))) st) : wpS (model prog w) A E s (ltAt' i' j') Q st := by
  subst ei ej
  rw [ltAt'_eq]
  refine wpS_bind (wpS_get ?_)
  exact wpS_bind (wpS_elem (at_R e hi) (wpS_bind (wpS_elem (at_R e hj) (wpS_lt hO hk (ka x (List.mem_of_getElem? hi)) (ka y (List.mem_of_getElem? hj)) h))))
theorem take_snoc {R : List Keyed} {n : Nat} {x : Keyed} (h : R[n]? = some x) : R.take (n + 1) = R.take n ++ [x] := by
  rw [List.take_succ, h]
  rfl
/-- a rising stretch grows -/
theorem rise {R : List Keyed} {n : Nat} {x y : Keyed} (h1 : 1 ≤ n) (hs : (R.take n).Pairwise (Lq κ)) (hy : R[n - 1]? = some y) (hx : R[n]? = some x) (l : Lq κ y x) : (R.take (n + 1)).Pairwise (Lq κ) := by
  have e1 : R.take n = R.take (n - 1) ++ [y] := by
    have := take_snoc hy
    rwa [show n - 1 + 1 = n by omega] at this
  rw [take_snoc hx, List.pairwise_append]
  refine ⟨hs, by simp, fun u hu v hv => ?_⟩
  simp at hv
  rw [hv]
  rw [e1] at hu hs
  rcases List.mem_append.mp hu with k | k
  · exact KeyOrd.kle_trans ((List.pairwise_append.mp hs).2.2 u k y (by simp)) l
  · simp at k
    rw [k]
    exact l
theorem wpS_asc {st : SortSt} {R : List Keyed} {n0 N : Nat} (hN : N = R.length) {body : Nat → Option (Option Nat) × Nat → StateT SortSt Sem (ForInStep (Option (Option Nat) × Nat))} {Q : Option (Option Nat) × Nat → SortSt → Prop} (h1 : 1 ≤ n0) (hn : n0 ≤ R.length) (hs : (R.take n0).Pairwise (Lq κ))
    (hb : ∀ n x y (i : Nat) (Q' : ForInStep (Option (Option Nat) × Nat) → SortSt → Prop), 1 ≤ n → R[n]? = some x → R[n - 1]? = some y → (κ.blt (kk κ x) (kk κ y) = true → Q' (.done (none, n)) st) → (κ.blt (kk κ x) (kk κ y) = false → Q' (.yield (none, n + 1)) st) → wpS (model prog w) A E s (body i (none, n)) Q' st)
    (h : ∀ n, n0 ≤ n → n ≤ R.length → (R.take n).Pairwise (Lq κ) → (n = R.length ∨ ∃ x y, R[n]? = some x ∧ R[n - 1]? = some y ∧ κ.blt (kk κ x) (kk κ y) = true) → Q (none, n) st) : wpS (model prog w) A E s (forIn [n0:N] (none, n0) body) Q st := by
  subst hN
  refine wpS_forRange (I := fun i c st' => st' = st ∧ c = (none, i) ∧ n0 ≤ i ∧ (R.take i).Pairwise (Lq κ)) ?_ ?_ ⟨rfl, rfl, Nat.le_refl _, hs⟩
  · rintro i c st' hi1 hi2 ⟨rfl, rfl, h3, h4⟩
    have ex := List.getElem?_eq_getElem hi2
    have ey := List.getElem?_eq_getElem (show i - 1 < R.length by omega)
    refine hb i _ _ i _ (by omega) ex ey (fun c => h i h3 (by omega) h4 (.inr ⟨_, _, ex, ey, c⟩)) (fun c => ⟨rfl, rfl, by omega, rise (by omega) h4 ey ex c⟩)
  · rintro c st' ⟨rfl, rfl, h3, h4⟩
    rw [Nat.max_eq_right hn] at h3 h4 ⊢
    exact h _ h3 (Nat.le_refl _) h4 (.inl rfl)
theorem mirror_list {arr : Array Keyed} {P D S : List Keyed} (e : arr.toList = P ++ (D ++ S)) : (mirror arr P.length (P.length + D.length) ((P.length + D.length - P.length) / 2)).toList = P ++ (D.reverse ++ S) := by
  have sz : arr.size = P.length + (D.length + S.length) := by
    have := congrArg List.length e
    simpa using this
  apply List.ext_getElem?
  intro k
  have q := getElem?_mirror_all (xs := arr) (i := P.length) (j := P.length + D.length) (by omega) k
  have q' : (mirror arr P.length (P.length + D.length) ((P.length + D.length - P.length) / 2)).toList[k]? = (mirror arr P.length (P.length + D.length) ((P.length + D.length - P.length) / 2))[k]? := by simp
  have ga : ∀ i, arr[i]? = (P ++ (D ++ S))[i]? := fun i => by rw [← e, Array.getElem?_toList]
  rw [q', q, ga, ga]
  by_cases c : P.length ≤ k ∧ k < P.length + D.length
  · rw [if_pos c, List.getElem?_append_right (by omega), List.getElem?_append_left (by omega), List.getElem?_append_right (by omega), List.getElem?_append_left (by rw [List.length_reverse]; omega), List.getElem?_reverse (by omega)]
    congr 1
    omega
  · rw [if_neg c]
    by_cases c2 : k < P.length
    · rw [List.getElem?_append_left c2, List.getElem?_append_left c2]
    · rw [List.getElem?_append_right (by omega), List.getElem?_append_right (by omega), List.getElem?_append_right (by omega), List.getElem?_append_right (by rw [List.length_reverse]; omega), List.length_reverse]
structure Kp (st st' : SortSt) : Prop where
  kind : kindOf st' = kindOf st
  failed : failedOf st' = failedOf st
  pend : pendingOf st' = pendingOf st
/-- keys that do not rise -/
def NI (κ : KeyKind) (L : List Keyed) (n : Nat) : Prop := ((L.map (kk κ)).take n).Pairwise fun a b => κ.blt a b = false
theorem NI.snoc {L : List Keyed} {n : Nat} {x y : Keyed} (h1 : 1 ≤ n) (h : NI κ L n) (hy : L[n - 1]? = some y) (hx : L[n]? = some x) (l : κ.blt (kk κ y) (kk κ x) = false) : NI κ L (n + 1) := by
  have ey : (L.map (kk κ))[n - 1]? = some (kk κ y) := by rw [List.getElem?_map, hy]; rfl
  have ex : (L.map (kk κ))[n]? = some (kk κ x) := by rw [List.getElem?_map, hx]; rfl
  unfold NI at h ⊢
  have e1 : (L.map (kk κ)).take n = (L.map (kk κ)).take (n - 1) ++ [kk κ y] := by
    have := List.take_succ (l := L.map (kk κ)) (i := n - 1)
    rw [show n - 1 + 1 = n by omega, ey] at this
    exact this
  have e2 : (L.map (kk κ)).take (n + 1) = (L.map (kk κ)).take n ++ [kk κ x] := by
    rw [List.take_succ, ex]
    rfl
  rw [e2, List.pairwise_append]
  refine ⟨h, by simp, fun u hu v hv => ?_⟩
  simp at hv
  rw [hv]
  rw [e1] at hu h
  rcases List.mem_append.mp hu with k | k
  · have q := (List.pairwise_append.mp h).2.2 u k (kk κ y) (by simp)
    exact KeyOrd.kle_trans (O := κ.toKeyOrd) l q
  · simp at k
    rw [k]
    exact l
theorem NI.falls {L : List Keyed} {n : Nat} (h : NI κ L n) : (L.take n).Pairwise (fun p q => Lq κ q p) := by
  unfold NI at h
  rw [← List.map_take, List.pairwise_map] at h
  exact h
/-- the last ones ahead of the place n are alike -/
def Eqs (κ : KeyKind) (L : List Keyed) (n m : Nat) : Prop := ∃ (D1 D2 S : List Keyed) (a : κ.α), L = D1 ++ (D2 ++ S) ∧ D1.length + D2.length = n ∧ D2.length = m + 1 ∧ ∀ x ∈ D2, kk κ x = a
theorem alike_rev {D : List Keyed} {a : κ.α} (h : ∀ x ∈ D, kk κ x = a) : D.reverse.map (kk κ) = D.map (kk κ) := by
  have e1 : D.map (kk κ) = List.replicate D.length a := List.eq_replicate_iff.mpr ⟨by simp, fun b hb => by
    obtain ⟨x, hx, rfl⟩ := List.mem_map.mp hb
    exact h x hx⟩
  have e2 : D.reverse.map (kk κ) = List.replicate D.length a := List.eq_replicate_iff.mpr ⟨by simp, fun b hb => by
    obtain ⟨x, hx, rfl⟩ := List.mem_map.mp hb
    exact h x (List.mem_reverse.mp hx)⟩
  rw [e1, e2]
/-- a stretch of alike ones turned about -/
theorem wpS_turn {st : SortSt} {P L : List Keyed} {n m i j : Nat} {Q : Unit → SortSt → Prop} (e : (arrOf st).toList = P ++ L) (q : Eqs κ L n m) (ei : i = P.length + n - (m + 1)) (ej : j = P.length + n)
    (h : ∀ st' L', Kp st st' → (arrOf st').toList = P ++ L' → L'.Perm L → L'.map (kk κ) = L.map (kk κ) → (∀ k, n ≤ k → L'[k]? = L[k]?) → Q () st') : wpS (model prog w) A E s (reverseSlice' i j) Q st := by
  obtain ⟨D1, D2, S, a, rfl, l1, l2, al⟩ := q
  refine wpS_reverse ?_
  have er : (arrOf st).toList = (P ++ D1) ++ (D2 ++ S) := by rw [e]; simp
  have em := mirror_list er
  have i1 : i = (P ++ D1).length := by rw [List.length_append]; omega
  have j1 : j = (P ++ D1).length + D2.length := by rw [List.length_append]; omega
  rw [i1, j1]
  refine h (setArr st (mirror (arrOf st) (P ++ D1).length ((P ++ D1).length + D2.length) (((P ++ D1).length + D2.length - (P ++ D1).length) / 2))) (D1 ++ (D2.reverse ++ S)) ⟨rfl, rfl, rfl⟩ ?_ ?_ ?_ fun k hk => ?_
  · rw [← List.append_assoc]
    exact em
  · exact List.Perm.append_left _ (List.Perm.append_right _ (List.reverse_perm _))
  · simp only [List.map_append]
    rw [alike_rev al]
  · rw [List.getElem?_append_right (by omega), List.getElem?_append_right (by rw [List.length_reverse]; omega), List.getElem?_append_right (by omega), List.getElem?_append_right (by omega), List.length_reverse]
theorem Kp.trans {a b c : SortSt} (h1 : Kp a b) (h2 : Kp b c) : Kp a c := ⟨h2.kind.trans h1.kind, h2.failed.trans h1.failed, h2.pend.trans h1.pend⟩
theorem eqs_one {L : List Keyed} {n : Nat} (h : n < L.length) : Eqs κ L (n + 1) 0 := by
  refine ⟨L.take n, [L[n]], L.drop (n + 1), kk κ L[n], ?_, by rw [List.length_take]; simp; omega, rfl, fun x hx => by simp at hx; rw [hx]⟩
  have := List.drop_eq_getElem_cons h
  rw [List.singleton_append, ← this, List.take_append_drop]
theorem Eqs.more {L : List Keyed} {n m : Nat} {x y : Keyed} (h : Eqs κ L n m) (hy : L[n - 1]? = some y) (hx : L[n]? = some x) (e : kk κ x = kk κ y) : Eqs κ L (n + 1) (m + 1) := by
  obtain ⟨D1, D2, S, a, rfl, l1, l2, al⟩ := h
  have my : y ∈ D2 := by
    rw [List.getElem?_append_right (by omega), List.getElem?_append_left (by omega)] at hy
    exact List.mem_of_getElem? hy
  rw [List.getElem?_append_right (by omega), List.getElem?_append_right (by omega)] at hx
  have z : n - D1.length - D2.length = 0 := by omega
  rw [z] at hx
  cases S with
  | nil => simp at hx
  | cons s S =>
    simp at hx
    subst hx
    refine ⟨D1, D2 ++ [s], S, a, by simp, by simp; omega, by simp; omega, fun u hu => ?_⟩
    rcases List.mem_append.mp hu with k | k
    · exact al u k
    · simp at k
      rw [k, e]
      exact al y my
theorem wpS_back {st st6 : SortSt} {P L R : List Keyed} {n : Nat} {f : Unit → StateT SortSt Sem (Option Nat)} {Q : Option Nat → SortSt → Prop} (kp : Kp st st6) (e : (arrOf st6).toList = P ++ L) (pr : L.Perm R) (hn : n ≤ R.length) (ni : NI κ L n)
    (h : ∀ st7 M, Kp st st7 → (arrOf st7).toList = P ++ M → M.Perm R → (M.take n).Pairwise (Lq κ) → wpS (model prog w) A E s (f ()) Q st7) : wpS (model prog w) A E s (reverseSlice' P.length (P.length + n) >>= f) Q st6 := by
  have tl : (L.take n).length = n := by rw [List.length_take, pr.length_eq]; omega
  have er : (arrOf st6).toList = P ++ (L.take n ++ L.drop n) := by rw [List.take_append_drop]; exact e
  have em := mirror_list er
  rw [tl] at em
  refine wpS_bind (wpS_reverse (h _ ((L.take n).reverse ++ L.drop n) ⟨kp.kind, kp.failed, kp.pend⟩ em ?_ ?_))
  · refine List.Perm.trans (List.Perm.append_right _ (List.reverse_perm _)) ?_
    rw [List.take_append_drop]
    exact pr
  · rw [List.take_left' (by rw [List.length_reverse, tl]), List.pairwise_reverse]
    exact ni.falls
theorem wpS_countAt (hO : LtS prog w A E s κ kd) {st : SortSt} {P R : List Keyed} {Q : Option Nat → SortSt → Prop} (hk : kindOf st = kd) (ka : ∀ x ∈ R, Kd κ x) (e : (arrOf st).toList = P ++ R) (hR : 1 ≤ R.length)
    (h : ∀ st' X S, Kp st st' → (arrOf st').toList = P ++ (X ++ S) → X.Pairwise (Lq κ) → (X ++ S).Perm R → 1 ≤ X.length → Q (some X.length) st') : wpS (model prog w) A E s (countRun' P.length R.length) Q st := by
  have got : ∀ n, 1 ≤ n → n ≤ R.length → (R.take n).Pairwise (Lq κ) → Q (some n) st := fun n h1 h2 h3 => by
    have q := h st (R.take n) (R.drop n) ⟨rfl, rfl, rfl⟩ (by rw [List.take_append_drop]; exact e) h3 (by rw [List.take_append_drop]) (by rw [List.length_take]; omega)
    rwa [List.length_take, Nat.min_eq_left h2] at q
  unfold countRun'
  refine wpS_open ?_
  try dsimp only
  refine wpS_bind (wpS_asc (κ := κ) (R := R) rfl (Nat.le_refl 1) hR ?_ (fun n x y i Q' h1 hx hy ht hf => ?_) fun n h1 h2 h3 h4 => ?_)
  · cases R with
    | nil => simp
    | cons => simp
  · refine wpS_bind (wpS_ltR hO hk ka e hx hy rfl (by omega) ?_)
    cases c : κ.blt (kk κ x) (kk κ y) with
    | true => exact wpS_pure (ht c)
    | false => exact wpS_pure (hf c)
  try dsimp only
  by_cases c1 : n = R.length
  · rw [if_pos (beq_iff_eq.mpr c1)]
    exact wpS_pure (got n h1 h2 h3)
  rw [if_neg (fun z => c1 (beq_iff_eq.mp z))]
  rcases h4 with h4 | ⟨x, y, hx, hy, lt⟩
  · exact absurd h4 c1
  have nl : n < R.length := by omega
  have all : ∀ (i j : Nat) (u v : Keyed), i ≤ j → j < n → R[i]? = some u → R[j]? = some v → Lq κ u v := fun i j u v hij hj hu hv => by
    rcases Nat.lt_or_ge i j with c | c
    · obtain ⟨l1, g1⟩ := List.getElem?_eq_some_iff.mp hu
      obtain ⟨l2, g2⟩ := List.getElem?_eq_some_iff.mp hv
      have q := List.pairwise_iff_getElem.mp h3 i j (by rw [List.length_take]; omega) (by rw [List.length_take]; omega) c
      rw [List.getElem_take, List.getElem_take, g1, g2] at q
      exact q
    · have : i = j := by omega
      subst this
      rw [hu] at hv
      cases hv
      exact KeyOrd.kle_refl _
  by_cases c2 : n > 1
  case' pos =>
    rw [if_pos c2]
    obtain ⟨x0, hx0⟩ : ∃ x, R[0]? = some x := ⟨_, List.getElem?_eq_getElem (by omega)⟩
    refine wpS_bind (wpS_ltR hO hk ka e hx0 hy rfl (by omega) ?_)
    try dsimp only
    cases rose : κ.blt (kk κ x0) (kk κ y) with
    | true => exact wpS_pure (got n h1 h2 h3)
    | false => ?_
    try dsimp only
    rw [if_neg (by decide)]
    have al : ∀ z ∈ R.take n, kk κ z = kk κ x0 := fun z hz => by
      obtain ⟨k, hk'⟩ := List.mem_iff_getElem?.mp hz
      have kn : k < n := by
        have := (List.getElem?_eq_some_iff.mp hk').1
        rw [List.length_take] at this
        omega
      rw [List.getElem?_take_of_lt kn] at hk'
      have a1 := all 0 k x0 z (by omega) kn hx0 hk'
      have a2 := all k (n - 1) z y (by omega) (by omega) hk' hy
      exact KeyOrd.kle_antisymm (O := κ.toKeyOrd) (KeyOrd.kle_trans (O := κ.toKeyOrd) a2 rose) a1
    have eq0 : Eqs κ R n (n - 1) := ⟨[], R.take n, R.drop n, kk κ x0, by simp, by rw [List.length_take]; simp; omega, by rw [List.length_take]; omega, al⟩
    have ni0 : NI κ R n := by
      unfold NI
      rw [← List.map_take]
      refine List.pairwise_map.mpr (List.Pairwise.imp_of_mem (R := fun _ _ => True) (fun {u v} hu hv _ => ?_) (List.pairwise_of_forall fun _ _ => trivial))
      rw [al u hu, al v hv]
      exact κ.irrefl _
    have ni1 : NI κ R (n + 1) := ni0.snoc h1 hy hx (KeyOrd.kle_of_klt lt)
    refine wpS_bind (wpS_turn (κ := κ) e eq0 (by omega) rfl fun st1 L0 kp1 e1 p1 m1 _ => ?_)
    have niL : NI κ L0 (n + 1) := by
      unfold NI at ni1 ⊢
      rw [m1]
      exact ni1
  case' neg =>
    rw [if_neg c2]
    have n1 : n = 1 := by omega
    have ni1 : NI κ R (n + 1) := by
      refine NI.snoc h1 ?_ hy hx (KeyOrd.kle_of_klt lt)
      rw [n1]
      unfold NI
      cases R with
      | nil => simp
      | cons => simp
    have kp1 : Kp st st := ⟨rfl, rfl, rfl⟩
    have e1 := e
    have p1 := List.Perm.refl R
    have niL := ni1
  all_goals
    refine wpS_bind (wpS_rule ?_)
    have n2 : 2 ≤ n + 1 := by omega
    refine wpS_bind (wpS_mono (wpS_forRange (I := fun i c st' => ∃ L m, c = (none, i, m) ∧ Kp st st' ∧ (arrOf st').toList = P ++ L ∧ L.Perm R ∧ NI κ L i ∧ Eqs κ L i m ∧ 2 ≤ i)
      (Q := fun c st' => ∃ n' L m, c = (none, n', m) ∧ Kp st st' ∧ (arrOf st').toList = P ++ L ∧ L.Perm R ∧ NI κ L n' ∧ Eqs κ L n' m ∧ 2 ≤ n' ∧ n' ≤ R.length) ?ds ?de ⟨_, 0, rfl, kp1, e1, p1, niL, ?i0, n2⟩) ?dp)
    case i0 =>
      exact eqs_one (by rw [p1.length_eq]; omega)
    case de =>
      rintro c st' ⟨L, m, rfl, kp, eL, pL, ni, eq, g1⟩
      have : max (n + 1) R.length = R.length := by omega
      rw [this] at ni eq g1 ⊢
      exact ⟨_, L, m, rfl, kp, eL, pL, ni, eq, g1, Nat.le_refl _⟩
    case ds =>
      rintro i c st' hi1 hi2 ⟨L, m, rfl, kp, eL, pL, ni, eq, g1⟩
      have hi3 : i < L.length := by rw [pL.length_eq]; exact hi2
      have ex := List.getElem?_eq_getElem hi3
      have ey := List.getElem?_eq_getElem (show i - 1 < L.length by omega)
      have kL : ∀ x ∈ L, Kd κ x := fun x hx => ka x (pL.mem_iff.mp hx)
      have hk' := kp.kind.trans hk
      try dsimp only
      refine wpS_bind (wpS_ltR hO hk' kL eL ex ey rfl (by omega) ?_)
      try dsimp only
      cases c : κ.blt (kk κ L[i]) (kk κ L[i - 1]) with
      | true =>
        rw [if_pos rfl]
        by_cases hm : m > 0
        · rw [if_pos hm]
          refine wpS_bind (wpS_turn (κ := κ) eL eq rfl rfl fun st6 L6 kp6 e6 p6 m6 g6 => wpS_pure ⟨L6, 0, rfl, kp.trans kp6, e6, p6.trans pL, ?_, eqs_one (by rw [p6.length_eq]; omega), by omega⟩)
          have := ni.snoc (by omega) ey ex (KeyOrd.kle_of_klt c)
          unfold NI at this ⊢
          rw [m6]
          exact this
        · rw [if_neg hm]
          exact wpS_pure ⟨L, 0, rfl, kp, eL, pL, ni.snoc (by omega) ey ex (KeyOrd.kle_of_klt c), eqs_one (by omega), by omega⟩
      | false =>
        rw [if_neg (by decide)]
        refine wpS_bind (wpS_ltR hO hk' kL eL ey ex (by omega) rfl ?_)
        try dsimp only
        cases c' : κ.blt (kk κ L[i - 1]) (kk κ L[i]) with
        | true => exact wpS_pure ⟨i, L, m, rfl, kp, eL, pL, ni, eq, g1, by omega⟩
        | false => exact wpS_pure ⟨L, m + 1, rfl, kp, eL, pL, ni.snoc (by omega) ey ex c', eq.more ey ex (κ.total _ _ c c'), by omega⟩
    case dp =>
      rintro c st' ⟨n', L, m, rfl, kp, eL, pL, ni, eq, g1, g2⟩
      try dsimp only
      by_cases hm : m > 0
      case' pos =>
        rw [if_pos hm]
        refine wpS_bind (wpS_turn (κ := κ) eL eq rfl rfl fun st6 L6 kp6' e6 p6' m6 g6 => ?_)
        have kp6 := kp.trans kp6'
        have p6 := p6'.trans pL
        have ni6 : NI κ L6 n' := by
          unfold NI at ni ⊢
          rw [m6]
          exact ni
      case' neg =>
        rw [if_neg hm]
        have kp6 := kp
        have e6 := eL
        have p6 := pL
        have ni6 := ni
      all_goals
        refine wpS_back (κ := κ) kp6 e6 p6 g2 ni6 fun st7 M kp7 e7 p7 s7 => ?_
        have rl := p7.length_eq
        have kM : ∀ x ∈ M, Kd κ x := fun x hx => ka x (p7.mem_iff.mp hx)
        refine wpS_bind (wpS_asc (κ := κ) (R := M) rl.symm (by omega) (by omega) s7 (fun m x y i Q' h1 hx hy ht hf => ?_) fun m h1 h2 h3 _ => ?_)
        · try dsimp only
          refine wpS_bind (wpS_ltR hO (kp7.kind.trans hk) kM e7 hx hy rfl (by omega) ?_)
          cases c : κ.blt (kk κ x) (kk κ y) with
          | true => exact wpS_pure (ht c)
          | false => exact wpS_pure (hf c)
        · have q := h st7 (M.take m) (M.drop m) kp7 (by rw [List.take_append_drop]; exact e7) h3 (by rw [List.take_append_drop]; exact p7) (by rw [List.length_take]; omega)
          rw [List.length_take, Nat.min_eq_left h2] at q
          exact wpS_pure q
end
end So
set_option Elab.async false
set_option linter.all false
set_option maxRecDepth 100000
namespace So
open PySem PyProof.Rows
theorem bubble_list {arr : Array Keyed} {B V W : List Keyed} {x : Keyed} (e : arr.toList = B ++ (V ++ x :: W)) : (bubble arr (B.length + V.length) V.length).toList = B ++ (x :: (V ++ W)) := by
  have sz : arr.size = B.length + (V.length + (W.length + 1)) := by
    have := congrArg List.length e
    simpa using this
  apply List.ext_getElem?
  intro k
  have q := getElem?_bubble (xs := arr) (src := B.length + V.length) (by omega) V.length (by omega) k
  rw [Nat.add_sub_cancel] at q
  have ga : ∀ i, arr[i]? = (B ++ (V ++ x :: W))[i]? := fun i => by rw [← e, Array.getElem?_toList]
  rw [Array.getElem?_toList, q, ga, ga, ga]
  by_cases c1 : k = B.length
  · rw [if_pos c1]
    subst c1
    simp
  rw [if_neg c1]
  by_cases c2 : B.length < k ∧ k ≤ B.length + V.length
  · rw [if_pos c2, List.getElem?_append_right (by omega), List.getElem?_append_left (by omega), List.getElem?_append_right (by omega)]
    have : k - B.length = (k - 1 - B.length) + 1 := by omega
    rw [this, List.getElem?_cons_succ, List.getElem?_append_left (by omega)]
  rw [if_neg c2]
  by_cases c3 : k < B.length
  · rw [List.getElem?_append_left c3, List.getElem?_append_left c3]
  · rw [List.getElem?_append_right (by omega), List.getElem?_append_right (by omega), List.getElem?_append_right (by omega)]
    have e1 : k - B.length - V.length = (k - B.length - V.length - 1) + 1 := by omega
    have e2 : k - B.length = (k - B.length - 1) + 1 := by omega
    rw [e1, List.getElem?_cons_succ, e2, List.getElem?_cons_succ, List.getElem?_append_right (by omega)]
    congr 1
    omega
section
variable {prog : Program} {w : World} {A : Around} {E : Value → Shared → Prop} {s : Shared} {κ : KeyKind} {kd : SortKind}
theorem wpS_binAt (hO : LtS prog w A E s κ kd) {st : SortSt} {P D S : List Keyed} {ok n : Nat} {Q : Bool → SortSt → Prop} (hn : n = D.length) (hk : kindOf st = kd) (ka : ∀ x ∈ D, Kd κ x) (e : (arrOf st).toList = P ++ (D ++ S)) (h1 : 1 ≤ ok) (h2 : ok ≤ D.length) (hs : (D.take ok).Pairwise (Lq κ))
    (h : ∀ st' X, Kp st st' → (arrOf st').toList = P ++ (X ++ S) → X.Pairwise (Lq κ) → X.Perm D → Q true st') : wpS (model prog w) A E s (binarySort' P.length n ok) Q st := by
  subst hn
  unfold binarySort'
  refine wpS_open ?_
  try dsimp only
  have mx : max ok 1 = ok := by omega
  rw [mx]
  refine wpS_bind (wpS_mono (wpS_forRange (I := fun k c st' => c = (none, ()) ∧ Kp st st' ∧ ∃ X, (arrOf st').toList = P ++ (X ++ S) ∧ X.Perm D ∧ (X.take k).Pairwise (Lq κ))
    (Q := fun c st' => c = (none, ()) ∧ Kp st st' ∧ ∃ X, (arrOf st').toList = P ++ (X ++ S) ∧ X.Perm D ∧ X.Pairwise (Lq κ)) ?s1 ?e1 ⟨rfl, ⟨rfl, rfl, rfl⟩, D, e, List.Perm.refl _, hs⟩) ?p1)
  case e1 =>
    rintro c st' ⟨rfl, kp, X, eX, pX, sX⟩
    rw [Nat.max_eq_right h2, List.take_of_length_le (by rw [pX.length_eq]; exact Nat.le_refl _)] at sX
    exact ⟨rfl, kp, X, eX, pX, sX⟩
  case p1 =>
    rintro c st' ⟨rfl, kp, X, eX, pX, sX⟩
    exact wpS_pure (h st' X kp eX sX pX)
  case s1 =>
    rintro k c st' hk1 hk2 ⟨rfl, kp, X, eX, pX, sX⟩
    have xl := pX.length_eq
    have kaX : ∀ x ∈ X ++ S, x ∈ X → Kd κ x := fun x _ hx => ka x (pX.mem_iff.mp hx)
    have hkx : k < X.length := by omega
    have ex := List.getElem?_eq_getElem hkx
    generalize X[k] = x at ex
    have eX' : (arrOf st').toList = P ++ X ++ S := by rw [eX, List.append_assoc]
    have lt : ∀ {i : Nat} {y : Keyed} {Q' : Option Bool → SortSt → Prop}, X[i]? = some y → Q' (some (κ.blt (kk κ x) (kk κ y))) st' → wpS (model prog w) A E s (ltAt' (P.length + k) (P.length + i)) Q' st' := fun {i y Q'} hy hq => by
      have il := (List.getElem?_eq_some_iff.mp hy).1
      rw [ltAt'_eq]
      refine wpS_bind (wpS_get ?_)
      exact wpS_bind (wpS_elem (at_R eX (by rw [List.getElem?_append_left hkx]; exact ex)) (wpS_bind (wpS_elem (at_R eX (by rw [List.getElem?_append_left il]; exact hy)) (wpS_lt hO (kp.kind.trans hk) (ka x (pX.mem_iff.mp (List.mem_of_getElem? ex))) (ka y (pX.mem_iff.mp (List.mem_of_getElem? hy))) hq))))
    have mono : ∀ {i j : Nat} {u v : Keyed}, i ≤ j → j < k → X[i]? = some u → X[j]? = some v → Lq κ u v := fun {i j u v} hij hj hu hv => by
      rcases Nat.lt_or_ge i j with c | c
      · obtain ⟨l1, g1⟩ := List.getElem?_eq_some_iff.mp hu
        obtain ⟨l2, g2⟩ := List.getElem?_eq_some_iff.mp hv
        have q := List.pairwise_iff_getElem.mp sX i j (by rw [List.length_take]; omega) (by rw [List.length_take]; omega) c
        rw [List.getElem_take, List.getElem_take, g1, g2] at q
        exact q
      · have : i = j := by omega
        subst this
        rw [hu] at hv
        cases hv
        exact KeyOrd.kle_refl _
    try dsimp only
    refine wpS_bind (wpS_mono (wpS_forRange (I := fun i c st'' => st'' = st' ∧ ∃ l r, c = (none, l, r) ∧ l ≤ r ∧ r ≤ k ∧ (∀ j u, j < l → X[j]? = some u → Lq κ u x) ∧ (∀ j u, r ≤ j → j < k → X[j]? = some u → Lq κ x u) ∧ r - l + i ≤ k)
      (Q := fun c st'' => st'' = st' ∧ ∃ l, c = (none, l, l) ∧ l ≤ k ∧ (∀ j u, j < l → X[j]? = some u → Lq κ u x) ∧ (∀ j u, l ≤ j → j < k → X[j]? = some u → Lq κ x u)) ?s2 ?e2 ⟨rfl, 0, k, rfl, by omega, by omega, fun j u z => absurd z (by omega), fun j u z z' => absurd z' (by omega), by omega⟩) ?p2)
    case e2 =>
      rintro c st'' ⟨rfl, l, r, rfl, a1, a2, a3, a4, a5⟩
      have : l = r := by omega
      subst this
      exact ⟨rfl, l, rfl, a2, a3, a4⟩
    case s2 =>
      rintro i c st'' _ hi ⟨rfl, l, r, rfl, a1, a2, a3, a4, a5⟩
      try dsimp only
      by_cases c : l ≥ r
      · rw [if_pos c]
        have : l = r := by omega
        subst this
        exact wpS_pure ⟨rfl, l, rfl, a2, a3, a4⟩
      · rw [if_neg c]
        have ml : (l + r) / 2 < X.length := by omega
        have em := List.getElem?_eq_getElem ml
        refine wpS_bind (lt em ?_)
        try dsimp only
        cases cc : κ.blt (kk κ x) (kk κ X[(l + r) / 2]) with
        | true => exact wpS_pure ⟨rfl, _, _, rfl, by omega, by omega, a3, fun j u hj hj2 hu => KeyOrd.kle_trans (KeyOrd.kle_of_klt cc) (mono hj hj2 em hu), by omega⟩
        | false => exact wpS_pure ⟨rfl, _, _, rfl, by omega, by omega, fun j u hj hu => KeyOrd.kle_trans (mono (show j ≤ (l + r) / 2 by omega) (by omega) hu em) cc, a4, by omega⟩
    case p2 =>
      rintro c st'' ⟨rfl, l, rfl, a2, a3, a4⟩
      try dsimp only
      have eX2 : X = X.take l ++ ((X.take k).drop l ++ x :: X.drop (k + 1)) := by
        obtain ⟨l1, g1⟩ := List.getElem?_eq_some_iff.mp ex
        have d1 : X.drop k = x :: X.drop (k + 1) := by rw [List.drop_eq_getElem_cons l1, g1]
        have t1 : X.take k = X.take l ++ (X.take k).drop l := by
          have q := (List.take_append_drop l (X.take k)).symm
          rw [List.take_take, Nat.min_eq_left a2] at q
          exact q
        rw [← d1, ← List.append_assoc, ← t1, List.take_append_drop]
      have lv : ((X.take k).drop l).length = k - l := by rw [List.length_drop, List.length_take]; omega
      have lu : (X.take l).length = l := by rw [List.length_take]; omega
      have mU : ∀ u ∈ X.take l, Lq κ u x := fun u hu => by
        obtain ⟨j, hj⟩ := List.mem_iff_getElem?.mp hu
        have jl := (List.getElem?_eq_some_iff.mp hj).1
        rw [lu] at jl
        rw [List.getElem?_take_of_lt jl] at hj
        exact a3 j u jl hj
      have mV : ∀ u ∈ (X.take k).drop l, Lq κ x u := fun u hu => by
        obtain ⟨j, hj⟩ := List.mem_iff_getElem?.mp hu
        have jl := (List.getElem?_eq_some_iff.mp hj).1
        rw [lv] at jl
        rw [List.getElem?_drop, List.getElem?_take_of_lt (by omega)] at hj
        exact a4 (l + j) u (by omega) (by omega) hj
      have sUV : (X.take l ++ (X.take k).drop l).Pairwise (Lq κ) := by
        have q := (List.take_append_drop l (X.take k)).symm
        rw [List.take_take, Nat.min_eq_left a2] at q
        rw [← q]
        exact sX
      generalize X.take l = U at *
      generalize (X.take k).drop l = V at *
      generalize X.drop (k + 1) = W at *
      subst eX2
      have eb : (arrOf st'').toList = (P ++ U) ++ (V ++ x :: (W ++ S)) := by rw [eX]; simp
      have bl := bubble_list eb
      have l1 : (P ++ U).length + V.length = P.length + k := by rw [List.length_append]; omega
      rw [l1] at bl
      have l2 : P.length + k - (P.length + l) = V.length := by omega
      have sp := List.pairwise_append.mp sUV
      refine wpS_bind ?_
      show wpS _ _ _ _ (moveDown' (P.length + k) (P.length + l)) _ _
      rw [moveDown'_eq]
      refine wpS_modify (wpS_pure ⟨rfl, ⟨kp.kind, kp.failed, kp.pend⟩, U ++ (x :: (V ++ W)), ?_, ?_, ?_⟩)
      · show (bubble (arrOf st'') (P.length + k) (P.length + k - (P.length + l))).toList = _
        rw [l2, bl]
        simp
      · refine List.Perm.trans (List.Perm.append_left _ ?_) pX
        exact (List.perm_middle).symm
      · have t : U ++ (x :: (V ++ W)) = (U ++ x :: V) ++ W := by simp
        rw [t, List.take_left' (by simp; omega), List.pairwise_append, List.pairwise_cons]
        refine ⟨sp.1, ⟨mV, sp.2.1⟩, fun u hu v hv => ?_⟩
        rcases List.mem_cons.mp hv with c | c
        · rw [c]; exact mU u hu
        · exact sp.2.2 u hu v c
end
end So
set_option Elab.async false
set_option linter.all false
set_option maxRecDepth 100000
namespace So
open PySem PyProof.Rows
/-! ### the runs that wait -/
section
variable {κ : KeyKind} {kd : SortKind}
end
section
variable {prog : Program} {w : World} {A : Around} {E : Value → Shared → Prop} {s : Shared} {κ : KeyKind} {kd : SortKind}
end
end So
set_option Elab.async false
set_option linter.all false
set_option maxRecDepth 100000
namespace So
open PySem PyProof.Rows
section
variable {prog : Program} {w : World} {A : Around} {E : Value → Shared → Prop} {s : Shared} {κ : KeyKind} {kd : SortKind}
end
end So
set_option Elab.async false
set_option linter.all false
set_option maxRecDepth 100000
namespace So
open PySem PyProof.Rows
section
variable {prog : Program} {w : World} {A : Around} {E : Value → Shared → Prop} {s : Shared} {κ : KeyKind} {kd : SortKind}
/-- fewer than 64: one run, counted and filled up by insertion -/
theorem wpS_short (hO : LtS prog w A E s κ kd) {a0 : List Keyed} {st : SortSt} {Q : Unit → SortSt → Prop} (hk : kindOf st = kd) (hf : failedOf st = none) (hp : pendingOf st = #[]) (ha : (arrOf st).toList = a0) (k0 : ∀ x ∈ a0, Kd κ x) (h64 : a0.length < 64)
    (h : ∀ st', (arrOf st').toList.Perm a0 → failedOf st' = none → (arrOf st').toList.Pairwise (Lq κ) → Q () st') : wpS (model prog w) A E s sortRuns' Q st := by
  have sz : (arrOf st).size = a0.length := by rw [← ha]; simp
  have mr : minRun' a0.length a0.length 0 = a0.length := by
    cases n : a0.length with
    | zero => rfl
    | succ m =>
      rw [n] at h64
      rw [minRun'_succ, if_pos h64, Nat.add_zero]
  unfold sortRuns'
  refine wpS_open ?_
  refine wpS_bind (wpS_get ?_)
  dsimp only
  rw [sz]
  change wpS _ _ _ _ (_ >>= _) _ _
  have mr' : (sortPriv% PySem.Builtin.minRun) a0.length a0.length 0 = a0.length := mr
  rw [mr']
  refine wpS_bind (wpS_mono (wpS_forRange (I := fun x c st' => (x = 0 ∧ c = (none, 0) ∧ st' = st) ∨ (c = (none, a0.length) ∧ (arrOf st').toList.Perm a0 ∧ failedOf st' = none ∧ (arrOf st').toList.Pairwise (Lq κ) ∧ (pendingOf st').size ≤ 1))
    (Q := fun c st' => ∃ lo, c = (none, lo) ∧ (arrOf st').toList.Perm a0 ∧ failedOf st' = none ∧ (arrOf st').toList.Pairwise (Lq κ) ∧ (pendingOf st').size ≤ 1) ?s1 ?e1 (.inl ⟨rfl, rfl, rfl⟩)) ?p1)
  case e1 =>
    rintro c st' (⟨h0, rfl, rfl⟩ | ⟨rfl, z⟩)
    · have z0 : a0 = [] := List.eq_nil_of_length_eq_zero (by omega)
      refine ⟨_, rfl, by rw [ha], hf, by rw [ha, z0]; exact List.Pairwise.nil, by rw [hp]; decide⟩
    · exact ⟨_, rfl, z⟩
  case p1 =>
    rintro c st' ⟨lo, rfl, p1, p2, p3, p4⟩
    try dsimp only
    refine wpS_bind (wpS_mono (wpS_forRange (I := fun x c st'' => c = (none, ()) ∧ st'' = st') (Q := fun c st'' => c = (none, ()) ∧ st'' = st') ?s4 (fun _ _ z => z) ⟨rfl, rfl⟩) ?p4)
    case s4 =>
      rintro x c st'' _ hx ⟨rfl, rfl⟩
      refine wpS_bind (wpS_get ?_)
      rw [if_pos p4]
      exact wpS_pure ⟨rfl, rfl⟩
    case p4 =>
      rintro c st'' ⟨rfl, rfl⟩
      exact wpS_pure (h _ p1 p2 p3)
  case s1 =>
    rintro x c st1 _ hx (⟨h0, rfl, rfl⟩ | ⟨rfl, z⟩)
    · try dsimp only
      rw [if_neg (by omega)]
      have e0 : (arrOf st1).toList = [] ++ a0 := by simpa using ha
      refine wpS_bind (wpS_countAt hO (P := []) (R := a0) hk k0 e0 (by omega) fun st3 X3 S3 kp3 e3 s3 p3 l3 => ?_)
      try dsimp only
      have n3 : X3.length + S3.length = a0.length := by rw [← List.length_append]; exact p3.length_eq
      have pe3 : pendingOf st3 = #[] := kp3.pend.trans hp
      by_cases cm : X3.length < a0.length
      · rw [if_pos cm]
        refine wpS_bind (wpS_rule (wpS_bind (wpS_binAt hO (P := []) (D := X3 ++ S3) (S := []) (by rw [List.length_append, n3]; omega) (kp3.kind.trans hk) (fun x hx => k0 x (p3.mem_iff.mp hx)) (by rw [List.append_nil]; exact e3) l3 (by rw [List.length_append]; omega) (by rw [List.take_left]; exact s3) fun st4 X4 kp4 e4 s4 p4 => ?_)))
        simp only [Bool.not_true, Bool.false_eq_true, if_false]
        refine wpS_bind (wpS_get ?_)
        have pe4 : pendingOf st4 = #[] := kp4.pend.trans pe3
        have e4' : (arrOf st4).toList = X4 := by simpa using e4
        split
        · rename_i q
          have q' : (pendingOf st4).back? = some _ := q
          rw [pe4] at q'
          cases q'
        · refine wpS_bind (wpS_modify (wpS_pure (.inr ⟨?_, ?_, ?_, ?_, ?_⟩)))
          · rw [Nat.zero_add, Nat.sub_zero, Nat.min_self]
          · show (arrOf st4).toList.Perm a0
            rw [e4']
            exact p4.trans p3
          · exact kp4.failed.trans (kp3.failed.trans hf)
          · show (arrOf st4).toList.Pairwise (Lq κ)
            rw [e4']
            exact s4
          · show ((pendingOf st4).push _).size ≤ 1
            rw [pe4]
            exact Nat.le_refl 1
      · rw [if_neg cm]
        refine wpS_bind (wpS_get ?_)
        have S0 : S3 = [] := List.eq_nil_of_length_eq_zero (by omega)
        subst S0
        have e3' : (arrOf st3).toList = X3 := by simpa using e3
        split
        · rename_i q
          have q' : (pendingOf st3).back? = some _ := q
          rw [pe3] at q'
          cases q'
        · refine wpS_bind (wpS_modify (wpS_pure (.inr ⟨?_, ?_, ?_, ?_, ?_⟩)))
          · have : X3.length = a0.length := by simpa using n3
            rw [Nat.zero_add, this]
          · show (arrOf st3).toList.Perm a0
            rw [e3']
            simpa using p3
          · exact kp3.failed.trans hf
          · show (arrOf st3).toList.Pairwise (Lq κ)
            rw [e3']
            exact s3
          · show ((pendingOf st3).push _).size ≤ 1
            rw [pe3]
            exact Nat.le_refl 1
    · try dsimp only
      rw [if_pos (Nat.le_refl _)]
      exact wpS_pure ⟨_, rfl, z⟩
end
end So
set_option Elab.async false
set_option linter.all false
set_option maxRecDepth 100000
namespace So
open PySem PyProof.Rows
section
variable {prog : Program} {w : World} {A : Around} {E : Value → Shared → Prop} {s : Shared} {κ : KeyKind}
end
end So
set_option Elab.async false
set_option linter.all false
set_option maxRecDepth 100000
namespace L2
open PySem PySem.Spec PyProof.Rows XH Sw So
end L2
set_option Elab.async false
set_option linter.all false
set_option maxRecDepth 100000
namespace So
open PySem PySem.Spec PyProof.Rows
/-- not behind, of texts -/
def leS (x y : Str) : Prop := ¬ (y.cps.toList < x.cps.toList)
theorem leS_trans {x y z : Str} (h1 : leS x y) (h2 : leS y z) : leS x z := fun h => by
  unfold leS at h1 h2
  exact h1 (List.lt_of_le_of_lt (List.not_lt.mp h2) h)
theorem leS_anti {x y : Str} (h1 : leS x y) (h2 : leS y x) : x = y := by
  have e := List.le_antisymm (List.not_lt.mp h1) (List.not_lt.mp h2)
  cases x; cases y
  congr 1
  exact Array.toList_inj.mp e
theorem rising_pw : ∀ (r : List Str) (x : Str), risingS x r = true → (x :: r).Pairwise leS
  | [], x, _ => by simp
  | y :: r, x, h => by
    unfold risingS at h
    have h' : ltCps y.cps.toList x.cps.toList = false ∧ risingS y r = true := by
      simpa [Bool.and_eq_true] using h
    have ih := rising_pw r y h'.2
    have xy : leS x y := by
      have := h'.1
      rw [ltCps_eq] at this
      exact of_decide_eq_false this
    refine List.pairwise_cons.mpr ⟨fun z hz => ?_, ih⟩
    rcases List.mem_cons.mp hz with e | e
    · rw [e]; exact xy
    · exact leS_trans xy ((List.pairwise_cons.mp ih).1 z e)
theorem sorted_pw {l : List Str} (h : sortedS l = true) : l.Pairwise leS := by
  cases l with
  | nil => simp
  | cons x r => exact rising_pw r x h
/-- of the same texts there is one sorted list -/
theorem sorted_uniq {l m : List Str} (h1 : sortedS l = true) (h2 : sortedS m = true) (p : l.Perm m) : l = m :=
  List.Perm.eq_of_pairwise (fun a b _ _ ha hb => leS_anti ha hb) (sorted_pw h1) (sorted_pw h2) p
end So
set_option Elab.async false
set_option linter.all false
set_option maxRecDepth 100000
namespace L2
open PySem PySem.Spec PyProof.Rows XH Sw So
/-- tuples, by the texts that they begin with -/
def tupKind (nm : Addr → Option Str) : PyProof.Rows.KeyKind := { PyProof.Rows.strKind with keyOf := fun v => match v with | .ref a => (nm a).map fun y => y.cps.toList | _ => none }
theorem tup_key {nm : Addr → Option Str} {v : Value} {k : List Nat} (h : (tupKind nm).keyOf v = some k) : ∃ a y, v = .ref a ∧ nm a = some y ∧ k = y.cps.toList := by
  cases v with
  | ref a =>
    cases e : nm a with
    | none =>
      have h' : ((nm a).map fun y => y.cps.toList) = some k := h
      rw [e] at h'
      cases h'
    | some y =>
      have h' : ((nm a).map fun y => y.cps.toList) = some k := h
      rw [e] at h'
      cases h'
      exact ⟨a, y, rfl, e, rfl⟩
  | _ => cases h
/-- a tuple of a text and two numbers -/
structure T3 (h : Heap) (a : Addr) (y : Str) (m k : Int) : Prop where
  ex : ∃ (o : Obj) (n : Nat) (t t1 t2 : Tok), h.get? a = some o ∧ o.cls = .type "tuple" ∧ o.data = .seq #[.str y t, .int m t1, .int k t2] n
section
variable {prog : Program} {w : World} {A : Around} {E : Value → Shared → Prop} {s : Shared}
theorem lts_tup {nm : Addr → Option Str} (inj : ∀ a b y, nm a = some y → nm b = some y → a = b) (tup : ∀ a y, nm a = some y → ∃ m k, T3 s.heap a y m k) : LtS prog w A E s (tupKind nm) (tuples' true) := by
  intro st x y Q hk hx hy h
  obtain ⟨ka, ha⟩ := hx
  obtain ⟨kb, hb⟩ := hy
  have e1 : kk (tupKind nm) x = ka := by unfold kk; rw [ha]; rfl
  have e2 : kk (tupKind nm) y = kb := by unfold kk; rw [hb]; rfl
  rw [e1, e2] at h
  obtain ⟨a, na, xa, ea, rfl⟩ := tup_key ha
  obtain ⟨b, nb, xb, eb, rfl⟩ := tup_key hb
  obtain ⟨m1, k1, o1, n1, t1, t2, t3, g1, c1, d1⟩ := tup a na ea
  obtain ⟨m2, k2, o2, n2, u1, u2, u3, g2, c2, d2⟩ := tup b nb eb
  rw [lt'_eq]
  refine wpS_bind (wpS_get ?_)
  rw [hk, xa, xb]
  refine wpS_bind (wpS_lift (wpAny_attempt (PySem.W.kat_lt (b := true) g1 d1 g2 d2 ?_)))
  by_cases hab : a = b
  · subst hab
    rw [g1] at g2
    cases g2
    rw [d1] at d2
    cases d2
    refine PySem.W.kat_cons (SeqAt.EqAt.same _ _ _ _ _ (PySem.W.kat_yes ?_))
    refine PySem.W.kat_cons (SeqAt.EqAt.same _ _ _ _ _ (PySem.W.kat_yes ?_))
    refine PySem.W.kat_cons (SeqAt.EqAt.same _ _ _ _ _ (PySem.W.kat_yes ?_))
    refine PySem.W.kat_nil ⟨rfl, ?_⟩
    rw [ea] at eb
    cases eb
    have z : (tupKind nm).blt na.cps.toList na.cps.toList = false := (tupKind nm).irrefl _
    rw [z] at h
    exact wpS_pure h
  · have ne : na ≠ nb := fun z => hab (inj a b na ea (z ▸ eb))
    refine PySem.W.kat_cons ?_
    have q := SeqAt.EqAt.str_str (A := A) (s := s) na t1 nb u1
    rw [show (na == nb) = false from beq_eq_false_iff_ne.mpr ne] at q
    refine q _ _ _ _ (PySem.W.kat_no ?_)
    refine strKind_oneLt prog w A _ s (.str na t1) (.str nb u1) na.cps.toList nb.cps.toList rfl rfl ⟨rfl, ?_⟩
    exact wpS_pure h
theorem kat_tups {h : Heap} : ∀ {vs : List Value}, (∀ v ∈ vs, ∃ x y m k, v = .ref x ∧ T3 h x y m k) → ∃ fs : List Value, PySem.W.KatTups h vs fs ∧ fs.length = vs.length ∧ ∀ f ∈ fs, ∃ y t, f = .str y t
  | [], _ => ⟨[], trivial, rfl, by simp⟩
  | v :: vs, hv => by
    obtain ⟨fs, k1, k2, k3⟩ := kat_tups (vs := vs) fun u hu => hv u (List.mem_cons_of_mem _ hu)
    obtain ⟨x, y, m, k, rfl, o, n, t, t1, t2, g, c, d⟩ := hv v (by simp)
    refine ⟨.str y t :: fs, ⟨⟨x, o, _, n, rfl, g, c, d, rfl⟩, k1⟩, by simp [k2], fun f hf => ?_⟩
    rcases List.mem_cons.mp hf with e | e
    · exact ⟨y, t, e⟩
    · exact k3 f e
theorem looks_str (M : Model) (h : Heap) (y : Str) (t : Tok) : PySem.W.Looks M h (typeOf (.str y t)) (.type "str") := PySem.W.Looks.of_pure rfl
theorem sort_tup {a : Addr} {vs : List Value} {n : Nat} {P : Fin → Shared → Prop} {nm : Addr → Option Str} (ho : s.heap.get? a = some (seqObj "list" vs.toArray n)) (inj : ∀ a b y, nm a = some y → nm b = some y → a = b)
    (keys : ∀ v ∈ vs, ∃ x y, v = .ref x ∧ nm x = some y) (tup : ∀ x y, nm x = some y → ∃ m k, T3 s.heap x y m k) (nd : vs.Nodup) (hz : vs.length ≤ sizeLine) (h64 : vs.length < 64)
    (h : ∀ st' : SortSt, (arrOf st').toList.Perm (pairsOf vs).toList → (arrOf st').toList.Pairwise (Lq (tupKind nm)) → P (.done (.ret .none)) { s with heap := sortedHeap s.heap a vs ((arrOf st').map (·.2)) }) :
    wpAny (model prog w) A (Builtin.«list.sort» ⟨[.ref a], []⟩) P E s := by
  rw [list_sort_plain]
  have ha : a < s.heap.objs.size := Heap.lt_size ho
  refine wpAny_bind (listItems_at ho rfl ?_)
  refine wpAny_bind (listUpdate_at ho rfl ?_)
  obtain ⟨e1, ho1⟩ : ∃ e1, (s.heap.update a (Obj.mapSeq fun _ => #[])).get? a = some (seqObj "list" #[] e1) := ⟨_, get?_update_seq ho (fun _ => #[])⟩
  refine wpAny_bind (seqEpoch_at ho1 rfl (wpAny_bind (wpAny_newTuple (wpAny_bind (wpAny_newList (wpAny_holding ?_))))))
  have ho6 : (((s.heap.update a (Obj.mapSeq fun _ => #[])).push (seqObj "tuple" vs.toArray 0)).push (seqObj "list" #[] 0)).get? a = some (seqObj "list" #[] e1) := by
    rw [Heap.get?_push_ne _ _ _ (by rw [size_push', Heap.size_update]; exact Nat.ne_of_lt (Nat.lt_succ_of_lt ha)), Heap.get?_push_ne _ _ _ (by rw [Heap.size_update]; exact Nat.ne_of_lt ha)]
    exact ho1
  have old : ∀ {b : Addr} {o : Obj}, b ≠ a → s.heap.get? b = some o → (((s.heap.update a (Obj.mapSeq fun _ => #[])).push (seqObj "tuple" vs.toArray 0)).push (seqObj "list" #[] 0)).get? b = some o := fun {b o} hb e => by
    have bl := Heap.lt_size e
    rw [Heap.get?_push_ne _ _ _ (by rw [size_push', Heap.size_update]; exact Nat.ne_of_lt (Nat.lt_succ_of_lt bl)), Heap.get?_push_ne _ _ _ (by rw [Heap.size_update]; exact Nat.ne_of_lt bl), Heap.get?_update_other _ _ (Ne.symm hb)]
    exact e
  show wpAny (model prog w) A _ P E { s with heap := ((s.heap.update a (Obj.mapSeq fun _ => #[])).push (seqObj "tuple" vs.toArray 0)).push (seqObj "list" #[] 0) }
  dsimp only
  have tna : ∀ {x : Addr} {y : Str} {m k : Int}, T3 s.heap x y m k → x ≠ a := fun {x y m k} t z => by
    obtain ⟨o, n', t1, t2, t3, g, c, d⟩ := t.ex
    rw [z, ho] at g
    cases g
    have c' : ("list" : String) = "tuple" := by injection c
    exact absurd c' (by decide)
  have fin : ∀ st' : SortSt, (arrOf st').toList.Perm (pairsOf vs).toList → failedOf st' = none → (arrOf st').toList.Pairwise (Lq (tupKind nm)) → P (.done (.ret .none)) { s with heap := sortedHeap s.heap a vs ((arrOf st').map (·.2)) } ∧ ((arrOf st').map (·.2)).size ≤ sizeLine + 1 := fun st' hp hf hs => by
    refine ⟨h st' hp hs, ?_⟩
    have := hp.length_eq
    rw [Array.size_map]
    have e : (pairsOf vs).toList.length = vs.length := by rw [pairsOf_toList]; simp
    rw [e, Array.length_toList] at this
    omega
  by_cases h2 : vs.toArray.size < 2
  · rw [if_pos h2, if_pos h2]
    refine wpAny_bind (wpAny_pure ?_)
    have st0 := fin (SortSt.mk' general' (vs.toArray.zip vs.toArray) #[] 7 none) (List.Perm.refl _) rfl (by
      have : (pairsOf vs).toList.length < 2 := by rw [pairsOf_toList]; simp at h2 ⊢; exact h2
      match e : (pairsOf vs).toList, this with
      | [], _ => exact List.Pairwise.nil
      | [x], _ => exact List.pairwise_singleton _ _
      | _ :: _ :: _, l => simp at l; omega)
    refine wpAny_bind (wpAny_pure ?_)
    dsimp only
    refine wpAny_bind (seqEpoch_at ho6 rfl ?_)
    refine wpAny_bind (listUpdate_at ho6 rfl ?_ (hsz2 := st0.2))
    simp only [bne_self_eq_false, Bool.false_eq_true, if_false]
    exact wpAny_pure st0.1
  · rw [if_neg h2, if_neg h2]
    have tup6 : ∀ x y, nm x = some y → ∃ m k, T3 (((s.heap.update a (Obj.mapSeq fun _ => #[])).push (seqObj "tuple" vs.toArray 0)).push (seqObj "list" #[] 0)) x y m k := fun x y hx => by
      obtain ⟨m, k, t⟩ := tup x y hx
      have na := tna t
      obtain ⟨o, n', t1, t2, t3, g, c, d⟩ := t.ex
      exact ⟨m, k, o, n', t1, t2, t3, old na g, c, d⟩
    obtain ⟨fs, kt, kl, kf⟩ := kat_tups (h := ((s.heap.update a (Obj.mapSeq fun _ => #[])).push (seqObj "tuple" vs.toArray 0)).push (seqObj "list" #[] 0)) (vs := vs) fun v hv => by
      obtain ⟨x, y, rfl, hx⟩ := keys v hv
      obtain ⟨m, k, t⟩ := tup6 x y hx
      exact ⟨x, y, m, k, rfl, t⟩
    have l2 : 2 ≤ vs.length := by simpa using h2
    refine wpAny_bind (PySem.W.kat_kind (T := .type "str") kt (by omega) (fun v hv => by obtain ⟨y, t, rfl⟩ := kf v hv; exact looks_str _ _ _ _) rfl ?_)
    refine wpAny_bind (wpAny_mono (wpS_short (κ := tupKind nm) (kd := tuples' true) (lts_tup inj tup6) (a0 := (pairsOf vs).toList) (st := SortSt.mk' (tuples' true) (vs.toArray.zip vs.toArray) #[] 7 none)
      (Q := fun _ st' => (arrOf st').toList.Perm (pairsOf vs).toList ∧ failedOf st' = none ∧ (arrOf st').toList.Pairwise (Lq (tupKind nm)))
      rfl rfl rfl rfl (fun x hx => ?_) (by rw [pairsOf_toList]; simpa using h64) fun st' pr fl sr => ⟨pr, fl, sr⟩) ?_ fun _ _ e => e)
    · rw [pairsOf_toList] at hx
      have hm : x.1 ∈ vs := (List.of_mem_zip hx).1
      obtain ⟨z, y, e, hy⟩ := keys _ hm
      refine ⟨y.cps.toList, ?_⟩
      rw [e]
      show ((nm z).map fun y => y.cps.toList) = _
      rw [hy]
      rfl
    rintro ⟨⟨⟩, st'⟩ s' ⟨rfl, hp, hf, hs⟩
    have f := fin st' hp hf hs
    dsimp only
    refine wpAny_bind (seqEpoch_at ho6 rfl ?_)
    refine wpAny_bind (listUpdate_at ho6 rfl ?_ (hsz2 := f.2))
    rw [hf]
    simp only [bne_self_eq_false, Bool.false_eq_true, if_false]
    exact wpAny_pure f.1
end
end L2
set_option Elab.async false
set_option linter.all false
set_option maxRecDepth 100000
namespace L2
open PySem PySem.Spec PyProof.Rows XH Sw So
theorem refs_of : ∀ {as : List Addr} {us : List Value}, Vals (as.map V.ref) us → us = as.map Value.ref
  | [], _, h => by cases h; rfl
  | a :: as, _, h => by
    cases h with
    | cons r rr =>
      have e := refs_of rr
      subst e
      cases r
      rfl
theorem vals_refs : ∀ (as : List Addr), Vals (as.map V.ref) (as.map Value.ref)
  | [] => .nil
  | _ :: as => .cons rfl (vals_refs as)
theorem vals3 {x y z : V} {us : List Value} (h : Vals [x, y, z] us) : ∃ a b c, us = [a, b, c] ∧ RelV x a ∧ RelV y b ∧ RelV z c := by
  cases h with
  | cons r1 h =>
    cases h with
    | cons r2 h =>
      cases h with
      | cons r3 h =>
        cases h
        exact ⟨_, _, _, rfl, r1, r2, r3⟩
theorem perm_pull {α β : Type} {g : α → β} {k : β → α} (hk : ∀ a, k (g a) = a) {l : List β} {as : List α} (h : l.Perm (as.map g)) : ∃ bs : List α, bs.Perm as ∧ l = bs.map g := by
  refine ⟨l.map k, ?_, ?_⟩
  · have := h.map k
    rw [List.map_map] at this
    have e : as.map (k ∘ g) = as := by
      conv => rhs; rw [← List.map_id as]
      exact List.map_congr_left fun a _ => hk a
    rw [e] at this
    exact this
  · rw [List.map_map]
    conv => lhs; rw [← List.map_id l]
    refine List.map_congr_left fun x hx => ?_
    obtain ⟨a, _, rfl⟩ := List.mem_map.mp (h.mem_iff.mp hx)
    show g a = g (k (g a))
    rw [hk]
theorem zip_self {α β : Type} (g : α → β) : ∀ as : List α, (as.map g).zip (as.map g) = as.map fun a => (g a, g a)
  | [] => rfl
  | a :: as => by
    have := zip_self g as
    simp [this]
/-- a list, collected into one that is laid anew -/
theorem collect_lst {prog : Program} {w : World} {A : Around} {E : Value → Shared → Prop} {s : Shared} {r : Addr} {its : List Value} {n : Nat} {R : List Value → Shared → Prop} (hr : s.heap.get? r = some (seqObj "list" its.toArray n)) (hn : its.length ≤ sizeLine)
    (h : ∀ h' : Heap, s.heap.objs.size < h'.objs.size → (∀ b o, s.heap.get? b = some o → h'.get? b = some o) → R its { s with heap := h' }) : wpAny (model prog w) A (collect (.ref r)) R E s := by
  unfold collect
  refine wpAny_bind (wpAny_runValue (codeAny_builtin entry_proto_collect' ?_))
  rw [Around.under_plainId PySem.F.plain_proto_collect _]
  show wpAny _ A.in1 (newList [] >>= fun l => again (.builtin "list.__iadd__" ⟨[l, .ref r], []⟩)) _ _ s
  refine wpAny_bind (wpAny_newObj_type (wpAny_pure ⟨plainId_quiet PySem.F.plain_list_iadd _, codeAny_builtin entry_list_iadd' ?_⟩))
  rw [Around.under_plainId PySem.F.plain_list_iadd _]
  have fresh : (s.heap.push { cls := .type "list", data := .seq ([] : List Value).toArray }).get? s.heap.objs.size = some { cls := .type "list", data := .seq #[] } := Heap.get?_push_size _ rfl
  show wpAny _ A.in1 (Builtin.List.listExtendWith (.ref s.heap.objs.size) (.ref r) (.ref s.heap.objs.size)) _ _ _
  have key := wpAny_extend_seq (A := A) (s := { s with heap := s.heap.push { cls := .type "list", data := .seq ([] : List Value).toArray } }) (prog := prog) (w := w)
    (R := fun (q : Result) (s' : Shared) => q = .ok (.ret (.ref s.heap.objs.size)) ∧ s' = { s with heap := (s.heap.push { cls := .type "list", data := .seq ([] : List Value).toArray }).update s.heap.objs.size (Obj.mapSeq (· ++ its.toArray)) })
    s.heap.objs.size r (.ref s.heap.objs.size) 0 (.inl rfl) fresh (Heap.get?_push_of_some _ hr) rfl rfl ⟨rfl, rfl⟩ (by simpa using hn)
  have at_ := Heap.get?_update_self (Obj.mapSeq (· ++ its.toArray)) fresh rfl
  have fin : R its { s with heap := (s.heap.push { cls := .type "list", data := .seq ([] : List Value).toArray }).update s.heap.objs.size (Obj.mapSeq (· ++ its.toArray)) } := by
    refine h _ (by rw [Heap.size_update, Heap.size_push]; exact Nat.lt_succ_self _) fun b o e => ?_
    exact (Heap.get?_update_other _ _ (Nat.ne_of_gt (Heap.lt_size e))).trans (Heap.get?_push_of_some _ e)
  have ei : ((#[] : Array Value) ++ its.toArray).toList = its := by simp
  have fin' : R ((#[] : Array Value) ++ its.toArray).toList { s with heap := (s.heap.push { cls := .type "list", data := .seq ([] : List Value).toArray }).update s.heap.objs.size (Obj.mapSeq (· ++ its.toArray)) } := by rw [ei]; exact fin
  refine wpAny_mono key (fun f s' x => ?_) fun e s' x => ?_
  · cases f with
    | done f =>
      obtain ⟨e, rfl⟩ := x
      cases e
      show wpAny _ A (load s.heap.objs.size >>= _) _ _ _
      exact wpAny_bind (wpAny_load at_ (wpAny_pure fin'))
    | again c₁ =>
      refine ⟨x.1, codeAny_mono x.2 fun q s₂ y => ?_⟩
      obtain ⟨rfl, rfl⟩ := y
      show wpAny _ A (load s.heap.objs.size >>= _) _ _ _
      exact wpAny_bind (wpAny_load at_ (wpAny_pure fin'))
  · exact absurd x.1 (by simp)
/-- sorted(l): tuples of a text and two numbers, the texts unlike -/
theorem call_sortT {X : Cx} : CallR X (.builtin "sorted") (fun xs H Q => ∃ (l : Addr) (as : List Addr) (f : Addr → Str), xs = [.ref l] ∧ H l = some (.lst (as.map V.ref)) ∧ (∀ a ∈ as, ∃ m k : Int, H a = some (.tup [.str (f a), .int m, .int k])) ∧ (as.map f).Nodup ∧ as.length < 64 ∧
    ∀ (p : Addr) (bs : List Addr), H p = none → bs.Perm as → sortedS (bs.map f) = true → Q (.ref p) (upd H p (.lst (bs.map V.ref)))) := by
  intro pins s σ H xs us Q I r h
  obtain ⟨l, as, f, rfl, hl, ht, nd, h64, q⟩ := h
  obtain ⟨u, rfl, ru⟩ := vals1 r
  cases ru
  obtain ⟨z, its, n, rv, hlen, hg⟩ := I.lstM hl
  have ei := refs_of rv
  subst ei
  have z' : as.length ≤ sizeLine := by simpa using z
  refine Calls.call_function_entry kind_sorted plain_sorted entry_sorted (args_sorted1 _) ?_
  unfold Builtin.«sorted»
  refine wpAny_bind (m := checkCount "sorted" 1 1 _) (wpAny_pure ?_)
  refine wpAny_bind (collect_lst hg (by simpa using z') fun h' hlt hk => ?_)
  refine wpAny_bind (wpAny_newList ?_ (by simpa using z'))
  have hoL : (h'.push (seqObj "list" (as.map Value.ref).toArray 0)).get? h'.objs.size = some (seqObj "list" (as.map Value.ref).toArray 0) := Heap.get?_push_size _ rfl
  have injf : ∀ a ∈ as, ∀ b ∈ as, f a = f b → a = b := fun a ha b hb e => by
    obtain ⟨i, hi⟩ := List.mem_iff_getElem?.mp ha
    obtain ⟨j, hj⟩ := List.mem_iff_getElem?.mp hb
    have il := (List.getElem?_eq_some_iff.mp hi).1
    have jl := (List.getElem?_eq_some_iff.mp hj).1
    have e1 : (as.map f)[i]? = some (f a) := by rw [List.getElem?_map, hi]; rfl
    have e2 : (as.map f)[j]? = some (f a) := by rw [List.getElem?_map, hj, e]; rfl
    have ij := (List.getElem?_inj (by rw [List.length_map]; exact il) nd).mp (e1.trans e2.symm)
    rw [ij, hj] at hi
    exact (Option.some.inj hi).symm
  have nda : as.Nodup := (List.pairwise_map.mp nd).imp fun h e => h (by rw [e])
  have ndv : (as.map Value.ref).Nodup := List.pairwise_map.mpr (nda.imp fun h e => h (by injection e))
  let nm : Addr → Option Str := fun a => if a ∈ as then some (f a) else none
  have nm_of : ∀ {a : Addr} {y : Str}, nm a = some y → a ∈ as ∧ f a = y := fun {a y} e => by
    by_cases m : a ∈ as
    · have e' : (if a ∈ as then some (f a) else none) = some y := e
      rw [if_pos m] at e'
      exact ⟨m, Option.some.inj e'⟩
    · have e' : (if a ∈ as then some (f a) else none) = some y := e
      rw [if_neg m] at e'
      cases e'
  have nm_in : ∀ {a : Addr}, a ∈ as → nm a = some (f a) := fun {a} m => by
    show (if a ∈ as then some (f a) else none) = _
    rw [if_pos m]
  have inj : ∀ a b y, nm a = some y → nm b = some y → a = b := fun a b y h1 h2 => injf a (nm_of h1).1 b (nm_of h2).1 ((nm_of h1).2.trans (nm_of h2).2.symm)
  have tup : ∀ x y, nm x = some y → ∃ m k, T3 (h'.push (seqObj "list" (as.map Value.ref).toArray 0)) x y m k := fun x y hx => by
    obtain ⟨m, k, e⟩ := ht x (nm_of hx).1
    rw [(nm_of hx).2] at e
    obtain ⟨its, rv, ⟨o, e1, c1, n1, d1⟩, _⟩ := I.tuple (SqT.of e)
    obtain ⟨a1, a2, a3, rfl, ⟨t1, rfl⟩, ⟨t2, rfl⟩, ⟨t3, rfl⟩⟩ := vals3 rv
    exact ⟨m, k, o, n1, t1, t2, t3, Heap.get?_push_of_some _ (hk _ _ e1), c1, d1⟩
  refine wpAny_bind (wpAny_holding (wpAny_call_entry slot_list_sort ⟨_, hoL, rfl⟩ entry_list_sort (sort_tup (nm := nm) hoL inj (fun v hv => ?_) tup ndv (by simpa using z') (by simpa using h64) fun st' hp hs => ⟨_, rfl, ?_⟩) (args_list_sort _)))
  · obtain ⟨a, ha, rfl⟩ := List.mem_map.mp hv
    exact ⟨a, f a, rfl, nm_in ha⟩
  have ez : (pairsOf (as.map Value.ref)).toList = as.map (fun a => ((.ref a : Value), (.ref a : Value))) := by
    rw [pairsOf_toList]
    exact zip_self Value.ref as
  rw [ez] at hp
  obtain ⟨bs, hb, eb⟩ := perm_pull (k := fun p : Keyed => match p.1 with | .ref a => a | _ => 0) (fun a => rfl) hp
  have so : sortedS (bs.map f) = true := by
    refine sortedS_of_pairwise _ (List.pairwise_map.mpr ?_)
    rw [eb, List.pairwise_map] at hs
    refine List.Pairwise.imp_of_mem (fun {a b} ha hb' hab => ?_) hs
    have ma := hb.mem_iff.mp ha
    have mb := hb.mem_iff.mp hb'
    have k1 : kk (tupKind nm) ((.ref a : Value), (.ref a : Value)) = (f a).cps.toList := by
      show (((nm a).map fun y => y.cps.toList).getD _) = _
      rw [nm_in ma]
      rfl
    have k2 : kk (tupKind nm) ((.ref b : Value), (.ref b : Value)) = (f b).cps.toList := by
      show (((nm b).map fun y => y.cps.toList).getD _) = _
      rw [nm_in mb]
      rfl
    have hab' : (tupKind nm).blt (kk (tupKind nm) ((.ref b : Value), (.ref b : Value))) (kk (tupKind nm) ((.ref a : Value), (.ref a : Value))) = false := hab
    rw [k1, k2] at hab'
    rw [ltCps_eq]
    exact hab'
  have eo : ((arrOf st').map (·.2)) = (bs.map Value.ref).toArray := by
    apply Array.toList_inj.mp
    rw [Array.toList_map, eb, List.map_map]
    simp
  have sl : s.heap.objs.size ≤ h'.objs.size := Nat.le_of_lt hlt
  refine wpAny_pure ⟨_, rfl, .ref h'.objs.size, _, I.laid (a := h'.objs.size) (o := .lst (bs.map V.ref)) (h' := sortedHeap (h'.push (seqObj "list" (as.map Value.ref).toArray 0)) h'.objs.size (as.map Value.ref) ((arrOf st').map (·.2))) (t' := s.toks) (fun b o eo => ?_) sl ?_, rfl, q _ bs (I.hok.fresh sl) hb so⟩
  · have eo' := hk b o eo
    have bl := Heap.lt_size eo'
    rw [sortedHeap_old (Nat.ne_of_lt bl) (by rw [size_push']; exact Nat.lt_succ_of_lt bl)]
    exact Heap.get?_push_of_some _ eo'
  · obtain ⟨e, he⟩ := sortedHeap_at (out := (arrOf st').map (·.2)) hoL
    refine ⟨by rw [List.length_map, hb.length_eq]; exact z', bs.map Value.ref, e, vals_refs bs, ?_⟩
    rw [← eo]
    exact he
end L2
set_option Elab.async false
set_option linter.all false
set_option maxRecDepth 100000
namespace Sw
open PySem L2 XH
/-! ### own classes: their defs as callers see them -/
structure DxM (P : Program) (w : World) (K : PySem.W.Frag) (mg : Str → Option Value) (base : Heap) (CX : CXT) (k : Nat) (f : Addr) (ps : List Str) (dvs : List V) (sp : Sp) where
  fd : FuncData
  ok : FnOk P w K mg base CX k f fd ps sp
  b : Binds K fd ps []
  bd : ∃ ds, Binds K fd ps ds ∧ Vals dvs ds
/-- o.m(..), the def at f, whatever the class -/
def tMethA (K : PySem.W.Frag) (m : Str) (f : Addr) (sp : Sp) (dvs : List V) (ta : TE) (t : TA) : TE := fun σ H Q => ta σ H fun x H1 => ∃ a C dx fs, x = .ref a ∧ H1 a = some (.ins C dx fs) ∧ Cls K C ∧ Meth K C m f ∧ fs.lookup m = none ∧
  t σ H1 fun vs H2 => sp (x :: (vs ++ dvs)) H2 Q E0
/-- the def m of the class, asked of the class itself -/
structure ClsM (K : PySem.W.Frag) (C : Addr) (m : Str) (f : Addr) : Prop where
  sp : PySem.W.specialIn K (.ref C) "__getattribute__" = some (some (.builtin "type.__getattribute__"))
  rd : PySem.W.readsIn K C (.type "type") = true
  fc : PySem.W.findCls K (.ref C) (.type "type") m = some (.val (.ref f))
  kp : PySem.W.keepIn K (.ref f) = true
section
variable {X : Cx} {k j : Nat} {f C : Addr} {ps : List Str} {sp : Sp} {dvs : List V} {x m : Str} {p pos apos : Pos} {e o : Expr} {es : List Expr} {ta tb : TE} {t : TA}
theorem pmake0 (M : Mk X.K C f) (D : DxM X.prog X.w X.K X.mg X.base CX0 k f ps dvs sp) (hr : Room j X.A) (hk : k + 1 ≤ j) (hg : Gl X x) (hm : X.mg x = some (.ref C)) (ha : PA X (e :: es) t) (hdb : (x == ("__debug__" : Str)) = false := by decide)
    (he : starEach (e :: es) X.env = (false, eval e X.env) :: starEach es X.env := by rfl) (hpl : (backTo pos (starEach es X.env)).any (·.1) = false := by rfl) : PE X (.Call (.Name x p) (e :: es) [] pos) (tMake C sp [] E0 t) :=
  pe_make M D.ok (hr.mono hk) hg hm D.b .nil pass0 ha hdb he hpl
theorem pmake0d (M : Mk X.K C f) (D : DxM X.prog X.w X.K X.mg X.base CX0 k f ps dvs sp) (hr : Room j X.A) (hk : k + 1 ≤ j) (hg : Gl X x) (hm : X.mg x = some (.ref C)) (ha : PA X (e :: es) t) (hdb : (x == ("__debug__" : Str)) = false := by decide)
    (he : starEach (e :: es) X.env = (false, eval e X.env) :: starEach es X.env := by rfl) (hpl : (backTo pos (starEach es X.env)).any (·.1) = false := by rfl) : PE X (.Call (.Name x p) (e :: es) [] pos) (tMake C sp dvs E0 t) := by
  obtain ⟨ds, hb, hv⟩ := D.bd
  exact pe_make M D.ok (hr.mono hk) hg hm hb hv pass0 ha hdb he hpl
theorem run_meth {pins : List (Addr × Obj)} {σ : St} {H1 : Hp} {s1 : Shared} {Q : VK} {a dx : Addr} {fs : List (Str × V)} {pl : Sem Bool} {ds : List Value} (F : FnOk X.prog X.w X.K X.mg X.base CX0 k f fd ps sp) (hr : Room k X.A) (hb : Binds X.K fd ps ds) (hd : Vals dvs ds) (ha : PA X (e :: es) t)
    (hst : starEach (e :: es) X.env = (false, eval e X.env) :: starEach es X.env) (hpl : (backTo pos (starEach es X.env)).any (·.1) = false)
    (I1 : Inv X pins σ H1 s1) (ea : H1 a = some (.ins C dx fs)) (c : Cls X.K C) (hm : Meth X.K C m f) (l : fs.lookup m = none) (q : t σ H1 fun vs H2 => sp (.ref a :: (vs ++ dvs)) H2 Q E0) :
    wpAny (model X.prog X.w) X.A (getMethod (.ref a) m pl) (fun fx s2 => wpAny (model X.prog X.w) X.A (callWith pos fx.1 fx.2 (backTo pos (starEach (e :: es) X.env)) (backToKw pos (keywordEach [] X.env))) (EP X pins σ Q) X.xe s2) X.xe s1 := by
  refine getmeth_ok I1 ea c hm l ?_
  refine PySem.W.callWith_K (first := [.ref a]) (h₀ := X.base) I1.ok.mod.kin hm.kp (thn (ha pos pins s1 σ H1 _ I1 q) fun us s2 ⟨vs, H2, I2, r, q2⟩ => ⟨I2.kIn, ?_⟩) hst hpl
  exact run_fn (us := .ref a :: us) (vs := .ref a :: vs) F hr hb hd pass0 I2 (.cons rfl r) q2
theorem pmeth0 {pl : Sem Bool} (he : PE X o ta) (D : DxM X.prog X.w X.K X.mg X.base CX0 k f ps dvs sp) (hr : Room j X.A) (hk : k ≤ j) (ha : PA X (e :: es) t)
    (hst : starEach (e :: es) X.env = (false, eval e X.env) :: starEach es X.env := by rfl) (hpl : (backTo pos (starEach es X.env)).any (·.1) = false := by rfl)
    (ht : eval (.Call (.Attribute o m apos) (e :: es) [] pos) X.env = (do
      let ov ← eval o X.env
      standAt apos.atName
      let (f, first) ← holding [ov] (getMethod ov m pl)
      callWith pos f first (backTo pos (starEach (e :: es) X.env)) (backToKw pos (keywordEach [] X.env))) := by rfl) :
    PE X (.Call (.Attribute o m apos) (e :: es) [] pos) (tMethA X.K m f sp [] ta t) := by
  intro pins s σ H Q I h
  refine PySem.W.methodCall_KW (pl := pl) (thn (he pins s σ H _ I h) fun u s1 ⟨x, H1, I1, rx, a, C, dx, fs, ex, ea, c, hm, l, q⟩ => ?_) ht
  subst ex
  obtain rfl : u = Value.ref a := rx
  exact run_meth D.ok (hr.mono hk) D.b .nil ha hst hpl I1 ea c hm l q
theorem pmethZ {pl : Sem Bool} (he : PE X o ta) (D : DxM X.prog X.w X.K X.mg X.base CX0 k f ps dvs sp) (hr : Room j X.A) (hk : k ≤ j)
    (ht : eval (.Call (.Attribute o m apos) [] [] pos) X.env = (do
      let ov ← eval o X.env
      standAt apos.atName
      let (f, first) ← holding [ov] (getMethod ov m pl)
      callWith pos f first (backTo pos (starEach [] X.env)) (backToKw pos (keywordEach [] X.env))) := by rfl) :
    PE X (.Call (.Attribute o m apos) [] [] pos) (tMethA X.K m f sp [] ta tNil) := by
  intro pins s σ H Q I h
  refine PySem.W.methodCall_KW (pl := pl) (thn (he pins s σ H _ I h) fun u s1 ⟨x, H1, I1, rx, a, C, dx, fs, ex, ea, c, hm, l, q⟩ => ?_) ht
  subst ex
  obtain rfl : u = Value.ref a := rx
  refine getmeth_ok I1 ea c hm l ?_
  exact PySem.W.callWith_K0 (first := [.ref a]) I1.kIn hm.kp (run_fn (us := [.ref a]) (vs := [.ref a]) D.ok (hr.mono hk) D.b .nil pass0 I1 (.cons rfl .nil) q)
/-- C.m(self, ..) -/
theorem pclsm {pl : Sem Bool} (M : ClsM X.K C m f) (D : DxM X.prog X.w X.K X.mg X.base CX0 k f ps dvs sp) (hr : Room j X.A) (hk : k ≤ j) (hg : Gl X x) (hm : X.mg x = some (.ref C)) (ha : PA X (e :: es) t) (hdb : (x == ("__debug__" : Str)) = false := by decide)
    (hst : starEach (e :: es) X.env = (false, eval e X.env) :: starEach es X.env := by rfl) (hpl : (backTo pos (starEach es X.env)).any (·.1) = false := by rfl)
    (ht : eval (.Call (.Attribute (.Name x p) m apos) (e :: es) [] pos) X.env = (do
      let ov ← eval (.Name x p) X.env
      standAt apos.atName
      let (f, first) ← holding [ov] (getMethod ov m pl)
      callWith pos f first (backTo pos (starEach (e :: es) X.env)) (backToKw pos (keywordEach [] X.env))) := by rfl) :
    PE X (.Call (.Attribute (.Name x p) m apos) (e :: es) [] pos) (tCall sp [] E0 t) := by
  intro pins s σ H Q I h
  refine PySem.W.methodCall_KW (pl := pl) (ld_glob I hg hm ?_ hdb) ht
  refine PySem.W.method_cls I.kIn M.sp (PySem.W.cls_value I.kIn M.rd M.fc rfl ?_)
  have I1 := I.tok (s.toks + 1)
  refine PySem.W.callWith_K (first := []) (h₀ := X.base) I.ok.mod.kin M.kp (thn (ha pos pins _ σ H _ I1 h) fun us s2 ⟨vs, H2, I2, r, q2⟩ => ⟨I2.kIn, ?_⟩) hst hpl
  exact run_fn D.ok (hr.mono hk) D.b .nil pass0 I2 r q2
/-- one of two readings -/
theorem pe_either {e : Expr} (h1 : PE X e ta) (h2 : PE X e tb) : PE X e (fun σ H Q => ta σ H Q ∨ tb σ H Q) := fun pins s σ H Q I h => h.elim (h1 pins s σ H Q I) (h2 pins s σ H Q I)
end
end Sw
set_option Elab.async false
set_option linter.all false
set_option maxRecDepth 100000
namespace Sw
open PySem L2 XH
/-! ### steps: their fields -/
def stepF (nm l m u s : V) : List (Str × V) := putF "second" s (putF "uses" u (putF "most" m (putF "least" l (putF "name" nm []))))
def warmF (nm l m u s f : V) : List (Str × V) := putF "fill" f (stepF nm l m u s)
theorem stepF_no {nm l m u s : V} {g : Str} (h : g ≠ "second" ∧ g ≠ "uses" ∧ g ≠ "most" ∧ g ≠ "least" ∧ g ≠ "name") : (stepF nm l m u s).lookup g = none := by
  unfold stepF
  rw [lookup_putF, if_neg h.1, lookup_putF, if_neg h.2.1, lookup_putF, if_neg h.2.2.1, lookup_putF, if_neg h.2.2.2.1, lookup_putF, if_neg h.2.2.2.2]
  rfl
theorem stepF_len {nm l m u s : V} : (stepF nm l m u s).length ≤ 5 := by
  unfold stepF
  have h1 := length_putF "name" nm []
  have h2 := length_putF "least" l (putF "name" nm [])
  have h3 := length_putF "most" m (putF "least" l (putF "name" nm []))
  have h4 := length_putF "uses" u (putF "most" m (putF "least" l (putF "name" nm [])))
  have h5 := length_putF "second" s (putF "uses" u (putF "most" m (putF "least" l (putF "name" nm []))))
  simp at h1
  omega
/-- all but a stays -/
def Kept (H H' : Hp) (a : Addr) : Prop := ∀ b o, H b = some o → b ≠ a → H' b = some o
theorem Kept.refl (H : Hp) (a : Addr) : Kept H H a := fun _ _ h _ => h
theorem Kept.put {H H' : Hp} {a : Addr} (k : Kept H H' a) (o : HO) : Kept H (upd H' a o) a := fun b u h n => by rw [upd_ne n]; exact k b u h n
theorem Kept.new {H H' : Hp} {a p : Addr} (k : Kept H H' a) (hp : H' p = none) (o : HO) : Kept H (upd H' p o) a := fun b u h n => by
  have e := k b u h n
  rw [upd_ne (ne_of_none e hp)]
  exact e
theorem made_same {H H' : Hp} {x dx C : Addr} (nx : H x = none) (nd : H dx = none) (k : Kept (upd (upd H dx (.own x)) x (.ins C dx [])) H' x) : Same H H' := fun b o h => by
  have n1 := ne_of_none h nx
  exact k b o (by rw [upd_ne n1, upd_ne (ne_of_none h nd)]; exact h) n1
structure StepC (K : PySem.W.Frag) (C : Addr) : Prop where
  cl : Cls K C
  name : NoAttr K C "name"
  least : NoAttr K C "least"
  most : NoAttr K C "most"
  uses : NoAttr K C "uses"
  second : NoAttr K C "second"
/-! ### rounds -/
def spDivP : Sp := fun vs H Q _ => ∃ a b : Int, vs = [.int a, .int b] ∧ 0 ≤ a ∧ 0 ≤ b ∧ Q (.int (gcdI a b)) H
end Sw
set_option Elab.async false
set_option linter.all false
set_option maxRecDepth 100000
namespace Sw
open PySem L2 XH PyProof.Rows
/-! ### steps with their uses and second ways -/
structure StF (fs : List (Str × V)) (nm l m u s : V) : Prop where
  name : fs.lookup ("name" : Str) = some nm
  least : fs.lookup ("least" : Str) = some l
  most : fs.lookup ("most" : Str) = some m
  uses : fs.lookup ("uses" : Str) = some u
  second : fs.lookup ("second" : Str) = some s
  word : fs.lookup ("word" : Str) = none
  span : fs.lookup ("span" : Str) = none
  grown : fs.lookup ("grown" : Str) = none
  way : fs.lookup ("grown_way" : Str) = none
theorem stepF_st {nm l m u s : V} : StF (stepF nm l m u s) nm l m u s := by
  constructor
  all_goals
    first
      | exact stepF_no (by decide +kernel)
      | (unfold stepF; simp only [lookup_putF]; (repeat rw [if_neg (by decide +kernel)]); simp)
theorem warmF_st {nm l m u s f : V} : StF (warmF nm l m u s f) nm l m u s := by
  have h := stepF_st (nm := nm) (l := l) (m := m) (u := u) (s := s)
  have k : ∀ {g : Str}, g ≠ "fill" → (warmF nm l m u s f).lookup g = (stepF nm l m u s).lookup g := fun {g} hg => by
    unfold warmF
    rw [lookup_putF, if_neg hg]
  exact ⟨(k (by decide +kernel)).trans h.name, (k (by decide +kernel)).trans h.least, (k (by decide +kernel)).trans h.most, (k (by decide +kernel)).trans h.uses, (k (by decide +kernel)).trans h.second, (k (by decide +kernel)).trans h.word, (k (by decide +kernel)).trans h.span, (k (by decide +kernel)).trans h.grown, (k (by decide +kernel)).trans h.way⟩
abbrev Sec := Option (Int × Int × List Addr)
/-- a second way, or None -/
def SecAt (H : Hp) (s : V) : Sec → Prop
  | none => s = .non
  | some (x, y, vs) => ∃ t l2, s = .ref t ∧ H t = some (.tup [.int x, .int y, .ref l2]) ∧ H l2 = some (.lst (vs.map V.ref))
/-- one that is not in H0 -/
def SecN (H0 H : Hp) (s : V) : Sec → Prop
  | none => s = .non
  | some (x, y, vs) => ∃ t l2, s = .ref t ∧ H t = some (.tup [.int x, .int y, .ref l2]) ∧ H l2 = some (.lst (vs.map V.ref)) ∧ H0 t = none ∧ H0 l2 = none
theorem SecAt.same {H H' : Hp} (g : Same H H') {s : V} : ∀ {c : Sec}, SecAt H s c → SecAt H' s c
  | none, h => h
  | some (_, _, _), ⟨t, l2, h1, h2, h3⟩ => ⟨t, l2, h1, g _ _ h2, g _ _ h3⟩
theorem SecN.same {H0 H H' : Hp} (g : Same H H') {s : V} : ∀ {c : Sec}, SecN H0 H s c → SecN H0 H' s c
  | none, h => h
  | some (_, _, _), ⟨t, l2, h1, h2, h3, h4⟩ => ⟨t, l2, h1, g _ _ h2, g _ _ h3, h4⟩
theorem SecN.put {H0 H : Hp} {b : Addr} {o q : HO} (hb : H0 b = some q) {s : V} : ∀ {c : Sec}, SecN H0 H s c → SecN H0 (upd H b o) s c
  | none, h => h
  | some (_, _, _), ⟨t, l2, h1, h2, h3, h4, h5⟩ => ⟨t, l2, h1, by rw [upd_ne (fun z => by rw [z, hb] at h4; cases h4)]; exact h2, by rw [upd_ne (fun z => by rw [z, hb] at h5; cases h5)]; exact h3, h4, h5⟩
theorem SecN.at_ {H0 H : Hp} {s : V} : ∀ {c : Sec}, SecN H0 H s c → SecAt H s c
  | none, h => h
  | some (_, _, _), ⟨t, l2, h1, h2, h3, _⟩ => ⟨t, l2, h1, h2, h3⟩
/-- what is handed in for the uses -/
def UseAt (H : Hp) (u : V) (us : List Addr) : Prop := (u = .non ∧ us = []) ∨ ∃ l, u = .ref l ∧ H l = some (.lst (us.map V.ref))
def spInit2 (K : PySem.W.Frag) : Sp := fun vs H Q _ => ∃ (a C dx : Addr) (nm : Str) (l m : Int) (uv sv : V) (us : List Addr) (c : Sec), vs = [.ref a, .str nm, .int l, .int m, uv, sv] ∧ H a = some (.ins C dx []) ∧ StepC K C ∧ UseAt H uv us ∧ SecAt H sv c ∧
  ∀ (u : Addr) (s : V) (H' : Hp), Kept H H' a → u ≠ a → H u = none → H' u = some (.lst (us.map V.ref)) → SecN H H' s c → H' a = some (.ins C dx (stepF (.str nm) (.int l) (.int m) (.ref u) s)) → Q .non H'
def spWarm2 (K : PySem.W.Frag) : Sp := fun vs H Q _ => ∃ (a C dx : Addr) (nm : Str) (l m : Int) (fl uv sv : V) (us : List Addr) (c : Sec), vs = [.ref a, .str nm, .int l, .int m, fl, uv, sv] ∧ H a = some (.ins C dx []) ∧ StepC K C ∧ NoAttr K C "fill" ∧ UseAt H uv us ∧ SecAt H sv c ∧
  ∀ (u : Addr) (s : V) (H' : Hp), Kept H H' a → u ≠ a → H u = none → H' u = some (.lst (us.map V.ref)) → SecN H H' s c → H' a = some (.ins C dx (warmF (.str nm) (.int l) (.int m) (.ref u) s fl)) → Q .non H'
def spWord (w : Str) : Sp := fun vs H Q _ => ∃ x, vs = [x] ∧ Q (.str w) H
/-- a length by the factor p / q -/
structure Up (n l p q : Int) : Prop where
  lo : l * p ≤ n * q
  hi : (n - 1) * q < l * p
def Grw (cut : Bool) (l p q n : Int) : Prop := if cut = true then Up n l p q ∧ Bd 2000 n else n = l
def spSpan (K : PySem.W.Frag) (cut : Bool) : Sp := fun vs H Q _ => ∃ (x : V) (l m p q : Int) (tf : Addr), vs = [x, .int l, .int m, .ref tf] ∧ FrIn K 210 H tf p q ∧ Bd 210 l ∧ Bd 210 m ∧
  ∀ (t : Addr) (H' : Hp) (n k : Int), Same H H' → H' t = some (.tup [.int n, .int k]) → Grw cut l p q n → Grw cut m p q k → Q (.ref t) H'
def spGrownLen (K : PySem.W.Frag) : Sp := fun vs H Q _ => ∃ (l p q : Int) (tf : Addr), vs = [.int l, .ref tf] ∧ FrIn K 210 H tf p q ∧ Bd 210 l ∧ ∀ (n : Int) (H' : Hp), Same H H' → Grw true l p q n → Q (.int n) H'
/-- what a step's class must have -/
structure StM (K : PySem.W.Frag) (C fg fw fs ft : Addr) (cut : Bool) : Prop where
  c : StepC K C
  grown : Meth K C "grown" fg
  way : Meth K C "grown_way" fw
  span : Meth K C "span" (if cut = true then ft else fs)
/-- a list of uses -/
structure UL (H : Hp) (us : List Addr) (f : Addr → Str) : Prop where
  tup : ∀ a ∈ us, ∃ m k : Int, H a = some (.tup [.str (f a), .int m, .int k])
  nd : (us.map f).Nodup
  sm : us.length < 64
theorem UL.same {H H' : Hp} {us : List Addr} {f : Addr → Str} (h : UL H us f) (g : Same H H') : UL H' us f := ⟨fun a ha => let ⟨m, k, e⟩ := h.tup a ha; ⟨m, k, g _ _ e⟩, h.nd, h.sm⟩
structure SortOf (us bs : List Addr) (f : Addr → Str) : Prop where
  perm : bs.Perm us
  srt : sortedS (bs.map f) = true
theorem SortOf.uniq {us bs cs : List Addr} {f : Addr → Str} (nd : (us.map f).Nodup) (h1 : SortOf us bs f) (h2 : SortOf us cs f) : bs = cs := by
  have e := So.sorted_uniq h1.srt h2.srt ((h1.perm.map f).trans (h2.perm.map f).symm)
  have inj : ∀ a ∈ us, ∀ b ∈ us, f a = f b → a = b := fun a ha b hb e => by
    obtain ⟨i, hi⟩ := List.mem_iff_getElem?.mp ha
    obtain ⟨j, hj⟩ := List.mem_iff_getElem?.mp hb
    have il := (List.getElem?_eq_some_iff.mp hi).1
    have e1 : (us.map f)[i]? = some (f a) := by rw [List.getElem?_map, hi]; rfl
    have e2 : (us.map f)[j]? = some (f a) := by rw [List.getElem?_map, hj, e]; rfl
    have ij := (List.getElem?_inj (by rw [List.length_map]; exact il) nd).mp (e1.trans e2.symm)
    rw [ij, hj] at hi
    exact (Option.some.inj hi).symm
  apply List.ext_getElem?
  intro i
  have ei : (bs.map f)[i]? = (cs.map f)[i]? := by rw [e]
  rw [List.getElem?_map, List.getElem?_map] at ei
  cases hb : bs[i]? with
  | none =>
    cases hc : cs[i]? with
    | none => rfl
    | some c => rw [hb, hc] at ei; cases ei
  | some b =>
    cases hc : cs[i]? with
    | none => rw [hb, hc] at ei; cases ei
    | some c =>
      rw [hb, hc] at ei
      have := inj b (h1.perm.mem_iff.mp (List.mem_of_getElem? hb)) c (h2.perm.mem_iff.mp (List.mem_of_getElem? hc)) (Option.some.inj ei)
      rw [this]
/-- a way that was told: its lengths, and a new list of its uses, sorted -/
structure WayAt (H0 H : Hp) (t : Addr) (cut : Bool) (l m p q : Int) (us : List Addr) (f : Addr → Str) : Prop where
  ex : ∃ (n k : Int) (ls : Addr) (bs : List Addr), H t = some (.tup [.int n, .int k, .ref ls]) ∧ H ls = some (.lst (bs.map V.ref)) ∧ Grw cut l p q n ∧ Grw cut m p q k ∧ SortOf us bs f ∧ H0 ls = none
theorem WayAt.same {H0 H H' : Hp} {t : Addr} {cut : Bool} {l m p q : Int} {us : List Addr} {f : Addr → Str} (h : WayAt H0 H t cut l m p q us f) (g : Same H H') : WayAt H0 H' t cut l m p q us f := by
  obtain ⟨n, k, ls, bs, e1, e2, r⟩ := h.ex
  exact ⟨n, k, ls, bs, g _ _ e1, g _ _ e2, r⟩
def spWayG (K : PySem.W.Frag) (fg fw fs ft : Addr) : Sp := fun vs H Q _ => ∃ (x C dx lu tf : Addr) (l m p q : Int) (us : List Addr) (f : Addr → Str) (ff : List (Str × V)) (cut : Bool), vs = [.ref x, .int l, .int m, .ref lu, .ref tf] ∧ H x = some (.ins C dx ff) ∧ ff.lookup ("span" : Str) = none ∧ StM K C fg fw fs ft cut ∧
  FrIn K 210 H tf p q ∧ Bd 210 l ∧ Bd 210 m ∧ H lu = some (.lst (us.map V.ref)) ∧ UL H us f ∧ ∀ (t : Addr) (H' : Hp), Same H H' → WayAt H H' t cut l m p q us f → Q (.ref t) H'
theorem up_of {l p q r s : Int} (F : Fr r s (l * p) (1 * q)) (hq : 0 < q) : Up (-((-r).fdiv s)) l p q := by
  have c := F.same
  rw [Int.one_mul] at c
  have ub := up_bounds (p := r) F.pos
  have sp := F.pos
  generalize -((-r).fdiv s) = n at ub ⊢
  refine ⟨Int.le_of_mul_le_mul_right (a := s) ?_ sp, Int.lt_of_mul_lt_mul_right (a := s) ?_ (Int.le_of_lt sp)⟩
  · rw [← c]
    have := Int.mul_le_mul_of_nonneg_right ub.1 (Int.le_of_lt hq)
    rw [show n * q * s = n * s * q by ac_rfl]
    exact this
  · rw [← c]
    have := Int.mul_lt_mul_of_pos_right ub.2 hq
    rw [show (n - 1) * q * s = (n - 1) * s * q by ac_rfl]
    exact this
theorem SecN.self {H0 H : Hp} {a C dx : Addr} {fs : List (Str × V)} {o : HO} {s : V} (ea : H a = some (.ins C dx fs)) : ∀ {c : Sec}, SecN H0 H s c → SecN H0 (upd H a o) s c
  | none, h => h
  | some (_, _, _), ⟨t, l2, h1, h2, h3, h4, h5⟩ => ⟨t, l2, h1, by rw [upd_ne (fun z => by rw [z, ea] at h2; cases h2)]; exact h2, by rw [upd_ne (fun z => by rw [z, ea] at h3; cases h3)]; exact h3, h4, h5⟩
end Sw
set_option Elab.async false
set_option linter.all false
set_option maxRecDepth 100000
namespace L2
open PySem PySem.Spec PyProof.Rows XH
section
variable {X : Cx}
theorem strs_are : ∀ {ws : List Str} {us : List Value}, Vals (ws.map V.str) us → StrsAre us ws
  | [], _, h => by cases h; exact .nil
  | w :: ws, _, h => by
    cases h with
    | cons r rr =>
      obtain ⟨t, rfl⟩ := r
      exact .cons _ _ (strs_are rr)
theorem mt_join : MtR X "str.join" (fun x vs H Q => ∃ z a ws, x = .str z ∧ vs = [.ref a] ∧ SqL X.K H a (ws.map V.str) ∧ z.length ≤ 16 ∧ (ws.map (fun x => x.length)).sum + ws.length ≤ 1048576 ∧ Q (.str (Txt.join z ws)) H) := by
  intro pins s σ H x vs v us Q I rx rv h
  obtain ⟨z, a, ws, rfl, rfl, hS, hz, hl, q⟩ := h
  obtain ⟨t, rfl⟩ := rx
  obtain ⟨u, rfl, ru⟩ := vals1 rv
  cases ru
  obtain ⟨its, r, p, _⟩ := I.list hS
  exact join_listW p.isList (by simpa using strs_are r) hz hl fun t' k => ⟨.str _, H, I.tok _, ⟨_, rfl⟩, q⟩
end
/-- a list walked in a comprehension whose element may lay new things -/
theorem comp_byL {K : PySem.W.Frag} {a : Addr} {xs : List V} {js : List Nat} {te : TE} {σ : L2.St} {H1 : Hp} {Q : VK} (P : V → V → Prop) (hS : SqL K H1 a xs) (hz : xs.length ≤ sizeLine)
    (step : ∀ x ∈ xs, ∀ H3, Same H1 H3 → ∀ Q' : VK, (∀ y H4, P x y → Same H3 H4 → Q' y H4) → te (some x :: freesOf js σ) H3 Q')
    (fin : ∀ (p : Addr) (ys : List V) (H' : Hp), H1 p = none → ys.length = xs.length → (∀ (i : Nat) (x y : V), xs[i]? = some x → ys[i]? = some y → P x y) → Same H1 H' → H' p = some (.lst ys) → Q (.ref p) H') : compR js te σ Q (Itl K a) H1 := by
  intro p hp
  refine ⟨fun i m ys H2 => i ≤ xs.length ∧ m = xs.length - i ∧ ys.length = i ∧ (∀ (i : Nat) (x y : V), xs[i]? = some x → ys[i]? = some y → P x y) ∧ Same H1 H2 ∧ H2 p = some (.lst ys), ⟨xs.length, Nat.zero_le _, rfl, rfl, fun j x y _ e => by simp at e, Sw.same_new hp _, upd_same⟩, ?_⟩
  rintro i m ys H2 ⟨hi, rfl, hl, hP, g, e⟩
  refine ⟨e, ?_⟩
  have S2 := g.seq hS
  by_cases hin : i < xs.length
  · refine .inr ⟨⟨xs, xs[i], S2, List.getElem?_eq_getElem hin⟩, by omega, fun x H3 hy => ?_⟩
    obtain ⟨rfl, hx⟩ := hy
    have ex := hx xs S2
    refine step x (List.mem_of_getElem? ex) H3 g _ fun y H4 py g4 => ⟨g4 _ _ e, xs.length - (i + 1), by omega, hin, rfl, by simp [hl], fun j x' y' e1 e2 => ?_, Sw.sUpd (g.trans g4) hp _, upd_same⟩
    by_cases hj : j < ys.length
    · rw [List.getElem?_append_left hj] at e2
      exact hP j x' y' e1 e2
    · have ej : j = i := by
        have := (List.getElem?_eq_some_iff.mp e2).1
        simp at this
        omega
      subst ej
      rw [List.getElem?_append_right (by omega), hl] at e2
      simp at e2
      subst e2
      rw [ex] at e1
      cases e1
      exact py
  · have e2 : i = xs.length := by omega
    subst e2
    exact .inl ⟨⟨xs, S2, Nat.le_refl _⟩, fin p ys H2 hp hl hP g e⟩
end L2
namespace Sw
open PySem L2 XH PySem.NumText
theorem join_len (sep : Str) (ws : List Str) : (Txt.join sep ws).length = (ws.map (fun x => x.length)).sum + (ws.length - 1) * sep.length := PySem.size_glued sep ws
/-! ### a row's words, sign by sign -/
def spStream : Sp := fun vs H Q _ => ∃ c m : Int, vs = [.int c, .int m] ∧ 0 ≤ m ∧ m ≤ 50 ∧ ∀ (l : Addr) (H' : Hp) (xs : List Int), Same H H' → H' l = some (.lst (xs.map V.int)) → (xs.length : Int) = m → (∀ x ∈ xs, 0 ≤ x ∧ x < 2 ^ 31) → Q (.ref l) H'
theorem cutV_one {xs : List V} (h : 1 ≤ xs.length) : cutV xs (some 1) none = xs.drop 1 := by
  have e1 : HT.sIx xs.length 0 (some 1) = 1 := by
    unfold HT.sIx
    simp
    omega
  have e2 : HT.sIx xs.length xs.length none = xs.length := rfl
  unfold cutV
  rw [e1, e2, List.take_of_length_le (by rw [List.length_drop]; omega)]
theorem ixKT {X : Cx} {K : PySem.W.Frag} (h : X.K = K) : IxR X (rIxL K) := by
  subst h
  exact ix_list
theorem dQt {v : V} {Q : V → Prop} (q : Q (.bl true)) : Q (.bl (decide (v = v))) := by rw [decide_eq_true rfl]; exact q
end Sw
set_option Elab.async false
set_option linter.all false
set_option maxRecDepth 100000
namespace L2
open PySem PySem.Spec PyProof.Rows XH Sw
/-- isinstance(x, C) of an own class -/
theorem call_isiC {X : Cx} {K : PySem.W.Frag} (hK : X.K = K) : CallR X (.builtin "isinstance") (fun xs H Q => ∃ x t D b, xs = [x, .ref D] ∧ TyOf K H x t ∧ PySem.W.kitOne K t (.ref D) = some b ∧ Q (.bl b) H) := by
  subst hK
  intro pins s σ H xs us Q I r h
  obtain ⟨x, t, D, b, rfl, ty, e, q⟩ := h
  cases r with
  | cons r1 rr =>
    cases rr with
    | cons r2 rr =>
      cases rr
      cases r2
      exact isinst_ok I r1 ty e fun tk => ⟨.bl b, H, I.tok _, rfl, q⟩
/-- a thing that is one with itself -/
def Sam : V → Prop := fun z => Smp z ∨ ∃ a, z = .ref a
theorem eqat_sam {A : Around} {s : Shared} {z : V} {u w : Value} (h : Sam z) (r1 : RelV z u) (r2 : RelV z w) : SeqAt.EqAt A s u w true := by
  rcases h with h | ⟨a, rfl⟩
  · exact eqat_smp h r1 r2
  · cases r1
    cases r2
    exact SeqAt.EqAt.same _
theorem vals_sam {A : Around} {s : Shared} : ∀ {zs : List V} {us ws : List Value}, (∀ z ∈ zs, Sam z) → Vals zs us → Vals zs ws → ∀ j (h1 : j < us.length) (h2 : j < ws.length), SeqAt.EqAt A s us[j] ws[j] true
  | _, _, _, _, .nil, .nil, j, h1, _ => absurd h1 (by simp)
  | _, _, _, hs, .cons r1 _, .cons r2 _, 0, _, _ => eqat_sam (hs _ (List.mem_cons_self)) r1 r2
  | _, _, _, hs, .cons _ t1, .cons _ t2, j + 1, h1, h2 => vals_sam (fun z hz => hs z (List.mem_cons_of_mem _ hz)) t1 t2 j (by simpa using h1) (by simpa using h2)
theorem sam_refs (as : List Addr) : ∀ z ∈ as.map V.ref, Sam z := fun z hz => by
  obtain ⟨a, _, rfl⟩ := List.mem_map.mp hz
  exact .inr ⟨a, rfl⟩
theorem op_neR {X : Cx} (hu : X.A.units < cLine) : OpR X (compareOp .NotEq) (fun x y H Q => ∃ (a b : Addr) (as : List Addr), x = .ref a ∧ y = .ref b ∧ SqL X.K H a (as.map V.ref) ∧ SqL X.K H b (as.map V.ref) ∧ Q (.bl false) H) := by
  intro pins s σ H x y v u Q I rx ry h
  obtain ⟨a, b, as, rfl, rfl, h1, h2, hq⟩ := h
  cases rx
  cases ry
  obtain ⟨i1, r1, p1, _⟩ := I.list h1
  obtain ⟨i2, r2, p2, _⟩ := I.list h2
  refine SeqAt.RcNeAt.lists (e := fun _ => true) p1.isList p2.isList (by simp [← r1.length, ← r2.length]) hu (fun j g1 g2 => ?_) _ _ _ _ ⟨.bl false, H, I, by show Value.bool _ = Value.bool _; simp, hq⟩
  exact vals_sam (A := X.A.in1) (s := s) (sam_refs as) r1 r2 j (by simpa using g1) (by simpa using g2)
/-- == of two second ways that are alike -/
theorem op_eqW {X : Cx} (hu : X.A.units + 1 < cLine) : OpR X (compareOp .Eq) (fun x y H Q => ∃ (a b l l' : Addr) (i j : Int) (as : List Addr), x = .ref a ∧ y = .ref b ∧ SqT X.K H a [.int i, .int j, .ref l] ∧ SqT X.K H b [.int i, .int j, .ref l'] ∧ SqL X.K H l (as.map V.ref) ∧ SqL X.K H l' (as.map V.ref) ∧ Q (.bl true) H) := by
  intro pins s σ H x y v u Q I rx ry h
  obtain ⟨a, b, l, l', i, j, as, rfl, rfl, h1, h2, h3, h4, hq⟩ := h
  cases rx
  cases ry
  obtain ⟨i1, r1, p1, _⟩ := I.tuple h1
  obtain ⟨i2, r2, p2, _⟩ := I.tuple h2
  obtain ⟨i3, r3, p3, _⟩ := I.list h3
  obtain ⟨i4, r4, p4, _⟩ := I.list h4
  obtain ⟨a1, a2, a3, rfl, ⟨t1, rfl⟩, ⟨t2, rfl⟩, e3⟩ := vals3 r1
  obtain ⟨b1, b2, b3, rfl, ⟨u1, rfl⟩, ⟨u2, rfl⟩, e6⟩ := vals3 r2
  cases e3
  cases e6
  refine SeqAt.eq_tupleAt (e := fun _ => true) p1 p2 (Nat.lt_of_succ_lt hu) ?_ ⟨.bl true, H, I, rfl, hq⟩
  intro k hk1 hk2
  match k, hk1, hk2 with
  | 0, _, _ =>
    have z := SeqAt.EqAt.int_int (A := X.A.in1) (s := s) i t1 i u1
    rw [beq_self_eq_true] at z
    exact z
  | 1, _, _ =>
    have z := SeqAt.EqAt.int_int (A := X.A.in1) (s := s) j t2 j u2
    rw [beq_self_eq_true] at z
    exact z
  | 2, _, _ =>
    by_cases e : l = l'
    · subst e
      exact SeqAt.EqAt.same _
    · refine SeqAt.EqAt.of_refs e ?_
      have k := SeqAt.RcAt.lists (A := X.A.in1) (e := fun _ => true) p3.isList p4.isList (by simp [← r3.length, ← r4.length]) (by show X.A.units + 1 < _; exact hu) fun j g1 g2 => vals_sam (A := X.A.in1.in1) (s := s) (sam_refs as) r3 r4 j (by simpa using g1) (by simpa using g2)
      have e1 : ∀ m, ((List.range m).all fun _ => true) = true := fun m => by simp
      rw [e1] at k
      exact k
open HT in
/-- t[:n] where that is the whole of it -/
theorem tup_whole {prog : Program} {w : World} {A : Around} {E : Value → Shared → Prop} {s : Shared} {t sl : Addr} {items : Array Value} {vl vu : Value} {lo hi : Option Int} {Q : Value → Shared → Prop} (ht : IsTup s.heap t items) (hs : s.heap.IsSliceOf sl vl vu .none) (pl : IsPart vl lo) (pu : IsPart vu hi)
    (h1 : sIx items.size 0 lo = 0) (h2 : sIx items.size items.size hi = items.size) (h : Q (.ref t) s) : wpAny (model prog w) A (getItem (.ref t) (.ref sl)) Q E s := by
  obtain ⟨os, hos, hcs, hds⟩ := id hs
  have hTs : s.TypeIs (.ref sl) "slice" := ⟨os, hos, hcs⟩
  unfold getItem
  try with_reducible refine wpAny_holding ?_
  first | refine wpAny_bind (wpAny_pure ?_) | skip
  refine wpAny_bind (wpAny_sequenceKey ht.typeIs (by decide) ?_)
  refine wpAny_bind (wpAny_callSpecial?_slot (name := Str.ofString "__getitem__") ht.typeIs PyProof.Rows.slot_tuple_getitem
    (wpAny_call_entry PyProof.Rows.slot_tuple_getitem ht.typeIs entry_tuple_getitem ?_ (args_tuple_getitem _ _)))
  show wpAny _ _ (Builtin.Tuple.tupleItemsOf (.ref t) >>= _) _ _ s
  refine wpAny_bind (tupleItemsOf_ ht ?_)
  refine wpAny_bind (wpAny_typeOf hTs ?_)
  rw [if_pos (by decide)]
  refine wpAny_bind (sliceApplied_gen hs pl pu ?_)
  have yes : (((sIx items.size 0 lo : Nat) : Int) == 0 && (1 : Int) == 1 && (sIx items.size items.size hi - sIx items.size 0 lo) == items.size) = true := by
    rw [h1, h2]
    simp
  show wpAny _ _ (if (((sIx items.size 0 lo : Nat) : Int) == 0 && (1 : Int) == 1 && (sIx items.size items.size hi - sIx items.size 0 lo) == items.size) = true then _ else _) _ _ s
  rw [if_pos yes]
  refine wpAny_bind (m := Builtin.Tuple.tupleIsExact (.ref t)) (wpAny_bind (wpAny_typeOf ht.typeIs (wpAny_pure ?_)))
  rw [if_pos (by decide)]
  exact wpAny_bind (wpAny_rule (wpAny_pure ⟨_, rfl, wpAny_pure h⟩))
def rSlA (K : PySem.W.Frag) : V → Option Int → Option Int → Hp → VK → Prop := fun x lo hi H Q => ∃ a xs, x = .ref a ∧ SqT K H a xs ∧ ((HT.sIx xs.length 0 lo = 0 ∧ HT.sIx xs.length xs.length hi = xs.length) → Q (.ref a) H) ∧
  (¬ (HT.sIx xs.length 0 lo = 0 ∧ HT.sIx xs.length xs.length hi = xs.length) → ∀ p, H p = none → Q (.ref p) (upd H p (.tup (cutV xs lo hi))))
theorem sl_tupA {X : Cx} : SlR X (rSlA X.K) := by
  intro pins s σ H x v vl vu lo hi sl Q I rx hs pl pu h
  obtain ⟨a, xs, e, hx, q1, q2⟩ := h
  by_cases c : HT.sIx xs.length 0 lo = 0 ∧ HT.sIx xs.length xs.length hi = xs.length
  · subst e
    cases rx
    obtain ⟨its, r, ht, hz⟩ := I.tuple hx
    have hlen : its.toArray.size = xs.length := by rw [List.size_toArray]; exact r.length.symm
    refine ⟨"tuple", _, PyProof.Rows.slot_tuple_getitem.lookup, ht.typeIs, ?_⟩
    exact tup_whole ht hs pl pu (by rw [hlen]; exact c.1) (by rw [hlen]; exact c.2) ⟨.ref a, H, I, rfl, q1 c⟩
  · exact sl_tup pins s σ H x v vl vu lo hi sl Q I rx hs pl pu ⟨a, xs, e, hx, c, q2 c⟩
end L2
namespace Sw
open PySem L2 XH PyProof.Rows
structure TyC (K : PySem.W.Frag) (C : Addr) : Prop where
  ha : PySem.W.findIn K (.ref C) "__class__" = some (some (.builtin "object.__class__"))
  hn : PySem.W.specialIn K (.builtin "object.__class__") "__get__" = some (some (.builtin "getset_descriptor.__get__"))
  htk : PySem.W.takesIn K (.builtin "object.__class__") = some true
  hm : PySem.W.mroIn K C (.type "object") = some true
/-- a step as it is -/
structure StA (H : Hp) (x C : Addr) (nm : Str) (l m : Int) (us : List Addr) (c : Sec) : Prop where
  ex : ∃ (dx u : Addr) (s : V) (ff : List (Str × V)), H x = some (.ins C dx ff) ∧ StF ff (.str nm) (.int l) (.int m) (.ref u) s ∧ H u = some (.lst (us.map V.ref)) ∧ SecAt H s c
theorem StA.same {H H' : Hp} {x C : Addr} {nm : Str} {l m : Int} {us : List Addr} {c : Sec} (h : StA H x C nm l m us c) (g : Same H H') : StA H' x C nm l m us c := by
  obtain ⟨dx, u, s, ff, e1, e2, e3, e4⟩ := h.ex
  exact ⟨dx, u, s, ff, g _ _ e1, e2, g _ _ e3, e4.same g⟩
/-- and none of it in H0 -/
structure StN (H0 H : Hp) (x C : Addr) (nm : Str) (l m : Int) (us : List Addr) (c : Sec) : Prop where
  ex : ∃ (dx u : Addr) (s : V) (ff : List (Str × V)), H x = some (.ins C dx ff) ∧ StF ff (.str nm) (.int l) (.int m) (.ref u) s ∧ H u = some (.lst (us.map V.ref)) ∧ SecN H0 H s c ∧ H0 x = none ∧ H0 u = none
theorem StN.same {H0 H H' : Hp} {x C : Addr} {nm : Str} {l m : Int} {us : List Addr} {c : Sec} (h : StN H0 H x C nm l m us c) (g : Same H H') : StN H0 H' x C nm l m us c := by
  obtain ⟨dx, u, s, ff, e1, e2, e3, e4, e5⟩ := h.ex
  exact ⟨dx, u, s, ff, g _ _ e1, e2, g _ _ e3, e4.same g, e5⟩
theorem StN.put {H0 H : Hp} {x C b : Addr} {nm : Str} {l m : Int} {us : List Addr} {c : Sec} {o q : HO} (h : StN H0 H x C nm l m us c) (hb : H0 b = some q) : StN H0 (upd H b o) x C nm l m us c := by
  obtain ⟨dx, u, s, ff, e1, e2, e3, e4, e5, e6⟩ := h.ex
  exact ⟨dx, u, s, ff, by rw [upd_ne (fun z => by rw [z, hb] at e5; cases e5)]; exact e1, e2, by rw [upd_ne (fun z => by rw [z, hb] at e6; cases e6)]; exact e3, e4.put hb, e5, e6⟩
theorem StN.at_ {H0 H : Hp} {x C : Addr} {nm : Str} {l m : Int} {us : List Addr} {c : Sec} (h : StN H0 H x C nm l m us c) : StA H x C nm l m us c := by
  obtain ⟨dx, u, s, ff, e1, e2, e3, e4, _⟩ := h.ex
  exact ⟨dx, u, s, ff, e1, e2, e3, e4.at_⟩
def KC (cS cC cW cR : Addr) (k : Int) (C : Addr) : Prop := (k = 0 ∧ C = cS) ∨ (k = 1 ∧ C = cC) ∨ (k = 2 ∧ C = cW) ∨ (k = 3 ∧ C = cR)
def spMadeS (cS cC cW cR : Addr) : Sp := fun vs H Q _ => ∃ (k l m : Int) (nm : Str) (tl : Addr) (uv sv : V) (us : List Addr) (c : Sec), vs = [.int k, .str nm, .ref tl, uv, sv] ∧ H tl = some (.tup [.int l, .int m]) ∧ UseAt H uv us ∧ SecAt H sv c ∧ 0 ≤ k ∧ k < 4 ∧
  ∀ (x C : Addr) (H' : Hp), Same H H' → KC cS cC cW cR k C → StN H H' x C nm l m us c → Q (.ref x) H'
def spBareS (cS cC cW cR : Addr) : Sp := fun vs H Q _ => ∃ (k l m : Int) (nm : Str) (tl : Addr), vs = [.int k, .str nm, .ref tl] ∧ H tl = some (.tup [.int l, .int m]) ∧ 0 ≤ k ∧ k < 4 ∧
  ∀ (x C : Addr) (H' : Hp), Same H H' → KC cS cC cW cR k C → StN H H' x C nm l m [] none → Q (.ref x) H'
def spKindS (cS cC cW cR : Addr) : Sp := fun vs H Q _ => ∃ (k l m : Int) (nm : Str) (x C : Addr) (us : List Addr) (c : Sec), vs = [.ref x, .int k] ∧ KC cS cC cW cR k C ∧ StA H x C nm l m us c ∧ ∀ H', Same H H' → Q (.bl true) H'
def spValS (K : PySem.W.Frag) : Sp := fun vs H Q _ => ∃ (l m : Int) (nm : Str) (x C tl lu : Addr) (sv : V) (us : List Addr) (c : Sec), vs = [.ref x, .str nm, .ref tl, .ref lu, sv] ∧ StA H x C nm l m us c ∧ StepC K C ∧ H tl = some (.tup [.int l, .int m]) ∧ H lu = some (.lst (us.map V.ref)) ∧ SecAt H sv c ∧ ∀ H', Same H H' → Q (.bl true) H'
abbrev Due := Int × Int × List Addr
def duesOf (l m : Int) (us : List Addr) : Sec → List Due
  | none => [(l, m, us)]
  | some d => [(l, m, us), d]
/-- the ways that are told -/
structure WaysAt (H0 H : Hp) (lw : Addr) (cut : Bool) (p q : Int) (ds : List Due) (f : Addr → Str) : Prop where
  ex : ∃ ts : List Addr, H lw = some (.lst (ts.map V.ref)) ∧ ts.length = ds.length ∧ H0 lw = none ∧ (∀ (i : Nat) (t : Addr) (d : Due), ts[i]? = some t → ds[i]? = some d → WayAt H0 H t cut d.1 d.2.1 p q d.2.2 f) ∧
    ∀ (i j : Nat) (t t' : Addr) (n k n' k' : Int) (ls ls' : Addr), ts[i]? = some t → ts[j]? = some t' → H t = some (.tup [.int n, .int k, .ref ls]) → H t' = some (.tup [.int n', .int k', .ref ls']) → ls ≠ lw ∧ (i ≠ j → ls ≠ ls')
def spGrownS (K : PySem.W.Frag) (fg fw fs ft : Addr) : Sp := fun vs H Q _ => ∃ (x C tf : Addr) (nm : Str) (l m p q : Int) (us : List Addr) (c : Sec) (f : Addr → Str) (cut : Bool), vs = [.ref x, .ref tf] ∧ StA H x C nm l m us c ∧ StM K C fg fw fs ft cut ∧ FrIn K 210 H tf p q ∧
  (∀ d ∈ duesOf l m us c, Bd 210 d.1 ∧ Bd 210 d.2.1 ∧ UL H d.2.2 f) ∧ ∀ (lw : Addr) (H' : Hp), Same H H' → WaysAt H H' lw cut p q (duesOf l m us c) f → Q (.ref lw) H'
theorem WayAt.putA {H0 H1 H3 : Hp} {t b : Addr} {cut : Bool} {l m p q : Int} {us : List Addr} {f : Addr → Str} {o : HO} (h : WayAt H0 H1 t cut l m p q us f) (nb : H1 b = none) (g : Same H1 H3) : WayAt H0 (upd H3 b o) t cut l m p q us f := by
  obtain ⟨n, k, ls, bs, e1, e2, r⟩ := h.ex
  exact ⟨n, k, ls, bs, by rw [upd_ne (ne_of_none e1 nb)]; exact g _ _ e1, by rw [upd_ne (ne_of_none e2 nb)]; exact g _ _ e2, r⟩
theorem WayAt.putB {H0 H2 H3 : Hp} {t b : Addr} {cut : Bool} {l m p q : Int} {us : List Addr} {f : Addr → Str} {o w : HO} {zs : List V} (h : WayAt H2 H3 t cut l m p q us f) (eb : H2 b = some w) (eb3 : H3 b = some (.lst zs)) (g : Same H0 H2) : WayAt H0 (upd H3 b o) t cut l m p q us f := by
  obtain ⟨n, k, ls, bs, e1, e2, r1, r2, r3, r4⟩ := h.ex
  exact ⟨n, k, ls, bs, by rw [upd_ne (fun z => by rw [z, eb3] at e1; cases e1)]; exact e1, by rw [upd_ne (fun z => by rw [z, eb] at r4; cases r4)]; exact e2, r1, r2, r3, g.free r4⟩
theorem made_new {H : Hp} {x dx C : Addr} (nx : H x = none) (nd : H dx = none) : Same H (upd (upd H dx (.own x)) x (.ins C dx [])) := fun b o h => by
  rw [upd_ne (ne_of_none h nx), upd_ne (ne_of_none h nd)]
  exact h
theorem UseAt.same {H H' : Hp} (g : Same H H') {u : V} {us : List Addr} (h : UseAt H u us) : UseAt H' u us := by
  rcases h with h | ⟨l, e1, e2⟩
  · exact .inl h
  · exact .inr ⟨l, e1, g _ _ e2⟩
theorem SecN.base {H0 H1 H : Hp} (g : Same H0 H1) {s : V} : ∀ {c : Sec}, SecN H1 H s c → SecN H0 H s c
  | none, h => h
  | some (_, _, _), ⟨t, l2, h1, h2, h3, h4, h5⟩ => ⟨t, l2, h1, h2, h3, g.free h4, g.free h5⟩
theorem stn_of {H H6 : Hp} {x dx C u : Addr} {nm : Str} {l m : Int} {us : List Addr} {c : Sec} {s : V} {ff : List (Str × V)} (nx : H x = none) (nd : H dx = none) (sf : StF ff (.str nm) (.int l) (.int m) (.ref u) s) (nu : (upd (upd H dx (.own x)) x (.ins C dx [])) u = none) (eu : H6 u = some (.lst (us.map V.ref))) (hs : SecN (upd (upd H dx (.own x)) x (.ins C dx [])) H6 s c) (ex : H6 x = some (.ins C dx ff)) : StN H H6 x C nm l m us c :=
  ⟨dx, u, s, ff, ex, sf, eu, hs.base (made_new nx nd), nx, (made_new nx nd).free nu⟩
theorem StN.base {H0 H1 H : Hp} {x C : Addr} {nm : Str} {l m : Int} {us : List Addr} {c : Sec} (g : Same H0 H1) (h : StN H1 H x C nm l m us c) : StN H0 H x C nm l m us c := by
  obtain ⟨dx, u, s, ff, e1, e2, e3, e4, e5, e6⟩ := h.ex
  exact ⟨dx, u, s, ff, e1, e2, e3, e4.base g, g.free e5, g.free e6⟩
def spGrewS (K : PySem.W.Frag) : Sp := fun vs H Q _ => ∃ (t tl tf : Addr) (kd l m p q n n2 : Int) (r : List V), vs = [.ref t, .ref tl, .ref tf, .int kd] ∧ H t = some (.tup (.int n :: .int n2 :: r)) ∧ r.length ≤ 1 ∧ H tl = some (.tup [.int l, .int m]) ∧ FrIn K 210 H tf p q ∧ Bd 210 l ∧ Bd 210 m ∧
  Grw (decide (kd = 1)) l p q n ∧ Grw (decide (kd = 1)) m p q n2 ∧ ∀ H', Same H H' → Q (.bl true) H'
theorem cutV_two (x y : V) : ∀ r : List V, r.length ≤ 1 → cutV (x :: y :: r) none (some 2) = [x, y]
  | [], _ => rfl
  | [_], _ => rfl
  | _ :: _ :: _, h => by simp at h
theorem dQt2 {n m : Int} {Q : V → Prop} (q : Q (.bl true)) : Q (.bl (id (decide (n = n ∧ m = m)))) := by
  rw [show (id (decide (n = n ∧ m = m))) = true by simp]
  exact q
/-- the ways that are due -/
structure Dues (H : Hp) (ld : Addr) (ds : List Due) : Prop where
  ex : ∃ ts : List Addr, H ld = some (.lst (ts.map V.ref)) ∧ ts.length = ds.length ∧ ∀ (i : Nat) (t : Addr) (d : Due), ts[i]? = some t → ds[i]? = some d → ∃ lu, H t = some (.tup [.int d.1, .int d.2.1, .ref lu]) ∧ H lu = some (.lst (d.2.2.map V.ref))
theorem Dues.same {H H' : Hp} {ld : Addr} {ds : List Due} (h : Dues H ld ds) (g : Same H H') : Dues H' ld ds := by
  obtain ⟨ts, h1, h2, h3⟩ := h.ex
  refine ⟨ts, g _ _ h1, h2, fun i t d e1 e2 => ?_⟩
  obtain ⟨lu, k1, k2⟩ := h3 i t d e1 e2
  exact ⟨lu, g _ _ k1, g _ _ k2⟩
def spWaysS (K : PySem.W.Frag) (fg fw fs ft : Addr) : Sp := fun vs H Q _ => ∃ (x C tf ld : Addr) (nm : Str) (kd l m p q : Int) (us : List Addr) (c : Sec) (f : Addr → Str), vs = [.ref x, .int kd, .ref tf, .ref ld] ∧ StA H x C nm l m us c ∧ StM K C fg fw fs ft (decide (kd = 1)) ∧ FrIn K 210 H tf p q ∧
  Dues H ld (duesOf l m us c) ∧ (∀ d ∈ duesOf l m us c, Bd 210 d.1 ∧ Bd 210 d.2.1 ∧ UL H d.2.2 f) ∧ (∀ d ∈ duesOf l m us c, d.2.2.length ≤ 100) ∧ ∀ H', Same H H' → Q (.bl true) H'
def nmF (H : Hp) (a : Addr) : Str := match H a with | some (.tup (.str y :: _)) => y | _ => Str.empty
theorem UL.later {H H' : Hp} {us : List Addr} (h : UL H us (nmF H)) (g : Same H H') : UL H' us (nmF H') := by
  have e : ∀ a ∈ us, nmF H' a = nmF H a := fun a ha => by
    obtain ⟨m, k, e⟩ := h.tup a ha
    unfold nmF
    rw [g _ _ e, e]
  refine ⟨fun a ha => ?_, ?_, h.sm⟩
  · obtain ⟨m, k, e1⟩ := h.tup a ha
    exact ⟨m, k, by rw [e a ha]; exact g _ _ e1⟩
  · rw [List.map_congr_left e]
    exact h.nd
def spNumQ : Sp := fun vs H Q _ => ∃ c : Int, vs = [.int c] ∧ ∀ n : Int, 0 < n → Bd 101 n → Q (.int n) H
def spUsesS : Sp := fun vs H Q _ => ∃ (c m : Int) (ln : Addr) (zs : List Str), vs = [.int c, .ref ln, .int m] ∧ H ln = some (.lst (zs.map V.str)) ∧ zs.Nodup ∧ 0 ≤ m ∧ m ≤ 5 ∧ 5 ≤ zs.length ∧
  ∀ (p : Addr) (as : List Addr) (H' : Hp), Same H H' → H p = none → H' p = some (.lst (as.map V.ref)) → as.length ≤ 5 → UL H' as (nmF H') → Q (.ref p) H'
def spWayS (K : PySem.W.Frag) : Sp := fun vs H Q _ => ∃ (a ln : Addr) (ns : List Int) (k : Int) (zs : List Str), vs = [.ref a, .int k, .ref ln] ∧ SqL K H a (ns.map V.int) ∧ 0 ≤ k ∧ H ln = some (.lst (zs.map V.str)) ∧ zs.Nodup ∧ 5 ≤ zs.length ∧
  ∀ (t lu : Addr) (l m : Int) (as : List Addr) (H' : Hp), Same H H' → H lu = none → H' t = some (.tup [.int l, .int m, .ref lu]) → H' lu = some (.lst (as.map V.ref)) → as.length ≤ 5 → UL H' as (nmF H') → Bd 210 l → Bd 210 m → Q (.ref t) H'
def spNames12 : Sp := fun vs H Q _ => ∃ c : Int, vs = [.int c] ∧ ∀ (l : Addr) (zs : List Str) (H' : Hp), Same H H' → H' l = some (.lst (zs.map V.str)) → zs.length = 12 → zs.Nodup → Q (.ref l) H'
theorem uses_ul {H : Hp} {as : List Addr} {zs : List Str} (nd : zs.Nodup) (hl : as.length ≤ zs.length) (h64 : as.length < 64) (h : ∀ (i : Nat) (a : Addr), as[i]? = some a → ∃ m k : Int, ∃ y, zs[i]? = some y ∧ H a = some (.tup [.str y, .int m, .int k])) : UL H as (nmF H) := by
  have key : ∀ (i : Nat) (a : Addr), as[i]? = some a → ∃ m k : Int, zs[i]? = some (nmF H a) ∧ H a = some (.tup [.str (nmF H a), .int m, .int k]) := fun i a ha => by
    obtain ⟨m, k, y, e1, e2⟩ := h i a ha
    have e : nmF H a = y := by unfold nmF; rw [e2]
    exact ⟨m, k, by rw [e]; exact e1, by rw [e]; exact e2⟩
  refine ⟨fun a ha => ?_, ?_, h64⟩
  · obtain ⟨i, hi⟩ := List.mem_iff_getElem?.mp ha
    obtain ⟨m, k, _, e⟩ := key i a hi
    exact ⟨m, k, e⟩
  · have e : as.map (nmF H) = zs.take as.length := by
      apply List.ext_getElem?
      intro i
      rw [List.getElem?_map]
      cases hi : as[i]? with
      | none =>
        have : as.length ≤ i := List.getElem?_eq_none_iff.mp hi
        rw [List.getElem?_eq_none (by rw [List.length_take]; omega)]
        rfl
      | some a =>
        have il := (List.getElem?_eq_some_iff.mp hi).1
        obtain ⟨m, k, e1, _⟩ := key i a hi
        rw [List.getElem?_take_of_lt il, e1]
        rfl
    rw [e]
    exact nd.sublist (List.take_sublist _ _)
theorem cut_len {z : Str} {n : Int} (h0 : 0 ≤ n) (h : n ≤ (z.length : Int)) : ((cutS z none (some n)).length : Int) = n := by
  show ((((z.cps.toList.drop _).take _).toArray.size : Nat) : Int) = n
  rw [List.size_toArray, List.length_take, List.length_drop]
  have e0 : HT.sIx z.length 0 none = 0 := rfl
  have e1 : HT.sIx z.length z.length (some n) = min n.toNat z.length := by
    unfold HT.sIx
    simp
    omega
  rw [e0, e1]
  have : z.cps.toList.length = z.length := sL_len z
  omega
theorem range_nd {α : Type} {n : Nat} {g : Nat → α} (h : ∀ i j, i < n → j < n → g i = g j → i = j) : ((List.range n).map g).Nodup := by
  refine List.pairwise_map.mpr (List.Pairwise.imp_of_mem (fun {a b} ha hb hne e => hne ?_) List.nodup_range)
  exact h a b (List.mem_range.mp ha) (List.mem_range.mp hb) e
theorem lens_inj : ∀ i : _root_.Fin 12, ∀ j : _root_.Fin 12, (12 - (5 * (0 + ((i.val : Nat) : Int))).fmod 12 : Int) = 12 - (5 * (0 + ((j.val : Nat) : Int))).fmod 12 → i = j := by decide
theorem strs_one : ∀ {ys : List V}, (∀ y ∈ ys, ∃ z : Str, y = .str z ∧ z.length = 1) → ∃ ws : List Str, ys = ws.map V.str ∧ (ws.map (fun x => x.length)).sum = ws.length
  | [], _ => ⟨[], rfl, rfl⟩
  | y :: ys, h => by
    obtain ⟨z, rfl, hz⟩ := h y (by simp)
    obtain ⟨ws, rfl, hw⟩ := strs_one (ys := ys) fun y hy => h y (List.mem_cons_of_mem _ hy)
    refine ⟨z :: ws, rfl, ?_⟩
    simp only [List.map_cons, List.sum_cons, List.length_cons]
    omega
def abcT : Str := "abcdefghijklmnopqrstuvwxyz"
theorem abc_at : ∀ i : Nat, i < 26 → abcT.cps.toList[i]? = some (97 + i) := by decide
theorem abc_atI {v : Int} (h0 : 0 ≤ v) (h : v < 26) : atI abcT.cps.toList v = some (97 + v.toNat) := by
  have := abc_at v.toNat (by omega)
  have e : v = ((v.toNat : Nat) : Int) := by omega
  rw [e]
  exact atI_nat this
theorem ys_range {ys : List V} {n : Nat} {g : Nat → Str} (hl : ys.length = n) (h : ∀ (i : Nat) (y : V), ys[i]? = some y → y = .str (g i)) : ys = ((List.range n).map g).map V.str := by
  apply List.ext_getElem?
  intro i
  cases e : ys[i]? with
  | none =>
    have := List.getElem?_eq_none_iff.mp e
    rw [List.getElem?_eq_none (by simp; omega)]
  | some y =>
    have il := (List.getElem?_eq_some_iff.mp e).1
    rw [h i y e, List.getElem?_map, List.getElem?_map, List.getElem?_range (by omega)]
    rfl
/-- the ways that are due, none of their lists at h0 or h1 -/
structure DuesX (H : Hp) (ld : Addr) (ds : List Due) (h0 h1 : Addr) : Prop where
  ex : ∃ ts : List Addr, H ld = some (.lst (ts.map V.ref)) ∧ ld ≠ h0 ∧ ld ≠ h1 ∧ ts.length = ds.length ∧ ∀ (i : Nat) (t : Addr) (d : Due), ts[i]? = some t → ds[i]? = some d → ∃ lu, H t = some (.tup [.int d.1, .int d.2.1, .ref lu]) ∧ H lu = some (.lst (d.2.2.map V.ref)) ∧ lu ≠ h0 ∧ lu ≠ h1
theorem Dues.toX {H0 H : Hp} {ld h0 h1 : Addr} {ds : List Due} (h : Dues H0 ld ds) (g : Same H0 H) (n0 : H0 h0 = none) (n1 : H0 h1 = none) : DuesX H ld ds h0 h1 := by
  obtain ⟨ts, e1, e2, e3⟩ := h.ex
  refine ⟨ts, g _ _ e1, ne_of_none e1 n0, ne_of_none e1 n1, e2, fun i t d k1 k2 => ?_⟩
  obtain ⟨lu, r1, r2⟩ := e3 i t d k1 k2
  exact ⟨lu, g _ _ r1, g _ _ r2, ne_of_none r2 n0, ne_of_none r2 n1⟩
theorem DuesX.keep {H G : Hp} {ld h0 h1 : Addr} {ds : List Due} {x0 x1 : List V} (h : DuesX H ld ds h0 h1) (e0 : H h0 = some (.lst x0)) (e1 : H h1 = some (.lst x1)) (kp : ∀ b o, H b = some o → b ≠ h0 → b ≠ h1 → G b = some o) : Dues G ld ds := by
  obtain ⟨ts, k1, k2, k3, k4, k5⟩ := h.ex
  refine ⟨ts, kp _ _ k1 k2 k3, k4, fun i t d a b => ?_⟩
  obtain ⟨lu, r1, r2, r3, r4⟩ := k5 i t d a b
  exact ⟨lu, kp _ _ r1 (fun z => by rw [z, e0] at r1; cases r1) (fun z => by rw [z, e1] at r1; cases r1), kp _ _ r2 r3 r4⟩
theorem cutV_four {xs : List V} (h : 4 ≤ xs.length) : cutV xs (some 4) none = xs.drop 4 := by
  have e1 : HT.sIx xs.length 0 (some 4) = 4 := by
    unfold HT.sIx
    simp
    omega
  have e2 : HT.sIx xs.length xs.length none = xs.length := rfl
  unfold cutV
  rw [e1, e2, List.take_of_length_le (by rw [List.length_drop]; omega)]
theorem UL.keepT {H H' : Hp} {us : List Addr} (h : UL H us (nmF H)) (g : ∀ (b : Addr) (zs : List V), H b = some (.tup zs) → H' b = some (.tup zs)) : UL H' us (nmF H') := by
  have e : ∀ a ∈ us, nmF H' a = nmF H a := fun a ha => by
    obtain ⟨m, k, e⟩ := h.tup a ha
    unfold nmF
    rw [g _ _ e, e]
  refine ⟨fun a ha => ?_, ?_, h.sm⟩
  · obtain ⟨m, k, e1⟩ := h.tup a ha
    exact ⟨m, k, by rw [e a ha]; exact g _ _ e1⟩
  · rw [List.map_congr_left e]
    exact h.nd
end Sw
set_option Elab.async false
set_option linter.all false
set_option maxRecDepth 100000
namespace Lk31
open PySem L2 Sw XH PyProof.Rows
def top (i : Nat) : Stmt := PySem.Challenge.pw_stovework_k31_lengths_by_kind.main.body.getD i (.Pass ⟨0, 0, 0, 0⟩)
def clsAt (s : Stmt) (i : Nat) : Stmt := match s with | .ClassDef _ _ _ body _ _ _ _ _ _ _ => body.getD i (.Pass ⟨0, 0, 0, 0⟩) | _ => s
abbrev sis_whole : Stmt := top 5
abbrev sdivisor : Stmt := top 6
abbrev sfraction : Stmt := top 8
abbrev sproduct : Stmt := top 9
abbrev sround_up : Stmt := top 10
abbrev sgrown_length : Stmt := top 16
abbrev sStep_init : Stmt := clsAt (top 12) 0
abbrev sStep_word : Stmt := clsAt (top 12) 1
abbrev sStep_span : Stmt := clsAt (top 12) 2
abbrev sCut_word : Stmt := clsAt (top 13) 0
abbrev sCut_span : Stmt := clsAt (top 13) 1
abbrev sWarm_init : Stmt := clsAt (top 14) 0
abbrev sWarm_word : Stmt := clsAt (top 14) 1
abbrev sRest_word : Stmt := clsAt (top 15) 0
abbrev sStep_grown_way : Stmt := clsAt (top 12) 5
abbrev sStep_grown : Stmt := clsAt (top 12) 4
abbrev s_law_cell_at : Stmt := top 18
abbrev s_law_whole : Stmt := top 19
abbrev s_law_common : Stmt := top 20
abbrev s_law_stream : Stmt := top 21
abbrev s_law_names : Stmt := top 22
abbrev s_law_number : Stmt := top 23
abbrev s_law_uses : Stmt := top 24
abbrev s_law_way : Stmt := top 31
abbrev s_law_step : Stmt := top 25
abbrev s_law_bare : Stmt := top 26
abbrev s_law_kind : Stmt := top 27
abbrev s_law_values : Stmt := top 28
abbrev s_law_grew : Stmt := top 29
abbrev s_law_ways : Stmt := top 30
abbrev slaw : Stmt := top 32
structure Bn (K : PySem.W.Frag) (mg : Str → Option Value) (c_Cut c_Rest c_Step c_Warm f_Step_init f_Step_word f_Step_span f_Cut_word f_Cut_span f_Warm_init f_Warm_word f_Rest_word f_Step_grown_way f_Step_grown : Addr) : Prop where
  b_abs : mg "abs" = none
  b_len : mg "len" = none
  b_isinstance : mg "isinstance" = none
  b_int : mg "int" = none
  b_bool : mg "bool" = none
  b_tuple : mg "tuple" = none
  b_list : mg "list" = none
  b_str : mg "str" = none
  b_range : mg "range" = none
  b_sorted : mg "sorted" = none
  m_Cut : mg "Cut" = some (.ref c_Cut)
  m_Rest : mg "Rest" = some (.ref c_Rest)
  m_Step : mg "Step" = some (.ref c_Step)
  m_Warm : mg "Warm" = some (.ref c_Warm)
  cl_Step : Cls K c_Step
  mk_Step : Mk K c_Step f_Step_init
  me_Step_word : Meth K c_Step "word" f_Step_word
  me_Step_span : Meth K c_Step "span" f_Step_span
  me_Step_grown : Meth K c_Step "grown" f_Step_grown
  me_Step_grown_way : Meth K c_Step "grown_way" f_Step_grown_way
  cl_Cut : Cls K c_Cut
  mk_Cut : Mk K c_Cut f_Step_init
  me_Cut_word : Meth K c_Cut "word" f_Cut_word
  me_Cut_span : Meth K c_Cut "span" f_Cut_span
  me_Cut_grown : Meth K c_Cut "grown" f_Step_grown
  me_Cut_grown_way : Meth K c_Cut "grown_way" f_Step_grown_way
  cl_Warm : Cls K c_Warm
  mk_Warm : Mk K c_Warm f_Warm_init
  me_Warm_word : Meth K c_Warm "word" f_Warm_word
  me_Warm_span : Meth K c_Warm "span" f_Step_span
  me_Warm_grown : Meth K c_Warm "grown" f_Step_grown
  me_Warm_grown_way : Meth K c_Warm "grown_way" f_Step_grown_way
  cl_Rest : Cls K c_Rest
  mk_Rest : Mk K c_Rest f_Step_init
  me_Rest_word : Meth K c_Rest "word" f_Rest_word
  me_Rest_span : Meth K c_Rest "span" f_Step_span
  me_Rest_grown : Meth K c_Rest "grown" f_Step_grown
  me_Rest_grown_way : Meth K c_Rest "grown_way" f_Step_grown_way
  na_Step_name : NoAttr K c_Step "name"
  na_Step_least : NoAttr K c_Step "least"
  na_Step_most : NoAttr K c_Step "most"
  na_Step_uses : NoAttr K c_Step "uses"
  na_Step_second : NoAttr K c_Step "second"
  na_Cut_name : NoAttr K c_Cut "name"
  na_Cut_least : NoAttr K c_Cut "least"
  na_Cut_most : NoAttr K c_Cut "most"
  na_Cut_uses : NoAttr K c_Cut "uses"
  na_Cut_second : NoAttr K c_Cut "second"
  na_Rest_name : NoAttr K c_Rest "name"
  na_Rest_least : NoAttr K c_Rest "least"
  na_Rest_most : NoAttr K c_Rest "most"
  na_Rest_uses : NoAttr K c_Rest "uses"
  na_Rest_second : NoAttr K c_Rest "second"
  na_Warm_name : NoAttr K c_Warm "name"
  na_Warm_least : NoAttr K c_Warm "least"
  na_Warm_most : NoAttr K c_Warm "most"
  na_Warm_uses : NoAttr K c_Warm "uses"
  na_Warm_second : NoAttr K c_Warm "second"
  na_Warm_fill : NoAttr K c_Warm "fill"
  cm_Step___init__ : ClsM K c_Step "__init__" f_Step_init
  tc_Step : TyC K c_Step
  tc_Cut : TyC K c_Cut
  tc_Warm : TyC K c_Warm
  tc_Rest : TyC K c_Rest
  kit_Step_Step : PySem.W.kitOne K (.ref c_Step) (.ref c_Step) = some true
  kit_Step_Cut : PySem.W.kitOne K (.ref c_Step) (.ref c_Cut) = some false
  kit_Step_Warm : PySem.W.kitOne K (.ref c_Step) (.ref c_Warm) = some false
  kit_Step_Rest : PySem.W.kitOne K (.ref c_Step) (.ref c_Rest) = some false
  kit_Cut_Step : PySem.W.kitOne K (.ref c_Cut) (.ref c_Step) = some true
  kit_Cut_Cut : PySem.W.kitOne K (.ref c_Cut) (.ref c_Cut) = some true
  kit_Cut_Warm : PySem.W.kitOne K (.ref c_Cut) (.ref c_Warm) = some false
  kit_Cut_Rest : PySem.W.kitOne K (.ref c_Cut) (.ref c_Rest) = some false
  kit_Warm_Step : PySem.W.kitOne K (.ref c_Warm) (.ref c_Step) = some true
  kit_Warm_Cut : PySem.W.kitOne K (.ref c_Warm) (.ref c_Cut) = some false
  kit_Warm_Warm : PySem.W.kitOne K (.ref c_Warm) (.ref c_Warm) = some true
  kit_Warm_Rest : PySem.W.kitOne K (.ref c_Warm) (.ref c_Rest) = some false
  kit_Rest_Step : PySem.W.kitOne K (.ref c_Rest) (.ref c_Step) = some true
  kit_Rest_Cut : PySem.W.kitOne K (.ref c_Rest) (.ref c_Cut) = some false
  kit_Rest_Warm : PySem.W.kitOne K (.ref c_Rest) (.ref c_Warm) = some false
  kit_Rest_Rest : PySem.W.kitOne K (.ref c_Rest) (.ref c_Rest) = some true
section
variable {P : Program} {w : World} {K : PySem.W.Frag} {mg : Str → Option Value} {base : Heap} {f : Addr} {fd : FuncData} {c_Cut c_Rest c_Step c_Warm f_Step_init f_Step_word f_Step_span f_Cut_word f_Cut_span f_Warm_init f_Warm_word f_Rest_word f_Step_grown_way f_Step_grown : Addr}
theorem scis_whole : FnScope ["thing"] ["thing"] (defScope sis_whole) := ⟨rfl, rfl, rfl, by decide +kernel, rfl, by decide +kernel, by decide +kernel⟩
set_option maxHeartbeats 4000000 in
theorem okis_whole {dV : Value} (F : FunD K "is_whole" "is_whole" sis_whole dV f fd) (B : Bn K mg c_Cut c_Rest c_Step c_Warm f_Step_init f_Step_word f_Step_span f_Cut_word f_Cut_span f_Warm_init f_Warm_word f_Rest_word f_Step_grown_way f_Step_grown)  : FnOk P w K mg base CX0 1 f fd ["thing"] spWhole := by
  have sc := scis_whole
  refine F.ok sc (fun vs H Q E h => ?_) (fun cdv A outer s H vs Q E hr h => ?_)
  · obtain ⟨v, rfl, _⟩ := h
    rfl
  obtain ⟨v, rfl, q⟩ := h
  refine ⟨_, (pss_one (ps_ret (pe_and (pe_callB call_isi rfl B.b_isinstance boot_isinstance (pa_cons (pv 0) (pa_cons (pe_bltn (v := .ty "int") rfl B.b_int boot_int rfl) pa_nil))) (pe_one (pe_not (pe_callB call_isi rfl B.b_isinstance boot_isinstance (pa_cons (pv 0) (pa_cons (pe_bltn (v := .ty "bool") rfl B.b_bool boot_bool rfl) pa_nil)))))))), ?_⟩
  refine ⟨_, rfl, _, _, _, rfl, .ii v, _, rfl, iteT ⟨_, rfl, _, _, _, rfl, .ib v, _, rfl, q⟩⟩

theorem scdivisor : FnScope ["one", "other", "greater", "lesser", "rest"] ["one", "other"] (defScope sdivisor) := ⟨rfl, rfl, rfl, by decide +kernel, rfl, by decide +kernel, by decide +kernel⟩
set_option maxHeartbeats 4000000 in
theorem okdivisor {dV : Value} (F : FunD K "divisor" "divisor" sdivisor dV f fd) (B : Bn K mg c_Cut c_Rest c_Step c_Warm f_Step_init f_Step_word f_Step_span f_Cut_word f_Cut_span f_Warm_init f_Warm_word f_Rest_word f_Step_grown_way f_Step_grown)  : FnOk P w K mg base CX0 1 f fd ["one", "other"] spDiv := by
  have sc := scdivisor
  refine F.ok sc (fun vs H Q E h => ?_) (fun cdv A outer s H vs Q E hr h => ?_)
  · obtain ⟨a, b, rfl, _⟩ := h
    rfl
  obtain ⟨a, b, rfl, q⟩ := h
  refine ⟨_, (pss_cons (ps_set (i := 2) sc.nd rfl (Or.inl rfl) (pe_callB call_abs rfl B.b_abs boot_abs (pa_cons (pv 0) pa_nil))) (pss_cons (ps_set (i := 3) sc.nd rfl (Or.inl rfl) (pe_callB call_abs rfl B.b_abs boot_abs (pa_cons (pv 1) pa_nil))) (pss_cons (ps_while PassesOwn.never (pt_cmpR op_ne (pv 3) pe_int (nomark _)) (pss_cons (ps_set (i := 4) sc.nd rfl (Or.inl rfl) (pe_op op_modN (pv 2) (pv 3))) (pss_cons (ps_set (i := 2) sc.nd rfl (Or.inl rfl) (pv 3)) (pss_one (ps_set (i := 3) sc.nd rfl (Or.inl rfl) (pv 4)))))) (pss_one (ps_ret (pv 2)))))), ?_⟩
  refine ⟨_, rfl, _, rfl, _, rfl, _, rfl, ?_⟩
  refine while_by (fun σ H' => H' = H ∧ ∃ (g l : Int) (r : Option V), σ = [some (.int a), some (.int b), some (.int g), some (.int l), r] ∧ 0 ≤ g ∧ 0 ≤ l ∧ gcdI g l = gcdI a b)
    (fun (σ : L2.St) (_ : Hp) => match σ[3]? with | some (some (V.int l)) => l.toNat | _ => 0) ⟨rfl, _, _, _, rfl, absI_nn a, absI_nn b, gcdI_abs a b⟩ ?_ (fun σ H Q Q' m ⟨v, e, s, k, hk, h2⟩ => ⟨v, e, s, k, hk, m _ _ h2⟩)
  rintro σ H' ⟨rfl, g, l, r, rfl, g0, l0, inv⟩
  refine ⟨_, rfl, rfl, _, rfl, n2I (fun c => ?_) (fun c => ?_)⟩
  · have lp : 0 < l := by omega
    refine ⟨_, rfl, _, rfl, _, _, rfl, rfl, c, _, rfl, _, rfl, ⟨rfl, l, g.fmod l, _, rfl, l0, Int.fmod_nonneg_of_pos g lp, ?_⟩, ?_⟩
    · rw [gcdI_fmod lp]; exact inv
    · have h1 := Int.fmod_lt_of_pos g lp
      have h2 := Int.fmod_nonneg_of_pos g lp
      show (g.fmod l).toNat < l.toNat
      omega
  · subst c
    rw [gcdI_zero g0] at inv
    rw [← inv] at q
    exact ⟨_, rfl, q⟩

theorem scfraction : FnScope ["top", "bottom", "common"] ["top", "bottom"] (defScope sfraction) := ⟨rfl, rfl, rfl, by decide +kernel, rfl, by decide +kernel, by decide +kernel⟩
set_option maxHeartbeats 4000000 in
theorem okfraction {dV : Value} (F : FunD K "fraction" "fraction" sfraction dV f fd) (B : Bn K mg c_Cut c_Rest c_Step c_Warm f_Step_init f_Step_word f_Step_span f_Cut_word f_Cut_span f_Warm_init f_Warm_word f_Rest_word f_Step_grown_way f_Step_grown) (Dis_whole : Dx P w K mg base CX0 1 "is_whole" ["thing"] [] spWhole) (Ddivisor : Dx P w K mg base CX0 1 "divisor" ["one", "other"] [] spDiv) : FnOk P w K mg base CX0 2 f fd ["top", "bottom"] spFr := by
  have sc := scfraction
  refine F.ok sc (fun vs H Q E h => ?_) (fun cdv A outer s H vs Q E hr h => ?_)
  · obtain ⟨a, b, rfl, _⟩ := h
    rfl
  obtain ⟨a, b, rfl, b0, hb, q⟩ := h
  refine ⟨_, (pss_cons (ps_if (PW.pt (pw_or (pt_not (pt_val (pcall0 Dis_whole hr (by decide) rfl (pa_cons (pv 0) pa_nil)))) (pw_or1 (pt_not (pt_val (pcall0 Dis_whole hr (by decide) rfl (pa_cons (pv 1) pa_nil))))))) (pss_one ps_never) pss_nil) (pss_cons (ps_if (pt_cmpR op_eq (pv 1) pe_int (nomark _)) (pss_one ps_never) pss_nil) (pss_cons (ps_set (i := 2) sc.nd rfl (Or.inl rfl) (pcall0 Ddivisor hr (by decide) rfl (pa_cons (pv 0) (pa_cons (pv 1) pa_nil)))) (pss_cons (ps_if (pt_cmpR op_lt (pv 1) pe_int (nomark _)) (pss_one (ps_set (i := 2) sc.nd rfl (Or.inl rfl) (pe_un un_neg (pv 2)))) pss_nil) (pss_one (ps_ret (pe_tup (pa_cons (pe_op op_fdivB (pv 0) (pv 2)) (pa_cons (pe_op op_fdivB (pv 1) (pv 2)) pa_nil))))))))), ?_⟩
  have c0 := frC_ne (a := a) b0
  have cb := frC_bd (a := a) b0 hb
  have f := fr_of (a := a) b0
  refine ⟨_, rfl, _, rfl, true, rfl, iteF ⟨_, rfl, _, rfl, true, rfl, iteF ?_⟩⟩
  refine ⟨_, rfl, rfl, _, rfl, dFI b0 ?_⟩
  refine ⟨_, rfl, _, rfl, _, _, rfl, ?_⟩
  refine ⟨_, rfl, _, _, rfl, rfl, _, rfl, d2 (fun c => ?_) (fun c => ?_)⟩
  · have e : frC a b = -gcdI a b := if_pos c
    rw [e] at c0 cb f
    exact ⟨_, rfl, _, rfl, _, rfl, _, rfl, _, _, rfl, rfl, ⟨c0, cb.div c0⟩, _, rfl, _, rfl, _, _, rfl, rfl, ⟨c0, cb.div c0⟩, (by show 2 ≤ sizeLine; decide), fun t ht => q _ _ f t _ (same_new ht _) upd_same⟩
  · have e : frC a b = gcdI a b := if_neg c
    rw [e] at c0 cb f
    exact ⟨_, rfl, _, rfl, _, _, rfl, rfl, ⟨c0, cb.div c0⟩, _, rfl, _, rfl, _, _, rfl, rfl, ⟨c0, cb.div c0⟩, (by show 2 ≤ sizeLine; decide), fun t ht => q _ _ f t _ (same_new ht _) upd_same⟩

theorem scproduct : FnScope ["one", "other"] ["one", "other"] (defScope sproduct) := ⟨rfl, rfl, rfl, by decide +kernel, rfl, by decide +kernel, by decide +kernel⟩
set_option maxHeartbeats 4000000 in
theorem okproduct {dV : Value} (F : FunD K "product" "product" sproduct dV f fd) (B : Bn K mg c_Cut c_Rest c_Step c_Warm f_Step_init f_Step_word f_Step_span f_Cut_word f_Cut_span f_Warm_init f_Warm_word f_Rest_word f_Step_grown_way f_Step_grown) (Dfraction : Dx P w K mg base CX0 2 "fraction" ["top", "bottom"] [.int 1] spFr) : FnOk P w K mg base CX0 3 f fd ["one", "other"] (spProd K) := by
  have sc := scproduct
  refine F.ok sc (fun vs H Q E h => ?_) (fun cdv A outer s H vs Q E hr h => ?_)
  · obtain ⟨t, t2, p, q, p2, q2, rfl, _⟩ := h
    rfl
  obtain ⟨t, t', p, q, p', q', rfl, h1, h2, qq⟩ := h
  refine ⟨_, (pss_one (ps_ret (pcall0 Dfraction hr (by decide) rfl (pa_cons (pe_op op_mulB (pe_ix ix_tup (pv 0) pe_int (fun _ _ => rfl)) (pe_ix ix_tup (pv 1) pe_int (fun _ _ => rfl))) (pa_cons (pe_op op_mulB (pe_ix ix_tup (pv 0) pe_int (fun _ _ => rfl)) (pe_ix ix_tup (pv 1) pe_int (fun _ _ => rfl))) pa_nil))))), ?_⟩
  exact ⟨_, rfl, _, _, _, _, rfl, rfl, h1.at_, rfl, _, rfl, _, _, _, _, rfl, rfl, h2.at_, rfl, _, _, rfl, rfl, h1.bp.ok h2.bp, _, rfl, _, _, _, _, rfl, rfl, h1.at_, rfl, _, rfl, _, _, _, _, rfl, rfl, h2.at_, rfl, _, _, rfl, rfl, h1.bq.ok h2.bq, _, _, rfl, mul_ne h1.pos h2.pos, (h1.bq.mul h2.bq).mono (by decide), qq⟩

theorem scround_up : FnScope ["one"] ["one"] (defScope sround_up) := ⟨rfl, rfl, rfl, by decide +kernel, rfl, by decide +kernel, by decide +kernel⟩
set_option maxHeartbeats 4000000 in
theorem okround_up {dV : Value} (F : FunD K "round_up" "round_up" sround_up dV f fd) (B : Bn K mg c_Cut c_Rest c_Step c_Warm f_Step_init f_Step_word f_Step_span f_Cut_word f_Cut_span f_Warm_init f_Warm_word f_Rest_word f_Step_grown_way f_Step_grown)  : FnOk P w K mg base CX0 1 f fd ["one"] (spUp K) := by
  have sc := scround_up
  refine F.ok sc (fun vs H Q E h => ?_) (fun cdv A outer s H vs Q E hr h => ?_)
  · obtain ⟨t, p, q, rfl, _⟩ := h
    rfl
  obtain ⟨t, p, q, rfl, h1, qq⟩ := h
  refine ⟨_, (pss_one (ps_ret (pe_un un_neg (pe_op op_fdivB (pe_un un_neg (pe_ix ix_tup (pv 0) pe_int (fun _ _ => rfl))) (pe_ix ix_tup (pv 0) pe_int (fun _ _ => rfl)))))), ?_⟩
  have q0 : q ≠ 0 := by have := h1.pos; omega
  exact ⟨_, rfl, _, _, _, _, rfl, rfl, h1.at_, rfl, _, rfl, _, rfl, _, _, _, _, rfl, rfl, h1.at_, rfl, _, _, rfl, rfl, ⟨q0, h1.bq.div q0⟩, _, rfl, qq⟩

theorem scgrown_length : FnScope ["length", "factor"] ["length", "factor"] (defScope sgrown_length) := ⟨rfl, rfl, rfl, by decide +kernel, rfl, by decide +kernel, by decide +kernel⟩
set_option maxHeartbeats 4000000 in
theorem okgrown_length {dV : Value} (F : FunD K "grown_length" "grown_length" sgrown_length dV f fd) (B : Bn K mg c_Cut c_Rest c_Step c_Warm f_Step_init f_Step_word f_Step_span f_Cut_word f_Cut_span f_Warm_init f_Warm_word f_Rest_word f_Step_grown_way f_Step_grown) (Dfraction : Dx P w K mg base CX0 2 "fraction" ["top", "bottom"] [.int 1] spFr) (Dproduct : Dx P w K mg base CX0 3 "product" ["one", "other"] [] (spProd K)) (Dround_up : Dx P w K mg base CX0 1 "round_up" ["one"] [] (spUp K)) : FnOk P w K mg base CX0 4 f fd ["length", "factor"] (spGrownLen K) := by
  have sc := scgrown_length
  refine F.ok sc (fun vs H Q E h => ?_) (fun cdv A outer s H vs Q E hr h => ?_)
  · obtain ⟨l, p, q, tf, rfl, _⟩ := h
    rfl
  obtain ⟨l, p, q, tf, rfl, ft, bl, k⟩ := h
  refine ⟨_, (pss_one (ps_ret (pcall0 Dround_up hr (by decide) rfl (pa_cons (pcall0 Dproduct hr (by decide) rfl (pa_cons (pcall0d Dfraction hr (by decide) rfl (pa_cons (pv 0) pa_nil)) (pa_cons (pv 1) pa_nil))) pa_nil)))), ?_⟩
  refine ⟨_, rfl, l, 1, rfl, (by decide), Bd.one.mono (by decide), fun a b f t1 H1 g1 e1 => ?_⟩
  obtain ⟨rfl, rfl⟩ := fr_whole f
  have F1 : FrIn K 210 H1 t1 a 1 := ⟨SqT.of e1, by decide, bl, Bd.one.mono (by decide)⟩
  have F2 := ft.same g1
  refine ⟨_, rfl, t1, tf, a, 1, p, q, rfl, F1.mono (by decide), F2.mono (by decide), fun r s F t2 H2 g2 e2 => ?_⟩
  have b1 : Bd 420 (a * p) := F1.bp.mul F2.bp
  have b2 : Bd 420 (1 * q) := F1.bq.mul F2.bq |>.mono (by decide)
  have F3 : FrIn K 420 H2 t2 r s := .of F b1 b2 e2
  refine ⟨t2, r, s, rfl, F3.mono (by decide), k _ _ (g1.trans g2) ?_⟩
  exact ⟨up_of F F2.pos, (fdiv_bd (F3.bp.mono (by decide)).neg).neg⟩

theorem scStep_init : FnScope ["self", "name", "least", "most", "uses", "second"] ["self", "name", "least", "most", "uses", "second"] (defScope sStep_init) := ⟨rfl, rfl, rfl, by decide +kernel, rfl, by decide +kernel, by decide +kernel⟩
set_option maxHeartbeats 4000000 in
theorem okStep_init {dV : Value} (F : FunD K "__init__" "Step.__init__" sStep_init dV f fd) (B : Bn K mg c_Cut c_Rest c_Step c_Warm f_Step_init f_Step_word f_Step_span f_Cut_word f_Cut_span f_Warm_init f_Warm_word f_Rest_word f_Step_grown_way f_Step_grown)  : FnOk P w K mg base CX0 1 f fd ["self", "name", "least", "most", "uses", "second"] (spInit2 K) := by
  have sc := scStep_init
  refine F.ok sc (fun vs H Q E h => ?_) (fun cdv A outer s H vs Q E hr h => ?_)
  · obtain ⟨a, C, dx, nm, l, m, uv, sv, us, c, rfl, _⟩ := h
    rfl
  obtain ⟨a, C, dx, nm, l, m, uv, sv, us, c, rfl, e0, sc0, hu, hs, q⟩ := h
  refine ⟨_, (pss_cons (ps_fld (pv 0) (pv 1) rfl) (pss_cons (ps_fld (pv 0) (pv 2) rfl) (pss_cons (ps_fld (pv 0) (pv 3) rfl) (pss_cons (ps_fld (pv 0) (pe_ifExp (pt_cmpR op_isN (pv 4) pe_non (nomark _)) (pe_lst pa_nil) (pe_callTy call_list_of rfl B.b_list boot_list (pa_cons (pv 4) pa_nil))) rfl) (pss_one (ps_fld (pv 0) (pe_ifExp (pt_cmpR op_isN (pv 5) pe_non (nomark _)) pe_non (pe_tup (pa_cons (pe_ix ix_tup (pv 5) pe_int (fun _ _ => rfl)) (pa_cons (pe_ix ix_tup (pv 5) pe_int (fun _ _ => rfl)) (pa_cons (pe_callTy call_list_of rfl B.b_list boot_list (pa_cons (pe_ix ix_tup (pv 5) pe_int (fun _ _ => rfl)) pa_nil)) pa_nil))))) rfl)))))), ?_⟩
  refine ⟨_, rfl, _, rfl, a, C, dx, _, rfl, e0, sc0.cl, sc0.name, (by decide), ?_⟩
  refine ⟨_, rfl, _, rfl, a, C, dx, _, rfl, upd_same, sc0.cl, sc0.least, (by have := length_putF "name" (.str nm) []; simp at this; omega), ?_⟩
  refine ⟨_, rfl, _, rfl, a, C, dx, _, rfl, upd_same, sc0.cl, sc0.most, (by have := length_putF "name" (.str nm) []; have := length_putF "least" (.int l) (putF "name" (.str nm) []); simp at *; omega), ?_⟩
  have k0 := (((Kept.refl H a).put (.ins C dx (putF "name" (.str nm) []))).put (.ins C dx (putF "least" (.int l) (putF "name" (.str nm) [])))).put (.ins C dx (putF "most" (.int m) (putF "least" (.int l) (putF "name" (.str nm) []))))
  have ea : (upd (upd (upd H a (.ins C dx (putF "name" (.str nm) []))) a (.ins C dx (putF "least" (.int l) (putF "name" (.str nm) [])))) a (.ins C dx (putF "most" (.int m) (putF "least" (.int l) (putF "name" (.str nm) []))))) a = some (.ins C dx (putF "most" (.int m) (putF "least" (.int l) (putF "name" (.str nm) [])))) := upd_same
  have fr0 : ∀ {b : Addr}, (upd (upd (upd H a (.ins C dx (putF "name" (.str nm) []))) a (.ins C dx (putF "least" (.int l) (putF "name" (.str nm) [])))) a (.ins C dx (putF "most" (.int m) (putF "least" (.int l) (putF "name" (.str nm) []))))) b = none → H b = none := fun {b} hb => by
    have n : b ≠ a := fun z => by rw [z, upd_same] at hb; cases hb
    rw [upd_ne n, upd_ne n, upd_ne n] at hb
    exact hb
  generalize upd (upd (upd H a (.ins C dx (putF "name" (.str nm) []))) a (.ins C dx (putF "least" (.int l) (putF "name" (.str nm) [])))) a (.ins C dx (putF "most" (.int m) (putF "least" (.int l) (putF "name" (.str nm) [])))) = H1 at k0 ea fr0 ⊢
  have l3 : (putF "most" (.int m) (putF "least" (.int l) (putF "name" (.str nm) []))).length ≤ 3 := by
    have h1 := length_putF "name" (.str nm) []
    have h2 := length_putF "least" (.int l) (putF "name" (.str nm) [])
    have h3 := length_putF "most" (.int m) (putF "least" (.int l) (putF "name" (.str nm) []))
    simp at h1
    omega
  obtain ⟨f3, ef3⟩ : ∃ f3, f3 = putF "most" (.int m) (putF "least" (.int l) (putF "name" (.str nm) [])) := ⟨_, rfl⟩
  rw [← ef3] at ea l3
  have ne : ∀ {b : Addr} {zs : List V}, H b = some (.lst zs) → b ≠ a := fun hb z => by subst z; rw [e0] at hb; cases hb
  have neT : ∀ {b : Addr} {zs : List V}, H b = some (.tup zs) → b ≠ a := fun hb z => by subst z; rw [e0] at hb; cases hb
  try dsimp only [gName, tNext]
  refine cut (fun σ H' => Kept H H' a ∧ σ = [some (.ref a), some (.str nm), some (.int l), some (.int m), some uv, some sv] ∧ ∃ u, u ≠ a ∧ H u = none ∧ H' u = some (.lst (us.map V.ref)) ∧ H' a = some (.ins C dx (putF "uses" (.ref u) f3)) ∧ ∀ b, H' b = none → H b = none) (fun N hN => ?_) ?_
  · rcases hu with ⟨rfl, rfl⟩ | ⟨lu, rfl, eu⟩
    · refine ⟨_, rfl, rfl, _, rfl, dT rfl ⟨(by show 0 ≤ sizeLine; decide), fun u nu => ?_⟩⟩
      have ua : u ≠ a := fun z => by rw [z, ea] at nu; cases nu
      refine ⟨_, rfl, a, C, dx, _, rfl, (by rw [upd_ne (Ne.symm ua)]; exact ea), sc0.cl, sc0.uses, (by omega), hN _ _ ⟨(k0.new nu _).put _, rfl, u, ua, fr0 nu, by rw [upd_ne ua]; exact upd_same, upd_same, fun b hb => ?_⟩⟩
      have n1 : b ≠ a := fun z => by rw [z, upd_same] at hb; cases hb
      have n2 : b ≠ u := fun z => by rw [z, upd_ne ua, upd_same] at hb; cases hb
      rw [upd_ne n1, upd_ne n2] at hb
      exact fr0 hb
    · refine ⟨_, rfl, rfl, _, rfl, dF (fun z => nomatch z) ⟨_, rfl, lu, _, rfl, .inl (SqL.of (k0 _ _ eu (ne eu))), fun u nu => ?_⟩⟩
      have ua : u ≠ a := fun z => by rw [z, ea] at nu; cases nu
      refine ⟨_, rfl, a, C, dx, _, rfl, (by rw [upd_ne (Ne.symm ua)]; exact ea), sc0.cl, sc0.uses, (by omega), hN _ _ ⟨(k0.new nu _).put _, rfl, u, ua, fr0 nu, by rw [upd_ne ua]; exact upd_same, upd_same, fun b hb => ?_⟩⟩
      have n1 : b ≠ a := fun z => by rw [z, upd_same] at hb; cases hb
      have n2 : b ≠ u := fun z => by rw [z, upd_ne ua, upd_same] at hb; cases hb
      rw [upd_ne n1, upd_ne n2] at hb
      exact fr0 hb
  rintro σ H2 ⟨k2, rfl, u, ua, nu, eu, ea2, fr2⟩
  have l4 := length_putF "uses" (.ref u) f3
  match c, hs with
  | none, hs =>
    have hs' : sv = .non := hs
    subst hs'
    refine ⟨_, rfl, rfl, _, rfl, dT rfl ⟨_, rfl, a, C, dx, _, rfl, ea2, sc0.cl, sc0.second, (by omega), ?_⟩⟩
    exact q u .non _ (k2.put _) ua nu (by rw [upd_ne ua]; exact eu) rfl (by rw [upd_same, ef3]; rfl)
  | some (x, y, vs), hs =>
    obtain ⟨t, l2, rfl, et, el⟩ := hs
    have et2 := k2 _ _ et (neT et)
    have el2 := k2 _ _ el (ne el)
    refine ⟨_, rfl, rfl, _, rfl, dF (fun z => nomatch z) ?_⟩
    refine ⟨_, rfl, _, _, _, _, rfl, rfl, SqT.of et2, rfl, _, rfl, _, _, _, _, rfl, rfl, SqT.of et2, rfl, _, rfl, _, _, _, _, rfl, rfl, SqT.of et2, rfl, l2, _, rfl, .inl (SqL.of el2), fun lc nc => ⟨(by show 3 ≤ sizeLine; decide), fun tc ntc => ?_⟩⟩
    have lca : lc ≠ a := fun z => by rw [z, ea2] at nc; cases nc
    have lcu : lc ≠ u := fun z => by rw [z, eu] at nc; cases nc
    have gc := same_new nc (.lst (vs.map V.ref))
    have gt := same_new ntc (.tup [.int x, .int y, .ref lc])
    have tca : tc ≠ a := fun z => by rw [z, gc _ _ ea2] at ntc; cases ntc
    have tcu : tc ≠ u := fun z => by rw [z, gc _ _ eu] at ntc; cases ntc
    refine ⟨_, rfl, a, C, dx, _, rfl, gt _ _ (gc _ _ ea2), sc0.cl, sc0.second, (by omega), ?_⟩
    refine q u (.ref tc) _ (((k2.new nc _).new ntc _).put _) ua nu (by rw [upd_ne ua]; exact gt _ _ (gc _ _ eu)) ⟨tc, lc, rfl, by rw [upd_ne tca]; exact upd_same, by rw [upd_ne lca]; exact gt _ _ upd_same, fr2 _ (gc.free ntc), fr2 _ nc⟩ (by rw [upd_same, ef3]; rfl)

theorem scStep_word : FnScope ["self"] ["self"] (defScope sStep_word) := ⟨rfl, rfl, rfl, by decide +kernel, rfl, by decide +kernel, by decide +kernel⟩
set_option maxHeartbeats 4000000 in
theorem okStep_word {dV : Value} (F : FunD K "word" "Step.word" sStep_word dV f fd) (B : Bn K mg c_Cut c_Rest c_Step c_Warm f_Step_init f_Step_word f_Step_span f_Cut_word f_Cut_span f_Warm_init f_Warm_word f_Rest_word f_Step_grown_way f_Step_grown)  : FnOk P w K mg base CX0 1 f fd ["self"] (spWord "step") := by
  have sc := scStep_word
  refine F.ok sc (fun vs H Q E h => ?_) (fun cdv A outer s H vs Q E hr h => ?_)
  · obtain ⟨x, rfl, _⟩ := h
    rfl
  obtain ⟨x, rfl, q⟩ := h
  refine ⟨_, (pss_one (ps_ret pe_str)), ?_⟩
  exact q

theorem scStep_span : FnScope ["self", "least", "most", "factor"] ["self", "least", "most", "factor"] (defScope sStep_span) := ⟨rfl, rfl, rfl, by decide +kernel, rfl, by decide +kernel, by decide +kernel⟩
set_option maxHeartbeats 4000000 in
theorem okStep_span {dV : Value} (F : FunD K "span" "Step.span" sStep_span dV f fd) (B : Bn K mg c_Cut c_Rest c_Step c_Warm f_Step_init f_Step_word f_Step_span f_Cut_word f_Cut_span f_Warm_init f_Warm_word f_Rest_word f_Step_grown_way f_Step_grown)  : FnOk P w K mg base CX0 1 f fd ["self", "least", "most", "factor"] (spSpan K false) := by
  have sc := scStep_span
  refine F.ok sc (fun vs H Q E h => ?_) (fun cdv A outer s H vs Q E hr h => ?_)
  · obtain ⟨x, l, m, p, q, tf, rfl, _⟩ := h
    rfl
  obtain ⟨x, l, m, p, q, tf, rfl, ft, bl, bm, k⟩ := h
  refine ⟨_, (pss_one (ps_ret (pe_tup (pa_cons (pv 1) (pa_cons (pv 2) pa_nil))))), ?_⟩
  exact ⟨_, rfl, _, rfl, (by show 2 ≤ sizeLine; decide), fun t nt => k t _ _ _ (same_new nt _) upd_same rfl rfl⟩

theorem scCut_word : FnScope ["self"] ["self"] (defScope sCut_word) := ⟨rfl, rfl, rfl, by decide +kernel, rfl, by decide +kernel, by decide +kernel⟩
set_option maxHeartbeats 4000000 in
theorem okCut_word {dV : Value} (F : FunD K "word" "Cut.word" sCut_word dV f fd) (B : Bn K mg c_Cut c_Rest c_Step c_Warm f_Step_init f_Step_word f_Step_span f_Cut_word f_Cut_span f_Warm_init f_Warm_word f_Rest_word f_Step_grown_way f_Step_grown)  : FnOk P w K mg base CX0 1 f fd ["self"] (spWord "cut") := by
  have sc := scCut_word
  refine F.ok sc (fun vs H Q E h => ?_) (fun cdv A outer s H vs Q E hr h => ?_)
  · obtain ⟨x, rfl, _⟩ := h
    rfl
  obtain ⟨x, rfl, q⟩ := h
  refine ⟨_, (pss_one (ps_ret pe_str)), ?_⟩
  exact q

theorem scCut_span : FnScope ["self", "least", "most", "factor"] ["self", "least", "most", "factor"] (defScope sCut_span) := ⟨rfl, rfl, rfl, by decide +kernel, rfl, by decide +kernel, by decide +kernel⟩
set_option maxHeartbeats 4000000 in
theorem okCut_span {dV : Value} (F : FunD K "span" "Cut.span" sCut_span dV f fd) (B : Bn K mg c_Cut c_Rest c_Step c_Warm f_Step_init f_Step_word f_Step_span f_Cut_word f_Cut_span f_Warm_init f_Warm_word f_Rest_word f_Step_grown_way f_Step_grown) (Dgrown_length : Dx P w K mg base CX0 4 "grown_length" ["length", "factor"] [] (spGrownLen K)) : FnOk P w K mg base CX0 5 f fd ["self", "least", "most", "factor"] (spSpan K true) := by
  have sc := scCut_span
  refine F.ok sc (fun vs H Q E h => ?_) (fun cdv A outer s H vs Q E hr h => ?_)
  · obtain ⟨x, l, m, p, q, tf, rfl, _⟩ := h
    rfl
  obtain ⟨x, l, m, p, q, tf, rfl, ft, bl, bm, k⟩ := h
  refine ⟨_, (pss_one (ps_ret (pe_tup (pa_cons (pcall0 Dgrown_length hr (by decide) rfl (pa_cons (pv 1) (pa_cons (pv 3) pa_nil))) (pa_cons (pcall0 Dgrown_length hr (by decide) rfl (pa_cons (pv 2) (pa_cons (pv 3) pa_nil))) pa_nil))))), ?_⟩
  refine ⟨_, rfl, _, rfl, l, p, q, tf, rfl, ft, bl, fun n H1 g1 gn => ?_⟩
  refine ⟨_, rfl, _, rfl, m, p, q, tf, rfl, ft.same g1, bm, fun n2 H2 g2 gn2 => ?_⟩
  exact ⟨(by show 2 ≤ sizeLine; decide), fun t nt => k t _ _ _ ((g1.trans g2).trans (same_new nt _)) upd_same gn gn2⟩

theorem scWarm_init : FnScope ["self", "name", "least", "most", "fill", "uses", "second"] ["self", "name", "least", "most", "fill", "uses", "second"] (defScope sWarm_init) := ⟨rfl, rfl, rfl, by decide +kernel, rfl, by decide +kernel, by decide +kernel⟩
set_option maxHeartbeats 4000000 in
theorem okWarm_init {dV : Value} (F : FunD K "__init__" "Warm.__init__" sWarm_init dV f fd) (B : Bn K mg c_Cut c_Rest c_Step c_Warm f_Step_init f_Step_word f_Step_span f_Cut_word f_Cut_span f_Warm_init f_Warm_word f_Rest_word f_Step_grown_way f_Step_grown) (DStep_init : DxM P w K mg base CX0 1 f_Step_init ["self", "name", "least", "most", "uses", "second"] [.non, .non] (spInit2 K)) : FnOk P w K mg base CX0 2 f fd ["self", "name", "least", "most", "fill", "uses", "second"] (spWarm2 K) := by
  have sc := scWarm_init
  refine F.ok sc (fun vs H Q E h => ?_) (fun cdv A outer s H vs Q E hr h => ?_)
  · obtain ⟨a, C, dx, nm, l, m, fl, uv, sv, us, c, rfl, _⟩ := h
    rfl
  obtain ⟨a, C, dx, nm, l, m, fl, uv, sv, us, c, rfl, e0, sc0, nf, hu, hs, q⟩ := h
  refine ⟨_, (pss_cons (ps_expr (pclsm B.cm_Step___init__ DStep_init hr (by decide) rfl B.m_Step (pa_cons (pv 0) (pa_cons (pv 1) (pa_cons (pv 2) (pa_cons (pv 3) (pa_cons (pv 5) (pa_cons (pv 6) pa_nil)))))))) (pss_one (ps_fld (pv 0) (pv 4) rfl))), ?_⟩
  refine ⟨_, rfl, _, rfl, _, rfl, _, rfl, _, rfl, _, rfl, a, C, dx, nm, l, m, uv, sv, us, c, rfl, e0, sc0, hu, hs, fun u s H1 k1 ua nu eu hs1 ea => ?_⟩
  refine ⟨_, rfl, _, rfl, a, C, dx, _, rfl, ea, sc0.cl, nf, (by have := stepF_len (nm := .str nm) (l := .int l) (m := .int m) (u := .ref u) (s := s); omega), ?_⟩
  exact q u s _ (k1.put _) ua nu (by rw [upd_ne ua]; exact eu) (hs1.self ea) upd_same

theorem scWarm_word : FnScope ["self"] ["self"] (defScope sWarm_word) := ⟨rfl, rfl, rfl, by decide +kernel, rfl, by decide +kernel, by decide +kernel⟩
set_option maxHeartbeats 4000000 in
theorem okWarm_word {dV : Value} (F : FunD K "word" "Warm.word" sWarm_word dV f fd) (B : Bn K mg c_Cut c_Rest c_Step c_Warm f_Step_init f_Step_word f_Step_span f_Cut_word f_Cut_span f_Warm_init f_Warm_word f_Rest_word f_Step_grown_way f_Step_grown)  : FnOk P w K mg base CX0 1 f fd ["self"] (spWord "warm") := by
  have sc := scWarm_word
  refine F.ok sc (fun vs H Q E h => ?_) (fun cdv A outer s H vs Q E hr h => ?_)
  · obtain ⟨x, rfl, _⟩ := h
    rfl
  obtain ⟨x, rfl, q⟩ := h
  refine ⟨_, (pss_one (ps_ret pe_str)), ?_⟩
  exact q

theorem scRest_word : FnScope ["self"] ["self"] (defScope sRest_word) := ⟨rfl, rfl, rfl, by decide +kernel, rfl, by decide +kernel, by decide +kernel⟩
set_option maxHeartbeats 4000000 in
theorem okRest_word {dV : Value} (F : FunD K "word" "Rest.word" sRest_word dV f fd) (B : Bn K mg c_Cut c_Rest c_Step c_Warm f_Step_init f_Step_word f_Step_span f_Cut_word f_Cut_span f_Warm_init f_Warm_word f_Rest_word f_Step_grown_way f_Step_grown)  : FnOk P w K mg base CX0 1 f fd ["self"] (spWord "rest") := by
  have sc := scRest_word
  refine F.ok sc (fun vs H Q E h => ?_) (fun cdv A outer s H vs Q E hr h => ?_)
  · obtain ⟨x, rfl, _⟩ := h
    rfl
  obtain ⟨x, rfl, q⟩ := h
  refine ⟨_, (pss_one (ps_ret pe_str)), ?_⟩
  exact q

theorem scStep_grown_way : FnScope ["self", "least", "most", "uses", "factor", "lengths"] ["self", "least", "most", "uses", "factor"] (defScope sStep_grown_way) := ⟨rfl, rfl, rfl, by decide +kernel, rfl, by decide +kernel, by decide +kernel⟩
set_option maxHeartbeats 4000000 in
theorem okStep_grown_way {dV : Value} (F : FunD K "grown_way" "Step.grown_way" sStep_grown_way dV f fd) (B : Bn K mg c_Cut c_Rest c_Step c_Warm f_Step_init f_Step_word f_Step_span f_Cut_word f_Cut_span f_Warm_init f_Warm_word f_Rest_word f_Step_grown_way f_Step_grown) (DStep_span : DxM P w K mg base CX0 1 f_Step_span ["self", "least", "most", "factor"] [] (spSpan K false)) (DCut_span : DxM P w K mg base CX0 5 f_Cut_span ["self", "least", "most", "factor"] [] (spSpan K true)) : FnOk P w K mg base CX0 6 f fd ["self", "least", "most", "uses", "factor"] (spWayG K f_Step_grown f_Step_grown_way f_Step_span f_Cut_span) := by
  have sc := scStep_grown_way
  refine F.ok sc (fun vs H Q E h => ?_) (fun cdv A outer s H vs Q E hr h => ?_)
  · obtain ⟨x, C, dx, lu, tf, l, m, p, q, us, f, ff, ct, rfl, _⟩ := h
    rfl
  obtain ⟨x, C, dx, lu, tf, l, m, p, q, us, f, ff, ct, rfl, ex, ns, sm, ft, bl, bm, eu, ul, k⟩ := h
  refine ⟨_, (pss_cons (ps_set (i := 5) sc.nd rfl (Or.inl rfl) (pe_either (pmeth0 (pv 0) DStep_span hr (by decide) (pa_cons (pv 1) (pa_cons (pv 2) (pa_cons (pv 4) pa_nil)))) (pmeth0 (pv 0) DCut_span hr (by decide) (pa_cons (pv 1) (pa_cons (pv 2) (pa_cons (pv 4) pa_nil)))))) (pss_one (ps_ret (pe_tup (pa_cons (pe_ix ix_tup (pv 5) pe_int (fun _ _ => rfl)) (pa_cons (pe_ix ix_tup (pv 5) pe_int (fun _ _ => rfl)) (pa_cons (pe_callB call_sortT rfl B.b_sorted PyProof.Rows.Boot.«sorted» (pa_cons (pv 3) pa_nil)) pa_nil))))))), ?_⟩
  try dsimp only [gName, tNext]
  refine cut (fun σ H' => Same H H' ∧ ∃ (t : Addr) (n n2 : Int), σ = [some (.ref x), some (.int l), some (.int m), some (.ref lu), some (.ref tf), some (.ref t)] ∧ H' t = some (.tup [.int n, .int n2]) ∧ Grw ct l p q n ∧ Grw ct m p q n2) (fun N hN => ?_) ?_
  · cases ct with
    | false => exact .inl ⟨_, rfl, x, C, dx, ff, rfl, ex, sm.c.cl, sm.span, ns, _, rfl, _, rfl, _, rfl, _, l, m, p, q, tf, rfl, ft, bl, bm, fun t H1 n n2 g1 e1 gn gn2 => hN _ _ ⟨g1, t, n, n2, rfl, e1, gn, gn2⟩⟩
    | true => exact .inr ⟨_, rfl, x, C, dx, ff, rfl, ex, sm.c.cl, sm.span, ns, _, rfl, _, rfl, _, rfl, _, l, m, p, q, tf, rfl, ft, bl, bm, fun t H1 n n2 g1 e1 gn gn2 => hN _ _ ⟨g1, t, n, n2, rfl, e1, gn, gn2⟩⟩
  rintro σ H1 ⟨g1, t, n, n2, rfl, e1, gn, gn2⟩
  refine ⟨_, rfl, _, _, _, _, rfl, rfl, SqT.of e1, rfl, _, rfl, _, _, _, _, rfl, rfl, SqT.of e1, rfl, _, rfl, lu, us, f, rfl, g1 _ _ eu, (ul.same g1).tup, ul.nd, ul.sm, fun ls bs nl pr sr => ?_⟩
  refine ⟨(by show 3 ≤ sizeLine; decide), fun t2 nt => ?_⟩
  exact k t2 _ ((g1.trans (same_new nl _)).trans (same_new nt _)) ⟨n, n2, ls, bs, upd_same, same_new nt _ _ _ upd_same, gn, gn2, ⟨pr, sr⟩, g1.free nl⟩

theorem scStep_grown : FnScope ["self", "factor", "ways"] ["self", "factor"] (defScope sStep_grown) := ⟨rfl, rfl, rfl, by decide +kernel, rfl, by decide +kernel, by decide +kernel⟩
set_option maxHeartbeats 4000000 in
theorem okStep_grown {dV : Value} (F : FunD K "grown" "Step.grown" sStep_grown dV f fd) (B : Bn K mg c_Cut c_Rest c_Step c_Warm f_Step_init f_Step_word f_Step_span f_Cut_word f_Cut_span f_Warm_init f_Warm_word f_Rest_word f_Step_grown_way f_Step_grown) (DStep_grown_way : DxM P w K mg base CX0 6 f_Step_grown_way ["self", "least", "most", "uses", "factor"] [] (spWayG K f_Step_grown f_Step_grown_way f_Step_span f_Cut_span)) : FnOk P w K mg base CX0 7 f fd ["self", "factor"] (spGrownS K f_Step_grown f_Step_grown_way f_Step_span f_Cut_span) := by
  have sc := scStep_grown
  refine F.ok sc (fun vs H Q E h => ?_) (fun cdv A outer s H vs Q E hr h => ?_)
  · obtain ⟨x, C, tf, nm, l, m, p, q, us, c, f, ct, rfl, _⟩ := h
    rfl
  obtain ⟨x, C, tf, nm, l, m, p, q, us, c, f, ct, rfl, st, sm, ft, hd, k⟩ := h
  refine ⟨_, (pss_cons (ps_set (i := 2) sc.nd rfl (Or.inl rfl) (pe_lst (pa_cons (pmeth0 (pv 0) DStep_grown_way hr (by decide) (pa_cons (pe_fld (pv 0) rfl) (pa_cons (pe_fld (pv 0) rfl) (pa_cons (pe_fld (pv 0) rfl) (pa_cons (pv 1) pa_nil))))) pa_nil))) (pss_cons (ps_if (pt_cmpR op_notN (pe_fld (pv 0) rfl) pe_non (nomark _)) (pss_one (ps_expr (pe_bm PySem.F.plainAttrs_list PySem.F.slot_list_append PySem.F.type_list_append mt_append (pv 2) (pa_cons (pmeth0 (pv 0) DStep_grown_way hr (by decide) (pa_cons (pe_ix ix_tup (pe_fld (pv 0) rfl) pe_int (fun _ _ => rfl)) (pa_cons (pe_ix ix_tup (pe_fld (pv 0) rfl) pe_int (fun _ _ => rfl)) (pa_cons (pe_ix ix_tup (pe_fld (pv 0) rfl) pe_int (fun _ _ => rfl)) (pa_cons (pv 1) pa_nil))))) pa_nil)))) pss_nil) (pss_one (ps_ret (pv 2))))), ?_⟩
  obtain ⟨dx, u, s, ff, ex, sf, eu, hs⟩ := st.ex
  have FL : ∀ {H1 : Hp}, Same H H1 → H1 x = some (.ins C dx ff) := fun g => g _ _ ex
  have h0 := hd (l, m, us) (by cases c <;> simp [duesOf])
  refine ⟨_, rfl, x, C, dx, ff, rfl, ex, sm.c.cl, sm.way, sf.way, _, rfl, x, C, dx, ff, _, rfl, ex, sm.c.cl, sm.c.least, sf.least, _, rfl, x, C, dx, ff, _, rfl, ex, sm.c.cl, sm.c.most, sf.most, _, rfl, x, C, dx, ff, _, rfl, ex, sm.c.cl, sm.c.uses, sf.uses, _, rfl, x, C, dx, u, tf, l, m, p, q, us, f, ff, ct, rfl, ex, sf.span, sm, ft, h0.1, h0.2.1, eu, h0.2.2, fun t H1 g1 w1 => ?_⟩
  refine ⟨(by show 1 ≤ sizeLine; decide), fun lw nl => ?_⟩
  have g2 := g1.trans (same_new nl (.lst [.ref t]))
  have ex2 := FL g2
  have w2 := w1.same (same_new nl (.lst [.ref t]))
  match c, hs, hd, k with
  | none, hs, hd, k =>
    have hs' : s = .non := hs
    subst hs'
    refine ⟨_, rfl, x, C, dx, ff, _, rfl, ex2, sm.c.cl, sm.c.second, sf.second, rfl, _, rfl, nF rfl ⟨_, rfl, k lw _ g2 ⟨[t], upd_same, rfl, g1.free nl, fun i t' d e1 e2 => ?_, ?_⟩⟩⟩
    · match i, e1, e2 with
      | 0, e1, e2 => cases e1; cases e2; exact w2
    obtain ⟨n1, k1, ls1, bs1, j1, j2, _⟩ := w1.ex
    intro i j t' t'' n k n' k' ls ls' e1 e2 e3 e4
    match i, j, e1, e2 with
    | 0, 0, e1, e2 =>
      cases e1
      rw [same_new nl _ _ _ j1] at e3
      cases e3
      exact ⟨ne_of_none j2 nl, fun z => absurd rfl z⟩
  | some (l', m', us'), hs, hd, k =>
    obtain ⟨t2, l2, rfl, et, el⟩ := hs
    have h1 := hd (l', m', us') (by simp [duesOf])
    have et2 := g2 _ _ et
    have el2 := g2 _ _ el
    have elw : upd H1 lw (.lst [.ref t]) lw = some (.lst [.ref t]) := upd_same
    refine ⟨_, rfl, x, C, dx, ff, _, rfl, ex2, sm.c.cl, sm.c.second, sf.second, rfl, _, rfl, nT (fun z => nomatch z) ?_⟩
    refine ⟨_, rfl, .inl ⟨rfl, _, SqL.of elw⟩, _, rfl, x, C, dx, ff, rfl, ex2, sm.c.cl, sm.way, sf.way, _, rfl, x, C, dx, ff, _, rfl, ex2, sm.c.cl, sm.c.second, sf.second, _, _, _, _, rfl, rfl, SqT.of et2, rfl, _, rfl, x, C, dx, ff, _, rfl, ex2, sm.c.cl, sm.c.second, sf.second, _, _, _, _, rfl, rfl, SqT.of et2, rfl, _, rfl, x, C, dx, ff, _, rfl, ex2, sm.c.cl, sm.c.second, sf.second, _, _, _, _, rfl, rfl, SqT.of et2, rfl, _, rfl, x, C, dx, l2, tf, l', m', p, q, us', f, ff, ct, rfl, ex2, sf.span, sm, ft.same g2, h1.1, h1.2.1, el2, h1.2.2.same g2, fun t3 H3 g3 w3 => ?_⟩
    refine ⟨lw, _, _, rfl, rfl, g3 _ _ elw, (by show 1 < sizeLine; decide), ?_⟩
    have g4 : Same H (upd H3 lw (.lst ([.ref t] ++ [.ref t3]))) := sUpd (g2.trans g3) (g1.free nl) _
    refine ⟨_, rfl, k lw _ g4 ⟨[t, t3], upd_same, rfl, g1.free nl, fun i t' d e1 e2 => ?_, ?_⟩⟩
    · match i, e1, e2 with
      | 0, e1, e2 => cases e1; cases e2; exact w1.putA nl ((same_new nl _).trans g3)
      | 1, e1, e2 => cases e1; cases e2; exact w3.putB elw (g3 _ _ elw) g2
    obtain ⟨n1, k1, ls1, bs1, j1, j2, _⟩ := w1.ex
    obtain ⟨n3, k3, ls3, bs3, i1, i2, _, _, _, i6⟩ := w3.ex
    have j1' := g3 _ _ (same_new nl (.lst [.ref t]) _ _ j1)
    have p1 : upd H3 lw (.lst ([.ref t] ++ [.ref t3])) t = some (.tup [.int n1, .int k1, .ref ls1]) := by
      rw [upd_ne (fun z => by rw [z, g3 _ _ elw] at j1'; cases j1')]
      exact j1'
    have p3 : upd H3 lw (.lst ([.ref t] ++ [.ref t3])) t3 = some (.tup [.int n3, .int k3, .ref ls3]) := by
      rw [upd_ne (fun z => by rw [z, g3 _ _ elw] at i1; cases i1)]
      exact i1
    have d1 : ls1 ≠ lw := ne_of_none j2 nl
    have d3 : ls3 ≠ lw := fun z => by rw [z, elw] at i6; cases i6
    have d13 : ls1 ≠ ls3 := ne_of_none (same_new nl (.lst [.ref t]) _ _ j2) i6
    intro i j t' t'' n k n' k' ls ls' e1 e2 e3 e4
    match i, j, e1, e2 with
    | 0, 0, e1, e2 => cases e1; rw [p1] at e3; cases e3; exact ⟨d1, fun z => absurd rfl z⟩
    | 0, 1, e1, e2 => cases e1; cases e2; rw [p1] at e3; cases e3; rw [p3] at e4; cases e4; exact ⟨d1, fun _ => d13⟩
    | 1, 0, e1, e2 => cases e1; cases e2; rw [p3] at e3; cases e3; rw [p1] at e4; cases e4; exact ⟨d3, fun _ => d13.symm⟩
    | 1, 1, e1, e2 => cases e1; rw [p3] at e3; cases e3; exact ⟨d3, fun z => absurd rfl z⟩

theorem sc_law_cell_at : FnScope ["_law_script", "_law_k"] ["_law_script", "_law_k"] (defScope s_law_cell_at) := ⟨rfl, rfl, rfl, by decide +kernel, rfl, by decide +kernel, by decide +kernel⟩
set_option maxHeartbeats 4000000 in
theorem ok_law_cell_at {dV : Value} (F : FunD K "_law_cell_at" "_law_cell_at" s_law_cell_at dV f fd) (B : Bn K mg c_Cut c_Rest c_Step c_Warm f_Step_init f_Step_word f_Step_span f_Cut_word f_Cut_span f_Warm_init f_Warm_word f_Rest_word f_Step_grown_way f_Step_grown)  : FnOk P w K mg base CX0 1 f fd ["_law_script", "_law_k"] (spCell K) := by
  have sc := sc_law_cell_at
  refine F.ok sc (fun vs H Q E h => ?_) (fun cdv A outer s H vs Q E hr h => ?_)
  · obtain ⟨a, ns, k, rfl, _⟩ := h
    rfl
  obtain ⟨a, ns, k, rfl, hS, h0, q⟩ := h
  refine ⟨_, (pss_cons (ps_if (pt_cmpR op_lt (pv 1) (pe_callB call_len_seq rfl B.b_len boot_len (pa_cons (pv 0) pa_nil)) (nomark _)) (pss_one (ps_ret (pe_ix ix_list (pv 0) (pv 1) (fun _ _ => rfl)))) pss_nil) (pss_one (ps_ret pe_int))), ?_⟩
  refine ⟨_, rfl, _, rfl, a, _, rfl, .inl hS, _, _, rfl, rfl, _, rfl, d2 (fun c => ?_) (fun c => ?_)⟩
  · obtain ⟨v, hv⟩ := cell_ok h0 c
    exact ⟨_, rfl, _, rfl, a, _, _, _, rfl, rfl, hS, hv, q v⟩
  · exact q 0

theorem sc_law_whole : FnScope ["_law_found"] ["_law_found"] (defScope s_law_whole) := ⟨rfl, rfl, rfl, by decide +kernel, rfl, by decide +kernel, by decide +kernel⟩
set_option maxHeartbeats 4000000 in
theorem ok_law_whole {dV : Value} (F : FunD K "_law_whole" "_law_whole" s_law_whole dV f fd) (B : Bn K mg c_Cut c_Rest c_Step c_Warm f_Step_init f_Step_word f_Step_span f_Cut_word f_Cut_span f_Warm_init f_Warm_word f_Rest_word f_Step_grown_way f_Step_grown)  : FnOk P w K mg base CX0 1 f fd ["_law_found"] spWhole := by
  have sc := sc_law_whole
  refine F.ok sc (fun vs H Q E h => ?_) (fun cdv A outer s H vs Q E hr h => ?_)
  · obtain ⟨v, rfl, _⟩ := h
    rfl
  obtain ⟨v, rfl, q⟩ := h
  refine ⟨_, (pss_one (ps_ret (pe_and (pe_callB call_isi rfl B.b_isinstance boot_isinstance (pa_cons (pv 0) (pa_cons (pe_bltn (v := .ty "int") rfl B.b_int boot_int rfl) pa_nil))) (pe_one (pe_not (pe_callB call_isi rfl B.b_isinstance boot_isinstance (pa_cons (pv 0) (pa_cons (pe_bltn (v := .ty "bool") rfl B.b_bool boot_bool rfl) pa_nil)))))))), ?_⟩
  refine ⟨_, rfl, _, _, _, rfl, .ii v, _, rfl, iteT ⟨_, rfl, _, _, _, rfl, .ib v, _, rfl, q⟩⟩

theorem sc_law_common : FnScope ["_law_one", "_law_other", "_law_rest"] ["_law_one", "_law_other"] (defScope s_law_common) := ⟨rfl, rfl, rfl, by decide +kernel, rfl, by decide +kernel, by decide +kernel⟩
set_option maxHeartbeats 4000000 in
theorem ok_law_common {dV : Value} (F : FunD K "_law_common" "_law_common" s_law_common dV f fd) (B : Bn K mg c_Cut c_Rest c_Step c_Warm f_Step_init f_Step_word f_Step_span f_Cut_word f_Cut_span f_Warm_init f_Warm_word f_Rest_word f_Step_grown_way f_Step_grown)  : FnOk P w K mg base CX0 1 f fd ["_law_one", "_law_other"] spDivP := by
  have sc := sc_law_common
  refine F.ok sc (fun vs H Q E h => ?_) (fun cdv A outer s H vs Q E hr h => ?_)
  · obtain ⟨a, b, rfl, _⟩ := h
    rfl
  obtain ⟨a, b, rfl, a0, b0, q⟩ := h
  refine ⟨_, (pss_cons (ps_while PassesOwn.never (pt_cmpR op_gt (pv 1) pe_int (nomark _)) (pss_cons (ps_set (i := 2) sc.nd rfl (Or.inl rfl) (pe_op op_modN (pv 0) (pv 1))) (pss_cons (ps_set (i := 0) sc.nd rfl (Or.inl rfl) (pv 1)) (pss_one (ps_set (i := 1) sc.nd rfl (Or.inl rfl) (pv 2)))))) (pss_one (ps_ret (pv 0)))), ?_⟩
  refine while_by (fun σ H' => H' = H ∧ ∃ (g l : Int) (r : Option V), σ = [some (.int g), some (.int l), r] ∧ 0 ≤ g ∧ 0 ≤ l ∧ gcdI g l = gcdI a b)
    (fun (σ : L2.St) (_ : Hp) => match σ[1]? with | some (some (V.int l)) => l.toNat | _ => 0) ⟨rfl, _, _, _, rfl, a0, b0, rfl⟩ ?_ (fun σ H Q Q' m ⟨v, e, i, j, e1, e2, k, hk, h2⟩ => ⟨v, e, i, j, e1, e2, k, hk, m _ _ h2⟩)
  rintro σ H' ⟨rfl, g, l, r, rfl, g0, l0, inv⟩
  refine ⟨_, rfl, _, _, rfl, rfl, _, rfl, d2 (fun c => ?_) (fun c => ?_)⟩
  · have lp : 0 < l := c
    refine ⟨_, rfl, _, rfl, _, _, rfl, rfl, (by omega), _, rfl, _, rfl, ⟨rfl, l, g.fmod l, _, rfl, l0, Int.fmod_nonneg_of_pos g lp, ?_⟩, ?_⟩
    · rw [gcdI_fmod lp]; exact inv
    · have h1 := Int.fmod_lt_of_pos g lp
      have h2 := Int.fmod_nonneg_of_pos g lp
      show (g.fmod l).toNat < l.toNat
      omega
  · have c : l = 0 := by omega
    subst c
    rw [gcdI_zero g0] at inv
    rw [← inv] at q
    exact ⟨_, rfl, q⟩

theorem sc_law_stream : FnScope ["_law_cell", "_law_many", "_law_number_here", "_law_found", "_law_k"] ["_law_cell", "_law_many"] (defScope s_law_stream) := ⟨rfl, rfl, rfl, by decide +kernel, rfl, by decide +kernel, by decide +kernel⟩
set_option maxHeartbeats 4000000 in
theorem ok_law_stream {dV : Value} (F : FunD K "_law_stream" "_law_stream" s_law_stream dV f fd) (B : Bn K mg c_Cut c_Rest c_Step c_Warm f_Step_init f_Step_word f_Step_span f_Cut_word f_Cut_span f_Warm_init f_Warm_word f_Rest_word f_Step_grown_way f_Step_grown)  : FnOk P w K mg base CX0 1 f fd ["_law_cell", "_law_many"] spStream := by
  have sc := sc_law_stream
  refine F.ok sc (fun vs H Q E h => ?_) (fun cdv A outer s H vs Q E hr h => ?_)
  · obtain ⟨c, m, rfl, _⟩ := h
    rfl
  obtain ⟨c, m, rfl, m0, m1, q⟩ := h
  have s4 : (5000 : Nat) ≤ sizeLine := by decide
  refine ⟨_, (pss_cons (ps_set (i := 2) sc.nd rfl (Or.inl rfl) (pe_op op_modN (pv 0) pe_int)) (pss_cons (ps_set (i := 3) sc.nd rfl (Or.inl rfl) (pe_lst pa_nil)) (pss_cons (ps_for PassesOwn.never rfl (pi_range1 rfl B.b_range (pa_cons (pe_op op_add (pv 1) pe_int) pa_nil)) (pg_name (i := 4) sc.nd rfl (Or.inl rfl)) (pss_cons (ps_set (i := 2) sc.nd rfl (Or.inl rfl) (pe_op op_modN (pe_op op_add (pe_op op_add (pe_op op_mulB (pv 2) pe_int) pe_int) (pv 4)) pe_int)) (pss_one (ps_expr (pe_bm PySem.F.plainAttrs_list PySem.F.slot_list_append PySem.F.type_list_append mt_append (pv 3) (pa_cons (pe_op op_fdivB (pv 2) pe_int) pa_nil)))))) (pss_one (ps_ret (pe_slice sl_list (pv 3) (po_some pe_int) po_none)))))), ?_⟩
  refine ⟨_, rfl, _, _, rfl, rfl, (by show (2147483647 : Int) ≠ 0; decide), ?_⟩
  have a0 := Int.fmod_nonneg_of_pos c (show (0 : Int) < 2147483647 by decide)
  have a1 := Int.fmod_lt_of_pos c (show (0 : Int) < 2147483647 by decide)
  refine ⟨(by show 0 ≤ sizeLine; decide), fun l nl => ?_⟩
  try dsimp only [gName, tNext]
  refine cut (fun σ H' => ∃ (xs : List Int) (n : Int) (o4 : Option V), σ = [some (.int c), some (.int m), some (.int n), some (.ref l), o4] ∧ Same H H' ∧ H' l = some (.lst (xs.map V.int)) ∧ (xs.length : Int) = m + 1 ∧ ∀ x ∈ xs, 0 ≤ x ∧ x < 2 ^ 31) (fun N hN => ?_) ?_
  · refine ⟨_, rfl, _, _, rfl, rfl, _, rfl, (by omega), (by omega), for_range (fun i σ H' => ∃ (xs : List Int) (n : Int) (o4 : Option V), σ = [some (.int c), some (.int m), some (.int n), some (.ref l), o4] ∧ Same H H' ∧ H' l = some (.lst (xs.map V.int)) ∧ xs.length = i ∧ (∀ x ∈ xs, 0 ≤ x ∧ x < 2 ^ 31) ∧ 0 ≤ n ∧ n < 2147483647) ⟨[], _, none, rfl, same_new nl _, upd_same, rfl, by simp, a0, a1⟩ (fun i σ H2 hi hP => ?_) (fun σ H2 hP => ?_)⟩
    · obtain ⟨xs, n, o4, rfl, g, e, hl, hx, n0, n1⟩ := hP
      have nb : Bd 31 n := by unfold Bd; omega
      refine ⟨_, rfl, _, _, rfl, rfl, nb.ok (show Bd 16 48271 by unfold Bd; decide), _, _, rfl, rfl, _, rfl, _, _, rfl, rfl, _, _, rfl, rfl, (by show (2147483647 : Int) ≠ 0; decide), ?_⟩
      have b0 := Int.fmod_nonneg_of_pos (n * 48271 + 7919 + (0 + (i : Int))) (show (0 : Int) < 2147483647 by decide)
      have b1 := Int.fmod_lt_of_pos (n * 48271 + 7919 + (0 + (i : Int))) (show (0 : Int) < 2147483647 by decide)
      refine ⟨_, rfl, .inl ⟨rfl, _, SqL.of e⟩, _, rfl, _, _, rfl, rfl, ⟨by decide, PyProof.noPylong_small (by decide)⟩, l, _, _, rfl, rfl, e, (by rw [List.length_map]; omega), ?_⟩
      refine ⟨xs ++ [((n * 48271 + 7919 + (0 + (i : Int))).fmod 2147483647).fdiv 1009], _, _, rfl, sUpd g nl _, by rw [upd_same, List.map_append]; rfl, by simp [hl], fun x hx' => ?_, b0, b1⟩
      rcases List.mem_append.mp hx' with k | k
      · exact hx x k
      · rw [List.mem_singleton] at k
        subst k
        rw [Int.fdiv_eq_ediv_of_nonneg _ (by decide)]
        omega
    · obtain ⟨xs, n, o4, rfl, g, e, hl, hx, n0, n1⟩ := hP
      exact hN _ _ ⟨xs, n, o4, rfl, g, e, by omega, hx⟩
  rintro σ H' ⟨xs, n, o4, rfl, g, e, hl, hx⟩
  refine ⟨_, rfl, _, rfl, l, _, rfl, SqL.of e, fun p hp => ?_⟩
  have ec : cutV (xs.map V.int) (some 1) none = (xs.drop 1).map V.int := by
    rw [cutV_one (by rw [List.length_map]; omega), List.map_drop]
  rw [ec]
  exact q p _ (xs.drop 1) (g.trans (same_new hp _)) upd_same (by rw [List.length_drop]; omega) (fun x hx' => hx x (List.mem_of_mem_drop hx'))

theorem sc_law_names : FnScope ["_law_cell", "_law_letters", "_law_xs", "_law_body", "_law_size", "_law_at", "_law_some", "_law_k", "_law_sign"] ["_law_cell"] (defScope s_law_names) := ⟨rfl, rfl, rfl, by decide +kernel, rfl, by decide +kernel, by decide +kernel⟩
set_option maxHeartbeats 4000000 in
theorem ok_law_names {dV : Value} (F : FunD K "_law_names" "_law_names" s_law_names dV f fd) (B : Bn K mg c_Cut c_Rest c_Step c_Warm f_Step_init f_Step_word f_Step_span f_Cut_word f_Cut_span f_Warm_init f_Warm_word f_Rest_word f_Step_grown_way f_Step_grown) (D_law_stream : Dx P w K mg base CX0 1 "_law_stream" ["_law_cell", "_law_many"] [] spStream) : FnOk P w K mg base CX0 2 f fd ["_law_cell"] spNames12 := by
  have sc := sc_law_names
  refine F.ok sc (fun vs H Q E h => ?_) (fun cdv A outer s H vs Q E hr h => ?_)
  · obtain ⟨c, rfl, _⟩ := h
    rfl
  obtain ⟨c, rfl, q⟩ := h
  have s4 : (5000 : Nat) ≤ sizeLine := by decide
  refine ⟨_, (pss_cons (ps_set (i := 1) sc.nd rfl (Or.inr rfl) pe_str) (pss_cons (ps_set (i := 2) sc.nd rfl (Or.inl rfl) (pcall0 D_law_stream hr (by decide) rfl (pa_cons (pv 0) (pa_cons pe_int pa_nil)))) (pss_cons (ps_set (i := 3) sc.nd rfl (Or.inr rfl) (pe_bm PySem.F.plainAttrs_str PySem.F.slot_str_join PySem.F.type_str_join mt_join pe_str (pa_cons (pe_comp (own := "_law_x") (ys := ["_law_letters"]) (js := [1]) rfl (cok (atc atn) (.cons rfl .nil) (by decide) rfl rfl rfl rfl rfl rfl rfl rfl) (pi_list (pe_slice sl_list (pv 2) po_none (po_some pe_int))) (fun C fp s H => (pe_ix ix_str (pv 1) (pe_op op_modN (pv 0) pe_int) (fun _ _ => rfl)))) pa_nil))) (pss_cons (ps_set (i := 4) sc.nd rfl (Or.inl rfl) (pe_op op_add pe_int (pe_op op_modN (pe_ix ix_list (pv 2) pe_int (fun _ _ => rfl)) pe_int))) (pss_cons (ps_set (i := 5) sc.nd rfl (Or.inl rfl) (pe_op op_modN (pe_ix ix_list (pv 2) pe_int (fun _ _ => rfl)) (pv 4))) (pss_cons (ps_if (pt_cmpR op_eq (pe_op op_modN (pe_op op_fdivB (pe_ix ix_list (pv 2) pe_int (fun _ _ => rfl)) pe_int) pe_int) pe_int (nomark _)) (pss_one (ps_ret (pe_compH (hd := none) (own := "_law_k") (ys := ["_law_body"]) (js := [3]) hr.hd (cok (atc atn) (.cons rfl .nil) (by decide) rfl rfl rfl rfl rfl rfl rfl rfl) (pi_rangeH rfl B.b_range (pa_cons pe_int pa_nil)) (fun C fp s H => (pe_slice sl_str (pv 1) po_none (po_some (pe_op op_sub pe_int (pe_op op_modN (pe_op op_mulB pe_int (pv 0)) pe_int)))))))) pss_nil) (pss_cons (ps_set (i := 6) sc.nd rfl (Or.inl rfl) (pe_lst pa_nil)) (pss_cons (ps_for PassesOwn.never rfl (pi_range1 rfl B.b_range (pa_cons pe_int pa_nil)) (pg_name (i := 7) sc.nd rfl (Or.inl rfl)) (pss_cons (ps_set (i := 8) sc.nd rfl (Or.inl rfl) (pe_ix ix_str (pv 1) (pe_op op_modN (pe_op op_add (pe_op op_fdivB (pe_ix ix_list (pv 2) pe_int (fun _ _ => rfl)) pe_int) (pe_op op_mulB pe_int (pv 7))) pe_int) (fun _ _ => rfl))) (pss_one (ps_expr (pe_bm PySem.F.plainAttrs_list PySem.F.slot_list_append PySem.F.type_list_append mt_append (pv 6) (pa_cons (pe_op op_add_str (pe_op op_add_str (pe_slice sl_str (pv 3) po_none (po_some (pv 5))) (pv 8)) (pe_slice sl_str (pv 3) (po_some (pe_op op_add (pv 5) pe_int)) (po_some (pv 4)))) pa_nil)))))) (pss_one (ps_ret (pv 6))))))))))), ?_⟩
  refine ⟨_, rfl, c, 14, rfl, (by decide), (by decide), fun l H1 xs g1 e1 xl xp => ?_⟩
  have at_ : ∀ j : Int, 0 ≤ j → j < 14 → ∃ v : Int, atI (xs.map V.int) j = some (.int v) := fun j j0 j1 => cell_ok j0 (by rw [List.length_map]; omega)
  obtain ⟨x12, h12⟩ := at_ 12 (by decide) (by decide)
  obtain ⟨x13, h13⟩ := at_ 13 (by decide) (by decide)
  try dsimp only [gName, tNext]
  refine cut (fun σ H' => Same H1 H' ∧ ∃ body : Str, body.length = 12 ∧ σ = [some (.int c), some (.str abcT), some (.ref l), some (.str body), none, none, none, none, none]) (fun N hN => ?_) ?_
  · refine ⟨rfl, _, rfl, _, rfl, l, _, rfl, SqL.of e1, fun p hp => ?_⟩
    have cl : (cutV (xs.map V.int) none (some 12)).length = 12 := by
      have e0 : HT.sIx (xs.map V.int).length 0 none = 0 := rfl
      have e2 : HT.sIx (xs.map V.int).length (xs.map V.int).length (some 12) = 12 := by
        unfold HT.sIx
        rw [List.length_map]
        simp
        omega
      unfold cutV
      rw [e0, e2, List.length_take, List.length_drop, List.length_map]
      omega
    have g0 := same_new hp (.lst (cutV (xs.map V.int) none (some 12)))
    refine ⟨p, rfl, ⟨_, SqL.of upd_same⟩, comp_byL (xs := cutV (xs.map V.int) none (some 12)) (fun _ y => ∃ z : Str, y = .str z ∧ z.length = 1) (SqL.of upd_same) (by omega) (fun x hx H3 g3 Q' hQ => ?_) (fun p2 ys H' np hl ht g' e' => ?_)⟩
    · obtain ⟨v, rfl⟩ : ∃ v : Int, x = .int v := by
        have m := hx
        unfold cutV at m
        have m := List.mem_of_mem_drop (List.mem_of_mem_take m)
        obtain ⟨c, _, e⟩ := List.mem_map.mp m
        exact ⟨c, e.symm⟩
      have ha := abc_atI (Int.fmod_nonneg_of_pos v (show (0 : Int) < 26 by decide)) (Int.fmod_lt_of_pos v (show (0 : Int) < 26 by decide))
      exact ⟨_, rfl, _, rfl, _, _, rfl, rfl, (by show (26 : Int) ≠ 0; decide), abcT, _, _, rfl, rfl, (by decide), ha, hQ _ _ ⟨_, rfl, rfl⟩ (.refl _)⟩
    · obtain ⟨ws, rfl, hw⟩ := strs_one (ys := ys) fun y hy => by
        obtain ⟨i, hi⟩ := List.mem_iff_getElem?.mp hy
        have il := (List.getElem?_eq_some_iff.mp hi).1
        exact ht i _ y (List.getElem?_eq_getElem (by omega)) hi
      rw [List.length_map] at hl
      refine ⟨_, p2, ws, rfl, rfl, SqL.of e', (by decide), by omega, hN _ _ ⟨g0.trans g', _, ?_, rfl⟩⟩
      rw [join_len]
      show _ + (ws.length - 1) * 0 = 12
      omega
  rintro σ H2 ⟨g2, body, bl, rfl⟩
  have e2 := g2 _ _ e1
  have bz : body.length ≤ sizeLine := by omega
  refine ⟨_, rfl, l, _, _, _, rfl, rfl, SqL.of e2, h12, _, _, rfl, rfl, (by show (12 : Int) ≠ 0; decide), _, _, rfl, rfl, ?_⟩
  have z0 := Int.fmod_nonneg_of_pos x12 (show (0 : Int) < 12 by decide)
  refine ⟨_, rfl, l, _, _, _, rfl, rfl, SqL.of e2, h13, _, rfl, _, _, rfl, rfl, (by omega), ?_⟩
  refine ⟨_, rfl, l, _, _, _, rfl, rfl, SqL.of e2, h12, _, _, rfl, rfl, ⟨by decide, PyProof.noPylong_small (by decide)⟩, _, _, rfl, rfl, (by show (3 : Int) ≠ 0; decide), rfl, _, rfl, d2I (fun _ => ?_) (fun _ => ?_)⟩
  · refine ⟨12, rfl, (by decide), (by decide), ?_⟩
    refine comp_by (n := 12) (fun i y => y = .str (cutS body none (some (12 - (5 * (0 + (i : Int))).fmod 12)))) HdOk.no (by omega) (fun i hi H3 g3 Q' hQ => ?_) (fun p ys H' np hl ht g' e' => ?_)
    · exact ⟨_, rfl, _, rfl, _, _, rfl, rfl, IntMulOk.of_left (by decide), _, _, rfl, rfl, (by show (12 : Int) ≠ 0; decide), _, _, rfl, rfl, _, rfl, body, rfl, bz, hQ _ _ rfl (.refl _)⟩
    · have ey := ys_range (g := fun i => cutS body none (some (12 - (5 * (0 + (i : Int))).fmod 12))) hl fun i y hy => ht i y hy
      rw [ey] at e'
      refine q p _ H' ((g1.trans g2).trans g') e' (by simp) (range_nd fun i j hi hj he => ?_)
      have f0 := fun i : Nat => And.intro (Int.fmod_nonneg_of_pos (5 * (0 + (i : Int))) (show (0 : Int) < 12 by decide)) (Int.fmod_lt_of_pos (5 * (0 + (i : Int))) (show (0 : Int) < 12 by decide))
      have ci := cut_len (z := body) (n := 12 - (5 * (0 + (i : Int))).fmod 12) (by have := f0 i; omega) (by have := f0 i; omega)
      have cj := cut_len (z := body) (n := 12 - (5 * (0 + (j : Int))).fmod 12) (by have := f0 j; omega) (by have := f0 j; omega)
      rw [he] at ci
      have := lens_inj ⟨i, hi⟩ ⟨j, hj⟩ (ci.symm.trans cj)
      exact congrArg (·.val) this
  refine ⟨(by show 0 ≤ sizeLine; decide), fun ls ns => ?_⟩
  have g3 := g2.trans (same_new ns (.lst []))
  try dsimp only [gName, tNext]
  obtain ⟨nmA, enA⟩ : ∃ g : Nat → Str, g = fun k : Nat => cutS body none (some (x13.fmod (1 + x12.fmod 12))) ++ (⟨#[97 + ((x13.fdiv 12 + 5 * (0 + (k : Int))).fmod 26).toNat]⟩ : Str) ++ cutS body (some (x13.fmod (1 + x12.fmod 12) + 1)) (some (1 + x12.fmod 12)) := ⟨_, rfl⟩
  have c1 := Nat.le_trans (cutS_length body none (some (x13.fmod (1 + x12.fmod 12)))) (Nat.le_of_eq bl)
  have c2 := Nat.le_trans (cutS_length body (some (x13.fmod (1 + x12.fmod 12) + 1)) (some (1 + x12.fmod 12))) (Nat.le_of_eq bl)
  have one : ∀ c : Nat, (⟨#[c]⟩ : Str).length = 1 := fun _ => rfl
  refine cut (fun σ H' => Same H1 H' ∧ H' ls = some (.lst (((List.range 12).map nmA).map V.str)) ∧ ∃ o7 o8 : Option V, σ = [some (.int c), some (.str abcT), some (.ref l), some (.str body), some (.int (1 + x12.fmod 12)), some (.int (x13.fmod (1 + x12.fmod 12))), some (.ref ls), o7, o8]) (fun N hN => ?_) ?_
  · refine ⟨12, rfl, (by decide), (by decide), for_range (n := 12) (fun i σ H' => Same H1 H' ∧ H' ls = some (.lst (((List.range i).map nmA).map V.str)) ∧ ∃ o7 o8 : Option V, σ = [some (.int c), some (.str abcT), some (.ref l), some (.str body), some (.int (1 + x12.fmod 12)), some (.int (x13.fmod (1 + x12.fmod 12))), some (.ref ls), o7, o8]) ⟨g3, upd_same, none, none, rfl⟩ (fun i σ H4 hi hP => ?_) (fun σ H4 hP => hN _ _ hP)⟩
    obtain ⟨g4, els, o7, o8, rfl⟩ := hP
    have ha := abc_atI (Int.fmod_nonneg_of_pos (x13.fdiv 12 + 5 * (0 + (i : Int))) (show (0 : Int) < 26 by decide)) (Int.fmod_lt_of_pos (x13.fdiv 12 + 5 * (0 + (i : Int))) (show (0 : Int) < 26 by decide))
    refine ⟨_, rfl, _, rfl, l, _, _, _, rfl, rfl, SqL.of (g4 _ _ e1), h13, _, _, rfl, rfl, ⟨by decide, PyProof.noPylong_small (by decide)⟩, _, rfl, _, _, rfl, rfl, IntMulOk.of_left (by decide), _, _, rfl, rfl, _, _, rfl, rfl, (by show (26 : Int) ≠ 0; decide), abcT, _, _, rfl, rfl, (by decide), ha, ?_⟩
    refine ⟨_, rfl, .inl ⟨rfl, _, SqL.of els⟩, _, rfl, _, rfl, _, rfl, body, rfl, bz, _, rfl, _, _, rfl, rfl, (by rw [one]; omega), _, rfl, _, rfl, _, _, rfl, rfl, _, rfl, _, rfl, _, rfl, body, rfl, bz, _, _, rfl, rfl, (by rw [Str.length_append, one]; omega), ls, _, _, rfl, rfl, els, (by simp; omega), ?_⟩
    refine ⟨sUpd g4 (g2.free ns) _, ?_, _, _, rfl⟩
    rw [upd_same, List.range_succ, List.map_append, List.map_append, enA]
    rfl
  rintro σ H4 ⟨g4, els, o7, o8, rfl⟩
  refine ⟨_, rfl, q ls _ H4 (g1.trans g4) els (by simp) (range_nd fun i j hi hj he => ?_)⟩
  rw [enA] at he
  have he' := congrArg sL he
  rw [sL_app, sL_app, sL_app, sL_app, one_mk, one_mk, sL_mk, sL_mk, List.append_assoc, List.append_assoc] at he'
  have h1 := List.append_cancel_left he'
  have h2 : 97 + ((x13.fdiv 12 + 5 * (0 + (i : Int))).fmod 26).toNat = 97 + ((x13.fdiv 12 + 5 * (0 + (j : Int))).fmod 26).toNat := by
    injection h1
  have n1 := Int.fmod_nonneg_of_pos (x13.fdiv 12 + 5 * (0 + (i : Int))) (show (0 : Int) < 26 by decide)
  have n2 := Int.fmod_nonneg_of_pos (x13.fdiv 12 + 5 * (0 + (j : Int))) (show (0 : Int) < 26 by decide)
  have h3 : (x13.fdiv 12 + 5 * (0 + (i : Int))).fmod 26 = (x13.fdiv 12 + 5 * (0 + (j : Int))).fmod 26 := by omega
  rw [Int.fmod_eq_emod_of_nonneg _ (by decide), Int.fmod_eq_emod_of_nonneg _ (by decide)] at h3
  generalize x13.fdiv 12 = X at h3
  omega

theorem sc_law_number : FnScope ["_law_cell"] ["_law_cell"] (defScope s_law_number) := ⟨rfl, rfl, rfl, by decide +kernel, rfl, by decide +kernel, by decide +kernel⟩
set_option maxHeartbeats 4000000 in
theorem ok_law_number {dV : Value} (F : FunD K "_law_number" "_law_number" s_law_number dV f fd) (B : Bn K mg c_Cut c_Rest c_Step c_Warm f_Step_init f_Step_word f_Step_span f_Cut_word f_Cut_span f_Warm_init f_Warm_word f_Rest_word f_Step_grown_way f_Step_grown)  : FnOk P w K mg base CX0 1 f fd ["_law_cell"] spNumQ := by
  have sc := sc_law_number
  refine F.ok sc (fun vs H Q E h => ?_) (fun cdv A outer s H vs Q E hr h => ?_)
  · obtain ⟨c, rfl, _⟩ := h
    rfl
  obtain ⟨c, rfl, q⟩ := h
  refine ⟨_, (pss_cons (ps_if (pt_cmpR op_eq (pe_op op_modN (pv 0) pe_int) pe_int (nomark _)) (pss_one (ps_ret (pe_op op_add pe_int (pe_op op_modN (pe_op op_fdivB (pv 0) pe_int) pe_int)))) pss_nil) (pss_cons (ps_if (pt_cmpR op_eq (pe_op op_modN (pv 0) pe_int) pe_int (nomark _)) (pss_one (ps_ret (pe_op op_add pe_int (pe_op op_modN (pe_op op_fdivB (pv 0) pe_int) pe_int)))) pss_nil) (pss_one (ps_ret (pe_op op_add pe_int (pe_op op_modN (pe_op op_fdivB (pv 0) pe_int) (pe_op op_powB pe_int pe_int))))))), ?_⟩
  have h3 : (3 : Int) ≠ 0 := by decide
  have nb : ∀ m : Int, 0 < m → m ≤ 10 ^ 30 → Q (.int (1 + (c.fdiv 3).fmod m)) H := fun m m0 m1 => by
    have k1 := Int.fmod_nonneg_of_pos (c.fdiv 3) m0
    have k2 := Int.fmod_lt_of_pos (c.fdiv 3) m0
    refine q _ (by omega) ?_
    unfold Bd
    omega
  refine ⟨_, rfl, _, _, rfl, rfl, h3, rfl, _, rfl, d2 (fun _ => ?_) (fun _ => ?_)⟩
  · exact ⟨_, rfl, _, _, rfl, rfl, ⟨by decide, PyProof.noPylong_small (by decide)⟩, _, _, rfl, rfl, (by show (9 : Int) ≠ 0; decide), _, _, rfl, rfl, nb 9 (by decide) (by decide)⟩
  · refine ⟨_, rfl, _, _, rfl, rfl, h3, rfl, _, rfl, d2 (fun _ => ?_) (fun _ => ?_)⟩
    · exact ⟨_, rfl, _, _, rfl, rfl, ⟨by decide, PyProof.noPylong_small (by decide)⟩, _, _, rfl, rfl, (by show (100000 : Int) ≠ 0; decide), _, _, rfl, rfl, nb 100000 (by decide) (by decide)⟩
    · exact ⟨_, rfl, _, _, rfl, rfl, ⟨by decide, PyProof.noPylong_small (by decide)⟩, _, _, rfl, rfl, ⟨by decide, by decide⟩, _, _, rfl, rfl, (by show (10 ^ 30 : Int) ≠ 0; decide), _, _, rfl, rfl, nb (10 ^ 30) (by decide) (by decide)⟩

theorem sc_law_uses : FnScope ["_law_cell", "_law_names_here", "_law_many", "_law_xs"] ["_law_cell", "_law_names_here", "_law_many"] (defScope s_law_uses) := ⟨rfl, rfl, rfl, by decide +kernel, rfl, by decide +kernel, by decide +kernel⟩
set_option maxHeartbeats 4000000 in
theorem ok_law_uses {dV : Value} (F : FunD K "_law_uses" "_law_uses" s_law_uses dV f fd) (B : Bn K mg c_Cut c_Rest c_Step c_Warm f_Step_init f_Step_word f_Step_span f_Cut_word f_Cut_span f_Warm_init f_Warm_word f_Rest_word f_Step_grown_way f_Step_grown) (D_law_stream : Dx P w K mg base CX0 1 "_law_stream" ["_law_cell", "_law_many"] [] spStream) : FnOk P w K mg base CX0 2 f fd ["_law_cell", "_law_names_here", "_law_many"] spUsesS := by
  have sc := sc_law_uses
  refine F.ok sc (fun vs H Q E h => ?_) (fun cdv A outer s H vs Q E hr h => ?_)
  · obtain ⟨c, m, ln, zs, rfl, _⟩ := h
    rfl
  obtain ⟨c, m, ln, zs, rfl, en, nd, m0, m5, z5, q⟩ := h
  have s4 : (5000 : Nat) ≤ sizeLine := by decide
  refine ⟨_, (pss_cons (ps_set (i := 3) sc.nd rfl (Or.inr rfl) (pcall0 D_law_stream hr (by decide) rfl (pa_cons (pv 0) (pa_cons pe_int pa_nil)))) (pss_one (ps_ret (pe_compH (hd := none) (own := "_law_k") (ys := ["_law_names_here", "_law_xs"]) (js := [1, 3]) hr.hd (cok (atc (atc atn)) (.cons rfl (.cons rfl .nil)) (by decide) rfl rfl rfl rfl rfl rfl rfl rfl) (pi_rangeH rfl B.b_range (pa_cons (pv 2) pa_nil)) (fun C fp s H => (pe_tup (pa_cons (pe_ix (ixKT (K := K) rfl) (pv 1) (pv 0) (fun _ _ => rfl)) (pa_cons (pe_op op_add pe_int (pe_op op_modN (pe_ix (ixKT (K := K) rfl) (pv 2) (pe_op op_mulB pe_int (pv 0)) (fun _ _ => rfl)) pe_int)) (pa_cons (pe_op op_modN (pe_ix (ixKT (K := K) rfl) (pv 2) (pe_op op_add (pe_op op_mulB pe_int (pv 0)) pe_int) (fun _ _ => rfl)) pe_int) pa_nil))))))))), ?_⟩
  refine ⟨_, rfl, c, 12, rfl, (by decide), (by decide), fun l H1 xs g1 e1 xl xp => ?_⟩
  try dsimp only [gName, tNext]
  refine ⟨_, rfl, _, rfl, (by omega), (by omega), ?_⟩
  refine comp_tup (fun i ys => ∃ m k : Int, ∃ y, zs[i]? = some y ∧ ys = [.str y, .int m, .int k]) HdOk.no (by omega) (fun i hi H3 g3 Q' hQ => ?_) (fun p as H' np hl ht g' e' => ?_)
  · have en3 := g3 _ _ (g1 _ _ en)
    have e3 := g3 _ _ e1
    have iz : i < zs.length := by omega
    have atn : atI (zs.map V.str) (0 + (i : Int)) = some (.str zs[i]) := by
      rw [Int.zero_add]
      exact atI_nat (by rw [List.getElem?_map, List.getElem?_eq_getElem iz]; rfl)
    obtain ⟨v1, h1⟩ := cell_ok (ns := xs) (k := 2 * (0 + (i : Int))) (by omega) (by rw [List.length_map]; omega)
    obtain ⟨v2, h2⟩ := cell_ok (ns := xs) (k := 2 * (0 + (i : Int)) + 1) (by omega) (by rw [List.length_map]; omega)
    refine ⟨_, rfl, _, rfl, ln, _, _, _, rfl, rfl, SqL.of en3, atn, _, rfl, _, rfl, _, _, rfl, rfl, IntMulOk.of_left (by decide), l, _, _, _, rfl, rfl, SqL.of e3, h1, _, _, rfl, rfl, (by show (8 : Int) ≠ 0; decide), _, _, rfl, rfl, _, rfl, _, rfl, _, _, rfl, rfl, IntMulOk.of_left (by decide), _, _, rfl, rfl, l, _, _, _, rfl, rfl, SqL.of e3, h2, _, _, rfl, rfl, (by show (1001 : Int) ≠ 0; decide), (by show 3 ≤ sizeLine; decide), fun t nt => ?_⟩
    exact hQ t _ _ upd_same ⟨_, _, _, List.getElem?_eq_getElem iz, rfl⟩ (same_new nt _)
  · refine q p as H' (g1.trans g') (g1.free np) e' (by omega) (uses_ul nd (by omega) (by omega) fun i a ha => ?_)
    obtain ⟨ys, h1, m', k', y, h2, rfl⟩ := ht i a ha
    exact ⟨m', k', y, h2, h1⟩

theorem sc_law_way : FnScope ["_law_script", "_law_k", "_law_names_here", "_law_least", "_law_most", "_law_many"] ["_law_script", "_law_k", "_law_names_here"] (defScope s_law_way) := ⟨rfl, rfl, rfl, by decide +kernel, rfl, by decide +kernel, by decide +kernel⟩
set_option maxHeartbeats 4000000 in
theorem ok_law_way {dV : Value} (F : FunD K "_law_way" "_law_way" s_law_way dV f fd) (B : Bn K mg c_Cut c_Rest c_Step c_Warm f_Step_init f_Step_word f_Step_span f_Cut_word f_Cut_span f_Warm_init f_Warm_word f_Rest_word f_Step_grown_way f_Step_grown) (D_law_cell_at : Dx P w K mg base CX0 1 "_law_cell_at" ["_law_script", "_law_k"] [] (spCell K)) (D_law_number : Dx P w K mg base CX0 1 "_law_number" ["_law_cell"] [] spNumQ) (D_law_uses : Dx P w K mg base CX0 2 "_law_uses" ["_law_cell", "_law_names_here", "_law_many"] [] spUsesS) : FnOk P w K mg base CX0 3 f fd ["_law_script", "_law_k", "_law_names_here"] (spWayS K) := by
  have sc := sc_law_way
  refine F.ok sc (fun vs H Q E h => ?_) (fun cdv A outer s H vs Q E hr h => ?_)
  · obtain ⟨a, ln, ns, k, zs, rfl, _⟩ := h
    rfl
  obtain ⟨a, ln, ns, k, zs, rfl, hS, k0, en, nd, z5, q⟩ := h
  refine ⟨_, (pss_cons (ps_set (i := 3) sc.nd rfl (Or.inl rfl) (pcall0 D_law_number hr (by decide) rfl (pa_cons (pcall0 D_law_cell_at hr (by decide) rfl (pa_cons (pv 0) (pa_cons (pv 1) pa_nil))) pa_nil))) (pss_cons (ps_set (i := 4) sc.nd rfl (Or.inl rfl) (pe_op op_add (pe_op op_sub (pv 3) pe_int) (pcall0 D_law_number hr (by decide) rfl (pa_cons (pcall0 D_law_cell_at hr (by decide) rfl (pa_cons (pv 0) (pa_cons (pe_op op_add (pv 1) pe_int) pa_nil))) pa_nil)))) (pss_cons (ps_set (i := 5) sc.nd rfl (Or.inl rfl) (pe_op op_modN (pcall0 D_law_cell_at hr (by decide) rfl (pa_cons (pv 0) (pa_cons (pe_op op_add (pv 1) pe_int) pa_nil))) pe_int)) (pss_one (ps_ret (pe_tup (pa_cons (pv 3) (pa_cons (pv 4) (pa_cons (pcall0 D_law_uses hr (by decide) rfl (pa_cons (pcall0 D_law_cell_at hr (by decide) rfl (pa_cons (pv 0) (pa_cons (pe_op op_add (pv 1) pe_int) pa_nil))) (pa_cons (pv 2) (pa_cons (pv 5) pa_nil)))) pa_nil))))))))), ?_⟩
  refine ⟨_, rfl, _, rfl, a, ns, k, rfl, hS, k0, fun c1 => ⟨c1, rfl, fun l l0 lb => ?_⟩⟩
  refine ⟨_, rfl, _, _, rfl, rfl, _, rfl, _, rfl, _, _, rfl, rfl, a, ns, k + 1, rfl, hS, (by omega), fun c2 => ⟨c2, rfl, fun x x0 xb => ⟨_, _, rfl, rfl, ?_⟩⟩⟩
  refine ⟨_, rfl, _, rfl, _, _, rfl, rfl, a, ns, k + 3, rfl, hS, (by omega), fun c3 => ⟨_, _, rfl, rfl, (by show (6 : Int) ≠ 0; decide), ?_⟩⟩
  have r0 := Int.fmod_nonneg_of_pos c3 (show (0 : Int) < 6 by decide)
  have r1 := Int.fmod_lt_of_pos c3 (show (0 : Int) < 6 by decide)
  refine ⟨_, rfl, _, rfl, _, rfl, _, rfl, _, _, rfl, rfl, a, ns, k + 2, rfl, hS, (by omega), fun c4 => ⟨_, rfl, _, rfl, c4, _, ln, zs, rfl, en, nd, r0, (by omega), z5, fun p as H' g np e al ul => ?_⟩⟩
  refine ⟨(by show 3 ≤ sizeLine; decide), fun t nt => ?_⟩
  have gt := same_new nt (.tup [.int l, .int (l - 1 + x), .ref p])
  exact q t p l (l - 1 + x) as _ (g.trans gt) np upd_same (gt _ _ e) al (ul.later gt) (lb.mono (by decide)) (((lb.sub (Bd.one.mono (by decide))).add (xb.mono (by decide))).mono (by decide))

theorem sc_law_step : FnScope ["_law_kind_here", "_law_name", "_law_lengths", "_law_uses_here", "_law_second"] ["_law_kind_here", "_law_name", "_law_lengths", "_law_uses_here", "_law_second"] (defScope s_law_step) := ⟨rfl, rfl, rfl, by decide +kernel, rfl, by decide +kernel, by decide +kernel⟩
set_option maxHeartbeats 4000000 in
theorem ok_law_step {dV : Value} (F : FunD K "_law_step" "_law_step" s_law_step dV f fd) (B : Bn K mg c_Cut c_Rest c_Step c_Warm f_Step_init f_Step_word f_Step_span f_Cut_word f_Cut_span f_Warm_init f_Warm_word f_Rest_word f_Step_grown_way f_Step_grown) (DStep_init : DxM P w K mg base CX0 1 f_Step_init ["self", "name", "least", "most", "uses", "second"] [.non, .non] (spInit2 K)) (DWarm_init : DxM P w K mg base CX0 2 f_Warm_init ["self", "name", "least", "most", "fill", "uses", "second"] [.non, .non] (spWarm2 K)) : FnOk P w K mg base CX0 4 f fd ["_law_kind_here", "_law_name", "_law_lengths", "_law_uses_here", "_law_second"] (spMadeS c_Step c_Cut c_Warm c_Rest) := by
  have sc := sc_law_step
  refine F.ok sc (fun vs H Q E h => ?_) (fun cdv A outer s H vs Q E hr h => ?_)
  · obtain ⟨kd, l, m, nm, tl, uv, sv, us, c, rfl, _⟩ := h
    rfl
  obtain ⟨kd, l, m, nm, tl, uv, sv, us, c, rfl, et, hu, hs, k0, k4, k⟩ := h
  refine ⟨_, (pss_cons (ps_if (pt_cmpR op_eq (pv 0) pe_int (nomark _)) (pss_one (ps_ret (pmake0 B.mk_Cut DStep_init hr (by decide) rfl B.m_Cut (pa_cons (pv 1) (pa_cons (pe_ix ix_tup (pv 2) pe_int (fun _ _ => rfl)) (pa_cons (pe_ix ix_tup (pv 2) pe_int (fun _ _ => rfl)) (pa_cons (pv 3) (pa_cons (pv 4) pa_nil)))))))) pss_nil) (pss_cons (ps_if (pt_cmpR op_eq (pv 0) pe_int (nomark _)) (pss_one (ps_ret (pmake0 B.mk_Warm DWarm_init hr (by decide) rfl B.m_Warm (pa_cons (pv 1) (pa_cons (pe_ix ix_tup (pv 2) pe_int (fun _ _ => rfl)) (pa_cons (pe_ix ix_tup (pv 2) pe_int (fun _ _ => rfl)) (pa_cons (pe_tup (pa_cons pe_int (pa_cons pe_int pa_nil))) (pa_cons (pv 3) (pa_cons (pv 4) pa_nil))))))))) pss_nil) (pss_cons (ps_if (pt_cmpR op_eq (pv 0) pe_int (nomark _)) (pss_one (ps_ret (pmake0 B.mk_Rest DStep_init hr (by decide) rfl B.m_Rest (pa_cons (pv 1) (pa_cons (pe_ix ix_tup (pv 2) pe_int (fun _ _ => rfl)) (pa_cons (pe_ix ix_tup (pv 2) pe_int (fun _ _ => rfl)) (pa_cons (pv 3) (pa_cons (pv 4) pa_nil)))))))) pss_nil) (pss_one (ps_ret (pmake0 B.mk_Step DStep_init hr (by decide) rfl B.m_Step (pa_cons (pv 1) (pa_cons (pe_ix ix_tup (pv 2) pe_int (fun _ _ => rfl)) (pa_cons (pe_ix ix_tup (pv 2) pe_int (fun _ _ => rfl)) (pa_cons (pv 3) (pa_cons (pv 4) pa_nil))))))))))), ?_⟩
  refine ⟨_, rfl, rfl, _, rfl, d2I (fun c1 => ?_) (fun c1 => ?_)⟩
  · exact ⟨_, rfl, _, rfl, _, _, _, _, rfl, rfl, SqT.of et, rfl, _, rfl, _, _, _, _, rfl, rfl, SqT.of et, rfl, _, rfl, _, rfl, fun x dx nx nd nxd => ⟨x, _, dx, nm, l, m, uv, sv, us, c, rfl, upd_same, ⟨B.cl_Cut, B.na_Cut_name, B.na_Cut_least, B.na_Cut_most, B.na_Cut_uses, B.na_Cut_second⟩, hu.same (made_new nx nd), hs.same (made_new nx nd), fun u s H6 k6 ux nu eu hs6 ex => ⟨rfl, k x _ H6 (made_same nx nd k6) (.inr (.inl ⟨c1, rfl⟩)) (stn_of nx nd stepF_st nu eu hs6 ex)⟩⟩⟩
  refine ⟨_, rfl, rfl, _, rfl, d2I (fun c2 => ?_) (fun c2 => ?_)⟩
  · refine ⟨_, rfl, _, rfl, _, _, _, _, rfl, rfl, SqT.of et, rfl, _, rfl, _, _, _, _, rfl, rfl, SqT.of et, rfl, (by show 2 ≤ sizeLine; decide), fun tfl nt => ?_⟩
    refine ⟨_, rfl, _, rfl, fun x dx nx nd nxd => ⟨x, _, dx, nm, l, m, .ref tfl, uv, sv, us, c, rfl, upd_same, ⟨B.cl_Warm, B.na_Warm_name, B.na_Warm_least, B.na_Warm_most, B.na_Warm_uses, B.na_Warm_second⟩, B.na_Warm_fill, (hu.same (same_new nt _)).same (made_new nx nd), (hs.same (same_new nt _)).same (made_new nx nd), fun u s H6 k6 ux nu eu hs6 ex => ⟨rfl, k x _ H6 ((same_new nt _).trans (made_same nx nd k6)) (.inr (.inr (.inl ⟨c2, rfl⟩))) ((stn_of nx nd warmF_st nu eu hs6 ex).base (same_new nt _))⟩⟩⟩
  refine ⟨_, rfl, rfl, _, rfl, d2I (fun c3 => ?_) (fun c3 => ?_)⟩
  · exact ⟨_, rfl, _, rfl, _, _, _, _, rfl, rfl, SqT.of et, rfl, _, rfl, _, _, _, _, rfl, rfl, SqT.of et, rfl, _, rfl, _, rfl, fun x dx nx nd nxd => ⟨x, _, dx, nm, l, m, uv, sv, us, c, rfl, upd_same, ⟨B.cl_Rest, B.na_Rest_name, B.na_Rest_least, B.na_Rest_most, B.na_Rest_uses, B.na_Rest_second⟩, hu.same (made_new nx nd), hs.same (made_new nx nd), fun u s H6 k6 ux nu eu hs6 ex => ⟨rfl, k x _ H6 (made_same nx nd k6) (.inr (.inr (.inr ⟨c3, rfl⟩))) (stn_of nx nd stepF_st nu eu hs6 ex)⟩⟩⟩
  exact ⟨_, rfl, _, rfl, _, _, _, _, rfl, rfl, SqT.of et, rfl, _, rfl, _, _, _, _, rfl, rfl, SqT.of et, rfl, _, rfl, _, rfl, fun x dx nx nd nxd => ⟨x, _, dx, nm, l, m, uv, sv, us, c, rfl, upd_same, ⟨B.cl_Step, B.na_Step_name, B.na_Step_least, B.na_Step_most, B.na_Step_uses, B.na_Step_second⟩, hu.same (made_new nx nd), hs.same (made_new nx nd), fun u s H6 k6 ux nu eu hs6 ex => ⟨rfl, k x _ H6 (made_same nx nd k6) (.inl ⟨by omega, rfl⟩) (stn_of nx nd stepF_st nu eu hs6 ex)⟩⟩⟩

theorem sc_law_bare : FnScope ["_law_kind_here", "_law_name", "_law_lengths"] ["_law_kind_here", "_law_name", "_law_lengths"] (defScope s_law_bare) := ⟨rfl, rfl, rfl, by decide +kernel, rfl, by decide +kernel, by decide +kernel⟩
set_option maxHeartbeats 4000000 in
theorem ok_law_bare {dV : Value} (F : FunD K "_law_bare" "_law_bare" s_law_bare dV f fd) (B : Bn K mg c_Cut c_Rest c_Step c_Warm f_Step_init f_Step_word f_Step_span f_Cut_word f_Cut_span f_Warm_init f_Warm_word f_Rest_word f_Step_grown_way f_Step_grown) (DStep_init : DxM P w K mg base CX0 1 f_Step_init ["self", "name", "least", "most", "uses", "second"] [.non, .non] (spInit2 K)) (DWarm_init : DxM P w K mg base CX0 2 f_Warm_init ["self", "name", "least", "most", "fill", "uses", "second"] [.non, .non] (spWarm2 K)) : FnOk P w K mg base CX0 4 f fd ["_law_kind_here", "_law_name", "_law_lengths"] (spBareS c_Step c_Cut c_Warm c_Rest) := by
  have sc := sc_law_bare
  refine F.ok sc (fun vs H Q E h => ?_) (fun cdv A outer s H vs Q E hr h => ?_)
  · obtain ⟨kd, l, m, nm, tl, rfl, _⟩ := h
    rfl
  obtain ⟨kd, l, m, nm, tl, rfl, et, k0, k4, k⟩ := h
  refine ⟨_, (pss_cons (ps_if (pt_cmpR op_eq (pv 0) pe_int (nomark _)) (pss_one (ps_ret (pmake0d B.mk_Cut DStep_init hr (by decide) rfl B.m_Cut (pa_cons (pv 1) (pa_cons (pe_ix ix_tup (pv 2) pe_int (fun _ _ => rfl)) (pa_cons (pe_ix ix_tup (pv 2) pe_int (fun _ _ => rfl)) pa_nil)))))) pss_nil) (pss_cons (ps_if (pt_cmpR op_eq (pv 0) pe_int (nomark _)) (pss_one (ps_ret (pmake0d B.mk_Warm DWarm_init hr (by decide) rfl B.m_Warm (pa_cons (pv 1) (pa_cons (pe_ix ix_tup (pv 2) pe_int (fun _ _ => rfl)) (pa_cons (pe_ix ix_tup (pv 2) pe_int (fun _ _ => rfl)) (pa_cons (pe_tup (pa_cons pe_int (pa_cons pe_int pa_nil))) pa_nil))))))) pss_nil) (pss_cons (ps_if (pt_cmpR op_eq (pv 0) pe_int (nomark _)) (pss_one (ps_ret (pmake0d B.mk_Rest DStep_init hr (by decide) rfl B.m_Rest (pa_cons (pv 1) (pa_cons (pe_ix ix_tup (pv 2) pe_int (fun _ _ => rfl)) (pa_cons (pe_ix ix_tup (pv 2) pe_int (fun _ _ => rfl)) pa_nil)))))) pss_nil) (pss_one (ps_ret (pmake0d B.mk_Step DStep_init hr (by decide) rfl B.m_Step (pa_cons (pv 1) (pa_cons (pe_ix ix_tup (pv 2) pe_int (fun _ _ => rfl)) (pa_cons (pe_ix ix_tup (pv 2) pe_int (fun _ _ => rfl)) pa_nil))))))))), ?_⟩
  refine ⟨_, rfl, rfl, _, rfl, d2I (fun c1 => ?_) (fun c1 => ?_)⟩
  · exact ⟨_, rfl, _, rfl, _, _, _, _, rfl, rfl, SqT.of et, rfl, _, rfl, _, _, _, _, rfl, rfl, SqT.of et, rfl, fun x dx nx nd nxd => ⟨x, _, dx, nm, l, m, .non, .non, [], none, rfl, upd_same, ⟨B.cl_Cut, B.na_Cut_name, B.na_Cut_least, B.na_Cut_most, B.na_Cut_uses, B.na_Cut_second⟩, .inl ⟨rfl, rfl⟩, rfl, fun u s H6 k6 ux nu eu hs6 ex => ⟨rfl, k x _ H6 (made_same nx nd k6) (.inr (.inl ⟨c1, rfl⟩)) (stn_of nx nd stepF_st nu eu hs6 ex)⟩⟩⟩
  refine ⟨_, rfl, rfl, _, rfl, d2I (fun c2 => ?_) (fun c2 => ?_)⟩
  · refine ⟨_, rfl, _, rfl, _, _, _, _, rfl, rfl, SqT.of et, rfl, _, rfl, _, _, _, _, rfl, rfl, SqT.of et, rfl, (by show 2 ≤ sizeLine; decide), fun tfl nt => ?_⟩
    refine fun x dx nx nd nxd => ⟨x, _, dx, nm, l, m, .ref tfl, .non, .non, [], none, rfl, upd_same, ⟨B.cl_Warm, B.na_Warm_name, B.na_Warm_least, B.na_Warm_most, B.na_Warm_uses, B.na_Warm_second⟩, B.na_Warm_fill, .inl ⟨rfl, rfl⟩, rfl, fun u s H6 k6 ux nu eu hs6 ex => ⟨rfl, k x _ H6 ((same_new nt _).trans (made_same nx nd k6)) (.inr (.inr (.inl ⟨c2, rfl⟩))) ((stn_of nx nd warmF_st nu eu hs6 ex).base (same_new nt _))⟩⟩
  refine ⟨_, rfl, rfl, _, rfl, d2I (fun c3 => ?_) (fun c3 => ?_)⟩
  · exact ⟨_, rfl, _, rfl, _, _, _, _, rfl, rfl, SqT.of et, rfl, _, rfl, _, _, _, _, rfl, rfl, SqT.of et, rfl, fun x dx nx nd nxd => ⟨x, _, dx, nm, l, m, .non, .non, [], none, rfl, upd_same, ⟨B.cl_Rest, B.na_Rest_name, B.na_Rest_least, B.na_Rest_most, B.na_Rest_uses, B.na_Rest_second⟩, .inl ⟨rfl, rfl⟩, rfl, fun u s H6 k6 ux nu eu hs6 ex => ⟨rfl, k x _ H6 (made_same nx nd k6) (.inr (.inr (.inr ⟨c3, rfl⟩))) (stn_of nx nd stepF_st nu eu hs6 ex)⟩⟩⟩
  exact ⟨_, rfl, _, rfl, _, _, _, _, rfl, rfl, SqT.of et, rfl, _, rfl, _, _, _, _, rfl, rfl, SqT.of et, rfl, fun x dx nx nd nxd => ⟨x, _, dx, nm, l, m, .non, .non, [], none, rfl, upd_same, ⟨B.cl_Step, B.na_Step_name, B.na_Step_least, B.na_Step_most, B.na_Step_uses, B.na_Step_second⟩, .inl ⟨rfl, rfl⟩, rfl, fun u s H6 k6 ux nu eu hs6 ex => ⟨rfl, k x _ H6 (made_same nx nd k6) (.inl ⟨by omega, rfl⟩) (stn_of nx nd stepF_st nu eu hs6 ex)⟩⟩⟩

theorem sc_law_kind : FnScope ["_law_step_here", "_law_kind_here", "_law_found"] ["_law_step_here", "_law_kind_here"] (defScope s_law_kind) := ⟨rfl, rfl, rfl, by decide +kernel, rfl, by decide +kernel, by decide +kernel⟩
set_option maxHeartbeats 4000000 in
theorem ok_law_kind {dV : Value} (F : FunD K "_law_kind" "_law_kind" s_law_kind dV f fd) (B : Bn K mg c_Cut c_Rest c_Step c_Warm f_Step_init f_Step_word f_Step_span f_Cut_word f_Cut_span f_Warm_init f_Warm_word f_Rest_word f_Step_grown_way f_Step_grown) (DStep_word : DxM P w K mg base CX0 1 f_Step_word ["self"] [] (spWord "step")) (DCut_word : DxM P w K mg base CX0 1 f_Cut_word ["self"] [] (spWord "cut")) (DWarm_word : DxM P w K mg base CX0 1 f_Warm_word ["self"] [] (spWord "warm")) (DRest_word : DxM P w K mg base CX0 1 f_Rest_word ["self"] [] (spWord "rest")) : FnOk P w K mg base CX0 2 f fd ["_law_step_here", "_law_kind_here"] (spKindS c_Step c_Cut c_Warm c_Rest) := by
  have sc := sc_law_kind
  refine F.ok sc (fun vs H Q E h => ?_) (fun cdv A outer s H vs Q E hr h => ?_)
  · obtain ⟨k, l, m, nm, x, C, us, c, rfl, _⟩ := h
    rfl
  obtain ⟨k, l, m, nm, x, C, us, c, rfl, hc, st, q⟩ := h
  refine ⟨_, (pss_cons (ps_if (PW.pt (pw_or (pt_not (pt_val (pe_callB (call_isiC (K := K) rfl) rfl B.b_isinstance boot_isinstance (pa_cons (pv 0) (pa_cons (pe_glob (v := V.ref c_Step) rfl B.m_Step rfl) pa_nil))))) (pw_or1 (pt_cmpR op_ne (pe_callB (call_isiC (K := K) rfl) rfl B.b_isinstance boot_isinstance (pa_cons (pv 0) (pa_cons (pe_glob (v := V.ref c_Cut) rfl B.m_Cut rfl) pa_nil))) (pe_cmpR op_eq (pv 1) pe_int (nomark _)) (nomark _))))) (pss_one (ps_ret pe_bl)) pss_nil) (pss_cons (ps_if (PW.pt (pw_or (pt_cmpR op_ne (pe_callB (call_isiC (K := K) rfl) rfl B.b_isinstance boot_isinstance (pa_cons (pv 0) (pa_cons (pe_glob (v := V.ref c_Warm) rfl B.m_Warm rfl) pa_nil))) (pe_cmpR op_eq (pv 1) pe_int (nomark _)) (nomark _)) (pw_or1 (pt_cmpR op_ne (pe_callB (call_isiC (K := K) rfl) rfl B.b_isinstance boot_isinstance (pa_cons (pv 0) (pa_cons (pe_glob (v := V.ref c_Rest) rfl B.m_Rest rfl) pa_nil))) (pe_cmpR op_eq (pv 1) pe_int (nomark _)) (nomark _))))) (pss_one (ps_ret pe_bl)) pss_nil) (pss_cons (ps_set (i := 2) sc.nd rfl (Or.inl rfl) (pe_either (pmethZ (pv 0) DStep_word hr (by decide)) (pe_either (pmethZ (pv 0) DCut_word hr (by decide)) (pe_either (pmethZ (pv 0) DWarm_word hr (by decide)) (pmethZ (pv 0) DRest_word hr (by decide)))))) (pss_one (ps_ret (pe_and (pe_callB (call_isiT (K := K) rfl) rfl B.b_isinstance boot_isinstance (pa_cons (pv 2) (pa_cons (pe_bltn (v := .ty "str") rfl B.b_str boot_str rfl) pa_nil))) (pe_one (pe_cmpR op_eq (pv 2) (pe_ix ix_list (pe_lst (pa_cons pe_str (pa_cons pe_str (pa_cons pe_str (pa_cons pe_str pa_nil))))) (pv 1) (fun _ _ => rfl)) (nomark _))))))))), ?_⟩
  obtain ⟨dx, u, s, ff, ex, sf, eu, hs⟩ := st.ex
  try dsimp only [gName, tNext]
  rcases hc with ⟨rfl, rfl⟩ | ⟨rfl, rfl⟩ | ⟨rfl, rfl⟩ | ⟨rfl, rfl⟩
  · refine cut (fun σ H' => H = H' ∧ σ = [some (.ref x), some (.int 0), none]) (fun N hN => ?_) ?_
    · exact ⟨_, rfl, _, _, _, true, rfl, .ins ex B.cl_Step B.tc_Step.ha B.tc_Step.hn B.tc_Step.htk B.tc_Step.hm, B.kit_Step_Step, _, rfl, iteF ⟨_, rfl, _, _, _, false, rfl, .ins ex B.cl_Step B.tc_Step.ha B.tc_Step.hn B.tc_Step.htk B.tc_Step.hm, B.kit_Step_Cut, _, rfl, rfl, rfl, _, rfl, nF rfl (hN _ _ ⟨rfl, rfl⟩)⟩⟩
    rintro σ _ ⟨rfl, rfl⟩
    refine cut (fun σ H' => H = H' ∧ σ = [some (.ref x), some (.int 0), none]) (fun N hN => ?_) ?_
    · exact ⟨_, rfl, _, _, _, false, rfl, .ins ex B.cl_Step B.tc_Step.ha B.tc_Step.hn B.tc_Step.htk B.tc_Step.hm, B.kit_Step_Warm, _, rfl, rfl, rfl, _, rfl, nF rfl ⟨_, rfl, _, _, _, false, rfl, .ins ex B.cl_Step B.tc_Step.ha B.tc_Step.hn B.tc_Step.htk B.tc_Step.hm, B.kit_Step_Rest, _, rfl, rfl, rfl, _, rfl, nF rfl (hN _ _ ⟨rfl, rfl⟩)⟩⟩
    rintro σ _ ⟨rfl, rfl⟩
    refine cut (fun σ H' => H = H' ∧ σ = [some (.ref x), some (.int 0), some (.str "step")]) (fun N hN => ?_) ?_
    · exact .inl ⟨_, rfl, x, _, dx, ff, rfl, ex, B.cl_Step, B.me_Step_word, sf.word, _, rfl, hN _ _ ⟨rfl, rfl⟩⟩
    rintro σ _ ⟨rfl, rfl⟩
    refine ⟨_, rfl, _, _, _, true, rfl, .str _, rfl, _, rfl, iteT ⟨_, rfl, (by show 4 ≤ sizeLine; decide), fun lw nw => ⟨_, rfl, lw, _, _, .str "step", rfl, rfl, SqL.of upd_same, rfl, rfl, dQt (Q := fun v => Q v _) (q _ (same_new nw _))⟩⟩⟩
  · refine cut (fun σ H' => H = H' ∧ σ = [some (.ref x), some (.int 1), none]) (fun N hN => ?_) ?_
    · exact ⟨_, rfl, _, _, _, true, rfl, .ins ex B.cl_Cut B.tc_Cut.ha B.tc_Cut.hn B.tc_Cut.htk B.tc_Cut.hm, B.kit_Cut_Step, _, rfl, iteF ⟨_, rfl, _, _, _, true, rfl, .ins ex B.cl_Cut B.tc_Cut.ha B.tc_Cut.hn B.tc_Cut.htk B.tc_Cut.hm, B.kit_Cut_Cut, _, rfl, rfl, rfl, _, rfl, nF rfl (hN _ _ ⟨rfl, rfl⟩)⟩⟩
    rintro σ _ ⟨rfl, rfl⟩
    refine cut (fun σ H' => H = H' ∧ σ = [some (.ref x), some (.int 1), none]) (fun N hN => ?_) ?_
    · exact ⟨_, rfl, _, _, _, false, rfl, .ins ex B.cl_Cut B.tc_Cut.ha B.tc_Cut.hn B.tc_Cut.htk B.tc_Cut.hm, B.kit_Cut_Warm, _, rfl, rfl, rfl, _, rfl, nF rfl ⟨_, rfl, _, _, _, false, rfl, .ins ex B.cl_Cut B.tc_Cut.ha B.tc_Cut.hn B.tc_Cut.htk B.tc_Cut.hm, B.kit_Cut_Rest, _, rfl, rfl, rfl, _, rfl, nF rfl (hN _ _ ⟨rfl, rfl⟩)⟩⟩
    rintro σ _ ⟨rfl, rfl⟩
    refine cut (fun σ H' => H = H' ∧ σ = [some (.ref x), some (.int 1), some (.str "cut")]) (fun N hN => ?_) ?_
    · exact .inr (.inl ⟨_, rfl, x, _, dx, ff, rfl, ex, B.cl_Cut, B.me_Cut_word, sf.word, _, rfl, hN _ _ ⟨rfl, rfl⟩⟩)
    rintro σ _ ⟨rfl, rfl⟩
    refine ⟨_, rfl, _, _, _, true, rfl, .str _, rfl, _, rfl, iteT ⟨_, rfl, (by show 4 ≤ sizeLine; decide), fun lw nw => ⟨_, rfl, lw, _, _, .str "cut", rfl, rfl, SqL.of upd_same, rfl, rfl, dQt (Q := fun v => Q v _) (q _ (same_new nw _))⟩⟩⟩
  · refine cut (fun σ H' => H = H' ∧ σ = [some (.ref x), some (.int 2), none]) (fun N hN => ?_) ?_
    · exact ⟨_, rfl, _, _, _, true, rfl, .ins ex B.cl_Warm B.tc_Warm.ha B.tc_Warm.hn B.tc_Warm.htk B.tc_Warm.hm, B.kit_Warm_Step, _, rfl, iteF ⟨_, rfl, _, _, _, false, rfl, .ins ex B.cl_Warm B.tc_Warm.ha B.tc_Warm.hn B.tc_Warm.htk B.tc_Warm.hm, B.kit_Warm_Cut, _, rfl, rfl, rfl, _, rfl, nF rfl (hN _ _ ⟨rfl, rfl⟩)⟩⟩
    rintro σ _ ⟨rfl, rfl⟩
    refine cut (fun σ H' => H = H' ∧ σ = [some (.ref x), some (.int 2), none]) (fun N hN => ?_) ?_
    · exact ⟨_, rfl, _, _, _, true, rfl, .ins ex B.cl_Warm B.tc_Warm.ha B.tc_Warm.hn B.tc_Warm.htk B.tc_Warm.hm, B.kit_Warm_Warm, _, rfl, rfl, rfl, _, rfl, nF rfl ⟨_, rfl, _, _, _, false, rfl, .ins ex B.cl_Warm B.tc_Warm.ha B.tc_Warm.hn B.tc_Warm.htk B.tc_Warm.hm, B.kit_Warm_Rest, _, rfl, rfl, rfl, _, rfl, nF rfl (hN _ _ ⟨rfl, rfl⟩)⟩⟩
    rintro σ _ ⟨rfl, rfl⟩
    refine cut (fun σ H' => H = H' ∧ σ = [some (.ref x), some (.int 2), some (.str "warm")]) (fun N hN => ?_) ?_
    · exact .inr (.inr (.inl ⟨_, rfl, x, _, dx, ff, rfl, ex, B.cl_Warm, B.me_Warm_word, sf.word, _, rfl, hN _ _ ⟨rfl, rfl⟩⟩))
    rintro σ _ ⟨rfl, rfl⟩
    refine ⟨_, rfl, _, _, _, true, rfl, .str _, rfl, _, rfl, iteT ⟨_, rfl, (by show 4 ≤ sizeLine; decide), fun lw nw => ⟨_, rfl, lw, _, _, .str "warm", rfl, rfl, SqL.of upd_same, rfl, rfl, dQt (Q := fun v => Q v _) (q _ (same_new nw _))⟩⟩⟩
  · refine cut (fun σ H' => H = H' ∧ σ = [some (.ref x), some (.int 3), none]) (fun N hN => ?_) ?_
    · exact ⟨_, rfl, _, _, _, true, rfl, .ins ex B.cl_Rest B.tc_Rest.ha B.tc_Rest.hn B.tc_Rest.htk B.tc_Rest.hm, B.kit_Rest_Step, _, rfl, iteF ⟨_, rfl, _, _, _, false, rfl, .ins ex B.cl_Rest B.tc_Rest.ha B.tc_Rest.hn B.tc_Rest.htk B.tc_Rest.hm, B.kit_Rest_Cut, _, rfl, rfl, rfl, _, rfl, nF rfl (hN _ _ ⟨rfl, rfl⟩)⟩⟩
    rintro σ _ ⟨rfl, rfl⟩
    refine cut (fun σ H' => H = H' ∧ σ = [some (.ref x), some (.int 3), none]) (fun N hN => ?_) ?_
    · exact ⟨_, rfl, _, _, _, false, rfl, .ins ex B.cl_Rest B.tc_Rest.ha B.tc_Rest.hn B.tc_Rest.htk B.tc_Rest.hm, B.kit_Rest_Warm, _, rfl, rfl, rfl, _, rfl, nF rfl ⟨_, rfl, _, _, _, true, rfl, .ins ex B.cl_Rest B.tc_Rest.ha B.tc_Rest.hn B.tc_Rest.htk B.tc_Rest.hm, B.kit_Rest_Rest, _, rfl, rfl, rfl, _, rfl, nF rfl (hN _ _ ⟨rfl, rfl⟩)⟩⟩
    rintro σ _ ⟨rfl, rfl⟩
    refine cut (fun σ H' => H = H' ∧ σ = [some (.ref x), some (.int 3), some (.str "rest")]) (fun N hN => ?_) ?_
    · exact .inr (.inr (.inr ⟨_, rfl, x, _, dx, ff, rfl, ex, B.cl_Rest, B.me_Rest_word, sf.word, _, rfl, hN _ _ ⟨rfl, rfl⟩⟩))
    rintro σ _ ⟨rfl, rfl⟩
    refine ⟨_, rfl, _, _, _, true, rfl, .str _, rfl, _, rfl, iteT ⟨_, rfl, (by show 4 ≤ sizeLine; decide), fun lw nw => ⟨_, rfl, lw, _, _, .str "rest", rfl, rfl, SqL.of upd_same, rfl, rfl, dQt (Q := fun v => Q v _) (q _ (same_new nw _))⟩⟩⟩

theorem sc_law_values : FnScope ["_law_step_here", "_law_name", "_law_lengths", "_law_uses_here", "_law_second"] ["_law_step_here", "_law_name", "_law_lengths", "_law_uses_here", "_law_second"] (defScope s_law_values) := ⟨rfl, rfl, rfl, by decide +kernel, rfl, by decide +kernel, by decide +kernel⟩
set_option maxHeartbeats 4000000 in
theorem ok_law_values {dV : Value} (F : FunD K "_law_values" "_law_values" s_law_values dV f fd) (B : Bn K mg c_Cut c_Rest c_Step c_Warm f_Step_init f_Step_word f_Step_span f_Cut_word f_Cut_span f_Warm_init f_Warm_word f_Rest_word f_Step_grown_way f_Step_grown) (D_law_whole : Dx P w K mg base CX0 1 "_law_whole" ["_law_found"] [] spWhole) : FnOk P w K mg base CX0 2 f fd ["_law_step_here", "_law_name", "_law_lengths", "_law_uses_here", "_law_second"] (spValS K) := by
  have sc := sc_law_values
  refine F.ok sc (fun vs H Q E h => ?_) (fun cdv A outer s H vs Q E hr h => ?_)
  · obtain ⟨l, m, nm, x, C, tl, lu, sv, us, c, rfl, _⟩ := h
    rfl
  obtain ⟨l, m, nm, x, C, tl, lu, sv, us, c, rfl, st, sc0, et, el, hv, q⟩ := h
  refine ⟨_, (pss_cons (ps_if (PW.pt (pw_or (pt_not (pt_val (pe_callB (call_isiT (K := K) rfl) rfl B.b_isinstance boot_isinstance (pa_cons (pe_fld (pv 0) rfl) (pa_cons (pe_bltn (v := .ty "str") rfl B.b_str boot_str rfl) pa_nil))))) (pw_or1 (pt_cmpR op_ne (pe_fld (pv 0) rfl) (pv 1) (nomark _))))) (pss_one (ps_ret pe_bl)) pss_nil) (pss_cons (ps_if (PW.pt (pw_or (pt_not (pt_val (pcall0 D_law_whole hr (by decide) rfl (pa_cons (pe_fld (pv 0) rfl) pa_nil)))) (pw_or (pt_not (pt_val (pcall0 D_law_whole hr (by decide) rfl (pa_cons (pe_fld (pv 0) rfl) pa_nil)))) (pw_or1 (pt_cmpR (op_ne2T hr.units0) (pe_tup (pa_cons (pe_fld (pv 0) rfl) (pa_cons (pe_fld (pv 0) rfl) pa_nil))) (pv 2) (nomark _)))))) (pss_one (ps_ret pe_bl)) pss_nil) (pss_cons (ps_if (PW.pt (pw_or (pt_not (pt_val (pe_callB (call_isiT (K := K) rfl) rfl B.b_isinstance boot_isinstance (pa_cons (pe_fld (pv 0) rfl) (pa_cons (pe_bltn (v := .ty "list") rfl B.b_list boot_list rfl) pa_nil))))) (pw_or1 (pt_cmpR (op_neR hr.units0) (pe_fld (pv 0) rfl) (pv 3) (nomark _))))) (pss_one (ps_ret pe_bl)) pss_nil) (pss_cons (ps_if (pt_cmpR op_isN (pv 4) pe_non (nomark _)) (pss_one (ps_ret (pe_cmpR op_isN (pe_fld (pv 0) rfl) pe_non (nomark _)))) pss_nil) (pss_one (ps_ret (pe_and (pe_callB (call_isiT (K := K) rfl) rfl B.b_isinstance boot_isinstance (pa_cons (pe_fld (pv 0) rfl) (pa_cons (pe_bltn (v := .ty "tuple") rfl B.b_tuple boot_tuple rfl) pa_nil))) (pe_one (pe_cmpR (op_eqW (hu_of hr)) (pe_fld (pv 0) rfl) (pv 4) (nomark _)))))))))), ?_⟩
  obtain ⟨dx, u, s, ff, ex, sf, eu, hs⟩ := st.ex
  try dsimp only [gName, tNext]
  refine cut (fun σ H' => H = H' ∧ σ = [some (.ref x), some (.str nm), some (.ref tl), some (.ref lu), some sv]) (fun N hN => ?_) ?_
  · exact ⟨_, rfl, x, C, dx, ff, _, rfl, ex, sc0.cl, sc0.name, sf.name, _, _, _, true, rfl, .str _, rfl, _, rfl, iteF ⟨_, rfl, x, C, dx, ff, _, rfl, ex, sc0.cl, sc0.name, sf.name, _, rfl, rfl, _, rfl, nF rfl (hN _ _ ⟨rfl, rfl⟩)⟩⟩
  rintro σ _ ⟨rfl, rfl⟩
  refine cut (fun σ H' => Same H H' ∧ σ = [some (.ref x), some (.str nm), some (.ref tl), some (.ref lu), some sv]) (fun N hN => ?_) ?_
  · refine ⟨_, rfl, x, C, dx, ff, _, rfl, ex, sc0.cl, sc0.least, sf.least, l, rfl, true, rfl, iteF ⟨_, rfl, x, C, dx, ff, _, rfl, ex, sc0.cl, sc0.most, sf.most, m, rfl, true, rfl, iteF ⟨_, rfl, x, C, dx, ff, _, rfl, ex, sc0.cl, sc0.least, sf.least, _, rfl, x, C, dx, ff, _, rfl, ex, sc0.cl, sc0.most, sf.most, (by show 2 ≤ sizeLine; decide), fun t nt => ?_⟩⟩⟩
    have g := same_new nt (.tup [.int l, .int m])
    exact ⟨_, rfl, t, tl, l, m, rfl, rfl, SqT.of upd_same, SqT.of (g _ _ et), _, rfl, iteF (hN _ _ ⟨g, rfl⟩)⟩
  rintro σ H1 ⟨g1, rfl⟩
  have ex1 := g1 _ _ ex
  have eu1 := g1 _ _ eu
  have el1 := g1 _ _ el
  refine cut (fun σ H' => H1 = H' ∧ σ = [some (.ref x), some (.str nm), some (.ref tl), some (.ref lu), some sv]) (fun N hN => ?_) ?_
  · exact ⟨_, rfl, x, C, dx, ff, _, rfl, ex1, sc0.cl, sc0.uses, sf.uses, _, _, _, true, rfl, .lst eu1, rfl, _, rfl, iteF ⟨_, rfl, x, C, dx, ff, _, rfl, ex1, sc0.cl, sc0.uses, sf.uses, _, rfl, u, lu, us, rfl, rfl, SqL.of eu1, SqL.of el1, _, rfl, iteF (hN _ _ ⟨rfl, rfl⟩)⟩⟩
  rintro σ _ ⟨rfl, rfl⟩
  match c, hs, hv with
  | none, hs, hv =>
    have e1 : s = .non := hs
    have e2 : sv = .non := hv
    subst e1
    subst e2
    exact ⟨_, rfl, rfl, _, rfl, dT rfl ⟨_, rfl, x, C, dx, ff, _, rfl, ex1, sc0.cl, sc0.second, sf.second, rfl, dQt (Q := fun v => Q v _) (q _ g1)⟩⟩
  | some (a, b, vs), hs, hv =>
    obtain ⟨t, l2, rfl, h2, h3⟩ := hs
    obtain ⟨t', l2', rfl, h2', h3'⟩ := hv
    exact ⟨_, rfl, rfl, _, rfl, dF (fun z => nomatch z) ⟨_, rfl, x, C, dx, ff, _, rfl, ex1, sc0.cl, sc0.second, sf.second, _, _, _, true, rfl, .tup (g1 _ _ h2), rfl, _, rfl, iteT ⟨_, rfl, x, C, dx, ff, _, rfl, ex1, sc0.cl, sc0.second, sf.second, _, rfl, t, t', l2, l2', a, b, vs, rfl, rfl, SqT.of (g1 _ _ h2), SqT.of (g1 _ _ h2'), SqL.of (g1 _ _ h3), SqL.of (g1 _ _ h3'), q _ g1⟩⟩⟩

theorem sc_law_grew : FnScope ["_law_found", "_law_lengths", "_law_factor", "_law_kind_here", "_law_k", "_law_due"] ["_law_found", "_law_lengths", "_law_factor", "_law_kind_here"] (defScope s_law_grew) := ⟨rfl, rfl, rfl, by decide +kernel, rfl, by decide +kernel, by decide +kernel⟩
set_option maxHeartbeats 4000000 in
theorem ok_law_grew {dV : Value} (F : FunD K "_law_grew" "_law_grew" s_law_grew dV f fd) (B : Bn K mg c_Cut c_Rest c_Step c_Warm f_Step_init f_Step_word f_Step_span f_Cut_word f_Cut_span f_Warm_init f_Warm_word f_Rest_word f_Step_grown_way f_Step_grown) (D_law_whole : Dx P w K mg base CX0 1 "_law_whole" ["_law_found"] [] spWhole) : FnOk P w K mg base CX0 2 f fd ["_law_found", "_law_lengths", "_law_factor", "_law_kind_here"] (spGrewS K) := by
  have sc := sc_law_grew
  refine F.ok sc (fun vs H Q E h => ?_) (fun cdv A outer s H vs Q E hr h => ?_)
  · obtain ⟨t, tl, tf, kd, l, m, p, q, n, n2, r, rfl, _⟩ := h
    rfl
  obtain ⟨t, tl, tf, kd, l, m, p, q, n, n2, r, rfl, et, rl, el, ft, bl, bm, gn, gm, k⟩ := h
  refine ⟨_, (pss_cons (ps_if (PW.pt (pw_or (pt_not (pt_val (pe_callB (call_isiT (K := K) rfl) rfl B.b_isinstance boot_isinstance (pa_cons (pv 0) (pa_cons (pe_bltn (v := .ty "tuple") rfl B.b_tuple boot_tuple rfl) pa_nil))))) (pw_or (pt_cmpR op_lt (pe_callB call_len_seq rfl B.b_len boot_len (pa_cons (pv 0) pa_nil)) pe_int (nomark _)) (pw_or (pt_not (pt_val (pcall0 D_law_whole hr (by decide) rfl (pa_cons (pe_ix ix_tup (pv 0) pe_int (fun _ _ => rfl)) pa_nil)))) (pw_or1 (pt_not (pt_val (pcall0 D_law_whole hr (by decide) rfl (pa_cons (pe_ix ix_tup (pv 0) pe_int (fun _ _ => rfl)) pa_nil))))))))) (pss_one (ps_ret pe_bl)) pss_nil) (pss_cons (ps_if (pt_cmpR op_ne (pv 3) pe_int (nomark _)) (pss_one (ps_ret (pe_cmpR (op_eq2 (Nat.lt_of_succ_lt (hu_of hr))) (pe_slice sl_tupA (pv 0) po_none (po_some pe_int)) (pv 1) (nomark _)))) pss_nil) (pss_cons (ps_for PassesOwn.never rfl (pi_range1 rfl B.b_range (pa_cons pe_int pa_nil)) (pg_name (i := 4) sc.nd rfl (Or.inl rfl)) (pss_cons (ps_set (i := 5) sc.nd rfl (Or.inl rfl) (pe_op op_mulB (pe_ix ix_tup (pv 1) (pv 4) (fun _ _ => rfl)) (pe_ix ix_tup (pv 2) pe_int (fun _ _ => rfl)))) (pss_one (ps_if (PW.pt (pw_or (pt_cmpR op_lt (pe_op op_mulB (pe_ix ix_tup (pv 0) (pv 4) (fun _ _ => rfl)) (pe_ix ix_tup (pv 2) pe_int (fun _ _ => rfl))) (pv 5) (nomark _)) (pw_or1 (pt_cmpR op_ge (pe_op op_mulB (pe_op op_sub (pe_ix ix_tup (pv 0) (pv 4) (fun _ _ => rfl)) pe_int) (pe_ix ix_tup (pv 2) pe_int (fun _ _ => rfl))) (pv 5) (nomark _))))) (pss_one (ps_ret pe_bl)) pss_nil)))) (pss_one (ps_ret pe_bl))))), ?_⟩
  have rc : r = [] ∨ ∃ z, r = [z] := by
    match r, rl with
    | [], _ => exact .inl rfl
    | [z], _ => exact .inr ⟨z, rfl⟩
    | _ :: _ :: _, h => simp at h
  have a1 : atI (V.int n :: V.int n2 :: r) 1 = some (.int n2) := atI_nat (j := 1) rfl
  have a0 : atI (V.int n :: V.int n2 :: r) 0 = some (.int n) := atI_nat (j := 0) rfl
  try dsimp only [gName, tNext]
  refine cut (fun σ H' => H = H' ∧ σ = [some (.ref t), some (.ref tl), some (.ref tf), some (.int kd), none, none]) (fun N hN => ?_) ?_
  · exact ⟨_, rfl, _, _, _, true, rfl, .tup et, rfl, _, rfl, iteF ⟨_, rfl, t, _, rfl, .inr (SqT.of et), _, _, rfl, rfl, _, rfl, dF (by simp only [List.length_cons]; omega) ⟨_, rfl, _, _, _, _, rfl, rfl, SqT.of et, a0, n, rfl, true, rfl, iteF ⟨_, rfl, _, _, _, _, rfl, rfl, SqT.of et, a1, n2, rfl, true, rfl, iteF (hN _ _ ⟨rfl, rfl⟩)⟩⟩⟩⟩
  rintro σ _ ⟨rfl, rfl⟩
  refine ⟨_, rfl, rfl, _, rfl, n2I (fun c => ?_) (fun c => ?_)⟩
  · rw [decide_eq_false c] at gn gm
    have en : n = l := gn
    have em : n2 = m := gm
    subst en
    subst em
    refine ⟨_, rfl, _, rfl, t, _, rfl, SqT.of et, fun w => ?_, fun _ t2 nt => ?_⟩
    · rcases rc with rfl | ⟨z, rfl⟩
      · exact ⟨_, rfl, t, tl, n, n2, n, n2, rfl, rfl, SqT.of et, SqT.of el, dQt2 (Q := fun v => Q v _) (k _ (.refl _))⟩
      · exact absurd (show (2 : Nat) = 3 from w.2) (by decide)
    · rw [cutV_two _ _ r rl]
      exact ⟨_, rfl, t2, tl, n, n2, n, n2, rfl, rfl, SqT.of upd_same, SqT.of (same_new nt _ _ _ el), dQt2 (Q := fun v => Q v _) (k _ (same_new nt _))⟩
  · rw [decide_eq_true c] at gn gm
    obtain ⟨u1, b1⟩ : Up n l p q ∧ Bd 2000 n := gn
    obtain ⟨u2, b2⟩ : Up n2 m p q ∧ Bd 2000 n2 := gm
    have lo1 := u1.lo
    have hi1 := u1.hi
    have lo2 := u2.lo
    have hi2 := u2.hi
    refine ⟨2, rfl, (by decide), (by decide), for_range (n := 2) (fun i σ H' => H = H' ∧ ∃ o4 o5 : Option V, σ = [some (.ref t), some (.ref tl), some (.ref tf), some (.int kd), o4, o5]) ⟨rfl, none, none, rfl⟩ (fun i σ H' hi hP => ?_) (fun σ H' hP => ?_)⟩
    · obtain ⟨rfl, o4, o5, rfl⟩ := hP
      match i, hi with
      | 0, _ => exact ⟨_, rfl, _, rfl, _, _, _, _, rfl, rfl, SqT.of el, rfl, _, rfl, _, _, _, _, rfl, rfl, ft.at_, rfl, _, _, rfl, rfl, bl.ok ft.bp, _, rfl, _, rfl, _, _, _, _, rfl, rfl, SqT.of et, a0, _, rfl, _, _, _, _, rfl, rfl, ft.at_, rfl, _, _, rfl, rfl, b1.ok ft.bq, _, rfl, _, _, rfl, rfl, _, rfl, dF (by omega) ⟨_, rfl, _, rfl, _, _, _, _, rfl, rfl, SqT.of et, a0, _, _, rfl, rfl, _, rfl, _, _, _, _, rfl, rfl, ft.at_, rfl, _, _, rfl, rfl, (b1.sub (Bd.one.mono (by decide))).ok ft.bq, _, rfl, _, _, rfl, rfl, _, rfl, dF (by omega) ⟨rfl, _, _, rfl⟩⟩⟩
      | 1, _ => exact ⟨_, rfl, _, rfl, _, _, _, _, rfl, rfl, SqT.of el, rfl, _, rfl, _, _, _, _, rfl, rfl, ft.at_, rfl, _, _, rfl, rfl, bm.ok ft.bp, _, rfl, _, rfl, _, _, _, _, rfl, rfl, SqT.of et, a1, _, rfl, _, _, _, _, rfl, rfl, ft.at_, rfl, _, _, rfl, rfl, b2.ok ft.bq, _, rfl, _, _, rfl, rfl, _, rfl, dF (by omega) ⟨_, rfl, _, rfl, _, _, _, _, rfl, rfl, SqT.of et, a1, _, _, rfl, rfl, _, rfl, _, _, _, _, rfl, rfl, ft.at_, rfl, _, _, rfl, rfl, (b2.sub (Bd.one.mono (by decide))).ok ft.bq, _, rfl, _, _, rfl, rfl, _, rfl, dF (by omega) ⟨rfl, _, _, rfl⟩⟩⟩
      | n + 2, h => exact absurd h (by omega)
    · obtain ⟨rfl, o4, o5, rfl⟩ := hP
      exact k _ (.refl _)

theorem sc_law_ways : FnScope ["_law_step_here", "_law_kind_here", "_law_factor", "_law_dues", "_law_span", "_law_found", "_law_k", "_law_way_here"] ["_law_step_here", "_law_kind_here", "_law_factor", "_law_dues"] (defScope s_law_ways) := ⟨rfl, rfl, rfl, by decide +kernel, rfl, by decide +kernel, by decide +kernel⟩
set_option maxHeartbeats 4000000 in
theorem ok_law_ways {dV : Value} (F : FunD K "_law_ways" "_law_ways" s_law_ways dV f fd) (B : Bn K mg c_Cut c_Rest c_Step c_Warm f_Step_init f_Step_word f_Step_span f_Cut_word f_Cut_span f_Warm_init f_Warm_word f_Rest_word f_Step_grown_way f_Step_grown) (DStep_span : DxM P w K mg base CX0 1 f_Step_span ["self", "least", "most", "factor"] [] (spSpan K false)) (DCut_span : DxM P w K mg base CX0 5 f_Cut_span ["self", "least", "most", "factor"] [] (spSpan K true)) (DStep_grown : DxM P w K mg base CX0 7 f_Step_grown ["self", "factor"] [] (spGrownS K f_Step_grown f_Step_grown_way f_Step_span f_Cut_span)) (D_law_grew : Dx P w K mg base CX0 2 "_law_grew" ["_law_found", "_law_lengths", "_law_factor", "_law_kind_here"] [] (spGrewS K)) : FnOk P w K mg base CX0 8 f fd ["_law_step_here", "_law_kind_here", "_law_factor", "_law_dues"] (spWaysS K f_Step_grown f_Step_grown_way f_Step_span f_Cut_span) := by
  have sc := sc_law_ways
  refine F.ok sc (fun vs H Q E h => ?_) (fun cdv A outer s H vs Q E hr h => ?_)
  · obtain ⟨x, C, tf, ld, nm, kd, l, m, p, q, us, c, f, rfl, _⟩ := h
    rfl
  obtain ⟨x, C, tf, ld, nm, kd, l, m, p, q, us, c, f, rfl, st, sm, ft, du, hd, hb, k⟩ := h
  have s4 : (5000 : Nat) ≤ sizeLine := by decide
  refine ⟨_, (pss_cons (ps_set (i := 4) sc.nd rfl (Or.inl rfl) (pe_either (pmeth0 (pv 0) DStep_span hr (by decide) (pa_cons (pe_ix ix_tup (pe_ix ix_list (pv 3) pe_int (fun _ _ => rfl)) pe_int (fun _ _ => rfl)) (pa_cons (pe_ix ix_tup (pe_ix ix_list (pv 3) pe_int (fun _ _ => rfl)) pe_int (fun _ _ => rfl)) (pa_cons (pv 2) pa_nil)))) (pmeth0 (pv 0) DCut_span hr (by decide) (pa_cons (pe_ix ix_tup (pe_ix ix_list (pv 3) pe_int (fun _ _ => rfl)) pe_int (fun _ _ => rfl)) (pa_cons (pe_ix ix_tup (pe_ix ix_list (pv 3) pe_int (fun _ _ => rfl)) pe_int (fun _ _ => rfl)) (pa_cons (pv 2) pa_nil)))))) (pss_cons (ps_if (PW.pt (pw_or (pt_not (pt_val (pcall0 D_law_grew hr (by decide) rfl (pa_cons (pv 4) (pa_cons (pe_slice sl_tup (pe_ix ix_list (pv 3) pe_int (fun _ _ => rfl)) po_none (po_some pe_int)) (pa_cons (pv 2) (pa_cons (pv 1) pa_nil))))))) (pw_or1 (pt_cmpR op_ne (pe_callB call_len_seq rfl B.b_len boot_len (pa_cons (pv 4) pa_nil)) pe_int (nomark _))))) (pss_one (ps_ret pe_bl)) pss_nil) (pss_cons (ps_set (i := 5) sc.nd rfl (Or.inl rfl) (pmeth0 (pv 0) DStep_grown hr (by decide) (pa_cons (pv 2) pa_nil))) (pss_cons (ps_if (PW.pt (pw_or (pt_not (pt_val (pe_callB (call_isiT (K := K) rfl) rfl B.b_isinstance boot_isinstance (pa_cons (pv 5) (pa_cons (pe_bltn (v := .ty "list") rfl B.b_list boot_list rfl) pa_nil))))) (pw_or1 (pt_cmpR op_ne (pe_callB call_len_seq rfl B.b_len boot_len (pa_cons (pv 5) pa_nil)) (pe_callB call_len_seq rfl B.b_len boot_len (pa_cons (pv 3) pa_nil)) (nomark _))))) (pss_one (ps_ret pe_bl)) pss_nil) (pss_cons (ps_for PassesOwn.never rfl (pi_range1 rfl B.b_range (pa_cons (pe_callB call_len_seq rfl B.b_len boot_len (pa_cons (pv 3) pa_nil)) pa_nil)) (pg_name (i := 6) sc.nd rfl (Or.inl rfl)) (pss_cons (ps_set (i := 7) sc.nd rfl (Or.inl rfl) (pe_ix ix_list (pv 5) (pv 6) (fun _ _ => rfl))) (pss_cons (ps_if (PW.pt (pw_or (pt_not (pt_val (pcall0 D_law_grew hr (by decide) rfl (pa_cons (pv 7) (pa_cons (pe_slice sl_tup (pe_ix ix_list (pv 3) (pv 6) (fun _ _ => rfl)) po_none (po_some pe_int)) (pa_cons (pv 2) (pa_cons (pv 1) pa_nil))))))) (pw_or1 (pt_cmpR op_ne (pe_callB call_len_seq rfl B.b_len boot_len (pa_cons (pv 7) pa_nil)) pe_int (nomark _))))) (pss_one (ps_ret pe_bl)) pss_nil) (pss_cons (ps_if (PW.pt (pw_or (pt_not (pt_val (pe_callB (call_isiT (K := K) rfl) rfl B.b_isinstance boot_isinstance (pa_cons (pe_ix ix_tup (pv 7) pe_int (fun _ _ => rfl)) (pa_cons (pe_bltn (v := .ty "list") rfl B.b_list boot_list rfl) pa_nil))))) (pw_or1 (pt_cmpR (op_neR hr.units0) (pe_ix ix_tup (pv 7) pe_int (fun _ _ => rfl)) (pe_callB call_sortT rfl B.b_sorted PyProof.Rows.Boot.«sorted» (pa_cons (pe_ix ix_tup (pe_ix ix_list (pv 3) (pv 6) (fun _ _ => rfl)) pe_int (fun _ _ => rfl)) pa_nil)) (nomark _))))) (pss_one (ps_ret pe_bl)) pss_nil) (pss_one (ps_expr (pe_bm PySem.F.plainAttrs_list PySem.F.slot_list_append PySem.F.type_list_append mt_append (pe_ix ix_tup (pv 7) pe_int (fun _ _ => rfl)) (pa_cons (pe_tup (pa_cons pe_str (pa_cons pe_int (pa_cons pe_int pa_nil)))) pa_nil)))))))) (pss_cons (ps_expr (pe_bm PySem.F.plainAttrs_list PySem.F.slot_list_append PySem.F.type_list_append mt_append (pv 5) (pa_cons (pe_ix ix_list (pv 5) pe_int (fun _ _ => rfl)) pa_nil))) (pss_one (ps_ret pe_bl)))))))), ?_⟩
  obtain ⟨dx, u, s, ff, ex, sf, eu, hs⟩ := st.ex
  obtain ⟨ts, eld, tl, td⟩ := du.ex
  have d0 : (duesOf l m us c)[0]? = some (l, m, us) := by cases c <;> rfl
  have dl : 1 ≤ (duesOf l m us c).length ∧ (duesOf l m us c).length ≤ 2 := by cases c <;> simp [duesOf]
  have h0 := hd (l, m, us) (List.mem_of_getElem? d0)
  obtain ⟨t0, et0⟩ : ∃ t0, ts[0]? = some t0 := ⟨_, List.getElem?_eq_getElem (by omega)⟩
  obtain ⟨lu0, k0, k1⟩ := td 0 t0 _ et0 d0
  have at0 : atI (ts.map V.ref) 0 = some (.ref t0) := atI_nat (j := 0) (by rw [List.getElem?_map, et0]; rfl)
  try dsimp only [gName, tNext]
  refine cut (fun σ H' => Same H H' ∧ ∃ (t : Addr) (n n2 : Int), σ = [some (.ref x), some (.int kd), some (.ref tf), some (.ref ld), some (.ref t), none, none, none] ∧ H' t = some (.tup [.int n, .int n2]) ∧ Grw (decide (kd = 1)) l p q n ∧ Grw (decide (kd = 1)) m p q n2) (fun N hN => ?_) ?_
  · have sp := sm.span
    by_cases ck : kd = 1
    · rw [decide_eq_true ck] at sp
      rw [decide_eq_true ck] at hN
      exact .inr ⟨_, rfl, x, C, dx, ff, rfl, ex, sm.c.cl, sp, sf.span, _, rfl, ld, _, _, _, rfl, rfl, SqL.of eld, at0, _, _, _, _, rfl, rfl, SqT.of k0, rfl, _, rfl, ld, _, _, _, rfl, rfl, SqL.of eld, at0, _, _, _, _, rfl, rfl, SqT.of k0, rfl, _, rfl, _, l, m, p, q, tf, rfl, ft, h0.1, h0.2.1, fun t H1 n n2 g1 e1 gn gn2 => hN _ _ ⟨g1, t, n, n2, rfl, e1, gn, gn2⟩⟩
    · rw [decide_eq_false ck] at sp
      rw [decide_eq_false ck] at hN
      exact .inl ⟨_, rfl, x, C, dx, ff, rfl, ex, sm.c.cl, sp, sf.span, _, rfl, ld, _, _, _, rfl, rfl, SqL.of eld, at0, _, _, _, _, rfl, rfl, SqT.of k0, rfl, _, rfl, ld, _, _, _, rfl, rfl, SqL.of eld, at0, _, _, _, _, rfl, rfl, SqT.of k0, rfl, _, rfl, _, l, m, p, q, tf, rfl, ft, h0.1, h0.2.1, fun t H1 n n2 g1 e1 gn gn2 => hN _ _ ⟨g1, t, n, n2, rfl, e1, gn, gn2⟩⟩
  rintro σ H1 ⟨g1, t, n, n2, rfl, e1, gn, gn2⟩
  refine cut (fun σ H' => Same H H' ∧ σ = [some (.ref x), some (.int kd), some (.ref tf), some (.ref ld), some (.ref t), none, none, none]) (fun N hN => ?_) ?_
  · refine ⟨_, rfl, _, rfl, ld, _, _, _, rfl, rfl, SqL.of (g1 _ _ eld), at0, _, rfl, t0, _, rfl, SqT.of (g1 _ _ k0), (fun z => absurd (show (2 : Nat) = 3 from z.2) (by decide)), fun t2 nt => ?_⟩
    have g2 := same_new nt (.tup [.int l, .int m])
    refine ⟨_, rfl, _, rfl, t, t2, tf, kd, l, m, p, q, n, n2, [], rfl, g2 _ _ e1, by simp, upd_same, (ft.same g1).same g2, h0.1, h0.2.1, gn, gn2, fun H2 g3 => ⟨_, rfl, iteF ?_⟩⟩
    exact ⟨_, rfl, t, _, rfl, .inr (SqT.of (g3 _ _ (g2 _ _ e1))), rfl, _, rfl, nFI rfl (hN _ _ ⟨(g1.trans g2).trans g3, rfl⟩)⟩
  clear g1 e1
  rintro σ H1 ⟨g1, rfl⟩
  refine ⟨_, rfl, x, C, dx, ff, rfl, g1 _ _ ex, sm.c.cl, sm.grown, sf.grown, _, rfl, x, C, tf, nm, l, m, p, q, us, c, f, _, rfl, st.same g1, sm, ft.same g1, (fun d hd' => ⟨(hd d hd').1, (hd d hd').2.1, (hd d hd').2.2.same g1⟩), fun lw H2 g2 wa => ?_⟩
  obtain ⟨ws, ew, wl, nlw, hw, dis⟩ := wa.ex
  have g12 := g1.trans g2
  try dsimp only [gName, tNext]
  refine cut (fun σ H' => H2 = H' ∧ σ = [some (.ref x), some (.int kd), some (.ref tf), some (.ref ld), some (.ref t), some (.ref lw), none, none]) (fun N hN => ?_) ?_
  · exact ⟨_, rfl, _, _, _, true, rfl, .lst ew, rfl, _, rfl, iteF ⟨_, rfl, lw, _, rfl, .inl (SqL.of ew), _, rfl, ld, _, rfl, .inl (SqL.of (g12 _ _ eld)), rfl, _, rfl, nFI (by rw [List.length_map, List.length_map, wl, tl]) (hN _ _ ⟨rfl, rfl⟩)⟩⟩
  rintro σ _ ⟨rfl, rfl⟩
  refine cut (fun σ H' => Same H H' ∧ H' lw = some (.lst (ws.map V.ref)) ∧ ∃ o6 o7 : Option V, σ = [some (.ref x), some (.int kd), some (.ref tf), some (.ref ld), some (.ref t), some (.ref lw), o6, o7]) (fun N hN => ?_) ?_
  · refine ⟨_, rfl, ld, _, rfl, .inl (SqL.of (g12 _ _ eld)), _, rfl, (by omega), (by rw [List.length_map]; omega), for_range (fun i σ H' => Same H H' ∧ H' lw = some (.lst (ws.map V.ref)) ∧ (∃ o6 o7 : Option V, σ = [some (.ref x), some (.int kd), some (.ref tf), some (.ref ld), some (.ref t), some (.ref lw), o6, o7]) ∧ ∀ (j : Nat) (t : Addr) (d : Sw.Due), i ≤ j → ws[j]? = some t → (duesOf l m us c)[j]? = some d → ∃ n k2 ls bs, H2 t = some (.tup [.int n, .int k2, .ref ls]) ∧ H' t = some (.tup [.int n, .int k2, .ref ls]) ∧ H' ls = some (.lst (bs.map V.ref)) ∧ Grw (decide (kd = 1)) d.1 p q n ∧ Grw (decide (kd = 1)) d.2.1 p q k2 ∧ SortOf d.2.2 bs f ∧ H1 ls = none) ⟨g12, ew, ⟨none, none, rfl⟩, fun j t d _ e1 e2 => ?_⟩ (fun i σ H3 hi hP => ?_) (fun σ H3 hP => ?_)⟩
    · obtain ⟨n, k2, ls, bs, r1, r2, r3, r4, r5, r6⟩ := (hw j t d e1 e2).ex
      exact ⟨n, k2, ls, bs, r1, r1, r2, r3, r4, r5, r6⟩
    · obtain ⟨g3, ew3, ⟨o6, o7, rfl⟩, hw3⟩ := hP
      have hi' : i < ts.length := by rw [List.length_map] at hi; omega
      obtain ⟨tw, etw⟩ : ∃ tw, ws[i]? = some tw := ⟨_, List.getElem?_eq_getElem (by omega)⟩
      obtain ⟨d, ed⟩ : ∃ d, (duesOf l m us c)[i]? = some d := ⟨_, List.getElem?_eq_getElem (by omega)⟩
      obtain ⟨ti, eti⟩ : ∃ ti, ts[i]? = some ti := ⟨_, List.getElem?_eq_getElem hi'⟩
      have dm := List.mem_of_getElem? ed
      obtain ⟨b1, b2, ul⟩ := hd d dm
      have b3 := hb d dm
      obtain ⟨lu, q1, q2⟩ := td i ti d eti ed
      obtain ⟨n', k2, ls, bs, r1, r2, r3, r4, r5, r6, r7⟩ := hw3 i tw d (Nat.le_refl _) etw ed
      have atw : atI (ws.map V.ref) (0 + (i : Int)) = some (.ref tw) := by
        rw [Int.zero_add]
        exact atI_nat (by rw [List.getElem?_map, etw]; rfl)
      have atd : atI (ts.map V.ref) (0 + (i : Int)) = some (.ref ti) := by
        rw [Int.zero_add]
        exact atI_nat (by rw [List.getElem?_map, eti]; rfl)
      refine ⟨_, rfl, _, rfl, lw, _, _, _, rfl, rfl, SqL.of ew3, atw, ?_⟩
      try dsimp only [gName, tNext]
      refine cut (fun σ H' => Same H3 H' ∧ σ = [some (.ref x), some (.int kd), some (.ref tf), some (.ref ld), some (.ref t), some (.ref lw), some (.int (0 + (i : Int))), some (.ref tw)]) (fun N hN => ?_) ?_
      · refine ⟨_, rfl, _, rfl, _, rfl, ld, _, _, _, rfl, rfl, SqL.of (g3 _ _ eld), atd, _, rfl, ti, _, rfl, SqT.of (g3 _ _ q1), (fun z => absurd (show (2 : Nat) = 3 from z.2) (by decide)), fun t2 nt => ?_⟩
        have g4 := same_new nt (.tup [.int d.1, .int d.2.1])
        refine ⟨_, rfl, _, rfl, tw, t2, tf, kd, d.1, d.2.1, p, q, n', k2, [.ref ls], rfl, g4 _ _ r2, by simp, upd_same, (ft.same g3).same g4, b1, b2, r4, r5, fun H4 g5 => ⟨_, rfl, iteF ?_⟩⟩
        exact ⟨_, rfl, tw, _, rfl, .inr (SqT.of (g5 _ _ (g4 _ _ r2))), rfl, _, rfl, nFI rfl (hN _ _ ⟨g4.trans g5, rfl⟩)⟩
      rintro σ H4 ⟨g4, rfl⟩
      have r2 := g4 _ _ r2
      have r3 := g4 _ _ r3
      have g34 := g3.trans g4
      refine cut (fun σ H' => Same H4 H' ∧ σ = [some (.ref x), some (.int kd), some (.ref tf), some (.ref ld), some (.ref t), some (.ref lw), some (.int (0 + (i : Int))), some (.ref tw)]) (fun N hN => ?_) ?_
      · refine ⟨_, rfl, _, _, _, _, rfl, rfl, SqT.of r2, rfl, _, _, _, true, rfl, .lst r3, rfl, _, rfl, iteF ⟨_, rfl, _, _, _, _, rfl, rfl, SqT.of r2, rfl, _, rfl, _, rfl, ld, _, _, _, rfl, rfl, SqL.of (g34 _ _ eld), atd, _, _, _, _, rfl, rfl, SqT.of (g34 _ _ q1), rfl, lu, d.2.2, f, rfl, g34 _ _ q2, (ul.same g34).tup, ul.nd, ul.sm, fun ls2 cs nls pr sr => ?_⟩⟩
        have ec := SortOf.uniq ul.nd r6 ⟨pr, sr⟩
        subst ec
        have g5 := same_new nls (.lst (bs.map V.ref))
        exact ⟨ls, ls2, bs, rfl, rfl, SqL.of (g5 _ _ r3), SqL.of upd_same, _, rfl, iteF (hN _ _ ⟨g5, rfl⟩)⟩
      rintro σ H5 ⟨g5, rfl⟩
      have r2 := g5 _ _ r2
      have r3 := g5 _ _ r3
      have bl : bs.length ≤ 100 := by rw [r6.perm.length_eq]; exact b3
      refine ⟨_, rfl, _, _, _, _, rfl, rfl, SqT.of r2, rfl, .inl ⟨rfl, _, SqL.of r3⟩, (by show 3 ≤ sizeLine; decide), fun tp np => ?_⟩
      have g6 := same_new np (.tup [.str "pan", .int 1, .int 0])
      refine ⟨ls, _, _, rfl, rfl, g6 _ _ r3, (by rw [List.length_map]; omega), ?_⟩
      have g36 := (g4.trans g5).trans g6
      have dn := fun j t' n2 k2' ls' (a : ws[j]? = some t') (b : H2 t' = some (.tup [.int n2, .int k2', .ref ls'])) => dis i j tw t' n' k2 n2 k2' ls ls' etw a r1 b
      have lsw := (dn i tw n' k2 ls etw r1).1
      refine ⟨sUpd (g3.trans g36) (g1.free r7) _, by rw [upd_ne (Ne.symm lsw)]; exact g36 _ _ ew3, ⟨_, _, rfl⟩, fun j t' d' hj e1 e2 => ?_⟩
      obtain ⟨n2, k2', ls', bs', s1, s2, s3, s4', s5, s6, s7⟩ := hw3 j t' d' (by omega) e1 e2
      have dj := (dn j t' n2 k2' ls' e1 s1).2 (by omega)
      exact ⟨n2, k2', ls', bs', s1, by rw [upd_ne (fun z => by have a := g36 _ _ s2; rw [z, g6 _ _ r3] at a; cases a)]; exact g36 _ _ s2, by rw [upd_ne (Ne.symm dj)]; exact g36 _ _ s3, s4', s5, s6, s7⟩
    · obtain ⟨g3, ew3, o, _⟩ := hP
      exact hN _ _ ⟨g3, ew3, o⟩
  rintro σ H3 ⟨g3, ew3, o6, o7, rfl⟩
  have w0 : atI (ws.map V.ref) 0 = some (.ref (ws[0]'(by omega))) := atI_nat (j := 0) (by rw [List.getElem?_map, List.getElem?_eq_getElem (by omega)]; rfl)
  refine ⟨_, rfl, .inl ⟨rfl, _, SqL.of ew3⟩, _, rfl, lw, _, _, _, rfl, rfl, SqL.of ew3, w0, lw, _, _, rfl, rfl, ew3, (by rw [List.length_map]; omega), ?_⟩
  exact k _ (sUpd g3 (g1.free nlw) _)

theorem sclaw : FnScope ["_law_script", "_law_kind_here", "_law_names_here", "_law_first", "_law_lengths", "_law_uses_here", "_law_top", "_law_bottom", "_law_share", "_law_factor", "_law_dues", "_law_second", "_law_way_here", "_law_handed", "_law_step_here"] ["_law_script"] (defScope slaw) := ⟨rfl, rfl, rfl, by decide +kernel, rfl, by decide +kernel, by decide +kernel⟩
set_option maxHeartbeats 4000000 in
theorem oklaw {dV : Value} (F : FunD K "law" "law" slaw dV f fd) (B : Bn K mg c_Cut c_Rest c_Step c_Warm f_Step_init f_Step_word f_Step_span f_Cut_word f_Cut_span f_Warm_init f_Warm_word f_Rest_word f_Step_grown_way f_Step_grown) (D_law_cell_at : Dx P w K mg base CX0 1 "_law_cell_at" ["_law_script", "_law_k"] [] (spCell K)) (D_law_common : Dx P w K mg base CX0 1 "_law_common" ["_law_one", "_law_other"] [] spDivP) (D_law_names : Dx P w K mg base CX0 2 "_law_names" ["_law_cell"] [] spNames12) (D_law_number : Dx P w K mg base CX0 1 "_law_number" ["_law_cell"] [] spNumQ) (D_law_way : Dx P w K mg base CX0 3 "_law_way" ["_law_script", "_law_k", "_law_names_here"] [] (spWayS K)) (D_law_step : Dx P w K mg base CX0 4 "_law_step" ["_law_kind_here", "_law_name", "_law_lengths", "_law_uses_here", "_law_second"] [] (spMadeS c_Step c_Cut c_Warm c_Rest)) (D_law_bare : Dx P w K mg base CX0 4 "_law_bare" ["_law_kind_here", "_law_name", "_law_lengths"] [] (spBareS c_Step c_Cut c_Warm c_Rest)) (D_law_kind : Dx P w K mg base CX0 2 "_law_kind" ["_law_step_here", "_law_kind_here"] [] (spKindS c_Step c_Cut c_Warm c_Rest)) (D_law_values : Dx P w K mg base CX0 2 "_law_values" ["_law_step_here", "_law_name", "_law_lengths", "_law_uses_here", "_law_second"] [] (spValS K)) (D_law_ways : Dx P w K mg base CX0 8 "_law_ways" ["_law_step_here", "_law_kind_here", "_law_factor", "_law_dues"] [] (spWaysS K f_Step_grown f_Step_grown_way f_Step_span f_Cut_span)) : FnOk P w K mg base CX0 9 f fd ["_law_script"] (spLaw K) := by
  have sc := sclaw
  refine F.ok sc (fun vs H Q E h => ?_) (fun cdv A outer s H vs Q E hr h => ?_)
  · obtain ⟨a, ns, rfl, _⟩ := h
    rfl
  obtain ⟨a, ns, rfl, hS, h63, qq⟩ := h
  have s4 : (5000 : Nat) ≤ sizeLine := by decide
  refine ⟨_, (pss_cons (ps_set (i := 1) sc.nd rfl (Or.inl rfl) (pe_op op_modN (pcall0 D_law_cell_at hr (by decide) rfl (pa_cons (pv 0) (pa_cons pe_int pa_nil))) pe_int)) (pss_cons (ps_set (i := 2) sc.nd rfl (Or.inl rfl) (pcall0 D_law_names hr (by decide) rfl (pa_cons (pcall0 D_law_cell_at hr (by decide) rfl (pa_cons (pv 0) (pa_cons pe_int pa_nil))) pa_nil))) (pss_cons (ps_set (i := 3) sc.nd rfl (Or.inl rfl) (pcall0 D_law_way hr (by decide) rfl (pa_cons (pv 0) (pa_cons pe_int (pa_cons (pe_slice sl_list (pv 2) (po_some pe_int) po_none) pa_nil))))) (pss_cons (ps_set (i := 4) sc.nd rfl (Or.inl rfl) (pe_slice sl_tup (pv 3) po_none (po_some pe_int))) (pss_cons (ps_set (i := 5) sc.nd rfl (Or.inl rfl) (pe_ix ix_tup (pv 3) pe_int (fun _ _ => rfl))) (pss_cons (ps_set (i := 6) sc.nd rfl (Or.inl rfl) (pcall0 D_law_number hr (by decide) rfl (pa_cons (pcall0 D_law_cell_at hr (by decide) rfl (pa_cons (pv 0) (pa_cons pe_int pa_nil))) pa_nil))) (pss_cons (ps_set (i := 7) sc.nd rfl (Or.inl rfl) (pcall0 D_law_number hr (by decide) rfl (pa_cons (pcall0 D_law_cell_at hr (by decide) rfl (pa_cons (pv 0) (pa_cons pe_int pa_nil))) pa_nil))) (pss_cons (ps_set (i := 8) sc.nd rfl (Or.inl rfl) (pcall0 D_law_common hr (by decide) rfl (pa_cons (pv 6) (pa_cons (pv 7) pa_nil)))) (pss_cons (ps_set (i := 9) sc.nd rfl (Or.inl rfl) (pe_tup (pa_cons (pe_op op_fdivB (pv 6) (pv 8)) (pa_cons (pe_op op_fdivB (pv 7) (pv 8)) pa_nil)))) (pss_cons (ps_set (i := 10) sc.nd rfl (Or.inl rfl) (pe_lst (pa_cons (pv 3) pa_nil))) (pss_cons (ps_set (i := 11) sc.nd rfl (Or.inl rfl) pe_non) (pss_cons (ps_set (i := 12) sc.nd rfl (Or.inl rfl) (pe_op op_modN (pcall0 D_law_cell_at hr (by decide) rfl (pa_cons (pv 0) (pa_cons pe_int pa_nil))) pe_int)) (pss_cons (ps_if (pt_cmpR op_eq (pe_op op_modN (pv 12) pe_int) pe_int (nomark _)) (pss_cons (ps_set (i := 11) sc.nd rfl (Or.inl rfl) (pcall0 D_law_way hr (by decide) rfl (pa_cons (pv 0) (pa_cons pe_int (pa_cons (pe_slice sl_list (pv 2) (po_some pe_int) po_none) pa_nil))))) (pss_one (ps_expr (pe_bm PySem.F.plainAttrs_list PySem.F.slot_list_append PySem.F.type_list_append mt_append (pv 10) (pa_cons (pv 11) pa_nil))))) pss_nil) (pss_cons (ps_set (i := 13) sc.nd rfl (Or.inl rfl) (pe_lst (pa_cons (pe_callTy call_list_of rfl B.b_list boot_list (pa_cons (pv 5) pa_nil)) (pa_cons (pe_lst pa_nil) pa_nil)))) (pss_cons (ps_if (PW.pt (pw_and (pt_cmpR op_isN (pv 11) pe_non (nomark _)) (pw_and1 (pt_cmpR op_eq (pv 12) pe_int (nomark _))))) (pss_cons (ps_set (i := 10) sc.nd rfl (Or.inl rfl) (pe_lst (pa_cons (pe_op op_catT (pv 4) (pe_tup (pa_cons (pe_lst pa_nil) pa_nil))) pa_nil))) (pss_one (ps_set (i := 14) sc.nd rfl (Or.inl rfl) (pcall0 D_law_bare hr (by decide) rfl (pa_cons (pv 1) (pa_cons (pe_ix ix_list (pv 2) pe_int (fun _ _ => rfl)) (pa_cons (pv 4) pa_nil))))))) (pss_one (ps_if (pt_cmpR op_isN (pv 11) pe_non (nomark _)) (pss_one (ps_set (i := 14) sc.nd rfl (Or.inl rfl) (pcall0 D_law_step hr (by decide) rfl (pa_cons (pv 1) (pa_cons (pe_ix ix_list (pv 2) pe_int (fun _ _ => rfl)) (pa_cons (pv 4) (pa_cons (pe_ix ix_list (pv 13) pe_int (fun _ _ => rfl)) (pa_cons pe_non pa_nil)))))))) (pss_cons (ps_asg (pe_callTy call_list_of rfl B.b_list boot_list (pa_cons (pe_ix ix_tup (pv 11) pe_int (fun _ _ => rfl)) pa_nil)) (pg_sub (pv 13) pe_int set_list)) (pss_one (ps_set (i := 14) sc.nd rfl (Or.inl rfl) (pcall0 D_law_step hr (by decide) rfl (pa_cons (pv 1) (pa_cons (pe_ix ix_list (pv 2) pe_int (fun _ _ => rfl)) (pa_cons (pv 4) (pa_cons (pe_ix ix_list (pv 13) pe_int (fun _ _ => rfl)) (pa_cons (pe_tup (pa_cons (pe_ix ix_tup (pv 11) pe_int (fun _ _ => rfl)) (pa_cons (pe_ix ix_tup (pv 11) pe_int (fun _ _ => rfl)) (pa_cons (pe_ix ix_list (pv 13) pe_int (fun _ _ => rfl)) pa_nil)))) pa_nil)))))))))))) (pss_cons (ps_if (pt_cmpR (op_neR hr.units0) (pe_ix ix_list (pv 13) pe_int (fun _ _ => rfl)) (pv 5) (nomark _)) (pss_one (ps_ret pe_bl)) pss_nil) (pss_cons (ps_expr (pe_bm PySem.F.plainAttrs_list PySem.F.slot_list_append PySem.F.type_list_append mt_append (pe_ix ix_list (pv 13) pe_int (fun _ _ => rfl)) (pa_cons (pe_tup (pa_cons pe_str (pa_cons pe_int (pa_cons pe_int pa_nil)))) pa_nil))) (pss_cons (ps_expr (pe_bm PySem.F.plainAttrs_list PySem.F.slot_list_append PySem.F.type_list_append mt_append (pe_ix ix_list (pv 13) pe_int (fun _ _ => rfl)) (pa_cons (pe_tup (pa_cons pe_str (pa_cons pe_int (pa_cons pe_int pa_nil)))) pa_nil))) (pss_cons (ps_if (PW.pt (pw_or (pt_not (pt_val (pcall0 D_law_kind hr (by decide) rfl (pa_cons (pv 14) (pa_cons (pv 1) pa_nil))))) (pw_or1 (pt_not (pt_val (pcall0 D_law_values hr (by decide) rfl (pa_cons (pv 14) (pa_cons (pe_ix ix_list (pv 2) pe_int (fun _ _ => rfl)) (pa_cons (pv 4) (pa_cons (pe_ix ix_tup (pe_ix ix_list (pv 10) pe_int (fun _ _ => rfl)) pe_int (fun _ _ => rfl)) (pa_cons (pv 11) pa_nil))))))))))) (pss_one (ps_ret pe_bl)) pss_nil) (pss_cons (ps_if (PW.pt (pw_or (pt_not (pt_val (pcall0 D_law_ways hr (by decide) rfl (pa_cons (pv 14) (pa_cons (pv 1) (pa_cons (pv 9) (pa_cons (pv 10) pa_nil))))))) (pw_or1 (pt_not (pt_val (pcall0 D_law_ways hr (by decide) rfl (pa_cons (pv 14) (pa_cons (pv 1) (pa_cons (pe_tup (pa_cons pe_int (pa_cons pe_int pa_nil))) (pa_cons (pv 10) pa_nil)))))))))) (pss_one (ps_ret pe_bl)) pss_nil) (pss_one (ps_ret (pe_and (pcall0 D_law_ways hr (by decide) rfl (pa_cons (pv 14) (pa_cons (pv 1) (pa_cons (pv 9) (pa_cons (pv 10) pa_nil))))) (pe_one (pcall0 D_law_values hr (by decide) rfl (pa_cons (pv 14) (pa_cons (pe_ix ix_list (pv 2) pe_int (fun _ _ => rfl)) (pa_cons (pv 4) (pa_cons (pe_ix ix_tup (pe_ix ix_list (pv 10) pe_int (fun _ _ => rfl)) pe_int (fun _ _ => rfl)) (pa_cons (pv 11) pa_nil)))))))))))))))))))))))))))))), ?_⟩
  refine cut (fun σ H' => H = H' ∧ ∃ kd : Int, σ = [some (.ref a), some (.int kd), none, none, none, none, none, none, none, none, none, none, none, none, none] ∧ 0 ≤ kd ∧ kd < 4) (fun N hN => ⟨_, rfl, a, ns, 0, rfl, hS, (by decide), fun c0 => ⟨_, _, rfl, rfl, (by show (4 : Int) ≠ 0; decide), hN _ _ ⟨rfl, _, rfl, Int.fmod_nonneg_of_pos c0 (by decide), Int.fmod_lt_of_pos c0 (by decide)⟩⟩⟩) ?_
  rintro σ _ ⟨rfl, kd, rfl, kd0, kd4⟩
  refine ⟨_, rfl, a, ns, 1, rfl, hS, (by decide), fun c1 => ⟨c1, rfl, fun ln zs H1 g1 en zl nd => ?_⟩⟩
  have S1 := g1.seq hS
  have z1 : cutV (zs.map V.str) (some 1) none = (zs.drop 1).map V.str := by rw [cutV_one (by rw [List.length_map]; omega), List.map_drop]
  refine ⟨_, rfl, _, rfl, _, rfl, ln, _, rfl, SqL.of en, fun l1 n1 => ?_⟩
  rw [z1]
  have gl1 := same_new n1 (.lst ((zs.drop 1).map V.str))
  refine ⟨a, l1, ns, 2, zs.drop 1, rfl, gl1.seq S1, (by decide), upd_same, nd.sublist (List.drop_sublist _ _), (by rw [List.length_drop]; omega), fun t lu l m as H2 g2 _ et elu al ul bl bm => ?_⟩
  have en2 := g2 _ _ (gl1 _ _ en)
  have S2 := g2.seq (gl1.seq S1)
  refine ⟨_, rfl, _, rfl, t, _, rfl, SqT.of et, (fun z => absurd (show (2 : Nat) = 3 from z.2) (by decide)), fun tl ntl => ?_⟩
  have ecut : cutV [V.int l, V.int m, V.ref lu] none (some 2) = [V.int l, V.int m] := rfl
  rw [ecut]
  have gl2 := same_new ntl (.tup [.int l, .int m])
  have etl : upd H2 tl (.tup [.int l, .int m]) tl = some (.tup [.int l, .int m]) := upd_same
  refine ⟨_, rfl, _, _, _, _, rfl, rfl, SqT.of (gl2 _ _ et), rfl, ?_⟩
  refine ⟨_, rfl, a, ns, 6, rfl, gl2.seq S2, (by decide), fun c6 => ⟨c6, rfl, fun tp tp0 tpb => ?_⟩⟩
  refine ⟨_, rfl, a, ns, 7, rfl, gl2.seq S2, (by decide), fun c7 => ⟨c7, rfl, fun bt bt0 btb => ?_⟩⟩
  refine ⟨_, rfl, _, rfl, _, _, rfl, (by omega), (by omega), ?_⟩
  have c0 := frC_ne (a := tp) (show bt ≠ 0 by omega)
  have cb := frC_bd (a := tp) (show bt ≠ 0 by omega) btb
  have fr := fr_of (a := tp) (show bt ≠ 0 by omega)
  rw [frC_pos bt0] at c0 cb fr
  refine ⟨_, rfl, _, rfl, _, _, rfl, rfl, ⟨c0, cb.div c0⟩, _, rfl, _, rfl, _, _, rfl, rfl, ⟨c0, cb.div c0⟩, (by show 2 ≤ sizeLine; decide), fun tf ntf => ?_⟩
  have gl3 := same_new ntf (.tup [.int (tp.fdiv (gcdI tp bt)), .int (bt.fdiv (gcdI tp bt))])
  have FF : FrIn K 210 _ tf _ _ := .of fr (tpb.mono (by decide)) (btb.mono (by decide)) (upd_same (H := upd H2 tl (.tup [.int l, .int m])))
  have g23 := gl2.trans gl3
  have et3 := g23 _ _ et
  have elu3 := g23 _ _ elu
  have en3 := g23 _ _ en2
  have etl3 := gl3 _ _ etl
  have S3 := g23.seq S2
  have ul3 := ul.later g23
  generalize upd (upd H2 tl (.tup [.int l, .int m])) tf (.tup [.int (tp.fdiv (gcdI tp bt)), .int (bt.fdiv (gcdI tp bt))]) = H3 at FF et3 elu3 en3 etl3 S3 ul3 ⊢
  obtain ⟨fp, efp⟩ : ∃ fp, fp = tp.fdiv (gcdI tp bt) := ⟨_, rfl⟩
  obtain ⟨fq, efq⟩ : ∃ fq, fq = bt.fdiv (gcdI tp bt) := ⟨_, rfl⟩
  rw [← efp, ← efq] at FF
  refine ⟨_, rfl, (by show 1 ≤ sizeLine; decide), fun ld nld => ?_⟩
  have gd := same_new nld (.lst [.ref t])
  try dsimp only [gName, tNext]
  refine cut (fun σ H' => upd H3 ld (.lst [.ref t]) = H' ∧ σ = [some (.ref a), some (.int kd), some (.ref ln), some (.ref t), some (.ref tl), some (.ref lu), some (.int tp), some (.int bt), some (.int (gcdI tp bt)), some (.ref tf), some (.ref ld), some .non, none, none, none]) (fun N hN => hN _ _ ⟨rfl, rfl⟩) ?_
  rintro σ _ ⟨rfl, rfl⟩
  refine cut (fun σ H' => upd H3 ld (.lst [.ref t]) = H' ∧ ∃ w : Int, σ = [some (.ref a), some (.int kd), some (.ref ln), some (.ref t), some (.ref tl), some (.ref lu), some (.int tp), some (.int bt), some (.int (gcdI tp bt)), some (.ref tf), some (.ref ld), some .non, some (.int w), none, none]) (fun N hN => ⟨_, rfl, a, ns, 8, rfl, gd.seq S3, (by decide), fun c8 => ⟨_, _, rfl, rfl, (by show (4 : Int) ≠ 0; decide), hN _ _ ⟨rfl, _, rfl⟩⟩⟩) ?_
  rintro σ _ ⟨rfl, w, rfl⟩
  refine cut (fun σ H' => Same H3 H' ∧ ∃ (sv : V) (c : Sec), σ = [some (.ref a), some (.int kd), some (.ref ln), some (.ref t), some (.ref tl), some (.ref lu), some (.int tp), some (.int bt), some (.int (gcdI tp bt)), some (.ref tf), some (.ref ld), some sv, some (.int w), none, none] ∧ SecAt H' sv c ∧ Dues H' ld (duesOf l m as c) ∧ (∀ d ∈ duesOf l m as c, Bd 210 d.1 ∧ Bd 210 d.2.1 ∧ UL H' d.2.2 (nmF H')) ∧ (∀ d ∈ duesOf l m as c, d.2.2.length ≤ 100)) (fun N hN => ?_) ?_
  · refine ⟨_, rfl, _, _, rfl, rfl, (by show (2 : Int) ≠ 0; decide), rfl, _, rfl, d2I (fun _ => ?_) (fun _ => ?_)⟩
    · have z4 : cutV (zs.map V.str) (some 4) none = (zs.drop 4).map V.str := by rw [cutV_four (by rw [List.length_map]; omega), List.map_drop]
      refine ⟨_, rfl, _, rfl, _, rfl, ln, _, rfl, SqL.of (gd _ _ en3), fun l4 n4 => ?_⟩
      rw [z4]
      have g4 := same_new n4 (.lst ((zs.drop 4).map V.str))
      refine ⟨a, l4, ns, 9, zs.drop 4, rfl, g4.seq (gd.seq S3), (by decide), upd_same, nd.sublist (List.drop_sublist _ _), (by rw [List.length_drop]; omega), fun t2 lu2 l' m' as2 H5 g5 nlu2 et2 elu2 al2 ul2 bl2 bm2 => ?_⟩
      have g45 := g4.trans g5
      have eld := g45 _ _ (show upd H3 ld (.lst [.ref t]) ld = some (.lst [.ref t]) from upd_same)
      try dsimp only [gName, tNext]
      refine ⟨_, rfl, .inl ⟨rfl, _, SqL.of eld⟩, _, rfl, ld, _, _, rfl, rfl, eld, (by show 1 < sizeLine; decide), ?_⟩
      have g6 : Same H3 (upd H5 ld (.lst ([.ref t] ++ [.ref t2]))) := sUpd (gd.trans g45) nld _
      have kd' : ∀ {b : Addr} {zs' : List V}, H5 b = some (.tup zs') → (upd H5 ld (.lst ([.ref t] ++ [.ref t2]))) b = some (.tup zs') := fun hb => by
        rw [upd_ne (fun z => by rw [z, eld] at hb; cases hb)]
        exact hb
      have nl2 : lu2 ≠ ld := fun z => by rw [z, g4 _ _ (show upd H3 ld (.lst [.ref t]) ld = some (.lst [.ref t]) from upd_same)] at nlu2; cases nlu2
      have ul2' : UL (upd H5 ld (.lst ([.ref t] ++ [.ref t2]))) as2 (nmF (upd H5 ld (.lst ([.ref t] ++ [.ref t2])))) := ul2.keepT fun b zs' hb => kd' hb
      refine hN _ _ ⟨g6, .ref t2, some (l', m', as2), rfl, ⟨t2, lu2, rfl, kd' et2, by rw [upd_ne nl2]; exact elu2⟩, ⟨[t, t2], upd_same, rfl, fun i tt d e1 e2 => ?_⟩, fun d hd => ?_, fun d hd => ?_⟩
      · match i, e1, e2 with
        | 0, e1, e2 => cases e1; cases e2; exact ⟨lu, g6 _ _ et3, g6 _ _ elu3⟩
        | 1, e1, e2 => cases e1; cases e2; exact ⟨lu2, kd' et2, by rw [upd_ne nl2]; exact elu2⟩
      · rcases List.mem_cons.mp hd with e | e
        · subst e; exact ⟨bl, bm, ul3.later g6⟩
        · rw [List.mem_singleton] at e; subst e; exact ⟨bl2, bm2, ul2'⟩
      · rcases List.mem_cons.mp hd with e | e
        · subst e; show as.length ≤ 100; omega
        · rw [List.mem_singleton] at e; subst e; show as2.length ≤ 100; omega
    · refine hN _ _ ⟨gd, .non, none, rfl, rfl, ⟨[t], upd_same, rfl, fun i tt d e1 e2 => ?_⟩, fun d hd => ?_, fun d hd => ?_⟩
      · match i, e1, e2 with
        | 0, e1, e2 => cases e1; cases e2; exact ⟨lu, gd _ _ et3, gd _ _ elu3⟩
      · rw [show duesOf l m as none = [(l, m, as)] from rfl, List.mem_singleton] at hd
        subst hd
        exact ⟨bl, bm, ul3.later gd⟩
      · rw [show duesOf l m as none = [(l, m, as)] from rfl, List.mem_singleton] at hd
        subst hd
        show as.length ≤ 100
        omega
  rintro σ H4 ⟨g4, sv, c, rfl, hsv, hdu, hub, hlen⟩
  have et4 := g4 _ _ et3
  have elu4 := g4 _ _ elu3
  have en4 := g4 _ _ en3
  have etl4 := g4 _ _ etl3
  have FF4 := FF.same g4
  obtain ⟨z0, ez0⟩ : ∃ z0, zs[0]? = some z0 := ⟨_, List.getElem?_eq_getElem (by omega)⟩
  have atz : atI (zs.map V.str) 0 = some (.str z0) := atI_nat (j := 0) (by rw [List.getElem?_map, ez0]; rfl)
  refine ⟨_, rfl, lu, _, rfl, .inl (SqL.of elu4), fun h0 nh0 => ⟨(by show 0 ≤ sizeLine; decide), fun h1 nh1 => ⟨(by show 2 ≤ sizeLine; decide), fun lh nlh => ?_⟩⟩⟩
  have ga := same_new nh0 (.lst (as.map V.ref))
  have gb := same_new nh1 (.lst [])
  have gc := same_new nlh (.lst [.ref h0, .ref h1])
  have g5 := (ga.trans gb).trans gc
  have eh0 := gc _ _ (gb _ _ (show upd H4 h0 (.lst (as.map V.ref)) h0 = some (.lst (as.map V.ref)) from upd_same))
  have eh1 := gc _ _ (show upd (upd H4 h0 (.lst (as.map V.ref))) h1 (.lst []) h1 = some (.lst []) from upd_same)
  have elh : (upd (upd (upd H4 h0 (.lst (as.map V.ref))) h1 (.lst [])) lh (.lst [.ref h0, .ref h1])) lh = some (.lst [.ref h0, .ref h1]) := upd_same
  have n1 := ga.free nh1
  have nlh' := (ga.trans gb).free nlh
  have d01 : h0 ≠ h1 := fun z => by rw [← z, upd_same] at nh1; cases nh1
  have dl0 : lh ≠ h0 := fun z => by rw [z, gb _ _ (show upd H4 h0 (.lst (as.map V.ref)) h0 = some (.lst (as.map V.ref)) from upd_same)] at nlh; cases nlh
  have dl1 : lh ≠ h1 := fun z => by rw [z, upd_same] at nlh; cases nlh
  generalize upd (upd (upd H4 h0 (.lst (as.map V.ref))) h1 (.lst [])) lh (.lst [.ref h0, .ref h1]) = H5 at g5 eh0 eh1 elh ⊢
  have en5 := g5 _ _ en4
  have etl5 := g5 _ _ etl4
  try dsimp only [gName, tNext]
  refine cut (fun σ H' => ∃ (x C ld' h1' : Addr) (us' : List Addr) (c' : Sec) (x1 : List V) (Hs : Hp) (o0 o1 : HO), σ = [some (.ref a), some (.int kd), some (.ref ln), some (.ref t), some (.ref tl), some (.ref lu), some (.int tp), some (.int bt), some (.int (gcdI tp bt)), some (.ref tf), some (.ref ld'), some sv, some (.int w), some (.ref lh), some (.ref x)] ∧ Same H4 H' ∧ H' lh = some (.lst [.ref h0, .ref h1']) ∧ H' h0 = some (.lst (as.map V.ref)) ∧ H' h1' = some (.lst x1) ∧ x1.length ≤ 100 ∧ H4 h1' = none ∧ h0 ≠ h1' ∧ KC c_Step c_Cut c_Warm c_Rest kd C ∧ Hs h0 = some o0 ∧ Hs h1' = some o1 ∧ StN Hs H' x C z0 l m us' c' ∧ SecAt H4 sv c' ∧ DuesX H' ld' (duesOf l m us' c') h0 h1' ∧ (∀ d ∈ duesOf l m us' c', Bd 210 d.1 ∧ Bd 210 d.2.1 ∧ UL H4 d.2.2 (nmF H4)) ∧ (∀ d ∈ duesOf l m us' c', d.2.2.length ≤ 100)) (fun N hN => ?_) ?_
  · match c, hsv, hdu, hub, hlen with
    | none, hsv, hdu, hub, hlen =>
      have hsv' : sv = .non := hsv
      subst hsv'
      refine ⟨_, rfl, rfl, _, rfl, dT rfl ⟨_, rfl, rfl, _, rfl, d2I (fun _ => ?_) (fun _ => ⟨_, rfl, rfl, _, rfl, dT rfl ?_⟩)⟩⟩
      · refine ⟨_, rfl, (by show 0 ≤ sizeLine; decide), fun e0 ne0 => ⟨(by show 1 ≤ sizeLine; decide), fun t1 nt1 => ?_⟩⟩
        have q1 := same_new ne0 (.lst [])
        have q2 := same_new nt1 (.tup [.ref e0])
        refine ⟨tl, t1, _, _, rfl, rfl, SqT.of (q2 _ _ (q1 _ _ etl5)), SqT.of upd_same, (fun z => nomatch z), (by show 2 + 1 ≤ sizeLine; decide), (fun z => nomatch z), fun _ t3 nt3 => ⟨(by show 1 ≤ sizeLine; decide), fun ld2 nld2 => ?_⟩⟩
        have q3 := same_new nt3 (.tup ([V.int l, V.int m] ++ [.ref e0]))
        have q4 := same_new nld2 (.lst [.ref t3])
        have q14 := ((q1.trans q2).trans q3).trans q4
        have ee := q4 _ _ (q3 _ _ (q2 _ _ (show upd H5 e0 (.lst []) e0 = some (.lst []) from upd_same)))
        have e3 := q4 _ _ (show upd (upd (upd H5 e0 (.lst [])) t1 (.tup [.ref e0])) t3 (.tup ([V.int l, V.int m] ++ [.ref e0])) t3 = some (.tup [V.int l, V.int m, .ref e0]) from upd_same)
        have nd0 : ∀ {b : Addr} {o : HO}, H5 b = some o → ld2 ≠ b ∧ e0 ≠ b := fun hb => ⟨(ne_of_none (((q1.trans q2).trans q3) _ _ hb) nld2).symm, (ne_of_none hb ne0).symm⟩
        try dsimp only [gName, tNext]
        refine ⟨_, rfl, _, rfl, ln, _, _, _, rfl, rfl, SqL.of (q14 _ _ en5), atz, _, rfl, kd, l, m, z0, tl, rfl, q14 _ _ etl5, kd0, kd4, fun x C H6 g6 hkc st => ?_⟩
        have g56 := q14.trans g6
        refine hN _ _ ⟨x, C, ld2, h1, [], none, [], _, _, _, rfl, g5.trans g56, g56 _ _ elh, g56 _ _ eh0, g56 _ _ eh1, by simp, n1, d01, hkc, q14 _ _ eh0, q14 _ _ eh1, st, rfl, ⟨[t3], g6 _ _ upd_same, (nd0 eh0).1, (nd0 eh1).1, rfl, fun i tt d k1 k2 => ?_⟩, fun d hd => ?_, fun d hd => ?_⟩
        · match i, k1, k2 with
          | 0, k1, k2 => cases k1; cases k2; exact ⟨e0, g6 _ _ e3, g6 _ _ ee, (nd0 eh0).2, (nd0 eh1).2⟩
        · rw [show duesOf l m [] none = [(l, m, [])] from rfl, List.mem_singleton] at hd
          subst hd
          exact ⟨bl, bm, ⟨fun a ha => by simp at ha, List.nodup_nil, by show 0 < 64; decide⟩⟩
        · rw [show duesOf l m [] none = [(l, m, [])] from rfl, List.mem_singleton] at hd
          subst hd
          show (0 : Nat) ≤ 100
          omega
      · refine ⟨_, rfl, _, rfl, ln, _, _, _, rfl, rfl, SqL.of en5, atz, _, rfl, _, rfl, lh, _, _, _, rfl, rfl, SqL.of elh, rfl, kd, l, m, z0, tl, .ref h0, .non, as, none, rfl, etl5, .inr ⟨h0, rfl, eh0⟩, rfl, kd0, kd4, fun x C H6 g6 hkc st => ?_⟩
        exact hN _ _ ⟨x, C, ld, h1, as, none, [], _, _, _, rfl, g5.trans g6, g6 _ _ elh, g6 _ _ eh0, g6 _ _ eh1, by simp, n1, d01, hkc, eh0, eh1, st, rfl, hdu.toX (g5.trans g6) nh0 n1, hub, hlen⟩
    | some (l', m', as2), hsv, hdu, hub, hlen =>
      obtain ⟨t2, lu2, rfl, et2, elu2⟩ := hsv
      refine ⟨_, rfl, rfl, _, rfl, dF (fun z => nomatch z) ⟨_, rfl, rfl, _, rfl, dF (fun z => nomatch z) ?_⟩⟩
      refine ⟨_, rfl, _, _, _, _, rfl, rfl, SqT.of (g5 _ _ et2), rfl, lu2, _, rfl, .inl (SqL.of (g5 _ _ elu2)), fun h2 nh2 => ⟨_, rfl, lh, _, _, 1, rfl, rfl, same_new nh2 _ _ _ elh, rfl, ?_⟩⟩
      have q1 := same_new nh2 (.lst (as2.map V.ref))
      have d2l : h2 ≠ lh := fun z => by rw [z, elh] at nh2; cases nh2
      have d20 : h0 ≠ h2 := fun z => by rw [← z, eh0] at nh2; cases nh2
      have n2 := g5.free nh2
      have q2 : Same H4 (upd (upd H5 h2 (.lst (as2.map V.ref))) lh (.lst [.ref h0, .ref h2])) := sUpd (g5.trans q1) nlh' _
      have eh0' : (upd (upd H5 h2 (.lst (as2.map V.ref))) lh (.lst [.ref h0, .ref h2])) h0 = some (.lst (as.map V.ref)) := by rw [upd_ne (Ne.symm dl0)]; exact q1 _ _ eh0
      have eh2' : (upd (upd H5 h2 (.lst (as2.map V.ref))) lh (.lst [.ref h0, .ref h2])) h2 = some (.lst (as2.map V.ref)) := by rw [upd_ne d2l]; exact upd_same
      have elh' : (upd (upd H5 h2 (.lst (as2.map V.ref))) lh (.lst [.ref h0, .ref h2])) lh = some (.lst [.ref h0, .ref h2]) := upd_same
      try dsimp only [gName, tNext]
      refine ⟨_, rfl, _, rfl, ln, _, _, _, rfl, rfl, SqL.of (q2 _ _ en4), atz, _, rfl, _, rfl, lh, _, _, _, rfl, rfl, SqL.of elh', rfl, _, rfl, _, _, _, _, rfl, rfl, SqT.of (q2 _ _ et2), rfl, _, rfl, _, _, _, _, rfl, rfl, SqT.of (q2 _ _ et2), rfl, _, rfl, lh, _, _, _, rfl, rfl, SqL.of elh', rfl, (by show 3 ≤ sizeLine; decide), fun t5 nt5 => ?_⟩
      have q3 := same_new nt5 (.tup [.int l', .int m', .ref h2])
      refine ⟨kd, l, m, z0, tl, .ref h0, .ref t5, as, some (l', m', as2), rfl, q3 _ _ (q2 _ _ etl4), .inr ⟨h0, rfl, q3 _ _ eh0'⟩, ⟨t5, h2, rfl, upd_same, q3 _ _ eh2'⟩, kd0, kd4, fun x C H6 g6 hkc st => ?_⟩
      have al2 := hlen (l', m', as2) (by simp [duesOf])
      exact hN _ _ ⟨x, C, ld, h2, as, some (l', m', as2), as2.map V.ref, _, _, _, rfl, (q2.trans q3).trans g6, g6 _ _ (q3 _ _ elh'), g6 _ _ (q3 _ _ eh0'), g6 _ _ (q3 _ _ eh2'), (by rw [List.length_map]; exact al2), n2, d20, hkc, q3 _ _ eh0', q3 _ _ eh2', st, ⟨t2, lu2, rfl, et2, elu2⟩, hdu.toX ((q2.trans q3).trans g6) nh0 n2, hub, hlen⟩
  rintro σ H6 ⟨x, C, ld', h1', us', c', x1, Hs, o0, o1, rfl, g6, elh6, eh06, eh16, x1l, n1', d01', hkc, s0, s1, st, hsv6, hdx, hub', hlen'⟩
  have sc0 : StepC K C := by
    rcases hkc with ⟨_, rfl⟩ | ⟨_, rfl⟩ | ⟨_, rfl⟩ | ⟨_, rfl⟩
    · exact ⟨B.cl_Step, B.na_Step_name, B.na_Step_least, B.na_Step_most, B.na_Step_uses, B.na_Step_second⟩
    · exact ⟨B.cl_Cut, B.na_Cut_name, B.na_Cut_least, B.na_Cut_most, B.na_Cut_uses, B.na_Cut_second⟩
    · exact ⟨B.cl_Warm, B.na_Warm_name, B.na_Warm_least, B.na_Warm_most, B.na_Warm_uses, B.na_Warm_second⟩
    · exact ⟨B.cl_Rest, B.na_Rest_name, B.na_Rest_least, B.na_Rest_most, B.na_Rest_uses, B.na_Rest_second⟩
  have sm : StM K C f_Step_grown f_Step_grown_way f_Step_span f_Cut_span (decide (kd = 1)) := by
    rcases hkc with ⟨rfl, rfl⟩ | ⟨rfl, rfl⟩ | ⟨rfl, rfl⟩ | ⟨rfl, rfl⟩
    · exact ⟨sc0, B.me_Step_grown, B.me_Step_grown_way, B.me_Step_span⟩
    · exact ⟨sc0, B.me_Cut_grown, B.me_Cut_grown_way, B.me_Cut_span⟩
    · exact ⟨sc0, B.me_Warm_grown, B.me_Warm_grown_way, B.me_Warm_span⟩
    · exact ⟨sc0, B.me_Rest_grown, B.me_Rest_grown_way, B.me_Rest_span⟩
  refine ⟨_, rfl, lh, _, _, _, rfl, rfl, SqL.of elh6, rfl, _, rfl, h0, lu, as, rfl, rfl, SqL.of eh06, SqL.of (g6 _ _ elu4), _, rfl, iteF ?_⟩
  have dlh0 : lh ≠ h0 := dl0
  refine ⟨_, rfl, lh, _, _, _, rfl, rfl, SqL.of elh6, rfl, .inl ⟨rfl, _, SqL.of eh06⟩, (by show 3 ≤ sizeLine; decide), fun p1 np1 => ⟨h0, _, _, rfl, rfl, same_new np1 _ _ _ eh06, (by rw [List.length_map]; omega), ?_⟩⟩
  have r1 := same_new np1 (.tup [.str "pan", .int 1, .int 0])
  have elh7 : (upd (upd H6 p1 (.tup [.str "pan", .int 1, .int 0])) h0 (.lst (as.map V.ref ++ [.ref p1]))) lh = some (.lst [.ref h0, .ref h1']) := by rw [upd_ne dlh0]; exact r1 _ _ elh6
  have eh17 : (upd (upd H6 p1 (.tup [.str "pan", .int 1, .int 0])) h0 (.lst (as.map V.ref ++ [.ref p1]))) h1' = some (.lst x1) := by rw [upd_ne (Ne.symm d01')]; exact r1 _ _ eh16
  refine ⟨_, rfl, lh, _, _, _, rfl, rfl, SqL.of elh7, rfl, .inl ⟨rfl, _, SqL.of eh17⟩, (by show 3 ≤ sizeLine; decide), fun p2 np2 => ⟨h1', _, _, rfl, rfl, same_new np2 _ _ _ eh17, (by omega), ?_⟩⟩
  have r2 := same_new np2 (.tup [.str "pan", .int 1, .int 0])
  have g7 : Same H4 (upd (upd (upd (upd H6 p1 (.tup [.str "pan", .int 1, .int 0])) h0 (.lst (as.map V.ref ++ [.ref p1]))) p2 (.tup [.str "pan", .int 1, .int 0])) h1' (.lst (x1 ++ [.ref p2]))) := sUpd ((sUpd (g6.trans r1) nh0 _).trans r2) n1' _
  have stA := ((((st.same r1).put (o := .lst (as.map V.ref ++ [.ref p1])) s0).same r2).put (o := .lst (x1 ++ [.ref p2])) s1).at_
  have du := hdx.keep (G := upd (upd (upd (upd H6 p1 (.tup [.str "pan", .int 1, .int 0])) h0 (.lst (as.map V.ref ++ [.ref p1]))) p2 (.tup [.str "pan", .int 1, .int 0])) h1' (.lst (x1 ++ [.ref p2]))) eh06 eh16 fun b o hb b0 b1 => by
    have a1 := r1 _ _ hb
    have a2 : (upd (upd H6 p1 (.tup [.str "pan", .int 1, .int 0])) h0 (.lst (as.map V.ref ++ [.ref p1]))) b = some o := by rw [upd_ne b0]; exact a1
    rw [upd_ne b1]
    exact r2 _ _ a2
  generalize upd (upd (upd (upd H6 p1 (.tup [.str "pan", .int 1, .int 0])) h0 (.lst (as.map V.ref ++ [.ref p1]))) p2 (.tup [.str "pan", .int 1, .int 0])) h1' (.lst (x1 ++ [.ref p2])) = G at g7 stA du ⊢
  obtain ⟨ts, eld, tsl, td⟩ := du.ex
  have d0 : (duesOf l m us' c')[0]? = some (l, m, us') := by cases c' <;> rfl
  have dl' : 1 ≤ (duesOf l m us' c').length := by cases c' <;> simp [duesOf]
  obtain ⟨td0, etd0⟩ : ∃ t0, ts[0]? = some t0 := ⟨_, List.getElem?_eq_getElem (by omega)⟩
  obtain ⟨lu0, etd, elu0⟩ := td 0 td0 _ etd0 d0
  have at0 : atI (ts.map V.ref) 0 = some (.ref td0) := atI_nat (j := 0) (by rw [List.getElem?_map, etd0]; rfl)
  try dsimp only [gName, tNext]
  refine cut (fun σ H' => Same G H' ∧ σ = [some (.ref a), some (.int kd), some (.ref ln), some (.ref t), some (.ref tl), some (.ref lu), some (.int tp), some (.int bt), some (.int (gcdI tp bt)), some (.ref tf), some (.ref ld'), some sv, some (.int w), some (.ref lh), some (.ref x)]) (fun N hN => ?_) ?_
  · refine ⟨_, rfl, _, rfl, kd, l, m, z0, x, C, us', c', rfl, hkc, stA, fun H8 g8 => ⟨_, rfl, iteF ?_⟩⟩
    exact ⟨_, rfl, _, rfl, ln, _, _, _, rfl, rfl, SqL.of ((g8) _ _ (g7 _ _ en4)), atz, _, rfl, _, rfl, ld', _, _, _, rfl, rfl, SqL.of ((g8) _ _ eld), at0, _, _, _, _, rfl, rfl, SqT.of ((g8) _ _ etd), rfl, _, rfl, l, m, z0, x, C, tl, lu0, sv, us', c', rfl, (stA.same (g8)), sc0, ((g8) _ _ (g7 _ _ etl4)), ((g8) _ _ elu0), ((hsv6.same g7).same (g8)), fun H9 g9 => ⟨_, rfl, iteF (hN _ _ ⟨g8.trans g9, rfl⟩)⟩⟩
  rintro σ H8 ⟨g8, rfl⟩
  refine cut (fun σ H' => Same G H' ∧ σ = [some (.ref a), some (.int kd), some (.ref ln), some (.ref t), some (.ref tl), some (.ref lu), some (.int tp), some (.int bt), some (.int (gcdI tp bt)), some (.ref tf), some (.ref ld'), some sv, some (.int w), some (.ref lh), some (.ref x)]) (fun N hN => ?_) ?_
  · refine ⟨_, rfl, _, rfl, _, rfl, _, rfl, x, C, tf, ld', z0, kd, l, m, fp, fq, us', c', nmF H4, rfl, (stA.same (g8)), sm, ((FF4.same g7).same (g8)), (du.same (g8)), (fun d hd => ⟨(hub' d hd).1, (hub' d hd).2.1, ((hub' d hd).2.2.same g7).same (g8)⟩), hlen', fun H9 g9 => ⟨_, rfl, iteF ?_⟩⟩
    have g89 := g8.trans g9
    refine ⟨_, rfl, _, rfl, (by show 2 ≤ sizeLine; decide), fun t11 nt11 => ?_⟩
    have g10 := g89.trans (same_new nt11 (.tup [.int 1, .int 1]))
    exact ⟨_, rfl, x, C, t11, ld', z0, kd, l, m, 1, 1, us', c', nmF H4, rfl, (stA.same (g10)), sm, ⟨SqT.of upd_same, by decide, Bd.one.mono (by decide), Bd.one.mono (by decide)⟩, (du.same (g10)), (fun d hd => ⟨(hub' d hd).1, (hub' d hd).2.1, ((hub' d hd).2.2.same g7).same (g10)⟩), hlen', fun H11 g11 => ⟨_, rfl, iteF (hN _ _ ⟨g10.trans g11, rfl⟩)⟩⟩
  clear g8
  rintro σ H9 ⟨g8, rfl⟩
  refine ⟨_, rfl, _, rfl, _, rfl, _, rfl, x, C, tf, ld', z0, kd, l, m, fp, fq, us', c', nmF H4, rfl, (stA.same (g8)), sm, ((FF4.same g7).same (g8)), (du.same (g8)), (fun d hd => ⟨(hub' d hd).1, (hub' d hd).2.1, ((hub' d hd).2.2.same g7).same (g8)⟩), hlen', fun H10 g10 => ⟨_, rfl, iteT ?_⟩⟩
  have g810 := g8.trans g10
  exact ⟨_, rfl, _, rfl, ln, _, _, _, rfl, rfl, SqL.of ((g810) _ _ (g7 _ _ en4)), atz, _, rfl, _, rfl, ld', _, _, _, rfl, rfl, SqL.of ((g810) _ _ eld), at0, _, _, _, _, rfl, rfl, SqT.of ((g810) _ _ etd), rfl, _, rfl, l, m, z0, x, C, tl, lu0, sv, us', c', rfl, (stA.same (g810)), sc0, ((g810) _ _ (g7 _ _ etl4)), ((g810) _ _ elu0), ((hsv6.same g7).same (g810)), fun H11 _ => qq _⟩

end
set_option maxHeartbeats 4000000 in
theorem all_mk {l : PySem.W.OpenLaw} {w : World} {K : PySem.W.Frag} {h : Heap} {mg : Str → Option Value} {fa fis_whole fdivisor ffraction fproduct fround_up fgrown_length f_law_cell_at f_law_whole f_law_common f_law_stream f_law_names f_law_number f_law_uses f_law_way f_law_step f_law_bare f_law_kind f_law_values f_law_grew f_law_ways flaw c_Cut c_Rest c_Step c_Warm f_Step_init f_Step_word f_Step_span f_Cut_word f_Cut_span f_Warm_init f_Warm_word f_Rest_word f_Step_grown_way f_Step_grown : Addr} (X : K.In h) (G : h.Ns mainGlobals mg) (hfa : mg "law" = some (.ref fa))
    {odis_whole anis_whole : Option Addr} {slis_whole : Array (Option Value)} {ocis_whole kVis_whole dcis_whole pmis_whole cdis_whole ctis_whole : Value}
    {oddivisor andivisor : Option Addr} {sldivisor : Array (Option Value)} {ocdivisor kVdivisor dcdivisor pmdivisor cddivisor ctdivisor : Value}
    {odfraction anfraction : Option Addr} {slfraction : Array (Option Value)} {ocfraction kVfraction dcfraction pmfraction cdfraction ctfraction : Value}
    {odproduct anproduct : Option Addr} {slproduct : Array (Option Value)} {ocproduct kVproduct dcproduct pmproduct cdproduct ctproduct : Value}
    {odround_up anround_up : Option Addr} {slround_up : Array (Option Value)} {ocround_up kVround_up dcround_up pmround_up cdround_up ctround_up : Value}
    {odgrown_length angrown_length : Option Addr} {slgrown_length : Array (Option Value)} {ocgrown_length kVgrown_length dcgrown_length pmgrown_length cdgrown_length ctgrown_length : Value}
    {od_law_cell_at an_law_cell_at : Option Addr} {sl_law_cell_at : Array (Option Value)} {oc_law_cell_at kV_law_cell_at dc_law_cell_at pm_law_cell_at cd_law_cell_at ct_law_cell_at : Value}
    {od_law_whole an_law_whole : Option Addr} {sl_law_whole : Array (Option Value)} {oc_law_whole kV_law_whole dc_law_whole pm_law_whole cd_law_whole ct_law_whole : Value}
    {od_law_common an_law_common : Option Addr} {sl_law_common : Array (Option Value)} {oc_law_common kV_law_common dc_law_common pm_law_common cd_law_common ct_law_common : Value}
    {od_law_stream an_law_stream : Option Addr} {sl_law_stream : Array (Option Value)} {oc_law_stream kV_law_stream dc_law_stream pm_law_stream cd_law_stream ct_law_stream : Value}
    {od_law_names an_law_names : Option Addr} {sl_law_names : Array (Option Value)} {oc_law_names kV_law_names dc_law_names pm_law_names cd_law_names ct_law_names : Value}
    {od_law_number an_law_number : Option Addr} {sl_law_number : Array (Option Value)} {oc_law_number kV_law_number dc_law_number pm_law_number cd_law_number ct_law_number : Value}
    {od_law_uses an_law_uses : Option Addr} {sl_law_uses : Array (Option Value)} {oc_law_uses kV_law_uses dc_law_uses pm_law_uses cd_law_uses ct_law_uses : Value}
    {od_law_way an_law_way : Option Addr} {sl_law_way : Array (Option Value)} {oc_law_way kV_law_way dc_law_way pm_law_way cd_law_way ct_law_way : Value}
    {od_law_step an_law_step : Option Addr} {sl_law_step : Array (Option Value)} {oc_law_step kV_law_step dc_law_step pm_law_step cd_law_step ct_law_step : Value}
    {od_law_bare an_law_bare : Option Addr} {sl_law_bare : Array (Option Value)} {oc_law_bare kV_law_bare dc_law_bare pm_law_bare cd_law_bare ct_law_bare : Value}
    {od_law_kind an_law_kind : Option Addr} {sl_law_kind : Array (Option Value)} {oc_law_kind kV_law_kind dc_law_kind pm_law_kind cd_law_kind ct_law_kind : Value}
    {od_law_values an_law_values : Option Addr} {sl_law_values : Array (Option Value)} {oc_law_values kV_law_values dc_law_values pm_law_values cd_law_values ct_law_values : Value}
    {od_law_grew an_law_grew : Option Addr} {sl_law_grew : Array (Option Value)} {oc_law_grew kV_law_grew dc_law_grew pm_law_grew cd_law_grew ct_law_grew : Value}
    {od_law_ways an_law_ways : Option Addr} {sl_law_ways : Array (Option Value)} {oc_law_ways kV_law_ways dc_law_ways pm_law_ways cd_law_ways ct_law_ways : Value}
    {odlaw anlaw : Option Addr} {sllaw : Array (Option Value)} {oclaw kVlaw dclaw pmlaw cdlaw ctlaw : Value}
    {odStep_init anStep_init : Option Addr} {slStep_init : Array (Option Value)} {ocStep_init kVStep_init dcStep_init pmStep_init cdStep_init ctStep_init : Value}
    {odStep_word anStep_word : Option Addr} {slStep_word : Array (Option Value)} {ocStep_word kVStep_word dcStep_word pmStep_word cdStep_word ctStep_word : Value}
    {odStep_span anStep_span : Option Addr} {slStep_span : Array (Option Value)} {ocStep_span kVStep_span dcStep_span pmStep_span cdStep_span ctStep_span : Value}
    {odCut_word anCut_word : Option Addr} {slCut_word : Array (Option Value)} {ocCut_word kVCut_word dcCut_word pmCut_word cdCut_word ctCut_word : Value}
    {odCut_span anCut_span : Option Addr} {slCut_span : Array (Option Value)} {ocCut_span kVCut_span dcCut_span pmCut_span cdCut_span ctCut_span : Value}
    {odWarm_init anWarm_init : Option Addr} {slWarm_init : Array (Option Value)} {ocWarm_init kVWarm_init dcWarm_init pmWarm_init cdWarm_init ctWarm_init : Value}
    {odWarm_word anWarm_word : Option Addr} {slWarm_word : Array (Option Value)} {ocWarm_word kVWarm_word dcWarm_word pmWarm_word cdWarm_word ctWarm_word : Value}
    {odRest_word anRest_word : Option Addr} {slRest_word : Array (Option Value)} {ocRest_word kVRest_word dcRest_word pmRest_word cdRest_word ctRest_word : Value}
    {odStep_grown_way anStep_grown_way : Option Addr} {slStep_grown_way : Array (Option Value)} {ocStep_grown_way kVStep_grown_way dcStep_grown_way pmStep_grown_way cdStep_grown_way ctStep_grown_way : Value}
    {odStep_grown anStep_grown : Option Addr} {slStep_grown : Array (Option Value)} {ocStep_grown kVStep_grown dcStep_grown pmStep_grown cdStep_grown ctStep_grown : Value}
    {Tfraction : Addr} {Tofraction : Value} {Tdfraction : Option Addr} {Tnfraction : Nat} {Tsfraction : Array (Option Value)} {Ttfraction : Tok}
    {TStep_init : Addr} {ToStep_init : Value} {TdStep_init : Option Addr} {TnStep_init : Nat} {TsStep_init : Array (Option Value)}
    {TWarm_init : Addr} {ToWarm_init : Value} {TdWarm_init : Option Addr} {TnWarm_init : Nat} {TsWarm_init : Array (Option Value)}
    (ais_whole : PySem.W.nsIn K mainGlobals "is_whole" = some (some (.ref fis_whole)))
    (lis_whole : K.lookup fis_whole = some ⟨ocis_whole, odis_whole, .func (PySem.W.fnOf "is_whole" "is_whole" (defArgs sis_whole) (defBody sis_whole) (defScope sis_whole) .none kVis_whole dcis_whole pmis_whole anis_whole cdis_whole ctis_whole), slis_whole⟩) (cis_whole : PySem.W.codeIn K cdis_whole "is_whole" = true) (kis_whole : PySem.W.keepIn K (.ref fis_whole) = true)
    (adivisor : PySem.W.nsIn K mainGlobals "divisor" = some (some (.ref fdivisor)))
    (ldivisor : K.lookup fdivisor = some ⟨ocdivisor, oddivisor, .func (PySem.W.fnOf "divisor" "divisor" (defArgs sdivisor) (defBody sdivisor) (defScope sdivisor) .none kVdivisor dcdivisor pmdivisor andivisor cddivisor ctdivisor), sldivisor⟩) (cdivisor : PySem.W.codeIn K cddivisor "divisor" = true) (kdivisor : PySem.W.keepIn K (.ref fdivisor) = true)
    (afraction : PySem.W.nsIn K mainGlobals "fraction" = some (some (.ref ffraction)))
    (lfraction : K.lookup ffraction = some ⟨ocfraction, odfraction, .func (PySem.W.fnOf "fraction" "fraction" (defArgs sfraction) (defBody sfraction) (defScope sfraction) (.ref Tfraction) kVfraction dcfraction pmfraction anfraction cdfraction ctfraction), slfraction⟩) (cfraction : PySem.W.codeIn K cdfraction "fraction" = true) (kfraction : PySem.W.keepIn K (.ref ffraction) = true)
    (aproduct : PySem.W.nsIn K mainGlobals "product" = some (some (.ref fproduct)))
    (lproduct : K.lookup fproduct = some ⟨ocproduct, odproduct, .func (PySem.W.fnOf "product" "product" (defArgs sproduct) (defBody sproduct) (defScope sproduct) .none kVproduct dcproduct pmproduct anproduct cdproduct ctproduct), slproduct⟩) (cproduct : PySem.W.codeIn K cdproduct "product" = true) (kproduct : PySem.W.keepIn K (.ref fproduct) = true)
    (around_up : PySem.W.nsIn K mainGlobals "round_up" = some (some (.ref fround_up)))
    (lround_up : K.lookup fround_up = some ⟨ocround_up, odround_up, .func (PySem.W.fnOf "round_up" "round_up" (defArgs sround_up) (defBody sround_up) (defScope sround_up) .none kVround_up dcround_up pmround_up anround_up cdround_up ctround_up), slround_up⟩) (cround_up : PySem.W.codeIn K cdround_up "round_up" = true) (kround_up : PySem.W.keepIn K (.ref fround_up) = true)
    (agrown_length : PySem.W.nsIn K mainGlobals "grown_length" = some (some (.ref fgrown_length)))
    (lgrown_length : K.lookup fgrown_length = some ⟨ocgrown_length, odgrown_length, .func (PySem.W.fnOf "grown_length" "grown_length" (defArgs sgrown_length) (defBody sgrown_length) (defScope sgrown_length) .none kVgrown_length dcgrown_length pmgrown_length angrown_length cdgrown_length ctgrown_length), slgrown_length⟩) (cgrown_length : PySem.W.codeIn K cdgrown_length "grown_length" = true) (kgrown_length : PySem.W.keepIn K (.ref fgrown_length) = true)
    (a_law_cell_at : PySem.W.nsIn K mainGlobals "_law_cell_at" = some (some (.ref f_law_cell_at)))
    (l_law_cell_at : K.lookup f_law_cell_at = some ⟨oc_law_cell_at, od_law_cell_at, .func (PySem.W.fnOf "_law_cell_at" "_law_cell_at" (defArgs s_law_cell_at) (defBody s_law_cell_at) (defScope s_law_cell_at) .none kV_law_cell_at dc_law_cell_at pm_law_cell_at an_law_cell_at cd_law_cell_at ct_law_cell_at), sl_law_cell_at⟩) (c_law_cell_at : PySem.W.codeIn K cd_law_cell_at "_law_cell_at" = true) (k_law_cell_at : PySem.W.keepIn K (.ref f_law_cell_at) = true)
    (a_law_whole : PySem.W.nsIn K mainGlobals "_law_whole" = some (some (.ref f_law_whole)))
    (l_law_whole : K.lookup f_law_whole = some ⟨oc_law_whole, od_law_whole, .func (PySem.W.fnOf "_law_whole" "_law_whole" (defArgs s_law_whole) (defBody s_law_whole) (defScope s_law_whole) .none kV_law_whole dc_law_whole pm_law_whole an_law_whole cd_law_whole ct_law_whole), sl_law_whole⟩) (c_law_whole : PySem.W.codeIn K cd_law_whole "_law_whole" = true) (k_law_whole : PySem.W.keepIn K (.ref f_law_whole) = true)
    (a_law_common : PySem.W.nsIn K mainGlobals "_law_common" = some (some (.ref f_law_common)))
    (l_law_common : K.lookup f_law_common = some ⟨oc_law_common, od_law_common, .func (PySem.W.fnOf "_law_common" "_law_common" (defArgs s_law_common) (defBody s_law_common) (defScope s_law_common) .none kV_law_common dc_law_common pm_law_common an_law_common cd_law_common ct_law_common), sl_law_common⟩) (c_law_common : PySem.W.codeIn K cd_law_common "_law_common" = true) (k_law_common : PySem.W.keepIn K (.ref f_law_common) = true)
    (a_law_stream : PySem.W.nsIn K mainGlobals "_law_stream" = some (some (.ref f_law_stream)))
    (l_law_stream : K.lookup f_law_stream = some ⟨oc_law_stream, od_law_stream, .func (PySem.W.fnOf "_law_stream" "_law_stream" (defArgs s_law_stream) (defBody s_law_stream) (defScope s_law_stream) .none kV_law_stream dc_law_stream pm_law_stream an_law_stream cd_law_stream ct_law_stream), sl_law_stream⟩) (c_law_stream : PySem.W.codeIn K cd_law_stream "_law_stream" = true) (k_law_stream : PySem.W.keepIn K (.ref f_law_stream) = true)
    (a_law_names : PySem.W.nsIn K mainGlobals "_law_names" = some (some (.ref f_law_names)))
    (l_law_names : K.lookup f_law_names = some ⟨oc_law_names, od_law_names, .func (PySem.W.fnOf "_law_names" "_law_names" (defArgs s_law_names) (defBody s_law_names) (defScope s_law_names) .none kV_law_names dc_law_names pm_law_names an_law_names cd_law_names ct_law_names), sl_law_names⟩) (c_law_names : PySem.W.codeIn K cd_law_names "_law_names" = true) (k_law_names : PySem.W.keepIn K (.ref f_law_names) = true)
    (a_law_number : PySem.W.nsIn K mainGlobals "_law_number" = some (some (.ref f_law_number)))
    (l_law_number : K.lookup f_law_number = some ⟨oc_law_number, od_law_number, .func (PySem.W.fnOf "_law_number" "_law_number" (defArgs s_law_number) (defBody s_law_number) (defScope s_law_number) .none kV_law_number dc_law_number pm_law_number an_law_number cd_law_number ct_law_number), sl_law_number⟩) (c_law_number : PySem.W.codeIn K cd_law_number "_law_number" = true) (k_law_number : PySem.W.keepIn K (.ref f_law_number) = true)
    (a_law_uses : PySem.W.nsIn K mainGlobals "_law_uses" = some (some (.ref f_law_uses)))
    (l_law_uses : K.lookup f_law_uses = some ⟨oc_law_uses, od_law_uses, .func (PySem.W.fnOf "_law_uses" "_law_uses" (defArgs s_law_uses) (defBody s_law_uses) (defScope s_law_uses) .none kV_law_uses dc_law_uses pm_law_uses an_law_uses cd_law_uses ct_law_uses), sl_law_uses⟩) (c_law_uses : PySem.W.codeIn K cd_law_uses "_law_uses" = true) (k_law_uses : PySem.W.keepIn K (.ref f_law_uses) = true)
    (a_law_way : PySem.W.nsIn K mainGlobals "_law_way" = some (some (.ref f_law_way)))
    (l_law_way : K.lookup f_law_way = some ⟨oc_law_way, od_law_way, .func (PySem.W.fnOf "_law_way" "_law_way" (defArgs s_law_way) (defBody s_law_way) (defScope s_law_way) .none kV_law_way dc_law_way pm_law_way an_law_way cd_law_way ct_law_way), sl_law_way⟩) (c_law_way : PySem.W.codeIn K cd_law_way "_law_way" = true) (k_law_way : PySem.W.keepIn K (.ref f_law_way) = true)
    (a_law_step : PySem.W.nsIn K mainGlobals "_law_step" = some (some (.ref f_law_step)))
    (l_law_step : K.lookup f_law_step = some ⟨oc_law_step, od_law_step, .func (PySem.W.fnOf "_law_step" "_law_step" (defArgs s_law_step) (defBody s_law_step) (defScope s_law_step) .none kV_law_step dc_law_step pm_law_step an_law_step cd_law_step ct_law_step), sl_law_step⟩) (c_law_step : PySem.W.codeIn K cd_law_step "_law_step" = true) (k_law_step : PySem.W.keepIn K (.ref f_law_step) = true)
    (a_law_bare : PySem.W.nsIn K mainGlobals "_law_bare" = some (some (.ref f_law_bare)))
    (l_law_bare : K.lookup f_law_bare = some ⟨oc_law_bare, od_law_bare, .func (PySem.W.fnOf "_law_bare" "_law_bare" (defArgs s_law_bare) (defBody s_law_bare) (defScope s_law_bare) .none kV_law_bare dc_law_bare pm_law_bare an_law_bare cd_law_bare ct_law_bare), sl_law_bare⟩) (c_law_bare : PySem.W.codeIn K cd_law_bare "_law_bare" = true) (k_law_bare : PySem.W.keepIn K (.ref f_law_bare) = true)
    (a_law_kind : PySem.W.nsIn K mainGlobals "_law_kind" = some (some (.ref f_law_kind)))
    (l_law_kind : K.lookup f_law_kind = some ⟨oc_law_kind, od_law_kind, .func (PySem.W.fnOf "_law_kind" "_law_kind" (defArgs s_law_kind) (defBody s_law_kind) (defScope s_law_kind) .none kV_law_kind dc_law_kind pm_law_kind an_law_kind cd_law_kind ct_law_kind), sl_law_kind⟩) (c_law_kind : PySem.W.codeIn K cd_law_kind "_law_kind" = true) (k_law_kind : PySem.W.keepIn K (.ref f_law_kind) = true)
    (a_law_values : PySem.W.nsIn K mainGlobals "_law_values" = some (some (.ref f_law_values)))
    (l_law_values : K.lookup f_law_values = some ⟨oc_law_values, od_law_values, .func (PySem.W.fnOf "_law_values" "_law_values" (defArgs s_law_values) (defBody s_law_values) (defScope s_law_values) .none kV_law_values dc_law_values pm_law_values an_law_values cd_law_values ct_law_values), sl_law_values⟩) (c_law_values : PySem.W.codeIn K cd_law_values "_law_values" = true) (k_law_values : PySem.W.keepIn K (.ref f_law_values) = true)
    (a_law_grew : PySem.W.nsIn K mainGlobals "_law_grew" = some (some (.ref f_law_grew)))
    (l_law_grew : K.lookup f_law_grew = some ⟨oc_law_grew, od_law_grew, .func (PySem.W.fnOf "_law_grew" "_law_grew" (defArgs s_law_grew) (defBody s_law_grew) (defScope s_law_grew) .none kV_law_grew dc_law_grew pm_law_grew an_law_grew cd_law_grew ct_law_grew), sl_law_grew⟩) (c_law_grew : PySem.W.codeIn K cd_law_grew "_law_grew" = true) (k_law_grew : PySem.W.keepIn K (.ref f_law_grew) = true)
    (a_law_ways : PySem.W.nsIn K mainGlobals "_law_ways" = some (some (.ref f_law_ways)))
    (l_law_ways : K.lookup f_law_ways = some ⟨oc_law_ways, od_law_ways, .func (PySem.W.fnOf "_law_ways" "_law_ways" (defArgs s_law_ways) (defBody s_law_ways) (defScope s_law_ways) .none kV_law_ways dc_law_ways pm_law_ways an_law_ways cd_law_ways ct_law_ways), sl_law_ways⟩) (c_law_ways : PySem.W.codeIn K cd_law_ways "_law_ways" = true) (k_law_ways : PySem.W.keepIn K (.ref f_law_ways) = true)
    (alaw : PySem.W.nsIn K mainGlobals "law" = some (some (.ref flaw)))
    (llaw : K.lookup flaw = some ⟨oclaw, odlaw, .func (PySem.W.fnOf "law" "law" (defArgs slaw) (defBody slaw) (defScope slaw) .none kVlaw dclaw pmlaw anlaw cdlaw ctlaw), sllaw⟩) (claw : PySem.W.codeIn K cdlaw "law" = true) (klaw : PySem.W.keepIn K (.ref flaw) = true)
    (zb_abs : PySem.W.nsIn K mainGlobals "abs" = some none)
    (zb_len : PySem.W.nsIn K mainGlobals "len" = some none)
    (zb_isinstance : PySem.W.nsIn K mainGlobals "isinstance" = some none)
    (zb_int : PySem.W.nsIn K mainGlobals "int" = some none)
    (zb_bool : PySem.W.nsIn K mainGlobals "bool" = some none)
    (zb_tuple : PySem.W.nsIn K mainGlobals "tuple" = some none)
    (zb_list : PySem.W.nsIn K mainGlobals "list" = some none)
    (zb_str : PySem.W.nsIn K mainGlobals "str" = some none)
    (zb_range : PySem.W.nsIn K mainGlobals "range" = some none)
    (zb_sorted : PySem.W.nsIn K mainGlobals "sorted" = some none)
    (zm_Cut : PySem.W.nsIn K mainGlobals "Cut" = some (some (.ref c_Cut)))
    (zm_Rest : PySem.W.nsIn K mainGlobals "Rest" = some (some (.ref c_Rest)))
    (zm_Step : PySem.W.nsIn K mainGlobals "Step" = some (some (.ref c_Step)))
    (zm_Warm : PySem.W.nsIn K mainGlobals "Warm" = some (some (.ref c_Warm)))
    (atStep_init : PySem.W.findIn K (.ref c_Step) "__init__" = some (some (.ref f_Step_init)))
    (lStep_init : K.lookup f_Step_init = some ⟨ocStep_init, odStep_init, .func (PySem.W.fnOf "__init__" "Step.__init__" (defArgs sStep_init) (defBody sStep_init) (defScope sStep_init) (.ref TStep_init) kVStep_init dcStep_init pmStep_init anStep_init cdStep_init ctStep_init), slStep_init⟩) (cStep_init : PySem.W.codeIn K cdStep_init "Step.__init__" = true) (kStep_init : PySem.W.keepIn K (.ref f_Step_init) = true)
    (atStep_word : PySem.W.findIn K (.ref c_Step) "word" = some (some (.ref f_Step_word)))
    (lStep_word : K.lookup f_Step_word = some ⟨ocStep_word, odStep_word, .func (PySem.W.fnOf "word" "Step.word" (defArgs sStep_word) (defBody sStep_word) (defScope sStep_word) .none kVStep_word dcStep_word pmStep_word anStep_word cdStep_word ctStep_word), slStep_word⟩) (cStep_word : PySem.W.codeIn K cdStep_word "Step.word" = true) (kStep_word : PySem.W.keepIn K (.ref f_Step_word) = true)
    (atStep_span : PySem.W.findIn K (.ref c_Step) "span" = some (some (.ref f_Step_span)))
    (lStep_span : K.lookup f_Step_span = some ⟨ocStep_span, odStep_span, .func (PySem.W.fnOf "span" "Step.span" (defArgs sStep_span) (defBody sStep_span) (defScope sStep_span) .none kVStep_span dcStep_span pmStep_span anStep_span cdStep_span ctStep_span), slStep_span⟩) (cStep_span : PySem.W.codeIn K cdStep_span "Step.span" = true) (kStep_span : PySem.W.keepIn K (.ref f_Step_span) = true)
    (atCut_word : PySem.W.findIn K (.ref c_Cut) "word" = some (some (.ref f_Cut_word)))
    (lCut_word : K.lookup f_Cut_word = some ⟨ocCut_word, odCut_word, .func (PySem.W.fnOf "word" "Cut.word" (defArgs sCut_word) (defBody sCut_word) (defScope sCut_word) .none kVCut_word dcCut_word pmCut_word anCut_word cdCut_word ctCut_word), slCut_word⟩) (cCut_word : PySem.W.codeIn K cdCut_word "Cut.word" = true) (kCut_word : PySem.W.keepIn K (.ref f_Cut_word) = true)
    (atCut_span : PySem.W.findIn K (.ref c_Cut) "span" = some (some (.ref f_Cut_span)))
    (lCut_span : K.lookup f_Cut_span = some ⟨ocCut_span, odCut_span, .func (PySem.W.fnOf "span" "Cut.span" (defArgs sCut_span) (defBody sCut_span) (defScope sCut_span) .none kVCut_span dcCut_span pmCut_span anCut_span cdCut_span ctCut_span), slCut_span⟩) (cCut_span : PySem.W.codeIn K cdCut_span "Cut.span" = true) (kCut_span : PySem.W.keepIn K (.ref f_Cut_span) = true)
    (atWarm_init : PySem.W.findIn K (.ref c_Warm) "__init__" = some (some (.ref f_Warm_init)))
    (lWarm_init : K.lookup f_Warm_init = some ⟨ocWarm_init, odWarm_init, .func (PySem.W.fnOf "__init__" "Warm.__init__" (defArgs sWarm_init) (defBody sWarm_init) (defScope sWarm_init) (.ref TWarm_init) kVWarm_init dcWarm_init pmWarm_init anWarm_init cdWarm_init ctWarm_init), slWarm_init⟩) (cWarm_init : PySem.W.codeIn K cdWarm_init "Warm.__init__" = true) (kWarm_init : PySem.W.keepIn K (.ref f_Warm_init) = true)
    (atWarm_word : PySem.W.findIn K (.ref c_Warm) "word" = some (some (.ref f_Warm_word)))
    (lWarm_word : K.lookup f_Warm_word = some ⟨ocWarm_word, odWarm_word, .func (PySem.W.fnOf "word" "Warm.word" (defArgs sWarm_word) (defBody sWarm_word) (defScope sWarm_word) .none kVWarm_word dcWarm_word pmWarm_word anWarm_word cdWarm_word ctWarm_word), slWarm_word⟩) (cWarm_word : PySem.W.codeIn K cdWarm_word "Warm.word" = true) (kWarm_word : PySem.W.keepIn K (.ref f_Warm_word) = true)
    (atRest_word : PySem.W.findIn K (.ref c_Rest) "word" = some (some (.ref f_Rest_word)))
    (lRest_word : K.lookup f_Rest_word = some ⟨ocRest_word, odRest_word, .func (PySem.W.fnOf "word" "Rest.word" (defArgs sRest_word) (defBody sRest_word) (defScope sRest_word) .none kVRest_word dcRest_word pmRest_word anRest_word cdRest_word ctRest_word), slRest_word⟩) (cRest_word : PySem.W.codeIn K cdRest_word "Rest.word" = true) (kRest_word : PySem.W.keepIn K (.ref f_Rest_word) = true)
    (atStep_grown_way : PySem.W.findIn K (.ref c_Step) "grown_way" = some (some (.ref f_Step_grown_way)))
    (lStep_grown_way : K.lookup f_Step_grown_way = some ⟨ocStep_grown_way, odStep_grown_way, .func (PySem.W.fnOf "grown_way" "Step.grown_way" (defArgs sStep_grown_way) (defBody sStep_grown_way) (defScope sStep_grown_way) .none kVStep_grown_way dcStep_grown_way pmStep_grown_way anStep_grown_way cdStep_grown_way ctStep_grown_way), slStep_grown_way⟩) (cStep_grown_way : PySem.W.codeIn K cdStep_grown_way "Step.grown_way" = true) (kStep_grown_way : PySem.W.keepIn K (.ref f_Step_grown_way) = true)
    (atStep_grown : PySem.W.findIn K (.ref c_Step) "grown" = some (some (.ref f_Step_grown)))
    (lStep_grown : K.lookup f_Step_grown = some ⟨ocStep_grown, odStep_grown, .func (PySem.W.fnOf "grown" "Step.grown" (defArgs sStep_grown) (defBody sStep_grown) (defScope sStep_grown) .none kVStep_grown dcStep_grown pmStep_grown anStep_grown cdStep_grown ctStep_grown), slStep_grown⟩) (cStep_grown : PySem.W.codeIn K cdStep_grown "Step.grown" = true) (kStep_grown : PySem.W.keepIn K (.ref f_Step_grown) = true)
    (dfraction : K.lookup Tfraction = some ⟨Tofraction, Tdfraction, .seq #[.int 1 Ttfraction] Tnfraction, Tsfraction⟩)
    (dStep_init : K.lookup TStep_init = some ⟨ToStep_init, TdStep_init, .seq #[.none, .none] TnStep_init, TsStep_init⟩)
    (dWarm_init : K.lookup TWarm_init = some ⟨ToWarm_init, TdWarm_init, .seq #[.none, .none] TnWarm_init, TsWarm_init⟩)
    (zcl_Step : Cls K c_Step)
    (zmk_Step : Mk K c_Step f_Step_init)
    (zme_Step_word : Meth K c_Step "word" f_Step_word)
    (zme_Step_span : Meth K c_Step "span" f_Step_span)
    (zme_Step_grown : Meth K c_Step "grown" f_Step_grown)
    (zme_Step_grown_way : Meth K c_Step "grown_way" f_Step_grown_way)
    (zcl_Cut : Cls K c_Cut)
    (zmk_Cut : Mk K c_Cut f_Step_init)
    (zme_Cut_word : Meth K c_Cut "word" f_Cut_word)
    (zme_Cut_span : Meth K c_Cut "span" f_Cut_span)
    (zme_Cut_grown : Meth K c_Cut "grown" f_Step_grown)
    (zme_Cut_grown_way : Meth K c_Cut "grown_way" f_Step_grown_way)
    (zcl_Warm : Cls K c_Warm)
    (zmk_Warm : Mk K c_Warm f_Warm_init)
    (zme_Warm_word : Meth K c_Warm "word" f_Warm_word)
    (zme_Warm_span : Meth K c_Warm "span" f_Step_span)
    (zme_Warm_grown : Meth K c_Warm "grown" f_Step_grown)
    (zme_Warm_grown_way : Meth K c_Warm "grown_way" f_Step_grown_way)
    (zcl_Rest : Cls K c_Rest)
    (zmk_Rest : Mk K c_Rest f_Step_init)
    (zme_Rest_word : Meth K c_Rest "word" f_Rest_word)
    (zme_Rest_span : Meth K c_Rest "span" f_Step_span)
    (zme_Rest_grown : Meth K c_Rest "grown" f_Step_grown)
    (zme_Rest_grown_way : Meth K c_Rest "grown_way" f_Step_grown_way)
    (zna_Step_name : NoAttr K c_Step "name")
    (zna_Step_least : NoAttr K c_Step "least")
    (zna_Step_most : NoAttr K c_Step "most")
    (zna_Step_uses : NoAttr K c_Step "uses")
    (zna_Step_second : NoAttr K c_Step "second")
    (zna_Cut_name : NoAttr K c_Cut "name")
    (zna_Cut_least : NoAttr K c_Cut "least")
    (zna_Cut_most : NoAttr K c_Cut "most")
    (zna_Cut_uses : NoAttr K c_Cut "uses")
    (zna_Cut_second : NoAttr K c_Cut "second")
    (zna_Rest_name : NoAttr K c_Rest "name")
    (zna_Rest_least : NoAttr K c_Rest "least")
    (zna_Rest_most : NoAttr K c_Rest "most")
    (zna_Rest_uses : NoAttr K c_Rest "uses")
    (zna_Rest_second : NoAttr K c_Rest "second")
    (zna_Warm_name : NoAttr K c_Warm "name")
    (zna_Warm_least : NoAttr K c_Warm "least")
    (zna_Warm_most : NoAttr K c_Warm "most")
    (zna_Warm_uses : NoAttr K c_Warm "uses")
    (zna_Warm_second : NoAttr K c_Warm "second")
    (zna_Warm_fill : NoAttr K c_Warm "fill")
    (zcm_Step___init__ : ClsM K c_Step "__init__" f_Step_init)
    (ztc_Step : TyC K c_Step)
    (ztc_Cut : TyC K c_Cut)
    (ztc_Warm : TyC K c_Warm)
    (ztc_Rest : TyC K c_Rest)
    (zkit_Step_Step : PySem.W.kitOne K (.ref c_Step) (.ref c_Step) = some true)
    (zkit_Step_Cut : PySem.W.kitOne K (.ref c_Step) (.ref c_Cut) = some false)
    (zkit_Step_Warm : PySem.W.kitOne K (.ref c_Step) (.ref c_Warm) = some false)
    (zkit_Step_Rest : PySem.W.kitOne K (.ref c_Step) (.ref c_Rest) = some false)
    (zkit_Cut_Step : PySem.W.kitOne K (.ref c_Cut) (.ref c_Step) = some true)
    (zkit_Cut_Cut : PySem.W.kitOne K (.ref c_Cut) (.ref c_Cut) = some true)
    (zkit_Cut_Warm : PySem.W.kitOne K (.ref c_Cut) (.ref c_Warm) = some false)
    (zkit_Cut_Rest : PySem.W.kitOne K (.ref c_Cut) (.ref c_Rest) = some false)
    (zkit_Warm_Step : PySem.W.kitOne K (.ref c_Warm) (.ref c_Step) = some true)
    (zkit_Warm_Cut : PySem.W.kitOne K (.ref c_Warm) (.ref c_Cut) = some false)
    (zkit_Warm_Warm : PySem.W.kitOne K (.ref c_Warm) (.ref c_Warm) = some true)
    (zkit_Warm_Rest : PySem.W.kitOne K (.ref c_Warm) (.ref c_Rest) = some false)
    (zkit_Rest_Step : PySem.W.kitOne K (.ref c_Rest) (.ref c_Step) = some true)
    (zkit_Rest_Cut : PySem.W.kitOne K (.ref c_Rest) (.ref c_Cut) = some false)
    (zkit_Rest_Warm : PySem.W.kitOne K (.ref c_Rest) (.ref c_Warm) = some false)
    (zkit_Rest_Rest : PySem.W.kitOne K (.ref c_Rest) (.ref c_Rest) = some true)
    : ∃ fd : FuncData, (∀ (s : Shared) (v : Value), BindsTo s fd ⟨[v], []⟩ [("_law_script", v)]) ∧ ∀ base : Heap, K.In base → base.Ns mainGlobals mg → FnOk l.prog w K mg base CX0 9 fa fd ["_law_script"] (spLaw K) := by
  have e := hfa.symm.trans (PySem.W.mg_of X G alaw)
  cases e
  have B : Bn K mg c_Cut c_Rest c_Step c_Warm f_Step_init f_Step_word f_Step_span f_Cut_word f_Cut_span f_Warm_init f_Warm_word f_Rest_word f_Step_grown_way f_Step_grown := ⟨PySem.W.mg_none_of X G zb_abs, PySem.W.mg_none_of X G zb_len, PySem.W.mg_none_of X G zb_isinstance, PySem.W.mg_none_of X G zb_int, PySem.W.mg_none_of X G zb_bool, PySem.W.mg_none_of X G zb_tuple, PySem.W.mg_none_of X G zb_list, PySem.W.mg_none_of X G zb_str, PySem.W.mg_none_of X G zb_range, PySem.W.mg_none_of X G zb_sorted, PySem.W.mg_of X G zm_Cut, PySem.W.mg_of X G zm_Rest, PySem.W.mg_of X G zm_Step, PySem.W.mg_of X G zm_Warm, zcl_Step, zmk_Step, zme_Step_word, zme_Step_span, zme_Step_grown, zme_Step_grown_way, zcl_Cut, zmk_Cut, zme_Cut_word, zme_Cut_span, zme_Cut_grown, zme_Cut_grown_way, zcl_Warm, zmk_Warm, zme_Warm_word, zme_Warm_span, zme_Warm_grown, zme_Warm_grown_way, zcl_Rest, zmk_Rest, zme_Rest_word, zme_Rest_span, zme_Rest_grown, zme_Rest_grown_way, zna_Step_name, zna_Step_least, zna_Step_most, zna_Step_uses, zna_Step_second, zna_Cut_name, zna_Cut_least, zna_Cut_most, zna_Cut_uses, zna_Cut_second, zna_Rest_name, zna_Rest_least, zna_Rest_most, zna_Rest_uses, zna_Rest_second, zna_Warm_name, zna_Warm_least, zna_Warm_most, zna_Warm_uses, zna_Warm_second, zna_Warm_fill, zcm_Step___init__, ztc_Step, ztc_Cut, ztc_Warm, ztc_Rest, zkit_Step_Step, zkit_Step_Cut, zkit_Step_Warm, zkit_Step_Rest, zkit_Cut_Step, zkit_Cut_Cut, zkit_Cut_Warm, zkit_Cut_Rest, zkit_Warm_Step, zkit_Warm_Cut, zkit_Warm_Warm, zkit_Warm_Rest, zkit_Rest_Step, zkit_Rest_Cut, zkit_Rest_Warm, zkit_Rest_Rest⟩
  have Fis_whole := funD_mk (st := sis_whole) lis_whole cis_whole kis_whole
  have Fdivisor := funD_mk (st := sdivisor) ldivisor cdivisor kdivisor
  have Ffraction := funD_mk (st := sfraction) lfraction cfraction kfraction
  have Fproduct := funD_mk (st := sproduct) lproduct cproduct kproduct
  have Fround_up := funD_mk (st := sround_up) lround_up cround_up kround_up
  have Fgrown_length := funD_mk (st := sgrown_length) lgrown_length cgrown_length kgrown_length
  have FStep_init := funD_mk (st := sStep_init) lStep_init cStep_init kStep_init
  have FStep_word := funD_mk (st := sStep_word) lStep_word cStep_word kStep_word
  have FStep_span := funD_mk (st := sStep_span) lStep_span cStep_span kStep_span
  have FCut_word := funD_mk (st := sCut_word) lCut_word cCut_word kCut_word
  have FCut_span := funD_mk (st := sCut_span) lCut_span cCut_span kCut_span
  have FWarm_init := funD_mk (st := sWarm_init) lWarm_init cWarm_init kWarm_init
  have FWarm_word := funD_mk (st := sWarm_word) lWarm_word cWarm_word kWarm_word
  have FRest_word := funD_mk (st := sRest_word) lRest_word cRest_word kRest_word
  have FStep_grown_way := funD_mk (st := sStep_grown_way) lStep_grown_way cStep_grown_way kStep_grown_way
  have FStep_grown := funD_mk (st := sStep_grown) lStep_grown cStep_grown kStep_grown
  have F_law_cell_at := funD_mk (st := s_law_cell_at) l_law_cell_at c_law_cell_at k_law_cell_at
  have F_law_whole := funD_mk (st := s_law_whole) l_law_whole c_law_whole k_law_whole
  have F_law_common := funD_mk (st := s_law_common) l_law_common c_law_common k_law_common
  have F_law_stream := funD_mk (st := s_law_stream) l_law_stream c_law_stream k_law_stream
  have F_law_names := funD_mk (st := s_law_names) l_law_names c_law_names k_law_names
  have F_law_number := funD_mk (st := s_law_number) l_law_number c_law_number k_law_number
  have F_law_uses := funD_mk (st := s_law_uses) l_law_uses c_law_uses k_law_uses
  have F_law_way := funD_mk (st := s_law_way) l_law_way c_law_way k_law_way
  have F_law_step := funD_mk (st := s_law_step) l_law_step c_law_step k_law_step
  have F_law_bare := funD_mk (st := s_law_bare) l_law_bare c_law_bare k_law_bare
  have F_law_kind := funD_mk (st := s_law_kind) l_law_kind c_law_kind k_law_kind
  have F_law_values := funD_mk (st := s_law_values) l_law_values c_law_values k_law_values
  have F_law_grew := funD_mk (st := s_law_grew) l_law_grew c_law_grew k_law_grew
  have F_law_ways := funD_mk (st := s_law_ways) l_law_ways c_law_ways k_law_ways
  have Flaw := funD_mk (st := slaw) llaw claw klaw
  refine ⟨PySem.W.fnOf "law" "law" (defArgs slaw) (defBody slaw) (defScope slaw) .none kVlaw dclaw pmlaw anlaw cdlaw ctlaw, ?bind, fun base _ _ => ?ok⟩
  case bind => exact fun s v => .of_eq rfl
  case ok =>
    have bis_whole := Fis_whole.binds0 (ps := ["thing"]) fun _ _ _ _ _ _ us hl => match us, hl with | [_], _ => rfl
    have Dis_whole : Dx l.prog w K mg base CX0 1 "is_whole" ["thing"] [] spWhole := ⟨fis_whole, _, okis_whole Fis_whole B , PySem.W.mg_of X G ais_whole, kis_whole, bis_whole, ⟨[], bis_whole, .nil⟩⟩
    have bdivisor := Fdivisor.binds0 (ps := ["one", "other"]) fun _ _ _ _ _ _ us hl => match us, hl with | [_, _], _ => rfl
    have Ddivisor : Dx l.prog w K mg base CX0 1 "divisor" ["one", "other"] [] spDiv := ⟨fdivisor, _, okdivisor Fdivisor B , PySem.W.mg_of X G adivisor, kdivisor, bdivisor, ⟨[], bdivisor, .nil⟩⟩
    have Dfraction : Dx l.prog w K mg base CX0 2 "fraction" ["top", "bottom"] [.int 1] spFr := ⟨ffraction, _, okfraction Ffraction B Dis_whole Ddivisor, PySem.W.mg_of X G afraction, kfraction, Ffraction.binds (ps := ["top", "bottom"]) (ds := []) dfraction rfl fun _ _ _ _ _ _ us hl => match us, hl with | [_, _], _ => ⟨_, rfl, rfl⟩, ⟨[.int 1 Ttfraction], Ffraction.binds (ps := ["top", "bottom"]) (ds := [.int 1 Ttfraction]) dfraction rfl fun _ _ _ _ _ _ us hl => match us, hl with | [_], _ => ⟨_, rfl, rfl⟩ | [], h => absurd h (by simp) | _ :: _ :: _, h => absurd h (by simp), .cons ⟨_, rfl⟩ .nil⟩⟩
    have bproduct := Fproduct.binds0 (ps := ["one", "other"]) fun _ _ _ _ _ _ us hl => match us, hl with | [_, _], _ => rfl
    have Dproduct : Dx l.prog w K mg base CX0 3 "product" ["one", "other"] [] (spProd K) := ⟨fproduct, _, okproduct Fproduct B Dfraction, PySem.W.mg_of X G aproduct, kproduct, bproduct, ⟨[], bproduct, .nil⟩⟩
    have bround_up := Fround_up.binds0 (ps := ["one"]) fun _ _ _ _ _ _ us hl => match us, hl with | [_], _ => rfl
    have Dround_up : Dx l.prog w K mg base CX0 1 "round_up" ["one"] [] (spUp K) := ⟨fround_up, _, okround_up Fround_up B , PySem.W.mg_of X G around_up, kround_up, bround_up, ⟨[], bround_up, .nil⟩⟩
    have bgrown_length := Fgrown_length.binds0 (ps := ["length", "factor"]) fun _ _ _ _ _ _ us hl => match us, hl with | [_, _], _ => rfl
    have Dgrown_length : Dx l.prog w K mg base CX0 4 "grown_length" ["length", "factor"] [] (spGrownLen K) := ⟨fgrown_length, _, okgrown_length Fgrown_length B Dfraction Dproduct Dround_up, PySem.W.mg_of X G agrown_length, kgrown_length, bgrown_length, ⟨[], bgrown_length, .nil⟩⟩
    have DStep_init : DxM l.prog w K mg base CX0 1 f_Step_init ["self", "name", "least", "most", "uses", "second"] [.non, .non] (spInit2 K) := ⟨_, okStep_init FStep_init B , FStep_init.binds (ps := ["self", "name", "least", "most", "uses", "second"]) (ds := []) dStep_init rfl fun _ _ _ _ _ _ us hl => match us, hl with | [_, _, _, _, _, _], _ => ⟨_, rfl, rfl⟩, ⟨[.none, .none], FStep_init.binds (ps := ["self", "name", "least", "most", "uses", "second"]) (ds := [.none, .none]) dStep_init rfl fun _ _ _ _ _ _ us hl => match us, hl with | [_, _, _, _], _ => ⟨_, rfl, rfl⟩ | [], h => absurd h (by simp) | [_], h => absurd h (by simp) | [_, _], h => absurd h (by simp) | [_, _, _], h => absurd h (by simp) | _ :: _ :: _ :: _ :: _ :: _, h => absurd h (by simp), .cons rfl (.cons rfl .nil)⟩⟩
    have bStep_word := FStep_word.binds0 (ps := ["self"]) fun _ _ _ _ _ _ us hl => match us, hl with | [_], _ => rfl
    have DStep_word : DxM l.prog w K mg base CX0 1 f_Step_word ["self"] [] (spWord "step") := ⟨_, okStep_word FStep_word B , bStep_word, ⟨[], bStep_word, .nil⟩⟩
    have bStep_span := FStep_span.binds0 (ps := ["self", "least", "most", "factor"]) fun _ _ _ _ _ _ us hl => match us, hl with | [_, _, _, _], _ => rfl
    have DStep_span : DxM l.prog w K mg base CX0 1 f_Step_span ["self", "least", "most", "factor"] [] (spSpan K false) := ⟨_, okStep_span FStep_span B , bStep_span, ⟨[], bStep_span, .nil⟩⟩
    have bCut_word := FCut_word.binds0 (ps := ["self"]) fun _ _ _ _ _ _ us hl => match us, hl with | [_], _ => rfl
    have DCut_word : DxM l.prog w K mg base CX0 1 f_Cut_word ["self"] [] (spWord "cut") := ⟨_, okCut_word FCut_word B , bCut_word, ⟨[], bCut_word, .nil⟩⟩
    have bCut_span := FCut_span.binds0 (ps := ["self", "least", "most", "factor"]) fun _ _ _ _ _ _ us hl => match us, hl with | [_, _, _, _], _ => rfl
    have DCut_span : DxM l.prog w K mg base CX0 5 f_Cut_span ["self", "least", "most", "factor"] [] (spSpan K true) := ⟨_, okCut_span FCut_span B Dgrown_length, bCut_span, ⟨[], bCut_span, .nil⟩⟩
    have DWarm_init : DxM l.prog w K mg base CX0 2 f_Warm_init ["self", "name", "least", "most", "fill", "uses", "second"] [.non, .non] (spWarm2 K) := ⟨_, okWarm_init FWarm_init B DStep_init, FWarm_init.binds (ps := ["self", "name", "least", "most", "fill", "uses", "second"]) (ds := []) dWarm_init rfl fun _ _ _ _ _ _ us hl => match us, hl with | [_, _, _, _, _, _, _], _ => ⟨_, rfl, rfl⟩, ⟨[.none, .none], FWarm_init.binds (ps := ["self", "name", "least", "most", "fill", "uses", "second"]) (ds := [.none, .none]) dWarm_init rfl fun _ _ _ _ _ _ us hl => match us, hl with | [_, _, _, _, _], _ => ⟨_, rfl, rfl⟩ | [], h => absurd h (by simp) | [_], h => absurd h (by simp) | [_, _], h => absurd h (by simp) | [_, _, _], h => absurd h (by simp) | [_, _, _, _], h => absurd h (by simp) | _ :: _ :: _ :: _ :: _ :: _ :: _, h => absurd h (by simp), .cons rfl (.cons rfl .nil)⟩⟩
    have bWarm_word := FWarm_word.binds0 (ps := ["self"]) fun _ _ _ _ _ _ us hl => match us, hl with | [_], _ => rfl
    have DWarm_word : DxM l.prog w K mg base CX0 1 f_Warm_word ["self"] [] (spWord "warm") := ⟨_, okWarm_word FWarm_word B , bWarm_word, ⟨[], bWarm_word, .nil⟩⟩
    have bRest_word := FRest_word.binds0 (ps := ["self"]) fun _ _ _ _ _ _ us hl => match us, hl with | [_], _ => rfl
    have DRest_word : DxM l.prog w K mg base CX0 1 f_Rest_word ["self"] [] (spWord "rest") := ⟨_, okRest_word FRest_word B , bRest_word, ⟨[], bRest_word, .nil⟩⟩
    have bStep_grown_way := FStep_grown_way.binds0 (ps := ["self", "least", "most", "uses", "factor"]) fun _ _ _ _ _ _ us hl => match us, hl with | [_, _, _, _, _], _ => rfl
    have DStep_grown_way : DxM l.prog w K mg base CX0 6 f_Step_grown_way ["self", "least", "most", "uses", "factor"] [] (spWayG K f_Step_grown f_Step_grown_way f_Step_span f_Cut_span) := ⟨_, okStep_grown_way FStep_grown_way B DStep_span DCut_span, bStep_grown_way, ⟨[], bStep_grown_way, .nil⟩⟩
    have bStep_grown := FStep_grown.binds0 (ps := ["self", "factor"]) fun _ _ _ _ _ _ us hl => match us, hl with | [_, _], _ => rfl
    have DStep_grown : DxM l.prog w K mg base CX0 7 f_Step_grown ["self", "factor"] [] (spGrownS K f_Step_grown f_Step_grown_way f_Step_span f_Cut_span) := ⟨_, okStep_grown FStep_grown B DStep_grown_way, bStep_grown, ⟨[], bStep_grown, .nil⟩⟩
    have b_law_cell_at := F_law_cell_at.binds0 (ps := ["_law_script", "_law_k"]) fun _ _ _ _ _ _ us hl => match us, hl with | [_, _], _ => rfl
    have D_law_cell_at : Dx l.prog w K mg base CX0 1 "_law_cell_at" ["_law_script", "_law_k"] [] (spCell K) := ⟨f_law_cell_at, _, ok_law_cell_at F_law_cell_at B , PySem.W.mg_of X G a_law_cell_at, k_law_cell_at, b_law_cell_at, ⟨[], b_law_cell_at, .nil⟩⟩
    have b_law_whole := F_law_whole.binds0 (ps := ["_law_found"]) fun _ _ _ _ _ _ us hl => match us, hl with | [_], _ => rfl
    have D_law_whole : Dx l.prog w K mg base CX0 1 "_law_whole" ["_law_found"] [] spWhole := ⟨f_law_whole, _, ok_law_whole F_law_whole B , PySem.W.mg_of X G a_law_whole, k_law_whole, b_law_whole, ⟨[], b_law_whole, .nil⟩⟩
    have b_law_common := F_law_common.binds0 (ps := ["_law_one", "_law_other"]) fun _ _ _ _ _ _ us hl => match us, hl with | [_, _], _ => rfl
    have D_law_common : Dx l.prog w K mg base CX0 1 "_law_common" ["_law_one", "_law_other"] [] spDivP := ⟨f_law_common, _, ok_law_common F_law_common B , PySem.W.mg_of X G a_law_common, k_law_common, b_law_common, ⟨[], b_law_common, .nil⟩⟩
    have b_law_stream := F_law_stream.binds0 (ps := ["_law_cell", "_law_many"]) fun _ _ _ _ _ _ us hl => match us, hl with | [_, _], _ => rfl
    have D_law_stream : Dx l.prog w K mg base CX0 1 "_law_stream" ["_law_cell", "_law_many"] [] spStream := ⟨f_law_stream, _, ok_law_stream F_law_stream B , PySem.W.mg_of X G a_law_stream, k_law_stream, b_law_stream, ⟨[], b_law_stream, .nil⟩⟩
    have b_law_names := F_law_names.binds0 (ps := ["_law_cell"]) fun _ _ _ _ _ _ us hl => match us, hl with | [_], _ => rfl
    have D_law_names : Dx l.prog w K mg base CX0 2 "_law_names" ["_law_cell"] [] spNames12 := ⟨f_law_names, _, ok_law_names F_law_names B D_law_stream, PySem.W.mg_of X G a_law_names, k_law_names, b_law_names, ⟨[], b_law_names, .nil⟩⟩
    have b_law_number := F_law_number.binds0 (ps := ["_law_cell"]) fun _ _ _ _ _ _ us hl => match us, hl with | [_], _ => rfl
    have D_law_number : Dx l.prog w K mg base CX0 1 "_law_number" ["_law_cell"] [] spNumQ := ⟨f_law_number, _, ok_law_number F_law_number B , PySem.W.mg_of X G a_law_number, k_law_number, b_law_number, ⟨[], b_law_number, .nil⟩⟩
    have b_law_uses := F_law_uses.binds0 (ps := ["_law_cell", "_law_names_here", "_law_many"]) fun _ _ _ _ _ _ us hl => match us, hl with | [_, _, _], _ => rfl
    have D_law_uses : Dx l.prog w K mg base CX0 2 "_law_uses" ["_law_cell", "_law_names_here", "_law_many"] [] spUsesS := ⟨f_law_uses, _, ok_law_uses F_law_uses B D_law_stream, PySem.W.mg_of X G a_law_uses, k_law_uses, b_law_uses, ⟨[], b_law_uses, .nil⟩⟩
    have b_law_way := F_law_way.binds0 (ps := ["_law_script", "_law_k", "_law_names_here"]) fun _ _ _ _ _ _ us hl => match us, hl with | [_, _, _], _ => rfl
    have D_law_way : Dx l.prog w K mg base CX0 3 "_law_way" ["_law_script", "_law_k", "_law_names_here"] [] (spWayS K) := ⟨f_law_way, _, ok_law_way F_law_way B D_law_cell_at D_law_number D_law_uses, PySem.W.mg_of X G a_law_way, k_law_way, b_law_way, ⟨[], b_law_way, .nil⟩⟩
    have b_law_step := F_law_step.binds0 (ps := ["_law_kind_here", "_law_name", "_law_lengths", "_law_uses_here", "_law_second"]) fun _ _ _ _ _ _ us hl => match us, hl with | [_, _, _, _, _], _ => rfl
    have D_law_step : Dx l.prog w K mg base CX0 4 "_law_step" ["_law_kind_here", "_law_name", "_law_lengths", "_law_uses_here", "_law_second"] [] (spMadeS c_Step c_Cut c_Warm c_Rest) := ⟨f_law_step, _, ok_law_step F_law_step B DStep_init DWarm_init, PySem.W.mg_of X G a_law_step, k_law_step, b_law_step, ⟨[], b_law_step, .nil⟩⟩
    have b_law_bare := F_law_bare.binds0 (ps := ["_law_kind_here", "_law_name", "_law_lengths"]) fun _ _ _ _ _ _ us hl => match us, hl with | [_, _, _], _ => rfl
    have D_law_bare : Dx l.prog w K mg base CX0 4 "_law_bare" ["_law_kind_here", "_law_name", "_law_lengths"] [] (spBareS c_Step c_Cut c_Warm c_Rest) := ⟨f_law_bare, _, ok_law_bare F_law_bare B DStep_init DWarm_init, PySem.W.mg_of X G a_law_bare, k_law_bare, b_law_bare, ⟨[], b_law_bare, .nil⟩⟩
    have b_law_kind := F_law_kind.binds0 (ps := ["_law_step_here", "_law_kind_here"]) fun _ _ _ _ _ _ us hl => match us, hl with | [_, _], _ => rfl
    have D_law_kind : Dx l.prog w K mg base CX0 2 "_law_kind" ["_law_step_here", "_law_kind_here"] [] (spKindS c_Step c_Cut c_Warm c_Rest) := ⟨f_law_kind, _, ok_law_kind F_law_kind B DStep_word DCut_word DWarm_word DRest_word, PySem.W.mg_of X G a_law_kind, k_law_kind, b_law_kind, ⟨[], b_law_kind, .nil⟩⟩
    have b_law_values := F_law_values.binds0 (ps := ["_law_step_here", "_law_name", "_law_lengths", "_law_uses_here", "_law_second"]) fun _ _ _ _ _ _ us hl => match us, hl with | [_, _, _, _, _], _ => rfl
    have D_law_values : Dx l.prog w K mg base CX0 2 "_law_values" ["_law_step_here", "_law_name", "_law_lengths", "_law_uses_here", "_law_second"] [] (spValS K) := ⟨f_law_values, _, ok_law_values F_law_values B D_law_whole, PySem.W.mg_of X G a_law_values, k_law_values, b_law_values, ⟨[], b_law_values, .nil⟩⟩
    have b_law_grew := F_law_grew.binds0 (ps := ["_law_found", "_law_lengths", "_law_factor", "_law_kind_here"]) fun _ _ _ _ _ _ us hl => match us, hl with | [_, _, _, _], _ => rfl
    have D_law_grew : Dx l.prog w K mg base CX0 2 "_law_grew" ["_law_found", "_law_lengths", "_law_factor", "_law_kind_here"] [] (spGrewS K) := ⟨f_law_grew, _, ok_law_grew F_law_grew B D_law_whole, PySem.W.mg_of X G a_law_grew, k_law_grew, b_law_grew, ⟨[], b_law_grew, .nil⟩⟩
    have b_law_ways := F_law_ways.binds0 (ps := ["_law_step_here", "_law_kind_here", "_law_factor", "_law_dues"]) fun _ _ _ _ _ _ us hl => match us, hl with | [_, _, _, _], _ => rfl
    have D_law_ways : Dx l.prog w K mg base CX0 8 "_law_ways" ["_law_step_here", "_law_kind_here", "_law_factor", "_law_dues"] [] (spWaysS K f_Step_grown f_Step_grown_way f_Step_span f_Cut_span) := ⟨f_law_ways, _, ok_law_ways F_law_ways B DStep_span DCut_span DStep_grown D_law_grew, PySem.W.mg_of X G a_law_ways, k_law_ways, b_law_ways, ⟨[], b_law_ways, .nil⟩⟩
    exact oklaw Flaw B D_law_cell_at D_law_common D_law_names D_law_number D_law_way D_law_step D_law_bare D_law_kind D_law_values D_law_ways
theorem walk {l : PySem.W.OpenLaw} {q : Program} {loose : List Str} {XP : (Str → Option Value) → Heap → Prop} {YP : World → Heap → Prop} {d : DefRec} {K : Params → PySem.W.Frag} (hn : l.most = some 63) (hdf : d.params.defaults = [])
    (hY : ∀ (w : World) (h : Heap), YP w h → (K w.params).In h)
    (F : ∀ (w : World) (mg : Str → Option Value) (fa : Addr) (h : Heap), (K w.params).In h → h.Ns mainGlobals mg → mg d.name = some (.ref fa) →
      ∃ fd : FuncData, (∀ (s : Shared) (u : Value), BindsTo s fd ⟨[u], []⟩ [("_law_script", u)]) ∧ ∀ base : Heap, (K w.params).In base → base.Ns mainGlobals mg → FnOk l.prog w (K w.params) mg base CX0 9 fa fd ["_law_script"] (spLaw (K w.params))) :
    PySem.W.WalkO q loose XP YP l.row.toRowW d [] (fun f vs => PySem.call f vs) :=
  L2.walk_of (n := 63) (k := 9) (x := "_law_script") (CX := fun _ => CX0) (sp := fun w => spLaw (K w.params)) hn (by decide) hdf ⟨rfl, by decide, by decide⟩ hY F (fun _ _ a ns hl _ hS => ⟨a, ns, rfl, hS, hl, fun _ => rfl⟩) fun _ _ _ _ _ z => z
end Lk31
open PySem PySem.W PyProof.Rows
set_option maxRecDepth 100000 in
set_option maxHeartbeats 0 in
theorem PySem.Challenge.cw_stovework_k31_lengths_by_kind_holds : PySem.Challenge.rw_stovework_k31_lengths_by_kind.Holds := by
  w_on; o_law; k_head; (case hw => w_witness2)
  k_fill
  refine Lk31.walk (l := PySem.Challenge.rw_stovework_k31_lengths_by_kind) rfl rfl (fun w h Y => PySem.W.kIn_of Y) ?F
  case F =>
    intro w mg fa h KX G hmg
    refine' Lk31.all_mk KX G hmg ?h0 ?h1 ?h2 ?h3 ?h4 ?h5 ?h6 ?h7 ?h8 ?h9 ?h10 ?h11 ?h12 ?h13 ?h14 ?h15 ?h16 ?h17 ?h18 ?h19 ?h20 ?h21 ?h22 ?h23 ?h24 ?h25 ?h26 ?h27 ?h28 ?h29 ?h30 ?h31 ?h32 ?h33 ?h34 ?h35 ?h36 ?h37 ?h38 ?h39 ?h40 ?h41 ?h42 ?h43 ?h44 ?h45 ?h46 ?h47 ?h48 ?h49 ?h50 ?h51 ?h52 ?h53 ?h54 ?h55 ?h56 ?h57 ?h58 ?h59 ?h60 ?h61 ?h62 ?h63 ?h64 ?h65 ?h66 ?h67 ?h68 ?h69 ?h70 ?h71 ?h72 ?h73 ?h74 ?h75 ?h76 ?h77 ?h78 ?h79 ?h80 ?h81 ?h82 ?h83 ?h84 ?h85 ?h86 ?h87 ?h88 ?h89 ?h90 ?h91 ?h92 ?h93 ?h94 ?h95 ?h96 ?h97 ?h98 ?h99 ?h100 ?h101 ?h102 ?h103 ?h104 ?h105 ?h106 ?h107 ?h108 ?h109 ?h110 ?h111 ?h112 ?h113 ?h114 ?h115 ?h116 ?h117 ?h118 ?h119 ?h120 ?h121 ?h122 ?h123 ?h124 ?h125 ?h126 ?h127 ?h128 ?h129 ?h130 ?h131 ?h132 ?h133 ?h134 ?h135 ?h136 ?h137 ?h138 ?h139 ?h140 ?h141 ?h142 ?h143 ?h144 ?h145 ?h146 ?h147 ?h148 ?h149 ?h150 ?h151 ?h152 ?h153 ?h154 ?h155 ?h156 ?h157 ?h158 ?h159 ?h160 ?h161 ?h162 ?h163 ?h164 ?h165 ?h166 ?h167 ?h168 ?h169 ?h170 ?h171 ?h172 ?h173 ?h174 ?h175 ?h176 ?h177 ?h178 ?h179 ?h180 ?h181 ?h182 ?h183 ?h184 ?h185 ?h186 ?h187 ?h188 ?h189 ?h190 ?h191 ?h192 ?h193 ?h194 ?h195 ?h196 ?h197 ?h198 ?h199 ?h200 ?h201 ?h202 ?h203 ?h204 ?h205 ?h206
    (case h0 => k_is)
    (case h1 => k_is)
    (case h2 => k_is)
    (case h3 => k_is)
    (case h4 => k_is)
    (case h5 => k_is)
    (case h6 => k_is)
    (case h7 => k_is)
    (case h8 => k_is)
    (case h9 => k_is)
    (case h10 => k_is)
    (case h11 => k_is)
    (case h12 => k_is)
    (case h13 => k_is)
    (case h14 => k_is)
    (case h15 => k_is)
    (case h16 => k_is)
    (case h17 => k_is)
    (case h18 => k_is)
    (case h19 => k_is)
    (case h20 => k_is)
    (case h21 => k_is)
    (case h22 => k_is)
    (case h23 => k_is)
    (case h24 => k_is)
    (case h25 => k_is)
    (case h26 => k_is)
    (case h27 => k_is)
    (case h28 => k_is)
    (case h29 => k_is)
    (case h30 => k_is)
    (case h31 => k_is)
    (case h32 => k_is)
    (case h33 => k_is)
    (case h34 => k_is)
    (case h35 => k_is)
    (case h36 => k_is)
    (case h37 => k_is)
    (case h38 => k_is)
    (case h39 => k_is)
    (case h40 => k_is)
    (case h41 => k_is)
    (case h42 => k_is)
    (case h43 => k_is)
    (case h44 => k_is)
    (case h45 => k_is)
    (case h46 => k_is)
    (case h47 => k_is)
    (case h48 => k_is)
    (case h49 => k_is)
    (case h50 => k_is)
    (case h51 => k_is)
    (case h52 => k_is)
    (case h53 => k_is)
    (case h54 => k_is)
    (case h55 => k_is)
    (case h56 => k_is)
    (case h57 => k_is)
    (case h58 => k_is)
    (case h59 => k_is)
    (case h60 => k_is)
    (case h61 => k_is)
    (case h62 => k_is)
    (case h63 => k_is)
    (case h64 => k_is)
    (case h65 => k_is)
    (case h66 => k_is)
    (case h67 => k_is)
    (case h68 => k_is)
    (case h69 => k_is)
    (case h70 => k_is)
    (case h71 => k_is)
    (case h72 => k_is)
    (case h73 => k_is)
    (case h74 => k_is)
    (case h75 => k_is)
    (case h76 => k_is)
    (case h77 => k_is)
    (case h78 => k_is)
    (case h79 => k_is)
    (case h80 => k_is)
    (case h81 => k_is)
    (case h82 => k_is)
    (case h83 => k_is)
    (case h84 => k_is)
    (case h85 => k_is)
    (case h86 => k_is)
    (case h87 => k_is)
    (case h88 => k_is)
    (case h89 => k_is)
    (case h90 => k_is)
    (case h91 => k_is)
    (case h92 => k_is)
    (case h93 => k_is)
    (case h94 => k_is)
    (case h95 => k_is)
    (case h96 => k_is)
    (case h97 => k_is)
    (case h98 => k_is)
    (case h99 => k_is)
    (case h100 => k_is)
    (case h101 => k_is)
    (case h102 => k_is)
    (case h103 => k_is)
    (case h104 => k_is)
    (case h105 => k_is)
    (case h106 => k_is)
    (case h107 => k_is)
    (case h108 => k_is)
    (case h109 => k_is)
    (case h110 => k_is)
    (case h111 => k_is)
    (case h112 => k_is)
    (case h113 => k_is)
    (case h114 => k_is)
    (case h115 => k_is)
    (case h116 => k_is)
    (case h117 => k_is)
    (case h118 => k_is)
    (case h119 => k_is)
    (case h120 => k_is)
    (case h121 => k_is)
    (case h122 => k_is)
    (case h123 => k_is)
    (case h124 => k_is)
    (case h125 => k_is)
    (case h126 => k_is)
    (case h127 => k_is)
    (case h128 => k_is)
    (case h129 => k_is)
    (case h130 => k_is)
    (case h131 => k_is)
    (case h132 => k_is)
    (case h133 => k_is)
    (case h134 => k_is)
    (case h135 => k_is)
    (case h136 => k_is)
    (case h137 => k_is)
    (case h138 => k_is)
    (case h139 => k_is)
    (case h140 => k_is)
    (case h141 => exact ⟨by k_is, by k_is, by k_is, by k_is⟩)
    (case h142 => exact ⟨by k_is, by k_is, by k_is, by k_is⟩)
    (case h143 => exact ⟨by k_is, by k_is, by k_is⟩)
    (case h144 => exact ⟨by k_is, by k_is, by k_is⟩)
    (case h145 => exact ⟨by k_is, by k_is, by k_is⟩)
    (case h146 => exact ⟨by k_is, by k_is, by k_is⟩)
    (case h147 => exact ⟨by k_is, by k_is, by k_is, by k_is⟩)
    (case h148 => exact ⟨by k_is, by k_is, by k_is, by k_is⟩)
    (case h149 => exact ⟨by k_is, by k_is, by k_is⟩)
    (case h150 => exact ⟨by k_is, by k_is, by k_is⟩)
    (case h151 => exact ⟨by k_is, by k_is, by k_is⟩)
    (case h152 => exact ⟨by k_is, by k_is, by k_is⟩)
    (case h153 => exact ⟨by k_is, by k_is, by k_is, by k_is⟩)
    (case h154 => exact ⟨by k_is, by k_is, by k_is, by k_is⟩)
    (case h155 => exact ⟨by k_is, by k_is, by k_is⟩)
    (case h156 => exact ⟨by k_is, by k_is, by k_is⟩)
    (case h157 => exact ⟨by k_is, by k_is, by k_is⟩)
    (case h158 => exact ⟨by k_is, by k_is, by k_is⟩)
    (case h159 => exact ⟨by k_is, by k_is, by k_is, by k_is⟩)
    (case h160 => exact ⟨by k_is, by k_is, by k_is, by k_is⟩)
    (case h161 => exact ⟨by k_is, by k_is, by k_is⟩)
    (case h162 => exact ⟨by k_is, by k_is, by k_is⟩)
    (case h163 => exact ⟨by k_is, by k_is, by k_is⟩)
    (case h164 => exact ⟨by k_is, by k_is, by k_is⟩)
    (case h165 => unfold L2.NoAttr; k_is)
    (case h166 => unfold L2.NoAttr; k_is)
    (case h167 => unfold L2.NoAttr; k_is)
    (case h168 => unfold L2.NoAttr; k_is)
    (case h169 => unfold L2.NoAttr; k_is)
    (case h170 => unfold L2.NoAttr; k_is)
    (case h171 => unfold L2.NoAttr; k_is)
    (case h172 => unfold L2.NoAttr; k_is)
    (case h173 => unfold L2.NoAttr; k_is)
    (case h174 => unfold L2.NoAttr; k_is)
    (case h175 => unfold L2.NoAttr; k_is)
    (case h176 => unfold L2.NoAttr; k_is)
    (case h177 => unfold L2.NoAttr; k_is)
    (case h178 => unfold L2.NoAttr; k_is)
    (case h179 => unfold L2.NoAttr; k_is)
    (case h180 => unfold L2.NoAttr; k_is)
    (case h181 => unfold L2.NoAttr; k_is)
    (case h182 => unfold L2.NoAttr; k_is)
    (case h183 => unfold L2.NoAttr; k_is)
    (case h184 => unfold L2.NoAttr; k_is)
    (case h185 => unfold L2.NoAttr; k_is)
    (case h186 => exact ⟨by k_is, by k_is, by k_is, by k_is⟩)
    (case h187 => exact ⟨by k_is, by k_is, by k_is, by k_is⟩)
    (case h188 => exact ⟨by k_is, by k_is, by k_is, by k_is⟩)
    (case h189 => exact ⟨by k_is, by k_is, by k_is, by k_is⟩)
    (case h190 => exact ⟨by k_is, by k_is, by k_is, by k_is⟩)
    (case h191 => kernel_rfl)
    (case h192 => kernel_rfl)
    (case h193 => kernel_rfl)
    (case h194 => kernel_rfl)
    (case h195 => kernel_rfl)
    (case h196 => kernel_rfl)
    (case h197 => kernel_rfl)
    (case h198 => kernel_rfl)
    (case h199 => kernel_rfl)
    (case h200 => kernel_rfl)
    (case h201 => kernel_rfl)
    (case h202 => kernel_rfl)
    (case h203 => kernel_rfl)
    (case h204 => kernel_rfl)
    (case h205 => kernel_rfl)
    (case h206 => kernel_rfl)
