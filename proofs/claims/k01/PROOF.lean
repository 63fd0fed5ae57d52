import PyProof.Rows.All
import Wide.All
import OpenK.AllK
import Wide.FinOn
import Lean
import PyProof.EqAt
import PyProof.EqKinds
import PyProof.TupleCall
import PyProof.NeKinds
import PyProof.StationsW
import PyProof.RulesAs
import PyProof.ExcArgsOwn
import PyProof.CompFree
import PyProof.ExcInit
import PyProof.ConsumeWalk
import PyProof.Rows.SeqGen
import PySem.Challenge.RW_stovework_k01_refusals
set_option Elab.async false
set_option linter.all false
set_option maxRecDepth 100000
/-! THE HAND LAYER, for ints, bools, texts, own classes, LISTS and tuples (index, slices, in, append, pop ..), calls, loops. Paste it whole ahead of your own text; what your proof does not reach may be deleted. -/
namespace L2
open PySem PySem.Spec PyProof.Rows

/-- a key: an int or a str -/
abbrev Key := Sum Int Str
def keyIs : Key → Value → Bool
  | .inl k, v => Value.isInt k v
  | .inr x, v => Value.isStrOf x v
def keyH (w : World) : Key → Int
  | .inl k => hashInt k
  | .inr x => hashStr w x
theorem keyIs_shape : ∀ {k : Key} {v : Value}, keyIs k v = true → (∃ i t, k = Sum.inl i ∧ v = Value.int i t) ∨ (∃ x t, k = Sum.inr x ∧ v = Value.str x t)
  | .inl i, v, h => by
    obtain ⟨t, e⟩ := Value.isInt_shape (k := i) (v := v) h
    exact .inl ⟨i, t, rfl, e⟩
  | .inr x, v, h => by
    obtain ⟨t, e⟩ := Value.isStrOf_shape (x := x) (v := v) h
    exact .inr ⟨x, t, rfl, e⟩
theorem key_ll (a b : Int) : decide ((Sum.inl a : Key) = Sum.inl b) = (a == b) := by
  by_cases e : a = b
  · subst e; simp
  · have h : ¬ (Sum.inl a : Key) = Sum.inl b := fun q => e (Sum.inl.inj q)
    rw [decide_eq_false h]
    exact (beq_eq_false_iff_ne.mpr e).symm
theorem key_rr (a b : Str) : decide ((Sum.inr a : Key) = Sum.inr b) = decide (a = b) := by
  by_cases e : a = b
  · subst e; simp
  · have h : ¬ (Sum.inr a : Key) = Sum.inr b := fun q => e (Sum.inr.inj q)
    rw [decide_eq_false h, decide_eq_false e]
theorem key_lr (a : Int) (b : Str) : decide ((Sum.inl a : Key) = Sum.inr b) = false := decide_eq_false (fun q => nomatch q)
theorem key_rl (a : Str) (b : Int) : decide ((Sum.inr a : Key) = Sum.inl b) = false := decide_eq_false (fun q => nomatch q)

def mixKind (prog : Program) (w : World) : PySem.KeyKind prog w Key where
  is := keyIs
  hash := keyH w
  inj := fun v a b ha hb => by
    rcases keyIs_shape ha with ⟨i, t, rfl, rfl⟩ | ⟨x, t, rfl, rfl⟩
    · rcases keyIs_shape hb with ⟨j, u, rfl, e⟩ | ⟨y, u, rfl, e⟩
      · injection e with e1 _; rw [e1]
      · exact nomatch e
    · rcases keyIs_shape hb with ⟨j, u, rfl, e⟩ | ⟨y, u, rfl, e⟩
      · exact nomatch e
      · injection e with e1 _; rw [e1]
  byValue := fun k v h => by
    rcases keyIs_shape h with ⟨i, t, rfl, rfl⟩ | ⟨x, t, rfl, rfl⟩ <;> rfl
  pyHash := fun hv h => by
    rcases keyIs_shape hv with ⟨i, t, rfl, rfl⟩ | ⟨x, t, rfl, rfl⟩
    · exact wpAny_pyHash_int h
    · exact wpAny_pyHash_str h
  eqBool := fun hu hv h => by
    rcases keyIs_shape hu with ⟨i, t, rfl, rfl⟩ | ⟨x, t, rfl, rfl⟩
    · rcases keyIs_shape hv with ⟨j, u, rfl, rfl⟩ | ⟨y, u, rfl, rfl⟩
      · rw [key_ll] at h; exact wpAny_eqBool_int h
      · rw [key_lr] at h; exact SeqAt.EqAt.int_str i t y u _ _ _ _ h
    · rcases keyIs_shape hv with ⟨j, u, rfl, rfl⟩ | ⟨y, u, rfl, rfl⟩
      · rw [key_rl] at h; exact SeqAt.EqAt.str_int x t j u _ _ _ _ h
      · rw [key_rr] at h; exact wpAny_eqBool_str h
  «strs» := fun k x t v h => by
    rcases keyIs_shape h with ⟨i, u, rfl, e⟩ | ⟨y, u, rfl, e⟩
    · exact nomatch e
    · injection e with e1 _
      subst e1
      cases v <;> rfl

end L2

namespace L2
open PySem PySem.Spec PyProof.Rows

/-- a value, without the heap -/
inductive V where
  | non | bl (b : Bool) | int (i : Int) | str (x : Str) | byt (b : Array UInt8) | flt (b : UInt64) | ref (a : Addr) | ty (n : String)
  deriving DecidableEq

def RelV : V → Value → Prop
  | .non, u => u = Value.none
  | .bl b, u => u = Value.bool b
  | .int i, u => ∃ t, u = Value.int i t
  | .str x, u => ∃ t, u = Value.str x t
  | .byt b, u => ∃ t, u = Value.bytes b t
  | .flt b, u => ∃ t, u = Value.float b t
  | .ref a, u => u = Value.ref a
  | .ty n, u => u = Value.type n

abbrev Vals : List V → List Value → Prop := Paired RelV
theorem Vals.length {xs : List V} {us : List Value} (r : Vals xs us) : xs.length = us.length := Paired.length r
theorem Vals.get : ∀ {xs : List V} {us : List Value} {i : Nat} {x : V}, Vals xs us → xs[i]? = some x → ∃ u, us[i]? = some u ∧ RelV x u
  | _, _, _, _, .nil, e => by simp at e
  | _, _, 0, _, .cons r _, e => by simp at e; subst e; exact ⟨_, rfl, r⟩
  | _, _, i + 1, x, .cons _ t, e => by
    obtain ⟨u, h1, h2⟩ := Vals.get (i := i) (x := x) t (by simpa using e)
    exact ⟨u, by simpa using h1, h2⟩
theorem Vals.set {x : V} {u : Value} (r : RelV x u) : ∀ {xs : List V} {us : List Value} (i : Nat), Vals xs us → Vals (xs.set i x) (us.set i u)
  | _, _, _, .nil => .nil
  | _, _, 0, .cons _ t => .cons r t
  | _, _, i + 1, .cons q t => .cons q (Vals.set r i t)
theorem Vals.append : ∀ {xs ys : List V} {us ws : List Value}, Vals xs us → Vals ys ws → Vals (xs ++ ys) (us ++ ws)
  | _, _, _, _, .nil, s => s
  | _, _, _, _, .cons r t, s => .cons r (Vals.append t s)
theorem Vals.take : ∀ {xs : List V} {us : List Value} (n : Nat), Vals xs us → Vals (xs.take n) (us.take n)
  | _, _, 0, _ => .nil
  | _, _, _ + 1, .nil => .nil
  | _, _, n + 1, .cons r t => .cons r (Vals.take n t)
theorem Vals.drop : ∀ {xs : List V} {us : List Value} (n : Nat), Vals xs us → Vals (xs.drop n) (us.drop n)
  | _, _, 0, r => r
  | _, _, _ + 1, .nil => .nil
  | _, _, n + 1, .cons _ t => Vals.drop n t
theorem Vals.none_of : ∀ {xs : List V} {us : List Value} {i : Nat}, Vals xs us → xs[i]? = none → us[i]? = none := fun {xs us i} r e => by
  have h1 := r.length
  have h2 : xs.length ≤ i := List.getElem?_eq_none_iff.mp e
  exact List.getElem?_eq_none_iff.mpr (by omega)

def RelO : Option V → Option Value → Prop
  | some v, some u => RelV v u
  | none, none => True
  | _, _ => False
def KV {κ : Type} : List (κ × V) → List (κ × Value) → Prop := Paired fun (p : κ × V) (q : κ × Value) => p.1 = q.1 ∧ RelV p.2 q.2

/-- a key of a dict (00_mix): an int or a text -/
def kV : Key → V
  | .inl i => .int i
  | .inr x => .str x

/-- what stands at a tracked address -/
inductive HO where
  /-- a list -/
  | lst (xs : List V)
  /-- a tuple (never changes) -/
  | tup (xs : List V)
  /-- a dict whose keys are ints and texts; one whose keys are tuples of ints and texts (the empty one is both) -/
  | dK (kvs : List (Key × V)) | dT (kvs : List (List Key × V))
  /-- a set of ints: its members, its size -/
  | set (S : Int → Bool) (n : Nat)
  /-- an instance of the class at C, its dict at dx, its attributes -/
  | ins (C dx : Addr) (fs : List (Str × V))
  /-- the dict of the instance at x -/
  | own (x : Addr)
  /-- the dict of an exception -/
  | xd (fs : List (Str × V))
  /-- a bound method, f of x -/
  | met (f x : Addr)
  /-- a range object lo, lo + 1, .. below hi -/
  | rng (lo hi : Int)
  /-- a thing that is known to the object (the script; a dict while a loop walks it): read, never written while it is so -/
  | frz (o : Obj) (u : HO)
  /-- a code object's table -/
  | tbl (ps : Array Value)
  /-- any other thing, by what is true of its one object (a def of one's own: SetO a S n := HO.ext fun h => ..) -/
  | ext (φ : Heap → Prop)

abbrev Hp := Addr → Option HO
def upd (H : Hp) (a : Addr) (o : HO) : Hp := fun b => if b = a then some o else H b
theorem upd_same {H : Hp} {a : Addr} {o : HO} : upd H a o a = some o := by unfold upd; rw [if_pos rfl]
theorem upd_ne {H : Hp} {a b : Addr} {o : HO} (h : b ≠ a) : upd H a o b = H b := by unfold upd; rw [if_neg h]
/-- two objects of different content stand apart -/
theorem ne_of {H : Hp} {a b : Addr} {o u : HO} (h : H a = some o) (h' : H b = some u) (d : o ≠ u) : a ≠ b := by
  intro e; subst e; rw [h] at h'; exact d (Option.some.inj h')
theorem ne_of_none {H : Hp} {a b : Addr} {o : HO} (h : H a = some o) (h' : H b = none) : a ≠ b := by
  intro e; subst e; rw [h] at h'; cases h'

section
variable (P : Program) (w : World)
def ObjOk (H : Hp) (h : Heap) (a : Addr) : HO → Prop
  | .lst xs => xs.length ≤ sizeLine ∧ ∃ (its : List Value) (n : Nat), Vals xs its ∧ h.get? a = some { cls := .type "list", data := .seq its.toArray n }
  | .tup xs => xs.length ≤ sizeLine ∧ ∃ its : List Value, Vals xs its ∧ IsTup h a its.toArray
  | .dK kvs => kvs.length ≤ sizeLine ∧ (a == sysModules) = false ∧ ∃ vs, KV kvs vs ∧ h.DictOf (mixKind P w) a vs
  | .dT kvs => kvs.length ≤ sizeLine ∧ (a == sysModules) = false ∧ ∃ xs : List (List Key × Addr × Value),
      Paired (fun (p : List Key × V) (q : List Key × Addr × Value) => p.1 = q.1 ∧ H q.2.1 = some (.tup (p.1.map kV)) ∧ RelV p.2 q.2.2) kvs xs ∧
      ∃ o es ep, h.get? a = some o ∧ o.ExactDict ∧ o.data = .dict es ep ∧ es.toList = xs.map (entryOfKey (tupleKind (mixKind P w))) ∧ (xs.map (·.1)).Nodup
  | .set S n => h.SetOf (intKind P w) a S n
  | .ins C dx fs => H dx = some (.own a) ∧ fs.length ≤ 1000 ∧ dx ≠ a ∧ h.get? a = some (PySem.W.instObj C dx) ∧
      ∃ mA, h.Ns1 dx mA ∧ (∀ f, RelO (fs.lookup f) (mA f)) ∧ PySem.Within mA (fs.map (·.1))
  | .own _ => ∃ o, h.get? a = some o
  | .xd fs => ∃ mA, h.Ns1 a mA ∧ ∀ f, RelO (fs.lookup f) (mA f)
  | .rng lo hi => ∃ t u v, h.get? a = some { cls := .type "range", data := .fields #[.int lo t, .int hi u, .int 1 v] }
  | .frz o u => h.get? a = some o ∧ ObjOk H h a u
  | .tbl ps => h.get? a = some { cls := .none, data := .fields ps }
  | .met f x => h.get? a = some (PySem.W.methodObj (.ref f) (.ref x))
  | .ext φ => φ h ∧ (∃ o, h.get? a = some o) ∧ ∀ h1 h2 : Heap, φ h1 → (∀ o, h1.get? a = some o → h2.get? a = some o) → φ h2
/-- the abstract heap is held -/
def HOk (H : Hp) (h : Heap) : Prop := ∀ a o, H a = some o → ObjOk P w H h a o
end

section
variable {P : Program} {w : World} {H H' : Hp} {h h' : Heap} {a : Addr} {o : HO}
theorem ObjOk.lt (x : ObjOk P w H h a o) : a < h.objs.size := by
  cases o with
  | lst xs => obtain ⟨_, _, _, _, e⟩ := x; exact Heap.lt_size e
  | tup xs => obtain ⟨_, _, _, p⟩ := x; exact p.lt
  | dK kvs => obtain ⟨_, _, _, _, o, _, _, e, _⟩ := x; exact Heap.lt_size e
  | dT kvs => obtain ⟨_, _, _, _, o, _, _, e, _⟩ := x; exact Heap.lt_size e
  | set S n => obtain ⟨o, _, _, _, e, _⟩ := x; exact Heap.lt_size e
  | ins C dx fs => obtain ⟨_, _, _, e, _⟩ := x; exact Heap.lt_size e
  | own y => obtain ⟨_, e⟩ := x; exact Heap.lt_size e
  | xd fs => obtain ⟨_, ⟨_, _, _, e, _⟩, _⟩ := x; exact Heap.lt_size e
  | rng lo hi => obtain ⟨_, _, _, e⟩ := x; exact Heap.lt_size e
  | frz ob u => obtain ⟨e, _⟩ := x; exact Heap.lt_size e
  | tbl ps => exact Heap.lt_size (show h.get? a = some _ from x)
  | met f y => exact Heap.lt_size (show h.get? a = some _ from x)
  | ext φ => obtain ⟨_, ⟨_, e⟩, _⟩ := x; exact Heap.lt_size e
theorem Paired.mapP {α β : Type} {F G : α → β → Prop} : ∀ {l₁ : List α} {l₂ : List β}, Paired F l₁ l₂ → (∀ a b, F a b → G a b) → Paired G l₁ l₂
  | _, _, .nil, _ => .nil
  | _, _, .cons r t, f => .cons (f _ _ r) (Paired.mapP t f)
/-- what an object's description leans on: its own object, its own dict, the tuples -/
theorem ObjOk.stay (x : ObjOk P w H h a o) (k : ∀ b u, (b = a ∨ H b = some (.own a)) → h.get? b = some u → h'.get? b = some u)
    (ho : ∀ b, H b = some (.own a) → H' b = some (.own a)) (ht : ∀ b xs, H b = some (.tup xs) → H' b = some (.tup xs)) : ObjOk P w H' h' a o := by
  induction o with
  | lst xs => obtain ⟨z, its, n, r, e⟩ := x; exact ⟨z, its, n, r, k _ _ (.inl rfl) e⟩
  | tup xs => obtain ⟨z, its, r, ob, e, c⟩ := x; exact ⟨z, its, r, ob, k _ _ (.inl rfl) e, c⟩
  | dK kvs => obtain ⟨z, y, vs, r, ob, es, ep, e, c⟩ := x; exact ⟨z, y, vs, r, ob, es, ep, k _ _ (.inl rfl) e, c⟩
  | dT kvs =>
    obtain ⟨z, y, xs, r, ob, es, ep, e, c⟩ := x
    exact ⟨z, y, xs, Paired.mapP r fun p q z => ⟨z.1, ht _ _ z.2.1, z.2.2⟩, ob, es, ep, k _ _ (.inl rfl) e, c⟩
  | set S n => obtain ⟨ob, es, ep, t, e, c⟩ := x; exact ⟨ob, es, ep, t, k _ _ (.inl rfl) e, c⟩
  | ins C dx fs =>
    obtain ⟨d, z, ne, e, mA, ⟨od, es, ep, e2, c⟩, r⟩ := x
    exact ⟨ho _ d, z, ne, k _ _ (.inl rfl) e, mA, ⟨od, es, ep, k _ _ (.inr d) e2, c⟩, r⟩
  | own y => obtain ⟨ob, e⟩ := x; exact ⟨ob, k _ _ (.inl rfl) e⟩
  | xd fs => obtain ⟨mA, ⟨od, es, ep, e, c⟩, r⟩ := x; exact ⟨mA, ⟨od, es, ep, k _ _ (.inl rfl) e, c⟩, r⟩
  | rng lo hi => obtain ⟨t, u, v, e⟩ := x; exact ⟨t, u, v, k _ _ (.inl rfl) e⟩
  | frz ob u ih => obtain ⟨e, q⟩ := x; exact ⟨k _ _ (.inl rfl) e, ih q⟩
  | tbl ps =>
    have e : h.get? a = some { cls := .none, data := .fields ps } := x
    show h'.get? a = some { cls := .none, data := .fields ps }
    exact k a _ (.inl rfl) e
  | met f y =>
    have e : h.get? a = some (PySem.W.methodObj (.ref f) (.ref y)) := x
    show h'.get? a = some (PySem.W.methodObj (.ref f) (.ref y))
    exact k a _ (.inl rfl) e
  | ext φ => obtain ⟨p, ⟨o, e⟩, st⟩ := x; exact ⟨st _ _ p fun o q => k _ _ (.inl rfl) q, ⟨o, k _ _ (.inl rfl) e⟩, st⟩
theorem HOk.lt (x : HOk P w H h) (e : H a = some o) : a < h.objs.size := (x a o e).lt
theorem HOk.fresh (x : HOk P w H h) (e : h.objs.size ≤ a) : H a = none := by
  cases q : H a with
  | none => rfl
  | some u => exact absurd (Nat.lt_of_lt_of_le (x.lt q) e) (Nat.lt_irrefl _)
/-- every object of the heap is kept -/
theorem HOk.kept (x : HOk P w H h) (k : ∀ b u, h.get? b = some u → h'.get? b = some u) : HOk P w H h' := fun a o e =>
  (x a o e).stay (fun b u _ q => k b u q) (fun _ q => q) fun _ _ q => q
/-- a new object is laid and tracked -/
theorem HOk.laid (x : HOk P w H h) (k : ∀ b u, h.get? b = some u → h'.get? b = some u) (hp : h.objs.size ≤ a) (new : ObjOk P w (upd H a o) h' a o) : HOk P w (upd H a o) h' := fun b u e => by
  have hn := x.fresh hp
  by_cases hb : b = a
  · subst hb; rw [upd_same] at e; cases e; exact new
  · rw [upd_ne hb] at e
    exact (x b u e).stay (fun c v _ q => k c v q) (fun c q => by rw [upd_ne (ne_of_none q hn)]; exact q) fun c xs q => by rw [upd_ne (ne_of_none q hn)]; exact q
end

/-- what may be read as u: it is u, or a known u -/
def Rd (H : Hp) (a : Addr) (u : HO) : Prop := H a = some u ∨ ∃ o, H a = some (.frz o u)
theorem Rd.of {H : Hp} {a : Addr} {u : HO} (h : H a = some u) : Rd H a u := .inl h
theorem Rd.ok {P : Program} {w : World} {H : Hp} {h : Heap} {a : Addr} {u : HO} (r : Rd H a u) (x : HOk P w H h) : ObjOk P w H h a u := by
  rcases r with r | ⟨o, r⟩
  · exact x a u r
  · obtain ⟨_, q⟩ := x a _ r
    exact q
/-- what may be written -/
def Mut : Option HO → Prop
  | some (.lst _) => True
  | some (.dK _) => True
  | some (.dT _) => True
  | some (.set _ _) => True
  | some (.ins _ _ _) => True
  | some (.ext _) => True
  | _ => False
section
variable {P : Program} {w : World} {H : Hp} {h h' : Heap} {x e : Addr} {o' : HO}
/-- the object at e is changed: x itself, or the dict of the instance x -/
theorem HOk.write (ok : HOk P w H h) (mu : Mut (H x)) (he : e = x ∨ H e = some (.own x)) (k : ∀ b u, b ≠ e → h.get? b = some u → h'.get? b = some u) (heo : ∃ u, h'.get? e = some u)
    (new : ObjOk P w (upd H x o') h' x o') : HOk P w (upd H x o') h' := fun b u q => by
  have nown : ∀ c y, H c = some (.own y) → c ≠ x := fun c y r z => by subst z; rw [r] at mu; exact mu
  have ntup : ∀ c xs, H c = some (.tup xs) → c ≠ x := fun c xs r z => by subst z; rw [r] at mu; exact mu
  by_cases hb : b = x
  · subst hb; rw [upd_same] at q; cases q; exact new
  · rw [upd_ne hb] at q
    by_cases hbe : b = e
    · have q' : H b = some (.own x) := by
        rcases he with z | z
        · exact absurd (hbe.trans z) hb
        · rw [hbe]; exact z
      rw [q] at q'; cases q'
      obtain ⟨v, hv⟩ := heo
      exact ⟨v, by rw [hbe]; exact hv⟩
    · refine (ok b u q).stay (fun c v hc r => k c v ?_ r) (fun c r => by rw [upd_ne (nown c b r)]; exact r) fun c xs r => by rw [upd_ne (ntup c xs r)]; exact r
      rcases hc with rfl | hc
      · exact hbe
      · rintro rfl
        rcases he with z | z
        · exact nown c b hc z
        · rw [hc] at z; cases z; exact hb rfl
end

/-! ### kept unless tracked; of the frames at fs (the callers') the slots may change (an exception that passes writes there); of the records at ex (iterators) nothing is said -/
structure Un (fs ex : List Addr) (H H' : Hp) (h h' : Heap) : Prop where
  keep : ∀ b o, h.get? b = some o → H b = none → b ∉ fs → b ∉ ex → h'.get? b = some o
  slot : ∀ b o, h.get? b = some o → H b = none → b ∈ fs → b ∉ ex → ∃ sl, h'.get? b = some { o with slots := sl }
  free : ∀ b o, h.get? b = some o → H b = none → b ∉ ex → H' b = none
  there : ∀ b o, h.get? b = some o → b ∉ ex → ∃ o', h'.get? b = some o'
  tups : ∀ b xs, H b = some (.tup xs) → H' b = some (.tup xs)
  frzs : ∀ b o u, H b = some (.frz o u) → H' b = some (.frz o u)
  tbls : ∀ b ps, H b = some (.tbl ps) → ∃ more, H' b = some (.tbl (ps ++ more))
section
variable {fs fs' ex ex' : List Addr} {H H1 H2 : Hp} {h h1 h2 h' : Heap} {a x e : Addr} {o : HO}
theorem Un.any (u : Un fs ex H H1 h h1) {b : Addr} {ob : Obj} (q : h.get? b = some ob) (n : H b = none) (hx : b ∉ ex) : ∃ sl, h1.get? b = some { ob with slots := sl } := by
  by_cases hb : b ∈ fs
  · exact u.slot b ob q n hb hx
  · exact ⟨ob.slots, u.keep b ob q n hb hx⟩
theorem Un.trans (a : Un fs ex H H1 h h1) (b : Un fs ex H1 H2 h1 h2) : Un fs ex H H2 h h2 where
  keep := fun c ob q n hc hx => b.keep c ob (a.keep c ob q n hc hx) (a.free c ob q n hx) hc hx
  slot := fun c ob q n hc hx => by
    obtain ⟨sl, e1⟩ := a.slot c ob q n hc hx
    obtain ⟨sl', e2⟩ := b.slot c _ e1 (a.free c ob q n hx) hc hx
    exact ⟨sl', e2⟩
  free := fun c ob q n hx => by
    obtain ⟨o', e1⟩ := a.there c ob q hx
    exact b.free c o' e1 (a.free c ob q n hx) hx
  there := fun c ob q hx => by
    obtain ⟨o', e1⟩ := a.there c ob q hx
    exact b.there c o' e1 hx
  tups := fun c xs q => b.tups c xs (a.tups c xs q)
  frzs := fun c ob xs q => b.frzs c ob xs (a.frzs c ob xs q)
  tbls := fun c ps q => by
    obtain ⟨m1, e1⟩ := a.tbls c ps q
    obtain ⟨m2, e2⟩ := b.tbls c _ e1
    exact ⟨m1 ++ m2, by rw [e2, Array.append_assoc]⟩
theorem Un.kept (k : ∀ b u, h.get? b = some u → h'.get? b = some u) : Un fs ex H H h h' :=
  ⟨fun b ob q _ _ _ => k b ob q, fun b ob q _ _ _ => ⟨ob.slots, k b ob q⟩, fun _ _ _ n _ => n, fun b ob q _ => ⟨ob, k b ob q⟩, fun _ _ q => q, fun _ _ _ q => q, fun _ ps q => ⟨#[], by rw [q]; simp⟩⟩
theorem Un.refl : Un fs ex H H h h := Un.kept fun _ _ q => q
theorem Un.laid (k : ∀ b u, h.get? b = some u → h'.get? b = some u) (hp : h.objs.size ≤ a) (hn : H a = none) : Un fs ex H (upd H a o) h h' where
  keep := fun b u q _ _ _ => k b u q
  slot := fun b u q _ _ _ => ⟨u.slots, k b u q⟩
  free := fun b u q n _ => by rw [upd_ne (Nat.ne_of_lt (Nat.lt_of_lt_of_le (Heap.lt_size q) hp))]; exact n
  there := fun b u q _ => ⟨u, k b u q⟩
  tups := fun b xs q => by rw [upd_ne (ne_of_none q hn)]; exact q
  frzs := fun b u xs q => by rw [upd_ne (ne_of_none q hn)]; exact q
  tbls := fun b ps q => ⟨#[], by rw [upd_ne (ne_of_none q hn), q]; simp⟩
theorem Un.write (mu : Mut (H x)) (he : e = x ∨ H e = some (.own x)) (k : ∀ b u, b ≠ e → h.get? b = some u → h'.get? b = some u) (heo : ∃ u, h'.get? e = some u) : Un fs ex H (upd H x o) h h' := by
  have hx : ∀ b, H b = none → b ≠ x := fun b n z => by subst z; rw [n] at mu; exact mu
  have hb : ∀ b, H b = none → b ≠ e := fun b n z => by
    subst z
    rcases he with r | r
    · exact hx b n r
    · rw [n] at r; cases r
  have hm : ∀ b u, H b = some u → ¬ Mut (some u) → b ≠ x := fun b u q nm z => by subst z; rw [q] at mu; exact nm mu
  refine ⟨fun b u q n _ _ => k b u (hb b n) q, fun b u q n _ _ => ⟨u.slots, k b u (hb b n) q⟩, fun b u q n _ => by rw [upd_ne (hx b n)]; exact n, fun b u q _ => ?_,
    fun b xs q => by rw [upd_ne (hm b _ q fun z => z)]; exact q, fun b u xs q => by rw [upd_ne (hm b _ q fun z => z)]; exact q, fun b ps q => ⟨#[], by rw [upd_ne (hm b _ q fun z => z), q]; simp⟩⟩
  by_cases hbe : b = e
  · subst hbe; exact heo
  · exact ⟨u, k b u hbe q⟩
theorem Un.mono (u : Un fs ex H H1 h h1) (hs : ∀ b ∈ fs, b ∈ fs') (hx : ∀ b ∈ ex, b ∈ ex') : Un fs' ex' H H1 h h1 :=
  ⟨fun b ob q n hb he => u.keep b ob q n (fun z => hb (hs b z)) fun z => he (hx b z), fun _ _ q n _ he => u.any q n fun z => he (hx _ z), fun b ob q n he => u.free b ob q n fun z => he (hx b z), fun b ob q he => u.there b ob q fun z => he (hx b z), u.tups, u.frzs, u.tbls⟩
end

/-! ### the heap without what is tracked -/
def trk (h : Heap) (H : Hp) : List Addr := (List.range h.objs.size).filter fun a => (H a).isSome
def hidT (h : Heap) (H : Hp) : Heap := PySem.W.hideAll h (trk h H)
theorem hidT_size (h : Heap) (H : Hp) : (hidT h H).objs.size = h.objs.size := PySem.W.hideAll_size _ _
theorem hidT_get {h : Heap} {H : Hp} {b : Addr} {o : Obj} (e : h.get? b = some o) (n : H b = none) : (hidT h H).get? b = some o :=
  PySem.W.hideAll_get _ e fun hm => by
    have q : (H b).isSome = true := (List.mem_filter.mp hm).2
    rw [n] at q; simp at q
theorem of_hidT {h : Heap} {H : Hp} {b : Addr} {o : Obj} (e : (hidT h H).get? b = some o) : h.get? b = some o ∧ H b = none := by
  have e' : h.get? b = some o := PySem.W.of_hideAll (trk h H) e
  refine ⟨e', ?_⟩
  cases q : H b with
  | none => rfl
  | some x =>
    have hm : b ∈ trk h H := List.mem_filter.mpr ⟨List.mem_range.mpr (Heap.lt_size e'), by simp [q]⟩
    have z : (hidT h H).get? b = none := PySem.W.hideAll_none (trk h H) hm
    rw [z] at e; cases e

/-! ### OpenK's ledger, filled with every new object but one -/
def allNews (g h : Heap) (L : Addr) : List (Addr × Obj) := (List.range h.objs.size).filterMap fun a => if a = L ∨ (g.get? a).isSome = true then none else (h.get? a).map fun o => (a, o)
def rest (g h : Heap) (L d : Addr) : List (Addr × Obj) := (allNews g h L).filter fun p => decide (p.1 ≠ d)
end L2

namespace L2
open PySem PySem.Spec PyProof.Rows

/-- the module's facts, over the base: the heap at the law's entry without what is tracked there -/
structure Mod (K : PySem.W.Frag) (mg : Str → Option Value) (base : Heap) : Prop where
  kin : K.In base
  glob : base.Ns mainGlobals mg
  blt : ∃ mb, base.Ns builtinsNs mb ∧ ∀ x : Str, x ≠ "__name__" → mb x = bootBuiltins x
  nolimit : base.NoLimit

/-- the context: a def's body (or a comprehension's block) running. base: fixed through the whole law; s₀, H₀: the entry; outer: the frames whose slots others may change (a def's callers); stack: all frames that run;
   ex: iterators that were made ahead of the entry and are walked here (a comprehension's); fn: the names whose cells were made at the entry (a def: all; a comprehension's block: its own); calm: not within an except suite; pn: pins that every state bears; xe: what is wanted of an exception that leaves the code -/
structure Cx where
  prog : Program
  w : World
  K : PySem.W.Frag
  mg : Str → Option Value
  base : Heap
  A : Around
  N : List Str
  s₀ : Shared
  H₀ : Hp
  env : Env
  outer : List Env
  stack : List Env
  ex : List Addr
  fn : Str → Bool
  calm : Bool
  pn : List (Addr × Obj)
  xe : Value → Shared → Prop
/-- the callers' frames -/
def frs (l : List Env) : List Addr := l.filterMap (·.frame)
abbrev Cx.fs (X : Cx) : List Addr := frs X.outer

def Vis (sc : Scope) (x : Str) : Prop := sc.names.lookup x = some .local ∨ sc.names.lookup x = some .cell ∨ sc.names.lookup x = some .free
def Loc (sc : Scope) (x : Str) : Prop := sc.names.lookup x = some .local ∨ sc.names.lookup x = some .cell
def Look (env : Env) (h : Heap) (m : Str → Option Value) (x : Str) (u : Value) : Prop :=
  (env.kindOf x = some .local ∧ m x = some u) ∨ ((env.kindOf x = some .cell ∨ env.kindOf x = some .free) ∧ ∃ c, env.cells.lookup x = some c ∧ h.IsCell c (some u))

structure Cx.Ok (X : Cx) : Prop where
  mod : Mod X.K X.mg X.base
  kind : X.env.scope.kind = .function
  glob : X.env.globals = mainGlobals
  blt : X.env.builtins = builtinsNs
  above : X.s₀.heap.objs.size ≤ X.env.locals
  inj : ∀ x y c, X.env.cells.lookup x = some c → X.env.cells.lookup y = some c → x = y
  has : ∀ x, (X.env.kindOf x = some .cell ∨ X.env.kindOf x = some .free) → ∃ c, X.env.cells.lookup x = some c
  cab : ∀ x c, X.fn x = true → X.env.cells.lookup x = some c → X.s₀.heap.objs.size ≤ c
  hd : X.calm = true → X.A.handled = none
  frames : X.A.frames = some X.stack
  stk : X.stack = X.outer ∨ (X.stack = X.env :: X.outer ∧ X.env.frame = some X.env.locals)
  exf : ∀ b ∈ X.ex, b ≠ X.env.locals ∧ ∀ x c, X.env.cells.lookup x = some c → c ≠ b
  bs : ∀ b o, X.base.get? b = some o → X.s₀.heap.get? b = some o ∧ X.H₀ b = none
  bsz : X.base.objs.size ≤ X.s₀.heap.objs.size
  noex : ∀ b o, X.base.get? b = some o → b ∉ X.ex
  exfs : ∀ b ∈ X.ex, b ∉ X.fs
  funs : X.s₀.heap.FunFrames X.base X.outer
  frf : ∀ b ∈ X.fs, X.H₀ b = none

structure Inv (X : Cx) (pins : List (Addr × Obj)) (σ : List (Option V)) (H : Hp) (s : Shared) : Prop where
  ok : X.Ok
  os : s.os = X.s₀.os
  bare : AllBare s.gens
  base : Un X.fs X.ex X.H₀ H X.s₀.heap s.heap
  loc : ∃ m, s.heap.Ns X.env.locals m ∧ ∀ (i : Nat) (x : Str) (v : V), X.N[i]? = some x → σ[i]? = some (some v) → Vis X.env.scope x → ∃ u, RelV v u ∧ Look X.env s.heap m x u
  cell : ∀ x c, X.env.cells.lookup x = some c → ∃ v, s.heap.IsCell c v
  free : H X.env.locals = none
  freeC : ∀ x c, X.env.cells.lookup x = some c → H c = none
  pin : ∀ p ∈ X.pn ++ pins, s.heap.get? p.1 = some p.2 ∧ H p.1 = none ∧ p.1 ≠ X.env.locals ∧ p.1 ∉ X.fs ∧ ∀ v, p.2.data ≠ .cell v
  hok : HOk X.prog X.w H s.heap
  len : σ.length = X.N.length

section
variable {X : Cx} {pins : List (Addr × Obj)} {σ : List (Option V)} {H H' : Hp} {s : Shared} {h' : Heap}

theorem Cx.Ok.nofr (ok : X.Ok) {b : Addr} {o : Obj} (e : X.base.get? b = some o) : b ∉ X.fs := fun hb => by
  have := (ok.funs.mem hb).1
  rw [e] at this; cases this
theorem Inv.bs (I : Inv X pins σ H s) : ∀ b o, X.base.get? b = some o → s.heap.get? b = some o ∧ H b = none := fun b o e =>
  ⟨I.base.keep b o (I.ok.bs b o e).1 (I.ok.bs b o e).2 (I.ok.nofr e) (I.ok.noex b o e), I.base.free b o (I.ok.bs b o e).1 (I.ok.bs b o e).2 (I.ok.noex b o e)⟩
theorem Inv.bk (I : Inv X pins σ H s) : ∀ b o, X.base.get? b = some o → s.heap.get? b = some o := fun b o e => (I.bs b o e).1
theorem Inv.mod (I : Inv X pins σ H s) : Mod X.K X.mg X.base := I.ok.mod
theorem Inv.kIn (I : Inv X pins σ H s) : X.K.In s.heap := I.ok.mod.kin.keeps I.bk
theorem Inv.nolimit (I : Inv X pins σ H s) : s.heap.NoLimit := I.ok.mod.nolimit.keeps I.bk
/-- the frame over the base: for OpenK's rules (K.In X.base is I.mod.kin) -/
theorem Inv.fr (I : Inv X pins σ H s) : ∃ m, Fr X.base X.env.locals s.heap m :=
  let ⟨m, hn, _⟩ := I.loc
  ⟨m, hn, I.bk, Nat.le_trans I.ok.bsz I.ok.above⟩
theorem Inv.lt (I : Inv X pins σ H s) : X.env.locals < s.heap.objs.size := let ⟨_, hn, _⟩ := I.loc; hn.lt
theorem Inv.sz (I : Inv X pins σ H s) : X.s₀.heap.objs.size ≤ s.heap.objs.size := Nat.le_trans I.ok.above (Nat.le_of_lt I.lt)
theorem Inv.nofs (I : Inv X pins σ H s) {a : Addr} (h : s.heap.objs.size ≤ a) : a ∉ X.fs := fun hb => by
  obtain ⟨_, o, ho, _⟩ := I.ok.funs.mem hb
  exact absurd (Nat.lt_of_lt_of_le (Heap.lt_size ho) (Nat.le_trans I.sz h)) (Nat.lt_irrefl _)
theorem Inv.cne (I : Inv X pins σ H s) : ∀ x c, X.env.cells.lookup x = some c → c ≠ X.env.locals := fun x c e z => by
  obtain ⟨v, o, ho, hd⟩ := I.cell x c e
  obtain ⟨m, ⟨o', es, ep, ho', hd', _⟩, _⟩ := I.loc
  rw [z, ho'] at ho; cases ho; rw [hd'] at hd; cases hd
theorem Inv.funs (I : Inv X pins σ H s) : s.heap.FunFrames X.base X.outer := by
  have all : ∀ (l : List Env), (∀ b ∈ frs l, b ∈ X.fs) → X.s₀.heap.FunFrames X.base l → s.heap.FunFrames X.base l := by
    intro l
    induction l with
    | nil => intro _ _; trivial
    | cons env r ih =>
      intro hs hl
      obtain ⟨hk, ⟨L, o, hf, hn, ho, hd⟩, hr⟩ := hl
      have hL : L ∈ X.fs := hs L (by unfold frs; rw [List.filterMap_cons, hf]; exact List.mem_cons_self)
      obtain ⟨sl, e⟩ := I.base.slot L o ho (I.ok.frf L hL) hL fun z => I.ok.exfs L z hL
      exact ⟨hk, ⟨L, _, hf, hn, e, hd⟩, ih (fun b hb => hs b (by unfold frs; rw [List.filterMap_cons, hf]; exact List.mem_cons_of_mem _ hb)) hr⟩
  exact all X.outer (fun _ hb => hb) I.ok.funs

/-- the frames that run, for a call -/
theorem Inv.stack (I : Inv X pins σ H s) : s.heap.FunFrames X.base X.stack := by
  rcases I.ok.stk with e | ⟨e, hf⟩
  · rw [e]; exact I.funs
  · rw [e]
    obtain ⟨m, hn, _⟩ := I.loc
    refine .cons (by rw [I.ok.kind]; decide) hf hn ?_ I.funs
    exact Heap.get?_none_of_le (Nat.le_trans I.ok.bsz I.ok.above)
theorem Inv.stkSub (I : Inv X pins σ H s) : ∀ b ∈ frs X.stack, b ∈ X.env.locals :: X.fs := fun b hb => by
  rcases I.ok.stk with e | ⟨e, hf⟩
  · rw [e] at hb; exact List.mem_cons_of_mem _ hb
  · rw [e] at hb
    unfold frs at hb
    rw [List.filterMap_cons, hf] at hb
    exact hb
theorem Inv.stkFree (I : Inv X pins σ H s) : ∀ b ∈ frs X.stack, H b = none := fun b hb => by
  rcases List.mem_cons.mp (I.stkSub b hb) with e | hb
  · rw [e]; exact I.free
  · obtain ⟨_, o, ho, _⟩ := I.ok.funs.mem hb
    exact I.base.free b o ho (I.ok.frf b hb) fun z => I.ok.exfs b z hb

/-- THE STEP: the untracked objects but the frame and the records at ch are kept (the callers' frames up to slots), the frame's map is kept, the new abstract heap is held -/
theorem Inv.step {g' : Array GenState} {t' : Nat} {d' : Drawn} {ch : List Addr} (I : Inv X pins σ H s)
    (hch : ∀ b ∈ ch, (b ∈ X.ex ∨ X.s₀.heap.objs.size ≤ b) ∧ b ≠ X.env.locals ∧ (∀ x c, X.env.cells.lookup x = some c → c ≠ b) ∧ ∀ p ∈ X.pn ++ pins, p.1 ≠ b)
    (keep : ∀ b o, b ≠ X.env.locals → b ∉ X.fs → b ∉ ch → s.heap.get? b = some o → H b = none → h'.get? b = some o)
    (slot : ∀ b o, b ≠ X.env.locals → b ∈ X.fs → b ∉ ch → s.heap.get? b = some o → H b = none → ∃ sl, h'.get? b = some { o with slots := sl }) (free : ∀ b o, b ∉ ch → s.heap.get? b = some o → H b = none → H' b = none)
    (there : ∀ b o, b ∉ ch → s.heap.get? b = some o → ∃ o', h'.get? b = some o')
    (tups : ∀ b xs, H b = some (.tup xs) → H' b = some (.tup xs)) (frzs : ∀ b o u, H b = some (.frz o u) → H' b = some (.frz o u)) (tbls : ∀ b ps, H b = some (.tbl ps) → ∃ more, H' b = some (.tbl (ps ++ more)))
    (ns : ∀ m, s.heap.Ns X.env.locals m → h'.Ns X.env.locals m) (hok : HOk X.prog X.w H' h') (hg : AllBare g') :
    Inv X pins σ H' { s with heap := h', gens := g', drawn := d', toks := t' } := by
  have neL : ∀ b o, X.s₀.heap.get? b = some o → b ≠ X.env.locals := fun b o e => Nat.ne_of_lt (Nat.lt_of_lt_of_le (Heap.lt_size e) I.ok.above)
  have neC : ∀ b o, X.s₀.heap.get? b = some o → b ∉ X.ex → b ∉ ch := fun b o e hx hb => by
    rcases (hch b hb).1 with z | z
    · exact hx z
    · exact absurd (Nat.lt_of_lt_of_le (Heap.lt_size e) z) (Nat.lt_irrefl _)
  have cellK : ∀ x c, X.env.cells.lookup x = some c → ∀ v, s.heap.IsCell c v → h'.IsCell c v := fun x c e v ⟨o, ho, hd⟩ => by
    have nch : c ∉ ch := fun z => (hch c z).2.2.1 x c e rfl
    by_cases hc : c ∈ X.fs
    · obtain ⟨sl, q⟩ := slot c o (I.cne x c e) hc nch ho (I.freeC x c e)
      exact ⟨_, q, hd⟩
    · exact ⟨o, keep c o (I.cne x c e) hc nch ho (I.freeC x c e), hd⟩
  refine ⟨I.ok, I.os, hg, ⟨fun b o e n hb hx => ?_, fun b o e n hb hx => ?_, fun b o e n hx => ?_, fun b o e hx => ?_, fun b xs e => tups b xs (I.base.tups b xs e), fun b o xs e => frzs b o xs (I.base.frzs b o xs e), fun b ps e => ?_⟩, ?_, fun x c e => ?_, ?_, fun x c e => ?_, fun p hp => ?_, hok, I.len⟩
  · exact keep b o (neL b o e) hb (neC b o e hx) (I.base.keep b o e n hb hx) (I.base.free b o e n hx)
  · obtain ⟨sl, e1⟩ := I.base.slot b o e n hb hx
    obtain ⟨sl', e2⟩ := slot b _ (neL b o e) hb (neC b o e hx) e1 (I.base.free b o e n hx)
    exact ⟨sl', e2⟩
  · obtain ⟨o', e1⟩ := I.base.there b o e hx
    exact free b o' (neC b o e hx) e1 (I.base.free b o e n hx)
  · obtain ⟨o', e1⟩ := I.base.there b o e hx
    exact there b o' (neC b o e hx) e1
  · obtain ⟨m1, e1⟩ := I.base.tbls b ps e
    obtain ⟨m2, e2⟩ := tbls b _ e1
    exact ⟨m1 ++ m2, by rw [e2, Array.append_assoc]⟩
  · obtain ⟨m, hn, hl⟩ := I.loc
    refine ⟨m, ns m hn, fun i x v e1 e2 e3 => ?_⟩
    obtain ⟨u, r, l⟩ := hl i x v e1 e2 e3
    refine ⟨u, r, ?_⟩
    rcases l with l | ⟨k, c, e, z⟩
    · exact .inl l
    · exact .inr ⟨k, c, e, cellK x c e _ z⟩
  · obtain ⟨v, z⟩ := I.cell x c e
    exact ⟨v, cellK x c e v z⟩
  · obtain ⟨m, ⟨o, _, _, ho, _⟩, _⟩ := I.loc
    exact free _ o (fun z => (hch _ z).2.1 rfl) ho I.free
  · obtain ⟨v, o, ho, hd⟩ := I.cell x c e
    exact free c o (fun z => (hch c z).2.2.1 x c e rfl) ho (I.freeC x c e)
  · obtain ⟨e, n, ne, nf, d⟩ := I.pin p hp
    have nch : p.1 ∉ ch := fun z => (hch p.1 z).2.2.2 p hp rfl
    exact ⟨keep p.1 p.2 ne nf nch e n, free p.1 p.2 nch e n, ne, nf, d⟩
/-- .. where the frame's own object is kept too -/
theorem Inv.un {t' : Nat} (I : Inv X pins σ H s) (u : Un X.fs [] H H' s.heap h') (hok : HOk X.prog X.w H' h') : Inv X pins σ H' { s with heap := h', toks := t' } := by
  obtain ⟨m, ⟨o, es, ep, ho, r⟩, _⟩ := id I.loc
  obtain ⟨sl, hL⟩ := u.any ho I.free (by simp)
  exact I.step (g' := s.gens) (d' := s.drawn) (ch := []) (fun _ z => nomatch z) (fun b o _ hb _ e n => u.keep b o e n hb (by simp)) (fun b o _ hb _ e n => u.slot b o e n hb (by simp)) (fun b o _ e n => u.free b o e n (by simp)) (fun b o _ e => u.there b o e (by simp)) u.tups u.frzs u.tbls (fun m' hm => by
    obtain ⟨o', es', ep', ho', r'⟩ := hm
    rw [ho] at ho'; cases ho'
    exact ⟨_, es', ep', hL, r'⟩) hok I.bare
/-- behind a call (or a comprehension's block): the slots of this frame may have changed too, the records at ch may have turned -/
theorem Inv.call {g' : Array GenState} {t' : Nat} {d' : Drawn} {ch : List Addr} (I : Inv X pins σ H s) (u : Un (frs X.stack) ch H H' s.heap h') (hok : HOk X.prog X.w H' h') (hg : AllBare g')
    (hch : ∀ b ∈ ch, (b ∈ X.ex ∨ X.s₀.heap.objs.size ≤ b) ∧ b ≠ X.env.locals ∧ (∀ x c, X.env.cells.lookup x = some c → c ≠ b) ∧ ∀ p ∈ X.pn ++ pins, p.1 ≠ b) :
    Inv X pins σ H' { s with heap := h', gens := g', drawn := d', toks := t' } := by
  obtain ⟨m, ⟨o, es, ep, ho, r⟩, _⟩ := id I.loc
  obtain ⟨sl, hL⟩ := u.any ho I.free fun z => (hch _ z).2.1 rfl
  exact I.step (ch := ch) hch (fun b o hL hb hc e n => u.keep b o e n (fun z => (List.mem_cons.mp (I.stkSub b z)).elim hL hb) hc) (fun b o _ _ hc e n => u.any e n hc) (fun b o hc e n => u.free b o e n hc) (fun b o hc e => u.there b o e hc) u.tups u.frzs u.tbls (fun m' hm => by
    obtain ⟨o', es', ep', ho', r'⟩ := hm
    rw [ho] at ho'; cases ho'
    exact ⟨_, es', ep', hL, r'⟩) hok hg
/-- an untracked record of ours (an iterator) has turned -/
theorem Inv.turned {t' : Nat} {it : Addr} (I : Inv X pins σ H s) (k : ∀ b o, b ≠ it → s.heap.get? b = some o → h'.get? b = some o) (hn : H it = none) (hL : it ≠ X.env.locals)
    (h1 : it ∈ X.ex ∨ X.s₀.heap.objs.size ≤ it) (h2 : ∀ x c, X.env.cells.lookup x = some c → c ≠ it) (h3 : ∀ p ∈ X.pn ++ pins, p.1 ≠ it) : Inv X pins σ H { s with heap := h', toks := t' } := by
  have nit : ∀ b u, H b = some u → b ≠ it := fun b u e z => by rw [z, hn] at e; cases e
  refine I.step (g' := s.gens) (d' := s.drawn) (ch := [it]) (fun b hb => ?_) (fun b o _ _ hc e _ => k b o (fun z => hc (by simp [z])) e) (fun b o _ _ hc e _ => ⟨o.slots, k b o (fun z => hc (by simp [z])) e⟩) (fun _ _ _ _ n => n)
    (fun b o hc e => ⟨o, k b o (fun z => hc (by simp [z])) e⟩) (fun _ _ e => e) (fun _ _ _ e => e) (fun b ps e => ⟨#[], by rw [e]; simp⟩) (fun m hm => ?_) (fun b u e => ?_) I.bare
  · have e : b = it := by simpa using hb
    subst e
    exact ⟨h1, hL, h2, h3⟩
  · obtain ⟨o, es, ep, ho, r⟩ := hm
    exact ⟨o, es, ep, k _ o (Ne.symm hL) ho, r⟩
  · refine (I.hok b u e).stay (fun c v hc q => k c v ?_ q) (fun _ q => q) fun _ _ q => q
    rcases hc with z | z
    · rw [z]; exact nit b u e
    · exact nit c _ z
theorem Inv.tok (I : Inv X pins σ H s) (t : Nat) : Inv X pins σ H { s with toks := t } := I.un (h' := s.heap) (t' := t) Un.refl I.hok
/-- all objects kept -/
theorem Inv.kept {t' : Nat} (I : Inv X pins σ H s) (k : ∀ b u, s.heap.get? b = some u → h'.get? b = some u) : Inv X pins σ H { s with heap := h', toks := t' } := I.un (Un.kept k) (I.hok.kept k)
/-- a new object laid and tracked -/
theorem Inv.laid {a : Addr} {o : HO} {t' : Nat} (I : Inv X pins σ H s) (k : ∀ b u, s.heap.get? b = some u → h'.get? b = some u) (hp : s.heap.objs.size ≤ a) (new : ObjOk X.prog X.w (upd H a o) h' a o) :
    Inv X pins σ (upd H a o) { s with heap := h', toks := t' } := I.un (Un.laid k hp (I.hok.fresh hp)) (I.hok.laid k hp new)
/-- an object written -/
theorem Inv.write {x e : Addr} {o : HO} {t' : Nat} (I : Inv X pins σ H s) (mu : Mut (H x)) (he : e = x ∨ H e = some (.own x)) (k : ∀ b u, b ≠ e → s.heap.get? b = some u → h'.get? b = some u) (heo : ∃ u, h'.get? e = some u)
    (new : ObjOk X.prog X.w (upd H x o) h' x o) : Inv X pins σ (upd H x o) { s with heap := h', toks := t' } := I.un (Un.write mu he k heo) (I.hok.write mu he k heo new)
theorem Inv.pins_of {pins' : List (Addr × Obj)} (I : Inv X pins σ H s) (h : ∀ p ∈ pins', s.heap.get? p.1 = some p.2 ∧ H p.1 = none ∧ p.1 ≠ X.env.locals ∧ p.1 ∉ X.fs ∧ ∀ v, p.2.data ≠ .cell v) : Inv X pins' σ H s :=
  ⟨I.ok, I.os, I.bare, I.base, I.loc, I.cell, I.free, I.freeC, fun p hp => (List.mem_append.mp hp).elim (fun z => I.pin p (List.mem_append_left _ z)) (h p), I.hok, I.len⟩

theorem nodup_ix {N : List Str} (hN : N.Nodup) {i j : Nat} {x : Str} (a : N[i]? = some x) (b : N[j]? = some x) : i = j := by
  obtain ⟨h1, e1⟩ := List.getElem?_eq_some_iff.mp a
  obtain ⟨h2, e2⟩ := List.getElem?_eq_some_iff.mp b
  exact (List.getElem_inj hN).mp (e1.trans e2.symm)

/-- a name is stored; what changed -/
theorem store_ok2 {M : Model} {A : Around} {E : Value → Shared → Prop} {i : Nat} {x : Str} {v : V} {u : Value} {Q : Unit → Shared → Prop} (I : Inv X pins σ H s) (hN : X.N.Nodup) (hi : X.N[i]? = some x) (hx : Loc X.env.scope x) (r : RelV v u)
    (h : ∀ s', Inv X pins (σ.set i (some v)) H s' → (∃ a, Heap.SameBut a s.heap s'.heap ∧ (a = X.env.locals ∨ X.env.cells.lookup x = some a)) → Q () s') (hf : X.fn x = true ∨ X.env.scope.names.lookup x = some .local := by first | exact .inl rfl | exact .inr rfl | assumption) : wpAny M A (storeName X.env x u) Q E s := by
  obtain ⟨m, hn, hl⟩ := id I.loc
  have hcls : (X.env.scope.kind == .class || (X.env.scope.kind == .module && X.env.locals != X.env.globals)) = false := by rw [I.ok.kind]; rfl
  have hiσ : i < σ.length := by rw [I.len]; exact (List.getElem?_eq_some_iff.mp hi).1
  have cne := I.cne
  have tracked : ∀ {a : Addr} {h' : Heap}, (∃ o, s.heap.get? a = some o ∧ H a = none) → Heap.SameBut a s.heap h' → HOk X.prog X.w H h' := fun {a h'} ha hs b ob e => by
    obtain ⟨_, _, hfree⟩ := ha
    refine (I.hok b ob e).stay (fun c w' hc q => (hs.2 c ?_).trans q) (fun _ q => q) fun _ _ q => q
    rintro rfl
    rcases hc with rfl | hc
    · rw [hfree] at e; cases e
    · rw [hfree] at hc; cases hc
  rcases hx with hk | hk
  · refine wpAny_storeName_local hk hn (fun h' hn' hs => ?_) hcls
    obtain ⟨oL, _, _, hoL, _⟩ := id hn
    refine h _ ⟨I.ok, I.os, I.bare, ⟨fun b o e n hb hx => ?_, fun b o e n hb hx => ?_, I.base.free, fun b o e hx => ?_, I.base.tups, I.base.frzs, I.base.tbls⟩, ⟨_, hn', fun j y v' e1 e2 e3 => ?_⟩, fun y c e => ?_, I.free, I.freeC, fun p hp => ?_, tracked ⟨oL, hoL, I.free⟩ hs, by simpa using I.len⟩ ⟨_, hs, .inl rfl⟩
    · exact (hs.2 b (Nat.ne_of_lt (Nat.lt_of_lt_of_le (Heap.lt_size e) I.ok.above))).trans (I.base.keep b o e n hb hx)
    · obtain ⟨sl, e1⟩ := I.base.slot b o e n hb hx
      exact ⟨sl, (hs.2 b (Nat.ne_of_lt (Nat.lt_of_lt_of_le (Heap.lt_size e) I.ok.above))).trans e1⟩
    · obtain ⟨o', e1⟩ := I.base.there b o e hx
      exact ⟨o', (hs.2 b (Nat.ne_of_lt (Nat.lt_of_lt_of_le (Heap.lt_size e) I.ok.above))).trans e1⟩
    · by_cases hj : j = i
      · subst hj
        rw [hi] at e1; cases e1
        rw [List.getElem?_set_self hiσ] at e2
        cases e2
        exact ⟨u, r, .inl ⟨hk, by simp⟩⟩
      · rw [List.getElem?_set_ne (Ne.symm hj)] at e2
        obtain ⟨u', r', q⟩ := hl j y v' e1 e2 e3
        refine ⟨u', r', ?_⟩
        rcases q with ⟨k, e⟩ | ⟨k, c, e, z⟩
        · refine .inl ⟨k, ?_⟩
          have : y ≠ x := fun e => hj (nodup_ix hN e1 (e ▸ hi))
          simp [this, e]
        · exact .inr ⟨k, c, e, z.sameBut hs (cne y c e)⟩
    · obtain ⟨w', z⟩ := I.cell y c e
      exact ⟨w', z.sameBut hs (cne y c e)⟩
    · obtain ⟨e, n, ne, nf, d⟩ := I.pin p hp
      exact ⟨(hs.2 p.1 ne).trans e, n, ne, nf, d⟩
  · have hfn : X.fn x = true := by
      rcases hf with z | z
      · exact z
      · rw [z] at hk; cases hk
    obtain ⟨c, hc⟩ := I.ok.has x (.inl hk)
    obtain ⟨w', z⟩ := I.cell x c hc
    refine wpAny_storeName_cell I.ok.kind hk hc z (fun h' hc' hs => ?_)
    obtain ⟨oc, hoc, hocd⟩ := id z
    refine h { s with heap := h' } ⟨I.ok, I.os, I.bare, ⟨fun b o e n hb hx => ?_, fun b o e n hb hx => ?_, I.base.free, fun b o e hx => ?_, I.base.tups, I.base.frzs, I.base.tbls⟩, ⟨m, hn.sameBut hs (Ne.symm (cne x c hc)), fun j y v' e1 e2 e3 => ?_⟩, fun y c' e => ?_, I.free, I.freeC, fun p hp => ?_, tracked ⟨oc, hoc, I.freeC x c hc⟩ hs, by simpa using I.len⟩ ⟨c, hs, .inr hc⟩
    · exact (hs.2 b (Nat.ne_of_lt (Nat.lt_of_lt_of_le (Heap.lt_size e) (I.ok.cab x c hfn hc)))).trans (I.base.keep b o e n hb hx)
    · obtain ⟨sl, e1⟩ := I.base.slot b o e n hb hx
      exact ⟨sl, (hs.2 b (Nat.ne_of_lt (Nat.lt_of_lt_of_le (Heap.lt_size e) (I.ok.cab x c hfn hc)))).trans e1⟩
    · obtain ⟨o', e1⟩ := I.base.there b o e hx
      exact ⟨o', (hs.2 b (Nat.ne_of_lt (Nat.lt_of_lt_of_le (Heap.lt_size e) (I.ok.cab x c hfn hc)))).trans e1⟩
    · by_cases hj : j = i
      · subst hj
        rw [hi] at e1; cases e1
        rw [List.getElem?_set_self hiσ] at e2
        cases e2
        exact ⟨u, r, .inr ⟨.inl hk, c, hc, hc'⟩⟩
      · rw [List.getElem?_set_ne (Ne.symm hj)] at e2
        obtain ⟨u', r', q⟩ := hl j y v' e1 e2 e3
        refine ⟨u', r', ?_⟩
        rcases q with q | ⟨k, c', e, z'⟩
        · exact .inl q
        · refine .inr ⟨k, c', e, z'.sameBut hs ?_⟩
          rintro rfl
          exact hj (nodup_ix hN e1 (I.ok.inj _ _ _ e hc ▸ hi))
    · by_cases hcc : c' = c
      · subst hcc; exact ⟨_, hc'⟩
      · obtain ⟨w2, z2⟩ := I.cell y c' e
        exact ⟨w2, z2.sameBut hs hcc⟩
    · obtain ⟨e, n, ne, nf, d⟩ := I.pin p hp
      refine ⟨(hs.2 p.1 ?_).trans e, n, ne, nf, d⟩
      intro q
      rw [q, hoc] at e
      have q' : oc = p.2 := Option.some.inj e
      exact d w' (by rw [← q']; exact hocd)
theorem store_ok {M : Model} {A : Around} {E : Value → Shared → Prop} {i : Nat} {x : Str} {v : V} {u : Value} {Q : Unit → Shared → Prop} (I : Inv X pins σ H s) (hN : X.N.Nodup) (hi : X.N[i]? = some x) (hx : Loc X.env.scope x) (r : RelV v u)
    (h : ∀ s', Inv X pins (σ.set i (some v)) H s' → Q () s') (hf : X.fn x = true ∨ X.env.scope.names.lookup x = some .local := by first | exact .inl rfl | exact .inr rfl | assumption) : wpAny M A (storeName X.env x u) Q E s :=
  store_ok2 I hN hi hx r (fun s' I' _ => h s' I') hf
/-- behind a call or a block, the state as it is -/
theorem Inv.call' {s' : Shared} {ch : List Addr} (I : Inv X pins σ H s) (ho : s'.os = s.os) (u : Un (frs X.stack) ch H H' s.heap s'.heap) (hok : HOk X.prog X.w H' s'.heap) (hg : AllBare s'.gens)
    (hch : ∀ b ∈ ch, (b ∈ X.ex ∨ X.s₀.heap.objs.size ≤ b) ∧ b ≠ X.env.locals ∧ (∀ x c, X.env.cells.lookup x = some c → c ≠ b) ∧ ∀ p ∈ X.pn ++ pins, p.1 ≠ b) : Inv X pins σ H' s' := by
  obtain ⟨h', g', d', t', o'⟩ := s'
  have e : o' = s.os := ho
  subst e
  exact I.call (g' := g') (t' := t') (d' := d') u hok hg hch
end

/-! ### the judgements -/
/-- an exception: its class, its own dict's address (where it has one), the abstract heap behind it -/
abbrev XK := Value → Option Addr → Hp → Prop
abbrev St := List (Option V)
abbrev VK := V → Hp → Prop
/-- an expression's reading; a test's; an argument list's -/
abbrev TE := St → Hp → VK → Prop
abbrev TT := St → Hp → (Bool → Hp → Prop) → Prop
abbrev TA := St → Hp → (List V → Hp → Prop) → Prop
/-- what is wanted behind a statement -/
structure Ends where
  nx : St → Hp → Prop
  rt : VK
  bk : St → Hp → Prop := fun _ _ => False
  ct : St → Hp → Prop := fun _ _ => False
abbrev TS := Ends → St → Hp → Prop

def EP (X : Cx) (pins : List (Addr × Obj)) (σ : St) (Q : VK) (u : Value) (s' : Shared) : Prop := ∃ v H', Inv X pins σ H' s' ∧ RelV v u ∧ Q v H'
def TP (X : Cx) (pins : List (Addr × Obj)) (σ : St) (Q : Bool → Hp → Prop) (b : Bool) (s' : Shared) : Prop := ∃ H', Inv X pins σ H' s' ∧ Q b H'
def AP (X : Cx) (pins : List (Addr × Obj)) (σ : St) (Q : List V → Hp → Prop) (us : List Value) (s' : Shared) : Prop := ∃ vs H', Inv X pins σ H' s' ∧ Vals vs us ∧ Q vs H'
def SP (X : Cx) (pins : List (Addr × Obj)) (D : Ends) (f : Flow) (s' : Shared) : Prop :=
  match f with
  | .next => ∃ σ' H', Inv X pins σ' H' s' ∧ D.nx σ' H'
  | .brk => ∃ σ' H', Inv X pins σ' H' s' ∧ D.bk σ' H'
  | .cont => ∃ σ' H', Inv X pins σ' H' s' ∧ D.ct σ' H'
  | .ret u => ∃ v σ' H', Inv X pins σ' H' s' ∧ RelV v u ∧ D.rt v H'

def PE (X : Cx) (e : Expr) (t : TE) : Prop :=
  ∀ (pins : List (Addr × Obj)) (s : Shared) (σ : St) (H : Hp) (Q : VK), Inv X pins σ H s → t σ H Q → wpAny (model X.prog X.w) X.A (eval e X.env) (EP X pins σ Q) X.xe s
def PT (X : Cx) (e : Expr) (t : TT) : Prop :=
  ∀ (pins : List (Addr × Obj)) (s : Shared) (σ : St) (H : Hp) (Q : Bool → Hp → Prop), Inv X pins σ H s → t σ H Q → wpAny (model X.prog X.w) X.A (isTrue e X.env (eval e X.env)) (TP X pins σ Q) X.xe s
/-- a test whatever its 'whole' is (and, or) -/
def PW (X : Cx) (e : Expr) (t : TT) : Prop :=
  ∀ (whole : Sem Value) (pins : List (Addr × Obj)) (s : Shared) (σ : St) (H : Hp) (Q : Bool → Hp → Prop), Inv X pins σ H s → t σ H Q → wpAny (model X.prog X.w) X.A (isTrue e X.env whole) (TP X pins σ Q) X.xe s
theorem PW.pt {X : Cx} {e : Expr} {t : TT} (h : PW X e t) : PT X e t := h _
/-- an argument list (no star), from the left -/
def PA (X : Cx) (es : List Expr) (t : TA) : Prop :=
  ∀ (pos : Pos) (pins : List (Addr × Obj)) (s : Shared) (σ : St) (H : Hp) (Q : List V → Hp → Prop), Inv X pins σ H s → t σ H Q → wpAny (model X.prog X.w) X.A (spliced (backTo pos (starEach es X.env))) (AP X pins σ Q) X.xe s
def PS (X : Cx) (st : Stmt) (t : TS) : Prop :=
  ∀ (pins : List (Addr × Obj)) (s : Shared) (σ : St) (H : Hp) (D : Ends), Inv X pins σ H s → t D σ H → wpAny (model X.prog X.w) X.A (exec st X.env) (SP X pins D) X.xe s
def PSs (X : Cx) (st : List Stmt) (t : TS) : Prop :=
  ∀ (pins : List (Addr × Obj)) (s : Shared) (σ : St) (H : Hp) (D : Ends), Inv X pins σ H s → t D σ H → wpAny (model X.prog X.w) X.A (execs st X.env) (SP X pins D) X.xe s
/-- weaken the end -/
theorem thn {α : Type} {t : Sem α} {Q Q' : α → Shared → Prop} {M : Model} {A : Around} {E : Value → Shared → Prop} {s : Shared} (h : wpAny M A t Q E s) (hQ : ∀ a s, Q a s → Q' a s) : wpAny M A t Q' E s := wpAny_mono h hQ fun _ _ x => x
end L2

namespace L2
open PySem PySem.Spec PyProof.Rows
section
variable {X : Cx}

/-! ### names and constants -/
def tVar (i : Nat) : TE := fun σ H Q => ∃ v, σ[i]? = some (some v) ∧ Q v H
def tC (v : V) : TE := fun _ H Q => Q v H
theorem pe_var {i : Nat} {x : Str} {pos : Pos} (hN : X.N[i]? = some x) (hv : Vis X.env.scope x) (hd : (x == ("__debug__" : Str)) = false := by decide) (hcd : (x == ("__classdict__" : Str)) = false := by decide) : PE X (.Name x pos) (tVar i) := by
  intro pins s σ H Q I h
  obtain ⟨v, e, h⟩ := h
  obtain ⟨m, hn, hl⟩ := I.loc
  obtain ⟨u, r, l⟩ := hl i x v hN e hv
  have fin : EP X pins σ Q u s := ⟨v, H, I, r, h⟩
  rcases l with ⟨hk, hm⟩ | ⟨hk, c, hc, hcell⟩
  · exact wpAny_Name (wpAny_loadName_local I.ok.kind hk hn hm fin) hd
  · rcases hk with hk | hk
    · exact wpAny_Name (wpAny_loadName_cell I.ok.kind hk hc hcell fin) hd
    · exact wpAny_Name (wpAny_loadName_free I.ok.kind hk hc hcell fin hcd) hd
theorem pe_int {i j pos} : PE X (.Constant (.int i) j pos) (tC (.int i)) := fun _ _ _ H _ I h => wpAny_Constant_int ⟨.int i, H, I.tok _, ⟨_, rfl⟩, h⟩
theorem pe_bl {b j pos} : PE X (.Constant (.bool b) j pos) (tC (.bl b)) := fun _ _ _ H _ I h => Constant_bool ⟨.bl b, H, I, rfl, h⟩
theorem pe_str {x j pos} : PE X (.Constant (.str x) j pos) (tC (.str x)) := fun _ _ _ H _ I h => Calls.Constant_str ⟨.str x, H, I.tok _, ⟨_, rfl⟩, h⟩

/-- a global name of the def -/
def Gl (X : Cx) (x : Str) : Prop := X.env.kindOf x = some .globalImplicit
theorem ld_glob {E : Value → Shared → Prop} {pins : List (Addr × Obj)} {s : Shared} {σ : St} {H : Hp} {x : Str} {u : Value} {pos : Pos} {Q : Value → Shared → Prop} (I : Inv X pins σ H s) (hg : Gl X x) (hm : X.mg x = some u) (h : Q u s)
    (hd : (x == ("__debug__" : Str)) = false := by decide) : wpAny (model X.prog X.w) X.A (eval (.Name x pos) X.env) Q E s :=
  Calls.Name_function_global I.ok.kind hg (Calls.loadGlobal_global (by rw [I.ok.glob]; exact I.mod.glob.keeps I.bk) hm h) hd
theorem ld_blt {E : Value → Shared → Prop} {pins : List (Addr × Obj)} {s : Shared} {σ : St} {H : Hp} {x : Str} {u : Value} {pos : Pos} {Q : Value → Shared → Prop} (I : Inv X pins σ H s) (hg : Gl X x) (hm : X.mg x = none) (hv : bootBuiltins x = some u) (h : Q u s)
    (hn : x ≠ "__name__" := by decide) (hd : (x == ("__debug__" : Str)) = false := by decide) : wpAny (model X.prog X.w) X.A (eval (.Name x pos) X.env) Q E s := by
  obtain ⟨mb, h1, h2⟩ := I.mod.blt
  exact Calls.Name_function_global I.ok.kind hg (Calls.loadGlobal_builtin (by rw [I.ok.glob]; exact I.mod.glob.keeps I.bk) hm (by rw [I.ok.blt]; exact h1.keeps I.bk) ((h2 x hn).trans hv) h) hd
/-- a module's constant, a class, a function, as a value -/
theorem pe_glob {x : Str} {v : V} {u : Value} {pos : Pos} (hg : Gl X x) (hm : X.mg x = some u) (r : RelV v u) (hd : (x == ("__debug__" : Str)) = false := by decide) : PE X (.Name x pos) (tC v) :=
  fun _ _ _ H _ I h => ld_glob I hg hm ⟨v, H, I, r, h⟩ hd
theorem pe_bltn {x : Str} {v : V} {u : Value} {pos : Pos} (hg : Gl X x) (hm : X.mg x = none) (hv : bootBuiltins x = some u) (r : RelV v u) (hn : x ≠ "__name__" := by decide) (hd : (x == ("__debug__" : Str)) = false := by decide) : PE X (.Name x pos) (tC v) :=
  fun _ _ _ H _ I h => ld_blt I hg hm hv ⟨v, H, I, r, h⟩ hn hd

/-! ### arithmetic -/
/-- two ints -/
def t2I (ta tb : TE) (k : Int → Int → Hp → Prop) : St → Hp → Prop := fun σ H => ta σ H fun x H1 => tb σ H1 fun y H2 => ∃ i j, x = .int i ∧ y = .int j ∧ k i j H2
def tAdd (ta tb : TE) : TE := fun σ H Q => t2I ta tb (fun i j H2 => Q (.int (i + j)) H2) σ H
def tSub (ta tb : TE) : TE := fun σ H Q => t2I ta tb (fun i j H2 => Q (.int (i - j)) H2) σ H
/-- the left factor below 2^64 -/
def tMul (ta tb : TE) : TE := fun σ H Q => t2I ta tb (fun i j H2 => (-(2 ^ 64) < i ∧ i < 2 ^ 64) ∧ Q (.int (i * j)) H2) σ H
variable {a b : Expr} {ta tb : TE} {pos : Pos}
/-! ### comparisons -/
def PC (X : Cx) (op : CmpOp) (a b : Expr) (t : TE) : Prop :=
  ∀ (pins : List (Addr × Obj)) (s : Shared) (σ : St) (H : Hp) (Q : VK), Inv X pins σ H s → t σ H Q →
    wpAny (model X.prog X.w) X.A (eval a X.env) (fun v s₁ => wpAny (model X.prog X.w) X.A (eval b X.env) (fun u s₂ => wpAny (model X.prog X.w) X.A (compareOp op v u) (EP X pins σ Q) X.xe s₂) X.xe s₁) X.xe s
def tCmp (p : Int → Int → Bool) (ta tb : TE) : TE := fun σ H Q => t2I ta tb (fun i j H2 => Q (.bl (p i j)) H2) σ H
abbrev tLt : TE → TE → TE := tCmp fun i j => decide (i < j)
abbrev tLe : TE → TE → TE := tCmp fun i j => decide (i ≤ j)
abbrev tGt : TE → TE → TE := tCmp fun i j => decide (j < i)
abbrev tGe : TE → TE → TE := tCmp fun i j => decide (j ≤ i)
abbrev tEqI : TE → TE → TE := tCmp fun i j => decide (i = j)
abbrev tNeI : TE → TE → TE := tCmp fun i j => !decide (i = j)
/-- is None -/
def tIsN (ta : TE) : TE := fun σ H Q => ta σ H fun x H1 => Q (.bl (decide (x = .non))) H1
def tNotN (ta : TE) : TE := fun σ H Q => ta σ H fun x H1 => Q (.bl (!decide (x = .non))) H1
/-- a comparison as a value, as a test -/
def tB (t : TE) : TT := fun σ H Q => t σ H fun x H1 => ∃ c, x = .bl c ∧ Q c H1
/-- an expression whose value is a bool, as a test -/
theorem pt_val {e : Expr} {t : TE} (h : PE X e t) (he : ∀ whole, isTrue e X.env whole = (do let v ← whole; standAt e.pos; holding [v] (truthy v)) := by intro _; rfl) : PT X e (tB t) := by
  intro pins s σ H Q I hw
  refine isTrue_plain (thn (h pins s σ H _ I hw) fun v s1 ⟨x, H1, I1, r1, q1⟩ => ?_) (he _)
  obtain ⟨d, rfl, q⟩ := q1
  cases r1
  exact wpAny_truthy_bool ⟨H1, I1, q⟩

/-! ### and, or, not -/
variable {tA tB' : TT} {rest : List Expr}
def tAnd (t u : TT) : TT := fun σ H Q => t σ H fun c H1 => if c = true then u σ H1 Q else Q false H1
def tOr (t u : TT) : TT := fun σ H Q => t σ H fun c H1 => if c = true then Q true H1 else u σ H1 Q
def tNot (t : TT) : TT := fun σ H Q => t σ H fun c H1 => Q (!c) H1
theorem pw_or1 (ha : PT X a tA) : PW X (.BoolOp .Or [a] pos) tA := by
  intro wh pins s σ H Q I h
  refine isTrue_or (thn (ha pins s σ H Q I h) fun c s1 e => ?_)
  cases c with
  | false => exact isTrue_or_nil e
  | true => exact e
theorem pw_or (ha : PT X a tA) (hb : PW X (.BoolOp .Or (b :: rest) pos) tB') : PW X (.BoolOp .Or (a :: b :: rest) pos) (tOr tA tB') := by
  intro wh pins s σ H Q I h
  refine isTrue_or (thn (ha pins s σ H _ I h) fun c s1 ⟨H1, I1, q1⟩ => ?_)
  cases c with
  | true => exact ⟨H1, I1, q1⟩
  | false => exact hb wh pins s1 σ H1 Q I1 q1
theorem pt_not (ha : PT X a tA) : PT X (.UnaryOp .Not a pos) (tNot tA) := by
  intro pins s σ H Q I h
  exact isTrue_not (ha pins s σ H (fun c H1 => Q (!c) H1) I h)
/-- .. as values (bools) -/
def tAndV (ta tb : TE) : TE := fun σ H Q => ta σ H fun x H1 => ∃ c, x = .bl c ∧ if c = true then tb σ H1 Q else Q (.bl false) H1
def tOrV (ta tb : TE) : TE := fun σ H Q => ta σ H fun x H1 => ∃ c, x = .bl c ∧ if c = true then Q (.bl true) H1 else tb σ H1 Q
def tNotV (ta : TE) : TE := fun σ H Q => ta σ H fun x H1 => ∃ c, x = .bl c ∧ Q (.bl (!c)) H1
theorem pe_one {op} {t : TE} (h : PE X a t) : PE X (.BoolOp op [a] pos) t := fun pins s σ H Q I hw => BoolOp_one (h pins s σ H Q I hw)
theorem pe_and (ha : PE X a ta) (hb : PE X (.BoolOp .And (b :: rest) pos) tb) : PE X (.BoolOp .And (a :: b :: rest) pos) (tAndV ta tb) := by
  intro pins s σ H Q I h
  refine BoolOp_and (thn (ha pins s σ H _ I h) fun v s1 ⟨x, H1, I1, r1, q1⟩ => ?_)
  obtain ⟨c, rfl, q1⟩ := q1
  cases r1
  refine wpAny_truthy_bool ?_
  cases c with
  | true => exact hb pins s1 σ H1 Q I1 q1
  | false => exact ⟨.bl false, H1, I1, rfl, q1⟩
theorem pe_not (ha : PE X a ta) : PE X (.UnaryOp .Not a pos) (tNotV ta) := by
  intro pins s σ H Q I h
  refine UnaryOp_ (thn (ha pins s σ H _ I h) fun v s1 ⟨x, H1, I1, r1, q1⟩ => ?_)
  obtain ⟨c, rfl, q1⟩ := q1
  cases r1
  exact not_of (wpAny_truthy_bool ⟨.bl (!c), H1, I1, rfl, q1⟩)
/-- a if t else b -/
def tIf (t : TT) (ta tb : TE) : TE := fun σ H Q => t σ H fun c H1 => if c = true then ta σ H1 Q else tb σ H1 Q
end
end L2

namespace L2
open PySem PySem.Spec PyProof.Rows

/-! ### a list, a tuple that is read: tracked, frozen, or an object of the module -/
def SqL (K : PySem.W.Frag) (H : Hp) (a : Addr) (xs : List V) : Prop :=
  Rd H a (.lst xs) ∨
    ∃ (o : Obj) (its : Array Value) (n : Nat), K.lookup a = some o ∧ o.cls = .type "list" ∧ o.dict = none ∧ o.data = .seq its n ∧ its.size ≤ sizeLine ∧ Vals xs its.toList
def SqT (K : PySem.W.Frag) (H : Hp) (a : Addr) (xs : List V) : Prop :=
  Rd H a (.tup xs) ∨
    ∃ (o : Obj) (its : Array Value) (n : Nat), K.lookup a = some o ∧ o.cls = .type "tuple" ∧ o.data = .seq its n ∧ its.size ≤ sizeLine ∧ Vals xs its.toList
def absV : Value → Option V
  | .none => some .non
  | .bool b => some (.bl b)
  | .int i _ => some (.int i)
  | .str x _ => some (.str x)
  | .bytes b _ => some (.byt b)
  | .float b _ => some (.flt b)
  | .ref a => some (.ref a)
  | .type n => some (.ty n)
  | _ => none
theorem RelV.abs {x : V} {u : Value} (r : RelV x u) : absV u = some x := by
  cases x with
  | non => cases r; rfl
  | bl _ => cases r; rfl
  | int _ => obtain ⟨t, rfl⟩ := r; rfl
  | str _ => obtain ⟨t, rfl⟩ := r; rfl
  | byt _ => obtain ⟨t, rfl⟩ := r; rfl
  | flt _ => obtain ⟨t, rfl⟩ := r; rfl
  | ref _ => cases r; rfl
  | ty _ => cases r; rfl
theorem RelV.inj {x y : V} {u : Value} (r : RelV x u) (q : RelV y u) : x = y := Option.some.inj (r.abs.symm.trans q.abs)
theorem Vals.inj : ∀ {xs ys : List V} {us : List Value}, Vals xs us → Vals ys us → xs = ys
  | _, _, _, .nil, .nil => rfl
  | _, _, _, .cons r t, .cons r' t' => by rw [r.inj r', Vals.inj t t']
section
variable {X : Cx} {pins : List (Addr × Obj)} {σ : St} {H : Hp} {s : Shared} {a : Addr} {xs ys : List V}
theorem SqL.of {K : PySem.W.Frag} (h : H a = some (.lst xs)) : SqL K H a xs := .inl (.inl h)
theorem SqT.of {K : PySem.W.Frag} (h : H a = some (.tup xs)) : SqT K H a xs := .inl (.inl h)
theorem Inv.list (I : Inv X pins σ H s) (h : SqL X.K H a xs) : ∃ its : List Value, Vals xs its ∧ PlainL s.heap a its.toArray ∧ xs.length ≤ sizeLine := by
  rcases h with h | ⟨o, its, n, hk, hc, hd, hs, hz, r⟩
  · obtain ⟨z, its, n, r, e⟩ := h.ok I.hok
    exact ⟨its, r, ⟨_, n, e, rfl, rfl, rfl⟩, z⟩
  · refine ⟨its.toList, r, ⟨o, n, I.kIn a o hk, hc, hd, by simpa using hs⟩, ?_⟩
    have e := r.length
    simp only [Array.length_toList] at e
    omega
theorem Inv.tuple (I : Inv X pins σ H s) (h : SqT X.K H a xs) : ∃ its : List Value, Vals xs its ∧ IsTup s.heap a its.toArray ∧ xs.length ≤ sizeLine := by
  rcases h with h | ⟨o, its, n, hk, hc, hs, hz, r⟩
  · obtain ⟨z, its, r, p⟩ := h.ok I.hok
    exact ⟨its, r, p, z⟩
  · refine ⟨its.toList, r, ⟨o, I.kIn a o hk, hc, n, by simpa using hs⟩, ?_⟩
    have e := r.length
    simp only [Array.length_toList] at e
    omega
end

/-! ### another wish about exceptions -/
abbrev Cx.wish (X : Cx) (E : Value → Shared → Prop) : Cx := { X with xe := E }
/-- no exception leaves -/
abbrev Cx.nox (X : Cx) : Cx := X.wish fun _ _ => False
theorem Cx.Ok.wish {X : Cx} (ok : X.Ok) (E : Value → Shared → Prop) : (X.wish E).Ok :=
  ⟨ok.mod, ok.kind, ok.glob, ok.blt, ok.above, ok.inj, ok.has, ok.cab, ok.hd, ok.frames, ok.stk, ok.exf, ok.bs, ok.bsz, ok.noex, ok.exfs, ok.funs, ok.frf⟩
theorem Cx.Ok.unwish {X : Cx} {E : Value → Shared → Prop} (ok : (X.wish E).Ok) : X.Ok :=
  ⟨ok.mod, ok.kind, ok.glob, ok.blt, ok.above, ok.inj, ok.has, ok.cab, ok.hd, ok.frames, ok.stk, ok.exf, ok.bs, ok.bsz, ok.noex, ok.exfs, ok.funs, ok.frf⟩
section
variable {X : Cx} {pins : List (Addr × Obj)} {σ : St} {H : Hp} {s : Shared} {E : Value → Shared → Prop}
theorem Inv.wish (I : Inv X pins σ H s) (E : Value → Shared → Prop) : Inv (X.wish E) pins σ H s := ⟨I.ok.wish E, I.os, I.bare, I.base, I.loc, I.cell, I.free, I.freeC, I.pin, I.hok, I.len⟩
theorem Inv.unwish (I : Inv (X.wish E) pins σ H s) : Inv X pins σ H s := ⟨I.ok.unwish, I.os, I.bare, I.base, I.loc, I.cell, I.free, I.freeC, I.pin, I.hok, I.len⟩
theorem SP.unwish {D : Ends} {f : Flow} {s' : Shared} (h : SP (X.wish E) pins D f s') : SP X pins D f s' := by
  cases f with
  | next => obtain ⟨σ', H', I, q⟩ := h; exact ⟨σ', H', I.unwish, q⟩
  | brk => obtain ⟨σ', H', I, q⟩ := h; exact ⟨σ', H', I.unwish, q⟩
  | cont => obtain ⟨σ', H', I, q⟩ := h; exact ⟨σ', H', I.unwish, q⟩
  | ret u => obtain ⟨v, σ', H', I, r, q⟩ := h; exact ⟨v, σ', H', I.unwish, r, q⟩
theorem PE.nox {e : Expr} {t : TE} (h : PE X.nox e t) : PE X e t := fun pins s σ H Q I hw =>
  wpAny_mono (h pins s σ H Q (I.wish _) hw) (fun _ _ ⟨v, H', I', r, q⟩ => ⟨v, H', I'.unwish, r, q⟩) fun _ _ z => False.elim z
theorem PT.nox {e : Expr} {t : TT} (h : PT X.nox e t) : PT X e t := fun pins s σ H Q I hw =>
  wpAny_mono (h pins s σ H Q (I.wish _) hw) (fun _ _ ⟨H', I', q⟩ => ⟨H', I'.unwish, q⟩) fun _ _ z => False.elim z
theorem PSs.nox {st : List Stmt} {t : TS} (h : PSs X.nox st t) : PSs X st t := fun pins s σ H D I hw =>
  wpAny_mono (h pins s σ H D (I.wish _) hw) (fun _ _ q => q.unwish) fun _ _ z => False.elim z
end

/-! ### blocks and small statements -/
section
variable {X : Cx} {st : Stmt} {rest : List Stmt} {t u : TS} {e : Expr} {te : TE} {pos : Pos}
def tNext : TS := fun D σ H => D.nx σ H
def tSeq (t u : TS) : TS := fun D σ H => t { D with nx := u D } σ H
theorem pss_nil : PSs X [] tNext := fun _ _ σ H _ I h => wpAny_execs_nil ⟨σ, H, I, h⟩
theorem pss_cons (h1 : PS X st t) (h2 : PSs X rest u) : PSs X (st :: rest) (tSeq t u) := by
  intro pins s σ H D I h
  refine wpAny_execs_cons (thn (h1 pins s σ H { D with nx := u D } I h) fun f s1 q => ?_)
  cases f with
  | next =>
    obtain ⟨σ', H', I', q⟩ := q
    exact h2 pins s1 σ' H' D I' q
  | ret v => exact q
  | brk => exact q
  | cont => exact q
theorem pss_one (h1 : PS X st t) : PSs X [st] t := by
  intro pins s σ H D I h
  refine wpAny_execs_cons (thn (h1 pins s σ H D I h) fun f s1 q => ?_)
  cases f with
  | next => exact wpAny_execs_nil q
  | ret v => exact q
  | brk => exact q
  | cont => exact q
def tBreak : TS := fun D σ H => D.bk σ H
def tCont : TS := fun D σ H => D.ct σ H
/-- in a def's body nothing is shown -/
theorem Inv.quiet {pins : List (Addr × Obj)} {σ : St} {H : Hp} {s : Shared} (I : Inv X pins σ H s) : interactive X.env = false := by simp [interactive, I.ok.kind]
/-- an expression whose value is dropped -/
def tDrop (te : TE) : TS := fun D σ H => te σ H fun _ H1 => D.nx σ H1
def tRet (te : TE) : TS := fun D σ H => te σ H D.rt
theorem ps_ret (he : PE X e te) : PS X (.Return (some e) pos) (tRet te) := by
  intro pins s σ H D I h
  exact wpAny_Return_some (thn (he pins s σ H _ I h) fun v s1 ⟨x, H1, I1, r1, q1⟩ => ⟨x, σ, H1, I1, r1, q1⟩)
def tRetN : TS := fun D _ H => D.rt .non H
def tIfS (c : TT) (t u : TS) : TS := fun D σ H => c σ H fun b H1 => if b = true then t D σ H1 else u D σ H1
theorem ps_if {c : Expr} {a b : List Stmt} {tc : TT} (hc : PT X c tc) (ha : PSs X a t) (hb : PSs X b u) : PS X (.If c a b pos) (tIfS tc t u) := by
  intro pins s σ H D I h
  refine wpAny_If (thn (hc pins s σ H _ I h) fun d s1 ⟨H1, I1, q1⟩ => ?_)
  cases d with
  | true => exact ha pins s1 σ H1 D I1 q1
  | false => exact hb pins s1 σ H1 D I1 q1
/-- code that the proof never comes to -/
def tNever : TS := fun _ _ _ => False
end

/-! ### targets -/
abbrev TG := V → St → Hp → (St → Hp → Prop) → Prop
abbrev TGs := List V → St → Hp → (St → Hp → Prop) → Prop
def PG (X : Cx) (target : Expr) (t : TG) : Prop :=
  ∀ (pins : List (Addr × Obj)) (s : Shared) (σ : St) (H : Hp) (v : V) (u : Value) (Q : St → Hp → Prop), Inv X pins σ H s → RelV v u → t v σ H Q →
    wpAny (model X.prog X.w) X.A (assign target X.env u) (fun _ s' => ∃ σ' H', Inv X pins σ' H' s' ∧ Q σ' H') X.xe s
/-- several targets, one after another -/
def PGs (X : Cx) (ts : List Expr) (t : TGs) : Prop :=
  ∀ (pins : List (Addr × Obj)) (s : Shared) (σ : St) (H : Hp) (vs : List V) (us : List Value) (Q : St → Hp → Prop), Inv X pins σ H s → Vals vs us → t vs σ H Q →
    wpAny (model X.prog X.w) X.A (assignInOrder ((assignEach ts X.env).map (·.2)) us) (fun _ s' => ∃ σ' H', Inv X pins σ' H' s' ∧ Q σ' H') X.xe s
/-- o[i] = v, by values -/
abbrev TSet := V → V → V → Hp → (Hp → Prop) → Prop
def PSet (X : Cx) (t : TSet) : Prop :=
  ∀ (pins : List (Addr × Obj)) (s : Shared) (σ : St) (H : Hp) (o i v : V) (ov iv u : Value) (Q : Hp → Prop), Inv X pins σ H s → RelV o ov → RelV i iv → RelV v u → t o i v H Q →
    wpAny (model X.prog X.w) X.A (setItem ov iv u) (fun _ s' => ∃ H', Inv X pins σ H' s' ∧ Q H') X.xe s
/-- a op= b, by values -/
abbrev TIp := V → V → Hp → VK → Prop
def PIp (X : Cx) (op : Operator) (t : TIp) : Prop :=
  ∀ (pins : List (Addr × Obj)) (s : Shared) (σ : St) (H : Hp) (x y : V) (v u : Value) (Q : VK), Inv X pins σ H s → RelV x v → RelV y u → t x y H Q →
    wpAny (model X.prog X.w) X.A (inplaceOp op v u) (EP X pins σ Q) X.xe s
section
variable {X : Cx} {pos : Pos}
def gName (i : Nat) : TG := fun v σ H Q => Q (σ.set i (some v)) H
theorem pg_name {i : Nat} {x : Str} (hN : X.N.Nodup) (hi : X.N[i]? = some x) (hx : Loc X.env.scope x) (hf : X.fn x = true ∨ X.env.scope.names.lookup x = some .local := by first | exact .inl rfl | exact .inr rfl | assumption) : PG X (.Name x pos) (gName i) := by
  intro pins s σ H v u Q I r h
  exact wpAny_assign_Name (store_ok I hN hi hx r (fun s' I' => ⟨_, H, I', h⟩) hf)
def gNil : TGs := fun vs σ H Q => vs = [] ∧ Q σ H
def gCons (t : TG) (u : TGs) : TGs := fun vs σ H Q => ∃ v r, vs = v :: r ∧ t v σ H fun σ' H' => u r σ' H' Q
/-- (a, b, ..) = a tuple of that length -/
def gTup (K : PySem.W.Frag) (n : Nat) (t : TGs) : TG := fun v σ H Q => ∃ a xs, v = .ref a ∧ SqT K H a xs ∧ xs.length = n ∧ t xs σ H Q
/-- o[i] = .. -/
def gSub (to ti : TE) (t : TSet) : TG := fun v σ H Q => to σ H fun o H1 => ti σ H1 fun i H2 => t o i v H2 fun H3 => Q σ H3
/-- target = value -/
def tAsg (te : TE) (g : TG) : TS := fun D σ H => te σ H fun x H1 => g x σ H1 D.nx
/-- name = value -/
theorem ps_set {i : Nat} {x : Str} {e : Expr} {te : TE} {pos' : Pos} (hN : X.N.Nodup) (hi : X.N[i]? = some x) (hx : Loc X.env.scope x) (he : PE X e te) (hs : swapsWith e (some (.Name x pos')) pos.line X.env = pure false := by rfl) (hf : X.fn x = true ∨ X.env.scope.names.lookup x = some .local := by first | exact .inl rfl | exact .inr rfl | assumption) :
    PS X (.Assign [.Name x pos'] e pos) (tAsg te (gName i)) := by
  intro pins s σ H D I h
  refine wpAny_Assign_Name (thn (he pins s σ H _ I h) fun v s1 ⟨y, H1, I1, r1, q1⟩ => ?_) hs
  exact store_ok I1 hN hi hx r1 (fun s2 I2 => ⟨_, H1, I2, q1⟩) hf
/-- a, b = x, y with plain local names: stored from the right; the pair itself is not tracked (the opening rows as in PyProof/Rows/TupAssign.lean:23) -/
def tPar (i j : Nat) (ta : TA) : TS := fun D σ H => ta σ H fun vs H1 => ∃ v w, vs = [v, w] ∧ D.nx ((σ.set i (some v)).set j (some w)) H1
/-- name op= e -/
def tAug (i : Nat) (te : TE) (ti : TIp) : TS := fun D σ H => ∃ x, σ[i]? = some (some x) ∧ te σ H fun y H1 => ti x y H1 fun z H2 => D.nx (σ.set i (some z)) H2
/-- o[i] op= e -/
def tAugS (to ti te : TE) (tget : V → V → Hp → VK → Prop) (tip : TIp) (tset : TSet) : TS := fun D σ H => to σ H fun o H1 => ti σ H1 fun i H2 => tget o i H2 fun x H3 => te σ H3 fun y H4 => tip x y H4 fun z H5 => tset o i z H5 fun H6 => D.nx σ H6
/-- o[i], by values -/
def PGet (X : Cx) (t : V → V → Hp → VK → Prop) : Prop :=
  ∀ (pins : List (Addr × Obj)) (s : Shared) (σ : St) (H : Hp) (o i : V) (ov iv : Value) (Q : VK), Inv X pins σ H s → RelV o ov → RelV i iv → t o i H Q →
    wpAny (model X.prog X.w) X.A (getItem ov iv) (EP X pins σ Q) X.xe s
/-- ints -/
def ipI (f : Int → Int → Int) : TIp := fun x y H Q => ∃ i j, x = .int i ∧ y = .int j ∧ Q (.int (f i j)) H
end

/-! ### while -/
section
variable {X : Cx} {pos : Pos}
/-- the invariant W with its measure -/
def tWhile (c : TT) (tb : TS) : TS := fun D σ H => ∃ W : Nat → St → Hp → Prop, (∃ m, W m σ H) ∧ ∀ m σ H, W m σ H →
  c σ H fun b H1 => if b = true then ∃ N : St → Hp → Prop, (∀ σ' H', N σ' H' → ∃ m', m' < m ∧ W m' σ' H') ∧ tb { D with nx := N, ct := N, bk := D.nx } σ H1 else D.nx σ H1
end

/-! ### what a loop or a comprehension walks -/
/-- at turn i: it yields x (the heap may grow), or it stops -/
structure It where
  go : Nat → Hp → Prop
  yld : Nat → Hp → V → Hp → Prop
  stop : Nat → Hp → Prop
/-- the iterator's own objects may turn: they are not the frame's, not pinned, younger than the entry (or a comprehension's own) -/
def FpOk (X : Cx) (pins : List (Addr × Obj)) (H : Hp) (b : Addr) : Prop :=
  H b = none ∧ b ≠ X.env.locals ∧ b ∉ X.fs ∧ (b ∈ X.ex ∨ X.s₀.heap.objs.size ≤ b) ∧ (∀ x c, X.env.cells.lookup x = some c → c ≠ b) ∧ ∀ p ∈ X.pn ++ pins, p.1 ≠ b
theorem Inv.fpOk {X : Cx} {pins : List (Addr × Obj)} {σ : St} {H H' : Hp} {s : Shared} {b : Addr} (I : Inv X pins σ H s) (hb : s.heap.objs.size ≤ b) (hn : H' b = none) : FpOk X pins H' b := by
  refine ⟨hn, Nat.ne_of_gt (Nat.lt_of_lt_of_le I.lt hb), I.nofs hb, .inr (Nat.le_trans I.sz hb), fun x c e z => ?_, fun p hp z => ?_⟩
  · obtain ⟨v, q⟩ := I.cell x c e
    exact absurd (Nat.lt_of_lt_of_le q.lt (by rw [z]; exact hb)) (Nat.lt_irrefl _)
  · exact absurd (Nat.lt_of_lt_of_le (Heap.lt_size (I.pin p hp).1) (by rw [z]; exact hb)) (Nat.lt_irrefl _)
structure Turn (P : Program) (w : World) (K : PySem.W.Frag) (tg : Expr) (J : It) (fp : List Addr) (it : Addr) (tn : Nat → Heap → Prop) : Prop where
  mem : it ∈ fp
  obj : ∀ i h, tn i h → ∀ b ∈ fp, ∃ o, h.get? b = some o ∧ ∀ v, o.data ≠ .cell v
  keep : ∀ i h h', tn i h → (∀ b ∈ fp, ∀ o, h.get? b = some o → h'.get? b = some o) → tn i h'
  item : ∀ (X : Cx), X.prog = P → X.w = w → X.K = K → X.calm = true → ∀ (i : Nat) (pins : List (Addr × Obj)) (s : Shared) (σ : St) (H : Hp) (E : Value → Shared → Prop), Inv X pins σ H s → (∀ b ∈ fp, FpOk X pins H b) → tn i s.heap → J.go i H →
    wpAny (model P w) X.A (pyNext (.ref it)) (fun r s1 => ∃ u, r = some u ∧
      wpAny (model P w) X.A (letOwnedTupleGo tg (.ref it) u) (fun _ s2 => ∃ x H', Inv X pins σ H' s2 ∧ RelV x u ∧ J.yld i H x H' ∧ tn (i + 1) s2.heap ∧ ∀ b ∈ fp, H' b = none) E s1) E s
  done : ∀ (X : Cx), X.prog = P → X.w = w → X.K = K → X.calm = true → ∀ (i : Nat) (pins : List (Addr × Obj)) (s : Shared) (σ : St) (H : Hp) (E : Value → Shared → Prop), Inv X pins σ H s → (∀ b ∈ fp, FpOk X pins H b) → tn i s.heap → J.stop i H →
    wpAny (model P w) X.A (pyNext (.ref it)) (fun r s1 => r = none ∧ Inv X pins σ H s1) E s
  self : ∀ (A : Around) (i : Nat) (s : Shared) (Q : Value → Shared → Prop) (E : Value → Shared → Prop), tn i s.heap → Q (.ref it) s → wpAny (model P w) A (pyIter (.ref it)) Q E s
abbrev TI := St → Hp → (It → Hp → Prop) → Prop
/-- an iterator has come -/
def PIE (X : Cx) (pins : List (Addr × Obj)) (σ : St) (tg : Expr) (R : It → Hp → Prop) (itv : Value) (s2 : Shared) : Prop :=
  ∃ (it : Addr) (fp : List Addr) (tn : Nat → Heap → Prop) (J : It) (H' : Hp), itv = .ref it ∧ Inv X pins σ H' s2 ∧ Turn X.prog X.w X.K tg J fp it tn ∧ tn 0 s2.heap ∧ (∀ b ∈ fp, FpOk X pins H' b) ∧ R J H'
def PI (X : Cx) (tg iter : Expr) (wi : TI) : Prop :=
  ∀ (pins : List (Addr × Obj)) (s : Shared) (σ : St) (H : Hp) (R : It → Hp → Prop), Inv X pins σ H s → wi σ H R →
    wpAny (model X.prog X.w) X.A (eval iter X.env) (fun v s1 => wpAny (model X.prog X.w) X.A (pyIter v) (PIE X pins σ tg R) X.xe s1) X.xe s

/-- the step ahead of the store is nothing for an iterator that keeps no tuple -/
theorem go_of {M : Model} {A : Around} {E : Value → Shared → Prop} {s : Shared} {tg : Expr} {it : Addr} {u : Value} {o : Obj} {n : String} {vs : Array Value} {Q : Unit → Shared → Prop} (ho : s.heap.get? it = some o) (hc : o.cls = .type n) (hd : o.data = .fields vs)
    (hn : ["enumerate", "zip", "dict_itemiterator", "dict_reverseitemiterator", "odict_iterator", "itertools.zip_longest", "itertools.pairwise"].contains n = false) (hQ : Q () s) : wpAny M A (letOwnedTupleGo tg (.ref it) u) Q E s := by
  unfold letOwnedTupleGo
  cases tg <;> first
    | exact wpAny_pure hQ
    | (cases u <;> first
        | exact wpAny_pure hQ
        | (refine wpAny_bind (wpAny_load ho ?_)
           rw [hc, hd]
           show wpAny M A (if (["enumerate", "zip", "dict_itemiterator", "dict_reverseitemiterator", "odict_iterator", "itertools.zip_longest", "itertools.pairwise"].contains n && vs[0]? == some (rawInt _)) = true then _ else _) Q E s
           rw [if_neg (by intro h; rw [hn, Bool.false_and] at h; cases h)]
           exact wpAny_pure hQ))

/-- the list at a, as it stands at each turn (a loop may append to it) -/
def Itl (K : PySem.W.Frag) (a : Addr) : It :=
  ⟨fun i H => ∃ xs x, SqL K H a xs ∧ xs[i]? = some x, fun i H x H' => H' = H ∧ ∀ xs, SqL K H a xs → xs[i]? = some x, fun i H => ∃ xs, SqL K H a xs ∧ xs.length ≤ i⟩
def Itt (K : PySem.W.Frag) (a : Addr) : It :=
  ⟨fun i H => ∃ xs x, SqT K H a xs ∧ xs[i]? = some x, fun i H x H' => H' = H ∧ ∀ xs, SqT K H a xs → xs[i]? = some x, fun i H => ∃ xs, SqT K H a xs ∧ xs.length ≤ i⟩
/-- lo, lo + 1, .. (n of them) -/
def Itr (lo : Int) (n : Nat) : It := ⟨fun i _ => i < n, fun i H x H' => H' = H ∧ x = .int (lo + i), fun i _ => n ≤ i⟩
theorem turn_range {P : Program} {w : World} {K : PySem.W.Frag} {tg : Expr} (it : Addr) (lo : Int) (n : Nat) : Turn P w K tg (Itr lo n) [it] it (fun i h => IsRangeIter h it (lo + (i : Nat) * 1) ((n : Int) - (i : Nat)) 1) where
  mem := by simp
  obj := fun i h st b hb => by
    have e : b = it := by simpa using hb
    subst e
    exact ⟨_, st, fun v z => by
      have z' : Data.fields _ = Data.cell v := z
      cases z'⟩
  keep := fun i h h' st k => k it (by simp) _ st
  item := by
    intro X hP hw hK hc i pins s σ H E I hf st hg
    subst hP hw hK
    obtain ⟨f0, f1, f2, f3, f4, f5⟩ := hf it (by simp)
    have W := Walks.range (prog := X.prog) (w := X.w) (I.ok.hd hc) it lo 1 n
    refine W.item i s _ _ hg st fun v h' tk hv st' kk => ?_
    obtain ⟨t, rfl⟩ := hv
    have I1 : Inv X pins σ H { s with heap := h', toks := tk } := I.turned (fun b o hb e => kk b o (by simpa using hb) e) f0 f1 f3 f4 f5
    refine ⟨_, rfl, go_of (s := { s with heap := h', toks := tk }) (n := "range_iterator") st' rfl rfl (by decide) ⟨.int (lo + i), H, I1, ⟨t, ?_⟩, ⟨rfl, rfl⟩, st', fun b hb => (hf b hb).1⟩⟩
    rw [Int.mul_one]
  done := by
    intro X hP hw hK hc i pins s σ H E I hf st hg
    subst hP hw hK
    obtain ⟨f0, f1, f2, f3, f4, f5⟩ := hf it (by simp)
    exact wpAny_pyNext_range_end (I.ok.hd hc) st (by have : n ≤ i := hg; omega) fun h' eb => ⟨rfl, I.turned (t' := s.toks) (fun b o hb e => eb b o hb e) f0 f1 f3 f4 f5⟩
  self := fun _ _ _ _ _ st h => wpAny_pyIter_rangeiter st h
end L2

namespace L2
open PySem PySem.Spec PyProof.Rows
section
variable {X : Cx} {tg : Expr}
def iList (K : PySem.W.Frag) (tl : TE) : TI := fun σ H R => tl σ H fun x H1 => ∃ a, x = .ref a ∧ (∃ xs, SqL K H1 a xs) ∧ R (Itl K a) H1
def iTup (K : PySem.W.Frag) (tl : TE) : TI := fun σ H R => tl σ H fun x H1 => ∃ a, x = .ref a ∧ (∃ xs, SqT K H1 a xs) ∧ R (Itt K a) H1
/-- a range object just made, walked -/
theorem range_it {pins : List (Addr × Obj)} {σ : St} {H : Hp} {s : Shared} {R : It → Hp → Prop} {E : Value → Shared → Prop} {lo hi : Int} {t u v : Tok} {tk : Nat} (I : Inv X pins σ H s) (h1 : -(2 ^ 62) ≤ lo) (h2 : lo < 2 ^ 62) (h3 : -(2 ^ 62) ≤ hi) (h4 : hi < 2 ^ 62)
    (q : R (Itr lo (hi - lo).toNat) H) : wpAny (model X.prog X.w) X.A (pyIter (.ref s.heap.objs.size)) (PIE X pins σ tg R) E { s with heap := s.heap.push { cls := .type "range", data := .fields #[.int lo t, .int hi u, .int 1 v] }, toks := tk } := by
  refine wpAny_pyIter_range (IsRange.new ..) (small_one h1 h2 h3 h4) ?_
  have I1 : Inv X pins σ H { s with heap := s.heap.push { cls := .type "range", data := .fields #[.int lo t, .int hi u, .int 1 v] }, toks := tk } := I.kept fun b o e => Heap.get?_push_of_some _ e
  refine ⟨(s.heap.push { cls := .type "range", data := .fields #[.int lo t, .int hi u, .int 1 v] }).objs.size, [(s.heap.push { cls := .type "range", data := .fields #[.int lo t, .int hi u, .int 1 v] }).objs.size], _, _, H, rfl,
    I1.kept (t' := tk) fun b o e => Heap.get?_push_of_some _ e, turn_range _ lo (hi - lo).toNat, ?_, fun b hb => ?_, q⟩
  · have e1 : lo + ((0 : Nat) : Int) * 1 = lo := by simp
    have e2 : (((hi - lo).toNat : Nat) : Int) - ((0 : Nat) : Int) = Builtin.Range.rangeSize lo hi 1 := by rw [rangeSize_one]; split <;> omega
    show IsRangeIter _ _ (lo + ((0 : Nat) : Int) * 1) ((((hi - lo).toNat : Nat) : Int) - ((0 : Nat) : Int)) 1
    rw [e1, e2]
    exact Heap.get?_push_size _ rfl
  · have e : b = (s.heap.push { cls := .type "range", data := .fields #[.int lo t, .int hi u, .int 1 v] }).objs.size := by simpa using hb
    subst e
    exact I1.fpOk (Nat.le_refl _) (I1.hok.fresh (Nat.le_refl _))
def iRng1 (ta : TA) : TI := fun σ H R => ta σ H fun vs H1 => ∃ j : Int, vs = [.int j] ∧ -(2 ^ 62) ≤ j ∧ j < 2 ^ 62 ∧ R (Itr 0 j.toNat) H1
def iRng2 (ta : TA) : TI := fun σ H R => ta σ H fun vs H1 => ∃ i j : Int, vs = [.int i, .int j] ∧ (-(2 ^ 62) ≤ i ∧ i < 2 ^ 62 ∧ -(2 ^ 62) ≤ j ∧ j < 2 ^ 62) ∧ R (Itr i (j - i).toNat) H1
theorem pi_range1 {a : Expr} {ta : TA} {p pos : Pos} (hg : Gl X "range") (hm : X.mg "range" = none) (ha : PA X [a] ta) (hs : starEach [a] X.env = [(false, eval a X.env)] := by rfl) : PI X tg (.Call (.Name "range" p) [a] [] pos) (iRng1 ta) := by
  intro pins s σ H R I h
  refine Call_ (ld_blt I hg hm boot_range (PyProof.Rows.callWith_type1 (thn (ha pos pins s σ H _ I h) fun us s1 ⟨vs, H1, I1, r1, q1⟩ => ?_) hs rfl))
  obtain ⟨j, e, q1, q2, q⟩ := q1
  subst e
  cases r1 with
  | cons r rr =>
    cases rr
    obtain ⟨t, rfl⟩ := r
    exact call_range_1 (range_it I1 (by omega) (by omega) q1 q2 (by simpa using q))
/-! ### for -/
/-- W: the invariant by the turn and a measure; N: what the body is to reach -/
def tFor (wi : TI) (g : TG) (tb : TS) : TS := fun D σ H => wi σ H fun J H1 => ∃ W : Nat → Nat → St → Hp → Prop, (∃ m, W 0 m σ H1) ∧ ∀ i m σ H, W i m σ H →
  (J.stop i H ∧ D.nx σ H) ∨ (J.go i H ∧ ∃ N : St → Hp → Prop, (∀ σ' H', N σ' H' → ∃ m', m' < m ∧ W (i + 1) m' σ' H') ∧ ∀ x H', J.yld i H x H' → g x σ H' fun σ2 H2 => tb { D with nx := N, ct := N, bk := D.nx } σ2 H2)
/-- the records at fp as they stand -/
def pinsAt (fp : List Addr) (h : Heap) : List (Addr × Obj) := fp.filterMap fun b => (h.get? b).map fun o => (b, o)
theorem mem_pinsAt {fp : List Addr} {h : Heap} {b : Addr} {o : Obj} (hb : b ∈ fp) (e : h.get? b = some o) : (b, o) ∈ pinsAt fp h := List.mem_filterMap.mpr ⟨b, hb, by rw [e]; rfl⟩
theorem of_pinsAt {fp : List Addr} {h : Heap} {p : Addr × Obj} (hp : p ∈ pinsAt fp h) : p.1 ∈ fp ∧ h.get? p.1 = some p.2 := by
  obtain ⟨b, hb, e⟩ := List.mem_filterMap.mp hp
  cases q : h.get? b with
  | none => rw [q] at e; cases e
  | some o =>
    rw [q] at e
    have e' : (b, o) = p := Option.some.inj e
    subst e'
    exact ⟨hb, q⟩
theorem Inv.pinned {pins : List (Addr × Obj)} {σ : St} {H : Hp} {s : Shared} {fp : List Addr} (I : Inv X pins σ H s) (hf : ∀ b ∈ fp, FpOk X pins H b) (ho : ∀ b ∈ fp, ∃ o, s.heap.get? b = some o ∧ ∀ v, o.data ≠ .cell v) : Inv X (pins ++ pinsAt fp s.heap) σ H s :=
  I.pins_of fun p hp => (List.mem_append.mp hp).elim (fun z => I.pin p (List.mem_append_right _ z)) fun z => by
    obtain ⟨hb, e⟩ := of_pinsAt z
    obtain ⟨f0, f1, f2, _⟩ := hf p.1 hb
    obtain ⟨o, e', d⟩ := ho p.1 hb
    rw [e] at e'; cases e'
    exact ⟨e, f0, f1, f2, d⟩
theorem Inv.unpinned {pins pl : List (Addr × Obj)} {σ : St} {H : Hp} {s : Shared} (I : Inv X (pins ++ pl) σ H s) : Inv X pins σ H s := I.pins_of fun p hp => I.pin p (List.mem_append_right _ (List.mem_append_left _ hp))
theorem ps_for {iter : Expr} {body : List Stmt} {wi : TI} {g : TG} {tb : TS} {pos : Pos} (hp : PassesOwn (model X.prog X.w) X.A X.env X.xe) (hc : X.calm = true) (hi : PI X tg iter wi) (hg : PG X tg g) (hb : PSs X body tb)
    (hs : ∀ x, foldedSetIterable iter X.env x = pure x := by intro _; rfl) : PS X (.For tg iter body [] pos) (tFor wi g tb) := by
  intro pins s σ H D I h
  refine wpAny_For (thn (hi pins s σ H _ I h) fun v s1 h1 => thn h1 fun itv s2 h2 => ?_) hs
  obtain ⟨it, fp, tn, J, H2, e, I2, T, st2, f2, W, ⟨m0, w0⟩, turn⟩ := h2
  subst e
  -- what stays true of the iterator's objects through the loop
  have stat : ∀ {H' : Hp}, (∀ b ∈ fp, H' b = none) → ∀ b ∈ fp, FpOk X pins H' b := fun hn b hb => ⟨hn b hb, (f2 b hb).2⟩
  refine codeAny_forLoop_any (fun n s' => ∃ i σ' H', Inv X pins σ' H' s' ∧ tn i s'.heap ∧ (∀ b ∈ fp, H' b = none) ∧ W i n σ' H') ?_ m0 ⟨0, σ, H2, I2, st2, fun b hb => (f2 b hb).1, w0⟩
  rintro n s3 ⟨i, σ3, H3, I3, st3, fr3, w3⟩
  rcases turn i n σ3 H3 w3 with ⟨stop, qn⟩ | ⟨go, N, hN, step⟩
  · refine wpAny_passesOwn hp (thn (T.done X rfl rfl rfl hc i pins s3 σ3 H3 X.xe I3 (stat fr3) st3 stop) fun r s4 ⟨hr, I4⟩ => ?_)
    subst hr
    exact wpAny_execs_nil ⟨σ3, H3, I4, qn⟩
  · refine wpAny_passesOwn hp (thn (T.item X rfl rfl rfl hc i pins s3 σ3 H3 X.xe I3 (stat fr3) st3 go) fun r s4 ⟨u, hr, h4⟩ => ?_)
    subst hr
    refine wpAny_passesOwn hp (thn h4 fun _ s5 ⟨x, H5, I5, r5, y5, st5, fr5⟩ => ?_)
    have I5' := I5.pinned (stat fr5) (T.obj _ _ st5)
    refine wpAny_passesOwn hp (thn (hg _ s5 σ3 H5 x u _ I5' r5 (step x H5 y5)) fun _ s6 ⟨σ6, H6, I6, q6⟩ => ?_)
    refine wpAny_passesOwn hp (thn (hb _ s6 σ6 H6 _ I6 q6) fun f s7 q7 => ?_)
    have again : ∀ {σ7 : St} {H7 : Hp}, Inv X (pins ++ pinsAt fp s5.heap) σ7 H7 s7 → N σ7 H7 → ∃ m, m < n ∧ ∃ i σ' H', Inv X pins σ' H' s7 ∧ tn i s7.heap ∧ (∀ b ∈ fp, H' b = none) ∧ W i m σ' H' := fun {σ7 H7} I7 n7 => by
      obtain ⟨m', hm, w7⟩ := hN σ7 H7 n7
      refine ⟨m', hm, i + 1, σ7, H7, I7.unpinned, T.keep _ _ _ st5 fun b hb o e => (I7.pin (b, o) (List.mem_append_right _ (List.mem_append_right _ (mem_pinsAt hb e)))).1, fun b hb => ?_, w7⟩
      obtain ⟨o, e, d⟩ := T.obj _ _ st5 b hb
      exact (I7.pin (b, o) (List.mem_append_right _ (List.mem_append_right _ (mem_pinsAt hb e)))).2.1
    cases f with
    | next => obtain ⟨σ7, H7, I7, n7⟩ := q7; exact again I7 n7
    | cont => obtain ⟨σ7, H7, I7, n7⟩ := q7; exact again I7 n7
    | brk => obtain ⟨σ7, H7, I7, q7⟩ := q7; exact ⟨σ7, H7, I7.unpinned, q7⟩
    | ret v => obtain ⟨x7, σ7, H7, I7, r7, q7⟩ := q7; exact ⟨x7, σ7, H7, I7.unpinned, r7, q7⟩
end

/-! ### the forms one uses -/
theorem for_range {lo : Int} {n : Nat} {g : TG} {tb : TS} {D : Ends} {σ : St} {H : Hp} (Pv : Nat → St → Hp → Prop) (h0 : Pv 0 σ H)
    (hs : ∀ i σ H, i < n → Pv i σ H → g (.int (lo + i)) σ H fun σ2 H2 => tb { D with nx := Pv (i + 1), ct := Pv (i + 1), bk := D.nx } σ2 H2) (hd : ∀ σ H, Pv n σ H → D.nx σ H) :
    ∃ W : Nat → Nat → St → Hp → Prop, (∃ m, W 0 m σ H) ∧ ∀ i m σ H, W i m σ H →
      ((Itr lo n).stop i H ∧ D.nx σ H) ∨ ((Itr lo n).go i H ∧ ∃ N : St → Hp → Prop, (∀ σ' H', N σ' H' → ∃ m', m' < m ∧ W (i + 1) m' σ' H') ∧ ∀ x H', (Itr lo n).yld i H x H' → g x σ H' fun σ2 H2 => tb { D with nx := N, ct := N, bk := D.nx } σ2 H2) := by
  refine ⟨fun i m σ H => m = n - i ∧ i ≤ n ∧ Pv i σ H, ⟨n, by simp, Nat.zero_le _, h0⟩, ?_⟩
  rintro i m σ H ⟨rfl, hi, p⟩
  by_cases hlt : i < n
  · refine .inr ⟨hlt, Pv (i + 1), fun σ' H' p' => ⟨n - (i + 1), by omega, rfl, hlt, p'⟩, fun x H' y => ?_⟩
    obtain ⟨e, y⟩ := y
    subst e y
    exact hs i σ _ hlt p
  · have e : i = n := by omega
    subst e
    exact .inl ⟨Nat.le_refl _, hd σ H p⟩
end L2

namespace L2
open PySem PySem.Spec PyProof.Rows

abbrev R2 := V → V → Hp → VK → Prop
/-- a two-place operation on values: f is binaryOp op, inplaceOp op or compareOp op -/
def OpR (X : Cx) (f : Value → Value → Sem Value) (r : R2) : Prop :=
  ∀ (pins : List (Addr × Obj)) (s : Shared) (σ : St) (H : Hp) (x y : V) (v u : Value) (Q : VK), Inv X pins σ H s → RelV x v → RelV y u → r x y H Q →
    wpAny (model X.prog X.w) X.A (f v u) (EP X pins σ Q) X.xe s
/-- a one-place operation -/
def UnR (X : Cx) (f : Value → Sem Value) (r : V → Hp → VK → Prop) : Prop :=
  ∀ (pins : List (Addr × Obj)) (s : Shared) (σ : St) (H : Hp) (x : V) (v : Value) (Q : VK), Inv X pins σ H s → RelV x v → r x H Q →
    wpAny (model X.prog X.w) X.A (f v) (EP X pins σ Q) X.xe s
/-- a call of a value that is known (a builtin, a type) with values -/
def CallR (X : Cx) (f : Value) (r : List V → Hp → VK → Prop) : Prop :=
  ∀ (pins : List (Addr × Obj)) (s : Shared) (σ : St) (H : Hp) (xs : List V) (us : List Value) (Q : VK), Inv X pins σ H s → Vals xs us → r xs H Q →
    wpAny (model X.prog X.w) X.A (call f us) (EP X pins σ Q) X.xe s
/-- a value's truth -/
def TruR (X : Cx) (r : V → Hp → (Bool → Hp → Prop) → Prop) : Prop :=
  ∀ (pins : List (Addr × Obj)) (s : Shared) (σ : St) (H : Hp) (x : V) (v : Value) (Q : Bool → Hp → Prop), Inv X pins σ H s → RelV x v → r x H Q →
    wpAny (model X.prog X.w) X.A (truthy v) (TP X pins σ Q) X.xe s

def tOp (r : R2) (ta tb : TE) : TE := fun σ H Q => ta σ H fun x H1 => tb σ H1 fun y H2 => r x y H2 Q
def tUn (r : V → Hp → VK → Prop) (ta : TE) : TE := fun σ H Q => ta σ H fun x H1 => r x H1 Q
/-- ints in, under C, and a value out -/
def rI (C : Int → Int → Prop) (g : Int → Int → V) : R2 := fun x y H Q => ∃ i j, x = .int i ∧ y = .int j ∧ C i j ∧ Q (g i j) H
def rI0 (g : Int → Int → V) : R2 := fun x y H Q => ∃ i j, x = .int i ∧ y = .int j ∧ Q (g i j) H
def rU (g : Int → V) : V → Hp → VK → Prop := fun x H Q => ∃ i, x = .int i ∧ Q (g i) H

section
variable {X : Cx} {a b c : Expr} {ta tb tc : TE} {pos : Pos}

theorem binT (ha : PE X a ta) (hb : PE X b tb) {pins : List (Addr × Obj)} {s : Shared} {σ : St} {H : Hp} {R : V → V → Hp → Prop} (I : Inv X pins σ H s)
    (h : ta σ H fun x H1 => tb σ H1 fun y H2 => R x y H2) {Q : Value → Shared → Prop} {f : Value → Value → Sem Value}
    (hf : ∀ v u s2 x y H2, Inv X pins σ H2 s2 → RelV x v → RelV y u → R x y H2 → wpAny (model X.prog X.w) X.A (f v u) Q X.xe s2) :
    wpAny (model X.prog X.w) X.A (eval a X.env) (fun v s₁ => wpAny (model X.prog X.w) X.A (eval b X.env) (fun u s₂ => wpAny (model X.prog X.w) X.A (f v u) Q X.xe s₂) X.xe s₁) X.xe s := by
  refine thn (ha pins s σ H _ I h) fun v s1 ⟨x, H1, I1, r1, q1⟩ => ?_
  refine thn (hb pins s1 σ H1 _ I1 q1) fun u s2 ⟨y, H2, I2, r2, q2⟩ => ?_
  exact hf v u s2 x y H2 I2 r1 r2 q2

theorem pe_op {op : Operator} {r : R2} (ho : OpR X (binaryOp op) r) (ha : PE X a ta) (hb : PE X b tb) : PE X (.BinOp a op b pos) (tOp r ta tb) := by
  intro pins s σ H Q I h
  exact wpAny_BinOp (binT ha hb I h fun v u s2 x y H2 I2 rx ry q => ho pins s2 σ H2 x y v u Q I2 rx ry q)
/-! ### ints -/
theorem opI {f : Value → Value → Sem Value} {C : Int → Int → Prop} {g : Int → Int → Int}
    (rule : ∀ (i j : Int) (t u : Tok) (s : Shared) (Q : Value → Shared → Prop) (E : Value → Shared → Prop), C i j → Q (.int (g i j) s.toks) { s with toks := s.toks + 1 } → wpAny (model X.prog X.w) X.A (f (.int i t) (.int j u)) Q E s) :
    OpR X f (rI C fun i j => .int (g i j)) := by
  intro pins s σ H x y v u Q I rx ry h
  obtain ⟨i, j, rfl, rfl, hc, q⟩ := h
  obtain ⟨t, rfl⟩ := rx
  obtain ⟨t', rfl⟩ := ry
  exact rule i j t t' s _ _ hc ⟨.int (g i j), H, I.tok _, ⟨_, rfl⟩, q⟩
theorem opI0 {f : Value → Value → Sem Value} {g : Int → Int → Int}
    (rule : ∀ (i j : Int) (t u : Tok) (s : Shared) (Q : Value → Shared → Prop) (E : Value → Shared → Prop), Q (.int (g i j) s.toks) { s with toks := s.toks + 1 } → wpAny (model X.prog X.w) X.A (f (.int i t) (.int j u)) Q E s) :
    OpR X f (rI0 fun i j => .int (g i j)) := by
  intro pins s σ H x y v u Q I rx ry h
  obtain ⟨i, j, rfl, rfl, q⟩ := h
  obtain ⟨t, rfl⟩ := rx
  obtain ⟨t', rfl⟩ := ry
  exact rule i j t t' s _ _ ⟨.int (g i j), H, I.tok _, ⟨_, rfl⟩, q⟩
theorem opB0 {f : Value → Value → Sem Value} {g : Int → Int → Bool}
    (rule : ∀ (i j : Int) (t u : Tok) (s : Shared) (Q : Value → Shared → Prop) (E : Value → Shared → Prop), Q (.bool (g i j)) s → wpAny (model X.prog X.w) X.A (f (.int i t) (.int j u)) Q E s) :
    OpR X f (rI0 fun i j => .bl (g i j)) := by
  intro pins s σ H x y v u Q I rx ry h
  obtain ⟨i, j, rfl, rfl, q⟩ := h
  obtain ⟨t, rfl⟩ := rx
  obtain ⟨t', rfl⟩ := ry
  exact rule i j t t' s _ _ ⟨.bl (g i j), H, I, rfl, q⟩

def CDiv (i j : Int) : Prop := 0 < j ∧ j < 1073741824
def CDivN (i j : Int) : Prop := j ≠ 0 ∧ j.natAbs < 1073741824
def CPow (i j : Int) : Prop := 0 ≤ j ∧ j ≤ 1000000 ∧ i.natAbs < 2 ^ 64
def CMul (i j : Int) : Prop := (-(2 ^ 64) < i ∧ i < 2 ^ 64) ∨ (-(2 ^ 64) < j ∧ j < 2 ^ 64)
theorem CMul.ok {i j : Int} (h : CMul i j) : IntMulOk i j := by
  rcases h with ⟨h1, h2⟩ | ⟨h1, h2⟩
  · exact .of_left (intBits_le_64 h1 h2)
  · exact .of_right (intBits_le_64 h1 h2)
theorem op_add : OpR X (binaryOp .Add) (rI0 fun i j => .int (i + j)) := opI0 fun _ _ _ _ _ _ _ q => add_int q
theorem op_sub : OpR X (binaryOp .Sub) (rI0 fun i j => .int (i - j)) := opI0 fun _ _ _ _ _ _ _ q => sub_int q
theorem op_modN : OpR X (binaryOp .Mod) (rI (fun _ j => j ≠ 0) fun i j => .int (i.fmod j)) := opI fun _ _ _ _ _ _ _ hc q => mod_int' hc q
/-! ### bools among ints: n += (a < b) -/
end

/-! ### comparisons -/
/-- the scalars that == tells apart as data does -/
def scal : V → V → Bool
  | .non, .non => true | .non, .int _ => true | .int _, .non => true | .non, .bl _ => true | .bl _, .non => true | .non, .str _ => true | .str _, .non => true
  | .int _, .int _ => true | .bl _, .bl _ => true | .str _, .str _ => true | .byt _, .byt _ => true
  | .int _, .str _ => true | .str _, .int _ => true | .bl _, .str _ => true | .str _, .bl _ => true
  | _, _ => false
def rEq : R2 := fun x y H Q => scal x y = true ∧ Q (.bl (decide (x = y))) H
def rNe : R2 := fun x y H Q => scal x y = true ∧ Q (.bl (!decide (x = y))) H

theorem dec_int {i j : Int} : decide (V.int i = V.int j) = (i == j) := by
  rw [Bool.eq_iff_iff]
  simp
theorem dec_bl {i j : Bool} : decide (V.bl i = V.bl j) = (i == j) := by
  rw [Bool.eq_iff_iff]
  simp
theorem dec_str {i j : Str} : decide (V.str i = V.str j) = (i == j) := by
  rw [Bool.eq_iff_iff]
  simp
theorem dec_byt {i j : Array UInt8} : decide (V.byt i = V.byt j) = (i.toList == j.toList) := by
  rw [Bool.eq_iff_iff]
  cases i
  cases j
  simp

section
variable {X : Cx} {a b c : Expr} {ta tb tc : TE} {pos : Pos}
theorem fin_bl {pins : List (Addr × Obj)} {σ : St} {H : Hp} {s : Shared} {Q : VK} {k k' : Bool} (I : Inv X pins σ H s) (q : Q (.bl k) H) (e : k = k') : EP X pins σ Q (.bool k') s := by
  subst e
  exact ⟨.bl k, H, I, rfl, q⟩
theorem op_eq : OpR X (compareOp .Eq) rEq := by
  intro pins s σ H x y v u Q I rx ry h
  obtain ⟨hs, q⟩ := h
  cases x with
  | non =>
    cases rx
    cases y with
    | non => cases ry; exact PySem.EqNone.eq_none_none (fin_bl I q (by simp))
    | bl j => cases ry; exact PySem.EqNone.eq_none_bool (fin_bl I q (by simp))
    | int j => obtain ⟨t', rfl⟩ := ry; exact PySem.EqNone.eq_none_int (fin_bl I q (by simp))
    | str j => obtain ⟨t', rfl⟩ := ry; exact PySem.EqNone.eq_none_str (fin_bl I q (by simp))
    | _ => exact absurd (show false = true from hs) Bool.false_ne_true
  | bl i =>
    cases rx
    cases y with
    | non => cases ry; exact PySem.EqNone.eq_bool_none (fin_bl I q (by simp))
    | bl j => cases ry; exact eq_bool (fin_bl I q dec_bl)
    | str j => obtain ⟨t', rfl⟩ := ry; exact PySem.EqMixed.eq_bool_str (fin_bl I q (by simp))
    | _ => exact absurd (show false = true from hs) Bool.false_ne_true
  | int i =>
    obtain ⟨t, rfl⟩ := rx
    cases y with
    | non => cases ry; exact PySem.EqNone.eq_int_none (fin_bl I q (by simp))
    | int j => obtain ⟨t', rfl⟩ := ry; exact eq_int (fin_bl I q dec_int)
    | str j => obtain ⟨t', rfl⟩ := ry; exact PySem.EqMixed.eq_int_str (fin_bl I q (by simp))
    | _ => exact absurd (show false = true from hs) Bool.false_ne_true
  | str i =>
    obtain ⟨t, rfl⟩ := rx
    cases y with
    | non => cases ry; exact PySem.EqNone.eq_str_none (fin_bl I q (by simp))
    | bl j => cases ry; exact PySem.EqMixed.eq_str_bool (fin_bl I q (by simp))
    | int j => obtain ⟨t', rfl⟩ := ry; exact PySem.EqMixed.eq_str_int (fin_bl I q (by simp))
    | str j => obtain ⟨t', rfl⟩ := ry; exact eq_str (fin_bl I q dec_str)
    | _ => exact absurd (show false = true from hs) Bool.false_ne_true
  | byt i =>
    obtain ⟨t, rfl⟩ := rx
    cases y with
    | byt j => obtain ⟨t', rfl⟩ := ry; exact PySem.W.eq_bytes (fin_bl I q dec_byt)
    | _ => exact absurd (show false = true from hs) Bool.false_ne_true
  | _ => cases y <;> exact absurd (show false = true from hs) Bool.false_ne_true
theorem op_ne : OpR X (compareOp .NotEq) rNe := by
  intro pins s σ H x y v u Q I rx ry h
  obtain ⟨hs, q⟩ := h
  cases x with
  | non =>
    cases rx
    cases y with
    | non => cases ry; exact PySem.EqNone.ne_none_none (fin_bl I q (by simp))
    | bl j => cases ry; exact PySem.EqNone.ne_none_bool (fin_bl I q (by simp))
    | int j => obtain ⟨t', rfl⟩ := ry; exact PySem.EqNone.ne_none_int (fin_bl I q (by simp))
    | str j => obtain ⟨t', rfl⟩ := ry; exact PySem.EqNone.ne_none_str (fin_bl I q (by simp))
    | _ => exact absurd (show false = true from hs) Bool.false_ne_true
  | bl i =>
    cases rx
    cases y with
    | non => cases ry; exact PySem.EqNone.ne_bool_none (fin_bl I q (by simp))
    | bl j => cases ry; exact ne_bool (fin_bl I q (congrArg not dec_bl))
    | str j => obtain ⟨t', rfl⟩ := ry; exact PySem.EqMixed.ne_bool_str (fin_bl I q (by simp))
    | _ => exact absurd (show false = true from hs) Bool.false_ne_true
  | int i =>
    obtain ⟨t, rfl⟩ := rx
    cases y with
    | non => cases ry; exact PySem.EqNone.ne_int_none (fin_bl I q (by simp))
    | int j => obtain ⟨t', rfl⟩ := ry; exact ne_int (fin_bl I q (congrArg not dec_int))
    | str j => obtain ⟨t', rfl⟩ := ry; exact PySem.EqMixed.ne_int_str (fin_bl I q (by simp))
    | _ => exact absurd (show false = true from hs) Bool.false_ne_true
  | str i =>
    obtain ⟨t, rfl⟩ := rx
    cases y with
    | non => cases ry; exact PySem.EqNone.ne_str_none (fin_bl I q (by simp))
    | bl j => cases ry; exact PySem.EqMixed.ne_str_bool (fin_bl I q (by simp))
    | int j => obtain ⟨t', rfl⟩ := ry; exact PySem.EqMixed.ne_str_int (fin_bl I q (by simp))
    | str j => obtain ⟨t', rfl⟩ := ry; exact ne_str (fin_bl I q (congrArg not dec_str))
    | _ => exact absurd (show false = true from hs) Bool.false_ne_true
  | byt i =>
    obtain ⟨t, rfl⟩ := rx
    cases y with
    | byt j => obtain ⟨t', rfl⟩ := ry; exact PySem.W.ne_bytes (fin_bl I q (congrArg not dec_byt))
    | _ => exact absurd (show false = true from hs) Bool.false_ne_true
  | _ => cases y <;> exact absurd (show false = true from hs) Bool.false_ne_true

theorem op_lt : OpR X (compareOp .Lt) (rI0 fun i j => .bl (decide (i < j))) := opB0 fun _ _ _ _ _ _ _ q => lt_int q
/-- is, is not of two objects that are tracked lists or instances -/
def isObj : HO → Bool
  | .lst _ => true
  | .ins _ _ _ => true
  | _ => false
/-- two rules for one operation: by cases -/
theorem OpR.or {f : Value → Value → Sem Value} {r r' : R2} (h : OpR X f r) (h' : OpR X f r') : OpR X f (fun x y H Q => r x y H Q ∨ r' x y H Q) := by
  intro pins s σ H x y v u Q I rx ry q
  rcases q with q | q
  · exact h pins s σ H x y v u Q I rx ry q
  · exact h' pins s σ H x y v u Q I rx ry q

theorem nomark (b : Expr) {op : CmpOp} (h : op ≠ .In := by decide) (h2 : op ≠ .NotIn := by decide) : behindInMarks op b = false := by
  have e1 : (op == CmpOp.In) = false := by cases op <;> first | rfl | exact absurd rfl h
  have e2 : (op == CmpOp.NotIn) = false := by cases op <;> first | rfl | exact absurd rfl h2
  cases b <;> simp [behindInMarks, e1, e2]
/-- a comparison as a value; hm: nomark b, or (for in, not in) by with_unfolding_all rfl -/
theorem pe_cmpR {op : CmpOp} {r : R2} (ho : OpR X (compareOp op) r) (ha : PE X a ta) (hb : PE X b tb) (hm : behindInMarks op b = false) : PE X (.Compare a [op] [b] pos) (tOp r ta tb) := by
  intro pins s σ H Q I h
  exact wpAny_Compare1 (binT ha hb I h fun v u s2 x y H2 I2 rx ry q => ho pins s2 σ H2 x y v u Q I2 rx ry q) hm
/-- a reading of a value as a test -/
def tTest (t : TE) : TT := fun σ H Q => t σ H fun x H' => ∃ k, x = .bl k ∧ Q k H'
theorem pt_cmpR {op : CmpOp} {r : R2} (ho : OpR X (compareOp op) r) (ha : PE X a ta) (hb : PE X b tb) (hm : behindInMarks op b = false) : PT X (.Compare a [op] [b] pos) (tTest (tOp r ta tb)) := by
  intro pins s σ H Q I h
  refine wpAny_isTrue_Compare1 (thn (ha pins s σ H _ I h) fun v s1 ⟨x, H1, I1, r1, q1⟩ => thn (hb pins s1 σ H1 _ I1 q1) fun u s2 ⟨y, H2, I2, r2, q2⟩ =>
    thn (ho pins s2 σ H2 x y v u _ I2 r1 r2 q2) fun c s3 ⟨z, H3, I3, r3, k, e, q3⟩ => ?_) hm
  subst e
  cases r3
  exact wpAny_truthy_bool ⟨H3, I3, q3⟩
/-- a op1 b op2 c -/
def tChain (r r' : R2) (ta tb tc : TE) : TE := fun σ H Q => ta σ H fun x H1 => tb σ H1 fun y H2 => r x y H2 fun z H3 => ∃ k, z = .bl k ∧
  (if k = true then tc σ H3 fun w' H4 => r' y w' H4 Q else Q (.bl false) H3)
/-! ### truth -/
/-- a value's truth by the abstract heap -/
def TruV (K : PySem.W.Frag) (x : V) (H : Hp) (k : Bool) : Prop :=
  match x with
  | .non => k = false
  | .bl b => k = b
  | .int i => k = (i != 0)
  | .str y => y.length ≤ sizeLine ∧ k = ((y.length : Int) != 0)
  | .byt y => y.size ≤ sizeLine ∧ k = ((y.size : Int) != 0)
  | .ref p => (∃ xs, SqL K H p xs ∧ k = !xs.isEmpty) ∨ (∃ xs, SqT K H p xs ∧ k = !xs.isEmpty) ∨ ∃ kvs, H p = some (.dK kvs) ∧ k = !kvs.isEmpty
  | _ => False
theorem line63 : (sizeLine : Nat) < 2 ^ 63 := by rw [sizeLine_eq]; decide
/-! ### strs and bytes -/
theorem op_add_str : OpR X (binaryOp .Add) (fun x y H Q => ∃ i j, x = .str i ∧ y = .str j ∧ i.length + j.length ≤ sizeLine ∧ Q (.str (i ++ j)) H) := by
  intro pins s σ H x y v u Q I rx ry h
  obtain ⟨i, j, rfl, rfl, hz, q⟩ := h
  obtain ⟨t, rfl⟩ := rx
  obtain ⟨t', rfl⟩ := ry
  exact add_str (fun t' tk => ⟨.str (i ++ j), H, I.tok _, ⟨_, rfl⟩, q⟩) hz
def PlainIxT (b : Expr) : Prop := ∀ o i, subscripted b false o i = operate [o, i] (getItem o i)
/-! ### scalar builtins, by CallR -/
theorem vals1 {x : V} {us : List Value} (r : Vals [x] us) : ∃ u, us = [u] ∧ RelV x u := by
  cases r with
  | cons r1 r2 => cases r2; exact ⟨_, rfl, r1⟩
theorem vals2 {x y : V} {us : List Value} (r : Vals [x, y] us) : ∃ u w', us = [u, w'] ∧ RelV x u ∧ RelV y w' := by
  cases r with
  | cons r1 r2 =>
    cases r2 with
    | cons r3 r4 => cases r4; exact ⟨_, _, rfl, r1, r3⟩
/-- len of a str, a bytes, a list, a tuple -/
def LenV (K : PySem.W.Frag) (x : V) (H : Hp) (n : Nat) : Prop :=
  match x with
  | .str y => y.length ≤ sizeLine ∧ n = y.length
  | .byt y => y.size ≤ sizeLine ∧ n = y.size
  | .ref p => (∃ xs, SqL K H p xs ∧ n = xs.length) ∨ ∃ xs, SqT K H p xs ∧ n = xs.length
  | _ => False
end
end L2

namespace L2
open PySem PySem.Spec PyProof.Rows

/-! ### an instance, its attributes a map -/
structure ObjM (h : Heap) (x dx C : Addr) (mA : Str → Option Value) : Prop where
  obj : h.get? x = some (PySem.W.instObj C dx)
  ns : h.Ns1 dx mA
  ne : dx ≠ x

theorem lookIn_ns {h : Heap} {dx : Addr} {mA : Str → Option Value} (n : h.Ns1 dx mA) : ∃ od, h.get? dx = some od ∧ ∀ name, PySem.W.lookIn name od = some (mA name) := by
  obtain ⟨o, es, ep, ho, hd, hk, _, hm⟩ := n
  refine ⟨o, ho, fun name => ?_⟩
  have e := hm name
  unfold nsFind findBy at e
  rw [← Array.find?_toList] at e
  unfold PySem.W.lookIn
  rw [hd]
  dsimp only
  split
  · rename_i y q
    rw [q] at e
    exact congrArg some e
  · rename_i q
    rw [q] at e
    have a : es.toList.any (·.refKey) = false := by
      rw [List.any_eq_false]
      intro y hy
      obtain ⟨z, t, hkey⟩ := hk y (Array.mem_toList_iff.mp hy)
      simp [DictEntry.refKey, hkey]
    have a' : ¬ es.toList.any (·.refKey) = true := by rw [a]; exact Bool.false_ne_true
    rw [if_neg a']
    exact congrArg some e

theorem ObjM.look {h : Heap} {x dx C : Addr} {mA : Str → Option Value} (I : ObjM h x dx C mA) : ∃ od, PySem.W.InstAt h x (PySem.W.instObj C dx) C (some od) ∧ ∀ name, PySem.W.lookIn name od = some (mA name) :=
  let ⟨od, ho, hl⟩ := lookIn_ns I.ns
  ⟨od, ⟨I.obj, rfl, rfl, ho⟩, hl⟩

section
variable {prog : Program} {w : World} {A : Around} {E : Value → Shared → Prop} {s : Shared} {K : PySem.W.Frag} {x dx C f : Addr} {mA : Str → Option Value} {name : Str} {v : Value}

end

/-! ### the attributes as a list of pairs -/
def putF (f : Str) (v : V) : List (Str × V) → List (Str × V)
  | [] => [(f, v)]
  | (g, x) :: r => if g = f then (g, v) :: r else (g, x) :: putF f v r
theorem RelO.some_of {v : V} {o : Option Value} (r : RelO (some v) o) : ∃ u, o = some u ∧ RelV v u := by
  cases o with
  | none => exact (show False from r).elim
  | some u => exact ⟨u, rfl, r⟩
theorem RelO.none_of {o : Option Value} (r : RelO none o) : o = none := by
  cases o with
  | none => rfl
  | some u => exact (show False from r).elim
theorem handed_of {v : V} {u : Value} (r : RelV v u) : PySem.W.handedIn u = true := by
  cases v with
  | non => cases (show u = Value.none from r); rfl
  | bl b => cases (show u = Value.bool b from r); rfl
  | int i => obtain ⟨t, e⟩ := (show ∃ t, u = Value.int i t from r); cases e; rfl
  | str x => obtain ⟨t, e⟩ := (show ∃ t, u = Value.str x t from r); cases e; rfl
  | byt b => obtain ⟨t, e⟩ := (show ∃ t, u = Value.bytes b t from r); cases e; rfl
  | flt b => obtain ⟨t, e⟩ := (show ∃ t, u = Value.float b t from r); cases e; rfl
  | ref a => cases (show u = Value.ref a from r); rfl
  | ty n => cases (show u = Value.type n from r); rfl

section
variable {P : Program} {w : World} {H H' : Hp} {h h' : Heap} {a C dx : Addr} {fs fs' : List (Str × V)}
theorem ins_get (hok : HOk P w H h) (e : H a = some (.ins C dx fs)) : ∃ mA, ObjM h a dx C mA ∧ (∀ f, RelO (fs.lookup f) (mA f)) ∧ PySem.Within mA (fs.map (·.1)) ∧ fs.length ≤ 1000 ∧ H dx = some (.own a) := by
  obtain ⟨d, z, ne, ob, mA, n, r, q⟩ := (show ObjOk P w H h a (.ins C dx fs) from hok a _ e)
  exact ⟨mA, ⟨ob, n, ne⟩, r, q, z, d⟩
end

/-! ### what of the text a class must have -/
structure Cls (K : PySem.W.Frag) (C : Addr) : Prop where
  pg : PySem.W.plainGet K C Str.empty = true
  hd : PySem.W.hasDictIn K C = true
  po : PySem.W.plainOver K C = true
  sa : PySem.W.findIn K (.ref C) "__setattr__" = some (some (.builtin "object.__setattr__"))
theorem Cls.get {K : PySem.W.Frag} {C : Addr} (c : Cls K C) (f : Str) : PySem.W.plainGet K C f = true := c.pg
/-- no class of it has the name -/
def NoAttr (K : PySem.W.Frag) (C : Addr) (f : Str) : Prop := PySem.W.findIn K (.ref C) f = some none
/-- a constant of the class -/
structure Con (K : PySem.W.Frag) (C : Addr) (f : Str) (v : V) (u : Value) : Prop where
  at_ : PySem.W.findIn K (.ref C) f = some (some u)
  rel : RelV v u
  get : PySem.W.specialIn K u "__get__" = some none
  cp : PySem.W.copiedNames.contains f = false
/-- a method: a plain def of the class or of one above it -/
structure Meth (K : PySem.W.Frag) (C : Addr) (m : Str) (f : Addr) : Prop where
  at_ : PySem.W.findIn K (.ref C) m = some (some (.ref f))
  fn : PySem.W.isFn K (.ref f) = true
  kp : PySem.W.keepIn K (.ref f) = true

section
variable {X : Cx} {pins : List (Addr × Obj)} {σ : St} {H : Hp} {s : Shared} {a C dx : Addr} {fs : List (Str × V)} {f : Str} {v : V} {A : Around} {E : Value → Shared → Prop}

/-- a new instance, tracked, without attributes -/
theorem Inv.made (I : Inv X pins σ H s) : Inv X pins σ (upd (upd H s.heap.objs.size (.own (s.heap.objs.size + 1))) (s.heap.objs.size + 1) (.ins C s.heap.objs.size []))
    { s with heap := (s.heap.push PySem.W.emptyDict).push (PySem.W.instObj C s.heap.objs.size) } := by
  have e1 : (s.heap.push PySem.W.emptyDict).get? s.heap.objs.size = some PySem.W.emptyDict := Heap.get?_push_size s.heap rfl
  have e2 : ((s.heap.push PySem.W.emptyDict).push (PySem.W.instObj C s.heap.objs.size)).get? (s.heap.objs.size + 1) = some (PySem.W.instObj C s.heap.objs.size) := by
    have := Heap.get?_push_size (s.heap.push PySem.W.emptyDict) (o := PySem.W.instObj C s.heap.objs.size) rfl
    rwa [Heap.size_push] at this
  have e3 : (s.heap.push PySem.W.emptyDict).Ns s.heap.objs.size (fun _ => none) := ⟨PySem.W.emptyDict, #[], _, e1, rfl, (fun e he => absurd he (by simp)), fun _ => rfl⟩
  have I1 := I.laid (a := s.heap.objs.size) (o := .own (s.heap.objs.size + 1)) (h' := s.heap.push PySem.W.emptyDict) (t' := s.toks) (fun b u q => Heap.get?_push_of_some _ q) (Nat.le_refl _) ⟨_, e1⟩
  refine I1.laid (a := s.heap.objs.size + 1) (o := .ins C s.heap.objs.size []) (t' := s.toks) (fun b u q => Heap.get?_push_of_some _ q) (Nat.le_of_eq (Heap.size_push _ _)) ?_
  have ne : s.heap.objs.size ≠ s.heap.objs.size + 1 := Nat.ne_of_lt (Nat.lt_succ_self _)
  refine ⟨by rw [upd_ne ne, upd_same], Nat.zero_le _, ne, e2, fun _ => none, (Heap.Ns1.of_empty e3).at fun o q => Heap.get?_push_of_some _ q, fun _ => True.intro, fun y hy => absurd rfl hy⟩

/-- e.f where nothing but the object is asked: through attributeBase (super) and the last hold -/
theorem attr_of {prog : Program} {w : World} {env : Env} {e : Expr} {f : Str} {pos : Pos} {s : Shared} {Q : Value → Shared → Prop} (hb : attributeBase e f env (eval e env) = eval e env)
    (h : wpAny (model prog w) A (eval e env) (fun o s₁ => wpAny (model prog w) A (getAttr o f true) Q E s₁) E s) : wpAny (model prog w) A (eval (.Attribute e f pos) env) Q E s :=
  Attribute_any_ h (by rw [arm_eval_Attribute, hb])
end

/-! ### readings and rules -/
/-- e.f, an attribute of the instance -/
def tFld (K : PySem.W.Frag) (ta : TE) (f : Str) : TE := fun σ H Q => ta σ H fun x H1 => ∃ a C dx fs v, x = .ref a ∧ H1 a = some (.ins C dx fs) ∧ Cls K C ∧ NoAttr K C f ∧ fs.lookup f = some v ∧ Q v H1
/-- e.f, a constant of the class -/
def tCon (K : PySem.W.Frag) (ta : TE) (f : Str) : TE := fun σ H Q => ta σ H fun x H1 => ∃ a C dx fs v u, x = .ref a ∧ H1 a = some (.ins C dx fs) ∧ Cls K C ∧ Con K C f v u ∧ fs.lookup f = none ∧ Q v H1
/-- e.f = value -/
def sFld (K : PySem.W.Frag) (ta tv : TE) (f : Str) : TS := fun D σ H => tv σ H fun y H1 => ta σ H1 fun x H2 => ∃ a C dx fs, x = .ref a ∧ H2 a = some (.ins C dx fs) ∧ Cls K C ∧ NoAttr K C f ∧ fs.length < 1000 ∧
  D.nx σ (upd H2 a (.ins C dx (putF f y fs)))
/-- an augmented operator on two values -/
def InOp (X : Cx) (op : Operator) (rd : V → V → Hp → VK → Prop) : Prop :=
  ∀ (pins : List (Addr × Obj)) (s : Shared) (σ : St) (H : Hp) (x y : V) (u v : Value) (Q : VK), Inv X pins σ H s → RelV x u → RelV y v → rd x y H Q → wpAny (model X.prog X.w) X.A (inplaceOp op u v) (EP X pins σ Q) X.xe s
/-- e.f op= value -/
def sFldAug (K : PySem.W.Frag) (ta tv : TE) (rd : V → V → Hp → VK → Prop) (f : Str) : TS := fun D σ H => ta σ H fun x H1 => ∃ a C dx fs v, x = .ref a ∧ H1 a = some (.ins C dx fs) ∧ Cls K C ∧ NoAttr K C f ∧ fs.lookup f = some v ∧
  tv σ H1 fun y H2 => rd v y H2 fun z H3 => ∃ dx' fs', H3 a = some (.ins C dx' fs') ∧ fs'.length < 1000 ∧ D.nx σ (upd H3 a (.ins C dx' (putF f z fs')))

section
variable {X : Cx} {o e value : Expr} {f : Str} {pos pos' tpos : Pos} {ta tv : TE}
def rAdd : V → V → Hp → VK → Prop := fun x y H Q => ∃ i j, x = .int i ∧ y = .int j ∧ Q (.int (i + j)) H
def rSub : V → V → Hp → VK → Prop := fun x y H Q => ∃ i j, x = .int i ∧ y = .int j ∧ Q (.int (i - j)) H
end

/-! ### isinstance -/
section
variable {X : Cx} {pins : List (Addr × Obj)} {σ : St} {H : Hp} {s : Shared} {A : Around} {E : Value → Shared → Prop} {Q : Value → Shared → Prop} {c : Value} {b : Bool}
/-- the type of a value, as the fragment's deciders take it; for an instance its class -/
inductive TyOf (K : PySem.W.Frag) (H : Hp) : V → Value → Prop where
  | non : TyOf K H .non (.type "NoneType")
  | bl (x : Bool) : TyOf K H (.bl x) (.type "bool")
  | int (i : Int) : TyOf K H (.int i) (.type "int")
  | str (x : Str) : TyOf K H (.str x) (.type "str")
  | flt (x : UInt64) : TyOf K H (.flt x) (.type "float")
  | lst {a : Addr} {xs : List V} (e : H a = some (.lst xs)) : TyOf K H (.ref a) (.type "list")
  | frz {a : Addr} {o : Obj} {xs : List V} (e : H a = some (.frz o (.lst xs))) : TyOf K H (.ref a) (.type "list")
  | tup {a : Addr} {xs : List V} (e : H a = some (.tup xs)) : TyOf K H (.ref a) (.type "tuple")
  | dK {a : Addr} {kvs : List (Key × V)} (e : H a = some (.dK kvs)) : TyOf K H (.ref a) (.type "dict")
  | dT {a : Addr} {kvs : List (List Key × V)} (e : H a = some (.dT kvs)) : TyOf K H (.ref a) (.type "dict")
  | ins {a C dx : Addr} {fs : List (Str × V)} (e : H a = some (.ins C dx fs)) (cl : Cls K C) (ha : PySem.W.findIn K (.ref C) "__class__" = some (some (.builtin "object.__class__")))
      (hn : PySem.W.specialIn K (.builtin "object.__class__") "__get__" = some (some (.builtin "getset_descriptor.__get__"))) (htk : PySem.W.takesIn K (.builtin "object.__class__") = some true)
      (hm : PySem.W.mroIn K C (.type "object") = some true) : TyOf K H (.ref a) (.ref C)
/-- isinstance(x, c) for one class c, a built-in or an own one: kitOne's answer -/
theorem isinst_ok {x : V} {u t : Value} (I : Inv X pins σ H s) (rx : RelV x u) (ty : TyOf X.K H x t) (e : PySem.W.kitOne X.K t c = some b) (h : ∀ tk, Q (.bool b) { s with toks := tk }) :
    wpAny (model X.prog X.w) A (call (.builtin "isinstance") [u, c]) Q E s := by
  cases ty with
  | non => cases (show u = Value.none from rx); exact PySem.W.kia_one PySem.W.kitx_none I.kIn True.intro e (fun z => nomatch z) h
  | bl y => cases (show u = Value.bool y from rx); exact PySem.W.kia_one PySem.W.kitx_bool I.kIn True.intro e (fun z => nomatch z) h
  | int i => obtain ⟨t, q⟩ := (show ∃ t, u = Value.int i t from rx); cases q; exact PySem.W.kia_one PySem.W.kitx_int I.kIn True.intro e (fun z => nomatch z) h
  | str y => obtain ⟨t, q⟩ := (show ∃ t, u = Value.str y t from rx); cases q; exact PySem.W.kia_one PySem.W.kitx_str I.kIn True.intro e (fun z => nomatch z) h
  | flt y => obtain ⟨t, q⟩ := (show ∃ t, u = Value.float y t from rx); cases q; exact PySem.W.kia_one PySem.W.kitx_float I.kIn True.intro e (fun z => nomatch z) h
  | @lst a xs ea =>
    cases (show u = Value.ref a from rx)
    obtain ⟨_, _, n, _, h1⟩ := (show ObjOk X.prog X.w H s.heap a (.lst xs) from I.hok a _ ea)
    exact PySem.W.kia_one PySem.W.kitx_list I.kIn ⟨_, h1, rfl⟩ e (fun z => nomatch z) h
  | @frz a ob xs ea =>
    cases (show u = Value.ref a from rx)
    obtain ⟨_, _, _, n, _, h1⟩ := (show ObjOk X.prog X.w H s.heap a (.frz ob (.lst xs)) from I.hok a _ ea)
    exact PySem.W.kia_one PySem.W.kitx_list I.kIn ⟨_, h1, rfl⟩ e (fun z => nomatch z) h
  | @tup a xs ea =>
    cases (show u = Value.ref a from rx)
    obtain ⟨_, _, _, p⟩ := (show ObjOk X.prog X.w H s.heap a (.tup xs) from I.hok a _ ea)
    obtain ⟨o, h1, h2, _⟩ := p
    exact PySem.W.kia_one PySem.W.kitx_tuple I.kIn ⟨o, h1, h2⟩ e (fun z => nomatch z) h
  | @dK a kvs ea =>
    cases (show u = Value.ref a from rx)
    obtain ⟨_, _, vs, _, p⟩ := (show ObjOk X.prog X.w H s.heap a (.dK kvs) from I.hok a _ ea)
    obtain ⟨o, es, ep, h1, h2, _⟩ := p
    exact PySem.W.kia_one PySem.W.kitx_dict I.kIn ⟨o, h1, h2.1⟩ e (fun z => nomatch z) h
  | @dT a kvs ea =>
    cases (show u = Value.ref a from rx)
    obtain ⟨_, _, xs, _, o, es, ep, h1, h2, _⟩ := (show ObjOk X.prog X.w H s.heap a (.dT kvs) from I.hok a _ ea)
    exact PySem.W.kia_one PySem.W.kitx_dict I.kIn ⟨o, h1, h2.1⟩ e (fun z => nomatch z) h
  | @ins a C dx fs ea cl ha hn htk hm =>
    cases (show u = Value.ref a from rx)
    obtain ⟨mA, O, _⟩ := ins_get I.hok ea
    obtain ⟨od, J, _⟩ := O.look
    exact PySem.W.kia_one (PySem.W.kitx_own (cl.get _) cl.hd ha hn htk hm) I.kIn J e (fun z => nomatch z) h
end
end L2

namespace L2
open PySem PySem.Spec PyProof.Rows

/-! ### room -/
structure Room (k : Nat) (A : Around) : Prop where
  hd : A.handled = none
  dp : A.depth + 3 * k + 5 < recursionLimit
  un : A.units + 16 * k + 200 < cLine
theorem Room.mono {j k : Nat} {A : Around} (r : Room k A) (h : j ≤ k) : Room j A := ⟨r.hd, by have := r.dp; omega, by have := r.un; omega⟩
theorem Room.deeper {k : Nat} {A : Around} (r : Room (k + 1) A) (env : Env) : Room k (A.deeper env) :=
  ⟨r.hd, by have := r.dp; show A.depth + 1 + 3 * k + 5 < _; omega, by have := r.un; show A.units + 3 + 16 * k + 200 < _; omega⟩
theorem Room.in1 {k : Nat} {A : Around} (r : Room (k + 1) A) : Room k A.in1 :=
  ⟨r.hd, by have := r.dp; show A.depth + 3 * k + 5 < _; omega, by have := r.un; show A.units + 1 + 16 * k + 200 < _; omega⟩
theorem make_depth {A : Around} {C : Addr} {us : List Value} {kw : List (Str × Value)} : (A.under (.builtin "type.__call__" ⟨.ref C :: us, kw⟩)).depth = A.depth + 1 := by
  first | rfl | simp [Around.under, Code.weight, Code.isCreation, Code.isGuard, Code.isCaller, Code.frames, Code.isFrame, guardIds]
theorem make_units {A : Around} {C : Addr} {us : List Value} {kw : List (Str × Value)} : (A.under (.builtin "type.__call__" ⟨.ref C :: us, kw⟩)).units = A.units + 1 := by
  first | rfl | simp [Around.under, Code.cUnits, Code.frames, Code.isFrame]
theorem Room.make {k : Nat} {A : Around} (r : Room (k + 1) A) (C : Addr) (us : List Value) (kw : List (Str × Value)) : Room k (A.under (.builtin "type.__call__" ⟨.ref C :: us, kw⟩)) :=
  ⟨r.hd, by have := r.dp; rw [make_depth]; omega, by have := r.un; rw [make_units]; omega⟩
theorem Room.depth {k : Nat} {A : Around} (r : Room k A) : A.depth < recursionLimit := by have := r.dp; omega
theorem Room.units {k : Nat} {A : Around} (r : Room k A) : A.units + 64 < cLine := by have := r.un; omega
theorem Room.units0 {k : Nat} {A : Around} (r : Room k A) : A.units < cLine := by have := r.un; omega

/-! ### argument lists and displays -/
def tNil : TA := fun _ H Q => Q [] H
def tCons (ta : TE) (tr : TA) : TA := fun σ H Q => ta σ H fun x H1 => tr σ H1 fun xs H2 => Q (x :: xs) H2
section
variable {X : Cx} {e : Expr} {es : List Expr} {te : TE} {t : TA} {pos : Pos}
theorem pa_nil : PA X [] tNil := fun _ _ _ _ H Q I h => Calls.spliced_nil ⟨[], H, I, .nil, h⟩
theorem pa_cons (ha : PE X e te) (hr : PA X es t) (hs : starEach (e :: es) X.env = (false, eval e X.env) :: starEach es X.env := by rfl) : PA X (e :: es) (tCons te t) := by
  intro pos pins s σ H Q I h
  rw [hs]
  show wpAny _ _ (spliced ((false, eval e X.env) :: backTo pos (starEach es X.env))) _ _ s
  refine Calls.spliced_cons (thn (ha pins s σ H _ I h) fun u s1 ⟨x, H1, I1, r1, q1⟩ => ?_)
  exact thn (hr pos pins s1 σ H1 _ I1 q1) fun us s2 ⟨xs, H2, I2, r2, q2⟩ => ⟨x :: xs, H2, I2, .cons r1 r2, q2⟩

/-- a tuple, a list of written items -/
def tTup (t : TA) : TE := fun σ H Q => t σ H fun xs H1 => xs.length ≤ sizeLine ∧ ∀ p, H1 p = none → Q (.ref p) (upd H1 p (.tup xs))
def tLst (t : TA) : TE := fun σ H Q => t σ H fun xs H1 => xs.length ≤ sizeLine ∧ ∀ p, H1 p = none → Q (.ref p) (upd H1 p (.lst xs))
theorem pe_lst (h : PA X es t) : PE X (.List es pos) (tLst t) := by
  intro pins s σ H Q I hq
  refine wpAny_List_spliced (thn (h pos pins s σ H _ I hq) fun us s1 ⟨xs, H1, I1, r, z, q⟩ => ⟨by rw [← r.length]; exact z, ?_⟩)
  have hf : H1 s1.heap.objs.size = none := I1.hok.fresh (Nat.le_refl _)
  refine ⟨.ref s1.heap.objs.size, upd H1 s1.heap.objs.size (.lst xs), I1.laid (t' := s1.toks) (fun b u e => Heap.get?_push_of_some _ e) (Nat.le_refl _) ?_, rfl, q _ hf⟩
  exact ⟨z, us, 0, r, Heap.get?_push_size _ rfl⟩
end

/-! ### what a def promises -/
/-- a def's promise: the bound arguments in the parameters' order, the heap, the wanted end, the wanted exception -/
abbrev Sp := List V → Hp → VK → XK → Prop
/-- how an exception lies behind a call (file 08 gives it): the callers' frames, abstract heap and state ahead of the call, the wish, the exception, the state -/
abbrev CXT := List Env → Hp → Shared → XK → Value → Shared → Prop

/-- the state at a call -/
structure Env0 (P : Program) (w : World) (K : PySem.W.Frag) (mg : Str → Option Value) (base : Heap) (A : Around) (outer : List Env) (s : Shared) (H : Hp) : Prop where
  frames : A.frames = some outer
  mod : Mod K mg base
  bs : ∀ b o, base.get? b = some o → s.heap.get? b = some o ∧ H b = none
  bsz : base.objs.size ≤ s.heap.objs.size
  funs : s.heap.FunFrames base outer
  frf : ∀ b ∈ frs outer, H b = none
  hok : HOk P w H s.heap
  bare : AllBare s.gens
/-- a call's end -/
def CE (outer : List Env) (P : Program) (w : World) (H : Hp) (s : Shared) (Q : VK) (u : Value) (s' : Shared) : Prop :=
  ∃ v H', s'.os = s.os ∧ AllBare s'.gens ∧ Un (frs outer) [] H H' s.heap s'.heap ∧ HOk P w H' s'.heap ∧ RelV v u ∧ Q v H'
def CR (CX : CXT) (outer : List Env) (P : Program) (w : World) (H : Hp) (s : Shared) (Q : VK) (E : XK) (r : Result) (s' : Shared) : Prop :=
  match r with
  | .ok (.ret u) => CE outer P w H s Q u s'
  | .ok _ => False
  | .error e => CX outer H s E e s'
structure FnOk (P : Program) (w : World) (K : PySem.W.Frag) (mg : Str → Option Value) (base : Heap) (CX : CXT) (k : Nat) (f : Addr) (fd : FuncData) (ps : List Str) (sp : Sp) : Prop where
  len : ∀ vs H Q E, sp vs H Q E → vs.length = ps.length
  run : ∀ (A : Around) (outer : List Env) (s : Shared) (H : Hp) (args : Args) (us : List Value) (vs : List V) (Q : VK) (E : XK), Room k A → Env0 P w K mg base A outer s H → BindsTo s fd args (ps.zip us) → Vals vs us → sp vs H Q E →
    codeAny (model P w) A (.call (.ref f) args) (CR CX outer P w H s Q E) s
theorem FnOk.mono {P : Program} {w : World} {K : PySem.W.Frag} {mg : Str → Option Value} {base : Heap} {CX : CXT} {j k : Nat} {f : Addr} {fd : FuncData} {ps : List Str} {sp : Sp} (F : FnOk P w K mg base CX j f fd ps sp) (h : j ≤ k) :
    FnOk P w K mg base CX k f fd ps sp := ⟨F.len, fun A outer s H args us vs Q E hr => F.run A outer s H args us vs Q E (hr.mono h)⟩
theorem Env0.make {P : Program} {w : World} {K : PySem.W.Frag} {mg : Str → Option Value} {base : Heap} {A : Around} {outer : List Env} {s : Shared} {H : Hp} (e : Env0 P w K mg base A outer s H) (C : Addr) (us : List Value) (kw : List (Str × Value)) :
    Env0 P w K mg base (A.under (.builtin "type.__call__" ⟨.ref C :: us, kw⟩)) outer s H := ⟨by first | exact e.frames | (simpa [Around.under, Code.envs, Code.isFrame, pushEnvs] using e.frames), e.mod, e.bs, e.bsz, e.funs, e.frf, e.hok, e.bare⟩
theorem Env0.in1 {P : Program} {w : World} {K : PySem.W.Frag} {mg : Str → Option Value} {base : Heap} {A : Around} {outer : List Env} {s : Shared} {H : Hp} (e : Env0 P w K mg base A outer s H) :
    Env0 P w K mg base A.in1 outer s H := ⟨e.frames, e.mod, e.bs, e.bsz, e.funs, e.frf, e.hok, e.bare⟩

section
variable {X : Cx} {pins : List (Addr × Obj)} {σ : St} {H : Hp} {s s' : Shared}
/-- from a body: what a callee wants -/
theorem Inv.env0 (I : Inv X pins σ H s) : Env0 X.prog X.w X.K X.mg X.base X.A X.stack s H :=
  ⟨I.ok.frames, I.ok.mod, I.bs, Nat.le_trans I.ok.bsz I.sz, I.stack, I.stkFree, I.hok, I.bare⟩
/-- behind a call -/
theorem Inv.after {Q : VK} {u : Value} (I : Inv X pins σ H s) (h : CE X.stack X.prog X.w H s Q u s') : EP X pins σ Q u s' := by
  obtain ⟨v, H', os, bare, un, hok, r, q⟩ := h
  obtain ⟨hh, g, d, t, os'⟩ := s'
  obtain rfl : os' = s.os := os
  exact ⟨v, H', I.call (h' := hh) (g' := g) (d' := d) (t' := t) (ch := []) un hok bare (fun b z => absurd z (by simp)), r, q⟩
end

/-! ### calls -/
/-- f(..): the written arguments, then the defaults dvs; E: what is wanted of an exception -/
def tCall (sp : Sp) (dvs : List V) (E : XK) (t : TA) : TE := fun σ H Q => t σ H fun vs H1 => sp (vs ++ dvs) H1 Q E
/-- o.m(..) of an instance of the class at C -/
def tMeth (C : Addr) (m : Str) (sp : Sp) (dvs : List V) (E : XK) (ta : TE) (t : TA) : TE := fun σ H Q => ta σ H fun x H1 => ∃ a dx fs, x = .ref a ∧ H1 a = some (.ins C dx fs) ∧ fs.lookup m = none ∧
  t σ H1 fun vs H2 => sp (x :: (vs ++ dvs)) H2 Q E
/-- C(..): a new instance and its dict, then __init__ -/
def tMake (C : Addr) (sp : Sp) (dvs : List V) (E : XK) (t : TA) : TE := fun σ H Q => t σ H fun vs H1 => ∀ x dx, H1 x = none → H1 dx = none → dx ≠ x →
  sp (.ref x :: (vs ++ dvs)) (upd (upd H1 dx (.own x)) x (.ins C dx [])) (fun v H2 => v = .non ∧ Q (.ref x) H2) E

/-- how the parameters are bound: us the positional arguments, kw the keywords' values by name, ds the defaults that fill up -/
def Binds (K : PySem.W.Frag) (fd : FuncData) (ps : List Str) (ds : List Value) : Prop :=
  ∀ (s : Shared) (us : List Value), K.In s.heap → (us ++ ds).length = ps.length → BindsTo s fd ⟨us, []⟩ (ps.zip (us ++ ds))
/-- every parameter is given -/
theorem Binds.all {K : PySem.W.Frag} {fd : FuncData} {ps : List Str} (h : ∀ us : List Value, us.length = ps.length → bindArgs fd ⟨us, []⟩ = pure (ps.zip us)) : Binds K fd ps [] := fun s us _ hl => by
  rw [List.append_nil] at hl ⊢
  exact .of_eq (h us hl)

/-- an exception of a callee reaches what this body wants of exceptions -/
def Passes (CX : CXT) (X : Cx) (E : XK) : Prop := ∀ (pins : List (Addr × Obj)) (σ : St) (H : Hp) (s : Shared) (e : Value) (s' : Shared), Inv X pins σ H s → CX X.stack H s E e s' → X.xe e s'

section
variable {X : Cx} {CX : CXT} {k : Nat} {f C : Addr} {fd : FuncData} {ps : List Str} {sp : Sp} {dvs : List V} {ds : List Value} {E : XK} {x m : Str} {p pos apos : Pos} {e o : Expr} {es : List Expr} {ta : TE} {t : TA}

/-- the callee runs -/
theorem run_fn {pins : List (Addr × Obj)} {σ : St} {H : Hp} {s : Shared} {Q : VK} {us : List Value} {vs : List V} (F : FnOk X.prog X.w X.K X.mg X.base CX k f fd ps sp) (hr : Room k X.A) (hb : Binds X.K fd ps ds) (hd : Vals dvs ds) (hx : Passes CX X E)
    (I : Inv X pins σ H s) (r : Vals vs us) (h : sp (vs ++ dvs) H Q E) : wpAny (model X.prog X.w) X.A (call (.ref f) us) (EP X pins σ Q) X.xe s := by
  have r2 : Vals (vs ++ dvs) (us ++ ds) := r.append hd
  have hl : (us ++ ds).length = ps.length := by rw [← r2.length]; exact F.len _ _ _ _ h
  refine wpAny_call (codeAny_mono (F.run X.A X.stack s H ⟨us, []⟩ (us ++ ds) (vs ++ dvs) Q E hr I.env0 (hb s us I.kIn hl) r2 h) fun r s' hq => ?_)
  cases r with
  | error e => exact hx pins σ H s e s' I hq
  | ok fl =>
    cases fl with
    | ret u => exact I.after hq
    | next => exact False.elim hq
    | brk => exact False.elim hq
    | cont => exact False.elim hq

theorem pe_call (F : FnOk X.prog X.w X.K X.mg X.base CX k f fd ps sp) (hr : Room k X.A) (hg : Gl X x) (hm : X.mg x = some (.ref f)) (hk : PySem.W.keepIn X.K (.ref f) = true) (hb : Binds X.K fd ps ds) (hd : Vals dvs ds) (hx : Passes CX X E)
    (ha : PA X (e :: es) t) (hdb : (x == ("__debug__" : Str)) = false := by decide) (he : starEach (e :: es) X.env = (false, eval e X.env) :: starEach es X.env := by rfl) (hpl : (backTo pos (starEach es X.env)).any (·.1) = false := by rfl) :
    PE X (.Call (.Name x p) (e :: es) [] pos) (tCall sp dvs E t) := by
  intro pins s σ H Q I h
  refine wpAny_Call_Name_kw (ld_glob I hg hm ?_ hdb)
  refine PySem.W.callWith_K (h₀ := X.base) I.ok.mod.kin hk (thn (ha pos pins s σ H _ I h) fun us s1 ⟨vs, H1, I1, r, q⟩ => ⟨I1.kIn, ?_⟩) he hpl
  exact run_fn F hr hb hd hx I1 r q
/-- what a class must have to be made -/
structure Mk (K : PySem.W.Frag) (C f : Addr) : Prop where
  makes : PySem.W.makesIn K C = true
  init : PySem.W.findIn K (.ref C) "__init__" = some (some (.ref f))
  fn : PySem.W.isFn K (.ref f) = true
  kp : PySem.W.keepIn K (.ref C) = true

end

/-! ### keywords -/
/-- the values of the keywords, from the left -/
def PK (X : Cx) (kws : List Keyword) (t : TA) : Prop :=
  ∀ (pos : Pos) (pins : List (Addr × Obj)) (s : Shared) (σ : St) (H : Hp) (Q : List V → Hp → Prop), Inv X pins σ H s → t σ H Q → wpAny (model X.prog X.w) X.A (evalAll ((backToKw pos (keywordEach kws X.env)).map (·.2))) (AP X pins σ Q) X.xe s
section
variable {X : Cx} {CX : CXT} {k : Nat} {f C : Addr} {fd : FuncData} {ps ks : List Str} {sp : Sp} {E : XK} {x m : Str} {p pos apos kpos : Pos} {e o : Expr} {es : List Expr} {kws : List Keyword} {te ta : TE} {t tk : TA} {nm : Option Str}
/-- how a call with keywords binds: g puts the positional values us and the keywords' values ws (names ks) in the parameters' order, defaults among them -/
structure KBinds (K : PySem.W.Frag) (fd : FuncData) (ps ks : List Str) (g : List Value → List Value → List Value) (gV : List V → List V → List V) : Prop where
  to : ∀ (s : Shared) (us ws : List Value), K.In s.heap → (g us ws).length = ps.length → BindsTo s fd ⟨us, ks.zip ws⟩ (ps.zip (g us ws))
  rel : ∀ {vs : List V} {us : List Value} {zs : List V} {ws : List Value}, Vals vs us → Vals zs ws → Vals (gV vs zs) (g us ws)
def tCallK (sp : Sp) (gV : List V → List V → List V) (E : XK) (t tk : TA) : TE := fun σ H Q => t σ H fun vs H1 => tk σ H1 fun zs H2 => sp (gV vs zs) H2 Q E
variable {g : List Value → List Value → List Value} {gV : List V → List V → List V}
end

/-! ### a def's body keeps its promise -/
/-- names: the parameters first -/
structure FnScope (N P : List Str) (sc : Scope) : Prop where
  kind : sc.kind = .function
  co : sc.isCoroutine = false
  gen : sc.isGenerator = false
  nd : N.Nodup
  pre : N.take P.length = P
  par : ∀ x ∈ P, sc.names.lookup x = some .local ∨ sc.names.lookup x = some .cell
  nofree : ∀ y ∈ sc.names, y.2 ≠ .free

theorem bindL_out {kindOf : Str → Option NameKind} {x : Str} : ∀ {binds : List (Str × Value)} {m : Str → Option Value}, (∀ v, (x, v) ∉ binds) → bindL kindOf binds m x = m x
  | [], _, _ => rfl
  | (n, v) :: r, m, h => by
    unfold bindL
    rw [bindL_out fun w hw => h w (List.mem_cons_of_mem _ hw)]
    split
    · have : x ≠ n := by rintro rfl; exact h v List.mem_cons_self
      simp [this]
    · rfl
theorem bindC_out {kindOf : Str → Option NameKind} {x : Str} : ∀ {binds : List (Str × Value)} {m : Str → Option Value}, (∀ v, (x, v) ∉ binds) → bindC kindOf binds m x = m x
  | [], _, _ => rfl
  | (n, v) :: r, m, h => by
    unfold bindC
    rw [bindC_out fun w hw => h w (List.mem_cons_of_mem _ hw)]
    split
    · rfl
    · have : x ≠ n := by rintro rfl; exact h v List.mem_cons_self
      simp [this]
theorem bindL_get {kindOf : Str → Option NameKind} {x : Str} {v : Value} : ∀ {P : List Str} {vs : List Value} {i : Nat} {m : Str → Option Value}, P.Nodup → P[i]? = some x → vs[i]? = some v → kindOf x = some .local →
    bindL kindOf (P.zip vs) m x = some v
  | [], _, _, _, _, h, _, _ => by simp at h
  | _ :: _, [], _, _, _, _, h, _ => by simp at h
  | p :: P, w :: vs, 0, m, nd, h1, h2, hk => by
    simp at h1 h2; subst h1; subst h2
    show bindL kindOf ((p, w) :: P.zip vs) m p = _
    unfold bindL
    rw [bindL_out fun v hv => (List.nodup_cons.mp nd).1 (List.of_mem_zip hv).1, if_pos hk]
    simp
  | p :: P, w :: vs, i + 1, m, nd, h1, h2, hk => by
    show bindL kindOf ((p, w) :: P.zip vs) m x = _
    unfold bindL
    exact bindL_get (i := i) (List.nodup_cons.mp nd).2 (by simpa using h1) (by simpa using h2) hk
theorem bindC_get {kindOf : Str → Option NameKind} {x : Str} {v : Value} : ∀ {P : List Str} {vs : List Value} {i : Nat} {m : Str → Option Value}, P.Nodup → P[i]? = some x → vs[i]? = some v → kindOf x ≠ some .local →
    bindC kindOf (P.zip vs) m x = some v
  | [], _, _, _, _, h, _, _ => by simp at h
  | _ :: _, [], _, _, _, _, h, _ => by simp at h
  | p :: P, w :: vs, 0, m, nd, h1, h2, hk => by
    simp at h1 h2; subst h1; subst h2
    show bindC kindOf ((p, w) :: P.zip vs) m p = _
    unfold bindC
    rw [bindC_out fun v hv => (List.nodup_cons.mp nd).1 (List.of_mem_zip hv).1, if_neg hk]
    simp
  | p :: P, w :: vs, i + 1, m, nd, h1, h2, hk => by
    show bindC kindOf ((p, w) :: P.zip vs) m x = _
    unfold bindC
    exact bindC_get (i := i) (List.nodup_cons.mp nd).2 (by simpa using h1) (by simpa using h2) hk

/-- the names' values at the entry -/
def start (N : List Str) (vs : List V) : St := vs.map some ++ List.replicate (N.length - vs.length) none

/-- the context of a def's body, at its entry; an exception leaves the frame, then lies as CX says -/
def cxOf (CX : CXT) (P : Program) (w : World) (K : PySem.W.Frag) (mg : Str → Option Value) (base : Heap) (N : List Str) (qual : Str) (scope : Scope) (f : Addr) (cd : Value) (A : Around) (outer : List Env) (s : Shared) (H : Hp) (E : XK) : Cx where
  prog := P
  w := w
  K := K
  mg := mg
  base := base
  A := A.deeper (envOfC qual scope s.heap.objs.size f cd)
  N := N
  s₀ := s
  H₀ := H
  env := envOfC qual scope s.heap.objs.size f cd
  outer := outer
  stack := envOfC qual scope s.heap.objs.size f cd :: outer
  ex := []
  calm := true
  fn := fun _ => true
  pn := []
  xe := fun e s' => wpAny (model P w) (A.deeper (envOfC qual scope s.heap.objs.size f cd)) (leaving (envOfC qual scope s.heap.objs.size f cd) e) (fun _ s'' => CX outer H s E e s'') (fun e' s'' => CX outer H s E e' s'') s'

theorem cell_has {sc : Scope} {n : Nat} {x : Str} (h : sc.names.lookup x = some .cell) : ∃ c, (cellsFrom n sc.names []).lookup x = some c := by
  have q := PySem.W.cellsFrom_some sc.names n [] (.inl h)
  exact Option.isSome_iff_exists.mp q

theorem inv_start {CX : CXT} {P : Program} {w : World} {K : PySem.W.Frag} {mg : Str → Option Value} {base : Heap} {N ps : List Str} {qual : Str} {scope : Scope} {f : Addr} {cd : Value} {A : Around} {outer : List Env} {s s1 : Shared} {H : Hp} {E : XK} {us : List Value} {vs : List V}
    (S : FnScope N ps scope) (hd : A.handled = none) (e0 : Env0 P w K mg base A outer s H) (hl : vs.length = ps.length) (r : Vals vs us)
    (x : InCallC s s.heap.objs.size (bindL (envOfC qual scope s.heap.objs.size f cd).kindOf (ps.zip us) fun _ => none) (cellsFrom (s.heap.objs.size + 1) scope.names []) (bindC (envOfC qual scope s.heap.objs.size f cd).kindOf (ps.zip us) fun _ => none) s1) :
    Inv (cxOf CX P w K mg base N qual scope f cd A outer s H E) [] (start N vs) H s1 := by
  have hpl : ps.length ≤ N.length := by have := congrArg List.length S.pre; rw [List.length_take] at this; omega
  obtain ⟨h1, tk, rfl, hk⟩ := x.done
  have noA : ∀ b : Addr, b ∉ (cxOf CX P w K mg base N qual scope f cd A outer s H E).ex := fun b z => absurd (show b ∈ ([] : List Addr) from z) (by simp)
  refine ⟨⟨e0.mod, S.kind, rfl, rfl, Nat.le_refl _, fun y z c h1 h2 => ?_, fun y hy => ?_, fun y c _ h => ?_, fun _ => hd, Around.frames_deeper e0.frames, .inr ⟨rfl, rfl⟩, fun b z => absurd z (noA b), e0.bs, e0.bsz, fun b _ _ => noA b, fun b z => absurd z (noA b), e0.funs, e0.frf⟩,
    rfl, e0.bare, Un.kept hk, ⟨_, x.toInCall.ns, fun i y v h1 h2 h3 => ?_⟩, fun y c h => ⟨_, x.cell y c h⟩, e0.hok.fresh (Nat.le_refl _), fun y c h => ?_, fun p hp => absurd (show p ∈ ([] : List (Addr × Obj)) from hp) (by simp), e0.hok.kept hk, ?_⟩
  · exact name_of_addr x.apart (PySem.mem_of_lookup h1) (PySem.mem_of_lookup h2)
  · have hy : scope.names.lookup y = some .cell ∨ scope.names.lookup y = some .free := hy
    rcases hy with hy | hy
    · exact cell_has hy
    · exact absurd rfl (S.nofree _ (PySem.mem_of_lookup hy))
  · exact Nat.le_of_lt (x.above y c (PySem.mem_of_lookup h))
  · have hi : i < vs.length := by
      unfold start at h2
      by_cases hi : i < vs.length
      · exact hi
      · rw [List.getElem?_append_right (by simpa using hi)] at h2
        rw [List.getElem?_replicate] at h2
        split at h2 <;> cases h2
    have ha : vs[i]? = some v := by
      unfold start at h2
      rw [List.getElem?_append_left (by simpa using hi), List.getElem?_map] at h2
      cases e : vs[i]? with
      | none => rw [e] at h2; cases h2
      | some a => rw [e] at h2; cases h2; rfl
    obtain ⟨u, hu, rv⟩ := r.get ha
    have hp : ps[i]? = some y := by
      rw [← S.pre, List.getElem?_take_of_lt (by omega)]; exact h1
    have ndP : ps.Nodup := by rw [← S.pre]; exact S.nd.sublist (List.take_sublist _ _)
    refine ⟨u, rv, ?_⟩
    rcases S.par y (List.mem_of_getElem? hp) with k | k
    · exact .inl ⟨k, bindL_get ndP hp hu k⟩
    · obtain ⟨c, e⟩ := cell_has (n := s.heap.objs.size + 1) k
      refine .inr ⟨.inl k, c, e, ?_⟩
      have q := x.cell y c e
      rw [bindC_get ndP hp hu (by show scope.names.lookup y ≠ _; rw [k]; decide)] at q
      exact q
  · exact e0.hok.fresh (Nat.le_of_lt (x.above y c (PySem.mem_of_lookup h)))
  · unfold start
    show _ = N.length
    rw [List.length_append, List.length_map, List.length_replicate]
    omega

/-- THE RULE: a def (or a method) of the text, by its body. The body's reading t is chosen for each entry; it is run at the parameters' values -/
theorem fn_of {CX : CXT} {P : Program} {w : World} {K : PySem.W.Frag} {mg : Str → Option Value} {base : Heap} {k : Nat} {f : Addr} {name qual : Str} {params : Arguments} {body : List Stmt} {scope : Scope} {dV kV doc pm cdv ct oc : Value} {an od : Option Addr}
    {osl : Array (Option Value)} {N ps : List Str} {sp : Sp} (lk : K.lookup f = some ⟨oc, od, .func (PySem.W.fnOf name qual params body scope dV kV doc pm an cdv ct), osl⟩) (hcd : PySem.W.codeIn K cdv qual = true) (S : FnScope N ps scope)
    (len : ∀ vs H Q E, sp vs H Q E → vs.length = ps.length)
    (hbody : ∀ (A : Around) (outer : List Env) (s : Shared) (H : Hp) (vs : List V) (Q : VK) (E : XK), Room k (A.deeper (envOfC qual scope s.heap.objs.size f cdv)) → sp vs H Q E →
      ∃ t, PSs (cxOf CX P w K mg base N qual scope f cdv A outer s H E) body t ∧ t { nx := fun _ H' => Q .non H', rt := Q } (start N vs) H) :
    FnOk P w K mg base CX (k + 1) f (PySem.W.fnOf name qual params body scope dV kV doc pm an cdv ct) ps sp := by
  refine ⟨len, fun A outer s H args us vs Q E hr e0 hb r hsp => ?_⟩
  have hl := len _ _ _ _ hsp
  have KX : K.In s.heap := e0.mod.kin.keeps fun b o e => (e0.bs b o e).1
  have lim : s.heap.NoLimit := e0.mod.nolimit.keeps fun b o e => (e0.bs b o e).1
  have hkind : ∀ y ∈ ps.zip us, scope.names.lookup y.1 = some .local ∨ (scope.names.lookup y.1 = some .cell ∧ ((cellsFrom (s.heap.objs.size + 1) scope.names []).lookup y.1).isSome = true) := fun ⟨n, v⟩ hy => by
    rcases S.par n (List.of_mem_zip hy).1 with q | q
    · exact .inl q
    · exact .inr ⟨q, PySem.W.cellsFrom_some _ _ _ (.inl q)⟩
  refine codeAny_call_function hr.depth (KX _ _ lk) rfl S.co S.gen rfl (PySem.W.codeRec_of KX hcd) (hb _ _ _ _ ?_)
  refine wpAny_newFunctionEnv_cells S.kind hkind fun env he s1 x => ?_
  subst he
  refine ⟨lim.keeps x.toInCall.keep, codeAny_func ?_⟩
  obtain ⟨t, ht, hq⟩ := hbody A outer s H vs Q E (hr.deeper _) hsp
  have I : Inv (cxOf CX P w K mg base N qual scope f cdv A outer s H E) [] (start N vs) H s1 := inv_start S hr.hd e0 hl r x
  refine wpAny_mono (ht [] s1 (start N vs) H _ I hq) (fun fl s' hs => ?_) fun e s' hs => hs
  have fin : ∀ {σ' : St} {H' : Hp} {v : V} {u : Value}, Inv (cxOf CX P w K mg base N qual scope f cdv A outer s H E) [] σ' H' s' → RelV v u → Q v H' → CE outer P w H s Q u s' :=
    fun {σ' H' v u} J rv q => ⟨v, H', J.os, J.bare, J.base, J.hok, rv, q⟩
  cases fl with
  | ret u =>
    obtain ⟨v, σ', H', J, rv, q⟩ := hs
    exact fin J rv q
  | next =>
    obtain ⟨σ', H', J, q⟩ := hs
    exact fin (v := V.non) (u := Value.none) J rfl q
  | brk =>
    obtain ⟨_, _, _, q⟩ := hs
    exact False.elim q
  | cont =>
    obtain ⟨_, _, _, q⟩ := hs
    exact False.elim q
end L2

namespace L2
open PySem PySem.Spec PyProof.Rows
section
variable {X : Cx} {x : Str} {p pos : Pos} {e : Expr} {es : List Expr} {t : TA} {id T : String} {r : List V → Hp → VK → Prop}

def tCB (r : List V → Hp → VK → Prop) (t : TA) : TE := fun σ H Q => t σ H fun vs H1 => r vs H1 Q
/-- f(e, ..), f a built-in function -/
theorem pe_callB (hc : CallR X (.builtin id) r) (hg : Gl X x) (hm : X.mg x = none) (hv : bootBuiltins x = some (.builtin id)) (ha : PA X (e :: es) t) (hn : x ≠ "__name__" := by decide) (hdb : (x == ("__debug__" : Str)) = false := by decide)
    (he : starEach (e :: es) X.env = (false, eval e X.env) :: starEach es X.env := by rfl) (hpl : (backTo pos (starEach es X.env)).any (·.1) = false := by rfl) : PE X (.Call (.Name x p) (e :: es) [] pos) (tCB r t) := by
  intro pins s σ H Q I h
  refine wpAny_Call_Name_kw (ld_blt I hg hm hv ?_ hn hdb)
  exact PyProof.Rows.callWith_builtin1 (thn (ha pos pins s σ H _ I h) fun us s1 ⟨vs, H1, I1, r1, q1⟩ => hc pins s1 σ H1 vs us Q I1 r1 q1) he hpl
/-- T(e, ..), T a built-in type -/
theorem pe_callTy (hc : CallR X (.type T) r) (hg : Gl X x) (hm : X.mg x = none) (hv : bootBuiltins x = some (.type T)) (ha : PA X (e :: es) t) (hn : x ≠ "__name__" := by decide) (hdb : (x == ("__debug__" : Str)) = false := by decide)
    (he : starEach (e :: es) X.env = (false, eval e X.env) :: starEach es X.env := by rfl) (hpl : (backTo pos (starEach es X.env)).any (·.1) = false := by rfl) : PE X (.Call (.Name x p) (e :: es) [] pos) (tCB r t) := by
  intro pins s σ H Q I h
  refine wpAny_Call_Name_kw (ld_blt I hg hm hv ?_ hn hdb)
  exact PyProof.Rows.callWith_type1 (thn (ha pos pins s σ H _ I h) fun us s1 ⟨vs, H1, I1, r1, q1⟩ => hc pins s1 σ H1 vs us Q I1 r1 q1) he hpl
end
end L2

namespace HT
open PySem PyProof.Rows

/-- t < u of tuples of ints -/
def lexLt : List Int → List Int → Bool
  | [], [] => false
  | [], _ :: _ => true
  | _ :: _, [] => false
  | x :: xs, y :: ys => if x = y then lexLt xs ys else decide (x < y)
section
open PySem.SeqAt
open PySem.AutoSeq1 (wpAny_loadPart')
open PySem.MeetsSeq PySem.MeetsSeq2 PySem.MeetsSeq3

end

section
variable {prog : Program} {w : World} {A : Around} {E : Value → Shared → Prop} {s : Shared}

/-! ### t[a:b], not the whole -/
/-- a slice's bound as a place among n (d where it is left out) -/
def sIx (n d : Nat) : Option Int → Nat
  | none => d
  | some v => if v < 0 then (v + (n : Int)).toNat else min v.toNat n
end
end HT

namespace L2
open PySem PySem.Spec PyProof.Rows

/-! ### the parts of a slice -/
abbrev TO := St → Hp → (Option Int → Hp → Prop) → Prop
/-- a slice's part (left out, or an int) -/
def PO (X : Cx) (e : Option Expr) (t : TO) : Prop :=
  ∀ (pins : List (Addr × Obj)) (s : Shared) (σ : St) (H : Hp) (Q : Option Int → Hp → Prop), Inv X pins σ H s → t σ H Q →
    wpAny (model X.prog X.w) X.A (evalPart e X.env) (fun u s' => ∃ o H', Inv X pins σ H' s' ∧ IsPart u o ∧ Q o H') X.xe s
def tNoPart : TO := fun _ H Q => Q none H
def tPart (t : TE) : TO := fun σ H Q => t σ H fun x H1 => ∃ i, x = .int i ∧ Q (some i) H1

section
variable {X : Cx} {e : Expr} {te : TE} {lo hi : Option Expr} {tl th : TO} {pos p2 : Pos}

/-- what a slice of a value is, by values: the slice object stands at sl -/
def SlR (X : Cx) (r : V → Option Int → Option Int → Hp → VK → Prop) : Prop :=
  ∀ (pins : List (Addr × Obj)) (s : Shared) (σ : St) (H : Hp) (x : V) (v vl vu : Value) (lo hi : Option Int) (sl : Addr) (Q : VK), Inv X pins σ H s → RelV x v → s.heap.IsSliceOf sl vl vu .none → IsPart vl lo → IsPart vu hi → r x lo hi H Q →
    ∃ T id, typeLookup (.type T) "__getitem__" = pure (some (.builtin id)) ∧ s.TypeIs v T ∧ wpAny (model X.prog X.w) X.A (getItem v (.ref sl)) (EP X pins σ Q) X.xe s
theorem SlR.or {r r' : V → Option Int → Option Int → Hp → VK → Prop} (h : SlR X r) (h' : SlR X r') : SlR X (fun x lo hi H Q => r x lo hi H Q ∨ r' x lo hi H Q) := by
  intro pins s σ H x v vl vu lo hi sl Q I rx hs pl pu q
  rcases q with q | q
  · exact h pins s σ H x v vl vu lo hi sl Q I rx hs pl pu q
  · exact h' pins s σ H x v vl vu lo hi sl Q I rx hs pl pu q
def tSl (r : V → Option Int → Option Int → Hp → VK → Prop) (te : TE) (tl th : TO) : TE := fun σ H Q => te σ H fun x H1 => tl σ H1 fun l H2 => th σ H2 fun u H3 => r x l u H3 Q
/-- the items of xs[lo:hi] -/
def cutV (xs : List V) (lo hi : Option Int) : List V := (xs.drop (HT.sIx xs.length 0 lo)).take (HT.sIx xs.length xs.length hi - HT.sIx xs.length 0 lo)
/-- t[lo:hi], not the whole of it (the whole would be t itself) -/
def rSlT (K : PySem.W.Frag) : V → Option Int → Option Int → Hp → VK → Prop := fun x lo hi H Q => ∃ a xs, x = .ref a ∧ SqT K H a xs ∧
  ¬ (HT.sIx xs.length 0 lo = 0 ∧ HT.sIx xs.length xs.length hi = xs.length) ∧ ∀ p, H p = none → Q (.ref p) (upd H p (.tup (cutV xs lo hi)))
/-! ### t < u, t + u -/
def rLtT (K : PySem.W.Frag) : R2 := fun x y H Q => ∃ a b ns ms, x = .ref a ∧ y = .ref b ∧ SqT K H a (ns.map V.int) ∧ SqT K H b (ms.map V.int) ∧ Q (.bl (HT.lexLt ns ms)) H
/-- t + u, t not empty: u empty gives t itself -/
def rCatT (K : PySem.W.Frag) : R2 := fun x y H Q => ∃ a b xs ys, x = .ref a ∧ y = .ref b ∧ SqT K H a xs ∧ SqT K H b ys ∧ xs ≠ [] ∧ xs.length + ys.length ≤ sizeLine ∧
  (ys = [] → Q (.ref a) H) ∧ (ys ≠ [] → ∀ p, H p = none → Q (.ref p) (upd H p (.tup (xs ++ ys))))
end
end L2

namespace L2
open PySem PySem.Spec PyProof.Rows

/-! ### places -/
/-- the place that an index of any sign means -/
def ixN (n : Nat) (i : Int) : Option Nat := if 0 ≤ i then (if i < n then some i.toNat else none) else if -(n : Int) ≤ i then some (i + n).toNat else none
def atI {α : Type} (xs : List α) (i : Int) : Option α := (ixN xs.length i).bind fun j => xs[j]?
theorem ixN_seq {n : Nat} {i : Int} {j : Nat} (h : ixN n i = some j) : seqIndex? i n = some j ∧ j < n ∧ -(n : Int) ≤ i ∧ i < n := by
  unfold ixN at h
  by_cases h0 : 0 ≤ i
  · rw [if_pos h0] at h
    by_cases h1 : i < n
    · rw [if_pos h1] at h
      have e : i.toNat = j := Option.some.inj h
      exact ⟨by rw [seqIndex_of h0 h1, e], by omega, by omega, h1⟩
    · rw [if_neg h1] at h; cases h
  · rw [if_neg h0] at h
    by_cases h1 : -(n : Int) ≤ i
    · rw [if_pos h1] at h
      have e : (i + n).toNat = j := Option.some.inj h
      exact ⟨by rw [seqIndex_neg (by omega) h1, e], by omega, h1, by omega⟩
    · rw [if_neg h1] at h; cases h
theorem atI_get {α : Type} {xs : List α} {i : Int} {v : α} (h : atI xs i = some v) : ∃ j, seqIndex? i xs.length = some j ∧ xs[j]? = some v ∧ j < xs.length ∧ -(xs.length : Int) ≤ i ∧ i < xs.length := by
  unfold atI at h
  cases e : ixN xs.length i with
  | none => rw [e] at h; cases h
  | some j =>
    rw [e] at h
    obtain ⟨h1, h2, h3, h4⟩ := ixN_seq e
    exact ⟨j, h1, h, h2, h3, h4⟩
theorem atI_nat {α : Type} {xs : List α} {j : Nat} {v : α} (h : xs[j]? = some v) : atI xs (j : Int) = some v := by
  have hj : j < xs.length := (List.getElem?_eq_some_iff.mp h).1
  have e : ixN xs.length (j : Int) = some j := by
    unfold ixN
    rw [if_pos (by omega), if_pos (by omega)]; simp
  unfold atI; rw [e]; exact h
/-! ### what may be subscripted -/
/-- what stands as an index of a plain subscript -/
def PlainIx (b : Expr) : Prop := ∀ o i, subscripted b false o i = operate [o, i] (getItem o i)
/-- a subscript by values -/
def IxR (X : Cx) (r : R2) : Prop :=
  ∀ (value slice : Expr) (pins : List (Addr × Obj)) (s : Shared) (σ : St) (H : Hp) (x y : V) (v u : Value) (Q : VK), Inv X pins σ H s → RelV x v → RelV y u → r x y H Q →
    subscripted slice false v u = operate [v, u] (getItem v u) → wpAny (model X.prog X.w) X.A (subscriptTail value slice v u) (EP X pins σ Q) X.xe s
/-- a call of a builtin's method by values: the receiver, the arguments -/
def MtR (X : Cx) (id : String) (r : V → List V → Hp → VK → Prop) : Prop :=
  ∀ (pins : List (Addr × Obj)) (s : Shared) (σ : St) (H : Hp) (x : V) (xs : List V) (v : Value) (us : List Value) (Q : VK), Inv X pins σ H s → RelV x v → Vals xs us → r x xs H Q →
    wpAny (model X.prog X.w) X.A (call (.builtin id) (v :: us)) (EP X pins σ Q) X.xe s
section
variable {X : Cx} {a b : Expr} {ta tb : TE} {pos : Pos}
theorem IxR.or {r r' : R2} (h : IxR X r) (h' : IxR X r') : IxR X (fun x y H Q => r x y H Q ∨ r' x y H Q) := by
  intro value slice pins s σ H x y v u Q I rx ry q hs
  rcases q with q | q
  · exact h value slice pins s σ H x y v u Q I rx ry q hs
  · exact h' value slice pins s σ H x y v u Q I rx ry q hs
theorem MtR.or {id : String} {r r' : V → List V → Hp → VK → Prop} (h : MtR X id r) (h' : MtR X id r') : MtR X id (fun x xs H Q => r x xs H Q ∨ r' x xs H Q) := by
  intro pins s σ H x xs v us Q I rx rs q
  rcases q with q | q
  · exact h pins s σ H x xs v us Q I rx rs q
  · exact h' pins s σ H x xs v us Q I rx rs q
/-- a[b] -/
theorem pe_ix {r : R2} (hr : IxR X r) (ha : PE X a ta) (hb : PE X b tb) (hs : PlainIx b) : PE X (.Subscript a b pos) (tOp r ta tb) := by
  intro pins s σ H Q I h
  exact Subscript_ (binT ha hb I h fun v u s2 x y H2 I2 rx ry q => hr a b pins s2 σ H2 x y v u Q I2 rx ry q (hs _ _))

def rIxL (K : PySem.W.Frag) : R2 := fun x y H Q => ∃ p xs i v, x = .ref p ∧ y = .int i ∧ SqL K H p xs ∧ atI xs i = some v ∧ Q v H
def rIxT (K : PySem.W.Frag) : R2 := fun x y H Q => ∃ p xs i v, x = .ref p ∧ y = .int i ∧ SqT K H p xs ∧ atI xs i = some v ∧ Q v H
def rIxS : R2 := fun x y H Q => ∃ z i c, x = .str z ∧ y = .int i ∧ z.length ≤ sizeLine ∧ atI z.cps.toList i = some c ∧ Q (.str ⟨#[c]⟩) H
theorem ix_list : IxR X (rIxL X.K) := by
  intro value slice pins s σ H x y v u Q I rx ry h hs
  obtain ⟨p, xs, i, z, rfl, rfl, hq, he, q⟩ := h
  cases rx
  obtain ⟨t, rfl⟩ := ry
  obtain ⟨its, r, pl, hz⟩ := I.list hq
  obtain ⟨j, h1, h2, h3, h4, h5⟩ := atI_get he
  obtain ⟨w, ew, rw'⟩ := r.get h2
  have hl := r.length
  have hn := line63
  have fin : EP X pins σ Q w s := ⟨z, H, I, rw', q⟩
  by_cases h0 : 0 ≤ i
  · have hj : i.toNat = j := by
      rw [seqIndex_of h0 h5] at h1
      exact Option.some.inj h1
    exact item_listR pl.isList h0 (by omega) (by rw [hj]; simpa using ew) fin hs
  · have hj : (i + (its.toArray.size : Int)).toNat = j := by
      rw [seqIndex_neg (by omega) h4] at h1
      rw [List.size_toArray, ← hl]
      exact Option.some.inj h1
    exact subscriptTail_builtinR (x := w) pl.isList.typeIs slot_list_getitem.lookup
      (wpAny_getItem_list_neg (Q := fun r s' => r = w ∧ EP X pins σ Q r s') pl.isList (by omega) (by rw [List.size_toArray] <;> omega) (by omega) (by rw [hj]; simpa using ew) ⟨rfl, fin⟩) hs
theorem ix_str : IxR X rIxS := by
  intro value slice pins s σ H x y v u Q I rx ry h hs
  obtain ⟨z, i, c, rfl, rfl, hz, he, q⟩ := h
  obtain ⟨t, rfl⟩ := rx
  obtain ⟨t', rfl⟩ := ry
  obtain ⟨j, h1, h2, h3, h4, h5⟩ := atI_get he
  have hl : z.cps.toList.length = z.length := by simp [Str.length]
  rw [hl] at h1 h4 h5
  have hn := line63
  exact tail_any (typeIs_str s z t) slot_str_getitem.lookup (getItem_str (c := c) (by
    have e1 : decide (i < -(2 ^ 63 : Int)) = false := decide_eq_false (by omega)
    have e2 : decide (i ≥ 2 ^ 63) = false := decide_eq_false (by omega)
    rw [e1, e2, Bool.or_false]) (by rw [h1]; simpa using h2) ⟨.str ⟨#[c]⟩, H, I.tok _, ⟨_, rfl⟩, q⟩) hs
/-- list, tuple or str -/
def rIx (K : PySem.W.Frag) : R2 := fun x y H Q => rIxL K x y H Q ∨ rIxT K x y H Q ∨ rIxS x y H Q
/-! ### xs[i] = v, any sign -/
theorem Inv.lst {pins : List (Addr × Obj)} {σ : St} {H : Hp} {s : Shared} {p : Addr} {xs : List V} (I : Inv X pins σ H s) (h : H p = some (.lst xs)) :
    ∃ (its : List Value) (n : Nat), Vals xs its ∧ s.heap.get? p = some { cls := .type "list", data := .seq its.toArray n } ∧ xs.length ≤ sizeLine := by
  obtain ⟨z, its, n, r, e⟩ := I.hok p _ h
  exact ⟨its, n, r, e, z⟩
def rSetL : V → V → V → Hp → (Hp → Prop) → Prop := fun o i v H Q => ∃ p xs k j, o = .ref p ∧ i = .int k ∧ H p = some (.lst xs) ∧ ixN xs.length k = some j ∧ Q (upd H p (.lst (xs.set j v)))
/-! ### slices -/
/-- xs[lo:hi] of a list: a new list -/
def rSlL (K : PySem.W.Frag) : V → Option Int → Option Int → Hp → VK → Prop := fun x lo hi H Q => ∃ a xs, x = .ref a ∧ SqL K H a xs ∧ ∀ p, H p = none → Q (.ref p) (upd H p (.lst (cutV xs lo hi)))
/-! ### in, not in: flat items -/
def flatV : V → Bool
  | .non => true
  | .bl _ => true
  | .int _ => true
  | .str _ => true
  | _ => false
/-- == of flat values -/
def eqV : V → V → Bool
  | .non, .non => true
  | .bl a, .bl b => a == b
  | .bl a, .int b => (if a then 1 else 0) == b
  | .int a, .bl b => a == (if b then 1 else 0)
  | .int a, .int b => a == b
  | .str a, .str b => a == b
  | _, _ => false
/-- the items' answers, read off the values (a value's own answer does not lean on its token) -/
def eqU (x : V) (u : Value) : Bool := match u with
  | .none => eqV .non x
  | .bool b => eqV (.bl b) x
  | .int i _ => eqV (.int i) x
  | .str z _ => eqV (.str z) x
  | _ => false
def inV (x : V) (xs : List V) : Bool := xs.any fun y => eqV y x
/-- x in a list or tuple of flat items -/
def rIn (K : PySem.W.Frag) (neg : Bool) : R2 := fun x y H Q => ∃ p xs, y = .ref p ∧ (SqL K H p xs ∨ SqT K H p xs) ∧ flatV x = true ∧ xs.all flatV = true ∧ Q (.bl (if neg then !inV x xs else inV x xs)) H
/-! ### len, list(x), tuple(x) of any list or tuple that is read -/
theorem call_len_seq : CallR X (.builtin "len") (fun xs H Q => ∃ p ys, xs = [.ref p] ∧ (SqL X.K H p ys ∨ SqT X.K H p ys) ∧ Q (.int ys.length) H) := by
  intro pins s σ H xs us Q I r h
  obtain ⟨p, ys, rfl, hq, q⟩ := h
  obtain ⟨u, rfl, rx⟩ := vals1 r
  cases rx
  have hn := line63
  rcases hq with hq | hq
  · obtain ⟨its, r', pl, hz⟩ := I.list hq
    have hlen := r'.length
    exact Calls.call_len_list pl.isList (by simp only [List.size_toArray] <;> omega) ⟨.int ys.length, H, I.tok _, ⟨s.toks + 1, by rw [List.size_toArray, hlen]⟩, q⟩
  · obtain ⟨its, r', pl, hz⟩ := I.tuple hq
    have hlen := r'.length
    exact len_tuple pl (by simp only [List.size_toArray] <;> omega) ⟨.int ys.length, H, I.tok _, ⟨s.toks + 1, by rw [List.size_toArray, hlen]⟩, q⟩
theorem CallR.or {f : Value} {r r' : List V → Hp → VK → Prop} (h : CallR X f r) (h' : CallR X f r') : CallR X f (fun xs H Q => r xs H Q ∨ r' xs H Q) := by
  intro pins s σ H xs us Q I rs q
  rcases q with q | q
  · exact h pins s σ H xs us Q I rs q
  · exact h' pins s σ H xs us Q I rs q
theorem call_list_of : CallR X (.type "list") (fun xs H Q => ∃ p ys, xs = [.ref p] ∧ (SqL X.K H p ys ∨ SqT X.K H p ys) ∧ ∀ l, H l = none → Q (.ref l) (upd H l (.lst ys))) := by
  intro pins s σ H xs us Q I r h
  obtain ⟨p, ys, rfl, hq, q⟩ := h
  obtain ⟨u, rfl, rx⟩ := vals1 r
  cases rx
  have fin : ∀ (its : List Value), Vals ys its → ys.length ≤ sizeLine → ∀ (h' : Heap) (c' : Nat), (∀ b o', s.heap.get? b = some o' → h'.get? b = some o') →
      h'.get? s.heap.objs.size = some { cls := .type "list", dict := none, data := .seq its.toArray c', slots := #[] } → EP X pins σ Q (.ref s.heap.objs.size) { s with heap := h' } := fun its r' hz h' c' kp e =>
    ⟨.ref s.heap.objs.size, _, I.laid (t' := s.toks) kp (Nat.le_refl _) (show ObjOk X.prog X.w _ h' _ (.lst ys) from ⟨hz, its, c', r', e⟩), rfl, q _ (I.hok.fresh (Nat.le_refl _))⟩
  rcases hq with hq | hq
  · obtain ⟨its, r', pl, hz⟩ := I.list hq
    have hlen := r'.length
    obtain ⟨o, ho, hc, n, hd⟩ := pl.isList
    exact call_list_seq p (.inl rfl) ho hc hd (fun h' c' kp e => fin its r' hz h' c' kp e) (by simp only [List.size_toArray] <;> omega)
  · obtain ⟨its, r', pl, hz⟩ := I.tuple hq
    have hlen := r'.length
    obtain ⟨o, ho, hc, n, hd⟩ := pl
    exact call_list_seq p (.inr rfl) ho hc hd (fun h' c' kp e => fin its r' hz h' c' kp e) (by simp only [List.size_toArray] <;> omega)
/-! ### the call of a builtin's method: o.m(..) -/
/-- the value is of that builtin type -/
def tyV (K : PySem.W.Frag) (T : String) (x : V) (H : Hp) : Prop := match x with
  | .str _ => T = "str"
  | .int _ => T = "int"
  | .ref p => (T = "list" ∧ ∃ xs, SqL K H p xs) ∨ (T = "tuple" ∧ ∃ o, K.lookup p = some o ∧ o.cls = .type "tuple" ∧ o.dict = none) ∨
      (T = "dict" ∧ ((∃ kvs, H p = some (.dK kvs)) ∨ ∃ kvs, H p = some (.dT kvs))) ∨ (T = "set" ∧ ∃ S n, H p = some (.set S n))
  | _ => False
def tBM0 (K : PySem.W.Frag) (T : String) (r : V → List V → Hp → VK → Prop) (to : TE) : TE := fun σ H Q => to σ H fun x H1 => tyV K T x H1 ∧ r x [] H1 Q
def tBM (K : PySem.W.Frag) (T : String) (r : V → List V → Hp → VK → Prop) (to : TE) (t : TA) : TE := fun σ H Q => to σ H fun x H1 => tyV K T x H1 ∧ t σ H1 fun xs H2 => r x xs H2 Q
variable {o e : Expr} {es : List Expr} {to : TE} {t : TA} {name : Str} {apos cpos : Pos} {T id : String} {r : V → List V → Hp → VK → Prop}
end
end L2

namespace L2
open PySem PySem.Spec PyProof.Rows

def MtM (X : Cx) (id : String) (r : V → List V → Hp → VK → Prop) : Prop :=
  ∀ (pins : List (Addr × Obj)) (s : Shared) (σ : St) (H : Hp) (x : V) (xs : List V) (v : Value) (us : List Value) (Q : VK), Inv X pins σ H s → RelV x v → Vals xs us → r x xs H Q →
    wpAny (model X.prog X.w) X.A (call (.builtin id) (v :: us)) (EP X pins σ Q) X.xe s

/-! ### lists of values -/
theorem Vals.one : ∀ {x : V} {us : List Value}, Vals [x] us → ∃ u, us = [u] ∧ RelV x u
  | _, _, .cons r .nil => ⟨_, rfl, r⟩
theorem Vals.two : ∀ {x y : V} {us : List Value}, Vals [x, y] us → ∃ u v, us = [u, v] ∧ RelV x u ∧ RelV y v
  | _, _, _, .cons r (.cons q .nil) => ⟨_, _, rfl, r, q⟩
theorem Vals.zero : ∀ {us : List Value}, Vals [] us → us = []
  | _, .nil => rfl
theorem Vals.dropLast {xs : List V} {us : List Value} (h : Vals xs us) : Vals xs.dropLast us.dropLast := by
  induction h with
  | nil => exact .nil
  | cons r t ih =>
    cases t with
    | nil => exact .nil
    | cons q t' => exact .cons r ih
theorem Vals.eraseIdx : ∀ {xs : List V} {us : List Value} (i : Nat), Vals xs us → Vals (xs.eraseIdx i) (us.eraseIdx i)
  | _, _, _, .nil => .nil
  | _, _, 0, .cons _ t => t
  | _, _, i + 1, .cons r t => .cons r (Vals.eraseIdx i t)
theorem Vals.reverse {xs : List V} {us : List Value} (h : Vals xs us) : Vals xs.reverse us.reverse := by
  induction h with
  | nil => exact .nil
  | cons r t ih => rw [List.reverse_cons, List.reverse_cons]; exact Vals.append ih (.cons r .nil)
section
variable {X : Cx} {pins : List (Addr × Obj)} {σ : St} {H : Hp} {s : Shared} {l b : Addr} {xs ys zs : List V}

/-! ### the two steps: a tracked list is rewritten, a new list is laid -/
theorem Inv.lset {its its' : List Value} {n : Nat} {f : Array Value → Array Value} {t' : Nat} (I : Inv X pins σ H s) (hH : H l = some (.lst xs))
    (e : s.heap.get? l = some { cls := .type "list", data := .seq its.toArray n }) (hf : f its.toArray = its'.toArray) (hv : Vals ys its') (hz : ys.length ≤ sizeLine) :
    Inv X pins σ (upd H l (.lst ys)) { s with heap := s.heap.update l (Obj.mapSeq f), toks := t' } := by
  have q := PySem.IsL.update e f
  rw [hf] at q
  refine I.write (x := l) (e := l) (by rw [hH]; exact trivial) (.inl rfl) (fun b' u hb hu => (Heap.get?_update_other s.heap (Obj.mapSeq f) (Ne.symm hb)).trans hu) ⟨_, q⟩ ?_
  exact ⟨hz, its', _, hv, q⟩
theorem Inv.lnew {its : List Value} {t' : Nat} (I : Inv X pins σ H s) (hv : Vals ys its) (hz : ys.length ≤ sizeLine) :
    Inv X pins σ (upd H s.heap.objs.size (.lst ys)) { s with heap := s.heap.push { cls := .type "list", data := .seq its.toArray }, toks := t' } :=
  I.laid (fun _ _ q => Heap.get?_push_of_some _ q) (Nat.le_refl _) ⟨hz, its, 0, hv, Heap.get?_push_size _ rfl⟩
theorem Inv.fresh (I : Inv X pins σ H s) : H s.heap.objs.size = none := I.hok.fresh (Nat.le_refl _)
theorem Inv.lstM (I : Inv X pins σ H s) (hH : H l = some (.lst xs)) : xs.length ≤ sizeLine ∧ ∃ (its : List Value) (n : Nat), Vals xs its ∧ xs.length = its.length ∧ s.heap.get? l = some { cls := .type "list", data := .seq its.toArray n } := by
  obtain ⟨z, its, n, r, e⟩ := I.hok l _ hH
  exact ⟨z, its, n, r, r.length, e⟩

end

section
variable {X : Cx}

/-! ### methods -/
def rAppend : V → List V → Hp → VK → Prop := fun x vs H Q => ∃ l xs y, x = .ref l ∧ vs = [y] ∧ H l = some (.lst xs) ∧ xs.length < sizeLine ∧ Q .non (upd H l (.lst (xs ++ [y])))
theorem mt_append : MtM X "list.append" rAppend := by
  intro pins s σ H x vs v us Q I rx rv h
  obtain ⟨l, xs, y, rfl, rfl, hH, hz, q⟩ := h
  cases rx
  obtain ⟨u, rfl, ru⟩ := rv.one
  obtain ⟨z, its, n, r, hl, e⟩ := I.lstM hH
  refine call_meets F.slot_list_append ⟨_, e, rfl⟩ F.entry_list_append (F.args_list_append_2 _ _) (PySem.list_append l its.toArray n u (by rw [List.size_toArray]; omega)) ⟨e, ?_⟩
  refine ⟨.non, _, I.lset (its' := its ++ [u]) hH e (by simp) (r.append (.cons ru .nil)) ?_, rfl, q⟩
  rw [List.length_append, List.length_singleton]
  omega

def rExtend : V → List V → Hp → VK → Prop := fun x vs H Q => ∃ l b xs zs, x = .ref l ∧ vs = [.ref b] ∧ H l = some (.lst xs) ∧ H b = some (.lst zs) ∧ xs.length + zs.length ≤ sizeLine ∧ Q .non (upd H l (.lst (xs ++ zs)))
def rPop : V → List V → Hp → VK → Prop := fun x vs H Q => ∃ l xs y, x = .ref l ∧ vs = [] ∧ H l = some (.lst xs) ∧ xs[xs.length - 1]? = some y ∧ Q y (upd H l (.lst xs.dropLast))
def rPopAt : V → List V → Hp → VK → Prop := fun x vs H Q => ∃ l xs i k y, x = .ref l ∧ vs = [.int i] ∧ H l = some (.lst xs) ∧ -(2 ^ 63) ≤ i ∧ i < 2 ^ 63 ∧ seqIndex? i xs.length = some k ∧ xs[k]? = some y ∧ Q y (upd H l (.lst (xs.eraseIdx k)))
def rReverse : V → List V → Hp → VK → Prop := fun x vs H Q => ∃ l xs, x = .ref l ∧ vs = [] ∧ H l = some (.lst xs) ∧ Q .non (upd H l (.lst xs.reverse))
def rClear : V → List V → Hp → VK → Prop := fun x vs H Q => ∃ l xs, x = .ref l ∧ vs = [] ∧ H l = some (.lst xs) ∧ Q .non (upd H l (.lst []))
/-! ### list + list, list += list, list * int -/
def rCat : R2 := fun x y H Q => ∃ l b xs zs, x = .ref l ∧ y = .ref b ∧ H l = some (.lst xs) ∧ H b = some (.lst zs) ∧ xs.length + zs.length ≤ sizeLine ∧ ∀ p, H p = none → Q (.ref p) (upd H p (.lst (xs ++ zs)))
theorem op_cat : OpR X (binaryOp .Add) rCat := by
  intro pins s σ H x y v u Q I rx ry h
  obtain ⟨l, b, xs, zs, rfl, rfl, hH, hB, hz, q⟩ := h
  cases rx
  cases ry
  obtain ⟨z, its, n, r, hl, e⟩ := I.lstM hH
  obtain ⟨z2, its2, n2, r2, hl2, e2⟩ := I.lstM hB
  refine PySem.P.add_list e e2 ?_ (by rw [List.size_toArray, List.size_toArray]; omega)
  have ea : its.toArray ++ its2.toArray = (its ++ its2).toArray := by simp
  rw [ea]
  exact ⟨.ref _, _, I.lnew (t' := s.toks) (r.append r2) (by rw [List.length_append]; omega), rfl, q _ I.fresh⟩
/-- a list times an int (a negative one is nothing) -/
def rRep : R2 := fun x y H Q => ∃ l k xs, x = .ref l ∧ y = .int k ∧ H l = some (.lst xs) ∧ -(2 ^ 63) ≤ k ∧ k < 2 ^ 63 ∧ xs.length * k.toNat ≤ sizeLine ∧
  ∀ p, H p = none → Q (.ref p) (upd H p (.lst (List.replicate k.toNat xs).flatten))
/-! ### del xs[i] -/
end

/-! ### xs[a:b] = ys -/
section
variable {prog : Program} {w : World} {A : Around} {E : Value → Shared → Prop} {s : Shared}
end

section
variable {X : Cx}
end
end L2

namespace Att
open PySem PySem.W PySem.Calls PyProof.Rows

/-! ### the script -/
theorem ints_of_wellAll {P : Params} {h : Heap} : ∀ (ns : List Int) (vs : List Value), WellAll P h vs (ns.map WData.int) → IntsAre vs ns := by
  intro ns
  induction ns with
  | nil =>
    intro vs w
    rw [List.map_nil] at w
    cases w
    exact .nil
  | cons n ns ih =>
    intro vs w
    rw [List.map_cons] at w
    cases w with
    | cons a b =>
      cases a
      exact .cons _ _ (ih _ b)

theorem script_of {l : OpenLaw} {n : Nat} (hn : l.most = some n) {P : Params} {h : Heap} {args : List WData} {vals : List Value}
    (hpre : l.row.toRowW.claim.pre args = true) (hwl : WellAll P h vals args) :
    ∃ a vs ns, vals = [Value.ref a] ∧ args = [WData.list (ns.map WData.int)] ∧ h.get? a = some { cls := .type "list", data := .seq vs.toArray } ∧ IntsAre vs ns ∧ ns.length ≤ n := by
  have hsh : WShape.hasAll [] args [.list .int] = true := (pre_splitW hpre).1
  have hc : l.pre.holds [] { args := args } = true := (pre_splitW hpre).2
  obtain ⟨d, r, rfl, h1, h2⟩ := hasAllW_cons hsh
  obtain rfl := hasAllW_nil h2
  obtain ⟨xs, rfl, h3⟩ := hasW_list h1
  obtain ⟨ns, rfl⟩ := items_int h3
  have hlen : ns.length ≤ n := by
    unfold OpenLaw.pre at hc
    have h4 : (WTm.not (.lt (.lit (.int (n : Int))) (.len (.arg 0)))).holds [] { args := [.list (ns.map .int)] } = true := by
      have h4 := (holds_andW hc).1
      rw [hn] at h4
      exact h4
    have h5 := condW_of h4 (w_not (w_lt w_lit (w_len_list (w_arg rfl))))
    rw [List.length_map] at h5
    refine Nat.le_of_not_lt fun q => ?_
    have q' : (n : Int) < ((ns.length : Nat) : Int) := by omega
    first
      | (rw [decide_eq_true q'] at h5; exact absurd h5 (by decide))
      | (simp at h5; omega)
  cases hwl with
  | cons w1 w2 =>
    cases w2
    cases w1 with
    | list ho hall => exact ⟨_, _, ns, rfl, rfl, ho, ints_of_wellAll ns _ hall, hlen⟩

theorem post_true (l : OpenLaw) (args : List WData) : l.row.toRowW.claim.post args (.bool true) args = true :=
  postW_of (r := l.row.toRowW) (X := (true == true))
    (show WShape.has [] (.bool true) .bool = true by first | rfl | decide | simp [WShape.has, WShape.arms, WShape.armsAll])
    (show (WTm.eq .res (.lit (.bool true))).value [] { args := args, res := some (.bool true), after := args } = some (.bool (true == true)) from w_eq_bool (w_res rfl) w_lit) rfl

/-! ### the attachment: holds_open's last premise (the goal 'hc' behind k_head) from a wpAny of the law's body -/
/-- the same from a codeAny of the CALL (for a layer whose function contracts speak of calls) -/
theorem attach_call {l : OpenLaw} {n : Nat} {q : Program} {loose : List Str} {XP : (Str → Option Value) → Heap → Prop} {YP : World → Heap → Prop} {d : DefRec}
    (hn : l.most = some n) (hdf : d.params.defaults = [])
    (call : ∀ (w : World) (s₀ s₁ : Shared) (mg mb : Str → Option Value) (fa : Addr) (o : Obj) (pm cd doc : Value) (a : Addr) (vs : List Value) (ns : List Int),
      Ground q loose [] XP w s₀ mg mb s₁.heap → YP w s₁.heap →
      s₁.heap.get? fa = some o → o.data = .func (docDef d.name d.params d.body d.scope pm cd doc) → s₁.heap.CodeRec cd d.name → mg d.name = some (.ref fa) →
      s₁.heap.get? a = some { cls := .type "list", data := .seq vs.toArray } → IntsAre vs ns → ns.length ≤ n → s₁.gens = #[] →
      codeAny (model l.prog w) callerA (.call (.ref fa) ⟨[.ref a], []⟩) (fun r s' => r = .ok (.ret (.bool true)) ∧ OldK s₁.heap s'.heap ∧ s'.os = s₁.os ∧ AllBare s'.gens) s₁) :
    WalkO q loose XP YP l.row.toRowW d [] (fun f vs => PySem.call f vs) := by
  intro w s₀ s₁ mg mb G Y fa o pm cd doc dV kV ho hd hcd hD hmg hg args vals as hpre hlay hrd hwl hlo
  obtain rfl : dV = .none := Dflts.none hD hdf
  obtain rfl : kV = .none := Dflts.noKw hD
  obtain ⟨a, vs, ns, rfl, rfl, hobj, hints, hlen⟩ := script_of hn hpre hwl
  refine enter_call (codeAny_mono (call w s₀ s₁ mg mb fa o pm cd doc a vs ns G Y ho (fd_plain hd) hcd hmg hobj hints hlen hg) fun r s' hq => ?_)
  obtain ⟨rfl, h2, h3, h4⟩ := hq
  exact ⟨.inl ⟨.bool true, .bool true, [], rfl, fun _ => rfl, .bool true, post_true l _, fun _ => ⟨List.Pairwise.nil, fun _ hm => (nomatch hm)⟩⟩, h2, h3, h4⟩

/-! ### rules over ANY heap (no ledger) from facts about the written part K: the library's own take a ledger (News) for what they write -/
section
variable {prog : Program} {w : World} {A : Around} {E : Value → Shared → Prop} {s : Shared} {K : Frag}

/-! the whole heap as the ledger: makes every rule that writes through a ledger a rule over any heap -/
def noObjs (h : Heap) : Heap := { h with objs := #[] }
def ledger (h : Heap) (L d : Addr) : List (Addr × Obj) := (List.range h.objs.size).filterMap fun a => if a = L ∨ a = d then none else (h.get? a).map fun o => (a, o)
end
end Att

namespace L2
open PySem PySem.Spec PyProof.Rows

theorem vals_ints : ∀ {vs : List Value} {ns : List Int}, IntsAre vs ns → Vals (ns.map V.int) vs
  | _, _, .nil => .nil
  | _, _, .cons n t h => .cons ⟨t, rfl⟩ (vals_ints h)

/-- nothing is tracked but the script, known to the object (or it is an object of the module) -/
def Only (H : Hp) : Prop := ∀ b, H b = none ∨ ∃ o xs, H b = some (.frz o (.lst xs))

/-- THE HEAD: the law's promise, at the heap behind the top. F, the promise of the law's def, may use that base is part of the heap (so K.In base, base.Ns mainGlobals mg stand in Mod) -/
theorem law_call {P : Program} {w : World} {K : PySem.W.Frag} {mg mb : Str → Option Value} {CX : CXT} {k : Nat} {fa a : Addr} {fd : FuncData} {x : Str} {sp : Sp} {s₁ : Shared} {vs : List Value} {ns : List Int}
    (KX : K.In s₁.heap) (hns : s₁.heap.Ns mainGlobals mg) (hb : s₁.heap.Ns builtinsNs mb) (hbb : ∀ x : Str, x ≠ "__name__" → mb x = bootBuiltins x) (hlim : s₁.heap.NoLimit) (hg : s₁.gens = #[])
    (ha : s₁.heap.get? a = some { cls := .type "list", data := .seq vs.toArray }) (hi : IntsAre vs ns) (hl : ns.length ≤ sizeLine) (hr : Room k callerA)
    (F : ∀ base : Heap, K.In base → base.Ns mainGlobals mg → FnOk P w K mg base CX k fa fd [x] sp) (hbind : ∀ (s : Shared) (u : Value), BindsTo s fd ⟨[u], []⟩ [(x, u)])
    (hsp : ∀ H : Hp, Only H → SqL K H a (ns.map V.int) → sp [.ref a] H (fun v _ => v = .bl true) fun _ _ _ => False)
    (hCX : ∀ H e s', CX [] H s₁ (fun _ _ _ => False) e s' → False) :
    codeAny (model P w) callerA (.call (.ref fa) ⟨[.ref a], []⟩) (fun r s' => r = .ok (.ret (.bool true)) ∧ OldK s₁.heap s'.heap ∧ s'.os = s₁.os ∧ AllBare s'.gens) s₁ := by
  have rv := vals_ints hi
  have lenV := hi.length
  -- from an abstract heap in which nothing but the script may be tracked
  have core : ∀ H : Hp, Only H → SqL K H a (ns.map V.int) → HOk P w H s₁.heap → (∀ b, H b ≠ none → b = a) → (H a ≠ none → K.lookup a = none) →
      codeAny (model P w) callerA (.call (.ref fa) ⟨[.ref a], []⟩) (fun r s' => r = .ok (.ret (.bool true)) ∧ OldK s₁.heap s'.heap ∧ s'.os = s₁.os ∧ AllBare s'.gens) s₁ := by
    intro H hO hS hok hA hK
    have base_of : ∀ {b : Addr} {o : Obj}, s₁.heap.get? b = some o → H b = none → (hidT s₁.heap H).get? b = some o := fun e n => hidT_get e n
    have noA : ∀ {b : Addr} {o : Obj} {es : Array DictEntry} {ep : Nat}, s₁.heap.get? b = some o → o.data = .dict es ep → H b = none := fun {b o es ep} e d => by
      cases q : H b with
      | none => rfl
      | some u =>
        have e' : b = a := hA b (by rw [q]; simp)
        subst e'
        rw [ha] at e; cases e
        have d' : Data.seq vs.toArray _ = Data.dict es ep := d
        cases d'
    have nsK : ∀ {b : Addr} {m : Str → Option Value}, s₁.heap.Ns b m → (hidT s₁.heap H).Ns b m := fun {b m} ⟨o, es, ep, e, d, r⟩ => ⟨o, es, ep, base_of e (noA e d), d, r⟩
    have hKb : K.In (hidT s₁.heap H) := fun b o e => base_of (KX b o e) (by
      cases q : H b with
      | none => rfl
      | some u =>
        have e' : b = a := hA b (by rw [q]; simp)
        subst e'
        rw [hK (by rw [q]; simp)] at e; cases e)
    have hM : Mod K mg (hidT s₁.heap H) := ⟨hKb, nsK hns, ⟨mb, nsK hb, hbb⟩, let ⟨mc, h1, h2⟩ := hlim; ⟨mc, nsK h1, h2⟩⟩
    have e0 : Env0 P w K mg (hidT s₁.heap H) callerA [] s₁ H := ⟨rfl, hM, fun b o e => of_hidT e, Nat.le_of_eq (hidT_size _ _), trivial, fun b hb => absurd (show b ∈ ([] : List Addr) from hb) (by simp), hok, .of_eq hg⟩
    refine codeAny_mono ((F _ hKb (nsK hns)).run callerA [] s₁ H ⟨[.ref a], []⟩ [.ref a] [.ref a] _ _ hr e0 (hbind s₁ (.ref a)) (.cons rfl .nil) (hsp H hO hS)) fun r s' h => ?_
    cases r with
    | error e => exact (hCX H e s' h).elim
    | ok fl =>
      cases fl with
      | next => exact False.elim h
      | brk => exact False.elim h
      | cont => exact False.elim h
      | ret u =>
        obtain ⟨v, H', os, bare, un, hok', r', q⟩ := h
        have q' : v = .bl true := q
        subst q'
        obtain rfl : u = Value.bool true := r'
        refine ⟨rfl, OldK.of_keep fun b o e => ?_, os, bare⟩
        cases q : H b with
        | none => exact un.keep b o e q (by intro z; exact absurd (show b ∈ ([] : List Addr) from z) (by simp)) (by simp)
        | some u =>
          rcases hO b with z | ⟨ob, xs, z⟩
          · rw [q] at z; cases z
          · have z2 := un.frzs b ob _ z
            obtain ⟨e1, _⟩ := hok b _ z
            obtain ⟨e2, _⟩ := hok' b _ z2
            rw [e] at e1; cases e1
            exact e2
  cases hk : K.lookup a with
  | some o =>
    -- the script is one of the module's own objects
    have e := KX a o hk
    rw [ha] at e
    cases e
    refine core (fun _ => none) (fun _ => .inl rfl) (.inr ⟨_, vs.toArray, _, hk, rfl, rfl, rfl, by rw [List.size_toArray, lenV]; exact hl, by simpa using rv⟩) (fun b u z => by have z' : (none : Option HO) = some u := z; cases z') (fun b z => absurd rfl z) fun z => absurd rfl z
  | none =>
    refine core (fun b => if b = a then some (.frz { cls := .type "list", data := .seq vs.toArray } (.lst (ns.map V.int))) else none) (fun b => ?_) (.inl (.inr ⟨{ cls := .type "list", data := .seq vs.toArray }, if_pos rfl⟩)) (fun b u z => ?_) (fun b z => ?_) fun _ => hk
    · by_cases hb : b = a
      · exact .inr ⟨_, _, if_pos hb⟩
      · exact .inl (if_neg hb)
    · by_cases hb : b = a
      · have z' := (if_pos hb).symm.trans z
        cases z'
        subst hb
        exact ⟨ha, by rw [List.length_map]; exact hl, vs, _, rv, ha⟩
      · have z' := (if_neg hb).symm.trans z
        cases z'
    · by_cases hb : b = a
      · exact hb
      · exact absurd (if_neg hb) z
end L2

namespace L2
open PySem PySem.Spec PyProof.Rows

abbrev KOf {K : PySem.W.Frag} {h : Heap} (_ : K.In h) : PySem.W.Frag := K

/-- the goal that k_head leaves (case hc), from the law's promise. F gives the function object fd (K's own) once, then the promise over every base -/
theorem walk_of {l : PySem.W.OpenLaw} {n k : Nat} {q : Program} {loose : List Str} {XP : (Str → Option Value) → Heap → Prop} {YP : World → Heap → Prop} {d : DefRec} {K : Params → PySem.W.Frag} {CX : World → CXT} {sp : World → Sp} {x : Str}
    (hn : l.most = some n) (hn2 : n ≤ sizeLine) (hdf : d.params.defaults = []) (hr : Room k callerA)
    (hY : ∀ (w : World) (h : Heap), YP w h → (K w.params).In h)
    (F : ∀ (w : World) (mg : Str → Option Value) (fa : Addr) (h : Heap), (K w.params).In h → h.Ns mainGlobals mg → mg d.name = some (.ref fa) →
      ∃ fd : FuncData, (∀ (s : Shared) (u : Value), BindsTo s fd ⟨[u], []⟩ [(x, u)]) ∧
        ∀ base : Heap, (K w.params).In base → base.Ns mainGlobals mg → FnOk l.prog w (K w.params) mg base (CX w) k fa fd [x] (sp w))
    (hsp : ∀ (w : World) (H : Hp) (a : Addr) (ns : List Int), ns.length ≤ n → Only H → SqL (K w.params) H a (ns.map V.int) → sp w [.ref a] H (fun v _ => v = .bl true) fun _ _ _ => False)
    (hCX : ∀ (w : World) (H : Hp) (s : Shared) (e : Value) (s' : Shared), CX w [] H s (fun _ _ _ => False) e s' → False) :
    PySem.W.WalkO q loose XP YP l.row.toRowW d [] (fun f vs => PySem.call f vs) := by
  refine Att.attach_call hn hdf fun w s₀ s₁ mg mb fa o pm cd doc a vs ns G Y ho hd hcd hmg hobj hints hlen hg => ?_
  have KX := hY w _ Y
  obtain ⟨fd, hb, hF⟩ := F w mg fa _ KX G.T.g hmg
  exact law_call KX G.T.g G.T.b G.T.builtins G.T.nolimit hg hobj hints (Nat.le_trans hlen hn2) hr hF hb (fun H hO hS => hsp w H a ns hlen hO hS) fun H e s' => hCX w H s₁ e s'
end L2

/- THE LAST THEOREM (shape; LID, My.* are yours):
   My.Adr: a structure of the addresses that your layer names (classes, functions); My.Txt K t: a structure (Prop) of the equations over K;
   My.txt_mk : {K} {implicit addresses ..} (e1 : nsIn K mainGlobals "law" = some (some (.ref f))) (e2 : K.lookup f = some ⟨oc, od, .func (fnOf "law" "law" params body scope dV kV doc pm an cdv ct), sl⟩) (e3 : codeIn K cdv "law" = true) .. : ∃ t, My.Txt K t

set_option maxRecDepth 100000 in
set_option maxHeartbeats 0 in
theorem PySem.Challenge.cw_LID_holds : PySem.Challenge.rw_LID.Holds := by
  w_on; o_law; k_head; (case hw => w_witness2)
  k_fill
  refine L2.walk_of (l := PySem.Challenge.rw_LID) (n := 63) (k := 40) (x := "script") (CX := fun w => ..) (sp := fun _ => My.sp_law) rfl (by decide) rfl ⟨rfl, by decide, by decide⟩ (fun w h Y => PySem.W.kIn_of Y) ?F ?S ?C
  case F =>
    intro w mg fa h KX G hmg
    have T : ∃ t, My.Txt (L2.KOf KX) t := by
      dsimp only [L2.KOf]                          -- K must stand as «<heap const> w.params» for k_is
      refine' My.txt_mk ?e1 ?e2 ?e3 ..
      (case e1 => PySem.W.k_is)                    -- in the order: a name -> its address -> its object -> its parts
      (case e2 => PySem.W.k_is)
      ..
    obtain ⟨t, T⟩ := T
    have e0 := hmg.symm.trans (PySem.W.mg_of KX G T.law)
    cases e0                                       -- fa is the law's own address
    exact ⟨_, fun s u => .of_eq rfl, fun base kb nb => My.law_fn T kb nb⟩     -- if «.of_eq rfl» comes too early: refine' ⟨_, ?b, fun base kb nb => My.law_fn T kb nb⟩; exact fun s u => .of_eq rfl
  case S => exact fun w H a ns hl hO hS => ..
  case C => exact ..
(the tactic k_is has no namespace: write k_is) -/

/-! SHORT WORDS over the layer: a def of the text, its body, what a loop and a test want. -/
namespace L2
open PySem PySem.Spec PyProof.Rows

/-! ### the text by places -/
/-- the j-th statement of a class's body -/
def inClass (s : Stmt) (j : Nat) : Stmt := match s with
  | .ClassDef _ _ _ body _ _ _ _ _ _ _ => body.getD j (.Pass ⟨0, 0, 0, 0⟩)
  | _ => .Pass ⟨0, 0, 0, 0⟩
def defArgs (s : Stmt) : Arguments := match s with
  | .FunctionDef _ a _ _ _ _ _ _ _ _ => a
  | _ => { posonlyargs := [], args := [], vararg := none, kwonlyargs := [], kw_defaults := [], kwarg := none, defaults := [] }
def defBody (s : Stmt) : List Stmt := match s with
  | .FunctionDef _ _ b _ _ _ _ _ _ _ => b
  | _ => []
def defScope (s : Stmt) : Scope := match s with
  | .FunctionDef _ _ _ _ _ _ sc _ _ _ => sc
  | _ => { kind := .function, names := [], isGenerator := false, isCoroutine := false }

/-! ### no exception leaves a def -/
abbrev CX0 : CXT := fun _ _ _ _ _ _ => False
abbrev E0 : XK := fun _ _ _ => False
theorem pass0 {X : Cx} : Passes CX0 X E0 := fun _ _ _ _ _ _ _ h => h.elim

/-! ### a def (or method) of the text as it stands behind the top -/
structure Fun (K : PySem.W.Frag) (x qual : Str) (st : Stmt) (f : Addr) (fd : FuncData) : Prop where
  ex : ∃ (oc : Value) (od : Option Addr) (kV doc pm : Value) (an : Option Addr) (cdv ct : Value) (osl : Array (Option Value)),
    fd = PySem.W.fnOf x qual (defArgs st) (defBody st) (defScope st) .none kV doc pm an cdv ct ∧ K.lookup f = some ⟨oc, od, .func fd, osl⟩ ∧ PySem.W.codeIn K cdv qual = true
  kp : PySem.W.keepIn K (.ref f) = true
section
variable {P : Program} {w : World} {K : PySem.W.Frag} {mg : Str → Option Value} {base : Heap}
/-- THE RULE for a def: its body as a term of rules, and the reading of that term -/
theorem Fun.ok {x qual : Str} {st : Stmt} {f : Addr} {fd : FuncData} {N ps : List Str} {k : Nat} {sp : Sp} (F : Fun K x qual st f fd) (S : FnScope N ps (defScope st)) (len : ∀ vs H Q E, sp vs H Q E → vs.length = ps.length)
    (hbody : ∀ (cdv : Value) (A : Around) (outer : List Env) (s : Shared) (H : Hp) (vs : List V) (Q : VK) (E : XK), Room k (A.deeper (envOfC qual (defScope st) s.heap.objs.size f cdv)) → sp vs H Q E →
      ∃ t, PSs (cxOf CX0 P w K mg base N qual (defScope st) f cdv A outer s H E).nox (defBody st) t ∧ t { nx := fun _ H' => Q .non H', rt := Q } (start N vs) H) : FnOk P w K mg base CX0 (k + 1) f fd ps sp := by
  obtain ⟨oc, od, kV, doc, pm, an, cdv, ct, osl, rfl, lk, hcd⟩ := F.ex
  refine fn_of lk hcd S len fun A outer s H vs Q E hr hsp => ?_
  obtain ⟨t, h, q⟩ := hbody cdv A outer s H vs Q E hr hsp
  exact ⟨t, h.nox, q⟩
/-- how its arguments bind (no defaults): h is «fun _ _ _ _ _ _ us hl => match us, hl with | [_, _], _ => rfl», one _ a parameter -/
theorem Fun.binds {x qual : Str} {st : Stmt} {f : Addr} {fd : FuncData} {ps : List Str} (F : Fun K x qual st f fd)
    (h : ∀ (kV doc pm : Value) (an : Option Addr) (cdv ct : Value) (us : List Value), us.length = ps.length → bindArgs (PySem.W.fnOf x qual (defArgs st) (defBody st) (defScope st) .none kV doc pm an cdv ct) ⟨us, []⟩ = pure (ps.zip us)) : Binds K fd ps [] := by
  obtain ⟨oc, od, kV, doc, pm, an, cdv, ct, osl, rfl, lk, hcd⟩ := F.ex
  exact .all (h kV doc pm an cdv ct)
end
/-! ### expressions in short: the name that stands in the i-th slot -/
section
variable {X : Cx}
theorem pv (i : Nat) {x : Str} {pos : Pos} (hN : X.N[i]? = some x := by rfl) (hv : Vis X.env.scope x := by first | exact Or.inl rfl | exact Or.inr (Or.inl rfl) | exact Or.inr (Or.inr rfl)) (hd : (x == ("__debug__" : Str)) = false := by decide)
    (hcd : (x == ("__classdict__" : Str)) = false := by decide) : PE X (.Name x pos) (tVar i) := pe_var hN hv hd hcd
end

/-! ### tests -/
theorem iteF {A B : Prop} (h : B) : if false = true then A else B := by
  rw [if_neg Bool.false_ne_true]
  exact h
theorem iteT {A B : Prop} (h : A) : if true = true then A else B := by
  rw [if_pos rfl]
  exact h
/-! ### heaps -/
/-- all that was tracked is as it was -/
def Same (H H' : Hp) : Prop := ∀ b o, H b = some o → H' b = some o
theorem Same.refl (H : Hp) : Same H H := fun _ _ h => h
theorem Same.trans {H H1 H2 : Hp} (a : Same H H1) (b : Same H1 H2) : Same H H2 := fun c o h => b c o (a c o h)
theorem Same.free {H H' : Hp} (e : Same H H') {l : Addr} (h : H' l = Option.none) : H l = Option.none := by
  cases q : H l with
  | none => rfl
  | some o =>
    rw [e l o q] at h
    cases h
theorem Same.seq {K : PySem.W.Frag} {H H' : Hp} {a : Addr} {xs : List V} (e : Same H H') (h : SqL K H a xs) : SqL K H' a xs := by
  rcases h with (h | ⟨o, h⟩) | h
  · exact .inl (.inl (e _ _ h))
  · exact .inl (.inr ⟨o, e _ _ h⟩)
  · exact .inr h

end L2
set_option Elab.async false
set_option linter.all false
set_option maxRecDepth 100000
namespace L2
open PySem PySem.Spec PyProof.Rows
section
variable {X : Cx}
theorem op_mulB : OpR X (binaryOp .Mult) (rI (fun i j => IntMulOk i j) fun i j => .int (i * j)) := opI fun _ _ _ _ _ _ _ hc q => mul_int q hc
theorem op_powB : OpR X (binaryOp .Pow) (rI (fun i j => 0 ≤ j ∧ (Builtin.Int.intBits i : Int) * j ≤ 2 ^ 27) fun i j => .int (i ^ j.toNat)) := opI fun _ _ _ _ _ _ _ hc q => pow_int hc.1 hc.2 q
/-- two tuples of two ints -/
def rEq2 (K : PySem.W.Frag) (g : Bool → Bool) : R2 := fun x y H Q => ∃ a b p q p' q', x = .ref a ∧ y = .ref b ∧ SqT K H a [.int p, .int q] ∧ SqT K H b [.int p', .int q'] ∧ Q (.bl (g (decide (p = p' ∧ q = q')))) H
end
end L2
set_option Elab.async false
set_option linter.all false
set_option maxRecDepth 100000
namespace Sw
open PySem
/-! ### sizes -/
def Bd (n : Nat) (x : Int) : Prop := x.natAbs < 2 ^ n
theorem Bd.mono {m n : Nat} {x : Int} (h : Bd m x) (e : m ≤ n) : Bd n x := Nat.lt_of_lt_of_le h (Nat.pow_le_pow_right (by decide) e)
theorem Bd.of_le {n : Nat} {x y : Int} (h : Bd n y) (e : x.natAbs ≤ y.natAbs) : Bd n x := Nat.lt_of_le_of_lt e h
theorem Bd.neg {n : Nat} {x : Int} (h : Bd n x) : Bd n (-x) := h.of_le (by omega)
theorem Bd.mul {m n : Nat} {x y : Int} (h : Bd m x) (g : Bd n y) : Bd (m + n) (x * y) := by
  unfold Bd at *
  rw [Int.natAbs_mul, Nat.pow_add]
  exact Nat.mul_lt_mul_of_lt_of_le h (Nat.le_of_lt g) (Nat.lt_of_le_of_lt (Nat.zero_le _) g)
theorem Bd.add {k : Nat} {x y : Int} (h : Bd k x) (g : Bd k y) : Bd (k + 1) (x + y) := by
  unfold Bd at *
  rw [Nat.pow_succ]
  generalize 2 ^ k = p at h g ⊢
  omega
theorem Bd.sub {k : Nat} {x y : Int} (h : Bd k x) (g : Bd k y) : Bd (k + 1) (x - y) := by
  unfold Bd at *
  rw [Nat.pow_succ]
  generalize 2 ^ k = p at h g ⊢
  omega
theorem Bd.ok {m n : Nat} {x y : Int} (h : Bd m x) (g : Bd n y) (e : m + n ≤ 134217728 := by decide) : IntMulOk x y :=
  IntMulOk.of_le (intBits_le_iff.mpr h) (intBits_le_iff.mpr g) e
theorem Bd.one : Bd 1 1 := by unfold Bd; decide
theorem Bd.zero : Bd 1 0 := by unfold Bd; decide
/-! ### divisors -/
def gcdI (a b : Int) : Int := ((Int.gcd a b : Nat) : Int)
def absI (i : Int) : Int := if i < 0 then -i else i
/-! ### fractions -/
structure Fr (p q a b : Int) : Prop where
  pos : 0 < q
  low : gcdI p q = 1
  same : p * b = a * q
  bt : p.natAbs ≤ a.natAbs
  bb : q.natAbs ≤ b.natAbs
structure Low (p q : Int) : Prop where
  pos : 0 < q
  low : gcdI p q = 1
theorem Fr.to {p q a b : Int} (h : Fr p q a b) : Low p q := ⟨h.pos, h.low⟩
def frC (a b : Int) : Int := if b < 0 then -gcdI a b else gcdI a b
end Sw
set_option Elab.async false
set_option linter.all false
set_option maxRecDepth 100000
namespace L2
open PySem
inductive Isi (K : PySem.W.Frag) (H : Hp) : V → String → Bool → Prop where
  | ii (i : Int) : Isi K H (.int i) "int" true
  | ib (i : Int) : Isi K H (.int i) "bool" false
  | bb (b : Bool) : Isi K H (.bl b) "bool" true
  | tt (a : Addr) (ys : List V) (h : SqT K H a ys) : Isi K H (.ref a) "tuple" true
end L2
namespace Sw
open PySem L2
theorem dT {p A B : Prop} [Decidable p] (h : p) (a : A) : if decide p = true then A else B := by rw [if_pos (decide_eq_true h)]; exact a
theorem dF {p A B : Prop} [Decidable p] (h : ¬ p) (b : B) : if decide p = true then A else B := by rw [if_neg (by simp [h])]; exact b
theorem d2 {p A B : Prop} [Decidable p] (h1 : p → A) (h2 : ¬ p → B) : if decide p = true then A else B := by
  by_cases h : p
  · exact dT h (h1 h)
  · exact dF h (h2 h)
theorem nF {p A B : Prop} [Decidable p] (h : p) (b : B) : if (!decide p) = true then A else B := by rw [if_neg (by simp [h])]; exact b
theorem vi {a b : Int} (h : a = b) : V.int a = V.int b := by rw [h]
theorem vj {a b : Int} (h : V.int a = V.int b) : a = b := by cases h; rfl
theorem dTI {a b : Int} {A B : Prop} (h : a = b) (x : A) : if decide (V.int a = V.int b) = true then A else B := dT (vi h) x
theorem dFI {a b : Int} {A B : Prop} (h : a ≠ b) (x : B) : if decide (V.int a = V.int b) = true then A else B := dF (fun e => h (vj e)) x
structure Dn (P : Program) (w : World) (K : PySem.W.Frag) (mg : Str → Option Value) (base : Heap) (k : Nat) (x : Str) (ps : List Str) (sp : Sp) where
  f : Addr
  fd : FuncData
  ok : FnOk P w K mg base CX0 k f fd ps sp
  m : mg x = some (.ref f)
  q : PySem.W.keepIn K (.ref f) = true
  b : Binds K fd ps []
section
variable {X : Cx} {k j : Nat} {x : Str} {ps : List Str} {sp : Sp} {p pos : Pos} {e : Expr} {es : List Expr} {t : TA}
end
/-! ### promises -/
def spDiv : Sp := fun vs H Q _ => ∃ a b : Int, vs = [.int a, .int b] ∧ Q (.int (gcdI a b)) H
def spCell (K : PySem.W.Frag) : Sp := fun vs H Q _ => ∃ (a : Addr) (ns : List Int) (k : Int), vs = [.ref a, .int k] ∧ SqL K H a (ns.map V.int) ∧ 0 ≤ k ∧ ∀ v : Int, Q (.int v) H
def spWhole : Sp := fun vs H Q _ => ∃ v : Int, vs = [.int v] ∧ Q (.bl true) H
def spNum : Sp := fun vs H Q _ => ∃ c : Int, vs = [.int c] ∧ ∀ v : Int, Bd 200 v → Q (.int v) H
def spLaw (K : PySem.W.Frag) : Sp := fun vs H Q _ => ∃ (a : Addr) (ns : List Int), vs = [.ref a] ∧ SqL K H a (ns.map V.int) ∧ ns.length ≤ 63 ∧ ∀ H', Q (.bl true) H'
theorem cell_ok {ns : List Int} {k : Int} (h0 : 0 ≤ k) (h : k < (((ns.map V.int).length : Nat) : Int)) : ∃ v : Int, atI (ns.map V.int) k = some (.int v) := by
  rw [List.length_map] at h
  have hk : k.toNat < ns.length := by omega
  have ek : k = ((k.toNat : Nat) : Int) := by omega
  have q : atI (ns.map V.int) ((k.toNat : Nat) : Int) = some (.int ns[k.toNat]) := atI_nat (by rw [List.getElem?_map, List.getElem?_eq_getElem hk] <;> rfl)
  rw [← ek] at q
  exact ⟨_, q⟩
end Sw
set_option Elab.async false
set_option linter.all false
set_option maxRecDepth 100000
namespace Sw
open PySem L2
theorem sameT {K : PySem.W.Frag} {H H' : Hp} {a : Addr} {xs : List V} (e : Same H H') (h : SqT K H a xs) : SqT K H' a xs := by
  rcases h with (h | ⟨o, h⟩) | h
  · exact .inl (.inl (e _ _ h))
  · exact .inl (.inr ⟨o, e _ _ h⟩)
  · exact .inr h
theorem same_new {H : Hp} {p : Addr} (h : H p = none) (o : HO) : Same H (upd H p o) := fun b u q => by rw [upd_ne (ne_of_none q h)]; exact q
/-- a new pair -/
def Pair (H : Hp) (Q : VK) (p q : Int) : Prop := ∀ (t : Addr) (H' : Hp), Same H H' → H' t = some (.tup [.int p, .int q]) → Q (.ref t) H'
def spLow : Sp := fun vs H Q _ => ∃ a b : Int, vs = [.int a, .int b] ∧ 0 < b ∧ Bd 8500 b ∧ ∀ p q : Int, Fr p q a b → Pair H Q p q
def spFr : Sp := fun vs H Q _ => ∃ a b : Int, vs = [.int a, .int b] ∧ b ≠ 0 ∧ Bd 8500 b ∧ ∀ p q : Int, Fr p q a b → Pair H Q p q
structure FrIn (K : PySem.W.Frag) (n : Nat) (H : Hp) (t : Addr) (p q : Int) : Prop where
  at_ : SqT K H t [.int p, .int q]
  pos : 0 < q
  bp : Bd n p
  bq : Bd n q
theorem FrIn.same {K : PySem.W.Frag} {n : Nat} {H H' : Hp} {t : Addr} {p q : Int} (h : FrIn K n H t p q) (e : Same H H') : FrIn K n H' t p q := ⟨sameT e h.at_, h.pos, h.bp, h.bq⟩
theorem FrIn.mono {K : PySem.W.Frag} {m n : Nat} {H : Hp} {t : Addr} {p q : Int} (h : FrIn K m H t p q) (e : m ≤ n) : FrIn K n H t p q := ⟨h.at_, h.pos, h.bp.mono e, h.bq.mono e⟩
theorem FrIn.of {K : PySem.W.Frag} {n : Nat} {H : Hp} {t : Addr} {p q a b : Int} (f : Fr p q a b) (ha : Bd n a) (hb : Bd n b) (e : H t = some (.tup [.int p, .int q])) : FrIn K n H t p q := ⟨SqT.of e, f.pos, ha.of_le f.bt, hb.of_le f.bb⟩
def spLess (K : PySem.W.Frag) : Sp := fun vs H Q _ => ∃ (t t' : Addr) (p q p' q' : Int), vs = [.ref t, .ref t'] ∧ FrIn K 4000 H t p q ∧ FrIn K 4000 H t' p' q' ∧ Q (.bl (decide (p * q' < p' * q))) H
def spUp (K : PySem.W.Frag) : Sp := fun vs H Q _ => ∃ (t : Addr) (p q : Int), vs = [.ref t] ∧ FrIn K 8000 H t p q ∧ Q (.int (-((-p).fdiv q))) H
def spDown (K : PySem.W.Frag) : Sp := fun vs H Q _ => ∃ (t : Addr) (p q : Int), vs = [.ref t] ∧ FrIn K 8000 H t p q ∧ Q (.int (p.fdiv q)) H
def spTold (K : PySem.W.Frag) : Sp := fun vs H Q _ => ∃ (t t' : Addr) (p q p' q' : Int), vs = [.ref t, .ref t', .bl (decide (p * q' < p' * q))] ∧ FrIn K 4000 H t p q ∧ FrIn K 4000 H t' p' q' ∧ Q (.bl true) H
def spRounded (K : PySem.W.Frag) : Sp := fun vs H Q _ => ∃ (t : Addr) (p q : Int), vs = [.ref t] ∧ FrIn K 4000 H t p q ∧ Q (.bl true) H
end Sw
set_option Elab.async false
set_option linter.all false
set_option maxRecDepth 100000
namespace Sw
open PySem L2
structure FunD (K : PySem.W.Frag) (x qual : Str) (st : Stmt) (dV : Value) (f : Addr) (fd : FuncData) : Prop where
  ex : ∃ (oc : Value) (od : Option Addr) (kV doc pm : Value) (an : Option Addr) (cdv ct : Value) (osl : Array (Option Value)),
    fd = PySem.W.fnOf x qual (defArgs st) (defBody st) (defScope st) dV kV doc pm an cdv ct ∧ K.lookup f = some ⟨oc, od, .func fd, osl⟩ ∧ PySem.W.codeIn K cdv qual = true
  kp : PySem.W.keepIn K (.ref f) = true
section
variable {P : Program} {w : World} {K : PySem.W.Frag} {mg : Str → Option Value} {base : Heap}
theorem FunD.ok {x qual : Str} {st : Stmt} {dV : Value} {f : Addr} {fd : FuncData} {N ps : List Str} {k : Nat} {sp : Sp} (F : FunD K x qual st dV f fd) (S : FnScope N ps (defScope st)) (len : ∀ vs H Q E, sp vs H Q E → vs.length = ps.length)
    (hbody : ∀ (cdv : Value) (A : Around) (outer : List Env) (s : Shared) (H : Hp) (vs : List V) (Q : VK) (E : XK), Room k (A.deeper (PyProof.Rows.envOfC qual (defScope st) s.heap.objs.size f cdv)) → sp vs H Q E →
      ∃ t, PSs (cxOf CX0 P w K mg base N qual (defScope st) f cdv A outer s H E).nox (defBody st) t ∧ t { nx := fun _ H' => Q .non H', rt := Q } (start N vs) H) : FnOk P w K mg base CX0 (k + 1) f fd ps sp := by
  obtain ⟨oc, od, kV, doc, pm, an, cdv, ct, osl, rfl, lk, hcd⟩ := F.ex
  refine fn_of lk hcd S len fun A outer s H vs Q E hr hsp => ?_
  obtain ⟨t, h, q⟩ := hbody cdv A outer s H vs Q E hr hsp
  exact ⟨t, h.nox, q⟩
theorem FunD.binds {x qual : Str} {st : Stmt} {T : Addr} {f : Addr} {fd : FuncData} {ps : List Str} {o : Obj} {items : Array Value} {n : Nat} {ds : List Value} (F : FunD K x qual st (.ref T) f fd) (ho : K.lookup T = some o) (hs : o.data = .seq items n)
    (h : ∀ (kV doc pm : Value) (an : Option Addr) (cdv ct : Value) (us : List Value), (us ++ ds).length = ps.length → ∃ k : Option (Array Value) → Sem (List (Str × Value)), bindArgs (PySem.W.fnOf x qual (defArgs st) (defBody st) (defScope st) (.ref T) kV doc pm an cdv ct) ⟨us, []⟩ = seqItems? (.ref T) >>= k ∧ k (some items) = pure (ps.zip (us ++ ds))) : Binds K fd ps ds := by
  obtain ⟨oc, od, kV, doc, pm, an, cdv, ct, osl, rfl, lk, hcd⟩ := F.ex
  intro s us KX hl
  obtain ⟨k, h1, h2⟩ := h kV doc pm an cdv ct us hl
  exact PySem.W.binds_K KX rfl ho hs h1 h2
theorem FunD.binds0 {x qual : Str} {st : Stmt} {dV : Value} {f : Addr} {fd : FuncData} {ps : List Str} (F : FunD K x qual st dV f fd)
    (h : ∀ (kV doc pm : Value) (an : Option Addr) (cdv ct : Value) (us : List Value), us.length = ps.length → bindArgs (PySem.W.fnOf x qual (defArgs st) (defBody st) (defScope st) dV kV doc pm an cdv ct) ⟨us, []⟩ = pure (ps.zip us)) : Binds K fd ps [] := by
  obtain ⟨oc, od, kV, doc, pm, an, cdv, ct, osl, rfl, lk, hcd⟩ := F.ex
  exact .all (h kV doc pm an cdv ct)
theorem funD_mk {x qual : Str} {st : Stmt} {f : Addr} {oc dV : Value} {od an : Option Addr} {osl : Array (Option Value)} {kV doc pm cdv ct : Value} (l : K.lookup f = some ⟨oc, od, .func (PySem.W.fnOf x qual (defArgs st) (defBody st) (defScope st) dV kV doc pm an cdv ct), osl⟩)
    (c : PySem.W.codeIn K cdv qual = true) (k : PySem.W.keepIn K (.ref f) = true) : FunD K x qual st dV f (PySem.W.fnOf x qual (defArgs st) (defBody st) (defScope st) dV kV doc pm an cdv ct) := ⟨⟨oc, od, kV, doc, pm, an, cdv, ct, osl, rfl, l, c⟩, k⟩
end
section
variable {X : Cx} {k j : Nat} {x : Str} {ps : List Str} {sp : Sp} {p pos : Pos} {e : Expr} {es : List Expr} {t : TA} {dvs : List V}
end
def spPlus (K : PySem.W.Frag) : Sp := fun vs H Q _ => ∃ (t t' : Addr) (p q p' q' : Int), vs = [.ref t, .ref t'] ∧ FrIn K 4000 H t p q ∧ FrIn K 4000 H t' p' q' ∧ ∀ r s : Int, Fr r s (p * q' + p' * q) (q * q') → Pair H Q r s
def spMinus (K : PySem.W.Frag) : Sp := fun vs H Q _ => ∃ (t t' : Addr) (p q p' q' : Int), vs = [.ref t, .ref t'] ∧ FrIn K 4000 H t p q ∧ FrIn K 4000 H t' p' q' ∧ ∀ r s : Int, Fr r s (p * q' - p' * q) (q * q') → Pair H Q r s
def spProd (K : PySem.W.Frag) : Sp := fun vs H Q _ => ∃ (t t' : Addr) (p q p' q' : Int), vs = [.ref t, .ref t'] ∧ FrIn K 4000 H t p q ∧ FrIn K 4000 H t' p' q' ∧ ∀ r s : Int, Fr r s (p * p') (q * q') → Pair H Q r s
def spQuot (K : PySem.W.Frag) : Sp := fun vs H Q _ => ∃ (t t' : Addr) (p q p' q' : Int), vs = [.ref t, .ref t'] ∧ FrIn K 4000 H t p q ∧ FrIn K 4000 H t' p' q' ∧ p' ≠ 0 ∧ ∀ r s : Int, Fr r s (p * q') (q * p') → Pair H Q r s
def spMade (K : PySem.W.Frag) : Sp := fun vs H Q _ => ∃ (t : Addr) (r s a b : Int), vs = [.ref t, .int a, .int b] ∧ FrIn K 30000 H t r s ∧ gcdI r s = 1 ∧ r * b = a * s ∧ Bd 30000 a ∧ Bd 30000 b ∧ Q (.bl true) H
/-! ### the mathematics of sums -/
end Sw
set_option Elab.async false
set_option linter.all false
set_option maxRecDepth 100000
namespace XH
open PySem
/-! ### what a frame's note and the flight of an exception change -/
structure Mv (fs ch : List Addr) (h h' : Heap) : Prop where
  keep : ∀ b o, b ∉ fs → b ∉ ch → h.get? b = some o → h'.get? b = some o
  slot : ∀ b o, b ∈ fs → b ∉ ch → h.get? b = some o → ∃ sl, h'.get? b = some { o with slots := sl }
  there : ∀ b o, h.get? b = some o → ∃ o', h'.get? b = some o'
theorem Mv.refl (fs ch : List Addr) (h : Heap) : Mv fs ch h h := ⟨fun _ _ _ _ q => q, fun _ o _ _ q => ⟨o.slots, q⟩, fun _ o q => ⟨o, q⟩⟩
theorem Mv.trans {fs c1 c2 ch : List Addr} {h h1 h2 : Heap} (x : Mv fs c1 h h1) (y : Mv fs c2 h1 h2) (k1 : ∀ b, b ∈ c1 → b ∈ ch) (k2 : ∀ b, b ∈ c2 → b ∈ ch) : Mv fs ch h h2 where
  keep := fun b o hf hc q => y.keep b o hf (fun z => hc (k2 b z)) (x.keep b o hf (fun z => hc (k1 b z)) q)
  slot := fun b o hf hc q => by
    obtain ⟨sl, q1⟩ := x.slot b o hf (fun z => hc (k1 b z)) q
    obtain ⟨sl2, q2⟩ := y.slot b _ hf (fun z => hc (k2 b z)) q1
    exact ⟨sl2, q2⟩
  there := fun b o q => by
    obtain ⟨o1, q1⟩ := x.there b o q
    exact y.there b o1 q1
/-- the note in an exception's traceback: none yet, or an entry in such a flight -/
inductive XSt where
  | new
  | fl (v : Value)
def XSt.Is (F : Addr → Prop) (h : Heap) (e : Addr) (vs : Array Value) : XSt → Prop
  | .new => vs[1]? = some .none
  | .fl v => ∃ T oT ts, vs[1]? = some (.ref T) ∧ F T ∧ T ≠ e ∧ h.get? T = some oT ∧ oT.data = .fields ts ∧ ts[3]? = some v
/-- room for its entries, and it came with no other one handled -/
def Fz (vs : Array Value) : Prop := 1 < vs.size ∧ vs[2]? = some .none
theorem Fz.set {vs : Array Value} (h : Fz vs) (v : Value) : Fz (vs.setIfInBounds 1 v) := ⟨by simpa using h.1, by rw [Array.getElem?_setIfInBounds]; simp [h.2]⟩
structure XO (F : Addr → Prop) (h : Heap) (e : Addr) (cls : Value) (dx : Option Addr) (st : XSt) : Prop where
  ex : ∃ oe vs, h.get? e = some oe ∧ oe.cls = cls ∧ oe.dict = dx ∧ oe.data = .fields vs ∧ Fz vs ∧ st.Is F h e vs
  fr : F e
theorem XO.mono {F G : Addr → Prop} {h : Heap} {e : Addr} {cls : Value} {dx : Option Addr} {st : XSt} (x : XO F h e cls dx st) (k : ∀ b, F b → G b) : XO G h e cls dx st := by
  obtain ⟨⟨oe, vs, a, b, c, d, f, g⟩, fr⟩ := x
  refine ⟨⟨oe, vs, a, b, c, d, f, ?_⟩, k _ fr⟩
  cases st with
  | new => exact g
  | fl v =>
    obtain ⟨T, oT, ts, g1, g2, g3⟩ := g
    exact ⟨T, oT, ts, g1, k _ g2, g3⟩
theorem mapf_dict (o : Obj) (f : Array Value → Array Value) : (o.mapFields f).dict = o.dict := by
  obtain ⟨c, d, dt, sl⟩ := o
  cases dt <;> rfl
section
variable {M : Model} {A : Around} {E : Value → Shared → Prop} {s : Shared}
theorem entry_ok {base : Heap} {env : Env} {outer : List Env} {L e : Addr} {oe : Obj} {vs : Array Value} {head : Value} {had : Bool} {Q : Unit → Shared → Prop}
    (hfr : A.frames = some (env :: outer)) (hl : s.heap.FunFrames base (env :: outer)) (hf : env.frame = some L) (he : s.heap.get? e = some oe) (hd : oe.data = .fields vs) (hsz : 1 < vs.size)
    (h : ∀ h' T, Mv ((env :: outer).filterMap (·.frame)) [e] s.heap h' → s.heap.get? T = none → T ≠ e → h'.get? e = some (oe.mapFields (·.setIfInBounds 1 (.ref T))) →
      (∃ oT ts, h'.get? T = some oT ∧ oT.data = .fields ts ∧ ts[3]? = some (rawInt L)) → Q () { s with heap := h' }) :
    wpAny M A (do let a ← frameOf env; let pl ← entryPlaceOf L had; let b ← EntryCells.newEntry head a .none (rawInt L) .none pl; setField (.ref e) 1 b) Q E s := by
  have hne : e ∉ (env :: outer).filterMap (·.frame) := by
    intro hm
    obtain ⟨_, o, ho, hnf⟩ := hl.mem hm
    rw [he] at ho
    cases ho
    exact hnf vs hd
  apply wpAny_bind
  apply wpAny_frameOf_fun hfr hl hf
  intro h1 hs
  apply wpAny_bind
  apply wpAny_entryPlaceOf
  intro pl hpl
  unfold EntryCells.newEntry newFields
  apply wpAny_bind
  refine wpAny_newObj_type ?_ (hpl.sizeOk5 ..)
  have e1 : h1.get? e = some oe := (hs.2.1 e hne).trans he
  generalize hob : ({ cls := .type "traceback", dict := none, data := .fields ([head, .ref L, .none, rawInt L, .none] ++ (if pl.isEmpty then List.replicate 6 Value.none else pl)).toArray } : Obj) = ob
  have e2 := Heap.get?_push_of_some (h := h1) ob e1
  refine wpAny_setField e2 hd hsz ?_
  have hTe : h1.objs.size ≠ e := Nat.ne_of_gt (Heap.lt_size e1)
  have d3 := Obj.data_mapFields hd (·.setIfInBounds 1 (Value.ref h1.objs.size))
  have e3 := Heap.get?_update_self (Obj.mapFields (·.setIfInBounds 1 (Value.ref h1.objs.size))) e2 (Obj.isFreed_of_fields d3)
  have kp : ∀ b o, b ≠ e → h1.get? b = some o → ((h1.push ob).update e (Obj.mapFields (·.setIfInBounds 1 (Value.ref h1.objs.size)))).get? b = some o := by
    intro b o hb q
    rw [Heap.get?_update_other _ _ (Ne.symm hb)]
    exact Heap.get?_push_of_some _ q
  have t3 : ((h1.push ob).update e (Obj.mapFields (·.setIfInBounds 1 (Value.ref h1.objs.size)))).get? h1.objs.size = some ob := by
    rw [Heap.get?_update_other _ _ (Ne.symm hTe)]
    exact Heap.get?_push_size h1 (by rw [← hob]; rfl)
  refine h _ h1.objs.size ⟨?_, ?_, ?_⟩ ?_ hTe e3 ?_
  · intro b o hb hc q
    exact kp b o (fun z => hc (by rw [z]; exact List.mem_singleton.mpr rfl)) ((hs.2.1 b hb).trans q)
  · intro b o hb hc q
    obtain ⟨sl, q1⟩ := hs.2.2 b o q
    exact ⟨sl, kp b _ (fun z => hc (by rw [z]; exact List.mem_singleton.mpr rfl)) q1⟩
  · intro b o q
    by_cases hb : b = e
    · subst hb
      exact ⟨_, e3⟩
    · obtain ⟨sl, q1⟩ := hs.2.2 b o q
      exact ⟨_, kp b _ hb q1⟩
  · exact Heap.get?_none_of_le (by rw [hs.1]; exact Nat.le_refl _)
  · subst hob
    refine ⟨_, _, t3, rfl, ?_⟩
    rcases hpl with rfl | ⟨_, _, _, _, _, _, _, rfl⟩ <;> simp
theorem flight_ok {F : Addr → Prop} {e : Addr} {cls v : Value} {dx fl : Option Addr} {Q : Unit → Shared → Prop} (x : XO F s.heap e cls dx (.fl v))
    (h : ∀ h' T, F T → Mv [] [T] s.heap h' → XO F h' e cls dx (.fl (fl.elim .none fun f => rawInt f)) → Q () { s with heap := h' }) : wpAny M A (setFlight (.ref e) fl) Q E s := by
  obtain ⟨⟨oe, vs, he, hc, hdx, hd, hsz, T, oT, ts, h1, hF, hTe, hT, hdT, h3⟩, fr⟩ := x
  have z3 : 3 < ts.size := (Array.getElem?_eq_some_iff.mp h3).1
  have oth : ∀ b, b ≠ T → (s.heap.update T (Obj.mapFields (·.setIfInBounds 3 (fl.elim Value.none fun f => rawInt f)))).get? b = s.heap.get? b := fun b hb => Heap.get?_update_other _ _ (Ne.symm hb)
  have t4 := Heap.get?_update_self (Obj.mapFields (·.setIfInBounds 3 (fl.elim Value.none fun f => rawInt f))) hT (Obj.isFreed_of_fields (Obj.data_mapFields hdT _))
  unfold setFlight
  apply wpAny_bind
  apply wpAny_field he hd h1
  rw [if_pos (by simp)]
  apply wpAny_setField hT hdT z3
  refine h _ T hF ⟨?_, fun b o hb => absurd hb (by simp), ?_⟩ ⟨⟨oe, vs, (oth e (Ne.symm hTe)).trans he, hc, hdx, hd, hsz, T, _, _, h1, hF, hTe, t4, Obj.data_mapFields hdT _, by simp [z3]⟩, fr⟩
  · intro b o _ hb q
    exact (oth b (fun z => hb (by rw [z]; exact List.mem_singleton.mpr rfl))).trans q
  · intro b o q
    by_cases hb : b = T
    · subst hb
      exact ⟨_, t4⟩
    · exact ⟨o, (oth b hb).trans q⟩
theorem note_ok {F : Addr → Prop} {base : Heap} {env : Env} {outer : List Env} {L e : Addr} {cls : Value} {dx : Option Addr} {st : XSt} {Q : Unit → Shared → Prop}
    (hfr : A.frames = some (env :: outer)) (hl : s.heap.FunFrames base (env :: outer)) (hf : env.frame = some L) (x : XO F s.heap e cls dx st)
    (h : ∀ h' ch, (∀ b ∈ ch, F b) → Mv ((env :: outer).filterMap (·.frame)) ch s.heap h' → XO (fun b => F b ∨ s.heap.get? b = none) h' e cls dx (.fl (rawInt L)) → Q () { s with heap := h' }) : wpAny M A (noteFrame (.ref e) env) Q E s := by
  obtain ⟨⟨oe, vs, he, hc, hdx, hd, hsz, hst⟩, fr⟩ := x
  unfold noteFrame
  simp only [hf]
  cases st with
  | new =>
    apply wpAny_bind
    apply wpAny_field he hd hst
    rw [if_neg (by decide)]
    refine entry_ok hfr hl hf he hd hsz.1 fun h' T mv tn tne he' ⟨oT, ts, hT, hdT, h3⟩ => ?_
    refine h h' [e] (fun b hb => by rw [List.mem_singleton.mp hb]; exact fr) mv ⟨⟨_, _, he', ?_, ?_, Obj.data_mapFields hd _, hsz.set _, T, oT, ts, by simp [hsz.1], .inr tn, tne, hT, hdT, h3⟩, .inl fr⟩
    · rw [Obj.cls_mapFields]; exact hc
    · rw [mapf_dict]; exact hdx
  | fl v =>
    obtain ⟨T, oT, ts, h1, hF, hTe, hT, hdT, h3⟩ := hst
    have z3 : 3 < ts.size := (Array.getElem?_eq_some_iff.mp h3).1
    apply wpAny_bind
    apply wpAny_field he hd h1
    rw [if_pos (by simp)]
    apply wpAny_bind
    apply wpAny_field hT hdT h3
    by_cases hv : (v == rawInt L) = true
    · rw [if_pos hv]
      have ev : v = rawInt L := beq_iff_eq.mp hv
      subst ev
      refine wpAny_pure (h s.heap [] (fun b hb => absurd hb (by simp)) (.refl ..) ⟨⟨oe, vs, he, hc, hdx, hd, hsz, T, oT, ts, h1, .inl hF, hTe, hT, hdT, h3⟩, .inl fr⟩)
    · rw [if_neg hv]
      apply wpAny_bind
      apply wpAny_setField hT hdT z3
      have oth : ∀ b, b ≠ T → (s.heap.update T (Obj.mapFields (·.setIfInBounds 3 Value.none))).get? b = s.heap.get? b := fun b hb => Heap.get?_update_other _ _ (Ne.symm hb)
      have t4 := Heap.get?_update_self (Obj.mapFields (·.setIfInBounds 3 Value.none)) hT (Obj.isFreed_of_fields (Obj.data_mapFields hdT _))
      have nrec : ∀ b o, s.heap.get? b = some o → (∀ vs, o.data ≠ .fields vs) → b ≠ T := by
        intro b o hb hn z
        rw [z, hT] at hb
        cases hb
        exact hn ts hdT
      have mv1 : Mv ((env :: outer).filterMap (·.frame)) [T] s.heap (s.heap.update T (Obj.mapFields (·.setIfInBounds 3 Value.none))) := by
        refine ⟨fun b o _ hb q => (oth b (fun z => hb (by rw [z]; exact List.mem_singleton.mpr rfl))).trans q, fun b o _ hb q => ⟨o.slots, (oth b (fun z => hb (by rw [z]; exact List.mem_singleton.mpr rfl))).trans q⟩, fun b o q => ?_⟩
        by_cases hb : b = T
        · subst hb
          exact ⟨_, t4⟩
        · exact ⟨o, (oth b hb).trans q⟩
      refine entry_ok (s := { s with heap := s.heap.update T (Obj.mapFields (·.setIfInBounds 3 Value.none)) }) hfr (hl.of_keeps fun b o hb hn => ⟨o, (oth b (nrec b o hb hn)).trans hb, rfl⟩) hf ((oth e (Ne.symm hTe)).trans he) hd hsz.1 fun h' T2 mv tn tne he' ⟨oT2, ts2, hT2, hdT2, h32⟩ => ?_
      refine h h' [T, e] ?_ (mv1.trans mv (fun b hb => by simp at hb; simp [hb]) (fun b hb => by simp at hb; simp [hb])) ⟨⟨_, _, he', ?_, ?_, Obj.data_mapFields hd _, hsz.set _, T2, oT2, ts2, by simp [hsz.1], .inr ?_, tne, hT2, hdT2, h32⟩, .inl fr⟩
      · intro b hb
        simp at hb
        rcases hb with rfl | rfl
        · exact hF
        · exact fr
      · rw [Obj.cls_mapFields]; exact hc
      · rw [mapf_dict]; exact hdx
      · cases q : s.heap.get? T2 with
        | none => rfl
        | some o =>
          obtain ⟨o', q'⟩ := mv1.there T2 o q
          rw [q'] at tn
          cases tn
end
end XH
set_option Elab.async false
set_option linter.all false
set_option maxRecDepth 100000
namespace L2
open PySem PySem.Spec PyProof.Rows XH
/-! ### an exception behind a call, in flight: it and its notes are untracked, and were not there ahead of the call -/
structure CXat (P : Program) (w : World) (outer : List Env) (H : Hp) (s : Shared) (a : Addr) (H' : Hp) (cls : Value) (dx : Option Addr) (st : XSt) (s' : Shared) : Prop where
  os : s'.os = s.os
  bare : AllBare s'.gens
  un : Un (frs outer) [] H H' s.heap s'.heap
  hok : HOk P w H' s'.heap
  xo : XO (fun b => s.heap.get? b = none ∧ H' b = none) s'.heap a cls dx st
def CX1 (P : Program) (w : World) : CXT := fun outer H s E e s' => ∃ a H' cls dx st, e = .ref a ∧ CXat P w outer H s a H' cls dx st s' ∧ E cls dx H'
section
variable {P : Program} {w : World} {H H' : Hp} {h h' h0 : Heap} {fs ch : List Addr} {a : Addr} {o : HO}
theorem ObjOk.there (x : ObjOk P w H h a o) : ∃ u, h.get? a = some u := by
  cases o with
  | lst xs => obtain ⟨_, _, _, _, e⟩ := x; exact ⟨_, e⟩
  | tup xs => obtain ⟨_, _, _, _, e, _⟩ := x; exact ⟨_, e⟩
  | dK kvs => obtain ⟨_, _, _, _, _, _, _, e, _⟩ := x; exact ⟨_, e⟩
  | dT kvs => obtain ⟨_, _, _, _, _, _, _, e, _⟩ := x; exact ⟨_, e⟩
  | set S n => obtain ⟨_, _, _, _, e, _⟩ := x; exact ⟨_, e⟩
  | ins C dx fs => obtain ⟨_, _, _, e, _⟩ := x; exact ⟨_, e⟩
  | own y => exact x
  | xd fs => obtain ⟨_, ⟨_, _, _, e, _⟩, _⟩ := x; exact ⟨_, e⟩
  | rng lo hi => obtain ⟨_, _, _, e⟩ := x; exact ⟨_, e⟩
  | frz ob u => obtain ⟨e, _⟩ := x; exact ⟨_, e⟩
  | tbl ps => exact ⟨_, show h.get? a = some _ from x⟩
  | met f y => exact ⟨_, show h.get? a = some _ from x⟩
  | ext φ => obtain ⟨_, ⟨_, e⟩, _⟩ := x; exact ⟨_, e⟩
theorem HOk.none_of (k : HOk P w H h) (q : h.get? a = none) : H a = none := by
  cases r : H a with
  | none => rfl
  | some o =>
    obtain ⟨u, e⟩ := (k a o r).there
    rw [q] at e
    cases e
theorem un_mv (u : Un fs [] H H' h0 h) (m : Mv fs ch h h') (hc : ∀ b ∈ ch, h0.get? b = none) : Un fs [] H H' h0 h' where
  keep := fun b o q n hb hx => m.keep b o hb (fun z => by rw [hc b z] at q; cases q) (u.keep b o q n hb hx)
  slot := fun b o q n hb hx => by
    obtain ⟨sl, q1⟩ := u.slot b o q n hb hx
    obtain ⟨sl2, q2⟩ := m.slot b _ hb (fun z => by rw [hc b z] at q; cases q) q1
    exact ⟨sl2, q2⟩
  free := u.free
  there := fun b o q hx => by
    obtain ⟨o1, q1⟩ := u.there b o q hx
    exact m.there b o1 q1
  tups := u.tups
  frzs := u.frzs
  tbls := u.tbls
theorem hok_mv (k : HOk P w H h) (m : Mv fs ch h h') (hc : ∀ b ∈ ch, H b = none) (hf : ∀ b ∈ fs, H b = none) : HOk P w H h' := fun a o e =>
  (k a o e).stay (fun b u hb q => by
    have t : H b ≠ none := by
      rcases hb with z | z
      · rw [z, e]; exact fun y => nomatch y
      · rw [z]; exact fun y => nomatch y
    exact m.keep b u (fun z => t (hf b z)) (fun z => t (hc b z)) q) (fun _ q => q) fun _ _ q => q
theorem _root_.XH.Mv.wider (m : Mv [] ch h h') : Mv fs ch h h' := ⟨fun b o _ hc q => m.keep b o (by simp) hc q, fun b o _ hc q => ⟨o.slots, m.keep b o (by simp) hc q⟩, m.there⟩
theorem funs_un {base : Heap} (u : Un fs [] H H' h h') : ∀ {l : List Env}, h.FunFrames base l → (∀ b ∈ frs l, b ∈ fs ∧ H b = none) → h'.FunFrames base l
  | [], _, _ => trivial
  | env :: r, ⟨hk, ⟨L, o, hf, hn, ho, hd⟩, hr⟩, hs => by
    have hL : L ∈ frs (env :: r) := by unfold frs; rw [List.filterMap_cons, hf]; exact List.mem_cons_self
    obtain ⟨sl, e⟩ := u.slot L o ho (hs L hL).2 (hs L hL).1 (by simp)
    exact ⟨hk, ⟨L, _, hf, hn, e, hd⟩, funs_un u hr fun b hb => hs b (by unfold frs; rw [List.filterMap_cons, hf]; exact List.mem_cons_of_mem _ hb)⟩
end
section
variable {P : Program} {w : World} {H H' : Hp} {s s' : Shared} {a L : Addr} {cls v : Value} {dx : Option Addr} {st : XSt} {env : Env} {outer : List Env} {base : Heap} {M : Model} {A : Around} {Z : Value → Shared → Prop} {Q : Unit → Shared → Prop}
theorem CXat.frees (c : CXat P w outer H s a H' cls dx st s') (hl : s.heap.FunFrames base outer) (hH : ∀ b ∈ frs outer, H b = none) : ∀ b ∈ frs outer, H' b = none := fun b hb => by
  obtain ⟨_, o, ho, _⟩ := hl.mem hb
  exact c.un.free b o ho (hH b hb) (by simp)
theorem CXat.note (c : CXat P w (env :: outer) H s a H' cls dx st s') (hfr : A.frames = some (env :: outer)) (hf : env.frame = some L) (hl : s.heap.FunFrames base (env :: outer)) (hH : ∀ b ∈ frs (env :: outer), H b = none)
    (h : ∀ s'', CXat P w (env :: outer) H s a H' cls dx (.fl (rawInt L)) s'' → Q () s'') : wpAny M A (noteFrame (.ref a) env) Q Z s' := by
  refine note_ok hfr (funs_un c.un hl fun b hb => ⟨hb, hH b hb⟩) hf c.xo fun h' ch hch mv x => h _ ?_
  refine ⟨c.os, c.bare, un_mv c.un mv fun b hb => (hch b hb).1, hok_mv c.hok mv (fun b hb => (hch b hb).2) (c.frees hl hH), x.mono ?_⟩
  rintro b (q | q)
  · exact q
  · refine ⟨?_, c.hok.none_of q⟩
    cases r : s.heap.get? b with
    | none => rfl
    | some o =>
      obtain ⟨o', r'⟩ := c.un.there b o r (by simp)
      rw [r'] at q
      cases q
theorem CXat.flight {fl : Option Addr} (c : CXat P w outer H s a H' cls dx (.fl v) s') (hl : s.heap.FunFrames base outer) (hH : ∀ b ∈ frs outer, H b = none)
    (h : ∀ s'', CXat P w outer H s a H' cls dx (.fl (fl.elim .none fun f => rawInt f)) s'' → Q () s'') : wpAny M A (setFlight (.ref a) fl) Q Z s' := by
  refine flight_ok c.xo fun h' T hT mv x => h _ ⟨c.os, c.bare, un_mv c.un mv.wider fun b hb => ?_, hok_mv c.hok (mv.wider (fs := frs outer)) (fun b hb => ?_) (c.frees hl hH), x⟩
  · rw [List.mem_singleton.mp hb]; exact hT.1
  · rw [List.mem_singleton.mp hb]; exact hT.2
end
/-- what is wanted of an exception in a body: E speaks of the names, its class, its dict, the heap -/
def XS (X : Cx) (E : St → XK) : Value → Shared → Prop := fun e s' => ∃ σ H0 s0, Inv X [] σ H0 s0 ∧ CX1 X.prog X.w X.stack H0 s0 (E σ) e s'
def PassX (X : Cx) (E : St → XK) : Prop := ∀ (pins : List (Addr × Obj)) (σ : St) (H : Hp) (s : Shared) (e : Value) (s' : Shared), Inv X pins σ H s → CX1 X.prog X.w X.stack H s (E σ) e s' → X.xe e s'
theorem passX {X : Cx} {E : St → XK} : PassX (X.wish (XS X E)) E := fun pins σ H s e s' I c => ⟨σ, H, s, I.unwish.pins_of (fun p hp => absurd hp (by simp)), c⟩
def tCallX (sp : Sp) (dvs : List V) (E : St → XK) (t : TA) : TE := fun σ H Q => t σ H fun vs H1 => sp (vs ++ dvs) H1 Q (E σ)
section
variable {X : Cx} {k : Nat} {f C : Addr} {fd : FuncData} {ps : List Str} {sp : Sp} {dvs : List V} {ds : List Value} {E : St → XK} {x m : Str} {p pos apos : Pos} {e o : Expr} {es : List Expr} {ta : TE} {t : TA}
end
section
variable {P : Program} {w : World} {K : PySem.W.Frag} {mg : Str → Option Value} {base : Heap}
/-- a promise under which it refuses nothing -/
theorem FnOk.noraise {k : Nat} {f : Addr} {fd : FuncData} {ps : List Str} {sp sp0 : Sp} (F : FnOk P w K mg base (CX1 P w) k f fd ps sp) (h : ∀ vs H Q E, sp0 vs H Q E → sp vs H Q E0) : FnOk P w K mg base CX0 k f fd ps sp0 :=
  ⟨fun vs H Q E q => F.len vs H Q E0 (h _ _ _ _ q), fun A outer s H args us vs Q E hr he hb hv hs => codeAny_mono (F.run A outer s H args us vs Q E0 hr he hb hv (h _ _ _ _ hs)) fun r s' hq => by
    cases r with
    | error e => obtain ⟨_, _, _, _, _, _, _, z⟩ := hq; exact z.elim
    | ok fl => cases fl <;> exact hq⟩
end
/-! ### try -/
abbrev Cx.tried (X : Cx) (pins : List (Addr × Obj)) : Cx := { X with pn := X.pn ++ pins }
abbrev Cx.suite (X : Cx) (pins : List (Addr × Obj)) (a : Addr) : Cx := { X with A := X.A.mark (some (.ref a)), calm := false, pn := X.pn ++ pins, xe := fun _ _ => False }
/-- an exception that was caught or made, tracked -/
def excB (n : Bool) (a : Addr) (cls : Value) (dx : Option Addr) : HO := .ext fun h => ∃ ox vs, h.get? a = some ox ∧ ox.cls = cls ∧ ox.dict = dx ∧ ox.data = .fields vs ∧ vs[2]? = some .none ∧ (n = true → 1 < vs.size ∧ vs[1]? = some .none)
abbrev excO := excB false
theorem excB_ok {P : Program} {w : World} {H : Hp} {h : Heap} {n : Bool} {a : Addr} {cls : Value} {dx : Option Addr} {ox : Obj} {vs : Array Value} (h1 : h.get? a = some ox) (h2 : ox.cls = cls) (h3 : ox.dict = dx) (h4 : ox.data = .fields vs) (h6 : vs[2]? = some .none) (h5 : n = true → 1 < vs.size ∧ vs[1]? = some .none) : ObjOk P w H h a (excB n a cls dx) :=
  ⟨⟨ox, vs, h1, h2, h3, h4, h6, h5⟩, ⟨ox, h1⟩, fun _ _ ⟨oy, ws, q, r⟩ kp => ⟨oy, ws, kp _ q, r⟩⟩
abbrev TH := Ends → St → Value → Option Addr → Hp → Addr → Prop
def PH (X : Cx) (hs : List ExceptHandler) (th : TH) : Prop :=
  ∀ (pins : List (Addr × Obj)) (σ : St) (H0 : Hp) (s0 : Shared) (D : Ends) (a : Addr) (H' : Hp) (cls v : Value) (dx : Option Addr) (s' : Shared), Inv X pins σ H0 s0 → CXat X.prog X.w X.stack H0 s0 a H' cls dx (.fl v) s' → th D σ cls dx H' a →
    wpAny (model X.prog X.w) X.A (handleBy (.ref a) X.env hs) (SP X pins D) X.xe s'
section
variable {X : Cx} {pins : List (Addr × Obj)} {σ : St} {H H' : Hp} {s s' : Shared}
theorem Inv.tried (I : Inv X pins σ H s) : Inv (X.tried pins) [] σ H s :=
  ⟨⟨I.ok.mod, I.ok.kind, I.ok.glob, I.ok.blt, I.ok.above, I.ok.inj, I.ok.has, I.ok.cab, I.ok.hd, I.ok.frames, I.ok.stk, I.ok.exf, I.ok.bs, I.ok.bsz, I.ok.noex, I.ok.exfs, I.ok.funs, I.ok.frf⟩,
    I.os, I.bare, I.base, I.loc, I.cell, I.free, I.freeC, fun p hp => I.pin p (by simpa using hp), I.hok, I.len⟩
theorem Inv.untried (I : Inv (X.tried pins) [] σ H s) : Inv X pins σ H s :=
  ⟨⟨I.ok.mod, I.ok.kind, I.ok.glob, I.ok.blt, I.ok.above, I.ok.inj, I.ok.has, I.ok.cab, I.ok.hd, I.ok.frames, I.ok.stk, I.ok.exf, I.ok.bs, I.ok.bsz, I.ok.noex, I.ok.exfs, I.ok.funs, I.ok.frf⟩,
    I.os, I.bare, I.base, I.loc, I.cell, I.free, I.freeC, fun p hp => I.pin p (by simpa using hp), I.hok, I.len⟩
theorem Inv.insuite (I : Inv X pins σ H s) (a : Addr) : Inv (X.suite pins a) [] σ H s :=
  ⟨⟨I.ok.mod, I.ok.kind, I.ok.glob, I.ok.blt, I.ok.above, I.ok.inj, I.ok.has, I.ok.cab, fun z => (Bool.noConfusion z), I.ok.frames, I.ok.stk, I.ok.exf, I.ok.bs, I.ok.bsz, I.ok.noex, I.ok.exfs, I.ok.funs, I.ok.frf⟩,
    I.os, I.bare, I.base, I.loc, I.cell, I.free, I.freeC, fun p hp => I.pin p (by simpa using hp), I.hok, I.len⟩
theorem Inv.outsuite {a : Addr} (ok : X.Ok) (I : Inv (X.suite pins a) [] σ H s) : Inv X pins σ H s :=
  ⟨ok, I.os, I.bare, I.base, I.loc, I.cell, I.free, I.freeC, fun p hp => I.pin p (by simpa using hp), I.hok, I.len⟩
/-- a name that goes -/
theorem Inv.unbound {n : Str} {i : Nat} {h' : Heap} {m : Str → Option Value} {v : Option Value} {t' : Nat} (I : Inv X pins σ H s) (hi : X.N[i]? = some n) (hN : X.N.Nodup)
    (hm : ∀ (j : Nat) (x : Str) (v : V), X.N[j]? = some x → σ[j]? = some (some v) → Vis X.env.scope x → ∃ u, RelV v u ∧ Look X.env s.heap m x u)
    (hn : h'.Ns X.env.locals (fun x => if x = n then v else m x)) (hs : Heap.SameBut X.env.locals s.heap h') : Inv X pins (σ.set i none) H { s with heap := h', toks := t' } := by
  obtain ⟨m0, hn0, _⟩ := id I.loc
  obtain ⟨oL, _, _, hoL, _⟩ := id hn0
  have cne := I.cne
  have low : ∀ b o, X.s₀.heap.get? b = some o → b ≠ X.env.locals := fun b o e => Nat.ne_of_lt (Nat.lt_of_lt_of_le (Heap.lt_size e) I.ok.above)
  refine ⟨I.ok, I.os, I.bare, ⟨fun b o e n hb hx => ?_, fun b o e n hb hx => ?_, I.base.free, fun b o e hx => ?_, I.base.tups, I.base.frzs, I.base.tbls⟩, ⟨_, hn, fun j y v' e1 e2 e3 => ?_⟩, fun y c e => ?_, I.free, I.freeC, fun p hp => ?_, fun b ob e => ?_, by simpa using I.len⟩
  · exact (hs.2 b (low b o e)).trans (I.base.keep b o e n hb hx)
  · obtain ⟨sl, e1⟩ := I.base.slot b o e n hb hx
    exact ⟨sl, (hs.2 b (low b o e)).trans e1⟩
  · obtain ⟨o', e1⟩ := I.base.there b o e hx
    exact ⟨o', (hs.2 b (low b o e)).trans e1⟩
  · by_cases hj : j = i
    · subst hj
      rw [List.getElem?_set] at e2
      simp at e2
    · rw [List.getElem?_set_ne (Ne.symm hj)] at e2
      obtain ⟨u', r', q⟩ := hm j y v' e1 e2 e3
      refine ⟨u', r', ?_⟩
      rcases q with ⟨k, e⟩ | ⟨k, c, e, z⟩
      · refine .inl ⟨k, ?_⟩
        have : y ≠ n := fun e => hj (nodup_ix hN e1 (e ▸ hi))
        simp [this, e]
      · exact .inr ⟨k, c, e, z.sameBut hs (cne y c e)⟩
  · obtain ⟨w', z⟩ := I.cell y c e
    exact ⟨w', z.sameBut hs (cne y c e)⟩
  · obtain ⟨e, n, ne, nf, d⟩ := I.pin p hp
    exact ⟨(hs.2 p.1 ne).trans e, n, ne, nf, d⟩
  · refine (I.hok b ob e).stay (fun c w' hc q => (hs.2 c ?_).trans q) (fun _ q => q) fun _ _ q => q
    rintro rfl
    rcases hc with rfl | hc
    · rw [I.free] at e; cases e
    · rw [I.free] at hc; cases hc
/-- the exception is tracked from here on -/
theorem un_track {fs : List Addr} {h0 h : Heap} {a : Addr} {o : HO} (u : Un fs [] H H' h0 h) (n0 : h0.get? a = none) (na : H' a = none) : Un fs [] H (upd H' a o) h0 h where
  keep := u.keep
  slot := u.slot
  free := fun b ob q n hx => by
    have : b ≠ a := fun z => by rw [z, n0] at q; cases q
    rw [upd_ne this]
    exact u.free b ob q n hx
  there := u.there
  tups := fun b xs e => by
    have q := u.tups b xs e
    rw [upd_ne (ne_of_none q na)]
    exact q
  frzs := fun b o' w' e => by
    have q := u.frzs b o' w' e
    rw [upd_ne (ne_of_none q na)]
    exact q
  tbls := fun b ps e => by
    obtain ⟨mo, q⟩ := u.tbls b ps e
    exact ⟨mo, by rw [upd_ne (ne_of_none q na)]; exact q⟩
theorem hok_track {P : Program} {w : World} {h : Heap} {a : Addr} {o : HO} (k : HOk P w H h) (na : H a = none) (new : ObjOk P w (upd H a o) h a o) : HOk P w (upd H a o) h := fun b u e => by
  by_cases hb : b = a
  · subst hb; rw [upd_same] at e; cases e; exact new
  · rw [upd_ne hb] at e
    exact (k b u e).stay (fun c v _ q => q) (fun c q => by rw [upd_ne (ne_of_none q na)]; exact q) fun c xs q => by rw [upd_ne (ne_of_none q na)]; exact q
theorem CXat.caughtN {a : Addr} {cls : Value} {dx : Option Addr} (I : Inv X pins σ H s) (c : CXat X.prog X.w X.stack H s a H' cls dx .new s') : Inv X pins σ (upd H' a (excB true a cls dx)) s' := by
  obtain ⟨⟨oe, vs, he, hc, hd, hda, hz, hn⟩, n0, na⟩ := c.xo
  refine I.call' c.os (un_track c.un n0 na) (hok_track c.hok na (excB_ok he hc hd hda hz.2 fun _ => ⟨hz.1, hn⟩)) c.bare fun b z => absurd z (by simp)
theorem CXat.caught {a : Addr} {cls : Value} {dx : Option Addr} {st : XSt} (I : Inv X pins σ H s) (c : CXat X.prog X.w X.stack H s a H' cls dx st s') : Inv X pins σ (upd H' a (excO a cls dx)) s' := by
  obtain ⟨⟨oe, vs, he, hc, hd, hda, hz, _⟩, n0, na⟩ := c.xo
  refine I.call' c.os (un_track c.un n0 na) (hok_track c.hok na (excB_ok he hc hd hda hz.2 fun z => nomatch z)) c.bare fun b z => absurd z (by simp)
end
section
variable {X : Cx} {body : List Stmt} {h₀ : ExceptHandler} {hs : List ExceptHandler} {pos : Pos} {th : TH}
def tTry (tb : (St → XK) → TS) (th : TH) : TS := fun D σ H => tb (fun σ' cls dx H' => ∀ a, H' a = none → th D σ' cls dx H' a) D σ H
theorem SP.untried {pins : List (Addr × Obj)} {E : Value → Shared → Prop} {D : Ends} {f : Flow} {s' : Shared} (h : SP ((X.tried pins).wish E) [] D f s') : SP X pins D f s' := by
  cases f with
  | next => obtain ⟨σ', H', I, q⟩ := h; exact ⟨σ', H', I.unwish.untried, q⟩
  | brk => obtain ⟨σ', H', I, q⟩ := h; exact ⟨σ', H', I.unwish.untried, q⟩
  | cont => obtain ⟨σ', H', I, q⟩ := h; exact ⟨σ', H', I.unwish.untried, q⟩
  | ret u => obtain ⟨v, σ', H', I, r, q⟩ := h; exact ⟨v, σ', H', I.unwish.untried, r, q⟩
theorem ps_try {tb : (St → XK) → TS} (hstk : X.stack = X.env :: X.outer) (hfm : X.env.frame = some X.env.locals)
    (hb : ∀ (pins : List (Addr × Obj)) (E : St → XK), PSs ((X.tried pins).wish (XS (X.tried pins) E)) body (tb E)) (hh : PH X (h₀ :: hs) th) : PS X (.Try body (h₀ :: hs) [] [] pos) (tTry tb th) := by
  intro pins s σ H D I h
  refine wpAny_Try_except ?_
  refine wpAny_mono (hb pins _ [] s σ H D (I.tried.wish _) h) (fun f s1 q => ?_) fun e s1 hx => ?_
  · have q := q.untried
    cases f with
    | next => exact wpAny_execs_nil q
    | brk => exact q
    | cont => exact q
    | ret u => exact q
  · obtain ⟨σ', H0, s0, I0, a, H', cls, dx, st, rfl, c, hE⟩ := hx
    have c' : CXat X.prog X.w (X.env :: X.outer) H0 s0 a H' cls dx st s1 := hstk ▸ c
    have J := I0.untried
    have fr : X.A.frames = some (X.env :: X.outer) := by rw [← hstk]; exact J.ok.frames
    have st1 : s0.heap.FunFrames X.base (X.env :: X.outer) := by rw [← hstk]; exact J.stack
    have sf : ∀ b ∈ frs (X.env :: X.outer), H0 b = none := by rw [← hstk]; exact J.stkFree
    refine c'.note fr hfm st1 sf fun s2 c2 => ?_
    refine c2.flight st1 sf fun s3 c3 => ?_
    exact hh pins σ' H0 s0 D a H' cls _ dx s3 J (hstk ▸ c3) (hE a c3.xo.fr.2)
theorem ph_nil : PH X [] (fun _ _ _ _ _ _ => False) := fun _ _ _ _ _ _ _ _ _ _ _ _ _ h => h.elim
end
/-- what an except clause asks of its class -/
structure XT (K : PySem.W.Frag) (C : Addr) : Prop where
  ty : PySem.W.typeIn K (.ref C) = some (.type "type")
  cl : (PySem.W.clsIn K C).isSome = true
  ex : PySem.W.subIn K (.ref C) (.type "BaseException") = some true
theorem looks_isType {K : PySem.W.Frag} {M : Model} {h : Heap} {C : Addr} (X : K.In h) (e : (PySem.W.clsIn K C).isSome = true) : PySem.W.Looks M h (isType (.ref C)) true := by
  unfold PySem.W.clsIn at e
  split at e
  · rename_i ho
    intro A' Q' E' s' k q
    unfold isType loadHead
    exact wpAny_bind (wpAny_loadPart (k _ _ (X _ _ ho)) (wpAny_pure q))
  · cases e
end L2
set_option Elab.async false
set_option linter.all false
set_option maxRecDepth 100000
namespace L2
open PySem PySem.Spec PyProof.Rows XH
structure XG (K : PySem.W.Frag) (C : Addr) : Prop where
  ga : PySem.W.findIn K (.ref C) "__getattribute__" = some (some (.builtin "BaseException.__getattribute__"))
  gt : PySem.W.findIn K (.ref C) "__getattr__" = some none
  be : PySem.W.mroIn K C (.type "BaseException") = some true
section
variable {prog : Program} {w : World} {A : Around} {E : Value → Shared → Prop} {K : PySem.W.Frag} {h : Heap} {g : Array GenState} {d : Drawn} {t : Nat} {os : OsState} {x C : Addr} {ox : Obj} {od : Option Obj} {name : Str}
open PySem.W in
theorem exc_check {nameV : Value} {Q : Unit → Shared → Prop} (X : K.In h) (I : InstAt h x ox C od) (G : XG K C) (hq : Q () ⟨h, g, d, t, os⟩) :
    wpAny (model prog w) A (checkBuiltinCall "BaseException.__getattribute__" ⟨[.ref x, nameV], []⟩) Q E ⟨h, g, d, t, os⟩ := by
  have hk : builtinKind "BaseException.__getattribute__" = some .slot := by decide +kernel
  have hs : splitId "BaseException.__getattribute__" = some ("BaseException", "__getattribute__") := by decide +kernel
  have l0 := I.type (M := model prog w)
  have l1 := looks_mroIn (M := model prog w) X G.be
  have ha := F.args_bexc_ga (.ref x) nameV
  have l2 : Looks (model prog w) h (isInstance (.ref x) (.type "BaseException")) true := l0.andThen l1
  simp only [checkBuiltinCall, hk, hs]
  refine wpAny_bind ?_
  unfold isInstance
  have hx := I.at_
  have hc := I.cls
  repeat (first | (with_reducible refine wpAny_loadPart_at hx ?_; rw [hc]) | with_reducible refine l1.at ?_ | wp_step)
  exact hq
open PySem.W in
theorem exc_entry_value {tk : Tok} {v : Value} {Q : Fin → Shared → Prop} (X : K.In h) (I : InstAt h x ox C od) (hf : findObj K C od name = some (.value v)) (hq : Q (.done (.ret v)) ⟨h, g, d, t, os⟩) :
    wpAny (model prog w) A (Builtin.«object.__getattribute__» ⟨[.ref x, .str name tk], []⟩) Q E ⟨h, g, d, t, os⟩ := by
  have l0 := I.type (M := model prog w)
  have l1 := looks_find (M := model prog w) X I hf
  unfold Builtin.«object.__getattribute__»
  refine wpAny_bind (wpAny_pure (wpAny_bind (wpAny_pure (wpAny_bind (l0.at (wpAny_bind (l1.at ?_)))))))
  exact wpAny_pure hq
open PySem.W in
theorem exc_entry_bind {tk : Tok} {gv a : Value} {Q : Fin → Shared → Prop} (X : K.In h) (I : InstAt h x ox C od) (hf : findObj K C od name = some (.bind gv a))
    (hq : wpAny (model prog w) A (call gv [a, .ref x, .ref C]) (fun v s' => Q (.done (.ret v)) s') E ⟨h, g, d, t, os⟩) :
    wpAny (model prog w) A (Builtin.«object.__getattribute__» ⟨[.ref x, .str name tk], []⟩) Q E ⟨h, g, d, t, os⟩ := by
  have l0 := I.type (M := model prog w)
  have l1 := looks_find (M := model prog w) X I hf
  unfold Builtin.«object.__getattribute__»
  refine wpAny_bind (wpAny_pure (wpAny_bind (wpAny_pure (wpAny_bind (l0.at (wpAny_bind (l1.at ?_)))))))
  show wpAny _ _ (holding [a] (call gv [a, .ref x, .ref C]) >>= ret) _ _ _
  exact wpAny_bind (wpAny_holding (wpAny_mono hq (fun v s' z => wpAny_pure z) fun _ _ z => z))
open PySem.W in
theorem exc_by {tk : Tok} {fill expr : Bool} {Q : Value → Shared → Prop} (X : K.In h) (I : InstAt h x ox C od) (G : XG K C)
    (hq : ∀ A' : Around, wpAny (model prog w) A' (Builtin.«object.__getattribute__» ⟨[.ref x, .str name tk], []⟩) (fun fin s' => match fin with | .done (.ret v) => wpAny (model prog w) A (handedOut v) Q E s' | _ => False) (fun _ _ => False) ⟨h, g, d, t, os⟩) :
    wpAny (model prog w) A (getAttrBy (.ref x) (.str name tk) fill expr) Q E ⟨h, g, d, t, os⟩ := by
  have l0 := I.type (M := model prog w)
  have l1 := looks_findIn (M := model prog w) X G.ga
  have l2 := looks_findIn (M := model prog w) X G.gt
  have fb := F.attrBase_ValueError
  have f3 := fb.ga.bind (.ref x)
  unfold getAttrBy
  refine wpAny_holding (wpAny_bind (l0.at (wpAny_bind (l1.at ?_))))
  have hx2 : (Value.builtin "BaseException.__getattribute__" == Value.builtin "object.__getattribute__") = false := by decide +kernel
  simp only [hx2, Bool.and_false, Bool.false_eq_true, if_false]
  unfold getAttrByItsOwn hookBefore
  refine wpAny_bind ?_
  rw [if_pos (show onTheHeap (.ref C) = true from rfl)]
  refine l2.at ?_
  refine wpAny_bind (wpAny_attempt (wpAny_holding ?_))
  unfold callGetattribute
  rw [if_neg (by cases expr <;> exact Bool.false_ne_true)]
  unfold boundAndCalled
  refine wpAny_bind (wpAny_of_eq f3 ?_)
  refine wpAny_call (codeAny_call_builtin fb.ga.plain F.entry_bexc_ga (exc_check X I G (wpAny_mono (hq _) (fun fin s' z => ?_) fun _ _ z => z.elim)))
  rcases fin with (_ | _ | _ | _) | _ <;> first | exact z.elim | exact z
end
end L2
set_option Elab.async false
set_option linter.all false
set_option maxRecDepth 100000
namespace L2
open PySem PySem.Spec PyProof.Rows XH
section
variable {prog : Program} {w : World} {A : Around} {E : Value → Shared → Prop} {K : PySem.W.Frag}
theorem matches_ok {h : Heap} {g : Array GenState} {d : Drawn} {t : Nat} {os : OsState} {e C C' : Addr} {oe : Obj} {b : Bool} {Q : Bool → Shared → Prop} (KX : K.In h) (he : h.get? e = some oe) (hc : oe.cls = .ref C) (T : XT K C')
    (hsub : PySem.W.subIn K (.ref C) (.ref C') = some b) (hq : Q b ⟨h, g, d, t, os⟩) : wpAny (model prog w) A (excMatches (.ref e) (.ref C')) Q E ⟨h, g, d, t, os⟩ := by
  have l1 := PySem.W.looks_typeIn (M := model prog w) KX T.ty
  have l2 := PySem.W.looks_subIn (M := model prog w) KX T.ex
  have l3 := PySem.W.looks_subIn (M := model prog w) KX hsub
  have l4 := looks_isType (M := model prog w) KX T.cl
  have l5 : PySem.W.Looks (model prog w) h (isInstance (.ref C') (.type "tuple")) false := l1.andThen (PySem.W.Looks.of_pure tc_notTuple)
  have l6 : PySem.W.Looks (model prog w) h (isExcClass (.ref C')) true := by
    unfold isExcClass
    refine l4.andThen ?_
    exact l2
  unfold excMatches
  repeat (first | with_reducible refine wpAny_bind (l5.at ?_) | with_reducible refine wpAny_bind (l6.at ?_) | with_reducible refine wpAny_bind (l3.at ?_) | (with_reducible refine wpAny_loadPart_at he ?_; rw [hc]) | wp_step)
  cases b <;> (wp_walk; exact hq)
end
/-- a name that goes behind its suite -/
def offE (i : Nat) (D : Ends) : Ends := { nx := fun σ H => D.nx (σ.set i none) H, rt := D.rt, bk := fun σ H => D.bk (σ.set i none) H, ct := fun σ H => D.ct (σ.set i none) H }
def tHas (K : PySem.W.Frag) (C' : Addr) (i : Nat) (t : TS) (r : TH) : TH := fun D σ cls dx H a => ∃ C b, cls = .ref C ∧ PySem.W.subIn K (.ref C) (.ref C') = some b ∧
  if b = true then t (offE i D) (σ.set i (some (.ref a))) (upd H a (excO a cls dx)) else r D σ cls dx H a
def tHno (K : PySem.W.Frag) (C' : Addr) (t : TS) (r : TH) : TH := fun D σ cls dx H a => ∃ C b, cls = .ref C ∧ PySem.W.subIn K (.ref C) (.ref C') = some b ∧
  if b = true then t D σ (upd H a (excO a cls dx)) else r D σ cls dx H a
section
variable {X : Cx} {x n : Str} {np pos : Pos} {b0 : Stmt} {suite : List Stmt} {rest : List ExceptHandler} {i : Nat} {C' : Addr} {t : TS} {th : TH}
theorem gone_ok {pins : List (Addr × Obj)} {a : Addr} {D : Ends} {f : Flow} {s : Shared} {M : Model} {A : Around} {E : Value → Shared → Prop} (ok : X.Ok) (hN : X.N.Nodup) (hi : X.N[i]? = some n) (hloc : X.env.scope.names.lookup n = some .local)
    (q : SP (X.suite pins a) [] (offE i D) f s) : wpAny M A (do bindName X.env n .none; unbindBehindTheSuite X.env n pos) (fun _ s' => SP X pins D f s') E s := by
  have hcls : (X.env.scope.kind == .class || (X.env.scope.kind == .module && X.env.locals != X.env.globals)) = false := by rw [ok.kind]; rfl
  cases f with
  | next =>
    obtain ⟨σ, H, I, q⟩ := q
    have J := I.outsuite ok
    obtain ⟨m, hn, hl⟩ := id J.loc
    exact wpAny_nameGoes_keeps hloc hn hcls fun h' v hn' hs => ⟨_, H, J.unbound hi hN hl hn' hs, q⟩
  | brk =>
    obtain ⟨σ, H, I, q⟩ := q
    have J := I.outsuite ok
    obtain ⟨m, hn, hl⟩ := id J.loc
    exact wpAny_nameGoes_keeps hloc hn hcls fun h' v hn' hs => ⟨_, H, J.unbound hi hN hl hn' hs, q⟩
  | cont =>
    obtain ⟨σ, H, I, q⟩ := q
    have J := I.outsuite ok
    obtain ⟨m, hn, hl⟩ := id J.loc
    exact wpAny_nameGoes_keeps hloc hn hcls fun h' v hn' hs => ⟨_, H, J.unbound hi hN hl hn' hs, q⟩
  | ret u =>
    obtain ⟨v, σ, H, I, r, q⟩ := q
    have J := I.outsuite ok
    obtain ⟨m, hn, hl⟩ := id J.loc
    exact wpAny_nameGoes_keeps hloc hn hcls fun h' v' hn' hs => ⟨v, _, H, J.unbound hi hN hl hn' hs, r, q⟩
theorem SP.outsuite {pins : List (Addr × Obj)} {a : Addr} {D : Ends} {f : Flow} {s : Shared} (ok : X.Ok) (h : SP (X.suite pins a) [] D f s) : SP X pins D f s := by
  cases f with
  | next => obtain ⟨σ', H', I, q⟩ := h; exact ⟨σ', H', I.outsuite ok, q⟩
  | brk => obtain ⟨σ', H', I, q⟩ := h; exact ⟨σ', H', I.outsuite ok, q⟩
  | cont => obtain ⟨σ', H', I, q⟩ := h; exact ⟨σ', H', I.outsuite ok, q⟩
  | ret u => obtain ⟨v, σ', H', I, r, q⟩ := h; exact ⟨v, σ', H', I.outsuite ok, r, q⟩
end
/-! ### raise -/
def bmV : List Value := [.type "ValueError", .type "Exception", .type "BaseException", .type "object"]
theorem exc_of {K : PySem.W.Frag} {h : Heap} {C : Addr} {bmB : List Value} {nw : String} (X : K.In h) (q : PySem.W.excIn K C bmB nw = true) :
    ∃ bm N nm qn bs hdct sn sub ab col dd k0 k1 k2 k3 k5 mN, h.get? C = some (excClassObj nm qn C N bs bm hdct sn sub ab col dd k0 k1 k2 k3 k5 nw) ∧ h.Ns N mN ∧ mN "__init__" = none ∧ OwnTail h bmB bm := by
  unfold PySem.W.excIn at q
  split at q
  · rename_i dd cd sl ho
    split at q
    · rename_i C' bm k0 k1 k2 k3 n k5 hm hs
      simp only [Bool.and_eq_true, beq_iff_eq, Bool.not_eq_true'] at q
      obtain ⟨⟨⟨⟨⟨e1, e2⟩, hdel⟩, ht⟩, hok⟩, hni⟩ := q
      subst e1 e2
      obtain ⟨nm, bs, mro, ns, qn, hd, sn, sub, ab, col, del⟩ := cd
      dsimp only at hm hdel hok hni
      subst hm hdel
      obtain ⟨l⟩ := sl
      have hl : l = [k0, k1, k2, k3, some (.builtin n), k5] := hs
      subst hl
      exact ⟨bm, ns, nm, qn, bs, hd, sn, sub, ab, col, dd, k0, k1, k2, k3, k5, _, X _ _ ho, .of_isNs (PySem.W.isNs_of_in X hok), PySem.W.nsMap_none_of_in X hok hni, PySem.W.tail_of_in X ht⟩
    · cases q
  · cases q
def tRaise (C : Addr) (E : St → XK) (t : TA) : TS := fun _ σ H => t σ H fun vs H1 => vs.length ≤ sizeLine ∧ E σ (.ref C) none H1
section
variable {X : Cx} {x : Str} {np cpos pos : Pos} {e₀ : Expr} {rest : List Expr} {C : Addr} {t : TA} {E : St → XK}
theorem made_cx {pins : List (Addr × Obj)} {σ : St} {H : Hp} {s : Shared} {h' : Heap} {e : Addr} {us : List Value} (I : Inv X pins σ H s) (mk : Heap.MadeExcOf s.heap h' e (.ref C) us) : CXat X.prog X.w X.stack H s e H (.ref C) none .new { s with heap := h' } := by
  obtain ⟨t, ht, _, _⟩ := mk.there
  exact ⟨rfl, I.bare, Un.kept mk.keeps, I.hok.kept mk.keeps, ⟨⟨_, _, ht, rfl, rfl, rfl, ⟨by show 1 < 6; decide, rfl⟩, rfl⟩, mk.new, I.hok.none_of mk.new⟩⟩
end
/-! ### isinstance of an exception -/
structure XI (K : PySem.W.Frag) (C : Addr) : Prop where
  gg : XG K C
  cl : (PySem.W.clsIn K C).isSome = true
  at_ : PySem.W.findIn K (.ref C) "__class__" = some (some (.builtin "object.__class__"))
  gt : PySem.W.specialIn K (.builtin "object.__class__") "__get__" = some (some (.builtin "getset_descriptor.__get__"))
  tk : PySem.W.takesIn K (.builtin "object.__class__") = some true
  ob : PySem.W.mroIn K C (.type "object") = some true
theorem findObj_cls {K : PySem.W.Frag} {C : Addr} {od : Option Obj} (x : XI K C) : PySem.W.findObj K C od "__class__" = some (.bind (.builtin "getset_descriptor.__get__") (.builtin "object.__class__")) := by
  obtain ⟨cd, hc⟩ := Option.isSome_iff_exists.mp x.cl
  unfold PySem.W.findObj
  rw [hc, Option.bind_some, x.at_, Option.bind_some]
  simp [x.gt, x.tk]
theorem kitx_exc {K : PySem.W.Frag} {a C : Addr} (x : XI K C) : PySem.W.KitX K (.ref a) (.ref C) (fun h => ∃ ox od, PySem.W.InstAt h a ox C od) where
  ty := fun _ _ _ ⟨_, _, I⟩ => I.type
  it := fun _ _ X _ => looks_isType X x.cl
  ne := fun h tp dd its n sl X htp => by
    refine Bool.eq_false_iff.mpr fun q => ?_
    have e : C = tp := Value.ref.inj (beq_iff_eq.mp q)
    subst e
    have c := x.cl
    unfold PySem.W.clsIn at c
    split at c
    · rename_i ho
      have z := (X _ _ ho).symm.trans htp
      cases z
    · cases c
  ca := fun {_ _ _ _ _ s} X I k => by
    obtain ⟨ox, od, I⟩ := I
    obtain ⟨hh, g, d, t, os⟩ := s
    unfold getAttr? getAttrBy?
    refine wpAny_bind (wpAny_mkText (wpAny_bind (wpAny_attempt (exc_by (h := hh) X I x.gg fun A' => exc_entry_bind X I (findObj_cls x) ?_))))
    exact wpAny_call (PySem.W.class_get (s := ⟨hh, g, d, t + 1, os⟩) (ox := ox) (od := od) X I x.ob (PySem.W.handed_on rfl (wpAny_pure k)))
def XDict (H : Hp) (dx : Option Addr) : Prop := match dx with
  | none => True
  | some d => ∃ fs, H d = some (.xd fs)
theorem inst_of {X : Cx} {pins : List (Addr × Obj)} {σ : St} {H : Hp} {s : Shared} {a C : Addr} {n : Bool} {dx : Option Addr} (I : Inv X pins σ H s) (e : H a = some (excB n a (.ref C) dx)) (d : XDict H dx) : ∃ ox od, PySem.W.InstAt s.heap a ox C od := by
  obtain ⟨⟨ox, vs, h1, h2, h3, h4, _⟩, _⟩ := (show ObjOk X.prog X.w H s.heap a (excB n a (.ref C) dx) from I.hok a _ e)
  have nc : PySem.W.notCls ox = true := by unfold PySem.W.notCls; rw [h4]
  cases dx with
  | none => exact ⟨ox, none, h1, h2, nc, by rw [h3]; trivial⟩
  | some d' =>
    obtain ⟨fs, hd⟩ := d
    obtain ⟨mA, ⟨o, es, ep, e', _⟩, _⟩ := (show ObjOk X.prog X.w H s.heap d' (.xd fs) from I.hok d' _ hd)
    exact ⟨ox, some o, h1, h2, nc, by rw [h3]; exact e'⟩
/-- the answer for a class of the text, for one of Python's own -/
inductive XIs (K : PySem.W.Frag) (C : Addr) : V → Bool → Prop where
  | own {D : Addr} {b : Bool} (h : PySem.W.kitOne K (.ref C) (.ref D) = some b) : XIs K C (.ref D) b
  | ty {T : String} {b : Bool} (h : PySem.W.kitOne K (.ref C) (.type T) = some b) : XIs K C (.ty T) b
theorem call_isiX {X : Cx} {K : PySem.W.Frag} (hK : X.K = K) : CallR X (.builtin "isinstance") (fun xs H Q => ∃ a C dx c b, xs = [.ref a, c] ∧ (∃ n, H a = some (excB n a (.ref C) dx)) ∧ XDict H dx ∧ XI K C ∧ XIs K C c b ∧ Q (.bl b) H) := by
  subst hK
  intro pins s σ H xs us Q I r h
  obtain ⟨a, C, dx, c, b, rfl, ⟨n, e⟩, d, xi, xs, q⟩ := h
  obtain ⟨u, w', rfl, e1, e2⟩ := vals2 r
  cases e1
  cases xs with
  | own h =>
    cases e2
    exact PySem.W.kia_one (kitx_exc xi) I.kIn (inst_of I e d) h (fun z => nomatch z) fun tk => ⟨.bl b, H, I.tok tk, rfl, q⟩
  | ty h =>
    cases e2
    exact PySem.W.kia_one (kitx_exc xi) I.kIn (inst_of I e d) h (fun z => nomatch z) fun tk => ⟨.bl b, H, I.tok tk, rfl, q⟩
end L2
set_option Elab.async false
set_option linter.all false
set_option maxRecDepth 100000
namespace L2
open PySem PySem.Spec PyProof.Rows XH
/-! ### list comprehensions -/
abbrev Cx.block (X : Cx) (scope : Scope) (cl : List (Str × Addr)) (C : Addr) (N : List Str) (own : Str) (fp : List Addr) (s : Shared) (H : Hp) : Cx :=
  { X with env := compEnvC scope cl C X.env, N := N, s₀ := s, H₀ := H, outer := X.stack, stack := X.stack, ex := fp, fn := fun y => y == own, pn := [], xe := fun _ _ => False }
/-- what a comprehension's scope must have; ys: the names it takes from around, at the slots js there -/
structure CompOk (X : Cx) (scope : Scope) (cl : List (Str × Addr)) (own : Str) (ys : List Str) (js : List Nat) : Prop where
  clos : closureFor scope X.env = pure cl
  nocell : (scope.names.all fun p => !(p.2 == .cell)) = true
  kind : scope.kind = .function
  loc : (scope.names.all fun p => !(p.2 == .local) || scope.names.lookup p.1 == some .local) = true
  ownL : scope.names.lookup own = some .local
  sub : ∀ p ∈ cl, X.env.cells.lookup p.1 = some p.2
  has : ((relabel scope X.env).names.all fun p => !(p.2 == .cell || p.2 == .free) || (cl.lookup p.1).isSome) = true
  noown : cl.lookup own = none
  nd : (own :: ys).Nodup
  at_ : ∀ (i : Nat) (y : Str), ys[i]? = some y → ∃ j : Nat, js[i]? = some j ∧ X.N[j]? = some y ∧ (X.env.scope.names.lookup y = some .cell ∨ X.env.scope.names.lookup y = some .free) ∧ ((relabel scope X.env).names.lookup y = some .cell ∨ (relabel scope X.env).names.lookup y = some .free)
  len : js.length = ys.length
def freesOf (js : List Nat) (σ : St) : St := js.map fun j => (σ[j]?).getD none
def compR (js : List Nat) (te : TE) (σ : St) (Q : VK) : It → Hp → Prop := fun J H1 => ∀ p, H1 p = none → ∃ W : Nat → Nat → List V → Hp → Prop, (∃ m, W 0 m [] (upd H1 p (.lst []))) ∧
  ∀ i m ys H2, W i m ys H2 → H2 p = some (.lst ys) ∧ ((J.stop i H2 ∧ Q (.ref p) H2) ∨ (J.go i H2 ∧ ys.length < sizeLine ∧ ∀ x H3, J.yld i H2 x H3 → te (some x :: freesOf js σ) H3 fun y H4 => H4 p = some (.lst ys) ∧ ∃ m', m' < m ∧ W (i + 1) m' (ys ++ [y]) (upd H4 p (.lst (ys ++ [y])))))
def tComp (wi : TI) (js : List Nat) (te : TE) : TE := fun σ H Q => wi σ H (compR js te σ Q)
theorem lookup_all {α : Type} {f : Str × α → Bool} {x : Str} {a : α} : ∀ {l : List (Str × α)}, l.all f = true → l.lookup x = some a → f (x, a) = true := by
  intro l h e
  exact List.all_eq_true.mp h _ (PySem.mem_of_lookup e)
section
variable {prog : Program} {w : World} {A : Around} {R : Result → Shared → Prop} {s : Shared}
theorem compLoop_own {elt target iter : Expr} {scope : Scope} {pos : Pos} {it acc : Value} {env : Env} (I : Nat → Shared → Prop)
    (turn : ∀ n s, I n s → wpAny (model prog w) A (pyNext it) (fun r s1 => match r with
      | none => R (.ok .next) s1
      | some v => wpAny (model prog w) A (letOwnedTupleGo target it v) (fun _ s2 => wpAny (model prog w) A (assign target env v) (fun _ s3 => wpAny (model prog w) A (eval elt env) (fun x s4 =>
          wpAny (model prog w) A (call (.builtin "list.append") [acc, x]) (fun _ s5 => ∃ m, m < n ∧ I m s5) (fun _ _ => False) s4) (fun _ _ => False) s3) (fun _ _ => False) s2) (fun _ _ => False) s1) (fun _ _ => False) s)
    (n : Nat) (h : I n s) : codeAny (model prog w) A (.compLoop (.ListComp elt [⟨target, iter, [], 0⟩] scope pos) 0 it acc env) R s := by
  apply codeAny_loop rfl I ?_ n h
  intro n s hI
  show wpAny _ _ ((compTurn (.ListComp elt [⟨target, iter, [], 0⟩] scope pos) 0 it acc env).onRaise _) _ _ s
  apply wpAny_noted
  rw [compTurn_list1]
  apply wpAny_bind
  apply wpAny_standAt
  apply wpAny_bind
  refine wpAny_mono (turn n s hI) (fun r s1 h1 => ?_) fun _ _ z => z.elim
  cases r with
  | none => exact wpAny_pure h1
  | some v =>
    apply wpAny_bind
    refine wpAny_mono h1 (fun _ s2 h2 => ?_) fun _ _ z => z.elim
    apply wpAny_bind
    refine wpAny_mono h2 (fun _ s3 h3 => ?_) fun _ _ z => z.elim
    apply wpAny_bind
    apply wpAny_bind
    refine wpAny_mono h3 (fun x s4 h4 => ?_) fun _ _ z => z.elim
    apply wpAny_bind
    refine wpAny_mono h4 (fun _ s5 h5 => ?_) fun _ _ z => z.elim
    exact wpAny_pure (wpAny_pure ⟨rfl, h5⟩)
end
section
variable {X : Cx} {scope : Scope} {cl : List (Str × Addr)} {own : Str} {ys : List Str} {js : List Nat} {fp : List Addr} {pins : List (Addr × Obj)} {σ : St} {H : Hp} {s s4 : Shared}
theorem block_start {h1 : Heap} (ok : CompOk X scope cl own ys js) (I : Inv X pins σ H s) (hf : ∀ b ∈ fp, FpOk X pins H b) (hlt : ∀ b ∈ fp, b < s.heap.objs.size) (hns : h1.Ns s.heap.objs.size (fun _ => none))
    (hk : ∀ b o, s.heap.get? b = some o → h1.get? b = some o) (tk : Nat) :
    Inv (X.block scope cl s.heap.objs.size (own :: ys) own fp s H) [] (none :: freesOf js σ) H { s with heap := h1, toks := tk } := by
  have sub : ∀ y c, cl.lookup y = some c → X.env.cells.lookup y = some c := fun y c e => ok.sub (y, c) (PySem.mem_of_lookup e)
  refine ⟨⟨I.ok.mod, ok.kind, I.ok.glob, I.ok.blt, Nat.le_refl _, fun x y c e1 e2 => I.ok.inj x y c (sub x c e1) (sub y c e2), fun x hx => ?_, fun x c e1 e2 => ?_, I.ok.hd, I.ok.frames, .inl rfl, fun b hb => ⟨Nat.ne_of_lt (hlt b hb), fun x c e => (hf b hb).2.2.2.2.1 x c (sub x c e)⟩,
    I.bs, Nat.le_trans I.ok.bsz I.sz, fun b o e hb => ?_, fun b hb z => ?_, I.stack, I.stkFree⟩, rfl, I.bare, Un.kept hk, ⟨_, hns, fun i y v e1 e2 e3 => ?_⟩, fun y c e => ?_, I.hok.fresh (Nat.le_refl _), fun y c e => I.freeC y c (sub y c e), fun p hp => absurd (show p ∈ ([] : List (Addr × Obj)) from hp) (by simp), I.hok.kept hk, ?_⟩
  · have hx' : (relabel scope X.env).names.lookup x = some .cell ∨ (relabel scope X.env).names.lookup x = some .free := hx
    rcases hx' with z | z
    · have q := lookup_all ok.has z
      simp only [beq_self_eq_true, Bool.true_or, Bool.not_true, Bool.false_or] at q
      exact Option.isSome_iff_exists.mp q
    · have q := lookup_all ok.has z
      simp only [beq_self_eq_true, Bool.or_true, Bool.not_true, Bool.false_or] at q
      exact Option.isSome_iff_exists.mp q
  · have e1' : (x == own) = true := e1
    have e : x = own := beq_iff_eq.mp e1'
    have e2' : cl.lookup x = some c := e2
    rw [e, ok.noown] at e2'
    cases e2'
  · rcases (hf b hb).2.2.2.1 with z | z
    · exact I.ok.noex b o e z
    · exact absurd (Nat.lt_of_lt_of_le (Heap.lt_size (I.ok.bs b o e).1) z) (Nat.lt_irrefl _)
  · rcases List.mem_cons.mp (I.stkSub b z) with q | q
    · exact (hf b hb).2.1 q
    · exact (hf b hb).2.2.1 q
  · cases i with
    | zero => cases e2
    | succ i =>
      have e1' : ys[i]? = some y := e1
      obtain ⟨j, hj, hN, hX, hc⟩ := ok.at_ i y e1'
      have e2' : (freesOf js σ)[i]? = some (some v) := e2
      unfold freesOf at e2'
      rw [List.getElem?_map, hj] at e2'
      have hs : σ[j]? = some (some v) := by
        cases q : σ[j]? with
        | none => rw [Option.map_some, q] at e2'; cases e2'
        | some o => rw [Option.map_some, q] at e2'; exact e2'
      obtain ⟨m, hn, hl⟩ := I.loc
      obtain ⟨u, r, l⟩ := hl j y v hN hs (hX.elim (fun z => .inr (.inl z)) fun z => .inr (.inr z))
      refine ⟨u, r, .inr ⟨hc, ?_⟩⟩
      rcases l with ⟨k, _⟩ | ⟨k, c, hcl, hcell⟩
      · have k' : X.env.scope.names.lookup y = some .local := k
        rcases hX with z | z <;> (rw [z] at k'; cases k')
      · have ex : ∃ c', cl.lookup y = some c' := by
          rcases hc with z | z
          · have q := lookup_all ok.has z
            simp only [beq_self_eq_true, Bool.true_or, Bool.not_true, Bool.false_or] at q
            exact Option.isSome_iff_exists.mp q
          · have q := lookup_all ok.has z
            simp only [beq_self_eq_true, Bool.or_true, Bool.not_true, Bool.false_or] at q
            exact Option.isSome_iff_exists.mp q
        obtain ⟨c', hc'⟩ := ex
        have e := sub y c' hc'
        rw [hcl] at e
        cases e
        obtain ⟨oc, hoc, hd⟩ := hcell
        exact ⟨c, hc', oc, hk _ _ hoc, hd⟩
  · obtain ⟨v, oc, hoc, hd⟩ := I.cell y c (sub y c e)
    exact ⟨v, oc, hk _ _ hoc, hd⟩
  · show (none :: freesOf js σ).length = (own :: ys).length
    simp [freesOf, ok.len]
theorem block_end {H' : Hp} {h' : Heap} {σ' : St} (I : Inv X pins σ H s) (hf : ∀ b ∈ fp, FpOk X pins H b) (J : Inv (X.block scope cl s.heap.objs.size (own :: ys) own fp s H) [] σ' H' s4) (hs : Heap.SameBut s.heap.objs.size s4.heap h') :
    Inv X pins σ H' { s4 with heap := h' } := by
  have low : ∀ b o, s.heap.get? b = some o → b ≠ s.heap.objs.size := fun b o e => Nat.ne_of_lt (Heap.lt_size e)
  have B := J.base
  have u : Un (frs X.stack) fp H H' s.heap h' := {
    keep := fun b o q n hb hx => (hs.2 b (low b o q)).trans (B.keep b o q n hb hx)
    slot := fun b o q n hb hx => by
      obtain ⟨sl, e⟩ := B.slot b o q n hb hx
      exact ⟨sl, (hs.2 b (low b o q)).trans e⟩
    free := B.free
    there := fun b o q hx => by
      obtain ⟨o', e⟩ := B.there b o q hx
      exact ⟨o', (hs.2 b (low b o q)).trans e⟩
    tups := B.tups
    frzs := B.frzs
    tbls := B.tbls }
  have hn : H' s.heap.objs.size = none := J.free
  have hk : HOk X.prog X.w H' h' := fun a o e => (J.hok a o e).stay (fun b v hb q => (hs.2 b (by
    intro z
    rcases hb with z' | z'
    · rw [← z', z, hn] at e; cases e
    · rw [z, hn] at z'; cases z')).trans q) (fun _ q => q) fun _ _ q => q
  exact I.call' (s' := { s4 with heap := h' }) (ch := fp) J.os u hk J.bare fun b hb => ⟨(hf b hb).2.2.2.1, (hf b hb).2.1, (hf b hb).2.2.2.2.1, (hf b hb).2.2.2.2.2⟩
end
end L2
set_option Elab.async false
set_option linter.all false
set_option maxRecDepth 100000
namespace L2
open PySem PySem.Spec PyProof.Rows XH PySem.Builtin PySem.Builtin.ObjectAttr
/-! ### an own refusal's __init__: its field -/
/-- the classes above it, as a store asks -/
structure XA (K : PySem.W.Frag) (C S : Addr) : Prop where
  sa : PySem.W.findIn K (.ref C) "__setattr__" = some (some (.builtin "object.__setattr__"))
  mro : (PySem.W.clsIn K C).map (·.mro) = some (.ref C :: .ref S :: bmV)
  dct : PySem.W.hasDictIn K C = true
  ob : PySem.W.mroIn K C (.type "object") = some true
theorem refuse_V (self : Value) (C S : Addr) : refuseLoop self "__setattr__" (.ref C :: .ref S :: bmV) = pure () := by
  rw [refuseLoop_ref, refuseLoop_ref]
  kernel_rfl
section
variable {prog : Program} {w : World} {A : Around} {E : Value → Shared → Prop} {s : Shared} {K : PySem.W.Frag} {x C S : Addr} {ox : Obj} {od : Option Obj} {name : Str} {v : Value}
open PySem.W in
theorem osa_exc {R : Result → Shared → Prop} {tk : Tok} (X : K.In s.heap) (I : InstAt s.heap x ox C od) (N : XA K C S) (hn : findIn K (.ref C) name = some none)
    (h : wpAny (model prog w) A.in1 (storeInOwnDict (.ref x) (.ref C) (.str name tk) name v false) (fun fin s' => match fin with | .done f => R (.ok f) s' | .again c' => c'.quiet = true ∧ codeAny (model prog w) A c' R s') (fun e s' => R (.error e) s') s) :
    codeAny (model prog w) A (.call (.builtin "object.__setattr__") ⟨[.ref x, .str name tk, v], []⟩) R s := by
  have so := PySem.F.store_object
  obtain ⟨cd, hc, hm⟩ := Option.map_eq_some_iff.mp N.mro
  have sub : Looks (model prog w) s.heap (isInstance (.ref x) (.type "object")) true := I.type.andThen (looks_mroIn X N.ob)
  have lm : Looks (model prog w) s.heap (mroOf (.ref C)) cd.mro := (looks_clsIn X hc).andThen .now
  have ck : ∀ {A' : Around} {Q' : Unit → Shared → Prop} {E' : Value → Shared → Prop}, Q' () s → wpAny (model prog w) A' (checkBuiltinCall "object.__setattr__" ⟨[.ref x, .str name tk, v], []⟩) Q' E' s := fun {A' Q' E'} q =>
    check_slot (M := model prog w) (A := A') (E := E') (s := s) (i := "object.__setattr__") (owner := "object") (n := "__setattr__") (self := .ref x) (rest := [.str name tk, v]) (kw := []) (Q := Q') so.kind so.split sub (so.args (.ref x) (.str name tk) v) q
  refine codeAny_call_builtin so.slot.plain so.entry (ck ?_)
  rw [osa_eq, refuse_eq]
  refine wpAny_bind (wpAny_bind (I.type.here ?_))
  refine wpAny_bind (lm.here ?_)
  rw [hm, refuse_V]
  refine wpAny_pure (wpAny_bind ?_)
  refine I.type.here (wpAny_bind ?_)
  refine (looks_findIn X hn).here (wpAny_bind (wpAny_pure ?_))
  exact h
open PySem.W in
theorem set_exc {vs : Array Value} {Q : Unit → Shared → Prop} (X : K.In s.heap) (he : s.heap.get? x = some ox) (hc : ox.cls = .ref C) (hdx : ox.dict = none) (hda : ox.data = .fields vs) (N : XA K C S) (hn : findIn K (.ref C) name = some none)
    (h : ∀ h', (∀ b o, b ≠ x → s.heap.get? b = some o → h'.get? b = some o) → h'.get? x = some { ox with dict := some s.heap.objs.size } → h'.Ns1 s.heap.objs.size (fun y => if y = name then some v else none) →
      Q () { s with heap := h', toks := s.toks + 2 }) : wpAny (model prog w) A (setAttr (.ref x) name v) Q E s := by
  have I : InstAt s.heap x ox C none := ⟨he, hc, by unfold notCls; rw [hda], by rw [hdx]; trivial⟩
  apply set_plain X I N.sa
  have I2 : InstAt ({ s with toks := s.toks + 1 } : Shared).heap x ox C none := I
  apply osa_exc (s := { s with toks := s.toks + 1 }) X I2 N hn
  obtain ⟨cd, hcd, hd⟩ := any_some N.dct
  obtain ⟨oc, odi, oda, osl⟩ := ox
  dsimp only at hc hdx hda
  subst hc hdx hda
  refine wpAny_bind (wpAny_pure (wpAny_bind (wpAny_bind (wpAny_loadPart he ?_))))
  refine wpAny_bind (Looks.here (s := { s with toks := s.toks + 1 }) (looks_clsIn X hcd) ?_)
  rw [hd]
  show wpAny _ _ (alloc { cls := .type "dict", data := .dict #[] } >>= fun d => update x (fun o => { o with dict := some d }) >>= fun _ => dictMade (.ref C) x d) _ _ _
  refine wpAny_bind (wpAny_alloc ?_)
  have lt := Heap.lt_size he
  have hne : x ≠ s.heap.objs.size := Nat.ne_of_lt lt
  have he1 := Heap.get?_push_of_some (h := s.heap) { cls := .type "dict", data := .dict #[] } he
  have e1 : (s.heap.push PySem.W.emptyDict).get? s.heap.objs.size = some PySem.W.emptyDict := Heap.get?_push_size s.heap rfl
  have e2 : (s.heap.push PySem.W.emptyDict).Ns s.heap.objs.size (fun _ => none) := ⟨PySem.W.emptyDict, #[], _, e1, rfl, (fun e he => absurd he (by simp)), fun _ => rfl⟩
  refine wpAny_bind (wpAny_update he1 ?_)
  refine wpAny_pure ?_
  have up : ∀ b, b ≠ x → ((s.heap.push PySem.W.emptyDict).update x (fun o => { o with dict := some s.heap.objs.size })).get? b = (s.heap.push PySem.W.emptyDict).get? b := fun b hb => Heap.get?_update_other _ _ (Ne.symm hb)
  have e3 : ((s.heap.push PySem.W.emptyDict).update x (fun o => { o with dict := some s.heap.objs.size })).Ns1 s.heap.objs.size (fun _ => none) := (Heap.Ns1.of_empty e2).at fun o q => (up _ (Ne.symm hne)).trans q
  have e4 : ((s.heap.push PySem.W.emptyDict).update x (fun o => { o with dict := some s.heap.objs.size })).get? x = some ⟨.ref C, some s.heap.objs.size, .fields vs, osl⟩ := Heap.get?_update_self _ he1 rfl
  refine wpAny_bind (wpAny_pure (wpAny_bind ?_))
  refine wpAny_nsSet1 (s := ⟨(s.heap.push PySem.W.emptyDict).update x (fun o => { o with dict := some s.heap.objs.size }), s.gens, s.drawn, s.toks + 1, s.os⟩) e3 fun h' hn2 hs2 => ?_
  obtain ⟨oD, esD, epD, hoD, hdD, hcD⟩ := hn2.count (ns := [name]) (PySem.Within.cons (ns := []) name v (fun y hy => absurd rfl hy))
  refine wpAny_bind (wpAny_lookBehind hoD (by rw [hdD]; exact pastItsLine_dict (Nat.le_trans hcD (by show 1 ≤ sizeLine + 1; decide))) ?_)
  refine wpAny_pure (h h' (fun b o hb q => ?_) ((hs2.2 x hne).trans e4) hn2)
  have hbd : b ≠ s.heap.objs.size := Nat.ne_of_lt (Heap.lt_size q)
  exact (hs2.2 b hbd).trans ((up b hb).trans (Heap.get?_push_of_some _ q))
end
/-- self.f = e in the __init__ of an own refusal -/
def sFldX (K : PySem.W.Frag) (ta tv : TE) (f : Str) : TS := fun D σ H => tv σ H fun y H1 => ta σ H1 fun x H2 => ∃ a C S n, x = .ref a ∧ H2 a = some (excB n a (.ref C) none) ∧ XA K C S ∧ PySem.W.findIn K (.ref C) f = some none ∧
  ∀ d, H2 d = none → D.nx σ (upd (upd H2 d (.xd [(f, y)])) a (excB n a (.ref C) (some d)))
section
variable {X : Cx} {o value : Expr} {f : Str} {pos pos' : Pos} {ta tv : TE}
theorem setx_ok {pins : List (Addr × Obj)} {σ : St} {H : Hp} {s : Shared} {a C S : Addr} {y : V} {u : Value} {n : Bool} {A : Around} {E : Value → Shared → Prop} {Q : Unit → Shared → Prop} (I : Inv X pins σ H s) (e : H a = some (excB n a (.ref C) none)) (N : XA X.K C S)
    (hn : PySem.W.findIn X.K (.ref C) f = some none) (ry : RelV y u) (h : ∀ d s', H d = none → Inv X pins σ (upd (upd H d (.xd [(f, y)])) a (excB n a (.ref C) (some d))) s' → Q () s') :
    wpAny (model X.prog X.w) A (setAttr (.ref a) f u) Q E s := by
  obtain ⟨⟨ox, vs, h1, h2, h3, h4, h6, h5⟩, _⟩ := (show ObjOk X.prog X.w H s.heap a (excB n a (.ref C) none) from I.hok a _ e)
  refine set_exc I.kIn h1 h2 h3 h4 N hn fun h' kp ha hd => ?_
  have nd : H s.heap.objs.size = none := I.hok.fresh (Nat.le_refl _)
  have ad : a ≠ s.heap.objs.size := ne_of_none e nd
  refine h s.heap.objs.size _ nd ?_
  have ne : ∀ b o, H b = some o → b ≠ s.heap.objs.size := fun b o q => ne_of_none q nd
  have nea : ∀ b, H b = none → b ≠ a := fun b q z => by rw [z, e] at q; cases q
  refine I.un (t' := s.toks + 2) (h' := h') ⟨?_, ?_, ?_, ?_, ?_, ?_, ?_⟩ ?_
  · intro b o q n hb _
    exact kp b o (nea b n) q
  · intro b o q n hb _
    exact ⟨o.slots, kp b o (nea b n) q⟩
  · intro b o q n _
    rw [upd_ne (nea b n), upd_ne (Nat.ne_of_lt (Heap.lt_size q))]
    exact n
  · intro b o q _
    by_cases hb : b = a
    · subst hb
      exact ⟨_, ha⟩
    · exact ⟨o, kp b o hb q⟩
  · intro b xs q
    have hb : b ≠ a := ne_of q e (by intro z; cases z)
    rw [upd_ne hb, upd_ne (ne b _ q)]
    exact q
  · intro b o' u' q
    have hb : b ≠ a := ne_of q e (by intro z; cases z)
    rw [upd_ne hb, upd_ne (ne b _ q)]
    exact q
  · intro b ps q
    have hb : b ≠ a := ne_of q e (by intro z; cases z)
    exact ⟨#[], by rw [upd_ne hb, upd_ne (ne b _ q), q]; simp⟩
  · intro b ob q
    by_cases hb : b = a
    · subst hb
      rw [upd_same] at q
      cases q
      exact excB_ok ha h2 rfl h4 h6 h5
    · rw [upd_ne hb] at q
      by_cases hbd : b = s.heap.objs.size
      · subst hbd
        rw [upd_same] at q
        cases q
        refine ⟨_, hd, fun g => ?_⟩
        show RelO (List.lookup g [(f, y)]) (if g = f then some u else none)
        by_cases hg : g = f
        · subst hg
          rw [if_pos rfl]
          simp only [List.lookup, beq_self_eq_true]
          exact ry
        · rw [if_neg hg]
          have : (g == f) = false := beq_eq_false_iff_ne.mpr hg
          simp only [List.lookup, this]
          trivial
      · rw [upd_ne hbd] at q
        refine (I.hok b ob q).stay (fun c v hc z => kp c v (fun y => ?_) z) (fun c z => ?_) fun c xs z => ?_
        · rcases hc with z' | z'
          · exact hb (z'.symm.trans y)
          · rw [y, e] at z'; cases z'
        · have hc : c ≠ a := ne_of z e (by intro z; cases z)
          rw [upd_ne hc, upd_ne (ne c _ z)]
          exact z
        · have hc : c ≠ a := ne_of z e (by intro z; cases z)
          rw [upd_ne hc, upd_ne (ne c _ z)]
          exact z
end
end L2
set_option Elab.async false
set_option linter.all false
set_option maxRecDepth 100000
namespace L2
open PySem PySem.Spec PyProof.Rows XH
section
variable {X : Cx} {o e value : Expr} {f : Str} {pos pos' : Pos} {ta tv : TE}
theorem ps_fldX {K : PySem.W.Frag} (hK : X.K = K) (ha : PE X o ta) (hv : PE X value tv) (hs : swapsWith value (some (.Attribute o f pos')) pos.line X.env = pure false) : PS X (.Assign [.Attribute o f pos'] value pos) (sFldX K ta tv f) := by
  subst hK
  intro pins s σ H D I h
  refine plainObj_wpAny_Assign_Attribute (thn (hv pins s σ H _ I h) fun u s1 ⟨y, H1, I1, ry, q⟩ => thn (ha pins s1 σ H1 _ I1 q) fun ov s2 ⟨x, H2, I2, rx, a, C, S, nb, ex, ea, n, hn, q2⟩ => ?_) hs
  subst ex
  obtain rfl : ov = Value.ref a := rx
  exact setx_ok I2 ea n hn ry fun d s3 nd I3 => ⟨σ, _, I3, q2 d nd⟩
/-- e.f of a refusal that has the field -/
structure XF (K : PySem.W.Frag) (C : Addr) (f : Str) : Prop where
  gg : XG K C
  dct : PySem.W.hasDictIn K C = true
  no : PySem.W.findIn K (.ref C) f = some none
def tFldX (K : PySem.W.Frag) (ta : TE) (f : Str) : TE := fun σ H Q => ta σ H fun x H1 => ∃ a C d fs v n, x = .ref a ∧ H1 a = some (excB n a (.ref C) (some d)) ∧ H1 d = some (.xd fs) ∧ XF K C f ∧ fs.lookup f = some v ∧ Q v H1
theorem pe_fldX {K : PySem.W.Frag} (hK : X.K = K) (he : PE X e ta) (hb : attributeBase e f X.env (eval e X.env) = eval e X.env) : PE X (.Attribute e f pos) (tFldX K ta f) := by
  subst hK
  intro pins s σ H Q I h
  refine attr_of hb (thn (he pins s σ H _ I h) fun ov s1 ⟨x, H1, I1, rx, a, C, d, fs, v, nb, ex, ea, ed, n, l, q⟩ => ?_)
  subst ex
  obtain rfl : ov = Value.ref a := rx
  obtain ⟨⟨ox, vs, h1, h2, h3, h4, _⟩, _⟩ := (show ObjOk X.prog X.w H1 s1.heap a (excB nb a (.ref C) (some d)) from I1.hok a _ ea)
  obtain ⟨mA, ns, rel⟩ := (show ObjOk X.prog X.w H1 s1.heap d (.xd fs) from I1.hok d _ ed)
  obtain ⟨od, hod, lk⟩ := lookIn_ns ns
  obtain ⟨u, hu, ru⟩ := RelO.some_of (v := v) (o := mA f) (by rw [← l]; exact rel f)
  have J : PySem.W.InstAt s1.heap a ox C (some od) := ⟨h1, h2, by unfold PySem.W.notCls; rw [h4], by rw [h3]; exact hod⟩
  have KX := I1.kIn
  have I2 := I1.tok (s1.toks + 1)
  obtain ⟨hh, g, dr, t, os⟩ := s1
  unfold getAttr
  refine wpAny_bind (wpAny_mkText (exc_by (h := hh) KX J n.gg fun A' => exc_entry_value KX J (PySem.W.findObj_own n.dct n.no rfl (by rw [lk, hu])) ?_))
  exact PySem.W.handed_on (handed_of ru) ⟨v, H1, I2, ru, q⟩
end
/-! ### a refusal with an __init__ is made -/
theorem ns_some {K : PySem.W.Frag} {h : Heap} {N : Addr} {mg : Str → Option Value} {n : Str} {v : Value} (X : K.In h) (G : h.Ns N mg) (e : PySem.W.nsIn K N n = some (some v)) : mg n = some v := by
  obtain ⟨o, es, ep, ho, hd, _, hf⟩ := G
  unfold PySem.W.nsIn at e
  split at e
  · rename_i q
    have z := X _ _ q
    rw [ho] at z
    cases z
    cases hd
    split at e
    · rename_i he
      cases e
      rw [← hf]
      unfold nsFind findBy
      rw [← Array.find?_toList, he]
      rfl
    · split at e <;> cases e
  · cases e
structure XCi (K : PySem.W.Frag) (C f : Addr) : Prop where
  ex : ∃ bm N nm q bs hdct sn sub ab col dd k0 k1 k2 k3 k5, K.lookup C = some (excClassObj nm q C N bs bm hdct sn sub ab col dd k0 k1 k2 k3 k5 "ValueError.__new__") ∧ PySem.W.nsOkIn K N = true ∧ PySem.W.nsIn K N "__init__" = some (some (.ref f)) ∧ PySem.W.tailIn K bmV bm = true
  fn : PySem.W.typeIn K (.ref f) = some (.type "function")
  kp : PySem.W.keepIn K (.ref C) = true
section
variable {prog : Program} {w : World} {A : Around} {E : Value → Shared → Prop} {h : Heap} {g : Array GenState} {d : Drawn} {t : Nat} {os : OsState}
variable {nm q : Str} {C N : Addr} {bs bm : List Value} {hdct : Bool} {sn : List Str} {sub : List Value} {ab : Bool} {col : Option Bool} {dd : Option Addr} {k0 k1 k2 k3 k5 : Option Value}
theorem type_call_init {mN : Str → Option Value} {rest : List Value} {fI : Addr} {oI : Obj} {Q : Fin → Shared → Prop} (tl : OwnTail h bmV bm)
    (cl : h.get? C = some (excClassObj nm q C N bs bm hdct sn sub ab col dd k0 k1 k2 k3 k5 "ValueError.__new__")) (nn : h.Ns N mN) (ni : mN "__init__" = some (.ref fI)) (gI : h.get? fI = some oI) (cI : oI.cls = .type "function")
    (kq : ∀ h' e, Heap.MadeExcOf h h' e (.ref C) rest → wpAny (model prog w) A (call (.ref fI) (.ref e :: rest)) (fun r s' => r = .none ∧ Q (.done (.ret (.ref e))) s') E ⟨h', g, d, t, os⟩) (lr : rest.length ≤ sizeLine) :
    wpAny (model prog w) A (Builtin.«type.__call__» ⟨.ref C :: rest, []⟩) Q E ⟨h, g, d, t, os⟩ := by
  have FV := PySem.F.excBase_ValueError
  repeat (first | with_reducible refine wpAny_loadPart_at cl ?_ | with_reducible refine wpAny_madeBy_exc cl ?_ | wp_step)
  refine codeAny_call_builtin_code (Code.quiet_builtin _ FV.quiet) (wpAny_check_new_subT FV tl cl ?_)
  refine codeAny_exc_new_subT FV tl cl ?_ lr
  show wpAny _ _ _ _ _ _
  generalize hp : (h.push { cls := .type "tuple", data := .seq rest.toArray }).push { cls := .ref C, data := .fields #[.ref h.objs.size, .none, .none, .none, .bool false, .none] } = h2
  have kp : ∀ b o, h.get? b = some o → h2.get? b = some o := fun b o z => by rw [← hp]; exact Heap.get?_push_of_some _ (Heap.get?_push_of_some _ z)
  have ge : h2.get? (h.objs.size + 1) = some { cls := .ref C, data := .fields #[.ref h.objs.size, .none, .none, .none, .bool false, .none] } := by rw [← hp]; heap_get
  have gt : h2.get? h.objs.size = some { cls := .type "tuple", data := .seq rest.toArray } := by rw [← hp]; exact Heap.get?_push_of_some _ (Heap.get?_push_at rfl rfl)
  have cl2 := kp _ _ cl
  have nn2 : h2.Ns N mN := nn.keeps kp
  have self : (Value.ref C :: bm).contains (.ref C) = true := by simp
  unfold isInstance
  repeat (first | with_reducible refine wpAny_loadPart_at ge ?_ | (with_reducible refine wpAny_isSubtype_exc cl2 ?_; rw [self]) | wp_step)
  show wpAny _ _ (typeLookup (.ref C) _) _ _ _
  refine wpAny_typeLookup_tail cl2 nn2 (tl.keeps kp) FV.mroIs FV.init.lookup ?_
  rw [ni]
  refine wpAny_holding (wpAny_bind ?_)
  unfold bindSpecial
  refine wpAny_bind (wpAny_typeOf (T := "function") ⟨_, kp _ _ gI, cI⟩ ?_)
  rw [if_pos (by decide)]
  refine wpAny_pure (wpAny_bind ?_)
  refine wpAny_mono (kq h2 (h.objs.size + 1) ⟨kp, Heap.get?_none_of_le (Nat.le_succ _), h.objs.size, ge, Heap.get?_none_of_le (Nat.le_refl _), gt⟩) (fun r s' hr => ?_) fun _ _ z => z
  obtain ⟨rfl, z⟩ := hr
  wp_walk
  exact z
theorem call_init {mN : Str → Option Value} {rest : List Value} {fI : Addr} {oI : Obj} {Q : Value → Shared → Prop} (tl : OwnTail h bmV bm)
    (cl : h.get? C = some (excClassObj nm q C N bs bm hdct sn sub ab col dd k0 k1 k2 k3 k5 "ValueError.__new__")) (nn : h.Ns N mN) (ni : mN "__init__" = some (.ref fI)) (gI : h.get? fI = some oI) (cI : oI.cls = .type "function")
    (kq : ∀ h' e, Heap.MadeExcOf h h' e (.ref C) rest → wpAny (model prog w) (A.under (.builtin "type.__call__" ⟨.ref C :: rest, []⟩)) (call (.ref fI) (.ref e :: rest)) (fun r s' => r = .none ∧ Q (.ref e) s') E ⟨h', g, d, t, os⟩) (lr : rest.length ≤ sizeLine) :
    wpAny (model prog w) A (call (.ref C) rest) Q E ⟨h, g, d, t, os⟩ := by
  have a1 := tc_lookup
  have a2 := tc_bind (.ref C)
  have ty : (⟨h, g, d, t, os⟩ : Shared).TypeIs (.ref C) "type" := ⟨_, cl, rfl⟩
  refine wpAny_call (codeAny_of_tree ?_)
  show wpAny _ _ (callAny (.ref C) _) _ _ _
  repeat (any_goals (first | assumption | with_reducible refine wpAny_loadPart_at cl ?_ | wp_step))
  refine ⟨rfl, ?_⟩
  refine codeAny_call_builtin_at (Code.quiet_builtin _ (by decide +kernel)) entry_typeCall (wpAny_check_type_call_sub cl ?_)
  exact type_call_init tl cl nn ni gI cI (fun h' e mk => kq h' e mk) lr
end
def tMakeI (C : Addr) (sp : Sp) (t : TA) : TE := fun σ H Q => t σ H fun vs H1 => vs.length ≤ sizeLine ∧ ∀ a, H1 a = none → sp (.ref a :: vs) (upd H1 a (excB true a (.ref C) none)) (fun v H2 => v = .non ∧ Q (.ref a) H2) E0
def tMakeE (C : Addr) (t : TA) : TE := fun σ H Q => t σ H fun vs H1 => vs.length ≤ sizeLine ∧ ∀ a, H1 a = none → Q (.ref a) (upd H1 a (excB true a (.ref C) none))
section
variable {X : Cx} {x : Str} {p pos : Pos} {e : Expr} {es : List Expr} {C fI : Addr} {t : TA} {k : Nat} {fd : FuncData} {ps : List Str} {sp : Sp}
theorem run_init {pins : List (Addr × Obj)} {σ : St} {H : Hp} {s : Shared} {Q : Value → Shared → Prop} {us : List Value} {vs : List V} {E : Value → Shared → Prop} {R : Addr → Hp → Prop} (M : XCi X.K C fI) (F : FnOk X.prog X.w X.K X.mg X.base CX0 k fI fd ps sp) (hr : Room (k + 1) X.A) (hb : Binds X.K fd ps [])
    (I : Inv X pins σ H s) (r : Vals vs us) (lr : vs.length ≤ sizeLine) (h : ∀ a, H a = none → sp (.ref a :: vs) (upd H a (excB true a (.ref C) none)) (fun v H2 => v = .non ∧ R a H2) E0)
    (hq : ∀ a h' H2 s2, Heap.MadeExcOf s.heap h' a (.ref C) us → s2.os = s.os → AllBare s2.gens → Un (frs X.stack) [] H H2 s.heap s2.heap → HOk X.prog X.w H2 s2.heap → R a H2 → Q (.ref a) s2) :
    wpAny (model X.prog X.w) X.A (call (.ref C) us) Q E s := by
  obtain ⟨bm, N, nm, qn, bs, hdct, sn, sub, ab, col, dd, k0, k1, k2, k3, k5, lk, ok, ini, tl⟩ := M.ex
  have KX := I.kIn
  have lr' : us.length ≤ sizeLine := by rw [← r.length]; exact lr
  have fn := M.fn
  unfold PySem.W.typeIn at fn
  obtain ⟨oI, gI, cI⟩ := Option.map_eq_some_iff.mp fn
  have nn : s.heap.Ns N (s.heap.nsMap N) := .of_isNs (PySem.W.isNs_of_in KX ok)
  have key := fun h' a (mk : Heap.MadeExcOf s.heap h' a (.ref C) us) => (made_cx I mk).caughtN I
  have un := fun h' a (mk : Heap.MadeExcOf s.heap h' a (.ref C) us) => un_track (o := excB true a (.ref C) none) (Un.kept (fs := frs X.stack) (ex := []) (H := H) mk.keeps) mk.new (I.hok.none_of mk.new)
  obtain ⟨hh, g, d, tk, os⟩ := s
  refine call_init (PySem.W.tail_of_in KX tl) (KX _ _ lk) nn (ns_some KX nn ini) (KX _ _ gI) cI (fun h' a mk => ?_) lr'
  have I2 := key h' a mk
  have na : H a = none := I.hok.none_of mk.new
  have hs := h a na
  have r2 : Vals (V.ref a :: vs) (Value.ref a :: us) := .cons rfl r
  have hl : (Value.ref a :: us ++ []).length = ps.length := by
    rw [List.append_nil, ← r2.length]
    exact F.len _ _ _ _ hs
  have hb' := hb ⟨h', g, d, tk, os⟩ (Value.ref a :: us) I2.kIn hl
  rw [List.append_nil] at hb'
  refine wpAny_call (codeAny_mono (F.run _ X.stack _ _ ⟨Value.ref a :: us, []⟩ (Value.ref a :: us) _ _ E0 (hr.make C us []) (I2.env0.make C us []) hb' r2 hs) fun rr s' hq' => ?_)
  cases rr with
  | error z => exact hq'.elim
  | ok fl =>
    cases fl with
    | ret u =>
      obtain ⟨v, H2, os', bare, un2, hok, rv, ev, q2⟩ := hq'
      subst ev
      exact ⟨rv, hq a h' H2 s' mk os' bare ((un h' a mk).trans un2) hok q2⟩
    | next => exact False.elim hq'
    | brk => exact False.elim hq'
    | cont => exact False.elim hq'
theorem pe_makeI (M : XCi X.K C fI) (F : FnOk X.prog X.w X.K X.mg X.base CX0 k fI fd ps sp) (hr : Room (k + 1) X.A) (hg : Gl X x) (hm : X.mg x = some (.ref C)) (hb : Binds X.K fd ps []) (ha : PA X (e :: es) t) (hdb : (x == ("__debug__" : Str)) = false := by decide)
    (he : starEach (e :: es) X.env = (false, eval e X.env) :: starEach es X.env := by rfl) (hpl : (backTo pos (starEach es X.env)).any (·.1) = false := by rfl) : PE X (.Call (.Name x p) (e :: es) [] pos) (tMakeI C sp t) := by
  intro pins s σ H Q I h
  refine wpAny_Call_Name_kw (ld_glob I hg hm ?_ hdb)
  refine PySem.W.callWith_K (h₀ := X.base) I.ok.mod.kin M.kp (thn (ha pos pins s σ H _ I h) fun us s1 ⟨vs, H1, I1, r, lr, q⟩ => ⟨I1.kIn, ?_⟩) he hpl
  refine run_init M F hr hb I1 r lr q fun a h' H2 s2 _ os bare un hok q2 => ?_
  exact ⟨.ref a, H2, I1.call' os un hok bare (fun b z => absurd z (by simp)), rfl, q2⟩
theorem pe_makeE (q : PySem.W.excIn X.K C bmV "ValueError.__new__" = true) (hk : PySem.W.keepIn X.K (.ref C) = true) (hg : Gl X x) (hm : X.mg x = some (.ref C)) (ha : PA X (e :: es) t) (hdb : (x == ("__debug__" : Str)) = false := by decide)
    (he : starEach (e :: es) X.env = (false, eval e X.env) :: starEach es X.env := by rfl) (hpl : (backTo pos (starEach es X.env)).any (·.1) = false := by rfl) : PE X (.Call (.Name x p) (e :: es) [] pos) (tMakeE C t) := by
  intro pins s σ H Q I h
  obtain ⟨bm, N, nm, qn, bs, hdct, sn, sub, ab, col, dd, k0, k1, k2, k3, k5, mN, hC, hN, hni, TL⟩ := exc_of I.ok.mod.kin q
  refine wpAny_Call_Name_kw (ld_glob I hg hm ?_ hdb)
  refine PySem.W.callWith_K (h₀ := X.base) I.ok.mod.kin hk (thn (ha pos pins s σ H _ I h) fun us s1 ⟨vs, H1, I1, r, lr, z⟩ => ⟨I1.kIn, ?_⟩) he hpl
  have lr' : us.length ≤ sizeLine := by rw [← r.length]; exact lr
  have c1 := I1.bk _ _ hC
  have c2 := hN.keeps I1.bk
  have c3 := TL.keeps I1.bk
  have key := fun h' a (mk : Heap.MadeExcOf s1.heap h' a (.ref C) us) => (made_cx I1 mk).caughtN I1
  have na := fun h' a (mk : Heap.MadeExcOf s1.heap h' a (.ref C) us) => I1.hok.none_of mk.new
  obtain ⟨hh, g, d, tk, os⟩ := s1
  exact wpAny_call_exc_subT (hrest := lr') PySem.F.excBase_ValueError c3 c1 c2 hni fun h' a mk => ⟨.ref a, _, key h' a mk, rfl, z a (na h' a mk)⟩
end
end L2
set_option Elab.async false
set_option linter.all false
set_option maxRecDepth 100000
namespace L2
open PySem PySem.Spec PyProof.Rows XH
section
variable {M : Model} {A : Around} {E : Value → Shared → Prop} {env : Env}
variable {nm q : Str} {C N : Addr} {bs bm : List Value} {hdct : Bool} {sn : List Str} {sub : List Value} {ab : Bool} {col : Option Bool} {dd : Option Addr} {k0 k1 k2 k3 k5 : Option Value} {nw : String}
theorem raise_any {s : Shared} {x : Sem Value} {Q : Flow → Shared → Prop} (hb : bm.contains (.type "BaseException") = true) (hh : A.handled = none)
    (h : wpAny M A x (fun v s1 => ∃ e dx ws sl, v = .ref e ∧ s1.heap.get? C = some (excClassObj nm q C N bs bm hdct sn sub ab col dd k0 k1 k2 k3 k5 nw) ∧ s1.heap.get? e = some ⟨.ref C, dx, .fields ws, sl⟩ ∧ ws[1]? = some .none ∧ E (.ref e) s1) E s) :
    wpAny M A (raiseStmt env (some x) none) Q E s := by
  have cb : (Value.ref C :: bm).contains (.type "BaseException") = true := by rw [List.contains_cons, hb, Bool.or_true]
  unfold raiseStmt
  apply wpAny_bind
  refine wpAny_mono h (fun v s1 h1 => ?_) fun _ _ z => z
  obtain ⟨e, dx, ws, sl, rfl, cl, ge, n1, he⟩ := h1
  obtain ⟨hp, g, d, tk, os⟩ := s1
  repeat (first | with_reducible refine wpAny_loadPart_at ge ?_ | with_reducible refine wpAny_loadPart_at cl ?_ | (with_reducible refine wpAny_isSubtype_exc cl ?_; rw [cb]) | wp_step)
  rw [n1]
  refine wpAny_pure ?_
  rw [if_neg (by decide)]
  exact wpAny_pure (wpAny_raiseNew_none hh he)
end
def del (H : Hp) (a : Addr) : Hp := fun b => if b = a then none else H b
theorem del_ne {H : Hp} {a b : Addr} (h : b ≠ a) : del H a b = H b := if_neg h
theorem del_same {H : Hp} {a : Addr} : del H a a = none := if_pos rfl
theorem un_del {fs : List Addr} {H H2 : Hp} {h0 h : Heap} {a : Addr} (u : Un fs [] H H2 h0 h) (na : H a = none) : Un fs [] H (del H2 a) h0 h where
  keep := u.keep
  slot := u.slot
  free := fun b o q n hx => by
    by_cases hb : b = a
    · rw [hb, del_same]
    · rw [del_ne hb]; exact u.free b o q n hx
  there := u.there
  tups := fun b xs e => by rw [del_ne (ne_of_none e na)]; exact u.tups b xs e
  frzs := fun b o w e => by rw [del_ne (ne_of_none e na)]; exact u.frzs b o w e
  tbls := fun b ps e => by rw [del_ne (ne_of_none e na)]; exact u.tbls b ps e
theorem hok_del {P : Program} {w : World} {H : Hp} {h : Heap} {a : Addr} {φ : Heap → Prop} (k : HOk P w H h) (e : H a = some (.ext φ)) : HOk P w (del H a) h := fun b o q => by
  by_cases hb : b = a
  · rw [hb, del_same] at q; cases q
  · rw [del_ne hb] at q
    refine (k b o q).stay (fun c v _ z => z) (fun c z => ?_) fun c xs z => ?_
    · rw [del_ne (ne_of z e (by intro y; cases y))]; exact z
    · rw [del_ne (ne_of z e (by intro y; cases y))]; exact z
def tRaiseI (C : Addr) (sp : Sp) (E : St → XK) (t : TA) : TS := fun _ σ H => t σ H fun vs H1 => vs.length ≤ sizeLine ∧ ∀ a, H1 a = none → sp (.ref a :: vs) (upd H1 a (excB true a (.ref C) none)) (fun v H2 => v = .non ∧ ∃ d, H2 a = some (excB true a (.ref C) (some d)) ∧ E σ (.ref C) (some d) (del H2 a)) E0
section
variable {X : Cx} {x : Str} {np cpos pos : Pos} {e₀ : Expr} {rest : List Expr} {C fI : Addr} {t : TA} {k : Nat} {fd : FuncData} {ps : List Str} {sp : Sp} {E : St → XK}
theorem ps_raiseI (M : XCi X.K C fI) (F : FnOk X.prog X.w X.K X.mg X.base CX0 k fI fd ps sp) (hr : Room (k + 1) X.A) (hg : Gl X x) (hm : X.mg x = some (.ref C)) (hb : Binds X.K fd ps []) (hc : X.calm = true) (hp : PassX X E) (ha : PA X (e₀ :: rest) t) (hd : (x == ("__debug__" : Str)) = false := by decide)
    (he : starEach (e₀ :: rest) X.env = (false, eval e₀ X.env) :: starEach rest X.env := by rfl) (hpl : (backTo cpos (starEach rest X.env)).any (·.1) = false := by rfl) :
    PS X (.Raise (some (.Call (.Name x np) (e₀ :: rest) [] cpos)) none pos) (tRaiseI C sp E t) := by
  intro pins s σ H D I h
  obtain ⟨bm, N, nm, qn, bs, hdct, sn, sub, ab, col, dd, k0, k1, k2, k3, k5, lk, ok, ini, tl⟩ := M.ex
  have bb : bm.contains (.type "BaseException") = true := (PySem.W.tail_of_in I.kIn tl).hasType PySem.F.excBase_ValueError.hasBase
  have body : wpAny (model X.prog X.w) X.A (eval (.Call (.Name x np) (e₀ :: rest) [] cpos) X.env) (fun v s1 => ∃ e dx ws sl, v = .ref e ∧ s1.heap.get? C = some (excClassObj nm qn C N bs bm hdct sn sub ab col dd k0 k1 k2 k3 k5 "ValueError.__new__") ∧ s1.heap.get? e = some ⟨.ref C, dx, .fields ws, sl⟩ ∧ ws[1]? = some .none ∧ X.xe (.ref e) s1) X.xe s := by
    refine wpAny_Call_Name_kw (ld_glob I hg hm ?_ hd)
    refine PySem.W.callWith_K (h₀ := X.base) I.ok.mod.kin M.kp (thn (ha cpos pins s σ H _ I h) fun us s1 ⟨vs, H1, I1, r, lr, q⟩ => ⟨I1.kIn, ?_⟩) he hpl
    refine run_init M F hr hb I1 r lr q fun a h' H2 s2 mk os bare un hok q2 => ?_
    obtain ⟨d, ed, hE⟩ := q2
    have I2 := I1.call' os un hok bare (fun b z => absurd z (by simp))
    obtain ⟨⟨ox, ws, g1, g2, g3, g4, g6, g5⟩, _⟩ := (show ObjOk X.prog X.w H2 s2.heap a (excB true a (.ref C) (some d)) from hok a _ ed)
    have na := I1.hok.none_of mk.new
    obtain ⟨oc, odx, oda, osl⟩ := ox
    dsimp only at g2 g3 g4
    subst g2 g3 g4
    refine ⟨a, some d, ws, osl, rfl, I2.kIn _ _ lk, g1, (g5 rfl).2, hp pins σ H1 s1 _ _ I1 ⟨a, del H2 a, .ref C, some d, .new, rfl, ⟨os, bare, un_del un na, hok_del hok ed, ⟨⟨_, ws, g1, rfl, rfl, rfl, ⟨(g5 rfl).1, g6⟩, (g5 rfl).2⟩, mk.new, del_same⟩⟩, hE⟩⟩
  rw [arm_exec_Raise]
  apply wpAny_bind
  apply wpAny_standAt
  refine raise_any (C := C) (nm := nm) (q := qn) (N := N) (bs := bs) (bm := bm) (hdct := hdct) (sn := sn) (sub := sub) (ab := ab) (col := col) (dd := dd) (k0 := k0) (k1 := k1) (k2 := k2) (k3 := k3) (k5 := k5) (nw := "ValueError.__new__") bb (I.ok.hd hc) ?_
  apply wpAny_bind
  refine wpAny_mono body (fun v s1 h1 => ?_) fun _ _ z => z
  apply wpAny_bind
  apply wpAny_standAt
  exact wpAny_pure h1
end
end L2
set_option Elab.async false
set_option linter.all false
set_option maxRecDepth 100000
namespace L2
open PySem PySem.Spec PyProof.Rows XH
/-! ### within an except suite, and in what is called there -/
theorem entry_unchain : entryFor table "proto.unchain" = some Builtin.«proto.unchain» := entryFor_of_fast (by kernel_rfl)
/-- what is known of the handled exception, if there is one -/
def HdOk (hd : Option Value) (H : Hp) : Prop := ∀ v, hd = some v → ∃ a n cls dx, v = .ref a ∧ H a = some (excB n a cls dx)
theorem HdOk.no {H : Hp} : HdOk none H := fun _ z => nomatch z
section
variable {prog : Program} {w : World} {A : Around} {E : Value → Shared → Prop} {s : Shared}
theorem range_endH {it hx : Addr} {ox : Obj} {vs : Array Value} {x left step : Int} {Q : Option Value → Shared → Prop} (hh : A.handled = some (.ref hx)) (ho : s.heap.get? hx = some ox) (hd : ox.data = .fields vs) (h2 : vs[2]? = some .none)
    (hit : IsRangeIter s.heap it x left step) (hleft : left ≤ 0) (hQ : ∀ h', Heap.ExtBut it s.heap h' → Q none { s with heap := h' }) : wpAny (model prog w) A (pyNext (.ref it)) Q E s := by
  have hT : s.TypeIs (.ref it) "range_iterator" := ⟨_, hit, rfl⟩
  unfold pyNext
  refine wpAny_bind (wpAny_attempt (wpAny_callSpecial?_slot (name := Str.ofString "__next__") hT F.slot_range_iterator_next
    (wpAny_call_entry F.slot_range_iterator_next hT F.entry_range_iterator_next ?_ (F.args_range_iterator_next_1 _))))
  show wpAny _ _ (field (.ref it) 0 >>= _) _ _ s
  refine wpAny_bind (wpAny_field hit rfl (x := rawInt x) rfl ?_)
  show wpAny _ _ (field (.ref it) 1 >>= _) _ _ s
  refine wpAny_bind (wpAny_field hit rfl (x := rawInt left) rfl ?_)
  show wpAny _ _ (field (.ref it) 2 >>= _) _ _ s
  refine wpAny_bind (wpAny_field hit rfl (x := rawInt step) rfl ?_)
  show wpAny _ _ (if left ≤ 0 then _ else _) _ _ s
  rw [if_pos hleft]
  refine wpAny_bind (wpAny_rule ?_)
  refine wpAny_bind ?_
  show wpAny _ _ (newExc (.type "StopIteration") [] >>= _) _ _ _
  refine wpAny_bind ?_
  simp only [newExc, newTuple]
  refine wpAny_bind (wpAny_newObj_type ?_ (by size_fits))
  refine wpAny_bind (m := firstArgMember _ _) (wpAny_of_eq (a := Value.none) (by first | rfl | (simp only [firstArgMember]; rfl)) ?_)
  refine wpAny_newObj_type ?_ (by size_fits)
  simp only [raiseNew]
  refine wpAny_bind (wpAny_handled ?_)
  rw [show A.in1.handled = some (.ref hx) from hh]
  have g0 : s.heap.get? (s.heap.push { cls := .type "tuple", dict := none, data := .seq ([] : List Value).toArray }).objs.size = none := Heap.get?_none_of_le (by rw [Heap.size_push]; omega)
  have ne : hx ≠ (s.heap.push { cls := .type "tuple", dict := none, data := .seq ([] : List Value).toArray }).objs.size := fun z => by
    rw [z, g0] at ho
    cases ho
  dsimp only
  rw [if_pos (bne_iff_ne.mpr fun z => ne (Value.ref.inj z))]
  refine wpAny_bind (wpAny_holding (wpAny_runValue (codeAny_builtin entry_unchain ?_)))
  show wpAny _ _ (field (.ref hx) 2 >>= _) _ _ _
  refine wpAny_bind (wpAny_field (Heap.get?_push_of_some _ (Heap.get?_push_of_some _ ho)) hd h2 ?_)
  rw [if_pos (by rfl)]
  refine wpAny_bind (wpAny_pure (wpAny_pure ?_))
  refine wpAny_bind (m := updateField _ 2 _) (wpAny_setField (Heap.get?_push_size _ rfl) rfl (by show 2 < 6; decide) ?_)
  refine wpAny_throw ?_
  refine wpAny_bind (wpAny_isInstance (T := "StopIteration") (b := true) ⟨_, Heap.get?_update_self _ (Heap.get?_push_size _ rfl) rfl, rfl⟩ isSubtype_stop ?_)
  refine wpAny_pure (hQ _ fun b o hb e => ?_)
  rw [Heap.get?_update_other _ _ (by
    intro z
    rw [z] at g0
    rw [g0] at e
    cases e)]
  exact Heap.get?_push_of_some _ (Heap.get?_push_of_some _ e)
end
/-! ### iterators under a handled exception -/
structure TurnH (hd : Option Value) (P : Program) (w : World) (K : PySem.W.Frag) (tg : Expr) (J : It) (fp : List Addr) (it : Addr) (tn : Nat → Heap → Prop) : Prop where
  mem : it ∈ fp
  obj : ∀ i h, tn i h → ∀ b ∈ fp, ∃ o, h.get? b = some o ∧ ∀ v, o.data ≠ .cell v
  keep : ∀ i h h', tn i h → (∀ b ∈ fp, ∀ o, h.get? b = some o → h'.get? b = some o) → tn i h'
  item : ∀ (X : Cx), X.prog = P → X.w = w → X.K = K → X.A.handled = hd → ∀ (i : Nat) (pins : List (Addr × Obj)) (s : Shared) (σ : St) (H : Hp) (E : Value → Shared → Prop), Inv X pins σ H s → (∀ b ∈ fp, FpOk X pins H b) → tn i s.heap → J.go i H →
    wpAny (model P w) X.A (pyNext (.ref it)) (fun r s1 => ∃ u, r = some u ∧
      wpAny (model P w) X.A (letOwnedTupleGo tg (.ref it) u) (fun _ s2 => ∃ x H', Inv X pins σ H' s2 ∧ RelV x u ∧ J.yld i H x H' ∧ tn (i + 1) s2.heap ∧ ∀ b ∈ fp, H' b = none) E s1) E s
  done : ∀ (X : Cx), X.prog = P → X.w = w → X.K = K → X.A.handled = hd → ∀ (i : Nat) (pins : List (Addr × Obj)) (s : Shared) (σ : St) (H : Hp) (E : Value → Shared → Prop), Inv X pins σ H s → (∀ b ∈ fp, FpOk X pins H b) → tn i s.heap → J.stop i H →
    wpAny (model P w) X.A (pyNext (.ref it)) (fun r s1 => r = none ∧ Inv X pins σ H s1) E s
  self : ∀ (A : Around) (i : Nat) (s : Shared) (Q : Value → Shared → Prop) (E : Value → Shared → Prop), tn i s.heap → Q (.ref it) s → wpAny (model P w) A (pyIter (.ref it)) Q E s
def PIEH (hd : Option Value) (X : Cx) (pins : List (Addr × Obj)) (σ : St) (tg : Expr) (R : It → Hp → Prop) (itv : Value) (s2 : Shared) : Prop :=
  ∃ (it : Addr) (fp : List Addr) (tn : Nat → Heap → Prop) (J : It) (H' : Hp), itv = .ref it ∧ Inv X pins σ H' s2 ∧ TurnH hd X.prog X.w X.K tg J fp it tn ∧ tn 0 s2.heap ∧ (∀ b ∈ fp, FpOk X pins H' b) ∧ R J H'
def PIH (hd : Option Value) (X : Cx) (tg iter : Expr) (wi : TI) : Prop :=
  ∀ (pins : List (Addr × Obj)) (s : Shared) (σ : St) (H : Hp) (R : It → Hp → Prop), Inv X pins σ H s → wi σ H R →
    wpAny (model X.prog X.w) X.A (eval iter X.env) (fun v s1 => wpAny (model X.prog X.w) X.A (pyIter v) (PIEH hd X pins σ tg R) X.xe s1) X.xe s
def ItrH (hd : Option Value) (lo : Int) (n : Nat) : It := ⟨fun i _ => i < n, fun i H x H' => H' = H ∧ x = .int (lo + i), fun i H => n ≤ i ∧ HdOk hd H⟩
theorem turn_rangeH {hd : Option Value} {P : Program} {w : World} {K : PySem.W.Frag} {tg : Expr} (it : Addr) (lo : Int) (n : Nat) : TurnH hd P w K tg (ItrH hd lo n) [it] it (fun i h => IsRangeIter h it (lo + (i : Nat) * 1) ((n : Int) - (i : Nat)) 1) where
  mem := by simp
  obj := fun i h st b hb => by
    have e : b = it := by simpa using hb
    subst e
    exact ⟨_, st, fun v z => by
      have z' : Data.fields _ = Data.cell v := z
      cases z'⟩
  keep := fun i h h' st k => k it (by simp) _ st
  item := by
    intro X hP hw hK hA i pins s σ H E I hf st hg
    subst hP hw hK
    obtain ⟨f0, f1, f2, f3, f4, f5⟩ := hf it (by simp)
    have hg' : i < n := hg
    refine wpAny_pyNext_range_item st (by omega) fun h' st' sb => ?_
    have I1 : Inv X pins σ H { s with heap := h', toks := s.toks + 1 } := I.turned (fun b o hb e => (sb.2 b hb).trans e) f0 f1 f3 f4 f5
    have st2 : IsRangeIter h' it (lo + ((i + 1 : Nat) : Int) * 1) ((n : Int) - ((i + 1 : Nat) : Int)) 1 := by
      have e1 : lo + ((i + 1 : Nat) : Int) * 1 = lo + (i : Int) * 1 + 1 := by push_cast; omega
      have e2 : (n : Int) - ((i + 1 : Nat) : Int) = (n : Int) - (i : Int) - 1 := by push_cast; omega
      rw [e1, e2]
      exact st'
    refine ⟨_, rfl, go_of (s := { s with heap := h', toks := s.toks + 1 }) (n := "range_iterator") st2 rfl rfl (by decide) ⟨.int (lo + i), H, I1, ⟨s.toks, ?_⟩, ⟨rfl, rfl⟩, st2, fun b hb => (hf b hb).1⟩⟩
    rw [Int.mul_one]
  done := by
    intro X hP hw hK hA i pins s σ H E I hf st hg
    subst hP hw hK
    obtain ⟨f0, f1, f2, f3, f4, f5⟩ := hf it (by simp)
    obtain ⟨hl, hk⟩ := hg
    cases hd with
    | none => exact wpAny_pyNext_range_end hA st (by omega) fun h' eb => ⟨rfl, I.turned (t' := s.toks) (fun b o hb e => eb b o hb e) f0 f1 f3 f4 f5⟩
    | some v =>
      obtain ⟨a, m, cls, dx, rfl, e⟩ := hk v rfl
      obtain ⟨⟨ox, vs, h1, h2, h3, h4, h6, h5⟩, _⟩ := (show ObjOk X.prog X.w H s.heap a (excB m a cls dx) from I.hok a _ e)
      exact range_endH hA h1 h4 h6 st (by omega) fun h' eb => ⟨rfl, I.turned (t' := s.toks) (fun b o hb e => eb b o hb e) f0 f1 f3 f4 f5⟩
  self := fun _ _ _ _ _ st h => wpAny_pyIter_rangeiter st h
def iRngH (hd : Option Value) (ta : TA) : TI := fun σ H R => ta σ H fun vs H1 => ∃ j : Int, vs = [.int j] ∧ -(2 ^ 62) ≤ j ∧ j < 2 ^ 62 ∧ R (ItrH hd 0 j.toNat) H1
section
variable {X : Cx} {tg : Expr} {hd : Option Value}
theorem range_itH {pins : List (Addr × Obj)} {σ : St} {H : Hp} {s : Shared} {R : It → Hp → Prop} {E : Value → Shared → Prop} {lo hi : Int} {t u v : Tok} {tk : Nat} (I : Inv X pins σ H s) (h1 : -(2 ^ 62) ≤ lo) (h2 : lo < 2 ^ 62) (h3 : -(2 ^ 62) ≤ hi) (h4 : hi < 2 ^ 62)
    (q : R (ItrH hd lo (hi - lo).toNat) H) : wpAny (model X.prog X.w) X.A (pyIter (.ref s.heap.objs.size)) (PIEH hd X pins σ tg R) E { s with heap := s.heap.push { cls := .type "range", data := .fields #[.int lo t, .int hi u, .int 1 v] }, toks := tk } := by
  refine wpAny_pyIter_range (IsRange.new ..) (small_one h1 h2 h3 h4) ?_
  have I1 : Inv X pins σ H { s with heap := s.heap.push { cls := .type "range", data := .fields #[.int lo t, .int hi u, .int 1 v] }, toks := tk } := I.kept fun b o e => Heap.get?_push_of_some _ e
  refine ⟨(s.heap.push { cls := .type "range", data := .fields #[.int lo t, .int hi u, .int 1 v] }).objs.size, [(s.heap.push { cls := .type "range", data := .fields #[.int lo t, .int hi u, .int 1 v] }).objs.size], _, _, H, rfl,
    I1.kept (t' := tk) fun b o e => Heap.get?_push_of_some _ e, turn_rangeH _ lo (hi - lo).toNat, ?_, fun b hb => ?_, q⟩
  · have e1 : lo + ((0 : Nat) : Int) * 1 = lo := by simp
    have e2 : (((hi - lo).toNat : Nat) : Int) - ((0 : Nat) : Int) = Builtin.Range.rangeSize lo hi 1 := by rw [rangeSize_one]; split <;> omega
    show IsRangeIter _ _ (lo + ((0 : Nat) : Int) * 1) ((((hi - lo).toNat : Nat) : Int) - ((0 : Nat) : Int)) 1
    rw [e1, e2]
    exact Heap.get?_push_size _ rfl
  · have e : b = (s.heap.push { cls := .type "range", data := .fields #[.int lo t, .int hi u, .int 1 v] }).objs.size := by simpa using hb
    subst e
    exact I1.fpOk (Nat.le_refl _) (I1.hok.fresh (Nat.le_refl _))
theorem pi_rangeH {a : Expr} {ta : TA} {p pos : Pos} (hg : Gl X "range") (hm : X.mg "range" = none) (ha : PA X [a] ta) (hs : starEach [a] X.env = [(false, eval a X.env)] := by rfl) : PIH hd X tg (.Call (.Name "range" p) [a] [] pos) (iRngH hd ta) := by
  intro pins s σ H R I h
  refine Call_ (ld_blt I hg hm boot_range (PyProof.Rows.callWith_type1 (thn (ha pos pins s σ H _ I h) fun us s1 ⟨vs, H1, I1, r1, q1⟩ => ?_) hs rfl))
  obtain ⟨j, e, q1, q2, q⟩ := q1
  subst e
  cases r1 with
  | cons r rr =>
    cases rr
    obtain ⟨t, rfl⟩ := r
    exact call_range_1 (range_itH I1 (by omega) (by omega) q1 q2 (by simpa using q))
end
section
variable {X : Cx} {scope : Scope} {cl : List (Str × Addr)} {own : Str} {ys : List Str} {js : List Nat} {elt iter : Expr} {px pos : Pos} {wi : TI} {te : TE} {hd : Option Value}
theorem pe_compH (hA : X.A.handled = hd) (ok : CompOk X scope cl own ys js) (hi : PIH hd X (.Name own px) iter wi)
    (he : ∀ (C : Addr) (fp : List Addr) (s : Shared) (H : Hp), PE (X.block scope cl C (own :: ys) own fp s H) elt te)
    (hs : ∀ x, foldedSetIterable iter X.env x = pure x := by intro _; rfl) : PE X (.ListComp elt [⟨.Name own px, iter, [], 0⟩] scope pos) (tComp wi js te) := by
  intro pins s σ H Q I h
  rw [eval_ListComp]
  have ncell : ∀ y ∈ scope.names, y.2 ≠ .cell := fun y hy z => by
    have q := List.all_eq_true.mp ok.nocell y hy
    rw [z] at q
    simp at q
  have nloc : ∀ y ∈ scope.names, y.2 = .local → scope.names.lookup y.1 = some .local := fun y hy z => by
    have q := List.all_eq_true.mp ok.loc y hy
    rw [z] at q
    simpa using q
  refine wpAny_comprehension_free (use := none) rfl hs ok.clos ok.kind nloc (thn (hi pins s σ H _ I h) fun v s1 h1 => thn h1 fun itv s2 h2 => ?_)
  obtain ⟨it, fp, tn, J, H2, rfl, I2, T, st2, f2, q2⟩ := h2
  obtain ⟨W, ⟨m0, w0⟩, turn⟩ := q2 s2.heap.objs.size (I2.hok.fresh (Nat.le_refl _))
  refine wpAny_newObj_type (wpAny_newFunctionEnv ncell (by intro y hy; simp at hy) (fun h1 hns hsb => ?_) ok.kind)
  have I3 := I2.laid (a := s2.heap.objs.size) (o := .lst []) (h' := s2.heap.push { cls := .type "list", dict := none, data := .seq ([] : List Value).toArray }) (t' := s2.toks) (fun b u q => Heap.get?_push_of_some _ q) (Nat.le_refl _)
    ⟨Nat.zero_le _, [], 0, .nil, Heap.get?_push_size _ rfl⟩
  have fpo : ∀ b ∈ fp, b < s2.heap.objs.size := fun b hb => by
    obtain ⟨o, e, _⟩ := T.obj 0 _ st2 b hb
    exact Heap.lt_size e
  have f3 : ∀ b ∈ fp, FpOk X pins (upd H2 s2.heap.objs.size (.lst [])) b := fun b hb => ⟨by rw [upd_ne (Nat.ne_of_lt (fpo b hb))]; exact (f2 b hb).1, (f2 b hb).2⟩
  generalize hs3 : ({ s2 with heap := s2.heap.push { cls := .type "list", dict := none, data := .seq ([] : List Value).toArray }, toks := s2.toks } : Shared) = s3 at I3
  have e3 : s3.heap = s2.heap.push { cls := .type "list", dict := none, data := .seq ([] : List Value).toArray } := by rw [← hs3]
  have lt3 : ∀ b ∈ fp, b < s3.heap.objs.size := fun b hb => by rw [e3, Heap.size_push]; exact Nat.lt_succ_of_lt (fpo b hb)
  dsimp only at hns hsb ⊢
  rw [← e3] at hns hsb
  have hk : ∀ b o, s3.heap.get? b = some o → h1.get? b = some o := fun b o e => hsb.extBut b o (Nat.ne_of_lt (Heap.lt_size e)) (Heap.get?_push_of_some _ e)
  have J0 := block_start (h1 := h1) ok I3 f3 lt3 hns hk (s2.toks + 0)
  have t0 : tn 0 h1 := T.keep 0 _ _ st2 fun b hb o e => hk b o (by rw [e3]; exact Heap.get?_push_of_some _ e)
  have fpB : ∀ {H' : Hp}, (∀ b ∈ fp, H' b = none) → ∀ b ∈ fp, FpOk (X.block scope cl s3.heap.objs.size (own :: ys) own fp s3 (upd H2 s2.heap.objs.size (.lst []))) [] H' b := fun {H'} hn b hb =>
    ⟨hn b hb, Nat.ne_of_lt (lt3 b hb), fun z => (List.mem_cons.mp (I3.stkSub b z)).elim (f3 b hb).2.1 (f3 b hb).2.2.1, .inl hb, fun x c e => (f3 b hb).2.2.2.2.1 x c (ok.sub (x, c) (PySem.mem_of_lookup e)), fun p hp => absurd (show p ∈ ([] : List (Addr × Obj)) from hp) (by simp)⟩
  have loop : codeAny (model X.prog X.w) X.A (.compLoop (.ListComp elt [⟨.Name own px, iter, [], 0⟩] scope pos) 0 (.ref it) (.ref s2.heap.objs.size) (compEnvC scope cl s3.heap.objs.size X.env))
      (compPost (model X.prog X.w) X.A X.xe none (EP X pins σ Q) (.ref s2.heap.objs.size) s3.heap.objs.size) { s3 with heap := h1, toks := s2.toks + 0 } := by
    refine compLoop_own (fun n s' => ∃ i zs o0 H', Inv (X.block scope cl s3.heap.objs.size (own :: ys) own fp s3 (upd H2 s2.heap.objs.size (.lst []))) [] (o0 :: freesOf js σ) H' s' ∧ tn i s'.heap ∧ (∀ b ∈ fp, H' b = none) ∧ W i n zs H') ?_ m0
      ⟨0, [], none, _, J0, t0, fun b hb => (f3 b hb).1, w0⟩
    rintro n s5 ⟨i, zs, o0, H5, I5, t5, n5, w5⟩
    obtain ⟨hD, hw⟩ := turn i n zs H5 w5
    rcases hw with ⟨stop, qn⟩ | ⟨go, hz, step⟩
    · refine thn (T.done (X.block scope cl s3.heap.objs.size (own :: ys) own fp s3 (upd H2 s2.heap.objs.size (.lst []))) rfl rfl rfl hA i [] s5 _ H5 (fun _ _ => False) I5 (fpB n5) t5 stop) fun r s6 ⟨hr, I6⟩ => ?_
      subst hr
      obtain ⟨m, hn, _⟩ := id I6.loc
      exact ⟨m, hn, fun h' hs' => ⟨V.ref s2.heap.objs.size, H5, block_end I3 f3 I6 hs', rfl, qn⟩⟩
    · refine thn (T.item (X.block scope cl s3.heap.objs.size (own :: ys) own fp s3 (upd H2 s2.heap.objs.size (.lst []))) rfl rfl rfl hA i [] s5 _ H5 (fun _ _ => False) I5 (fpB n5) t5 go) fun r s6 ⟨u, hr, h6⟩ => ?_
      subst hr
      refine thn h6 fun _ s7 ⟨x, H7, I7, r7, y7, t7, n7⟩ => ?_
      have I7' := I7.pinned (fpB n7) (T.obj _ _ t7)
      have hst := step x H7 y7
      have own' : (relabel scope X.env).names.lookup own = some .local := lookup_relabel_local ok.ownL
      refine thn (pg_name (X := X.block scope cl s3.heap.objs.size (own :: ys) own fp s3 (upd H2 s2.heap.objs.size (.lst []))) (i := 0) (x := own) (pos := px) ok.nd rfl (.inl own') (.inr own') _ s7 _ H7 x u (fun σ' H' => σ' = some x :: freesOf js σ ∧ H' = H7) I7' r7 ⟨rfl, rfl⟩) fun _ s8 ⟨σ8, H8, I8, e8, eH8⟩ => ?_
      subst e8 eH8
      refine thn (he _ _ _ _ _ s8 _ H8 _ I8 hst) fun yv s9 ⟨y, H9, I9, r9, hD9, m', hm, w9⟩ => ?_
      refine thn (mt_append _ s9 _ H9 (.ref s2.heap.objs.size) [y] (.ref s2.heap.objs.size) [yv] (fun _ H' => H' = upd H9 s2.heap.objs.size (.lst (zs ++ [y]))) I9 rfl (.cons r9 .nil) ⟨_, zs, y, rfl, rfl, hD9, hz, rfl⟩) fun _ s10 ⟨_, H10, I10, _, e10⟩ => ?_
      subst e10
      refine ⟨m', hm, i + 1, zs ++ [y], some x, _, I10.unpinned, T.keep _ _ _ t7 fun b hb o e => (I10.pin (b, o) (List.mem_append_right _ (List.mem_append_right _ (mem_pinsAt hb e)))).1, fun b hb => ?_, w9⟩
      obtain ⟨o, e, d⟩ := T.obj _ _ t7 b hb
      exact (I10.pin (b, o) (List.mem_append_right _ (List.mem_append_right _ (mem_pinsAt hb e)))).2.1
  subst hs3
  exact codeAny_compStart_list loop (T.self _ 0 _ _ _ t0 loop)
theorem ps_compH {i : Nat} {y : Str} {py spos : Pos} (hN : X.N.Nodup) (hi' : X.N[i]? = some y) (hy : X.env.scope.names.lookup y = some .local) (hA : X.A.handled = hd) (ok : CompOk X scope cl own ys js) (hi : PIH hd X (.Name own px) iter wi)
    (he : ∀ (C : Addr) (fp : List Addr) (s : Shared) (H : Hp), PE (X.block scope cl C (own :: ys) own fp s H) elt te)
    (hsw : swapsWith (.ListComp elt [⟨.Name own px, iter, [], 0⟩] scope pos) (some (.Name y py)) spos.line X.env = pure true := by rfl) (hs : ∀ x, foldedSetIterable iter X.env x = pure x := by intro _; rfl) :
    PS X (.Assign [.Name y py] (.ListComp elt [⟨.Name own px, iter, [], 0⟩] scope pos) spos) (tAsg (tComp wi js te) (gName i)) := by
  intro pins s σ H D I h
  have ncell : ∀ y ∈ scope.names, y.2 ≠ .cell := fun y hy z => by
    have q := List.all_eq_true.mp ok.nocell y hy
    rw [z] at q
    simp at q
  have nloc : ∀ y ∈ scope.names, y.2 = .local → scope.names.lookup y.1 = some .local := fun y hy z => by
    have q := List.all_eq_true.mp ok.loc y hy
    rw [z] at q
    simpa using q
  show wpAny _ _ (exec _ X.env) _ _ _
  rw [exec_Assign_Name_used _ _ _ _ hsw]
  refine wpAny_bind (wpAny_standAt (wpAny_bind ?_))
  show wpAny _ X.A (do let _ ← comprehension (.ListComp elt [⟨.Name own px, iter, [], 0⟩] scope pos) scope X.env _ (newList []) false (eval iter X.env) (some (assign (.Name y py) X.env))) _ _ s
  refine wpAny_bind (wpAny_mono (wpAny_comprehension_free (use := some (assign (.Name y py) X.env)) (Q := fun _ s' => SP X pins D .next s') rfl hs ok.clos ok.kind nloc (thn (hi pins s σ H _ I h) fun v s1 h1 => thn h1 fun itv s2 h2 => ?_)) (fun _ s' hq => wpAny_pure (wpAny_pure hq)) fun _ _ e => e)
  obtain ⟨it, fp, tn, J, H2, rfl, I2, T, st2, f2, q2⟩ := h2
  obtain ⟨W, ⟨m0, w0⟩, turn⟩ := q2 s2.heap.objs.size (I2.hok.fresh (Nat.le_refl _))
  refine wpAny_newObj_type (wpAny_newFunctionEnv ncell (by intro y hy; simp at hy) (fun h1 hns hsb => ?_) ok.kind)
  have I3 := I2.laid (a := s2.heap.objs.size) (o := .lst []) (h' := s2.heap.push { cls := .type "list", dict := none, data := .seq ([] : List Value).toArray }) (t' := s2.toks) (fun b u q => Heap.get?_push_of_some _ q) (Nat.le_refl _)
    ⟨Nat.zero_le _, [], 0, .nil, Heap.get?_push_size _ rfl⟩
  have fpo : ∀ b ∈ fp, b < s2.heap.objs.size := fun b hb => by
    obtain ⟨o, e, _⟩ := T.obj 0 _ st2 b hb
    exact Heap.lt_size e
  have f3 : ∀ b ∈ fp, FpOk X pins (upd H2 s2.heap.objs.size (.lst [])) b := fun b hb => ⟨by rw [upd_ne (Nat.ne_of_lt (fpo b hb))]; exact (f2 b hb).1, (f2 b hb).2⟩
  generalize hs3 : ({ s2 with heap := s2.heap.push { cls := .type "list", dict := none, data := .seq ([] : List Value).toArray }, toks := s2.toks } : Shared) = s3 at I3
  have e3 : s3.heap = s2.heap.push { cls := .type "list", dict := none, data := .seq ([] : List Value).toArray } := by rw [← hs3]
  have lt3 : ∀ b ∈ fp, b < s3.heap.objs.size := fun b hb => by rw [e3, Heap.size_push]; exact Nat.lt_succ_of_lt (fpo b hb)
  dsimp only at hns hsb ⊢
  rw [← e3] at hns hsb
  have hk : ∀ b o, s3.heap.get? b = some o → h1.get? b = some o := fun b o e => hsb.extBut b o (Nat.ne_of_lt (Heap.lt_size e)) (Heap.get?_push_of_some _ e)
  have J0 := block_start (h1 := h1) ok I3 f3 lt3 hns hk (s2.toks + 0)
  have t0 : tn 0 h1 := T.keep 0 _ _ st2 fun b hb o e => hk b o (by rw [e3]; exact Heap.get?_push_of_some _ e)
  have fpB : ∀ {H' : Hp}, (∀ b ∈ fp, H' b = none) → ∀ b ∈ fp, FpOk (X.block scope cl s3.heap.objs.size (own :: ys) own fp s3 (upd H2 s2.heap.objs.size (.lst []))) [] H' b := fun {H'} hn b hb =>
    ⟨hn b hb, Nat.ne_of_lt (lt3 b hb), fun z => (List.mem_cons.mp (I3.stkSub b z)).elim (f3 b hb).2.1 (f3 b hb).2.2.1, .inl hb, fun x c e => (f3 b hb).2.2.2.2.1 x c (ok.sub (x, c) (PySem.mem_of_lookup e)), fun p hp => absurd (show p ∈ ([] : List (Addr × Obj)) from hp) (by simp)⟩
  have loop : codeAny (model X.prog X.w) X.A (.compLoop (.ListComp elt [⟨.Name own px, iter, [], 0⟩] scope pos) 0 (.ref it) (.ref s2.heap.objs.size) (compEnvC scope cl s3.heap.objs.size X.env))
      (compPost (model X.prog X.w) X.A X.xe (some (assign (.Name y py) X.env)) (fun _ s' => SP X pins D .next s') (.ref s2.heap.objs.size) s3.heap.objs.size) { s3 with heap := h1, toks := s2.toks + 0 } := by
    refine compLoop_own (fun n s' => ∃ i zs o0 H', Inv (X.block scope cl s3.heap.objs.size (own :: ys) own fp s3 (upd H2 s2.heap.objs.size (.lst []))) [] (o0 :: freesOf js σ) H' s' ∧ tn i s'.heap ∧ (∀ b ∈ fp, H' b = none) ∧ W i n zs H') ?_ m0
      ⟨0, [], none, _, J0, t0, fun b hb => (f3 b hb).1, w0⟩
    rintro n s5 ⟨i, zs, o0, H5, I5, t5, n5, w5⟩
    obtain ⟨hD, hw⟩ := turn i n zs H5 w5
    rcases hw with ⟨stop, qn⟩ | ⟨go, hz, step⟩
    · refine thn (T.done (X.block scope cl s3.heap.objs.size (own :: ys) own fp s3 (upd H2 s2.heap.objs.size (.lst []))) rfl rfl rfl hA i [] s5 _ H5 (fun _ _ => False) I5 (fpB n5) t5 stop) fun r s6 ⟨hr, I6⟩ => ?_
      subst hr
      obtain ⟨m, hn, _⟩ := id I6.loc
      have J : Inv X pins σ H5 s6 := block_end (h' := s6.heap) I3 f3 I6 (Heap.SameBut.refl _ _)
      have fC := I3.fpOk (Nat.le_refl _) (show H5 s3.heap.objs.size = none from I6.free)
      obtain ⟨k0, k1, k2, k3, k4, k5⟩ := fC
      show wpAny _ X.A (assign (.Name y py) X.env (.ref s2.heap.objs.size)) _ _ _
      refine wpAny_assign_Name (store_ok2 (v := .ref s2.heap.objs.size) J hN hi' (.inl hy) rfl (fun s7 I7 hsb => ?_) (.inr hy))
      obtain ⟨a', sb, ha⟩ := hsb
      have ne : s3.heap.objs.size ≠ a' := by
        rcases ha with z | z
        · rw [z]; exact k1
        · exact fun w => k4 _ _ z w.symm
      exact ⟨m, hn.sameBut sb ne, fun h' hs' => ⟨_, H5, I7.turned (t' := s7.toks) (fun b o hb e => (hs'.2 b hb).trans e) k0 k1 k3 k4 k5, qn⟩⟩
    · refine thn (T.item (X.block scope cl s3.heap.objs.size (own :: ys) own fp s3 (upd H2 s2.heap.objs.size (.lst []))) rfl rfl rfl hA i [] s5 _ H5 (fun _ _ => False) I5 (fpB n5) t5 go) fun r s6 ⟨u, hr, h6⟩ => ?_
      subst hr
      refine thn h6 fun _ s7 ⟨x, H7, I7, r7, y7, t7, n7⟩ => ?_
      have I7' := I7.pinned (fpB n7) (T.obj _ _ t7)
      have hst := step x H7 y7
      have own' : (relabel scope X.env).names.lookup own = some .local := lookup_relabel_local ok.ownL
      refine thn (pg_name (X := X.block scope cl s3.heap.objs.size (own :: ys) own fp s3 (upd H2 s2.heap.objs.size (.lst []))) (i := 0) (x := own) (pos := px) ok.nd rfl (.inl own') (.inr own') _ s7 _ H7 x u (fun σ' H' => σ' = some x :: freesOf js σ ∧ H' = H7) I7' r7 ⟨rfl, rfl⟩) fun _ s8 ⟨σ8, H8, I8, e8, eH8⟩ => ?_
      subst e8 eH8
      refine thn (he _ _ _ _ _ s8 _ H8 _ I8 hst) fun yv s9 ⟨y, H9, I9, r9, hD9, m', hm, w9⟩ => ?_
      refine thn (mt_append _ s9 _ H9 (.ref s2.heap.objs.size) [y] (.ref s2.heap.objs.size) [yv] (fun _ H' => H' = upd H9 s2.heap.objs.size (.lst (zs ++ [y]))) I9 rfl (.cons r9 .nil) ⟨_, zs, y, rfl, rfl, hD9, hz, rfl⟩) fun _ s10 ⟨_, H10, I10, _, e10⟩ => ?_
      subst e10
      refine ⟨m', hm, i + 1, zs ++ [y], some x, _, I10.unpinned, T.keep _ _ _ t7 fun b hb o e => (I10.pin (b, o) (List.mem_append_right _ (List.mem_append_right _ (mem_pinsAt hb e)))).1, fun b hb => ?_, w9⟩
      obtain ⟨o, e, d⟩ := T.obj _ _ t7 b hb
      exact (I10.pin (b, o) (List.mem_append_right _ (List.mem_append_right _ (mem_pinsAt hb e)))).2.1
  subst hs3
  exact codeAny_compStart_list loop (T.self _ 0 _ _ _ t0 loop)
end
/-! ### an except suite whose reading knows the exception -/
def tHasA (K : PySem.W.Frag) (C' : Addr) (i : Nat) (t : Addr → TS) (r : TH) : TH := fun D σ cls dx H a => ∃ C b, cls = .ref C ∧ PySem.W.subIn K (.ref C) (.ref C') = some b ∧
  if b = true then t a (offE i D) (σ.set i (some (.ref a))) (upd H a (excO a cls dx)) else r D σ cls dx H a
section
variable {X : Cx} {x n : Str} {np pos : Pos} {b0 : Stmt} {suite : List Stmt} {rest : List ExceptHandler} {i : Nat} {C' : Addr} {tA : Addr → TS} {th : TH}
theorem ph_asA (T : XT X.K C') (hg : Gl X x) (hm : X.mg x = some (.ref C')) (hN : X.N.Nodup) (hi : X.N[i]? = some n) (hloc : X.env.scope.names.lookup n = some .local)
    (hs : ∀ (pins : List (Addr × Obj)) (a : Addr), PSs (X.suite pins a) (b0 :: suite) (tA a)) (hrest : PH X rest th) (hd : (x == ("__debug__" : Str)) = false := by decide) :
    PH X (.ExceptHandler (some (.Name x np)) (some n) (b0 :: suite) pos :: rest) (tHasA X.K C' i tA th) := by
  intro pins σ H0 s0 D a H' cls v dx s' I c h
  obtain ⟨C, b, rfl, hsub, h⟩ := h
  have J : Inv X pins σ H' s' := I.call' c.os c.un c.hok c.bare (fun b z => absurd z (by simp))
  obtain ⟨oe, vs, he, hc, _, _, _⟩ := c.xo.ex
  refine wpAny_handleBy_cons (codeAny_handlers_test (ld_glob (X := X.suite pins a) (J.insuite a) hg hm ?_ hd)) (by intro q; cases q)
  have KX := J.kIn
  obtain ⟨hh, g, d, tk, os⟩ := s'
  refine matches_ok KX he hc T hsub ?_
  cases b with
  | false => exact hrest pins σ H0 s0 D a H' _ v dx _ I c h
  | true =>
    refine codeAny_handlers_suite_as ?_
    refine c.flight I.stack I.stkFree fun s2 c2 => ?_
    have J2 := (c2.caught I).insuite a
    refine store_ok (X := X.suite pins a) (v := V.ref a) J2 hN hi (.inl hloc) (show RelV (V.ref a) (Value.ref a) from rfl) (fun s3 I3 => ?_) (.inr hloc)
    refine wpAny_mono (hs pins a [] s3 _ _ _ I3 h) (fun f s4 q => ?_) fun _ _ z => z.elim
    exact gone_ok I.ok hN hi hloc q
end
/-! ### calls, whatever is handled -/
structure RoomH (hd : Option Value) (k : Nat) (A : Around) : Prop where
  hd : A.handled = hd
  dp : A.depth + 3 * k + 5 < recursionLimit
  un : A.units + 16 * k + 200 < cLine
theorem RoomH.mono {hd : Option Value} {j k : Nat} {A : Around} (r : RoomH hd k A) (h : j ≤ k) : RoomH hd j A := ⟨r.hd, by have := r.dp; omega, by have := r.un; omega⟩
theorem RoomH.deeper {hd : Option Value} {k : Nat} {A : Around} (r : RoomH hd (k + 1) A) (env : Env) : RoomH hd k (A.deeper env) :=
  ⟨r.hd, by have := r.dp; show A.depth + 1 + 3 * k + 5 < _; omega, by have := r.un; show A.units + 3 + 16 * k + 200 < _; omega⟩
theorem RoomH.depth {hd : Option Value} {k : Nat} {A : Around} (r : RoomH hd k A) : A.depth < recursionLimit := by have := r.dp; omega
theorem RoomH.units0 {hd : Option Value} {k : Nat} {A : Around} (r : RoomH hd k A) : A.units < cLine := by have := r.un; omega
theorem RoomH.units {hd : Option Value} {k : Nat} {A : Around} (r : RoomH hd k A) : A.units + 64 < cLine := by have := r.un; omega
theorem Room.h {k : Nat} {A : Around} (r : Room k A) : RoomH none k A := ⟨r.hd, r.dp, r.un⟩
theorem Room.suite {k : Nat} {A : Around} (r : Room k A) (v : Value) : RoomH (some v) k (A.mark (some v)) := ⟨rfl, r.dp, r.un⟩
structure FnH (hd : Option Value) (P : Program) (w : World) (K : PySem.W.Frag) (mg : Str → Option Value) (base : Heap) (k : Nat) (f : Addr) (fd : FuncData) (ps : List Str) (sp : Sp) : Prop where
  len : ∀ vs H Q E, sp vs H Q E → vs.length = ps.length
  run : ∀ (A : Around) (outer : List Env) (s : Shared) (H : Hp) (args : Args) (us : List Value) (vs : List V) (Q : VK) (E : XK), RoomH hd k A → Env0 P w K mg base A outer s H → BindsTo s fd args (ps.zip us) → Vals vs us → sp vs H Q E →
    codeAny (model P w) A (.call (.ref f) args) (CR CX0 outer P w H s Q E) s
section
variable {P : Program} {w : World} {K : PySem.W.Frag} {mg : Str → Option Value} {base : Heap} {hd : Option Value}
theorem FnH.mono {j k : Nat} {f : Addr} {fd : FuncData} {ps : List Str} {sp : Sp} (F : FnH hd P w K mg base j f fd ps sp) (h : j ≤ k) : FnH hd P w K mg base k f fd ps sp :=
  ⟨F.len, fun A outer s H args us vs Q E hr => F.run A outer s H args us vs Q E (hr.mono h)⟩
theorem FnH.calm {k : Nat} {f : Addr} {fd : FuncData} {ps : List Str} {sp : Sp} (F : FnH none P w K mg base k f fd ps sp) : FnOk P w K mg base CX0 k f fd ps sp :=
  ⟨F.len, fun A outer s H args us vs Q E hr => F.run A outer s H args us vs Q E hr.h⟩
def cxH (hd : Option Value) (P : Program) (w : World) (K : PySem.W.Frag) (mg : Str → Option Value) (base : Heap) (N : List Str) (qual : Str) (scope : Scope) (f : Addr) (cd : Value) (A : Around) (outer : List Env) (s : Shared) (H : Hp) (E : XK) : Cx :=
  { cxOf CX0 P w K mg base N qual scope f cd A outer s H E with calm := hd.isNone }
theorem inv_startH {N ps : List Str} {qual : Str} {scope : Scope} {f : Addr} {cd : Value} {A : Around} {outer : List Env} {s s1 : Shared} {H : Hp} {E : XK} {us : List Value} {vs : List V}
    (S : FnScope N ps scope) (hA : A.handled = hd) (e0 : Env0 P w K mg base A outer s H) (hl : vs.length = ps.length) (r : Vals vs us)
    (x : InCallC s s.heap.objs.size (bindL (envOfC qual scope s.heap.objs.size f cd).kindOf (ps.zip us) fun _ => none) (cellsFrom (s.heap.objs.size + 1) scope.names []) (bindC (envOfC qual scope s.heap.objs.size f cd).kindOf (ps.zip us) fun _ => none) s1) :
    Inv (cxH hd P w K mg base N qual scope f cd A outer s H E) [] (start N vs) H s1 := by
  have e0' : Env0 P w K mg base { A with handled := none } outer s H := ⟨e0.frames, e0.mod, e0.bs, e0.bsz, e0.funs, e0.frf, e0.hok, e0.bare⟩
  have I := inv_start (CX := CX0) (E := E) S (A := { A with handled := none }) rfl e0' hl r x
  have hh : (cxH hd P w K mg base N qual scope f cd A outer s H E).calm = true → (cxH hd P w K mg base N qual scope f cd A outer s H E).A.handled = none := fun z => by
    cases hd with
    | none => exact hA
    | some v => cases (show false = true from z)
  exact ⟨⟨I.ok.mod, I.ok.kind, I.ok.glob, I.ok.blt, I.ok.above, I.ok.inj, I.ok.has, I.ok.cab, hh, I.ok.frames, I.ok.stk, I.ok.exf, I.ok.bs, I.ok.bsz, I.ok.noex, I.ok.exfs, I.ok.funs, I.ok.frf⟩,
    I.os, I.bare, I.base, I.loc, I.cell, I.free, I.freeC, I.pin, I.hok, I.len⟩
theorem fn_ofH {k : Nat} {f : Addr} {name qual : Str} {params : Arguments} {body : List Stmt} {scope : Scope} {dV kV doc pm cdv ct oc : Value} {an od : Option Addr}
    {osl : Array (Option Value)} {N ps : List Str} {sp : Sp} (lk : K.lookup f = some ⟨oc, od, .func (PySem.W.fnOf name qual params body scope dV kV doc pm an cdv ct), osl⟩) (hcd : PySem.W.codeIn K cdv qual = true) (S : FnScope N ps scope)
    (len : ∀ vs H Q E, sp vs H Q E → vs.length = ps.length)
    (hbody : ∀ (A : Around) (outer : List Env) (s : Shared) (H : Hp) (vs : List V) (Q : VK) (E : XK), RoomH hd k (A.deeper (envOfC qual scope s.heap.objs.size f cdv)) → sp vs H Q E →
      ∃ t, PSs (cxH hd P w K mg base N qual scope f cdv A outer s H E) body t ∧ t { nx := fun _ H' => Q .non H', rt := Q } (start N vs) H) :
    FnH hd P w K mg base (k + 1) f (PySem.W.fnOf name qual params body scope dV kV doc pm an cdv ct) ps sp := by
  refine ⟨len, fun A outer s H args us vs Q E hr e0 hb r hsp => ?_⟩
  have hl := len _ _ _ _ hsp
  have KX : K.In s.heap := e0.mod.kin.keeps fun b o e => (e0.bs b o e).1
  have lim : s.heap.NoLimit := e0.mod.nolimit.keeps fun b o e => (e0.bs b o e).1
  have hkind : ∀ y ∈ ps.zip us, scope.names.lookup y.1 = some .local ∨ (scope.names.lookup y.1 = some .cell ∧ ((cellsFrom (s.heap.objs.size + 1) scope.names []).lookup y.1).isSome = true) := fun ⟨n, v⟩ hy => by
    rcases S.par n (List.of_mem_zip hy).1 with q | q
    · exact .inl q
    · exact .inr ⟨q, PySem.W.cellsFrom_some _ _ _ (.inl q)⟩
  refine codeAny_call_function hr.depth (KX _ _ lk) rfl S.co S.gen rfl (PySem.W.codeRec_of KX hcd) (hb _ _ _ _ ?_)
  refine wpAny_newFunctionEnv_cells S.kind hkind fun env he s1 x => ?_
  subst he
  refine ⟨lim.keeps x.toInCall.keep, codeAny_func ?_⟩
  obtain ⟨t, ht, hq⟩ := hbody A outer s H vs Q E (hr.deeper _) hsp
  have I : Inv (cxH hd P w K mg base N qual scope f cdv A outer s H E) [] (start N vs) H s1 := inv_startH S hr.hd e0 hl r x
  refine wpAny_mono (ht [] s1 (start N vs) H _ I hq) (fun fl s' hs => ?_) fun e s' hs => hs
  have fin : ∀ {σ' : St} {H' : Hp} {v : V} {u : Value}, Inv (cxH hd P w K mg base N qual scope f cdv A outer s H E) [] σ' H' s' → RelV v u → Q v H' → CE outer P w H s Q u s' :=
    fun {σ' H' v u} J rv q => ⟨v, H', J.os, J.bare, J.base, J.hok, rv, q⟩
  cases fl with
  | ret u =>
    obtain ⟨v, σ', H', J, rv, q⟩ := hs
    exact fin J rv q
  | next =>
    obtain ⟨σ', H', J, q⟩ := hs
    exact fin (v := V.non) (u := Value.none) J rfl q
  | brk =>
    obtain ⟨_, _, _, q⟩ := hs
    exact False.elim q
  | cont =>
    obtain ⟨_, _, _, q⟩ := hs
    exact False.elim q
theorem Fun.okH {x qual : Str} {st : Stmt} {f : Addr} {fd : FuncData} {N ps : List Str} {k : Nat} {sp : Sp} (F : Fun K x qual st f fd) (S : FnScope N ps (defScope st)) (len : ∀ vs H Q E, sp vs H Q E → vs.length = ps.length)
    (hbody : ∀ (cdv : Value) (A : Around) (outer : List Env) (s : Shared) (H : Hp) (vs : List V) (Q : VK) (E : XK), RoomH hd k (A.deeper (envOfC qual (defScope st) s.heap.objs.size f cdv)) → sp vs H Q E →
      ∃ t, PSs (cxH hd P w K mg base N qual (defScope st) f cdv A outer s H E) (defBody st) t ∧ t { nx := fun _ H' => Q .non H', rt := Q } (start N vs) H) : FnH hd P w K mg base (k + 1) f fd ps sp := by
  obtain ⟨oc, od, kV, doc, pm, an, cdv, ct, osl, rfl, lk, hcd⟩ := F.ex
  exact fn_ofH lk hcd S len fun A outer s H vs Q E hr hsp => hbody cdv A outer s H vs Q E hr hsp
end
section
variable {X : Cx} {k : Nat} {f : Addr} {fd : FuncData} {ps : List Str} {sp : Sp} {dvs : List V} {ds : List Value} {x : Str} {p pos : Pos} {e : Expr} {es : List Expr} {t : TA} {hd : Option Value}
theorem run_fnH {pins : List (Addr × Obj)} {σ : St} {H : Hp} {s : Shared} {Q : VK} {us : List Value} {vs : List V} (F : FnH hd X.prog X.w X.K X.mg X.base k f fd ps sp) (hr : RoomH hd k X.A) (hb : Binds X.K fd ps ds) (hv : Vals dvs ds)
    (I : Inv X pins σ H s) (r : Vals vs us) (h : sp (vs ++ dvs) H Q E0) : wpAny (model X.prog X.w) X.A (call (.ref f) us) (EP X pins σ Q) X.xe s := by
  have r2 : Vals (vs ++ dvs) (us ++ ds) := r.append hv
  have hl : (us ++ ds).length = ps.length := by rw [← r2.length]; exact F.len _ _ _ _ h
  refine wpAny_call (codeAny_mono (F.run X.A X.stack s H ⟨us, []⟩ (us ++ ds) (vs ++ dvs) Q E0 hr I.env0 (hb s us I.kIn hl) r2 h) fun r s' hq => ?_)
  cases r with
  | error e => exact False.elim hq
  | ok fl =>
    cases fl with
    | ret u => exact I.after hq
    | next => exact False.elim hq
    | brk => exact False.elim hq
    | cont => exact False.elim hq
theorem pe_callH (F : FnH hd X.prog X.w X.K X.mg X.base k f fd ps sp) (hr : RoomH hd k X.A) (hg : Gl X x) (hm : X.mg x = some (.ref f)) (hk : PySem.W.keepIn X.K (.ref f) = true) (hb : Binds X.K fd ps ds) (hv : Vals dvs ds)
    (ha : PA X (e :: es) t) (hdb : (x == ("__debug__" : Str)) = false := by decide) (he : starEach (e :: es) X.env = (false, eval e X.env) :: starEach es X.env := by rfl) (hpl : (backTo pos (starEach es X.env)).any (·.1) = false := by rfl) :
    PE X (.Call (.Name x p) (e :: es) [] pos) (tCall sp dvs E0 t) := by
  intro pins s σ H Q I h
  refine wpAny_Call_Name_kw (ld_glob I hg hm ?_ hdb)
  refine PySem.W.callWith_K (h₀ := X.base) I.ok.mod.kin hk (thn (ha pos pins s σ H _ I h) fun us s1 ⟨vs, H1, I1, r, q⟩ => ⟨I1.kIn, ?_⟩) he hpl
  exact run_fnH F hr hb hv I1 r q
end
end L2
set_option Elab.async false
set_option linter.all false
set_option maxRecDepth 100000
namespace Sw
open PySem L2 XH
/-- a def as its callers see it -/
structure Dx (P : Program) (w : World) (K : PySem.W.Frag) (mg : Str → Option Value) (base : Heap) (CX : CXT) (k : Nat) (x : Str) (ps : List Str) (dvs : List V) (sp : Sp) where
  f : Addr
  fd : FuncData
  ok : FnOk P w K mg base CX k f fd ps sp
  m : mg x = some (.ref f)
  q : PySem.W.keepIn K (.ref f) = true
  b : Binds K fd ps []
  bd : ∃ ds, Binds K fd ps ds ∧ Vals dvs ds
def Dx.calm {P : Program} {w : World} {K : PySem.W.Frag} {mg : Str → Option Value} {base : Heap} {k : Nat} {x : Str} {ps : List Str} {dvs : List V} {sp sp0 : Sp} (D : Dx P w K mg base (CX1 P w) k x ps dvs sp) (h : ∀ vs H Q E, sp0 vs H Q E → sp vs H Q E0) : Dx P w K mg base CX0 k x ps dvs sp0 :=
  ⟨D.f, D.fd, D.ok.noraise h, D.m, D.q, D.b, D.bd⟩
section
variable {X : Cx} {k j : Nat} {x : Str} {ps : List Str} {sp : Sp} {p pos : Pos} {e : Expr} {es : List Expr} {t : TA} {dvs : List V} {E : St → XK}
theorem pcall0 (D : Dx X.prog X.w X.K X.mg X.base CX0 k x ps dvs sp) (hr : Room j X.A) (hk : k ≤ j) (hg : Gl X x) (ha : PA X (e :: es) t) (hdb : (x == ("__debug__" : Str)) = false := by decide)
    (he : starEach (e :: es) X.env = (false, eval e X.env) :: starEach es X.env := by rfl) (hpl : (backTo pos (starEach es X.env)).any (·.1) = false := by rfl) :
    PE X (.Call (.Name x p) (e :: es) [] pos) (tCall sp [] E0 t) :=
  pe_call D.ok (hr.mono hk) hg D.m D.q D.b .nil pass0 ha hdb he hpl
end
end Sw
set_option Elab.async false
set_option linter.all false
set_option maxRecDepth 100000
namespace Sw
open PySem L2 XH
def spFrZ (c : Addr) : Sp := fun vs H Q E => ∃ a b : Int, vs = [.int a, .int b] ∧ Bd 8500 b ∧ (b ≠ 0 → ∀ p q : Int, Fr p q a b → Pair H Q p q) ∧ (b = 0 → E (.ref c) none H)
def spQuotX (K : PySem.W.Frag) (c : Addr) : Sp := fun vs H Q E => ∃ (t t' : Addr) (p q p' q' : Int), vs = [.ref t, .ref t'] ∧ FrIn K 4000 H t p q ∧ FrIn K 4000 H t' p' q' ∧ (p' ≠ 0 → ∀ r s : Int, Fr r s (p * q') (q * p') → Pair H Q r s) ∧ (p' = 0 → E (.ref c) none H)
def spRef2 (K : PySem.W.Frag) : Sp := fun vs H Q _ => ∃ (t t' : Addr) (p q q' : Int), vs = [.ref t, .ref t'] ∧ FrIn K 4000 H t p q ∧ FrIn K 4000 H t' 0 q' ∧ ∀ H', Same H H' → Q (.bl true) H'
end Sw
set_option Elab.async false
set_option linter.all false
set_option maxRecDepth 100000
namespace L2
open PySem PySem.Spec PyProof.Rows XH
theorem call_isiT {X : Cx} {K : PySem.W.Frag} (hK : X.K = K) : CallR X (.builtin "isinstance") (fun xs H Q => ∃ x t T b, xs = [x, .ty T] ∧ TyOf K H x t ∧ PySem.W.kitOne K t (.type T) = some b ∧ Q (.bl b) H) := by
  subst hK
  intro pins s σ H xs us Q I r h
  obtain ⟨x, t, T, b, rfl, ty, e, q⟩ := h
  obtain ⟨u, w', rfl, e1, e2⟩ := vals2 r
  cases e2
  exact isinst_ok I e1 ty e fun tk => ⟨.bl b, H, I.tok tk, rfl, q⟩
end L2
namespace Sw
open PySem L2 XH
/-! ### whatever is handed in: is it a whole number, is it a fraction -/
inductive Wh (K : PySem.W.Frag) (H : Hp) : V → Bool → Prop where
  | mk {x : V} {t : Value} {b1 b2 : Bool} (ty : TyOf K H x t) (h1 : PySem.W.kitOne K t (.type "int") = some b1) (h2 : PySem.W.kitOne K t (.type "bool") = some b2) : Wh K H x (b1 && !b2)
section
variable {K : PySem.W.Frag} {H : Hp}
theorem ty_same {H' : Hp} (g : Same H H') {x : V} {t : Value} (h : TyOf K H x t) : TyOf K H' x t := by
  cases h with
  | non => exact .non
  | bl b => exact .bl b
  | int i => exact .int i
  | str x => exact .str x
  | flt x => exact .flt x
  | lst e => exact .lst (g _ _ e)
  | frz e => exact .frz (g _ _ e)
  | tup e => exact .tup (g _ _ e)
  | dK e => exact .dK (g _ _ e)
  | dT e => exact .dT (g _ _ e)
  | ins e c a n k m => exact .ins (g _ _ e) c a n k m
theorem Wh.same {H' : Hp} (g : Same H H') {x : V} {b : Bool} (h : Wh K H x b) : Wh K H' x b := by
  cases h with
  | mk ty h1 h2 => exact .mk (ty_same g ty) h1 h2
end
def spWh (K : PySem.W.Frag) : Sp := fun vs H Q _ => ∃ (x : V) (b : Bool), vs = [x] ∧ Wh K H x b ∧ Q (.bl b) H
def spFrG (K : PySem.W.Frag) (c : Addr) : Sp := fun vs H Q E => ∃ (x y : V) (bx bY : Bool), vs = [x, y] ∧ Wh K H x bx ∧ Wh K H y bY ∧ ((bx && bY) = true → ∃ a b : Int, x = .int a ∧ y = .int b ∧ Bd 8500 b) ∧
  ((bx && bY) = false ∨ y = .int 0 → E (.ref c) none H) ∧ ∀ a b : Int, x = .int a → y = .int b → b ≠ 0 → ∀ p q : Int, Fr p q a b → Pair H Q p q
/-- why a thing is a fraction or none -/
inductive FrK (K : PySem.W.Frag) (H : Hp) : V → Bool → Prop where
  | no {x : V} {t : Value} (ty : TyOf K H x t) (h : PySem.W.kitOne K t (.type "tuple") = some false) : FrK K H x false
  | len {a : Addr} {ys : List V} (e : H a = some (.tup ys)) (h : ((ys.length : Nat) : Int) ≠ 2) : FrK K H (.ref a) false
  | top {a : Addr} {y z : V} (e : H a = some (.tup [y, z])) (h : Wh K H y false) : FrK K H (.ref a) false
  | bot {a : Addr} {y z : V} (e : H a = some (.tup [y, z])) (h : Wh K H y true) (h' : Wh K H z false) : FrK K H (.ref a) false
  | two {a : Addr} {p q : Int} (e : H a = some (.tup [.int p, .int q])) : FrK K H (.ref a) (decide (1 ≤ q) && decide (gcdI p q = 1))
theorem FrK.same {K : PySem.W.Frag} {H H' : Hp} (g : Same H H') {x : V} {b : Bool} (h : FrK K H x b) : FrK K H' x b := by
  cases h with
  | no ty h => exact .no (ty_same g ty) h
  | len e h => exact .len (g _ _ e) h
  | top e h => exact .top (g _ _ e) (h.same g)
  | bot e h h' => exact .bot (g _ _ e) (h.same g) (h'.same g)
  | two e => exact .two (g _ _ e)
def spIsFr (K : PySem.W.Frag) : Sp := fun vs H Q _ => ∃ (x : V) (b : Bool), vs = [x] ∧ FrK K H x b ∧ Q (.bl b) H
def spToldG (K : PySem.W.Frag) : Sp := fun vs H Q _ => ∃ (x : V) (b : Bool), vs = [x, .bl b] ∧ FrK K H x b ∧ Q (.bl true) H
def spRefG (K : PySem.W.Frag) : Sp := fun vs H Q _ => ∃ (x y : V) (bx bY : Bool), vs = [x, y] ∧ Wh K H x bx ∧ Wh K H y bY ∧ ((bx && bY) = true → ∃ a : Int, x = .int a ∧ y = .int 0) ∧ ∀ H', Same H H' → Q (.bl true) H'
def spNear (K : PySem.W.Frag) : Sp := fun vs H Q _ => ∃ (t : Addr) (p q w : Int), vs = [.ref t, .int w] ∧ FrIn K 8500 H t p q ∧ ∀ (x : V) (H' : Hp), Same H H' → FrK K H' x false → Q x H'
end Sw
set_option Elab.async false
set_option linter.all false
set_option maxRecDepth 100000
namespace L2
open PySem PySem.Spec PyProof.Rows XH
/-- a truth, a number, a text -/
def Smp : V → Prop
  | .bl _ => True
  | .int _ => True
  | .str _ => True
  | _ => False
theorem eqat_smp {A : Around} {s : Shared} {v : V} {u w : Value} (h : Smp v) (r1 : RelV v u) (r2 : RelV v w) : SeqAt.EqAt A s u w true := by
  cases v with
  | bl b =>
    cases r1
    cases r2
    have z := SeqAt.EqAt.bool_bool (A := A) (s := s) b b
    rw [beq_self_eq_true] at z
    exact z
  | int i =>
    obtain ⟨t, rfl⟩ := r1
    obtain ⟨t', rfl⟩ := r2
    have z := SeqAt.EqAt.int_int (A := A) (s := s) i t i t'
    rw [beq_self_eq_true] at z
    exact z
  | str i =>
    obtain ⟨t, rfl⟩ := r1
    obtain ⟨t', rfl⟩ := r2
    have z := SeqAt.EqAt.str_str (A := A) (s := s) i t i t'
    rw [beq_self_eq_true] at z
    exact z
  | _ => exact absurd h (fun z => z)
theorem vals_eqat {A : Around} {s : Shared} : ∀ {zs : List V} {us ws : List Value}, (∀ z ∈ zs, Smp z) → Vals zs us → Vals zs ws → ∀ j (h1 : j < us.length) (h2 : j < ws.length), SeqAt.EqAt A s us[j] ws[j] true
  | _, _, _, _, .nil, .nil, j, h1, _ => absurd h1 (by simp)
  | _, _, _, hs, .cons r1 _, .cons r2 _, 0, _, _ => eqat_smp (hs _ (List.mem_cons_self)) r1 r2
  | _, _, _, hs, .cons _ t1, .cons _ t2, j + 1, h1, h2 => vals_eqat (fun z hz => hs z (List.mem_cons_of_mem _ hz)) t1 t2 j (by simpa using h1) (by simpa using h2)
theorem op_eqS {X : Cx} (hu : X.A.units < cLine) : OpR X (compareOp .Eq) (fun x y H Q => ∃ a b zs, x = .ref a ∧ y = .ref b ∧ SqL X.K H a zs ∧ SqL X.K H b zs ∧ (∀ z ∈ zs, Smp z) ∧ Q (.bl true) H) := by
  intro pins s σ H x y v u Q I rx ry h
  obtain ⟨a, b, zs, rfl, rfl, h1, h2, hs, hq⟩ := h
  cases rx
  cases ry
  obtain ⟨i1, r1, p1, _⟩ := I.list h1
  obtain ⟨i2, r2, p2, _⟩ := I.list h2
  refine SeqAt.eq_listAt (e := fun _ => true) p1.isList p2.isList (by simp [← r1.length, ← r2.length]) hu (fun j g1 g2 => ?_) ?_
  · exact vals_eqat (A := X.A.in1) (s := s) hs r1 r2 j (by simpa using g1) (by simpa using g2)
  · exact ⟨.bl true, H, I, by show Value.bool _ = Value.bool _; simp, hq⟩
theorem op_neS {X : Cx} (hu : X.A.units < cLine) : OpR X (compareOp .NotEq) (fun x y H Q => ∃ a b zs, x = .ref a ∧ y = .ref b ∧ SqL X.K H a zs ∧ SqL X.K H b zs ∧ (∀ z ∈ zs, Smp z) ∧ Q (.bl false) H) := by
  intro pins s σ H x y v u Q I rx ry h
  obtain ⟨a, b, zs, rfl, rfl, h1, h2, hs, hq⟩ := h
  cases rx
  cases ry
  obtain ⟨i1, r1, p1, _⟩ := I.list h1
  obtain ⟨i2, r2, p2, _⟩ := I.list h2
  refine SeqAt.RcNeAt.lists (e := fun _ => true) p1.isList p2.isList (by simp [← r1.length, ← r2.length]) hu (fun j g1 g2 => ?_) _ _ _ _ ⟨.bl false, H, I, by show Value.bool _ = Value.bool _; simp, hq⟩
  exact vals_eqat (A := X.A.in1) (s := s) hs r1 r2 j (by simpa using g1) (by simpa using g2)
theorem vals_true : ∀ {zs : List V} {us : List Value}, (∀ z ∈ zs, z = .bl true) → Vals zs us → ∀ (i : Nat) (v : Value), us[i]? = some v → v = .bool true
  | _, _, _, .nil, i, v, h => by simp at h
  | _, _, hs, .cons r t, 0, v, h => by
    have e := hs _ (List.mem_cons_self)
    subst e
    cases r
    simpa using h.symm
  | _, _, hs, .cons _ t, i + 1, v, h => vals_true (fun z hz => hs z (List.mem_cons_of_mem _ hz)) t i v (by simpa using h)
theorem call_allB {X : Cx} (hc : X.calm = true) : CallR X (.builtin "all") (fun xs H Q => ∃ a zs, xs = [.ref a] ∧ SqL X.K H a zs ∧ (∀ z ∈ zs, z = .bl true) ∧ Q (.bl true) H) := by
  intro pins s σ H xs us Q I r h
  obtain ⟨a, zs, rfl, h1, hs, hq⟩ := h
  cases r with
  | cons r rr =>
    cases rr
    cases r
    obtain ⟨its, rv, p, hz⟩ := I.list h1
    have hh := I.ok.hd hc
    have hlt : a < s.heap.objs.size := by
      obtain ⟨o, n, e, _⟩ := id p
      exact Heap.lt_size e
    refine call_all_walk (wpAny_pyIter_list p.isList ⟨s.heap.objs.size, _, _, _, _, _, fun _ => true, rfl, Walks.list (A := X.A.in1) hh _ a (Nat.ne_of_lt hlt) its.toArray, ⟨⟨_, Heap.get?_push_size _ rfl, rfl, rfl⟩, p.isList.at fun o e => Heap.get?_push_of_some _ e⟩, ?_, fun h' tk hk => ?_⟩)
    · intro i v s' Q' E' hv hq'
      have e := vals_true hs rv i v (by simpa using hv)
      subst e
      exact wpAny_truthy_bool hq'
    · exact ⟨.bl true, H, I.kept (h' := h') (t' := tk) fun b o e => hk b o (by simpa using Nat.ne_of_lt (Heap.lt_size e)) (Heap.get?_push_of_some _ e), by show Value.bool _ = Value.bool _; simp, hq⟩
end L2
set_option Elab.async false
set_option linter.all false
set_option maxRecDepth 100000
namespace Sw
open PySem L2 XH PyProof.Rows
/-! ### defs that are called from a handler too, and refusals' __init__ -/
structure DxH (hd : Option Value) (P : Program) (w : World) (K : PySem.W.Frag) (mg : Str → Option Value) (base : Heap) (k : Nat) (x : Str) (ps : List Str) (sp : Sp) where
  f : Addr
  fd : FuncData
  ok : FnH hd P w K mg base k f fd ps sp
  m : mg x = some (.ref f)
  q : PySem.W.keepIn K (.ref f) = true
  b : Binds K fd ps []
def DxH.calm {P : Program} {w : World} {K : PySem.W.Frag} {mg : Str → Option Value} {base : Heap} {k : Nat} {x : Str} {ps : List Str} {sp : Sp} (D : DxH none P w K mg base k x ps sp) : Dx P w K mg base CX0 k x ps [] sp :=
  ⟨D.f, D.fd, D.ok.calm, D.m, D.q, D.b, ⟨[], D.b, .nil⟩⟩
structure DxI (P : Program) (w : World) (K : PySem.W.Frag) (mg : Str → Option Value) (base : Heap) (k : Nat) (C : Addr) (ps : List Str) (sp : Sp) where
  f : Addr
  fd : FuncData
  ok : FnOk P w K mg base CX0 k f fd ps sp
  ci : XCi K C f
  b : Binds K fd ps []
section
variable {X : Cx} {k j : Nat} {x : Str} {ps : List Str} {sp : Sp} {p np pos cpos : Pos} {e : Expr} {es : List Expr} {t : TA} {hd : Option Value} {C : Addr} {E : L2.St → XK}
theorem pcallH (D : DxH hd X.prog X.w X.K X.mg X.base k x ps sp) (hr : RoomH hd j X.A) (hk : k ≤ j) (hg : Gl X x) (ha : PA X (e :: es) t) (hdb : (x == ("__debug__" : Str)) = false := by decide)
    (he : starEach (e :: es) X.env = (false, eval e X.env) :: starEach es X.env := by rfl) (hpl : (backTo pos (starEach es X.env)).any (·.1) = false := by rfl) :
    PE X (.Call (.Name x p) (e :: es) [] pos) (tCall sp [] E0 t) :=
  pe_callH D.ok (hr.mono hk) hg D.m D.q D.b .nil ha hdb he hpl
theorem pmakeI (D : DxI X.prog X.w X.K X.mg X.base k C ps sp) (hr : Room j X.A) (hk : k + 1 ≤ j) (hg : Gl X x) (hm : X.mg x = some (.ref C)) (ha : PA X (e :: es) t) (hdb : (x == ("__debug__" : Str)) = false := by decide)
    (he : starEach (e :: es) X.env = (false, eval e X.env) :: starEach es X.env := by rfl) (hpl : (backTo pos (starEach es X.env)).any (·.1) = false := by rfl) : PE X (.Call (.Name x p) (e :: es) [] pos) (tMakeI C sp t) :=
  pe_makeI D.ci D.ok (hr.mono hk) hg hm D.b ha hdb he hpl
theorem praiseI (D : DxI X.prog X.w X.K X.mg X.base k C ps sp) (hr : Room j X.A) (hk : k + 1 ≤ j) (hg : Gl X x) (hm : X.mg x = some (.ref C)) (hc : X.calm = true) (hp : PassX X E) (ha : PA X (e :: es) t) (hdb : (x == ("__debug__" : Str)) = false := by decide)
    (he : starEach (e :: es) X.env = (false, eval e X.env) :: starEach es X.env := by rfl) (hpl : (backTo cpos (starEach es X.env)).any (·.1) = false := by rfl) :
    PS X (.Raise (some (.Call (.Name x np) (e :: es) [] cpos)) none pos) (tRaiseI C sp E t) :=
  ps_raiseI D.ci D.ok (hr.mono hk) hg hm D.b hc hp ha hdb he hpl
end
theorem FunD.okH {hd : Option Value} {P : Program} {w : World} {K : PySem.W.Frag} {mg : Str → Option Value} {base : Heap} {x qual : Str} {st : Stmt} {dV : Value} {f : Addr} {fd : FuncData} {N ps : List Str} {k : Nat} {sp : Sp} (F : FunD K x qual st dV f fd) (S : FnScope N ps (defScope st)) (len : ∀ vs H Q E, sp vs H Q E → vs.length = ps.length)
    (hbody : ∀ (cdv : Value) (A : Around) (outer : List Env) (s : Shared) (H : Hp) (vs : List V) (Q : VK) (E : XK), RoomH hd k (A.deeper (envOfC qual (defScope st) s.heap.objs.size f cdv)) → sp vs H Q E →
      ∃ t, PSs (cxH hd P w K mg base N qual (defScope st) f cdv A outer s H E) (defBody st) t ∧ t { nx := fun _ H' => Q .non H', rt := Q } (start N vs) H) : FnH hd P w K mg base (k + 1) f fd ps sp := by
  obtain ⟨oc, od, kV, doc, pm, an, cdv, ct, osl, rfl, lk, hcd⟩ := F.ex
  exact fn_ofH lk hcd S len fun A outer s H vs Q E hr hsp => hbody cdv A outer s H vs Q E hr hsp
theorem hdSame {hd : Option Value} {H H' : Hp} (h : HdOk hd H) (g : Same H H') : HdOk hd H' := fun v e => by
  obtain ⟨a, n, cls, dx, e1, e2⟩ := h v e
  exact ⟨a, n, cls, dx, e1, g _ _ e2⟩
theorem sUpd {H H' : Hp} {p : Addr} (g : Same H H') (h : H p = none) (o : HO) : Same H (upd H' p o) := fun b u q => by
  rw [upd_ne (ne_of_none q h)]
  exact g b u q
theorem comp_by {hd : Option Value} {n : Nat} {js : List Nat} {te : TE} {σ : L2.St} {H1 : Hp} {Q : VK} (P : Nat → V → Prop) (hok : HdOk hd H1) (hn : n ≤ sizeLine)
    (step : ∀ i, i < n → ∀ H3, Same H1 H3 → ∀ Q' : VK, (∀ y H4, P i y → Same H3 H4 → Q' y H4) → te (some (.int (0 + (i : Int))) :: freesOf js σ) H3 Q')
    (fin : ∀ p ys H', H1 p = none → ys.length = n → (∀ i y, ys[i]? = some y → P i y) → Same H1 H' → H' p = some (.lst ys) → Q (.ref p) H') :
    compR js te σ Q (ItrH hd 0 n) H1 := by
  intro p hp
  refine ⟨fun i m ys H2 => i ≤ n ∧ m = n - i ∧ ys.length = i ∧ (∀ j y, ys[j]? = some y → P j y) ∧ Same H1 H2 ∧ H2 p = some (.lst ys), ⟨n, Nat.zero_le _, rfl, rfl, fun j y e => by simp at e, same_new hp _, upd_same⟩, ?_⟩
  rintro i m ys H2 ⟨hi, rfl, hl, hP, g, e⟩
  refine ⟨e, ?_⟩
  by_cases hin : i < n
  · refine .inr ⟨hin, by omega, fun x H3 hy => ?_⟩
    obtain ⟨rfl, rfl⟩ := hy
    refine step i hin H3 g _ fun y H4 py g4 => ⟨g4 _ _ e, n - (i + 1), by omega, hin, rfl, by simp [hl], fun j z ez => ?_, sUpd (g.trans g4) hp _, upd_same⟩
    by_cases hj : j < ys.length
    · rw [List.getElem?_append_left hj] at ez
      exact hP j z ez
    · rw [List.getElem?_append_right (by omega)] at ez
      have h0 : j - ys.length = 0 := by
        rcases Nat.eq_zero_or_pos (j - ys.length) with q | q
        · exact q
        · rw [List.getElem?_eq_none (by simp; omega)] at ez; cases ez
      rw [h0] at ez
      have hji : j = i := by omega
      subst hji
      cases ez
      exact py
  · have e2 : i = n := by omega
    subst e2
    exact .inl ⟨⟨Nat.le_refl _, hdSame hok g⟩, fin p ys H2 hp hl hP g e⟩
def CompAt (X : Cx) (scope : Scope) (ys : List Str) (js : List Nat) : Prop := ∀ (i : Nat) (y : Str), ys[i]? = some y → ∃ j : Nat, js[i]? = some j ∧ X.N[j]? = some y ∧ (X.env.scope.names.lookup y = some .cell ∨ X.env.scope.names.lookup y = some .free) ∧ ((relabel scope X.env).names.lookup y = some .cell ∨ (relabel scope X.env).names.lookup y = some .free)
theorem atn {X : Cx} {scope : Scope} : CompAt X scope [] [] := fun i y h => by simp at h
theorem atc {X : Cx} {scope : Scope} {ys : List Str} {js : List Nat} {y : Str} {j : Nat} (t : CompAt X scope ys js) (h1 : X.N[j]? = some y := by rfl) (h2 : X.env.scope.names.lookup y = some .cell ∨ X.env.scope.names.lookup y = some .free := by first | exact Or.inl rfl | exact Or.inr rfl)
    (h3 : (relabel scope X.env).names.lookup y = some .cell ∨ (relabel scope X.env).names.lookup y = some .free := by first | exact Or.inl rfl | exact Or.inr rfl) : CompAt X scope (y :: ys) (j :: js) := fun i z h => by
  cases i with
  | zero =>
    cases h
    exact ⟨j, rfl, h1, h2, h3⟩
  | succ i => exact t i z h
/-- the names that a comprehension takes from around -/
inductive Subs (X : Cx) : List (Str × Addr) → Prop where
  | nil : Subs X []
  | cons {y : Str} {c : Addr} {cl : List (Str × Addr)} (h : X.env.cells.lookup y = some c) (t : Subs X cl) : Subs X ((y, c) :: cl)
theorem Subs.all {X : Cx} {cl : List (Str × Addr)} (h : Subs X cl) : ∀ p ∈ cl, X.env.cells.lookup p.1 = some p.2 := by
  induction h with
  | nil => intro p hp; simp at hp
  | cons h _ ih =>
    intro p hp
    rcases List.mem_cons.mp hp with e | e
    · rw [e]; exact h
    · exact ih p e
theorem cok {X : Cx} {scope : Scope} {cl : List (Str × Addr)} {own : Str} {ys : List Str} {js : List Nat} (a : CompAt X scope ys js) (s : Subs X cl) (nd : (own :: ys).Nodup) (len : js.length = ys.length) (clos : closureFor scope X.env = pure cl) (nocell : (scope.names.all fun p => !(p.2 == .cell)) = true) (kind : scope.kind = .function)
    (loc : (scope.names.all fun p => !(p.2 == .local) || scope.names.lookup p.1 == some .local) = true) (ownL : scope.names.lookup own = some .local) (has : ((relabel scope X.env).names.all fun p => !(p.2 == .cell || p.2 == .free) || (cl.lookup p.1).isSome) = true) (noown : cl.lookup own = none) : CompOk X scope cl own ys js :=
  ⟨clos, nocell, kind, loc, ownL, s.all, has, noown, nd, a, len⟩
theorem ix_listK {X : Cx} {K : PySem.W.Frag} (hK : X.K = K) : IxR X (rIxL K) := by
  subst hK
  exact ix_list
/-! ### the sixteen refusals -/
def IsX (H : Hp) (a C : Addr) (dx : Option Addr) : Prop := (∃ n, H a = some (excB n a (.ref C) dx)) ∧ XDict H dx
theorem IsX.same {H H' : Hp} {a C : Addr} {dx : Option Addr} (h : IsX H a C dx) (g : Same H H') : IsX H' a C dx := by
  obtain ⟨⟨n, e⟩, d⟩ := h
  refine ⟨⟨n, g _ _ e⟩, ?_⟩
  cases dx with
  | none => trivial
  | some d' =>
    obtain ⟨fs, q⟩ := d
    exact ⟨fs, g _ _ q⟩
def kitAll (K : PySem.W.Frag) (cs : List Addr) (S : Addr) : Bool :=
  (List.range cs.length).all fun i => (List.range cs.length).all (fun j => PySem.W.kitOne K (.ref (cs.getD i 0)) (.ref (cs.getD j 0)) == some (i == j)) && PySem.W.kitOne K (.ref (cs.getD i 0)) (.ref S) == some true && PySem.W.kitOne K (.ref (cs.getD i 0)) (.type "ValueError") == some true
section
variable {K : PySem.W.Frag} {cs : List Addr} {S C D : Addr} {i j : Nat}
theorem getD_of (h : cs[i]? = some C) : cs.getD i 0 = C ∧ i < cs.length := by
  obtain ⟨hi, e⟩ := List.getElem?_eq_some_iff.mp h
  exact ⟨by rw [List.getD_eq_getElem?_getD, h]; rfl, hi⟩
theorem kit_of (h : kitAll K cs S = true) (hi : cs[i]? = some C) (hj : cs[j]? = some D) : PySem.W.kitOne K (.ref C) (.ref D) = some (i == j) := by
  obtain ⟨e1, l1⟩ := getD_of hi
  obtain ⟨e2, l2⟩ := getD_of hj
  have q := List.all_eq_true.mp h i (List.mem_range.mpr l1)
  simp only [Bool.and_eq_true] at q
  have q2 := List.all_eq_true.mp q.1.1 j (List.mem_range.mpr l2)
  rw [e1, e2] at q2
  exact beq_iff_eq.mp q2
theorem kit_S (h : kitAll K cs S = true) (hi : cs[i]? = some C) : PySem.W.kitOne K (.ref C) (.ref S) = some true := by
  obtain ⟨e1, l1⟩ := getD_of hi
  have q := List.all_eq_true.mp h i (List.mem_range.mpr l1)
  simp only [Bool.and_eq_true] at q
  have q2 := q.1.2
  rw [e1] at q2
  exact beq_iff_eq.mp q2
theorem kit_V (h : kitAll K cs S = true) (hi : cs[i]? = some C) : PySem.W.kitOne K (.ref C) (.type "ValueError") = some true := by
  obtain ⟨e1, l1⟩ := getD_of hi
  have q := List.all_eq_true.mp h i (List.mem_range.mpr l1)
  simp only [Bool.and_eq_true] at q
  have q2 := q.2
  rw [e1] at q2
  exact beq_iff_eq.mp q2
end
def spInit (C : Addr) (f : Str) : Sp := fun vs H Q _ => ∃ a y n, vs = [.ref a, y] ∧ H a = some (excB n a (.ref C) none) ∧ ∀ d, H d = none → Q .non (L2.upd (L2.upd H d (.xd [(f, y)])) a (excB n a (.ref C) (some d)))
theorem init_of {H : Hp} {Q : VK} {a C : Addr} {f : Str} {y : V} (na : H a = none) (h : ∀ d H2, Same H H2 → H2 a = some (excB true a (.ref C) (some d)) → H2 d = some (.xd [(f, y)]) → d ≠ a → Same H (del H2 a) → del H2 a d = some (.xd [(f, y)]) → Q .non H2) {E : XK} :
    spInit C f [.ref a, y] (L2.upd H a (excB true a (.ref C) none)) Q E := by
  refine ⟨a, y, true, rfl, upd_same, fun d hd => ?_⟩
  have ne : d ≠ a := by
    intro z
    rw [z, upd_same] at hd
    cases hd
  have nd : H d = none := by rwa [upd_ne ne] at hd
  have g : Same H (L2.upd (L2.upd (L2.upd H a (excB true a (.ref C) none)) d (.xd [(f, y)])) a (excB true a (.ref C) (some d))) := sUpd (sUpd (sUpd (fun _ _ q => q) na _) nd _) na _
  have e2 : L2.upd (L2.upd (L2.upd H a (excB true a (.ref C) none)) d (.xd [(f, y)])) a (excB true a (.ref C) (some d)) d = some (.xd [(f, y)]) := by rw [upd_ne ne, upd_same]
  exact h d _ g upd_same e2 ne (fun b o q => by rw [del_ne (ne_of_none q na)]; exact g b o q) (by rw [del_ne ne]; exact e2)
def spText : Sp := fun vs H Q _ => ∃ c k : Int, vs = [.int c, .int k] ∧ 0 ≤ k ∧ k < 64 ∧ ∀ t, Q (.str t) H
def spKinds (K : PySem.W.Frag) (cs : List Addr) : Sp := fun vs H Q _ => ∃ a C dx i, vs = [.ref a] ∧ IsX H a C dx ∧ cs[i]? = some C ∧ ∀ l H', Same H H' → H' l = some (.lst ((List.range 16).map fun j => V.bl (i == j))) → Q (.ref l) H'
def spAlone (K : PySem.W.Frag) (cs : List Addr) (hd : Option Value) : Sp := fun vs H Q _ => ∃ (a C : Addr) (dx : Option Addr) (i : Nat), vs = [.ref a, .int i] ∧ IsX H a C dx ∧ cs[i]? = some C ∧ HdOk hd H ∧ ∀ H', Same H H' → Q (.bl true) H'
def spBare (cs : List Addr) : Sp := fun vs H Q _ => ∃ t, vs = [.str t] ∧ ∀ (l : Addr) (as : List Addr) (H' : Hp), Same H H' → as.length = 8 → (∀ (i : Nat) (a : Addr), as[i]? = some a → ∃ C, cs[i]? = some C ∧ IsX H' a C none) → H' l = some (.lst (as.map V.ref)) → Q (.ref l) H'
def spRaised : Sp := fun vs H Q _ => ∃ (k n : Int) (t : Str), vs = [.int k, .str t, .int n] ∧ 0 ≤ k ∧ k < 4 ∧ ∀ H', Same H H' → Q (.bl true) H'
end Sw
set_option Elab.async false
set_option linter.all false
set_option maxRecDepth 100000
namespace Lk01
open PySem L2 Sw XH PyProof.Rows
def top (i : Nat) : Stmt := PySem.Challenge.pw_stovework_k01_refusals.main.body.getD i (.Pass ⟨0, 0, 0, 0⟩)
abbrev s_law_cell_at : Stmt := top 19
abbrev s_law_name : Stmt := top 20
abbrev s_law_kinds : Stmt := top 21
abbrev s_law_bare : Stmt := top 22
abbrev s_law_alone : Stmt := top 23
abbrev s_law_raised : Stmt := top 24
abbrev slaw : Stmt := top 25
def clsAt (s : Stmt) (i : Nat) : Stmt := match s with | .ClassDef _ _ _ body _ _ _ _ _ _ _ => body.getD i (.Pass ⟨0, 0, 0, 0⟩) | _ => s
abbrev s_InRing : Stmt := clsAt (top 10) 0
abbrev s_NoStandIn : Stmt := clsAt (top 11) 0
abbrev s_NoPack : Stmt := clsAt (top 12) 0
abbrev s_NoRow : Stmt := clsAt (top 13) 0
abbrev s_NoStep : Stmt := clsAt (top 14) 0
abbrev s_Twice : Stmt := clsAt (top 15) 0
abbrev s_TooFew : Stmt := clsAt (top 16) 0
abbrev s_NoDish : Stmt := clsAt (top 17) 0
structure Bn (K : PySem.W.Frag) (mg : Str → Option Value) (c_EmptyHeap c_InRing c_NoAmount c_NoDish c_NoName c_NoNet c_NoNumber c_NoPack c_NoPlan c_NoRow c_NoStand c_NoStandIn c_NoStep c_StoveError c_TooFew c_TooMany c_Twice : Addr) : Prop where
  b_len : mg "len" = none
  b_isinstance : mg "isinstance" = none
  b_bool : mg "bool" = none
  b_list : mg "list" = none
  b_all : mg "all" = none
  b_range : mg "range" = none
  b_ValueError : mg "ValueError" = none
  m_EmptyHeap : mg "EmptyHeap" = some (.ref c_EmptyHeap)
  m_InRing : mg "InRing" = some (.ref c_InRing)
  m_NoAmount : mg "NoAmount" = some (.ref c_NoAmount)
  m_NoDish : mg "NoDish" = some (.ref c_NoDish)
  m_NoName : mg "NoName" = some (.ref c_NoName)
  m_NoNet : mg "NoNet" = some (.ref c_NoNet)
  m_NoNumber : mg "NoNumber" = some (.ref c_NoNumber)
  m_NoPack : mg "NoPack" = some (.ref c_NoPack)
  m_NoPlan : mg "NoPlan" = some (.ref c_NoPlan)
  m_NoRow : mg "NoRow" = some (.ref c_NoRow)
  m_NoStand : mg "NoStand" = some (.ref c_NoStand)
  m_NoStandIn : mg "NoStandIn" = some (.ref c_NoStandIn)
  m_NoStep : mg "NoStep" = some (.ref c_NoStep)
  m_StoveError : mg "StoveError" = some (.ref c_StoveError)
  m_TooFew : mg "TooFew" = some (.ref c_TooFew)
  m_TooMany : mg "TooMany" = some (.ref c_TooMany)
  m_Twice : mg "Twice" = some (.ref c_Twice)
  t_StoveError : XT K c_StoveError
  s_NoPack_StoveError : PySem.W.subIn K (.ref c_NoPack) (.ref c_StoveError) = some true
  s_NoRow_StoveError : PySem.W.subIn K (.ref c_NoRow) (.ref c_StoveError) = some true
  s_TooFew_StoveError : PySem.W.subIn K (.ref c_TooFew) (.ref c_StoveError) = some true
  s_NoDish_StoveError : PySem.W.subIn K (.ref c_NoDish) (.ref c_StoveError) = some true
  x_NoNumber : PySem.W.excIn K c_NoNumber bmV "ValueError.__new__" = true
  kp_NoNumber : PySem.W.keepIn K (.ref c_NoNumber) = true
  x_NoAmount : PySem.W.excIn K c_NoAmount bmV "ValueError.__new__" = true
  kp_NoAmount : PySem.W.keepIn K (.ref c_NoAmount) = true
  x_NoName : PySem.W.excIn K c_NoName bmV "ValueError.__new__" = true
  kp_NoName : PySem.W.keepIn K (.ref c_NoName) = true
  x_NoStand : PySem.W.excIn K c_NoStand bmV "ValueError.__new__" = true
  kp_NoStand : PySem.W.keepIn K (.ref c_NoStand) = true
  x_TooMany : PySem.W.excIn K c_TooMany bmV "ValueError.__new__" = true
  kp_TooMany : PySem.W.keepIn K (.ref c_TooMany) = true
  x_NoNet : PySem.W.excIn K c_NoNet bmV "ValueError.__new__" = true
  kp_NoNet : PySem.W.keepIn K (.ref c_NoNet) = true
  x_NoPlan : PySem.W.excIn K c_NoPlan bmV "ValueError.__new__" = true
  kp_NoPlan : PySem.W.keepIn K (.ref c_NoPlan) = true
  x_EmptyHeap : PySem.W.excIn K c_EmptyHeap bmV "ValueError.__new__" = true
  kp_EmptyHeap : PySem.W.keepIn K (.ref c_EmptyHeap) = true
  i_NoNumber : XI K c_NoNumber
  i_NoAmount : XI K c_NoAmount
  i_NoName : XI K c_NoName
  i_NoStand : XI K c_NoStand
  i_TooMany : XI K c_TooMany
  i_NoNet : XI K c_NoNet
  i_NoPlan : XI K c_NoPlan
  i_EmptyHeap : XI K c_EmptyHeap
  i_InRing : XI K c_InRing
  i_NoStandIn : XI K c_NoStandIn
  i_NoPack : XI K c_NoPack
  i_NoRow : XI K c_NoRow
  i_NoStep : XI K c_NoStep
  i_Twice : XI K c_Twice
  i_TooFew : XI K c_TooFew
  i_NoDish : XI K c_NoDish
  a_InRing : XA K c_InRing c_StoveError
  n_InRing : PySem.W.findIn K (.ref c_InRing) "ring" = some none
  a_NoStandIn : XA K c_NoStandIn c_StoveError
  n_NoStandIn : PySem.W.findIn K (.ref c_NoStandIn) "good" = some none
  a_NoPack : XA K c_NoPack c_StoveError
  n_NoPack : PySem.W.findIn K (.ref c_NoPack) "good" = some none
  a_NoRow : XA K c_NoRow c_StoveError
  n_NoRow : PySem.W.findIn K (.ref c_NoRow) "at" = some none
  a_NoStep : XA K c_NoStep c_StoveError
  n_NoStep : PySem.W.findIn K (.ref c_NoStep) "at" = some none
  a_Twice : XA K c_Twice c_StoveError
  n_Twice : PySem.W.findIn K (.ref c_Twice) "at" = some none
  a_TooFew : XA K c_TooFew c_StoveError
  n_TooFew : PySem.W.findIn K (.ref c_TooFew) "tool" = some none
  a_NoDish : XA K c_NoDish c_StoveError
  n_NoDish : PySem.W.findIn K (.ref c_NoDish) "dish" = some none
  kits : kitAll K [c_NoNumber, c_NoAmount, c_NoName, c_NoStand, c_TooMany, c_NoNet, c_NoPlan, c_EmptyHeap, c_InRing, c_NoStandIn, c_NoPack, c_NoRow, c_NoStep, c_Twice, c_TooFew, c_NoDish] c_StoveError = true
theorem xi_all {K : PySem.W.Frag} {mg : Str → Option Value} {c_EmptyHeap c_InRing c_NoAmount c_NoDish c_NoName c_NoNet c_NoNumber c_NoPack c_NoPlan c_NoRow c_NoStand c_NoStandIn c_NoStep c_StoveError c_TooFew c_TooMany c_Twice C : Addr} {i : Nat} (B : Bn K mg c_EmptyHeap c_InRing c_NoAmount c_NoDish c_NoName c_NoNet c_NoNumber c_NoPack c_NoPlan c_NoRow c_NoStand c_NoStandIn c_NoStep c_StoveError c_TooFew c_TooMany c_Twice) (h : ([c_NoNumber, c_NoAmount, c_NoName, c_NoStand, c_TooMany, c_NoNet, c_NoPlan, c_EmptyHeap, c_InRing, c_NoStandIn, c_NoPack, c_NoRow, c_NoStep, c_Twice, c_TooFew, c_NoDish] : List Addr)[i]? = some C) : XI K C := by
  match i, h with
  | 0, h => cases h; exact B.i_NoNumber
  | 1, h => cases h; exact B.i_NoAmount
  | 2, h => cases h; exact B.i_NoName
  | 3, h => cases h; exact B.i_NoStand
  | 4, h => cases h; exact B.i_TooMany
  | 5, h => cases h; exact B.i_NoNet
  | 6, h => cases h; exact B.i_NoPlan
  | 7, h => cases h; exact B.i_EmptyHeap
  | 8, h => cases h; exact B.i_InRing
  | 9, h => cases h; exact B.i_NoStandIn
  | 10, h => cases h; exact B.i_NoPack
  | 11, h => cases h; exact B.i_NoRow
  | 12, h => cases h; exact B.i_NoStep
  | 13, h => cases h; exact B.i_Twice
  | 14, h => cases h; exact B.i_TooFew
  | 15, h => cases h; exact B.i_NoDish
  | n + 16, h => simp at h
theorem list_of {f : Nat → V} {n : Nat} {ys : List V} (hl : ys.length = n) (h : ∀ i y, ys[i]? = some y → y = f i) : ys = (List.range n).map f := by
  refine List.ext_getElem (by simp [hl]) fun i h1 h2 => ?_
  rw [List.getElem_map, List.getElem_range]
  exact h i _ (List.getElem?_eq_getElem h1)
theorem d2' {p : Prop} [Decidable p] (h : p) {Q : V → Prop} (q : Q (.bl true)) : Q (.bl (decide p)) := by rw [decide_eq_true h]; exact q
theorem bdN {x : Int} (m n : Nat) (h0 : 0 ≤ x) (h1 : x < (m : Int)) (h : m ≤ 2 ^ n := by decide) : Bd n x := by
  show x.natAbs < 2 ^ n
  have : x.natAbs < m := by omega
  omega
theorem atI_ex {α : Type} {xs : List α} {i : Int} (h0 : 0 ≤ i) (h : i < (xs.length : Int)) : ∃ v, atI xs i = some v := by
  have hk : i.toNat < xs.length := by omega
  have ek : i = ((i.toNat : Nat) : Int) := by omega
  have q : atI xs ((i.toNat : Nat) : Int) = some xs[i.toNat] := atI_nat (List.getElem?_eq_getElem hk)
  rw [← ek] at q
  exact ⟨_, q⟩
theorem atI_0 {α : Type} {xs : List α} {i : Nat} {v : α} (h : xs[i]? = some v) : atI xs (0 + (i : Int)) = some v := by
  rw [Int.zero_add]
  exact atI_nat h

section
variable {P : Program} {w : World} {K : PySem.W.Frag} {mg : Str → Option Value} {base : Heap} {f : Addr} {fd : FuncData} {c_EmptyHeap c_InRing c_NoAmount c_NoDish c_NoName c_NoNet c_NoNumber c_NoPack c_NoPlan c_NoRow c_NoStand c_NoStandIn c_NoStep c_StoveError c_TooFew c_TooMany c_Twice : Addr}
theorem sc_InRing : FnScope ["self", "ring"] ["self", "ring"] (defScope s_InRing) := ⟨rfl, rfl, rfl, by decide +kernel, rfl, by decide +kernel, by decide +kernel⟩
theorem ok_InRing {dV : Value} (F : FunD K "__init__" "InRing.__init__" s_InRing dV f fd) (B : Bn K mg c_EmptyHeap c_InRing c_NoAmount c_NoDish c_NoName c_NoNet c_NoNumber c_NoPack c_NoPlan c_NoRow c_NoStand c_NoStandIn c_NoStep c_StoveError c_TooFew c_TooMany c_Twice) : FnOk P w K mg base CX0 1 f fd ["self", "ring"] (spInit c_InRing "ring") := by
  have sc := sc_InRing
  refine F.ok sc (fun vs H Q E h => ?_) (fun cdv A outer s H vs Q E hr h => ?_)
  · obtain ⟨a, y, n, rfl, _⟩ := h
    rfl
  obtain ⟨a, y, n, rfl, e, q⟩ := h
  exact ⟨_, (pss_one (ps_fldX (K := K) rfl (pv 0) (pv 1) rfl)), y, rfl, _, rfl, a, c_InRing, c_StoveError, n, rfl, e, B.a_InRing, B.n_InRing, q⟩
theorem sc_NoStandIn : FnScope ["self", "good"] ["self", "good"] (defScope s_NoStandIn) := ⟨rfl, rfl, rfl, by decide +kernel, rfl, by decide +kernel, by decide +kernel⟩
theorem ok_NoStandIn {dV : Value} (F : FunD K "__init__" "NoStandIn.__init__" s_NoStandIn dV f fd) (B : Bn K mg c_EmptyHeap c_InRing c_NoAmount c_NoDish c_NoName c_NoNet c_NoNumber c_NoPack c_NoPlan c_NoRow c_NoStand c_NoStandIn c_NoStep c_StoveError c_TooFew c_TooMany c_Twice) : FnOk P w K mg base CX0 1 f fd ["self", "good"] (spInit c_NoStandIn "good") := by
  have sc := sc_NoStandIn
  refine F.ok sc (fun vs H Q E h => ?_) (fun cdv A outer s H vs Q E hr h => ?_)
  · obtain ⟨a, y, n, rfl, _⟩ := h
    rfl
  obtain ⟨a, y, n, rfl, e, q⟩ := h
  exact ⟨_, (pss_one (ps_fldX (K := K) rfl (pv 0) (pv 1) rfl)), y, rfl, _, rfl, a, c_NoStandIn, c_StoveError, n, rfl, e, B.a_NoStandIn, B.n_NoStandIn, q⟩
theorem sc_NoPack : FnScope ["self", "good"] ["self", "good"] (defScope s_NoPack) := ⟨rfl, rfl, rfl, by decide +kernel, rfl, by decide +kernel, by decide +kernel⟩
theorem ok_NoPack {dV : Value} (F : FunD K "__init__" "NoPack.__init__" s_NoPack dV f fd) (B : Bn K mg c_EmptyHeap c_InRing c_NoAmount c_NoDish c_NoName c_NoNet c_NoNumber c_NoPack c_NoPlan c_NoRow c_NoStand c_NoStandIn c_NoStep c_StoveError c_TooFew c_TooMany c_Twice) : FnOk P w K mg base CX0 1 f fd ["self", "good"] (spInit c_NoPack "good") := by
  have sc := sc_NoPack
  refine F.ok sc (fun vs H Q E h => ?_) (fun cdv A outer s H vs Q E hr h => ?_)
  · obtain ⟨a, y, n, rfl, _⟩ := h
    rfl
  obtain ⟨a, y, n, rfl, e, q⟩ := h
  exact ⟨_, (pss_one (ps_fldX (K := K) rfl (pv 0) (pv 1) rfl)), y, rfl, _, rfl, a, c_NoPack, c_StoveError, n, rfl, e, B.a_NoPack, B.n_NoPack, q⟩
theorem sc_NoRow : FnScope ["self", "at"] ["self", "at"] (defScope s_NoRow) := ⟨rfl, rfl, rfl, by decide +kernel, rfl, by decide +kernel, by decide +kernel⟩
theorem ok_NoRow {dV : Value} (F : FunD K "__init__" "NoRow.__init__" s_NoRow dV f fd) (B : Bn K mg c_EmptyHeap c_InRing c_NoAmount c_NoDish c_NoName c_NoNet c_NoNumber c_NoPack c_NoPlan c_NoRow c_NoStand c_NoStandIn c_NoStep c_StoveError c_TooFew c_TooMany c_Twice) : FnOk P w K mg base CX0 1 f fd ["self", "at"] (spInit c_NoRow "at") := by
  have sc := sc_NoRow
  refine F.ok sc (fun vs H Q E h => ?_) (fun cdv A outer s H vs Q E hr h => ?_)
  · obtain ⟨a, y, n, rfl, _⟩ := h
    rfl
  obtain ⟨a, y, n, rfl, e, q⟩ := h
  exact ⟨_, (pss_one (ps_fldX (K := K) rfl (pv 0) (pv 1) rfl)), y, rfl, _, rfl, a, c_NoRow, c_StoveError, n, rfl, e, B.a_NoRow, B.n_NoRow, q⟩
theorem sc_NoStep : FnScope ["self", "at"] ["self", "at"] (defScope s_NoStep) := ⟨rfl, rfl, rfl, by decide +kernel, rfl, by decide +kernel, by decide +kernel⟩
theorem ok_NoStep {dV : Value} (F : FunD K "__init__" "NoStep.__init__" s_NoStep dV f fd) (B : Bn K mg c_EmptyHeap c_InRing c_NoAmount c_NoDish c_NoName c_NoNet c_NoNumber c_NoPack c_NoPlan c_NoRow c_NoStand c_NoStandIn c_NoStep c_StoveError c_TooFew c_TooMany c_Twice) : FnOk P w K mg base CX0 1 f fd ["self", "at"] (spInit c_NoStep "at") := by
  have sc := sc_NoStep
  refine F.ok sc (fun vs H Q E h => ?_) (fun cdv A outer s H vs Q E hr h => ?_)
  · obtain ⟨a, y, n, rfl, _⟩ := h
    rfl
  obtain ⟨a, y, n, rfl, e, q⟩ := h
  exact ⟨_, (pss_one (ps_fldX (K := K) rfl (pv 0) (pv 1) rfl)), y, rfl, _, rfl, a, c_NoStep, c_StoveError, n, rfl, e, B.a_NoStep, B.n_NoStep, q⟩
theorem sc_Twice : FnScope ["self", "at"] ["self", "at"] (defScope s_Twice) := ⟨rfl, rfl, rfl, by decide +kernel, rfl, by decide +kernel, by decide +kernel⟩
theorem ok_Twice {dV : Value} (F : FunD K "__init__" "Twice.__init__" s_Twice dV f fd) (B : Bn K mg c_EmptyHeap c_InRing c_NoAmount c_NoDish c_NoName c_NoNet c_NoNumber c_NoPack c_NoPlan c_NoRow c_NoStand c_NoStandIn c_NoStep c_StoveError c_TooFew c_TooMany c_Twice) : FnOk P w K mg base CX0 1 f fd ["self", "at"] (spInit c_Twice "at") := by
  have sc := sc_Twice
  refine F.ok sc (fun vs H Q E h => ?_) (fun cdv A outer s H vs Q E hr h => ?_)
  · obtain ⟨a, y, n, rfl, _⟩ := h
    rfl
  obtain ⟨a, y, n, rfl, e, q⟩ := h
  exact ⟨_, (pss_one (ps_fldX (K := K) rfl (pv 0) (pv 1) rfl)), y, rfl, _, rfl, a, c_Twice, c_StoveError, n, rfl, e, B.a_Twice, B.n_Twice, q⟩
theorem sc_TooFew : FnScope ["self", "tool"] ["self", "tool"] (defScope s_TooFew) := ⟨rfl, rfl, rfl, by decide +kernel, rfl, by decide +kernel, by decide +kernel⟩
theorem ok_TooFew {dV : Value} (F : FunD K "__init__" "TooFew.__init__" s_TooFew dV f fd) (B : Bn K mg c_EmptyHeap c_InRing c_NoAmount c_NoDish c_NoName c_NoNet c_NoNumber c_NoPack c_NoPlan c_NoRow c_NoStand c_NoStandIn c_NoStep c_StoveError c_TooFew c_TooMany c_Twice) : FnOk P w K mg base CX0 1 f fd ["self", "tool"] (spInit c_TooFew "tool") := by
  have sc := sc_TooFew
  refine F.ok sc (fun vs H Q E h => ?_) (fun cdv A outer s H vs Q E hr h => ?_)
  · obtain ⟨a, y, n, rfl, _⟩ := h
    rfl
  obtain ⟨a, y, n, rfl, e, q⟩ := h
  exact ⟨_, (pss_one (ps_fldX (K := K) rfl (pv 0) (pv 1) rfl)), y, rfl, _, rfl, a, c_TooFew, c_StoveError, n, rfl, e, B.a_TooFew, B.n_TooFew, q⟩
theorem sc_NoDish : FnScope ["self", "dish"] ["self", "dish"] (defScope s_NoDish) := ⟨rfl, rfl, rfl, by decide +kernel, rfl, by decide +kernel, by decide +kernel⟩
theorem ok_NoDish {dV : Value} (F : FunD K "__init__" "NoDish.__init__" s_NoDish dV f fd) (B : Bn K mg c_EmptyHeap c_InRing c_NoAmount c_NoDish c_NoName c_NoNet c_NoNumber c_NoPack c_NoPlan c_NoRow c_NoStand c_NoStandIn c_NoStep c_StoveError c_TooFew c_TooMany c_Twice) : FnOk P w K mg base CX0 1 f fd ["self", "dish"] (spInit c_NoDish "dish") := by
  have sc := sc_NoDish
  refine F.ok sc (fun vs H Q E h => ?_) (fun cdv A outer s H vs Q E hr h => ?_)
  · obtain ⟨a, y, n, rfl, _⟩ := h
    rfl
  obtain ⟨a, y, n, rfl, e, q⟩ := h
  exact ⟨_, (pss_one (ps_fldX (K := K) rfl (pv 0) (pv 1) rfl)), y, rfl, _, rfl, a, c_NoDish, c_StoveError, n, rfl, e, B.a_NoDish, B.n_NoDish, q⟩
theorem sc_law_cell_at : FnScope ["_law_script", "_law_k"] ["_law_script", "_law_k"] (defScope s_law_cell_at) := ⟨rfl, rfl, rfl, by decide +kernel, rfl, by decide +kernel, by decide +kernel⟩
set_option maxHeartbeats 4000000 in
theorem ok_law_cell_at {dV : Value} (F : FunD K "_law_cell_at" "_law_cell_at" s_law_cell_at dV f fd) (B : Bn K mg c_EmptyHeap c_InRing c_NoAmount c_NoDish c_NoName c_NoNet c_NoNumber c_NoPack c_NoPlan c_NoRow c_NoStand c_NoStandIn c_NoStep c_StoveError c_TooFew c_TooMany c_Twice)  : FnOk P w K mg base CX0 1 f fd ["_law_script", "_law_k"] (spCell K) := by
  have sc := sc_law_cell_at
  refine F.ok sc (fun vs H Q E h => ?_) (fun cdv A outer s H vs Q E hr h => ?_)
  · obtain ⟨a, ns, k, rfl, _⟩ := h
    rfl
  obtain ⟨a, ns, k, rfl, hS, h0, q⟩ := h
  refine ⟨_, (pss_cons (ps_if (pt_cmpR op_lt (pv 1) (pe_callB call_len_seq rfl B.b_len boot_len (pa_cons (pv 0) pa_nil)) (nomark _)) (pss_one (ps_ret (pe_ix ix_list (pv 0) (pv 1) (fun _ _ => rfl)))) pss_nil) (pss_one (ps_ret pe_int))), ?_⟩
  refine ⟨_, rfl, _, rfl, a, _, rfl, .inl hS, _, _, rfl, rfl, _, rfl, d2 (fun c => ?_) (fun c => ?_)⟩
  · obtain ⟨v, hv⟩ := cell_ok h0 c
    exact ⟨_, rfl, _, rfl, a, _, _, _, rfl, rfl, hS, hv, q v⟩
  · exact q 0

theorem sc_law_name : FnScope ["_law_cell", "_law_k", "_law_letters", "_law_number", "_law_word", "_law_j"] ["_law_cell", "_law_k"] (defScope s_law_name) := ⟨rfl, rfl, rfl, by decide +kernel, rfl, by decide +kernel, by decide +kernel⟩
set_option maxHeartbeats 4000000 in
theorem ok_law_name {dV : Value} (F : FunD K "_law_name" "_law_name" s_law_name dV f fd) (B : Bn K mg c_EmptyHeap c_InRing c_NoAmount c_NoDish c_NoName c_NoNet c_NoNumber c_NoPack c_NoPlan c_NoRow c_NoStand c_NoStandIn c_NoStep c_StoveError c_TooFew c_TooMany c_Twice)  : FnOk P w K mg base CX0 1 f fd ["_law_cell", "_law_k"] spText := by
  have sc := sc_law_name
  refine F.ok sc (fun vs H Q E h => ?_) (fun cdv A outer s H vs Q E hr h => ?_)
  · obtain ⟨c, k, rfl, _⟩ := h
    rfl
  obtain ⟨c, k, rfl, k0, k1, q⟩ := h
  refine ⟨_, (pss_cons (ps_set (i := 2) sc.nd rfl (Or.inl rfl) pe_str) (pss_cons (ps_set (i := 3) sc.nd rfl (Or.inl rfl) (pe_op op_modN (pe_op op_mulB (pe_op op_add (pe_op op_modN (pv 0) pe_int) pe_int) (pe_op op_add (pe_op op_add (pe_op op_mulB (pv 1) (pv 1)) (pe_op op_mulB pe_int (pv 1))) pe_int)) pe_int)) (pss_cons (ps_set (i := 4) sc.nd rfl (Or.inl rfl) pe_str) (pss_cons (ps_for PassesOwn.never rfl (pi_range1 rfl B.b_range (pa_cons (pe_op op_add pe_int (pe_op op_modN (pv 3) pe_int)) pa_nil)) (pg_name (i := 5) sc.nd rfl (Or.inl rfl)) (pss_one (ps_set (i := 4) sc.nd rfl (Or.inl rfl) (pe_op op_add_str (pv 4) (pe_ix ix_str (pv 2) (pe_op op_modN (pe_op op_modN (pe_op op_mulB (pv 3) (pe_op op_add (pe_op op_mulB (pv 5) (pv 5)) pe_int)) pe_int) pe_int) (fun _ _ => rfl)))))) (pss_one (ps_ret (pv 4))))))), ?_⟩
  have c0 := Int.fmod_nonneg_of_pos c (show (0 : Int) < 1000003 by decide)
  have c1 := Int.fmod_lt_of_pos c (show (0 : Int) < 1000003 by decide)
  have bk : Bd 6 k := bdN 64 6 k0 k1
  have bl : Bd 20 (c.fmod 1000003 + 1) := bdN 1000004 20 (by omega) (by omega)
  have b3 : Bd 6 (3 : Int) := bdN 4 6 (by decide) (by decide)
  have b7 : Bd 13 (7 : Int) := bdN 8 13 (by decide) (by decide)
  have br : Bd 14 (k * k + 3 * k + 7) := ((bk.mul bk).add (b3.mul bk)).add b7
  refine ⟨_, rfl, _, _, rfl, rfl, (by show (1000003 : Int) ≠ 0; decide), _, _, rfl, rfl, _, rfl, _, rfl, _, _, rfl, rfl, bk.ok bk, _, rfl, _, _, rfl, rfl, b3.ok bk, _, _, rfl, rfl, _, _, rfl, rfl, _, _, rfl, rfl, bl.ok br, _, _, rfl, rfl, (by show (999983 : Int) ≠ 0; decide), ?_⟩
  have m0 := Int.fmod_nonneg_of_pos ((c.fmod 1000003 + 1) * (k * k + 3 * k + 7)) (show (0 : Int) < 999983 by decide)
  have m1 := Int.fmod_lt_of_pos ((c.fmod 1000003 + 1) * (k * k + 3 * k + 7)) (show (0 : Int) < 999983 by decide)
  show L2.tSeq _ _ _ [some (.int c), some (.int k), some (.str "abcdefghijklmnopqrstuvwxyz"), some (.int (((c.fmod 1000003 + 1) * (k * k + 3 * k + 7)).fmod 999983)), none, none] H
  generalize ((c.fmod 1000003 + 1) * (k * k + 3 * k + 7)).fmod 999983 = m at m0 m1 ⊢
  have n0 := Int.fmod_nonneg_of_pos m (show (0 : Int) < 12 by decide)
  have n1 := Int.fmod_lt_of_pos m (show (0 : Int) < 12 by decide)
  have bm : Bd 20 m := bdN 999983 20 m0 m1
  refine ⟨_, rfl, _, _, rfl, rfl, (by show (12 : Int) ≠ 0; decide), _, _, rfl, rfl, _, rfl, (by omega), (by omega), ?_⟩
  refine for_range (n := (1 + m.fmod 12).toNat) (fun i σ H' => H' = H ∧ ∃ (w : Str) (o5 : Option V), σ = [some (.int c), some (.int k), some (.str "abcdefghijklmnopqrstuvwxyz"), some (.int m), some (.str w), o5] ∧ w.length ≤ i) ⟨rfl, _, _, rfl, Nat.zero_le _⟩ (fun i σ H' hi hP => ?_) (fun σ H' hP => ?_)
  · obtain ⟨rfl, w, o5, rfl, hw⟩ := hP
    have bj : Bd 4 (0 + (i : Int)) := bdN 16 4 (by omega) (by omega)
    have b5 : Bd 8 (5 : Int) := bdN 6 8 (by decide) (by decide)
    have bq : Bd 9 ((0 + (i : Int)) * (0 + (i : Int)) + 5) := (bj.mul bj).add b5
    have x0 := Int.fmod_nonneg_of_pos ((m * ((0 + (i : Int)) * (0 + (i : Int)) + 5)).fmod 1009) (show (0 : Int) < 26 by decide)
    have x1 := Int.fmod_lt_of_pos ((m * ((0 + (i : Int)) * (0 + (i : Int)) + 5)).fmod 1009) (show (0 : Int) < 26 by decide)
    obtain ⟨ch, hc⟩ := atI_ex (xs := ("abcdefghijklmnopqrstuvwxyz" : Str).cps.toList) x0 (by show _ < ((26 : Nat) : Int); omega)
    refine ⟨_, rfl, _, rfl, _, rfl, _, rfl, _, rfl, _, _, rfl, rfl, bj.ok bj, _, _, rfl, rfl, _, _, rfl, rfl, bm.ok bq, _, _, rfl, rfl, (by show (1009 : Int) ≠ 0; decide), _, _, rfl, rfl, (by show (26 : Int) ≠ 0; decide), _, _, ch, rfl, rfl, (by show 26 ≤ sizeLine; decide), hc, _, _, rfl, rfl, ?_, ?_⟩
    · show w.length + 1 ≤ sizeLine
      have : w.length + 1 ≤ 13 := by omega
      exact Nat.le_trans this (by decide)
    · refine ⟨rfl, _, _, rfl, ?_⟩
      show (w.cps ++ #[ch]).size ≤ i + 1
      rw [Array.size_append]
      have : w.cps.size ≤ i := hw
      show w.cps.size + 1 ≤ i + 1
      omega
  · obtain ⟨rfl, w, o5, rfl, hw⟩ := hP
    exact ⟨_, rfl, q w⟩

theorem sc_law_kinds : FnScope ["_law_e", "_law_kinds_here"] ["_law_e"] (defScope s_law_kinds) := ⟨rfl, rfl, rfl, by decide +kernel, rfl, by decide +kernel, by decide +kernel⟩
set_option maxHeartbeats 4000000 in
theorem ok_law_kinds {dV : Value} {hd : Option Value} (F : FunD K "_law_kinds" "_law_kinds" s_law_kinds dV f fd) (B : Bn K mg c_EmptyHeap c_InRing c_NoAmount c_NoDish c_NoName c_NoNet c_NoNumber c_NoPack c_NoPlan c_NoRow c_NoStand c_NoStandIn c_NoStep c_StoveError c_TooFew c_TooMany c_Twice)  : FnH hd P w K mg base 1 f fd ["_law_e"] (spKinds K [c_NoNumber, c_NoAmount, c_NoName, c_NoStand, c_TooMany, c_NoNet, c_NoPlan, c_EmptyHeap, c_InRing, c_NoStandIn, c_NoPack, c_NoRow, c_NoStep, c_Twice, c_TooFew, c_NoDish]) := by
  have sc := sc_law_kinds
  refine F.okH sc (fun vs H Q E h => ?_) (fun cdv A outer s H vs Q E hr h => ?_)
  · obtain ⟨a, C, dx, i, rfl, _⟩ := h
    rfl
  obtain ⟨a, C, dx, i, rfl, hx, hC, q⟩ := h
  have xi := xi_all B hC
  refine ⟨_, (pss_cons (ps_set (i := 1) sc.nd rfl (Or.inl rfl) (pe_lst (pa_cons (pe_callB (call_isiX (K := K) rfl) rfl B.b_isinstance boot_isinstance (pa_cons (pv 0) (pa_cons (pe_glob (v := V.ref c_NoNumber) rfl B.m_NoNumber rfl) pa_nil))) (pa_cons (pe_callB (call_isiX (K := K) rfl) rfl B.b_isinstance boot_isinstance (pa_cons (pv 0) (pa_cons (pe_glob (v := V.ref c_NoAmount) rfl B.m_NoAmount rfl) pa_nil))) (pa_cons (pe_callB (call_isiX (K := K) rfl) rfl B.b_isinstance boot_isinstance (pa_cons (pv 0) (pa_cons (pe_glob (v := V.ref c_NoName) rfl B.m_NoName rfl) pa_nil))) (pa_cons (pe_callB (call_isiX (K := K) rfl) rfl B.b_isinstance boot_isinstance (pa_cons (pv 0) (pa_cons (pe_glob (v := V.ref c_NoStand) rfl B.m_NoStand rfl) pa_nil))) pa_nil)))))) (pss_cons (ps_set (i := 1) sc.nd rfl (Or.inl rfl) (pe_op op_cat (pv 1) (pe_lst (pa_cons (pe_callB (call_isiX (K := K) rfl) rfl B.b_isinstance boot_isinstance (pa_cons (pv 0) (pa_cons (pe_glob (v := V.ref c_TooMany) rfl B.m_TooMany rfl) pa_nil))) (pa_cons (pe_callB (call_isiX (K := K) rfl) rfl B.b_isinstance boot_isinstance (pa_cons (pv 0) (pa_cons (pe_glob (v := V.ref c_NoNet) rfl B.m_NoNet rfl) pa_nil))) (pa_cons (pe_callB (call_isiX (K := K) rfl) rfl B.b_isinstance boot_isinstance (pa_cons (pv 0) (pa_cons (pe_glob (v := V.ref c_NoPlan) rfl B.m_NoPlan rfl) pa_nil))) (pa_cons (pe_callB (call_isiX (K := K) rfl) rfl B.b_isinstance boot_isinstance (pa_cons (pv 0) (pa_cons (pe_glob (v := V.ref c_EmptyHeap) rfl B.m_EmptyHeap rfl) pa_nil))) pa_nil))))))) (pss_cons (ps_set (i := 1) sc.nd rfl (Or.inl rfl) (pe_op op_cat (pv 1) (pe_lst (pa_cons (pe_callB (call_isiX (K := K) rfl) rfl B.b_isinstance boot_isinstance (pa_cons (pv 0) (pa_cons (pe_glob (v := V.ref c_InRing) rfl B.m_InRing rfl) pa_nil))) (pa_cons (pe_callB (call_isiX (K := K) rfl) rfl B.b_isinstance boot_isinstance (pa_cons (pv 0) (pa_cons (pe_glob (v := V.ref c_NoStandIn) rfl B.m_NoStandIn rfl) pa_nil))) (pa_cons (pe_callB (call_isiX (K := K) rfl) rfl B.b_isinstance boot_isinstance (pa_cons (pv 0) (pa_cons (pe_glob (v := V.ref c_NoPack) rfl B.m_NoPack rfl) pa_nil))) (pa_cons (pe_callB (call_isiX (K := K) rfl) rfl B.b_isinstance boot_isinstance (pa_cons (pv 0) (pa_cons (pe_glob (v := V.ref c_NoRow) rfl B.m_NoRow rfl) pa_nil))) pa_nil))))))) (pss_cons (ps_set (i := 1) sc.nd rfl (Or.inl rfl) (pe_op op_cat (pv 1) (pe_lst (pa_cons (pe_callB (call_isiX (K := K) rfl) rfl B.b_isinstance boot_isinstance (pa_cons (pv 0) (pa_cons (pe_glob (v := V.ref c_NoStep) rfl B.m_NoStep rfl) pa_nil))) (pa_cons (pe_callB (call_isiX (K := K) rfl) rfl B.b_isinstance boot_isinstance (pa_cons (pv 0) (pa_cons (pe_glob (v := V.ref c_Twice) rfl B.m_Twice rfl) pa_nil))) (pa_cons (pe_callB (call_isiX (K := K) rfl) rfl B.b_isinstance boot_isinstance (pa_cons (pv 0) (pa_cons (pe_glob (v := V.ref c_TooFew) rfl B.m_TooFew rfl) pa_nil))) (pa_cons (pe_callB (call_isiX (K := K) rfl) rfl B.b_isinstance boot_isinstance (pa_cons (pv 0) (pa_cons (pe_glob (v := V.ref c_NoDish) rfl B.m_NoDish rfl) pa_nil))) pa_nil))))))) (pss_one (ps_ret (pv 1))))))), ?_⟩
  refine ⟨_, rfl, a, C, dx, _, (i == 0), rfl, hx.1, hx.2, xi, .own (kit_of B.kits hC (j := 0) rfl), _, rfl, a, C, dx, _, (i == 1), rfl, hx.1, hx.2, xi, .own (kit_of B.kits hC (j := 1) rfl), _, rfl, a, C, dx, _, (i == 2), rfl, hx.1, hx.2, xi, .own (kit_of B.kits hC (j := 2) rfl), _, rfl, a, C, dx, _, (i == 3), rfl, hx.1, hx.2, xi, .own (kit_of B.kits hC (j := 3) rfl), (by show 4 ≤ sizeLine; decide), fun l0 n0 => ?_⟩
  have g0 := same_new n0 (.lst [.bl (i == 0), .bl (i == 1), .bl (i == 2), .bl (i == 3)])
  have hx0 := hx.same g0
  have G0 := g0
  have e0 : L2.upd H l0 (.lst [.bl (i == 0), .bl (i == 1), .bl (i == 2), .bl (i == 3)]) l0 = some (.lst [.bl (i == 0), .bl (i == 1), .bl (i == 2), .bl (i == 3)]) := upd_same
  refine ⟨_, rfl, _, rfl, a, C, dx, _, (i == 4), rfl, hx0.1, hx0.2, xi, .own (kit_of B.kits hC (j := 4) rfl), _, rfl, a, C, dx, _, (i == 5), rfl, hx0.1, hx0.2, xi, .own (kit_of B.kits hC (j := 5) rfl), _, rfl, a, C, dx, _, (i == 6), rfl, hx0.1, hx0.2, xi, .own (kit_of B.kits hC (j := 6) rfl), _, rfl, a, C, dx, _, (i == 7), rfl, hx0.1, hx0.2, xi, .own (kit_of B.kits hC (j := 7) rfl), (by show 4 ≤ sizeLine; decide), fun m1 k1 => ?_⟩
  have f1 := same_new k1 (.lst [.bl (i == 4), .bl (i == 5), .bl (i == 6), .bl (i == 7)])
  have hy1 := hx0.same f1
  refine ⟨l0, m1, _, _, rfl, rfl, f1 _ _ e0, upd_same, (by show 8 ≤ sizeLine; decide), fun l1 n1 => ?_⟩
  have g1 := same_new n1 (.lst [.bl (i == 0), .bl (i == 1), .bl (i == 2), .bl (i == 3), .bl (i == 4), .bl (i == 5), .bl (i == 6), .bl (i == 7)])
  have hx1 := hy1.same g1
  have G1 := (G0.trans f1).trans g1
  refine ⟨_, rfl, _, rfl, a, C, dx, _, (i == 8), rfl, hx1.1, hx1.2, xi, .own (kit_of B.kits hC (j := 8) rfl), _, rfl, a, C, dx, _, (i == 9), rfl, hx1.1, hx1.2, xi, .own (kit_of B.kits hC (j := 9) rfl), _, rfl, a, C, dx, _, (i == 10), rfl, hx1.1, hx1.2, xi, .own (kit_of B.kits hC (j := 10) rfl), _, rfl, a, C, dx, _, (i == 11), rfl, hx1.1, hx1.2, xi, .own (kit_of B.kits hC (j := 11) rfl), (by show 4 ≤ sizeLine; decide), fun m2 k2 => ?_⟩
  have f2 := same_new k2 (.lst [.bl (i == 8), .bl (i == 9), .bl (i == 10), .bl (i == 11)])
  have hy2 := hx1.same f2
  refine ⟨l1, m2, _, _, rfl, rfl, f2 _ _ upd_same, upd_same, (by show 12 ≤ sizeLine; decide), fun l2 n2 => ?_⟩
  have g2 := same_new n2 (.lst [.bl (i == 0), .bl (i == 1), .bl (i == 2), .bl (i == 3), .bl (i == 4), .bl (i == 5), .bl (i == 6), .bl (i == 7), .bl (i == 8), .bl (i == 9), .bl (i == 10), .bl (i == 11)])
  have hx2 := hy2.same g2
  have G2 := (G1.trans f2).trans g2
  refine ⟨_, rfl, _, rfl, a, C, dx, _, (i == 12), rfl, hx2.1, hx2.2, xi, .own (kit_of B.kits hC (j := 12) rfl), _, rfl, a, C, dx, _, (i == 13), rfl, hx2.1, hx2.2, xi, .own (kit_of B.kits hC (j := 13) rfl), _, rfl, a, C, dx, _, (i == 14), rfl, hx2.1, hx2.2, xi, .own (kit_of B.kits hC (j := 14) rfl), _, rfl, a, C, dx, _, (i == 15), rfl, hx2.1, hx2.2, xi, .own (kit_of B.kits hC (j := 15) rfl), (by show 4 ≤ sizeLine; decide), fun m3 k3 => ?_⟩
  have f3 := same_new k3 (.lst [.bl (i == 12), .bl (i == 13), .bl (i == 14), .bl (i == 15)])
  have hy3 := hx2.same f3
  refine ⟨l2, m3, _, _, rfl, rfl, f3 _ _ upd_same, upd_same, (by show 16 ≤ sizeLine; decide), fun l3 n3 => ?_⟩
  have g3 := same_new n3 (.lst [.bl (i == 0), .bl (i == 1), .bl (i == 2), .bl (i == 3), .bl (i == 4), .bl (i == 5), .bl (i == 6), .bl (i == 7), .bl (i == 8), .bl (i == 9), .bl (i == 10), .bl (i == 11), .bl (i == 12), .bl (i == 13), .bl (i == 14), .bl (i == 15)])
  have hx3 := hy3.same g3
  have G3 := (G2.trans f3).trans g3
  exact ⟨_, rfl, q _ _ G3 upd_same⟩

theorem sc_law_bare : FnScope ["_law_text", "_law_some"] ["_law_text"] (defScope s_law_bare) := ⟨rfl, rfl, rfl, by decide +kernel, rfl, by decide +kernel, by decide +kernel⟩
set_option maxHeartbeats 4000000 in
theorem ok_law_bare {dV : Value} (F : FunD K "_law_bare" "_law_bare" s_law_bare dV f fd) (B : Bn K mg c_EmptyHeap c_InRing c_NoAmount c_NoDish c_NoName c_NoNet c_NoNumber c_NoPack c_NoPlan c_NoRow c_NoStand c_NoStandIn c_NoStep c_StoveError c_TooFew c_TooMany c_Twice)  : FnOk P w K mg base CX0 1 f fd ["_law_text"] (spBare [c_NoNumber, c_NoAmount, c_NoName, c_NoStand, c_TooMany, c_NoNet, c_NoPlan, c_EmptyHeap, c_InRing, c_NoStandIn, c_NoPack, c_NoRow, c_NoStep, c_Twice, c_TooFew, c_NoDish]) := by
  have sc := sc_law_bare
  refine F.ok sc (fun vs H Q E h => ?_) (fun cdv A outer s H vs Q E hr h => ?_)
  · obtain ⟨t, rfl, _⟩ := h
    rfl
  obtain ⟨t, rfl, q⟩ := h
  refine ⟨_, (pss_cons (ps_set (i := 1) sc.nd rfl (Or.inl rfl) (pe_lst (pa_cons (pe_makeE B.x_NoNumber B.kp_NoNumber rfl B.m_NoNumber (pa_cons (pv 0) pa_nil)) (pa_cons (pe_makeE B.x_NoAmount B.kp_NoAmount rfl B.m_NoAmount (pa_cons (pv 0) pa_nil)) (pa_cons (pe_makeE B.x_NoName B.kp_NoName rfl B.m_NoName (pa_cons (pv 0) pa_nil)) (pa_cons (pe_makeE B.x_NoStand B.kp_NoStand rfl B.m_NoStand (pa_cons (pv 0) pa_nil)) (pa_cons (pe_makeE B.x_TooMany B.kp_TooMany rfl B.m_TooMany (pa_cons (pv 0) pa_nil)) (pa_cons (pe_makeE B.x_NoNet B.kp_NoNet rfl B.m_NoNet (pa_cons (pv 0) pa_nil)) pa_nil)))))))) (pss_one (ps_ret (pe_op op_cat (pv 1) (pe_lst (pa_cons (pe_makeE B.x_NoPlan B.kp_NoPlan rfl B.m_NoPlan (pa_cons (pv 0) pa_nil)) (pa_cons (pe_makeE B.x_EmptyHeap B.kp_EmptyHeap rfl B.m_EmptyHeap (pa_cons (pv 0) pa_nil)) pa_nil))))))), ?_⟩
  refine ⟨_, rfl, (by show 1 ≤ sizeLine; decide), fun a0 n0 => ?_⟩
  have g0 := same_new n0 (excB true a0 (.ref c_NoNumber) none)
  refine ⟨_, rfl, (by show 1 ≤ sizeLine; decide), fun a1 n1 => ?_⟩
  have g1 := same_new n1 (excB true a1 (.ref c_NoAmount) none)
  refine ⟨_, rfl, (by show 1 ≤ sizeLine; decide), fun a2 n2 => ?_⟩
  have g2 := same_new n2 (excB true a2 (.ref c_NoName) none)
  refine ⟨_, rfl, (by show 1 ≤ sizeLine; decide), fun a3 n3 => ?_⟩
  have g3 := same_new n3 (excB true a3 (.ref c_NoStand) none)
  refine ⟨_, rfl, (by show 1 ≤ sizeLine; decide), fun a4 n4 => ?_⟩
  have g4 := same_new n4 (excB true a4 (.ref c_TooMany) none)
  refine ⟨_, rfl, (by show 1 ≤ sizeLine; decide), fun a5 n5 => ?_⟩
  have g5 := same_new n5 (excB true a5 (.ref c_NoNet) none)
  refine ⟨(by show 6 ≤ sizeLine; decide), fun l m => ?_⟩
  have gl := same_new m (.lst [.ref a0, .ref a1, .ref a2, .ref a3, .ref a4, .ref a5])
  refine ⟨_, rfl, ?_⟩
  refine ⟨_, rfl, (by show 1 ≤ sizeLine; decide), fun a6 n6 => ?_⟩
  have g6 := same_new n6 (excB true a6 (.ref c_NoPlan) none)
  refine ⟨_, rfl, (by show 1 ≤ sizeLine; decide), fun a7 n7 => ?_⟩
  have g7 := same_new n7 (excB true a7 (.ref c_EmptyHeap) none)
  refine ⟨(by show 2 ≤ sizeLine; decide), fun l2 m2 => ?_⟩
  have gl2 := same_new m2 (.lst [.ref a6, .ref a7])
  refine ⟨l, l2, _, _, rfl, rfl, gl2 _ _ (g7 _ _ (g6 _ _ upd_same)), upd_same, (by show 8 ≤ sizeLine; decide), fun l3 m3 => ?_⟩
  have gl3 := same_new m3 (.lst [.ref a0, .ref a1, .ref a2, .ref a3, .ref a4, .ref a5, .ref a6, .ref a7])
  have k7 := gl2.trans gl3
  have k6 := g7.trans k7
  have k5 := gl.trans (g6.trans k6)
  have k4 := g5.trans k5
  have k3 := g4.trans k4
  have k2 := g3.trans k3
  have k1 := g2.trans k2
  have k0 := g1.trans k1
  refine q l3 [a0, a1, a2, a3, a4, a5, a6, a7] _ (g0.trans k0) rfl (fun i a h => ?_) upd_same
  match i, h with
  | 0, h => cases h; exact ⟨_, rfl, ⟨true, k0 _ _ upd_same⟩, trivial⟩
  | 1, h => cases h; exact ⟨_, rfl, ⟨true, k1 _ _ upd_same⟩, trivial⟩
  | 2, h => cases h; exact ⟨_, rfl, ⟨true, k2 _ _ upd_same⟩, trivial⟩
  | 3, h => cases h; exact ⟨_, rfl, ⟨true, k3 _ _ upd_same⟩, trivial⟩
  | 4, h => cases h; exact ⟨_, rfl, ⟨true, k4 _ _ upd_same⟩, trivial⟩
  | 5, h => cases h; exact ⟨_, rfl, ⟨true, k5 _ _ upd_same⟩, trivial⟩
  | 6, h => cases h; exact ⟨_, rfl, ⟨true, k6 _ _ upd_same⟩, trivial⟩
  | 7, h => cases h; exact ⟨_, rfl, ⟨true, k7 _ _ upd_same⟩, trivial⟩
  | n + 8, h => simp at h

theorem sc_law_alone : FnScope ["_law_e", "_law_at"] ["_law_e", "_law_at"] (defScope s_law_alone) := ⟨rfl, rfl, rfl, by decide +kernel, rfl, by decide +kernel, by decide +kernel⟩
set_option maxHeartbeats 4000000 in
theorem ok_law_alone {dV : Value} {hd : Option Value} (F : FunD K "_law_alone" "_law_alone" s_law_alone dV f fd) (B : Bn K mg c_EmptyHeap c_InRing c_NoAmount c_NoDish c_NoName c_NoNet c_NoNumber c_NoPack c_NoPlan c_NoRow c_NoStand c_NoStandIn c_NoStep c_StoveError c_TooFew c_TooMany c_Twice) (H_law_kinds : ∀ hd, DxH hd P w K mg base 1 "_law_kinds" ["_law_e"] (spKinds K [c_NoNumber, c_NoAmount, c_NoName, c_NoStand, c_TooMany, c_NoNet, c_NoPlan, c_EmptyHeap, c_InRing, c_NoStandIn, c_NoPack, c_NoRow, c_NoStep, c_Twice, c_TooFew, c_NoDish])) : FnH hd P w K mg base 2 f fd ["_law_e", "_law_at"] (spAlone K [c_NoNumber, c_NoAmount, c_NoName, c_NoStand, c_TooMany, c_NoNet, c_NoPlan, c_EmptyHeap, c_InRing, c_NoStandIn, c_NoPack, c_NoRow, c_NoStep, c_Twice, c_TooFew, c_NoDish] hd) := by
  have sc := sc_law_alone
  refine F.okH sc (fun vs H Q E h => ?_) (fun cdv A outer s H vs Q E hr h => ?_)
  · obtain ⟨a, C, dx, i, rfl, _⟩ := h
    rfl
  obtain ⟨a, C, dx, i, rfl, hx, hC, hh, q⟩ := h
  have xi := xi_all B hC
  refine ⟨_, (pss_cons (ps_if (PW.pt (pw_or (pt_not (pt_val (pe_callB (call_isiX (K := K) rfl) rfl B.b_isinstance boot_isinstance (pa_cons (pv 0) (pa_cons (pe_glob (v := V.ref c_StoveError) rfl B.m_StoveError rfl) pa_nil))))) (pw_or1 (pt_not (pt_val (pe_callB (call_isiX (K := K) rfl) rfl B.b_isinstance boot_isinstance (pa_cons (pv 0) (pa_cons (pe_bltn (v := .ty "ValueError") rfl B.b_ValueError PyProof.Rows.Boot.«ValueError» rfl) pa_nil)))))))) (pss_one (ps_ret pe_bl)) pss_nil) (pss_one (ps_ret (pe_cmpR (op_eqS hr.units0) (pcallH (j := 1) (H_law_kinds hd) hr (by decide) rfl (pa_cons (pv 0) pa_nil)) (pe_compH (hd := hd) (own := "_law_k") (ys := ["_law_at"]) (js := [1]) hr.hd (cok (atc atn) (.cons rfl .nil) (by decide) rfl rfl rfl rfl rfl rfl rfl rfl) (pi_rangeH rfl B.b_range (pa_cons pe_int pa_nil)) (fun C fp s H => (pe_cmpR op_eq (pv 0) (pv 1) (nomark _)))) (nomark _))))), ?_⟩
  refine ⟨_, rfl, a, C, dx, _, true, rfl, hx.1, hx.2, xi, .own (kit_S B.kits hC), true, rfl, iteF ⟨_, rfl, a, C, dx, _, true, rfl, hx.1, hx.2, xi, .ty (kit_V B.kits hC), true, rfl, iteF ?_⟩⟩
  refine ⟨_, rfl, a, C, dx, i, rfl, hx, hC, fun l H1 g1 e1 => ?_⟩
  refine ⟨_, rfl, (by decide), (by decide), comp_by (fun j y => y = V.bl (i == j)) (hdSame hh g1) (by show 16 ≤ sizeLine; decide) (fun j hj H3 g3 Q' hq => ?_) (fun p ys H' np hl hP g e => ?_)⟩
  · refine ⟨_, rfl, _, rfl, rfl, hq _ _ ?_ (fun _ _ z => z)⟩
    show V.bl (decide (V.int (0 + (j : Int)) = V.int (i : Int))) = V.bl (i == j)
    by_cases z : i = j
    · subst z
      rw [decide_eq_true (by rw [Int.zero_add]), beq_self_eq_true]
    · rw [decide_eq_false (fun e => z (by have := vj e; omega)), beq_eq_false_iff_ne.mpr z]
  · have ey := list_of hl hP
    subst ey
    exact ⟨l, p, _, rfl, rfl, SqL.of (g _ _ e1), SqL.of e, (by intro z hz; obtain ⟨j, _, rfl⟩ := List.mem_map.mp hz; trivial), q H' (g1.trans g)⟩

theorem sc_law_raised : FnScope ["_law_kind", "_law_word", "_law_number", "_law_e"] ["_law_kind", "_law_word", "_law_number"] (defScope s_law_raised) := ⟨rfl, rfl, rfl, by decide +kernel, rfl, by decide +kernel, by decide +kernel⟩
set_option maxHeartbeats 4000000 in
theorem ok_law_raised {dV : Value} (F : FunD K "_law_raised" "_law_raised" s_law_raised dV f fd) (B : Bn K mg c_EmptyHeap c_InRing c_NoAmount c_NoDish c_NoName c_NoNet c_NoNumber c_NoPack c_NoPlan c_NoRow c_NoStand c_NoStandIn c_NoStep c_StoveError c_TooFew c_TooMany c_Twice) (I_NoPack : DxI P w K mg base 1 c_NoPack ["self", "good"] (spInit c_NoPack "good")) (I_NoRow : DxI P w K mg base 1 c_NoRow ["self", "at"] (spInit c_NoRow "at")) (I_TooFew : DxI P w K mg base 1 c_TooFew ["self", "tool"] (spInit c_TooFew "tool")) (I_NoDish : DxI P w K mg base 1 c_NoDish ["self", "dish"] (spInit c_NoDish "dish")) (H_law_alone : ∀ hd, DxH hd P w K mg base 2 "_law_alone" ["_law_e", "_law_at"] (spAlone K [c_NoNumber, c_NoAmount, c_NoName, c_NoStand, c_TooMany, c_NoNet, c_NoPlan, c_EmptyHeap, c_InRing, c_NoStandIn, c_NoPack, c_NoRow, c_NoStep, c_Twice, c_TooFew, c_NoDish] hd)) : FnOk P w K mg base CX0 3 f fd ["_law_kind", "_law_word", "_law_number"] spRaised := by
  have sc := sc_law_raised
  refine F.ok sc (fun vs H Q E h => ?_) (fun cdv A outer s H vs Q E hr h => ?_)
  · obtain ⟨k, n, t, rfl, _⟩ := h
    rfl
  obtain ⟨k, n, t, rfl, k0, k1, q⟩ := h
  refine ⟨_, (pss_cons (ps_try rfl rfl (fun pins E => (pss_cons (ps_if (pt_cmpR op_eq (pv 0) pe_int (nomark _)) (pss_one (praiseI I_NoPack hr (by decide) rfl B.m_NoPack rfl passX (pa_cons (pv 1) pa_nil))) pss_nil) (pss_cons (ps_if (pt_cmpR op_eq (pv 0) pe_int (nomark _)) (pss_one (praiseI I_NoRow hr (by decide) rfl B.m_NoRow rfl passX (pa_cons (pv 2) pa_nil))) pss_nil) (pss_cons (ps_if (pt_cmpR op_eq (pv 0) pe_int (nomark _)) (pss_one (praiseI I_TooFew hr (by decide) rfl B.m_TooFew rfl passX (pa_cons (pv 1) pa_nil))) pss_nil) (pss_one (praiseI I_NoDish hr (by decide) rfl B.m_NoDish rfl passX (pa_cons (pv 1) pa_nil))))))) (ph_asA B.t_StoveError rfl B.m_StoveError sc.nd (i := 3) rfl rfl (fun pins a => (pss_cons (ps_if (pt_not (pt_val (pcallH (j := 2) (H_law_alone (some (.ref a))) (hr.suite _) (by decide) rfl (pa_cons (pv 3) (pa_cons (pe_ix (ix_listK (K := K) rfl) (pe_lst (pa_cons pe_int (pa_cons pe_int (pa_cons pe_int (pa_cons pe_int pa_nil))))) (pv 0) (fun _ _ => rfl)) pa_nil))))) (pss_one (ps_ret pe_bl)) pss_nil) (pss_cons (ps_if (pt_cmpR op_eq (pv 0) pe_int (nomark _)) (pss_one (ps_ret (pe_cmpR op_eq (pe_fldX (K := K) rfl (pv 3) rfl) (pv 1) (nomark _)))) pss_nil) (pss_cons (ps_if (pt_cmpR op_eq (pv 0) pe_int (nomark _)) (pss_one (ps_ret (pe_and (pe_cmpR op_eq (pe_fldX (K := K) rfl (pv 3) rfl) (pv 2) (nomark _)) (pe_one (pe_not (pe_callB (call_isiT (K := K) rfl) rfl B.b_isinstance boot_isinstance (pa_cons (pe_fldX (K := K) rfl (pv 3) rfl) (pa_cons (pe_bltn (v := .ty "bool") rfl B.b_bool boot_bool rfl) pa_nil)))))))) pss_nil) (pss_cons (ps_if (pt_cmpR op_eq (pv 0) pe_int (nomark _)) (pss_one (ps_ret (pe_cmpR op_eq (pe_fldX (K := K) rfl (pv 3) rfl) (pv 1) (nomark _)))) pss_nil) (pss_one (ps_ret (pe_cmpR op_eq (pe_fldX (K := K) rfl (pv 3) rfl) (pv 1) (nomark _))))))))) ph_nil)) (pss_one (ps_ret pe_bl))), ?_⟩
  rcases (by omega : k = 0 ∨ k = 1 ∨ k = 2 ∨ k = 3) with rfl | rfl | rfl | rfl
  · refine ⟨_, rfl, rfl, _, rfl, dTI rfl ⟨_, rfl, (by show 1 ≤ sizeLine; decide), fun x na => init_of na fun d H2 g ea ed ne gd edd => ⟨rfl, d, ea, fun b hb => ⟨c_NoPack, true, rfl, B.s_NoPack_StoveError, iteT ?_⟩⟩⟩⟩
    have gh : Same H (L2.upd (del H2 x) b (excO b (.ref c_NoPack) (some d))) := sUpd gd (by
      cases z : H b with
      | none => rfl
      | some o => rw [gd _ _ z] at hb; cases hb) _
    have hd' : L2.upd (del H2 x) b (excO b (.ref c_NoPack) (some d)) d = some (.xd [("good", .str t)]) := by
      rw [upd_ne (ne_of_none edd hb)]
      exact edd
    have hb' : L2.upd (del H2 x) b (excO b (.ref c_NoPack) (some d)) b = some (excO b (.ref c_NoPack) (some d)) := upd_same
    generalize L2.upd (del H2 x) b (excO b (.ref c_NoPack) (some d)) = H3 at gh hd' hb' ⊢
    refine ⟨_, rfl, (by show 4 ≤ sizeLine; decide), fun l nl => ⟨_, rfl, l, _, _, _, rfl, rfl, SqL.of upd_same, rfl, ?_⟩⟩
    have gl := same_new nl (.lst [.int 10, .int 11, .int 14, .int 15])
    refine ⟨b, c_NoPack, some d, 10, rfl, ⟨⟨false, gl _ _ hb'⟩, _, gl _ _ hd'⟩, rfl, (fun v e => ⟨b, false, _, some d, (Option.some.inj e).symm, gl _ _ hb'⟩), fun H4 g4 => ⟨true, rfl, iteF ?_⟩⟩
    have G := gl.trans g4
    have xf : XF K c_NoPack "good" := ⟨B.i_NoPack.gg, B.a_NoPack.dct, B.n_NoPack⟩
    exact ⟨_, rfl, rfl, _, rfl, dTI rfl ⟨_, rfl, b, c_NoPack, d, _, _, false, rfl, G _ _ hb', G _ _ hd', xf, rfl, _, rfl, rfl, d2' (Q := fun v => Q v _) rfl (q _ (gh.trans G))⟩⟩
  · refine ⟨_, rfl, rfl, _, rfl, dFI (by decide) ⟨_, rfl, rfl, _, rfl, dTI rfl ⟨_, rfl, (by show 1 ≤ sizeLine; decide), fun x na => init_of na fun d H2 g ea ed ne gd edd => ⟨rfl, d, ea, fun b hb => ⟨c_NoRow, true, rfl, B.s_NoRow_StoveError, iteT ?_⟩⟩⟩⟩⟩
    have gh : Same H (L2.upd (del H2 x) b (excO b (.ref c_NoRow) (some d))) := sUpd gd (by
      cases z : H b with
      | none => rfl
      | some o => rw [gd _ _ z] at hb; cases hb) _
    have hd' : L2.upd (del H2 x) b (excO b (.ref c_NoRow) (some d)) d = some (.xd [("at", .int n)]) := by
      rw [upd_ne (ne_of_none edd hb)]
      exact edd
    have hb' : L2.upd (del H2 x) b (excO b (.ref c_NoRow) (some d)) b = some (excO b (.ref c_NoRow) (some d)) := upd_same
    generalize L2.upd (del H2 x) b (excO b (.ref c_NoRow) (some d)) = H3 at gh hd' hb' ⊢
    refine ⟨_, rfl, (by show 4 ≤ sizeLine; decide), fun l nl => ⟨_, rfl, l, _, _, _, rfl, rfl, SqL.of upd_same, rfl, ?_⟩⟩
    have gl := same_new nl (.lst [.int 10, .int 11, .int 14, .int 15])
    refine ⟨b, c_NoRow, some d, 11, rfl, ⟨⟨false, gl _ _ hb'⟩, _, gl _ _ hd'⟩, rfl, (fun v e => ⟨b, false, _, some d, (Option.some.inj e).symm, gl _ _ hb'⟩), fun H4 g4 => ⟨true, rfl, iteF ?_⟩⟩
    have G := gl.trans g4
    have xf : XF K c_NoRow "at" := ⟨B.i_NoRow.gg, B.a_NoRow.dct, B.n_NoRow⟩
    exact ⟨_, rfl, rfl, _, rfl, dFI (by decide) ⟨_, rfl, rfl, _, rfl, dTI rfl ⟨_, rfl, b, c_NoRow, d, _, _, false, rfl, G _ _ hb', G _ _ hd', xf, rfl, _, rfl, rfl, _, rfl, dT rfl ⟨_, rfl, b, c_NoRow, d, _, _, false, rfl, G _ _ hb', G _ _ hd', xf, rfl, _, _, "bool", false, rfl, .int _, (by kernel_rfl), _, rfl, q _ (gh.trans G)⟩⟩⟩⟩
  · refine ⟨_, rfl, rfl, _, rfl, dFI (by decide) ⟨_, rfl, rfl, _, rfl, dFI (by decide) ⟨_, rfl, rfl, _, rfl, dTI rfl ⟨_, rfl, (by show 1 ≤ sizeLine; decide), fun x na => init_of na fun d H2 g ea ed ne gd edd => ⟨rfl, d, ea, fun b hb => ⟨c_TooFew, true, rfl, B.s_TooFew_StoveError, iteT ?_⟩⟩⟩⟩⟩⟩
    have gh : Same H (L2.upd (del H2 x) b (excO b (.ref c_TooFew) (some d))) := sUpd gd (by
      cases z : H b with
      | none => rfl
      | some o => rw [gd _ _ z] at hb; cases hb) _
    have hd' : L2.upd (del H2 x) b (excO b (.ref c_TooFew) (some d)) d = some (.xd [("tool", .str t)]) := by
      rw [upd_ne (ne_of_none edd hb)]
      exact edd
    have hb' : L2.upd (del H2 x) b (excO b (.ref c_TooFew) (some d)) b = some (excO b (.ref c_TooFew) (some d)) := upd_same
    generalize L2.upd (del H2 x) b (excO b (.ref c_TooFew) (some d)) = H3 at gh hd' hb' ⊢
    refine ⟨_, rfl, (by show 4 ≤ sizeLine; decide), fun l nl => ⟨_, rfl, l, _, _, _, rfl, rfl, SqL.of upd_same, rfl, ?_⟩⟩
    have gl := same_new nl (.lst [.int 10, .int 11, .int 14, .int 15])
    refine ⟨b, c_TooFew, some d, 14, rfl, ⟨⟨false, gl _ _ hb'⟩, _, gl _ _ hd'⟩, rfl, (fun v e => ⟨b, false, _, some d, (Option.some.inj e).symm, gl _ _ hb'⟩), fun H4 g4 => ⟨true, rfl, iteF ?_⟩⟩
    have G := gl.trans g4
    have xf : XF K c_TooFew "tool" := ⟨B.i_TooFew.gg, B.a_TooFew.dct, B.n_TooFew⟩
    exact ⟨_, rfl, rfl, _, rfl, dFI (by decide) ⟨_, rfl, rfl, _, rfl, dFI (by decide) ⟨_, rfl, rfl, _, rfl, dTI rfl ⟨_, rfl, b, c_TooFew, d, _, _, false, rfl, G _ _ hb', G _ _ hd', xf, rfl, _, rfl, rfl, d2' (Q := fun v => Q v _) rfl (q _ (gh.trans G))⟩⟩⟩⟩
  · refine ⟨_, rfl, rfl, _, rfl, dFI (by decide) ⟨_, rfl, rfl, _, rfl, dFI (by decide) ⟨_, rfl, rfl, _, rfl, dFI (by decide) ⟨_, rfl, (by show 1 ≤ sizeLine; decide), fun x na => init_of na fun d H2 g ea ed ne gd edd => ⟨rfl, d, ea, fun b hb => ⟨c_NoDish, true, rfl, B.s_NoDish_StoveError, iteT ?_⟩⟩⟩⟩⟩⟩
    have gh : Same H (L2.upd (del H2 x) b (excO b (.ref c_NoDish) (some d))) := sUpd gd (by
      cases z : H b with
      | none => rfl
      | some o => rw [gd _ _ z] at hb; cases hb) _
    have hd' : L2.upd (del H2 x) b (excO b (.ref c_NoDish) (some d)) d = some (.xd [("dish", .str t)]) := by
      rw [upd_ne (ne_of_none edd hb)]
      exact edd
    have hb' : L2.upd (del H2 x) b (excO b (.ref c_NoDish) (some d)) b = some (excO b (.ref c_NoDish) (some d)) := upd_same
    generalize L2.upd (del H2 x) b (excO b (.ref c_NoDish) (some d)) = H3 at gh hd' hb' ⊢
    refine ⟨_, rfl, (by show 4 ≤ sizeLine; decide), fun l nl => ⟨_, rfl, l, _, _, _, rfl, rfl, SqL.of upd_same, rfl, ?_⟩⟩
    have gl := same_new nl (.lst [.int 10, .int 11, .int 14, .int 15])
    refine ⟨b, c_NoDish, some d, 15, rfl, ⟨⟨false, gl _ _ hb'⟩, _, gl _ _ hd'⟩, rfl, (fun v e => ⟨b, false, _, some d, (Option.some.inj e).symm, gl _ _ hb'⟩), fun H4 g4 => ⟨true, rfl, iteF ?_⟩⟩
    have G := gl.trans g4
    have xf : XF K c_NoDish "dish" := ⟨B.i_NoDish.gg, B.a_NoDish.dct, B.n_NoDish⟩
    exact ⟨_, rfl, rfl, _, rfl, dFI (by decide) ⟨_, rfl, rfl, _, rfl, dFI (by decide) ⟨_, rfl, rfl, _, rfl, dFI (by decide) ⟨_, rfl, b, c_NoDish, d, _, _, false, rfl, G _ _ hb', G _ _ hd', xf, rfl, _, rfl, rfl, d2' (Q := fun v => Q v _) rfl (q _ (gh.trans G))⟩⟩⟩⟩

theorem sclaw : FnScope ["_law_script", "_law_cell", "_law_names", "_law_number", "_law_word", "_law_other", "_law_some", "_law_k", "_law_ring", "_law_lost", "_law_pack", "_law_row", "_law_step", "_law_twice", "_law_few", "_law_dish", "_law_made"] ["_law_script"] (defScope slaw) := ⟨rfl, rfl, rfl, by decide +kernel, rfl, by decide +kernel, by decide +kernel⟩
set_option maxHeartbeats 4000000 in
theorem oklaw {dV : Value} (F : FunD K "law" "law" slaw dV f fd) (B : Bn K mg c_EmptyHeap c_InRing c_NoAmount c_NoDish c_NoName c_NoNet c_NoNumber c_NoPack c_NoPlan c_NoRow c_NoStand c_NoStandIn c_NoStep c_StoveError c_TooFew c_TooMany c_Twice) (D_law_cell_at : Dx P w K mg base CX0 1 "_law_cell_at" ["_law_script", "_law_k"] [] (spCell K)) (D_law_name : Dx P w K mg base CX0 1 "_law_name" ["_law_cell", "_law_k"] [] spText) (D_law_bare : Dx P w K mg base CX0 1 "_law_bare" ["_law_text"] [] (spBare [c_NoNumber, c_NoAmount, c_NoName, c_NoStand, c_TooMany, c_NoNet, c_NoPlan, c_EmptyHeap, c_InRing, c_NoStandIn, c_NoPack, c_NoRow, c_NoStep, c_Twice, c_TooFew, c_NoDish])) (D_law_alone : Dx P w K mg base CX0 2 "_law_alone" ["_law_e", "_law_at"] [] (spAlone K [c_NoNumber, c_NoAmount, c_NoName, c_NoStand, c_TooMany, c_NoNet, c_NoPlan, c_EmptyHeap, c_InRing, c_NoStandIn, c_NoPack, c_NoRow, c_NoStep, c_Twice, c_TooFew, c_NoDish] none)) (D_law_raised : Dx P w K mg base CX0 3 "_law_raised" ["_law_kind", "_law_word", "_law_number"] [] spRaised) (I_InRing : DxI P w K mg base 1 c_InRing ["self", "ring"] (spInit c_InRing "ring")) (I_NoStandIn : DxI P w K mg base 1 c_NoStandIn ["self", "good"] (spInit c_NoStandIn "good")) (I_NoPack : DxI P w K mg base 1 c_NoPack ["self", "good"] (spInit c_NoPack "good")) (I_NoRow : DxI P w K mg base 1 c_NoRow ["self", "at"] (spInit c_NoRow "at")) (I_NoStep : DxI P w K mg base 1 c_NoStep ["self", "at"] (spInit c_NoStep "at")) (I_Twice : DxI P w K mg base 1 c_Twice ["self", "at"] (spInit c_Twice "at")) (I_TooFew : DxI P w K mg base 1 c_TooFew ["self", "tool"] (spInit c_TooFew "tool")) (I_NoDish : DxI P w K mg base 1 c_NoDish ["self", "dish"] (spInit c_NoDish "dish")) : FnOk P w K mg base CX0 4 f fd ["_law_script"] (spLaw K) := by
  have sc := sclaw
  refine F.ok sc (fun vs H Q E h => ?_) (fun cdv A outer s H vs Q E hr h => ?_)
  · obtain ⟨a, ns, rfl, _⟩ := h
    rfl
  obtain ⟨a, ns, rfl, hS, h63, qq⟩ := h
  refine ⟨_, (pss_cons (ps_set (i := 1) sc.nd rfl (Or.inr rfl) (pcall0 D_law_cell_at hr (by decide) rfl (pa_cons (pv 0) (pa_cons pe_int pa_nil)))) (pss_cons (ps_compH (hd := none) (own := "_law_k") (ys := ["_law_cell"]) (js := [1]) sc.nd (i := 2) rfl rfl hr.hd (cok (atc atn) (.cons rfl .nil) (by decide) rfl rfl rfl rfl rfl rfl rfl rfl) (pi_rangeH rfl B.b_range (pa_cons (pe_op op_add pe_int (pe_op op_modN (pcall0 D_law_cell_at hr (by decide) rfl (pa_cons (pv 0) (pa_cons pe_int pa_nil))) pe_int)) pa_nil)) (fun C fp s H => (pcall0 D_law_name hr (by decide) rfl (pa_cons (pv 1) (pa_cons (pv 0) pa_nil))))) (pss_cons (ps_set (i := 3) sc.nd rfl (Or.inr rfl) (pe_op op_add (pe_op op_sub (pe_op op_modN (pcall0 D_law_cell_at hr (by decide) rfl (pa_cons (pv 0) (pa_cons pe_int pa_nil))) (pe_op op_sub (pe_op op_mulB pe_int (pe_op op_powB pe_int pe_int)) pe_int)) (pe_op op_powB pe_int pe_int)) pe_int)) (pss_cons (ps_set (i := 4) sc.nd rfl (Or.inr rfl) (pcall0 D_law_name hr (by decide) rfl (pa_cons (pcall0 D_law_cell_at hr (by decide) rfl (pa_cons (pv 0) (pa_cons pe_int pa_nil))) (pa_cons pe_int pa_nil)))) (pss_cons (ps_set (i := 5) sc.nd rfl (Or.inl rfl) (pcall0 D_law_name hr (by decide) rfl (pa_cons (pcall0 D_law_cell_at hr (by decide) rfl (pa_cons (pv 0) (pa_cons pe_int pa_nil))) (pa_cons pe_int pa_nil)))) (pss_cons (ps_set (i := 6) sc.nd rfl (Or.inl rfl) (pcall0 D_law_bare hr (by decide) rfl (pa_cons (pv 4) pa_nil))) (pss_cons (ps_for PassesOwn.never rfl (pi_range1 rfl B.b_range (pa_cons pe_int pa_nil)) (pg_name (i := 7) sc.nd rfl (Or.inl rfl)) (pss_one (ps_if (pt_not (pt_val (pcall0 D_law_alone hr (by decide) rfl (pa_cons (pe_ix ix_list (pv 6) (pv 7) (fun _ _ => rfl)) (pa_cons (pv 7) pa_nil))))) (pss_one (ps_ret pe_bl)) pss_nil))) (pss_cons (ps_set (i := 8) sc.nd rfl (Or.inl rfl) (pmakeI I_InRing hr (by decide) rfl B.m_InRing (pa_cons (pe_callTy call_list_of rfl B.b_list boot_list (pa_cons (pv 2) pa_nil)) pa_nil))) (pss_cons (ps_set (i := 9) sc.nd rfl (Or.inl rfl) (pmakeI I_NoStandIn hr (by decide) rfl B.m_NoStandIn (pa_cons (pv 4) pa_nil))) (pss_cons (ps_set (i := 10) sc.nd rfl (Or.inl rfl) (pmakeI I_NoPack hr (by decide) rfl B.m_NoPack (pa_cons (pv 5) pa_nil))) (pss_cons (ps_set (i := 11) sc.nd rfl (Or.inl rfl) (pmakeI I_NoRow hr (by decide) rfl B.m_NoRow (pa_cons (pv 3) pa_nil))) (pss_cons (ps_set (i := 12) sc.nd rfl (Or.inl rfl) (pmakeI I_NoStep hr (by decide) rfl B.m_NoStep (pa_cons (pe_op op_add (pv 3) pe_int) pa_nil))) (pss_cons (ps_set (i := 13) sc.nd rfl (Or.inl rfl) (pmakeI I_Twice hr (by decide) rfl B.m_Twice (pa_cons (pe_op op_add (pv 3) pe_int) pa_nil))) (pss_cons (ps_set (i := 14) sc.nd rfl (Or.inl rfl) (pmakeI I_TooFew hr (by decide) rfl B.m_TooFew (pa_cons (pv 4) pa_nil))) (pss_cons (ps_set (i := 15) sc.nd rfl (Or.inl rfl) (pmakeI I_NoDish hr (by decide) rfl B.m_NoDish (pa_cons (pv 5) pa_nil))) (pss_cons (ps_set (i := 16) sc.nd rfl (Or.inl rfl) (pe_lst (pa_cons (pv 8) (pa_cons (pv 9) (pa_cons (pv 10) (pa_cons (pv 11) (pa_cons (pv 12) (pa_cons (pv 13) (pa_cons (pv 14) (pa_cons (pv 15) pa_nil)))))))))) (pss_cons (ps_for PassesOwn.never rfl (pi_range1 rfl B.b_range (pa_cons pe_int pa_nil)) (pg_name (i := 7) sc.nd rfl (Or.inl rfl)) (pss_one (ps_if (pt_not (pt_val (pcall0 D_law_alone hr (by decide) rfl (pa_cons (pe_ix ix_list (pv 16) (pv 7) (fun _ _ => rfl)) (pa_cons (pe_op op_add pe_int (pv 7)) pa_nil))))) (pss_one (ps_ret pe_bl)) pss_nil))) (pss_cons (ps_if (PW.pt (pw_or (pt_not (pt_val (pe_callB (call_isiT (K := K) rfl) rfl B.b_isinstance boot_isinstance (pa_cons (pe_fldX (K := K) rfl (pv 8) rfl) (pa_cons (pe_bltn (v := .ty "list") rfl B.b_list boot_list rfl) pa_nil))))) (pw_or (pt_cmpR (op_neS hr.units0) (pe_fldX (K := K) rfl (pv 8) rfl) (pv 2) (nomark _)) (pw_or (pt_cmpR op_ne (pe_fldX (K := K) rfl (pv 9) rfl) (pv 4) (nomark _)) (pw_or1 (pt_cmpR op_ne (pe_fldX (K := K) rfl (pv 10) rfl) (pv 5) (nomark _))))))) (pss_one (ps_ret pe_bl)) pss_nil) (pss_cons (ps_if (PW.pt (pw_or (pt_cmpR op_ne (pe_fldX (K := K) rfl (pv 11) rfl) (pv 3) (nomark _)) (pw_or (pt_cmpR op_ne (pe_fldX (K := K) rfl (pv 12) rfl) (pe_op op_add (pv 3) pe_int) (nomark _)) (pw_or1 (pt_cmpR op_ne (pe_fldX (K := K) rfl (pv 13) rfl) (pe_op op_add (pv 3) pe_int) (nomark _)))))) (pss_one (ps_ret pe_bl)) pss_nil) (pss_cons (ps_if (PW.pt (pw_or (pt_cmpR op_ne (pe_fldX (K := K) rfl (pv 14) rfl) (pv 4) (nomark _)) (pw_or1 (pt_cmpR op_ne (pe_fldX (K := K) rfl (pv 15) rfl) (pv 5) (nomark _))))) (pss_one (ps_ret pe_bl)) pss_nil) (pss_one (ps_ret (pe_callB (call_allB rfl) rfl B.b_all boot_all (pa_cons (pe_compH (hd := none) (own := "_law_kind") (ys := ["_law_word", "_law_number"]) (js := [4, 3]) hr.hd (cok (atc (atc atn)) (.cons rfl (.cons rfl .nil)) (by decide) rfl rfl rfl rfl rfl rfl rfl rfl) (pi_rangeH rfl B.b_range (pa_cons pe_int pa_nil)) (fun C fp s H => (pcall0 D_law_raised hr (by decide) rfl (pa_cons (pv 0) (pa_cons (pv 1) (pa_cons (pv 2) pa_nil)))))) pa_nil)))))))))))))))))))))))), ?_⟩
  refine ⟨_, rfl, a, ns, 0, rfl, hS, (by decide), fun c0 => ?_⟩
  refine ⟨_, rfl, a, ns, 1, rfl, hS, (by decide), fun c1 => ?_⟩
  have r0 := Int.fmod_nonneg_of_pos c1 (show (0 : Int) < 30 by decide)
  have r1 := Int.fmod_lt_of_pos c1 (show (0 : Int) < 30 by decide)
  refine ⟨_, _, rfl, rfl, (by show (30 : Int) ≠ 0; decide), _, _, rfl, rfl, _, rfl, (by omega), (by omega), comp_by (fun _ y => ∃ t, y = V.str t) HdOk.no (Nat.le_trans (show (1 + c1.fmod 30).toNat ≤ 30 by omega) (by decide)) (fun j hj H3 g3 Q' hq => ⟨_, rfl, _, rfl, c0, _, rfl, (by omega), (by omega), fun t => hq _ _ ⟨t, rfl⟩ (fun _ _ z => z)⟩) (fun p ys H1 np hl hP g1 e1 => ?_)⟩
  have S1 := g1.seq hS
  have sm : ∀ z ∈ ys, Smp z := fun z hz => by
    obtain ⟨i, hi, rfl⟩ := List.getElem_of_mem hz
    obtain ⟨t, e⟩ := hP i _ (List.getElem?_eq_getElem hi)
    rw [e]
    trivial
  refine ⟨_, rfl, a, ns, 2, rfl, S1, (by decide), fun c2 => ⟨_, _, rfl, rfl, ⟨by decide, by decide⟩, _, _, rfl, rfl, IntMulOk.of_left (by decide), _, _, rfl, rfl, _, _, rfl, rfl, (by show (2 * 10 ^ 60 - 3 : Int) ≠ 0; decide), _, _, rfl, rfl, ⟨by decide, by decide⟩, _, _, rfl, rfl, _, _, rfl, rfl, ?_⟩⟩
  show L2.tSeq _ _ _ [some (.ref a), some (.int c0), some (.ref p), some (.int (c2.fmod (2 * 10 ^ 60 - 3) - 10 ^ 60 + 1)), none, none, none, none, none, none, none, none, none, none, none, none, none] H1
  generalize c2.fmod (2 * 10 ^ 60 - 3) - 10 ^ 60 + 1 = n
  refine ⟨_, rfl, a, ns, 3, rfl, S1, (by decide), fun c3 => ⟨_, _, rfl, (by decide), (by decide), fun t => ?_⟩⟩
  refine ⟨_, rfl, a, ns, 3, rfl, S1, (by decide), fun c4 => ⟨_, _, rfl, (by decide), (by decide), fun u => ?_⟩⟩
  refine ⟨_, rfl, t, rfl, fun l as H2 g2 hl2 hP2 e2 => ?_⟩
  refine ⟨_, rfl, (by decide), (by decide), ?_⟩
  refine for_range (n := (8 : Int).toNat) (fun i σ H' => ∃ o7 : Option V, σ = [some (.ref a), some (.int c0), some (.ref p), some (.int n), some (.str t), some (.str u), some (.ref l), o7, none, none, none, none, none, none, none, none, none] ∧ Same H2 H') ⟨_, rfl, fun _ _ z => z⟩ (fun i σ H' hi hQ => ?_) (fun σ H' hQ => ?_)
  · obtain ⟨o7, rfl, g⟩ := hQ
    have hi' : i < as.length := by rw [hl2]; exact hi
    obtain ⟨C, hC, hx⟩ := hP2 i _ (List.getElem?_eq_getElem hi')
    refine ⟨_, rfl, _, rfl, l, _, _, V.ref as[i], rfl, rfl, SqL.of (g _ _ e2), atI_0 (by rw [List.getElem?_map, List.getElem?_eq_getElem hi']; rfl), _, rfl, as[i], C, none, i, (by rw [Int.zero_add]; rfl), hx.same g, ?_, HdOk.no, fun H3 g3 => ⟨true, rfl, iteF ⟨_, rfl, g.trans g3⟩⟩⟩
    exact hC
  obtain ⟨o7, rfl, g3⟩ := hQ
  have e3 := g3 _ _ (g2 _ _ e1)
  refine ⟨_, rfl, p, ys, rfl, .inl (SqL.of e3), fun q nq => ⟨(by show 1 ≤ sizeLine; decide), fun a0 n0 => init_of n0 fun d0 H4 g4 ea0 ed0 _ _ _ => ⟨rfl, ?_⟩⟩⟩
  have gq := same_new nq (.lst ys)
  have eq4 := g4 _ _ (upd_same (H := H') (a := q) (o := .lst ys))
  have ep4 := g4 _ _ (gq _ _ e3)
  refine ⟨_, rfl, (by show 1 ≤ sizeLine; decide), fun a1 n1 => init_of n1 fun d1 H5 g5 ea1 ed1 _ _ _ => ⟨rfl, ?_⟩⟩
  refine ⟨_, rfl, (by show 1 ≤ sizeLine; decide), fun a2 n2 => init_of n2 fun d2 H6 g6 ea2 ed2 _ _ _ => ⟨rfl, ?_⟩⟩
  refine ⟨_, rfl, (by show 1 ≤ sizeLine; decide), fun a3 n3 => init_of n3 fun d3 H7 g7 ea3 ed3 _ _ _ => ⟨rfl, ?_⟩⟩
  refine ⟨_, rfl, _, _, rfl, rfl, (by show 1 ≤ sizeLine; decide), fun a4 n4 => init_of n4 fun d4 H8 g8 ea4 ed4 _ _ _ => ⟨rfl, ?_⟩⟩
  refine ⟨_, rfl, _, _, rfl, rfl, (by show 1 ≤ sizeLine; decide), fun a5 n5 => init_of n5 fun d5 H9 g9 ea5 ed5 _ _ _ => ⟨rfl, ?_⟩⟩
  refine ⟨_, rfl, (by show 1 ≤ sizeLine; decide), fun a6 n6 => init_of n6 fun d6 H10 g10 ea6 ed6 _ _ _ => ⟨rfl, ?_⟩⟩
  refine ⟨_, rfl, (by show 1 ≤ sizeLine; decide), fun a7 n7 => init_of n7 fun d7 H11 g11 ea7 ed7 _ _ _ => ⟨rfl, ?_⟩⟩
  have G7 : Same H11 H11 := fun _ _ z => z
  have G6 : Same H10 H11 := g11.trans G7
  have G5 : Same H9 H11 := g10.trans G6
  have G4 : Same H8 H11 := g9.trans G5
  have G3 : Same H7 H11 := g8.trans G4
  have G2 : Same H6 H11 := g7.trans G3
  have G1 : Same H5 H11 := g6.trans G2
  have G0 : Same H4 H11 := g5.trans G1
  refine ⟨_, rfl, _, rfl, _, rfl, _, rfl, _, rfl, _, rfl, _, rfl, _, rfl, (by show 8 ≤ sizeLine; decide), fun lm nm => ?_⟩
  have gm := same_new nm (.lst [.ref a0, .ref a1, .ref a2, .ref a3, .ref a4, .ref a5, .ref a6, .ref a7])
  have em := upd_same (H := H11) (a := lm) (o := .lst [.ref a0, .ref a1, .ref a2, .ref a3, .ref a4, .ref a5, .ref a6, .ref a7])
  have xa0 := gm _ _ (G0 _ _ ea0)
  have xd0 := gm _ _ (G0 _ _ ed0)
  have xa1 := gm _ _ (G1 _ _ ea1)
  have xd1 := gm _ _ (G1 _ _ ed1)
  have xa2 := gm _ _ (G2 _ _ ea2)
  have xd2 := gm _ _ (G2 _ _ ed2)
  have xa3 := gm _ _ (G3 _ _ ea3)
  have xd3 := gm _ _ (G3 _ _ ed3)
  have xa4 := gm _ _ (G4 _ _ ea4)
  have xd4 := gm _ _ (G4 _ _ ed4)
  have xa5 := gm _ _ (G5 _ _ ea5)
  have xd5 := gm _ _ (G5 _ _ ed5)
  have xa6 := gm _ _ (G6 _ _ ea6)
  have xd6 := gm _ _ (G6 _ _ ed6)
  have xa7 := gm _ _ (G7 _ _ ea7)
  have xd7 := gm _ _ (G7 _ _ ed7)
  have eqm := gm _ _ (G0 _ _ eq4)
  have epm := gm _ _ (G0 _ _ ep4)
  generalize L2.upd H11 lm (.lst [.ref a0, .ref a1, .ref a2, .ref a3, .ref a4, .ref a5, .ref a6, .ref a7]) = H12 at em eqm epm xa0 xd0 xa1 xd1 xa2 xd2 xa3 xd3 xa4 xd4 xa5 xd5 xa6 xd6 xa7 xd7 ⊢
  have hM : ∀ i, i < 8 → ∃ x C d, ([V.ref a0, V.ref a1, V.ref a2, V.ref a3, V.ref a4, V.ref a5, V.ref a6, V.ref a7] : List V)[i]? = some (.ref x) ∧ ([c_NoNumber, c_NoAmount, c_NoName, c_NoStand, c_TooMany, c_NoNet, c_NoPlan, c_EmptyHeap, c_InRing, c_NoStandIn, c_NoPack, c_NoRow, c_NoStep, c_Twice, c_TooFew, c_NoDish] : List Addr)[8 + i]? = some C ∧ IsX H12 x C (some d) := fun i hi => by
    match i, hi with
    | 0, _ => exact ⟨a0, c_InRing, d0, rfl, rfl, ⟨true, xa0⟩, _, xd0⟩
    | 1, _ => exact ⟨a1, c_NoStandIn, d1, rfl, rfl, ⟨true, xa1⟩, _, xd1⟩
    | 2, _ => exact ⟨a2, c_NoPack, d2, rfl, rfl, ⟨true, xa2⟩, _, xd2⟩
    | 3, _ => exact ⟨a3, c_NoRow, d3, rfl, rfl, ⟨true, xa3⟩, _, xd3⟩
    | 4, _ => exact ⟨a4, c_NoStep, d4, rfl, rfl, ⟨true, xa4⟩, _, xd4⟩
    | 5, _ => exact ⟨a5, c_Twice, d5, rfl, rfl, ⟨true, xa5⟩, _, xd5⟩
    | 6, _ => exact ⟨a6, c_TooFew, d6, rfl, rfl, ⟨true, xa6⟩, _, xd6⟩
    | 7, _ => exact ⟨a7, c_NoDish, d7, rfl, rfl, ⟨true, xa7⟩, _, xd7⟩
    | n + 8, h => omega
  refine ⟨_, rfl, (by decide), (by decide), ?_⟩
  refine for_range (n := (8 : Int).toNat) (fun i σ H' => ∃ o7 : Option V, σ = [some (.ref a), some (.int c0), some (.ref p), some (.int n), some (.str t), some (.str u), some (.ref l), o7, some (.ref a0), some (.ref a1), some (.ref a2), some (.ref a3), some (.ref a4), some (.ref a5), some (.ref a6), some (.ref a7), some (.ref lm)] ∧ Same H12 H') ⟨_, rfl, fun _ _ z => z⟩ (fun i σ H' hi hQ => ?_) (fun σ H' hQ => ?_)
  · obtain ⟨o7, rfl, g⟩ := hQ
    obtain ⟨x, C, d, hx1, hC, hx⟩ := hM i hi
    refine ⟨_, rfl, _, rfl, lm, _, _, V.ref x, rfl, rfl, SqL.of (g _ _ em), atI_0 hx1, _, rfl, _, _, rfl, rfl, x, C, some d, 8 + i, (by rw [Int.zero_add]; push_cast; rfl), hx.same g, ?_, HdOk.no, fun H3 g3 => ⟨true, rfl, iteF ⟨_, rfl, g.trans g3⟩⟩⟩
    exact hC
  obtain ⟨o7, rfl, gz⟩ := hQ
  have xf0 : XF K c_InRing "ring" := ⟨B.i_InRing.gg, B.a_InRing.dct, B.n_InRing⟩
  have xf1 : XF K c_NoStandIn "good" := ⟨B.i_NoStandIn.gg, B.a_NoStandIn.dct, B.n_NoStandIn⟩
  have xf2 : XF K c_NoPack "good" := ⟨B.i_NoPack.gg, B.a_NoPack.dct, B.n_NoPack⟩
  have xf3 : XF K c_NoRow "at" := ⟨B.i_NoRow.gg, B.a_NoRow.dct, B.n_NoRow⟩
  have xf4 : XF K c_NoStep "at" := ⟨B.i_NoStep.gg, B.a_NoStep.dct, B.n_NoStep⟩
  have xf5 : XF K c_Twice "at" := ⟨B.i_Twice.gg, B.a_Twice.dct, B.n_Twice⟩
  have xf6 : XF K c_TooFew "tool" := ⟨B.i_TooFew.gg, B.a_TooFew.dct, B.n_TooFew⟩
  have xf7 : XF K c_NoDish "dish" := ⟨B.i_NoDish.gg, B.a_NoDish.dct, B.n_NoDish⟩
  refine ⟨_, rfl, a0, c_InRing, d0, _, _, true, rfl, gz _ _ xa0, gz _ _ xd0, xf0, rfl, _, _, "list", true, rfl, .lst (gz _ _ eqm), (by kernel_rfl), true, rfl, iteF ⟨_, rfl, a0, c_InRing, d0, _, _, true, rfl, gz _ _ xa0, gz _ _ xd0, xf0, rfl, _, rfl, q, p, ys, rfl, rfl, SqL.of (gz _ _ eqm), SqL.of (gz _ _ epm), sm, _, rfl, iteF ⟨_, rfl, a1, c_NoStandIn, d1, _, _, true, rfl, gz _ _ xa1, gz _ _ xd1, xf1, rfl, _, rfl, rfl, _, rfl, nF rfl ⟨_, rfl, a2, c_NoPack, d2, _, _, true, rfl, gz _ _ xa2, gz _ _ xd2, xf2, rfl, _, rfl, rfl, _, rfl, nF rfl ?_⟩⟩⟩⟩
  refine ⟨_, rfl, a3, c_NoRow, d3, _, _, true, rfl, gz _ _ xa3, gz _ _ xd3, xf3, rfl, _, rfl, rfl, _, rfl, nF rfl ⟨_, rfl, a4, c_NoStep, d4, _, _, true, rfl, gz _ _ xa4, gz _ _ xd4, xf4, rfl, _, rfl, _, _, rfl, rfl, rfl, _, rfl, nF rfl ⟨_, rfl, a5, c_Twice, d5, _, _, true, rfl, gz _ _ xa5, gz _ _ xd5, xf5, rfl, _, rfl, _, _, rfl, rfl, rfl, _, rfl, nF rfl ?_⟩⟩⟩
  refine ⟨_, rfl, a6, c_TooFew, d6, _, _, true, rfl, gz _ _ xa6, gz _ _ xd6, xf6, rfl, _, rfl, rfl, _, rfl, nF rfl ⟨_, rfl, a7, c_NoDish, d7, _, _, true, rfl, gz _ _ xa7, gz _ _ xd7, xf7, rfl, _, rfl, rfl, _, rfl, nF rfl ?_⟩⟩
  refine ⟨_, rfl, (by decide), (by decide), comp_by (fun _ y => y = V.bl true) HdOk.no (by show 4 ≤ sizeLine; decide) (fun j hj H3 g3 Q' hq => ⟨_, rfl, _, rfl, _, rfl, _, _, _, rfl, ?_, ?_, fun H' g' => hq _ _ rfl g'⟩) (fun pp zs H5 npp hlz hPz gg ez => ?_)⟩
  · omega
  · have : j < 4 := hj
    omega
  · exact ⟨pp, zs, rfl, SqL.of ez, (fun z hz => by
      obtain ⟨i, hi, rfl⟩ := List.getElem_of_mem hz
      exact hPz i _ (List.getElem?_eq_getElem hi)), qq _⟩

end
set_option maxHeartbeats 4000000 in
theorem all_mk {l : PySem.W.OpenLaw} {w : World} {K : PySem.W.Frag} {h : Heap} {mg : Str → Option Value} {fa f_law_cell_at f_law_name f_law_kinds f_law_bare f_law_alone f_law_raised flaw c_EmptyHeap c_InRing c_NoAmount c_NoDish c_NoName c_NoNet c_NoNumber c_NoPack c_NoPlan c_NoRow c_NoStand c_NoStandIn c_NoStep c_StoveError c_TooFew c_TooMany c_Twice f_InRing f_NoStandIn f_NoPack f_NoRow f_NoStep f_Twice f_TooFew f_NoDish : Addr} (X : K.In h) (G : h.Ns mainGlobals mg) (hfa : mg "law" = some (.ref fa))
    {od_InRing an_InRing : Option Addr} {sl_InRing : Array (Option Value)} {oc_InRing kV_InRing dc_InRing pm_InRing cd_InRing ct_InRing : Value}
    {od_NoStandIn an_NoStandIn : Option Addr} {sl_NoStandIn : Array (Option Value)} {oc_NoStandIn kV_NoStandIn dc_NoStandIn pm_NoStandIn cd_NoStandIn ct_NoStandIn : Value}
    {od_NoPack an_NoPack : Option Addr} {sl_NoPack : Array (Option Value)} {oc_NoPack kV_NoPack dc_NoPack pm_NoPack cd_NoPack ct_NoPack : Value}
    {od_NoRow an_NoRow : Option Addr} {sl_NoRow : Array (Option Value)} {oc_NoRow kV_NoRow dc_NoRow pm_NoRow cd_NoRow ct_NoRow : Value}
    {od_NoStep an_NoStep : Option Addr} {sl_NoStep : Array (Option Value)} {oc_NoStep kV_NoStep dc_NoStep pm_NoStep cd_NoStep ct_NoStep : Value}
    {od_Twice an_Twice : Option Addr} {sl_Twice : Array (Option Value)} {oc_Twice kV_Twice dc_Twice pm_Twice cd_Twice ct_Twice : Value}
    {od_TooFew an_TooFew : Option Addr} {sl_TooFew : Array (Option Value)} {oc_TooFew kV_TooFew dc_TooFew pm_TooFew cd_TooFew ct_TooFew : Value}
    {od_NoDish an_NoDish : Option Addr} {sl_NoDish : Array (Option Value)} {oc_NoDish kV_NoDish dc_NoDish pm_NoDish cd_NoDish ct_NoDish : Value}
    {od_law_cell_at an_law_cell_at : Option Addr} {sl_law_cell_at : Array (Option Value)} {oc_law_cell_at kV_law_cell_at dc_law_cell_at pm_law_cell_at cd_law_cell_at ct_law_cell_at : Value}
    {od_law_name an_law_name : Option Addr} {sl_law_name : Array (Option Value)} {oc_law_name kV_law_name dc_law_name pm_law_name cd_law_name ct_law_name : Value}
    {od_law_kinds an_law_kinds : Option Addr} {sl_law_kinds : Array (Option Value)} {oc_law_kinds kV_law_kinds dc_law_kinds pm_law_kinds cd_law_kinds ct_law_kinds : Value}
    {od_law_bare an_law_bare : Option Addr} {sl_law_bare : Array (Option Value)} {oc_law_bare kV_law_bare dc_law_bare pm_law_bare cd_law_bare ct_law_bare : Value}
    {od_law_alone an_law_alone : Option Addr} {sl_law_alone : Array (Option Value)} {oc_law_alone kV_law_alone dc_law_alone pm_law_alone cd_law_alone ct_law_alone : Value}
    {od_law_raised an_law_raised : Option Addr} {sl_law_raised : Array (Option Value)} {oc_law_raised kV_law_raised dc_law_raised pm_law_raised cd_law_raised ct_law_raised : Value}
    {odlaw anlaw : Option Addr} {sllaw : Array (Option Value)} {oclaw kVlaw dclaw pmlaw cdlaw ctlaw : Value}
    (a_law_cell_at : PySem.W.nsIn K mainGlobals "_law_cell_at" = some (some (.ref f_law_cell_at))) (l_law_cell_at : K.lookup f_law_cell_at = some ⟨oc_law_cell_at, od_law_cell_at, .func (PySem.W.fnOf "_law_cell_at" "_law_cell_at" (defArgs s_law_cell_at) (defBody s_law_cell_at) (defScope s_law_cell_at) .none kV_law_cell_at dc_law_cell_at pm_law_cell_at an_law_cell_at cd_law_cell_at ct_law_cell_at), sl_law_cell_at⟩) (c_law_cell_at : PySem.W.codeIn K cd_law_cell_at "_law_cell_at" = true) (k_law_cell_at : PySem.W.keepIn K (.ref f_law_cell_at) = true)
    (a_law_name : PySem.W.nsIn K mainGlobals "_law_name" = some (some (.ref f_law_name))) (l_law_name : K.lookup f_law_name = some ⟨oc_law_name, od_law_name, .func (PySem.W.fnOf "_law_name" "_law_name" (defArgs s_law_name) (defBody s_law_name) (defScope s_law_name) .none kV_law_name dc_law_name pm_law_name an_law_name cd_law_name ct_law_name), sl_law_name⟩) (c_law_name : PySem.W.codeIn K cd_law_name "_law_name" = true) (k_law_name : PySem.W.keepIn K (.ref f_law_name) = true)
    (a_law_kinds : PySem.W.nsIn K mainGlobals "_law_kinds" = some (some (.ref f_law_kinds))) (l_law_kinds : K.lookup f_law_kinds = some ⟨oc_law_kinds, od_law_kinds, .func (PySem.W.fnOf "_law_kinds" "_law_kinds" (defArgs s_law_kinds) (defBody s_law_kinds) (defScope s_law_kinds) .none kV_law_kinds dc_law_kinds pm_law_kinds an_law_kinds cd_law_kinds ct_law_kinds), sl_law_kinds⟩) (c_law_kinds : PySem.W.codeIn K cd_law_kinds "_law_kinds" = true) (k_law_kinds : PySem.W.keepIn K (.ref f_law_kinds) = true)
    (a_law_bare : PySem.W.nsIn K mainGlobals "_law_bare" = some (some (.ref f_law_bare))) (l_law_bare : K.lookup f_law_bare = some ⟨oc_law_bare, od_law_bare, .func (PySem.W.fnOf "_law_bare" "_law_bare" (defArgs s_law_bare) (defBody s_law_bare) (defScope s_law_bare) .none kV_law_bare dc_law_bare pm_law_bare an_law_bare cd_law_bare ct_law_bare), sl_law_bare⟩) (c_law_bare : PySem.W.codeIn K cd_law_bare "_law_bare" = true) (k_law_bare : PySem.W.keepIn K (.ref f_law_bare) = true)
    (a_law_alone : PySem.W.nsIn K mainGlobals "_law_alone" = some (some (.ref f_law_alone))) (l_law_alone : K.lookup f_law_alone = some ⟨oc_law_alone, od_law_alone, .func (PySem.W.fnOf "_law_alone" "_law_alone" (defArgs s_law_alone) (defBody s_law_alone) (defScope s_law_alone) .none kV_law_alone dc_law_alone pm_law_alone an_law_alone cd_law_alone ct_law_alone), sl_law_alone⟩) (c_law_alone : PySem.W.codeIn K cd_law_alone "_law_alone" = true) (k_law_alone : PySem.W.keepIn K (.ref f_law_alone) = true)
    (a_law_raised : PySem.W.nsIn K mainGlobals "_law_raised" = some (some (.ref f_law_raised))) (l_law_raised : K.lookup f_law_raised = some ⟨oc_law_raised, od_law_raised, .func (PySem.W.fnOf "_law_raised" "_law_raised" (defArgs s_law_raised) (defBody s_law_raised) (defScope s_law_raised) .none kV_law_raised dc_law_raised pm_law_raised an_law_raised cd_law_raised ct_law_raised), sl_law_raised⟩) (c_law_raised : PySem.W.codeIn K cd_law_raised "_law_raised" = true) (k_law_raised : PySem.W.keepIn K (.ref f_law_raised) = true)
    (alaw : PySem.W.nsIn K mainGlobals "law" = some (some (.ref flaw))) (llaw : K.lookup flaw = some ⟨oclaw, odlaw, .func (PySem.W.fnOf "law" "law" (defArgs slaw) (defBody slaw) (defScope slaw) .none kVlaw dclaw pmlaw anlaw cdlaw ctlaw), sllaw⟩) (claw : PySem.W.codeIn K cdlaw "law" = true) (klaw : PySem.W.keepIn K (.ref flaw) = true)
    (zb_len : PySem.W.nsIn K mainGlobals "len" = some none)
    (zb_isinstance : PySem.W.nsIn K mainGlobals "isinstance" = some none)
    (zb_bool : PySem.W.nsIn K mainGlobals "bool" = some none)
    (zb_list : PySem.W.nsIn K mainGlobals "list" = some none)
    (zb_all : PySem.W.nsIn K mainGlobals "all" = some none)
    (zb_range : PySem.W.nsIn K mainGlobals "range" = some none)
    (zb_ValueError : PySem.W.nsIn K mainGlobals "ValueError" = some none)
    (zm_EmptyHeap : PySem.W.nsIn K mainGlobals "EmptyHeap" = some (some (.ref c_EmptyHeap)))
    (zm_InRing : PySem.W.nsIn K mainGlobals "InRing" = some (some (.ref c_InRing)))
    (zm_NoAmount : PySem.W.nsIn K mainGlobals "NoAmount" = some (some (.ref c_NoAmount)))
    (zm_NoDish : PySem.W.nsIn K mainGlobals "NoDish" = some (some (.ref c_NoDish)))
    (zm_NoName : PySem.W.nsIn K mainGlobals "NoName" = some (some (.ref c_NoName)))
    (zm_NoNet : PySem.W.nsIn K mainGlobals "NoNet" = some (some (.ref c_NoNet)))
    (zm_NoNumber : PySem.W.nsIn K mainGlobals "NoNumber" = some (some (.ref c_NoNumber)))
    (zm_NoPack : PySem.W.nsIn K mainGlobals "NoPack" = some (some (.ref c_NoPack)))
    (zm_NoPlan : PySem.W.nsIn K mainGlobals "NoPlan" = some (some (.ref c_NoPlan)))
    (zm_NoRow : PySem.W.nsIn K mainGlobals "NoRow" = some (some (.ref c_NoRow)))
    (zm_NoStand : PySem.W.nsIn K mainGlobals "NoStand" = some (some (.ref c_NoStand)))
    (zm_NoStandIn : PySem.W.nsIn K mainGlobals "NoStandIn" = some (some (.ref c_NoStandIn)))
    (zm_NoStep : PySem.W.nsIn K mainGlobals "NoStep" = some (some (.ref c_NoStep)))
    (zm_StoveError : PySem.W.nsIn K mainGlobals "StoveError" = some (some (.ref c_StoveError)))
    (zm_TooFew : PySem.W.nsIn K mainGlobals "TooFew" = some (some (.ref c_TooFew)))
    (zm_TooMany : PySem.W.nsIn K mainGlobals "TooMany" = some (some (.ref c_TooMany)))
    (zm_Twice : PySem.W.nsIn K mainGlobals "Twice" = some (some (.ref c_Twice)))
    (zt_StoveError : XT K c_StoveError)
    (zs_NoPack_StoveError : PySem.W.subIn K (.ref c_NoPack) (.ref c_StoveError) = some true)
    (zs_NoRow_StoveError : PySem.W.subIn K (.ref c_NoRow) (.ref c_StoveError) = some true)
    (zs_TooFew_StoveError : PySem.W.subIn K (.ref c_TooFew) (.ref c_StoveError) = some true)
    (zs_NoDish_StoveError : PySem.W.subIn K (.ref c_NoDish) (.ref c_StoveError) = some true)
    (zx_NoNumber : PySem.W.excIn K c_NoNumber bmV "ValueError.__new__" = true)
    (zkp_NoNumber : PySem.W.keepIn K (.ref c_NoNumber) = true)
    (zx_NoAmount : PySem.W.excIn K c_NoAmount bmV "ValueError.__new__" = true)
    (zkp_NoAmount : PySem.W.keepIn K (.ref c_NoAmount) = true)
    (zx_NoName : PySem.W.excIn K c_NoName bmV "ValueError.__new__" = true)
    (zkp_NoName : PySem.W.keepIn K (.ref c_NoName) = true)
    (zx_NoStand : PySem.W.excIn K c_NoStand bmV "ValueError.__new__" = true)
    (zkp_NoStand : PySem.W.keepIn K (.ref c_NoStand) = true)
    (zx_TooMany : PySem.W.excIn K c_TooMany bmV "ValueError.__new__" = true)
    (zkp_TooMany : PySem.W.keepIn K (.ref c_TooMany) = true)
    (zx_NoNet : PySem.W.excIn K c_NoNet bmV "ValueError.__new__" = true)
    (zkp_NoNet : PySem.W.keepIn K (.ref c_NoNet) = true)
    (zx_NoPlan : PySem.W.excIn K c_NoPlan bmV "ValueError.__new__" = true)
    (zkp_NoPlan : PySem.W.keepIn K (.ref c_NoPlan) = true)
    (zx_EmptyHeap : PySem.W.excIn K c_EmptyHeap bmV "ValueError.__new__" = true)
    (zkp_EmptyHeap : PySem.W.keepIn K (.ref c_EmptyHeap) = true)
    (zi_NoNumber : XI K c_NoNumber)
    (zi_NoAmount : XI K c_NoAmount)
    (zi_NoName : XI K c_NoName)
    (zi_NoStand : XI K c_NoStand)
    (zi_TooMany : XI K c_TooMany)
    (zi_NoNet : XI K c_NoNet)
    (zi_NoPlan : XI K c_NoPlan)
    (zi_EmptyHeap : XI K c_EmptyHeap)
    (zi_InRing : XI K c_InRing)
    (zi_NoStandIn : XI K c_NoStandIn)
    (zi_NoPack : XI K c_NoPack)
    (zi_NoRow : XI K c_NoRow)
    (zi_NoStep : XI K c_NoStep)
    (zi_Twice : XI K c_Twice)
    (zi_TooFew : XI K c_TooFew)
    (zi_NoDish : XI K c_NoDish)
    (za_InRing : XA K c_InRing c_StoveError)
    (zn_InRing : PySem.W.findIn K (.ref c_InRing) "ring" = some none)
    (za_NoStandIn : XA K c_NoStandIn c_StoveError)
    (zn_NoStandIn : PySem.W.findIn K (.ref c_NoStandIn) "good" = some none)
    (za_NoPack : XA K c_NoPack c_StoveError)
    (zn_NoPack : PySem.W.findIn K (.ref c_NoPack) "good" = some none)
    (za_NoRow : XA K c_NoRow c_StoveError)
    (zn_NoRow : PySem.W.findIn K (.ref c_NoRow) "at" = some none)
    (za_NoStep : XA K c_NoStep c_StoveError)
    (zn_NoStep : PySem.W.findIn K (.ref c_NoStep) "at" = some none)
    (za_Twice : XA K c_Twice c_StoveError)
    (zn_Twice : PySem.W.findIn K (.ref c_Twice) "at" = some none)
    (za_TooFew : XA K c_TooFew c_StoveError)
    (zn_TooFew : PySem.W.findIn K (.ref c_TooFew) "tool" = some none)
    (za_NoDish : XA K c_NoDish c_StoveError)
    (zn_NoDish : PySem.W.findIn K (.ref c_NoDish) "dish" = some none)
    (zkits : kitAll K [c_NoNumber, c_NoAmount, c_NoName, c_NoStand, c_TooMany, c_NoNet, c_NoPlan, c_EmptyHeap, c_InRing, c_NoStandIn, c_NoPack, c_NoRow, c_NoStep, c_Twice, c_TooFew, c_NoDish] c_StoveError = true)
    (ci_InRing : XCi K c_InRing f_InRing)
    (l_InRing : K.lookup f_InRing = some ⟨oc_InRing, od_InRing, .func (PySem.W.fnOf "__init__" "InRing.__init__" (defArgs s_InRing) (defBody s_InRing) (defScope s_InRing) .none kV_InRing dc_InRing pm_InRing an_InRing cd_InRing ct_InRing), sl_InRing⟩) (cc_InRing : PySem.W.codeIn K cd_InRing "InRing.__init__" = true) (k_InRing : PySem.W.keepIn K (.ref f_InRing) = true)
    (ci_NoStandIn : XCi K c_NoStandIn f_NoStandIn)
    (l_NoStandIn : K.lookup f_NoStandIn = some ⟨oc_NoStandIn, od_NoStandIn, .func (PySem.W.fnOf "__init__" "NoStandIn.__init__" (defArgs s_NoStandIn) (defBody s_NoStandIn) (defScope s_NoStandIn) .none kV_NoStandIn dc_NoStandIn pm_NoStandIn an_NoStandIn cd_NoStandIn ct_NoStandIn), sl_NoStandIn⟩) (cc_NoStandIn : PySem.W.codeIn K cd_NoStandIn "NoStandIn.__init__" = true) (k_NoStandIn : PySem.W.keepIn K (.ref f_NoStandIn) = true)
    (ci_NoPack : XCi K c_NoPack f_NoPack)
    (l_NoPack : K.lookup f_NoPack = some ⟨oc_NoPack, od_NoPack, .func (PySem.W.fnOf "__init__" "NoPack.__init__" (defArgs s_NoPack) (defBody s_NoPack) (defScope s_NoPack) .none kV_NoPack dc_NoPack pm_NoPack an_NoPack cd_NoPack ct_NoPack), sl_NoPack⟩) (cc_NoPack : PySem.W.codeIn K cd_NoPack "NoPack.__init__" = true) (k_NoPack : PySem.W.keepIn K (.ref f_NoPack) = true)
    (ci_NoRow : XCi K c_NoRow f_NoRow)
    (l_NoRow : K.lookup f_NoRow = some ⟨oc_NoRow, od_NoRow, .func (PySem.W.fnOf "__init__" "NoRow.__init__" (defArgs s_NoRow) (defBody s_NoRow) (defScope s_NoRow) .none kV_NoRow dc_NoRow pm_NoRow an_NoRow cd_NoRow ct_NoRow), sl_NoRow⟩) (cc_NoRow : PySem.W.codeIn K cd_NoRow "NoRow.__init__" = true) (k_NoRow : PySem.W.keepIn K (.ref f_NoRow) = true)
    (ci_NoStep : XCi K c_NoStep f_NoStep)
    (l_NoStep : K.lookup f_NoStep = some ⟨oc_NoStep, od_NoStep, .func (PySem.W.fnOf "__init__" "NoStep.__init__" (defArgs s_NoStep) (defBody s_NoStep) (defScope s_NoStep) .none kV_NoStep dc_NoStep pm_NoStep an_NoStep cd_NoStep ct_NoStep), sl_NoStep⟩) (cc_NoStep : PySem.W.codeIn K cd_NoStep "NoStep.__init__" = true) (k_NoStep : PySem.W.keepIn K (.ref f_NoStep) = true)
    (ci_Twice : XCi K c_Twice f_Twice)
    (l_Twice : K.lookup f_Twice = some ⟨oc_Twice, od_Twice, .func (PySem.W.fnOf "__init__" "Twice.__init__" (defArgs s_Twice) (defBody s_Twice) (defScope s_Twice) .none kV_Twice dc_Twice pm_Twice an_Twice cd_Twice ct_Twice), sl_Twice⟩) (cc_Twice : PySem.W.codeIn K cd_Twice "Twice.__init__" = true) (k_Twice : PySem.W.keepIn K (.ref f_Twice) = true)
    (ci_TooFew : XCi K c_TooFew f_TooFew)
    (l_TooFew : K.lookup f_TooFew = some ⟨oc_TooFew, od_TooFew, .func (PySem.W.fnOf "__init__" "TooFew.__init__" (defArgs s_TooFew) (defBody s_TooFew) (defScope s_TooFew) .none kV_TooFew dc_TooFew pm_TooFew an_TooFew cd_TooFew ct_TooFew), sl_TooFew⟩) (cc_TooFew : PySem.W.codeIn K cd_TooFew "TooFew.__init__" = true) (k_TooFew : PySem.W.keepIn K (.ref f_TooFew) = true)
    (ci_NoDish : XCi K c_NoDish f_NoDish)
    (l_NoDish : K.lookup f_NoDish = some ⟨oc_NoDish, od_NoDish, .func (PySem.W.fnOf "__init__" "NoDish.__init__" (defArgs s_NoDish) (defBody s_NoDish) (defScope s_NoDish) .none kV_NoDish dc_NoDish pm_NoDish an_NoDish cd_NoDish ct_NoDish), sl_NoDish⟩) (cc_NoDish : PySem.W.codeIn K cd_NoDish "NoDish.__init__" = true) (k_NoDish : PySem.W.keepIn K (.ref f_NoDish) = true)
    : ∃ fd : FuncData, (∀ (s : Shared) (v : Value), BindsTo s fd ⟨[v], []⟩ [("_law_script", v)]) ∧ ∀ base : Heap, K.In base → base.Ns mainGlobals mg → FnOk l.prog w K mg base CX0 4 fa fd ["_law_script"] (spLaw K) := by
  have e := hfa.symm.trans (PySem.W.mg_of X G alaw)
  cases e
  have B : Bn K mg c_EmptyHeap c_InRing c_NoAmount c_NoDish c_NoName c_NoNet c_NoNumber c_NoPack c_NoPlan c_NoRow c_NoStand c_NoStandIn c_NoStep c_StoveError c_TooFew c_TooMany c_Twice := ⟨PySem.W.mg_none_of X G zb_len, PySem.W.mg_none_of X G zb_isinstance, PySem.W.mg_none_of X G zb_bool, PySem.W.mg_none_of X G zb_list, PySem.W.mg_none_of X G zb_all, PySem.W.mg_none_of X G zb_range, PySem.W.mg_none_of X G zb_ValueError, PySem.W.mg_of X G zm_EmptyHeap, PySem.W.mg_of X G zm_InRing, PySem.W.mg_of X G zm_NoAmount, PySem.W.mg_of X G zm_NoDish, PySem.W.mg_of X G zm_NoName, PySem.W.mg_of X G zm_NoNet, PySem.W.mg_of X G zm_NoNumber, PySem.W.mg_of X G zm_NoPack, PySem.W.mg_of X G zm_NoPlan, PySem.W.mg_of X G zm_NoRow, PySem.W.mg_of X G zm_NoStand, PySem.W.mg_of X G zm_NoStandIn, PySem.W.mg_of X G zm_NoStep, PySem.W.mg_of X G zm_StoveError, PySem.W.mg_of X G zm_TooFew, PySem.W.mg_of X G zm_TooMany, PySem.W.mg_of X G zm_Twice, zt_StoveError, zs_NoPack_StoveError, zs_NoRow_StoveError, zs_TooFew_StoveError, zs_NoDish_StoveError, zx_NoNumber, zkp_NoNumber, zx_NoAmount, zkp_NoAmount, zx_NoName, zkp_NoName, zx_NoStand, zkp_NoStand, zx_TooMany, zkp_TooMany, zx_NoNet, zkp_NoNet, zx_NoPlan, zkp_NoPlan, zx_EmptyHeap, zkp_EmptyHeap, zi_NoNumber, zi_NoAmount, zi_NoName, zi_NoStand, zi_TooMany, zi_NoNet, zi_NoPlan, zi_EmptyHeap, zi_InRing, zi_NoStandIn, zi_NoPack, zi_NoRow, zi_NoStep, zi_Twice, zi_TooFew, zi_NoDish, za_InRing, zn_InRing, za_NoStandIn, zn_NoStandIn, za_NoPack, zn_NoPack, za_NoRow, zn_NoRow, za_NoStep, zn_NoStep, za_Twice, zn_Twice, za_TooFew, zn_TooFew, za_NoDish, zn_NoDish, zkits⟩
  have F_law_cell_at := funD_mk (st := s_law_cell_at) l_law_cell_at c_law_cell_at k_law_cell_at
  have F_law_name := funD_mk (st := s_law_name) l_law_name c_law_name k_law_name
  have F_law_kinds := funD_mk (st := s_law_kinds) l_law_kinds c_law_kinds k_law_kinds
  have F_law_bare := funD_mk (st := s_law_bare) l_law_bare c_law_bare k_law_bare
  have F_law_alone := funD_mk (st := s_law_alone) l_law_alone c_law_alone k_law_alone
  have F_law_raised := funD_mk (st := s_law_raised) l_law_raised c_law_raised k_law_raised
  have Flaw := funD_mk (st := slaw) llaw claw klaw
  have F_InRing := funD_mk (st := s_InRing) l_InRing cc_InRing k_InRing
  have F_NoStandIn := funD_mk (st := s_NoStandIn) l_NoStandIn cc_NoStandIn k_NoStandIn
  have F_NoPack := funD_mk (st := s_NoPack) l_NoPack cc_NoPack k_NoPack
  have F_NoRow := funD_mk (st := s_NoRow) l_NoRow cc_NoRow k_NoRow
  have F_NoStep := funD_mk (st := s_NoStep) l_NoStep cc_NoStep k_NoStep
  have F_Twice := funD_mk (st := s_Twice) l_Twice cc_Twice k_Twice
  have F_TooFew := funD_mk (st := s_TooFew) l_TooFew cc_TooFew k_TooFew
  have F_NoDish := funD_mk (st := s_NoDish) l_NoDish cc_NoDish k_NoDish
  refine ⟨PySem.W.fnOf "law" "law" (defArgs slaw) (defBody slaw) (defScope slaw) .none kVlaw dclaw pmlaw anlaw cdlaw ctlaw, ?bind, fun base _ _ => ?ok⟩
  case bind => exact fun s v => .of_eq rfl
  case ok =>
    have I_InRing : DxI l.prog w K mg base 1 c_InRing ["self", "ring"] (spInit c_InRing "ring") := ⟨f_InRing, _, ok_InRing F_InRing B, ci_InRing, F_InRing.binds0 (ps := ["self", "ring"]) fun _ _ _ _ _ _ us hl => match us, hl with | [_, _], _ => rfl⟩
    have I_NoStandIn : DxI l.prog w K mg base 1 c_NoStandIn ["self", "good"] (spInit c_NoStandIn "good") := ⟨f_NoStandIn, _, ok_NoStandIn F_NoStandIn B, ci_NoStandIn, F_NoStandIn.binds0 (ps := ["self", "good"]) fun _ _ _ _ _ _ us hl => match us, hl with | [_, _], _ => rfl⟩
    have I_NoPack : DxI l.prog w K mg base 1 c_NoPack ["self", "good"] (spInit c_NoPack "good") := ⟨f_NoPack, _, ok_NoPack F_NoPack B, ci_NoPack, F_NoPack.binds0 (ps := ["self", "good"]) fun _ _ _ _ _ _ us hl => match us, hl with | [_, _], _ => rfl⟩
    have I_NoRow : DxI l.prog w K mg base 1 c_NoRow ["self", "at"] (spInit c_NoRow "at") := ⟨f_NoRow, _, ok_NoRow F_NoRow B, ci_NoRow, F_NoRow.binds0 (ps := ["self", "at"]) fun _ _ _ _ _ _ us hl => match us, hl with | [_, _], _ => rfl⟩
    have I_NoStep : DxI l.prog w K mg base 1 c_NoStep ["self", "at"] (spInit c_NoStep "at") := ⟨f_NoStep, _, ok_NoStep F_NoStep B, ci_NoStep, F_NoStep.binds0 (ps := ["self", "at"]) fun _ _ _ _ _ _ us hl => match us, hl with | [_, _], _ => rfl⟩
    have I_Twice : DxI l.prog w K mg base 1 c_Twice ["self", "at"] (spInit c_Twice "at") := ⟨f_Twice, _, ok_Twice F_Twice B, ci_Twice, F_Twice.binds0 (ps := ["self", "at"]) fun _ _ _ _ _ _ us hl => match us, hl with | [_, _], _ => rfl⟩
    have I_TooFew : DxI l.prog w K mg base 1 c_TooFew ["self", "tool"] (spInit c_TooFew "tool") := ⟨f_TooFew, _, ok_TooFew F_TooFew B, ci_TooFew, F_TooFew.binds0 (ps := ["self", "tool"]) fun _ _ _ _ _ _ us hl => match us, hl with | [_, _], _ => rfl⟩
    have I_NoDish : DxI l.prog w K mg base 1 c_NoDish ["self", "dish"] (spInit c_NoDish "dish") := ⟨f_NoDish, _, ok_NoDish F_NoDish B, ci_NoDish, F_NoDish.binds0 (ps := ["self", "dish"]) fun _ _ _ _ _ _ us hl => match us, hl with | [_, _], _ => rfl⟩
    have b_law_cell_at := F_law_cell_at.binds0 (ps := ["_law_script", "_law_k"]) fun _ _ _ _ _ _ us hl => match us, hl with | [_, _], _ => rfl
    have D_law_cell_at : Dx l.prog w K mg base CX0 1 "_law_cell_at" ["_law_script", "_law_k"] [] (spCell K) := ⟨f_law_cell_at, _, ok_law_cell_at F_law_cell_at B , PySem.W.mg_of X G a_law_cell_at, k_law_cell_at, b_law_cell_at, ⟨[], b_law_cell_at, .nil⟩⟩
    have b_law_name := F_law_name.binds0 (ps := ["_law_cell", "_law_k"]) fun _ _ _ _ _ _ us hl => match us, hl with | [_, _], _ => rfl
    have D_law_name : Dx l.prog w K mg base CX0 1 "_law_name" ["_law_cell", "_law_k"] [] spText := ⟨f_law_name, _, ok_law_name F_law_name B , PySem.W.mg_of X G a_law_name, k_law_name, b_law_name, ⟨[], b_law_name, .nil⟩⟩
    have b_law_kinds := F_law_kinds.binds0 (ps := ["_law_e"]) fun _ _ _ _ _ _ us hl => match us, hl with | [_], _ => rfl
    have H_law_kinds : ∀ hd, DxH hd l.prog w K mg base 1 "_law_kinds" ["_law_e"] (spKinds K [c_NoNumber, c_NoAmount, c_NoName, c_NoStand, c_TooMany, c_NoNet, c_NoPlan, c_EmptyHeap, c_InRing, c_NoStandIn, c_NoPack, c_NoRow, c_NoStep, c_Twice, c_TooFew, c_NoDish]) := fun hd => ⟨f_law_kinds, _, ok_law_kinds F_law_kinds B , PySem.W.mg_of X G a_law_kinds, k_law_kinds, b_law_kinds⟩
    have D_law_kinds : Dx l.prog w K mg base CX0 1 "_law_kinds" ["_law_e"] [] (spKinds K [c_NoNumber, c_NoAmount, c_NoName, c_NoStand, c_TooMany, c_NoNet, c_NoPlan, c_EmptyHeap, c_InRing, c_NoStandIn, c_NoPack, c_NoRow, c_NoStep, c_Twice, c_TooFew, c_NoDish]) := (H_law_kinds none).calm
    have b_law_bare := F_law_bare.binds0 (ps := ["_law_text"]) fun _ _ _ _ _ _ us hl => match us, hl with | [_], _ => rfl
    have D_law_bare : Dx l.prog w K mg base CX0 1 "_law_bare" ["_law_text"] [] (spBare [c_NoNumber, c_NoAmount, c_NoName, c_NoStand, c_TooMany, c_NoNet, c_NoPlan, c_EmptyHeap, c_InRing, c_NoStandIn, c_NoPack, c_NoRow, c_NoStep, c_Twice, c_TooFew, c_NoDish]) := ⟨f_law_bare, _, ok_law_bare F_law_bare B , PySem.W.mg_of X G a_law_bare, k_law_bare, b_law_bare, ⟨[], b_law_bare, .nil⟩⟩
    have b_law_alone := F_law_alone.binds0 (ps := ["_law_e", "_law_at"]) fun _ _ _ _ _ _ us hl => match us, hl with | [_, _], _ => rfl
    have H_law_alone : ∀ hd, DxH hd l.prog w K mg base 2 "_law_alone" ["_law_e", "_law_at"] (spAlone K [c_NoNumber, c_NoAmount, c_NoName, c_NoStand, c_TooMany, c_NoNet, c_NoPlan, c_EmptyHeap, c_InRing, c_NoStandIn, c_NoPack, c_NoRow, c_NoStep, c_Twice, c_TooFew, c_NoDish] hd) := fun hd => ⟨f_law_alone, _, ok_law_alone F_law_alone B H_law_kinds, PySem.W.mg_of X G a_law_alone, k_law_alone, b_law_alone⟩
    have D_law_alone : Dx l.prog w K mg base CX0 2 "_law_alone" ["_law_e", "_law_at"] [] (spAlone K [c_NoNumber, c_NoAmount, c_NoName, c_NoStand, c_TooMany, c_NoNet, c_NoPlan, c_EmptyHeap, c_InRing, c_NoStandIn, c_NoPack, c_NoRow, c_NoStep, c_Twice, c_TooFew, c_NoDish] none) := (H_law_alone none).calm
    have b_law_raised := F_law_raised.binds0 (ps := ["_law_kind", "_law_word", "_law_number"]) fun _ _ _ _ _ _ us hl => match us, hl with | [_, _, _], _ => rfl
    have D_law_raised : Dx l.prog w K mg base CX0 3 "_law_raised" ["_law_kind", "_law_word", "_law_number"] [] spRaised := ⟨f_law_raised, _, ok_law_raised F_law_raised B I_NoPack I_NoRow I_TooFew I_NoDish H_law_alone, PySem.W.mg_of X G a_law_raised, k_law_raised, b_law_raised, ⟨[], b_law_raised, .nil⟩⟩
    exact oklaw Flaw B D_law_cell_at D_law_name D_law_bare D_law_alone D_law_raised I_InRing I_NoStandIn I_NoPack I_NoRow I_NoStep I_Twice I_TooFew I_NoDish
theorem walk {l : PySem.W.OpenLaw} {q : Program} {loose : List Str} {XP : (Str → Option Value) → Heap → Prop} {YP : World → Heap → Prop} {d : DefRec} {K : Params → PySem.W.Frag} (hn : l.most = some 63) (hdf : d.params.defaults = [])
    (hY : ∀ (w : World) (h : Heap), YP w h → (K w.params).In h)
    (F : ∀ (w : World) (mg : Str → Option Value) (fa : Addr) (h : Heap), (K w.params).In h → h.Ns mainGlobals mg → mg d.name = some (.ref fa) →
      ∃ fd : FuncData, (∀ (s : Shared) (u : Value), BindsTo s fd ⟨[u], []⟩ [("_law_script", u)]) ∧ ∀ base : Heap, (K w.params).In base → base.Ns mainGlobals mg → FnOk l.prog w (K w.params) mg base CX0 4 fa fd ["_law_script"] (spLaw (K w.params))) :
    PySem.W.WalkO q loose XP YP l.row.toRowW d [] (fun f vs => PySem.call f vs) :=
  L2.walk_of (n := 63) (k := 4) (x := "_law_script") (CX := fun _ => CX0) (sp := fun w => spLaw (K w.params)) hn (by decide) hdf ⟨rfl, by decide, by decide⟩ hY F (fun _ _ a ns hl _ hS => ⟨a, ns, rfl, hS, hl, fun _ => rfl⟩) fun _ _ _ _ _ z => z
end Lk01
open PySem PySem.W PyProof.Rows
set_option maxRecDepth 100000 in
set_option maxHeartbeats 0 in
theorem PySem.Challenge.cw_stovework_k01_refusals_holds : PySem.Challenge.rw_stovework_k01_refusals.Holds := by
  w_on; o_law; k_head; (case hw => w_witness2)
  k_fill
  refine Lk01.walk (l := PySem.Challenge.rw_stovework_k01_refusals) rfl rfl (fun w h Y => PySem.W.kIn_of Y) ?F
  case F =>
    intro w mg fa h KX G hmg
    refine' Lk01.all_mk KX G hmg ?h0 ?h1 ?h2 ?h3 ?h4 ?h5 ?h6 ?h7 ?h8 ?h9 ?h10 ?h11 ?h12 ?h13 ?h14 ?h15 ?h16 ?h17 ?h18 ?h19 ?h20 ?h21 ?h22 ?h23 ?h24 ?h25 ?h26 ?h27 ?h28 ?h29 ?h30 ?h31 ?h32 ?h33 ?h34 ?h35 ?h36 ?h37 ?h38 ?h39 ?h40 ?h41 ?h42 ?h43 ?h44 ?h45 ?h46 ?h47 ?h48 ?h49 ?h50 ?h51 ?h52 ?h53 ?h54 ?h55 ?h56 ?h57 ?h58 ?h59 ?h60 ?h61 ?h62 ?h63 ?h64 ?h65 ?h66 ?h67 ?h68 ?h69 ?h70 ?h71 ?h72 ?h73 ?h74 ?h75 ?h76 ?h77 ?h78 ?h79 ?h80 ?h81 ?h82 ?h83 ?h84 ?h85 ?h86 ?h87 ?h88 ?h89 ?h90 ?h91 ?h92 ?h93 ?h94 ?h95 ?h96 ?h97 ?h98 ?h99 ?h100 ?h101 ?h102 ?h103 ?h104 ?h105 ?h106 ?h107 ?h108 ?h109 ?h110 ?h111 ?h112 ?h113 ?h114 ?h115 ?h116 ?h117 ?h118 ?h119 ?h120 ?h121 ?h122 ?h123 ?h124 ?h125 ?h126 ?h127 ?h128 ?h129 ?h130 ?h131 ?h132 ?h133 ?h134 ?h135 ?h136 ?h137
    (case h0 => k_is)
    (case h1 => k_is)
    (case h2 => k_is)
    (case h3 => k_is)
    (case h4 => k_is)
    (case h5 => k_is)
    (case h6 => k_is)
    (case h7 => k_is)
    (case h8 => k_is)
    (case h9 => k_is)
    (case h10 => k_is)
    (case h11 => k_is)
    (case h12 => k_is)
    (case h13 => k_is)
    (case h14 => k_is)
    (case h15 => k_is)
    (case h16 => k_is)
    (case h17 => k_is)
    (case h18 => k_is)
    (case h19 => k_is)
    (case h20 => k_is)
    (case h21 => k_is)
    (case h22 => k_is)
    (case h23 => k_is)
    (case h24 => k_is)
    (case h25 => k_is)
    (case h26 => k_is)
    (case h27 => k_is)
    (case h28 => k_is)
    (case h29 => k_is)
    (case h30 => k_is)
    (case h31 => k_is)
    (case h32 => k_is)
    (case h33 => k_is)
    (case h34 => k_is)
    (case h35 => k_is)
    (case h36 => k_is)
    (case h37 => k_is)
    (case h38 => k_is)
    (case h39 => k_is)
    (case h40 => k_is)
    (case h41 => k_is)
    (case h42 => k_is)
    (case h43 => k_is)
    (case h44 => k_is)
    (case h45 => k_is)
    (case h46 => k_is)
    (case h47 => k_is)
    (case h48 => k_is)
    (case h49 => k_is)
    (case h50 => k_is)
    (case h51 => k_is)
    (case h52 => exact ⟨by k_is, by kernel_rfl, by k_is⟩)
    (case h53 => k_is)
    (case h54 => k_is)
    (case h55 => k_is)
    (case h56 => k_is)
    (case h57 => kernel_rfl)
    (case h58 => k_is)
    (case h59 => kernel_rfl)
    (case h60 => k_is)
    (case h61 => kernel_rfl)
    (case h62 => k_is)
    (case h63 => kernel_rfl)
    (case h64 => k_is)
    (case h65 => kernel_rfl)
    (case h66 => k_is)
    (case h67 => kernel_rfl)
    (case h68 => k_is)
    (case h69 => kernel_rfl)
    (case h70 => k_is)
    (case h71 => kernel_rfl)
    (case h72 => k_is)
    (case h73 => exact ⟨⟨by k_is, by k_is, by k_is⟩, by kernel_rfl, by k_is, by k_is, by k_is, by k_is⟩)
    (case h74 => exact ⟨⟨by k_is, by k_is, by k_is⟩, by kernel_rfl, by k_is, by k_is, by k_is, by k_is⟩)
    (case h75 => exact ⟨⟨by k_is, by k_is, by k_is⟩, by kernel_rfl, by k_is, by k_is, by k_is, by k_is⟩)
    (case h76 => exact ⟨⟨by k_is, by k_is, by k_is⟩, by kernel_rfl, by k_is, by k_is, by k_is, by k_is⟩)
    (case h77 => exact ⟨⟨by k_is, by k_is, by k_is⟩, by kernel_rfl, by k_is, by k_is, by k_is, by k_is⟩)
    (case h78 => exact ⟨⟨by k_is, by k_is, by k_is⟩, by kernel_rfl, by k_is, by k_is, by k_is, by k_is⟩)
    (case h79 => exact ⟨⟨by k_is, by k_is, by k_is⟩, by kernel_rfl, by k_is, by k_is, by k_is, by k_is⟩)
    (case h80 => exact ⟨⟨by k_is, by k_is, by k_is⟩, by kernel_rfl, by k_is, by k_is, by k_is, by k_is⟩)
    (case h81 => exact ⟨⟨by k_is, by k_is, by k_is⟩, by kernel_rfl, by k_is, by k_is, by k_is, by k_is⟩)
    (case h82 => exact ⟨⟨by k_is, by k_is, by k_is⟩, by kernel_rfl, by k_is, by k_is, by k_is, by k_is⟩)
    (case h83 => exact ⟨⟨by k_is, by k_is, by k_is⟩, by kernel_rfl, by k_is, by k_is, by k_is, by k_is⟩)
    (case h84 => exact ⟨⟨by k_is, by k_is, by k_is⟩, by kernel_rfl, by k_is, by k_is, by k_is, by k_is⟩)
    (case h85 => exact ⟨⟨by k_is, by k_is, by k_is⟩, by kernel_rfl, by k_is, by k_is, by k_is, by k_is⟩)
    (case h86 => exact ⟨⟨by k_is, by k_is, by k_is⟩, by kernel_rfl, by k_is, by k_is, by k_is, by k_is⟩)
    (case h87 => exact ⟨⟨by k_is, by k_is, by k_is⟩, by kernel_rfl, by k_is, by k_is, by k_is, by k_is⟩)
    (case h88 => exact ⟨⟨by k_is, by k_is, by k_is⟩, by kernel_rfl, by k_is, by k_is, by k_is, by k_is⟩)
    (case h89 => exact ⟨by k_is, by kernel_rfl, by kernel_rfl, by k_is⟩)
    (case h90 => k_is)
    (case h91 => exact ⟨by k_is, by kernel_rfl, by kernel_rfl, by k_is⟩)
    (case h92 => k_is)
    (case h93 => exact ⟨by k_is, by kernel_rfl, by kernel_rfl, by k_is⟩)
    (case h94 => k_is)
    (case h95 => exact ⟨by k_is, by kernel_rfl, by kernel_rfl, by k_is⟩)
    (case h96 => k_is)
    (case h97 => exact ⟨by k_is, by kernel_rfl, by kernel_rfl, by k_is⟩)
    (case h98 => k_is)
    (case h99 => exact ⟨by k_is, by kernel_rfl, by kernel_rfl, by k_is⟩)
    (case h100 => k_is)
    (case h101 => exact ⟨by k_is, by kernel_rfl, by kernel_rfl, by k_is⟩)
    (case h102 => k_is)
    (case h103 => exact ⟨by k_is, by kernel_rfl, by kernel_rfl, by k_is⟩)
    (case h104 => k_is)
    (case h105 => kernel_rfl)
    (case h106 => exact ⟨⟨_, _, _, _, _, _, _, _, _, _, _, _, _, _, _, _, by k_is, by kernel_rfl, by k_is, by kernel_rfl⟩, by k_is, by k_is⟩)
    (case h107 => k_is)
    (case h108 => k_is)
    (case h109 => k_is)
    (case h110 => exact ⟨⟨_, _, _, _, _, _, _, _, _, _, _, _, _, _, _, _, by k_is, by kernel_rfl, by k_is, by kernel_rfl⟩, by k_is, by k_is⟩)
    (case h111 => k_is)
    (case h112 => k_is)
    (case h113 => k_is)
    (case h114 => exact ⟨⟨_, _, _, _, _, _, _, _, _, _, _, _, _, _, _, _, by k_is, by kernel_rfl, by k_is, by kernel_rfl⟩, by k_is, by k_is⟩)
    (case h115 => k_is)
    (case h116 => k_is)
    (case h117 => k_is)
    (case h118 => exact ⟨⟨_, _, _, _, _, _, _, _, _, _, _, _, _, _, _, _, by k_is, by kernel_rfl, by k_is, by kernel_rfl⟩, by k_is, by k_is⟩)
    (case h119 => k_is)
    (case h120 => k_is)
    (case h121 => k_is)
    (case h122 => exact ⟨⟨_, _, _, _, _, _, _, _, _, _, _, _, _, _, _, _, by k_is, by kernel_rfl, by k_is, by kernel_rfl⟩, by k_is, by k_is⟩)
    (case h123 => k_is)
    (case h124 => k_is)
    (case h125 => k_is)
    (case h126 => exact ⟨⟨_, _, _, _, _, _, _, _, _, _, _, _, _, _, _, _, by k_is, by kernel_rfl, by k_is, by kernel_rfl⟩, by k_is, by k_is⟩)
    (case h127 => k_is)
    (case h128 => k_is)
    (case h129 => k_is)
    (case h130 => exact ⟨⟨_, _, _, _, _, _, _, _, _, _, _, _, _, _, _, _, by k_is, by kernel_rfl, by k_is, by kernel_rfl⟩, by k_is, by k_is⟩)
    (case h131 => k_is)
    (case h132 => k_is)
    (case h133 => k_is)
    (case h134 => exact ⟨⟨_, _, _, _, _, _, _, _, _, _, _, _, _, _, _, _, by k_is, by kernel_rfl, by k_is, by kernel_rfl⟩, by k_is, by k_is⟩)
    (case h135 => k_is)
    (case h136 => k_is)
    (case h137 => k_is)
